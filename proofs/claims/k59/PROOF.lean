import PyProof.Rows.All
import Wide.All
import OpenK.AllK
import Wide.FinOn
import HandS.ForMost
import HandS.Wide
import HandS.Deep
import HandS.IsInst
import HandS.Strs
import HandS.Codes
import HandS.Gcd
import KE.SortData
import KE.DataMinMax
import HandS.SetFor
import HandS.Zip
import HandS.WideBits
import HandS.Style
import PySem.Challenge.RW_darkpace_k59_whole_led_back_twice
set_option Elab.async false
set_option linter.all false
set_option maxRecDepth 100000
set_option exponentiation.threshold 3000
set_option maxHeartbeats 16000000
/-! Rules of our own: data under a growing heap, sorted and max and min of data, set of ints, a written dict's item, a method called with a keyword. -/
namespace DP
open PySem PySem.Spec PyProof.Rows L2

theorem rooms {A : Around} {k : Nat} (hr : Room k A) : A.units + 65 < cLine := by have := hr.un; omega

theorem Same.rd {H H' : Hp} {a : Addr} {u : HO} (S : Same H H') (h : Rd H a u) : Rd H' a u := by
  rcases h with h | ⟨o, h⟩
  · exact Or.inl (S _ _ h)
  · exact Or.inr ⟨o, S _ _ h⟩
theorem Same.sqT {K : PySem.W.Frag} {H H' : Hp} {a : Addr} {xs : List V} (S : Same H H') (h : SqT K H a xs) : SqT K H' a xs := by
  rcases h with h | h
  · exact Or.inl (Same.rd S h)
  · exact Or.inr h
theorem Same.sqL {K : PySem.W.Frag} {H H' : Hp} {a : Addr} {xs : List V} (S : Same H H') (h : SqL K H a xs) : SqL K H' a xs := by
  rcases h with h | h
  · exact Or.inl (Same.rd S h)
  · exact Or.inr h
mutual
theorem dp_mono {K : PySem.W.Frag} {H H' : Hp} (S : Same H H') : ∀ (d : PyData) (v : V), Dp K H v d → Dp K H' v d
  | .none, _, h => by cases h; exact .non
  | .bool b, _, h => by cases h; exact .bl _
  | .int b, _, h => by cases h; exact .int _
  | .str b, _, h => by cases h; exact .str _
  | .list ds, _, h => by
    cases h with
    | lst s a => exact .lst (Same.sqL S s) (dpAll_mono S ds _ a)
  | .tuple ds, _, h => by
    cases h with
    | tup s a => exact .tup (Same.sqT S s) (dpAll_mono S ds _ a)
  | .dict _, _, h => by cases h
theorem dpAll_mono {K : PySem.W.Frag} {H H' : Hp} (S : Same H H') : ∀ (ds : List PyData) (vs : List V), DpAll K H vs ds → DpAll K H' vs ds
  | [], _, h => by cases h; exact .nil
  | d :: ds, _, h => by
    cases h with
    | cons a b => exact .cons (dp_mono S d _ a) (dpAll_mono S ds _ b)
end
section
variable {K : PySem.W.Frag} {H : Hp}
theorem dpAll_len : ∀ {vs : List V} {ds : List PyData}, DpAll K H vs ds → vs.length = ds.length
  | _, _, .nil => rfl
  | _, _, .cons _ t => by rw [List.length_cons, List.length_cons, dpAll_len t]
theorem dpAll_get : ∀ {vs : List V} {ds : List PyData} {i : Nat} {v : V}, DpAll K H vs ds → vs[i]? = some v → ∃ d, ds[i]? = some d ∧ Dp K H v d
  | _, _, _, _, .nil, e => by simp at e
  | _, _, 0, _, .cons r _, e => by simp at e; subst e; exact ⟨_, rfl, r⟩
  | _, _, i + 1, v, .cons _ t, e => by
    obtain ⟨d, h1, h2⟩ := dpAll_get (i := i) (v := v) t (by simpa using e)
    exact ⟨d, by simpa using h1, h2⟩
theorem dpAll_get' : ∀ {vs : List V} {ds : List PyData} {i : Nat} {d : PyData}, DpAll K H vs ds → ds[i]? = some d → ∃ v, vs[i]? = some v ∧ Dp K H v d
  | _, _, _, _, .nil, e => by simp at e
  | _, _, 0, _, .cons r _, e => by simp at e; subst e; exact ⟨_, rfl, r⟩
  | _, _, i + 1, v, .cons _ t, e => by
    obtain ⟨d, h1, h2⟩ := dpAll_get' (i := i) (d := v) t (by simpa using e)
    exact ⟨d, by simpa using h1, h2⟩
theorem dpAll_snoc : ∀ {vs : List V} {ds : List PyData} {v : V} {d : PyData}, DpAll K H vs ds → Dp K H v d → DpAll K H (vs ++ [v]) (ds ++ [d])
  | _, _, _, _, .nil, r => .cons r .nil
  | _, _, _, _, .cons q t, r => .cons q (dpAll_snoc t r)
theorem dpAll_app : ∀ {vs ws : List V} {ds es : List PyData}, DpAll K H vs ds → DpAll K H ws es → DpAll K H (vs ++ ws) (ds ++ es)
  | _, _, _, _, .nil, r => r
  | _, _, _, _, .cons q t, r => .cons q (dpAll_app t r)
theorem dpAll_ints : ∀ ns : List Int, DpAll K H (ns.map V.int) (ns.map PyData.int)
  | [] => .nil
  | n :: ns => .cons (.int n) (dpAll_ints ns)
theorem dpAll_int : ∀ {vs : List V} {ns : List Int}, DpAll K H vs (ns.map PyData.int) → vs = ns.map V.int
  | _, [], h => by cases h; rfl
  | _, n :: ns, h => by
    have h' : DpAll K H _ (PyData.int n :: ns.map PyData.int) := h
    cases h' with
    | cons a b =>
      cases a
      rw [dpAll_int b]; rfl
theorem same_upd {H : Hp} {p : Addr} {o : HO} (h : H p = none) : Same H (upd H p o) := fun b u e => by rw [upd_ne (ne_of_none e h)]; exact e
end

section
variable {X : Cx}
/-- sorted(xs): xs a list of alike data, of any length; P is what is known of each -/
def rSortD (K : PySem.W.Frag) {β : Type} (enc : β → PyData) : List V → Hp → VK → Prop := fun vs H Q => ∃ (a : Addr) (xs : List V) (bs : List β), vs = [V.ref a] ∧ SqL K H a xs ∧ DpAll K H xs (bs.map enc) ∧
  PySem.W.AllAlike (bs.map enc) ∧ PySem.W.Sortable (bs.map enc) ∧ (∀ b ∈ bs, (enc b).depth ≤ 60) ∧
  ∀ (p : Addr) (ys : List V) H', H p = none → Same H H' → H' p = some (.lst ys) → DpAll K H' ys ((bs.mergeSort (PySem.W.dataLe false enc)).map enc) → Q (.ref p) H'
theorem each_vals {K : PySem.W.Frag} {H : Hp} {β : Type} {enc : β → PyData} : ∀ {xs : List V} {us : List Value} {bs : List β}, Vals xs us → DpAll K H xs (bs.map enc) → PySem.W.EachIs (fun u b => ∃ x, RelV x u ∧ Dp K H x (enc b)) us bs
  | _, _, [], r, d => by
    have d' : DpAll K H _ [] := d
    cases d'
    cases r
    exact .nil
  | _, _, b :: bs, r, d => by
    have d' : DpAll K H _ (enc b :: bs.map enc) := d
    cases d' with
    | cons d1 d2 =>
      cases r with
      | cons r1 r2 => exact .cons ⟨_, r1, d1⟩ (each_vals r2 d2)
theorem vals_each {K : PySem.W.Frag} {H : Hp} {β : Type} {enc : β → PyData} : ∀ {us : List Value} {bs : List β}, PySem.W.EachIs (fun u b => ∃ x, RelV x u ∧ Dp K H x (enc b)) us bs → ∃ xs, Vals xs us ∧ DpAll K H xs (bs.map enc)
  | _, _, .nil => ⟨[], .nil, .nil⟩
  | _, _, .cons ⟨x, r, d⟩ t => by
    obtain ⟨xs, h1, h2⟩ := vals_each t
    exact ⟨x :: xs, .cons r h1, .cons d h2⟩
theorem cr_sortD {β : Type} (enc : β → PyData) (hu : X.A.units + 65 < cLine) : CallR X (.builtin "sorted") (rSortD X.K enc) := by
  intro pins s σ H vs us Q I r h
  obtain ⟨a, xs, bs, rfl, hs, hd, hal, hk, hdep, q⟩ := h
  obtain ⟨its, rv, hl, hz⟩ := I.list hs
  rw [Vals.ref1 r]
  have hlen : its.length = bs.length := by rw [← rv.length, dpAll_len hd, List.length_map]
  have e := each_vals rv hd
  obtain ⟨as, ra⟩ := Dp.readsAll I _ _ _ hd rv
  refine PySem.W.sorted_data (enc := enc) (bs := bs) (vs := its) hl.isList e (PySem.W.readsAll_each enc ra) hal hk (by rw [← hlen, ← rv.length]; exact hz) (fun b hb => ?_) fun out ho eo => ?_
  · have := hdep b hb
    omega
  · obtain ⟨ys, h1, h2⟩ := vals_each eo
    obtain ⟨ep, he'⟩ := PyProof.Rows.sortedAll_at s.heap its (List.toArray out)
    have hn : H (s.heap.objs.size + 1) = none := I.hok.fresh (Nat.le_succ _)
    have hyl : ys.length ≤ sizeLine := by
      rw [h1.length, ho, ← hlen, ← rv.length]; exact hz
    refine ⟨.ref _, upd H (s.heap.objs.size + 1) (.lst ys), I.laid (t' := s.toks) (fun _ _ => PyProof.Rows.sortedAll_old) (Nat.le_succ _) ⟨hyl, out, ep, h1, he'⟩, rfl, q _ ys _ hn (same_upd hn) upd_same ?_⟩
    exact dpAll_mono (same_upd hn) _ _ h2

/-- max(xs), min(xs): xs a list of alike data -/
def rBestD (K : PySem.W.Frag) (best : PyData → List PyData → PyData) : List V → Hp → VK → Prop := fun vs H Q => ∃ (a : Addr) (xs : List V) (d : PyData) (ds : List PyData), vs = [V.ref a] ∧ SqL K H a xs ∧ DpAll K H xs (d :: ds) ∧
  PySem.W.AlikeAll (d :: ds) ∧ PyData.canLayAll0 (d :: ds) = true ∧ PyData.depthAll (d :: ds) ≤ 60 ∧
  ∀ (x : V), Dp K H x (best d ds) → Q x H
theorem best_end {pins : List (Addr × Obj)} {s : Shared} {σ : L2.St} {H : Hp} {Q : VK} (I : Inv X pins σ H s) {xs : List V} {its : List Value} {as : List Addr} {ds : List PyData} (rv : Vals xs its) (hd : DpAll X.K H xs ds) (ra : ReadsAll s.heap its ds as) (hc : PyData.canLayAll0 ds = true) {i : Nat} {v : Value} {h' : Heap} {tk : Nat} {bs : List Addr} {e : PyData} (hi : its.toArray[i]? = some v)
    (hr : Reads h' v e bs) (he : e.canLay0 = true) (hk : ∀ b o, s.heap.get? b = some o → h'.get? b = some o) (q : ∀ x, Dp X.K H x e → Q x H) : EP X pins σ Q v { heap := h', gens := s.gens, drawn := s.drawn, toks := tk, os := s.os } := by
  have hi' : its[i]? = some v := by simpa using hi
  have hlt : i < its.length := by
    rcases Nat.lt_or_ge i its.length with h | h
    · exact h
    · rw [List.getElem?_eq_none h] at hi'; cases hi'
  obtain ⟨x, hx⟩ : ∃ x, xs[i]? = some x := ⟨xs[i]'(by rw [rv.length]; exact hlt), List.getElem?_eq_getElem _⟩
  obtain ⟨u, hu, ru⟩ := rv.get hx
  have euv : u = v := Option.some.inj (hu.symm.trans hi')
  subst euv
  obtain ⟨d, hdi, hdx⟩ := dpAll_get hd hx
  obtain ⟨as', rx⟩ := Dp.reads I d x u hdx ru
  have rx' : Reads h' u d as' := PyProof.Rows.Reads.keeps hk rx
  have hcd : d.canLay0 = true := by
    have : ∀ (ds : List PyData) (i : Nat), PyData.canLayAll0 ds = true → ds[i]? = some d → d.canLay0 = true := by
      intro ds
      induction ds with
      | nil => intro i _ h; simp at h
      | cons a r ih =>
        intro i h1 h2
        rw [PyData.canLayAll0, Bool.and_eq_true] at h1
        cases i with
        | zero => simp at h2; rw [← h2]; exact h1.1
        | succ i => exact ih i h1.2 (by simpa using h2)
    exact this ds i hc hdi
  have e1 := SeqAt.readOf_eq hcd rx'
  have e2 := SeqAt.readOf_eq he hr
  have ed : d = e := e1.symm.trans e2
  subst ed
  exact ⟨x, H, I.kept hk, ru, q x hdx⟩
theorem canLay_fold (f : PyData → PyData → Bool) : ∀ (ds : List PyData) (d : PyData), PyData.canLayAll0 (d :: ds) = true → (ds.foldl (fun a y => if f a y then y else a) d).canLay0 = true
  | [], d, h => by
    rw [PyData.canLayAll0, Bool.and_eq_true] at h
    exact h.1
  | e :: ds, d, h => by
    rw [PyData.canLayAll0, PyData.canLayAll0, Bool.and_eq_true, Bool.and_eq_true] at h
    rw [List.foldl_cons]
    refine canLay_fold f ds _ ?_
    rw [PyData.canLayAll0, Bool.and_eq_true]
    refine ⟨?_, h.2.2⟩
    split
    · exact h.2.1
    · exact h.1
theorem cr_maxD (hc : X.calm = true) (hu : X.A.units + 65 < cLine) : CallR X (.builtin "max") (rBestD X.K PySem.W.maxD) := by
  intro pins s σ H vs us Q I r h
  obtain ⟨a, xs, d, ds, rfl, hs, hd, hal, hl0, hdep, q⟩ := h
  obtain ⟨its, rv, hl, hz⟩ := I.list hs
  rw [Vals.ref1 r]
  obtain ⟨as, ra⟩ := Dp.readsAll I _ _ _ hd rv
  exact PySem.W.max_list_data (I.ok.hd hc) hl.isList (by simpa using ra) hal (by omega) fun i v h' tk bs hi hr hk => best_end I rv hd ra hl0 hi hr (canLay_fold _ ds d hl0) hk q
theorem cr_minD (hc : X.calm = true) (hu : X.A.units + 65 < cLine) : CallR X (.builtin "min") (rBestD X.K PySem.W.minD) := by
  intro pins s σ H vs us Q I r h
  obtain ⟨a, xs, d, ds, rfl, hs, hd, hal, hl0, hdep, q⟩ := h
  obtain ⟨its, rv, hl, hz⟩ := I.list hs
  rw [Vals.ref1 r]
  obtain ⟨as, ra⟩ := Dp.readsAll I _ _ _ hd rv
  exact PySem.W.min_list_data (I.ok.hd hc) hl.isList (by simpa using ra) hal (by omega) fun i v h' tk bs hi hr hk => best_end I rv hd ra hl0 hi hr (canLay_fold (fun a y => PySem.W.dataLt y a) ds d hl0) hk q
end
end DP
/-! set(xs) of a list of whole numbers, sorted then. -/
namespace DP
open PySem PySem.Spec PyProof.Rows L2
/-- a fresh set -/
abbrev newSet (w : World) : Obj := { cls := .type "set", dict := none, data := .set #[] 0 (.fresh 0 0 (!w.params.followText "set-order")) }
theorem set_of_ints {P : Program} {w : World} {A : Around} {E : Value → Shared → Prop} {s : Shared} {l : Addr} {items : Array Value} (ns : List Int) {Q : Value → Shared → Prop} (hh : A.handled = none) (hl : s.heap.IsList l items) (hit : IntsAre items.toList ns) (hb : ns.length + 1 < scanBound)
    (h : ∀ (h' : Heap) (tk c : Nat), SetR w h' s.heap.objs.size (fun j => decide (j ∈ ns)) c → c ≤ ns.length → (∀ b o, s.heap.get? b = some o → h'.get? b = some o) → Q (.ref s.heap.objs.size) { s with heap := h', toks := tk }) :
    wpAny (model P w) A (call (.type "set") [.ref l]) Q E s := by
  have hisz : items.size = ns.length := (Array.length_toList (xs := items)).symm.trans (IntsAre.length hit)
  have C := F.called_set
  obtain ⟨c, tl, hmro⟩ := C.mro
  have hmade := C.made; have hsub := C.sub
  refine wpAny_call (codeAny_of_tree ?_)
  show wpAny _ _ (callAny (.type "set") _) _ _ _
  refine wpAny_pure ⟨Code.quiet_builtin _ (by decide +kernel), codeAny_builtin F.entry_type_call ?_⟩
  rw [Around.under_plain (weight_type_call_type "set" [.ref l] []) rfl]
  have h1 := C.notType; have h2 := C.canCreate
  have hct := F.typeCall_set_1 (.ref l)
  repeat (any_goals (first | assumption | wp_step))
  refine codeAny_mono (code_set_led1 (.ref l) (E := E) (Q₁ := fun obj s₁ => obj = .ref s.heap.objs.size ∧ s₁ = { s with heap := s.heap.push (newSet w) }) ⟨rfl, rfl⟩) fun r s₁ hr => ?_
  cases r with
  | error e => exact hr
  | ok fl =>
  cases fl with
  | ret obj =>
    obtain ⟨rfl, rfl⟩ := hr
    have hS : (s.heap.push (newSet w)).get? s.heap.objs.size = some (newSet w) := Heap.get?_push_size _ rfl
    have hT : Shared.TypeIs { s with heap := s.heap.push (newSet w) } (.ref s.heap.objs.size) "set" := ⟨_, hS, rfl⟩
    have hli := C.init.lookup; have hbi := C.init.bind (.ref s.heap.objs.size)
    repeat (any_goals (first | assumption | wp_step))
    refine codeAny_mono (codeAny_call_builtin (R := wants (fun r s₂ => r = .none ∧ ∃ h' tk c, s₂ = { s with heap := h', toks := tk } ∧ SetR w h' s.heap.objs.size (fun j => decide (j ∈ ns)) c ∧ c ≤ ns.length ∧ ∀ b o, s.heap.get? b = some o → h'.get? b = some o) E) C.init.plain F.entry_set_init (check_set_init_1 hT ?_)) fun r₂ s₂ hr₂ => ?_
    · obtain ⟨⟨ocls, odict, odata, oslots⟩, hol, hcl, nl, hdl⟩ := hl
      simp only at hcl hdl
      subst hcl hdl
      have hol' : (s.heap.push (newSet w)).get? l = some { cls := .type "list", dict := odict, data := .seq items nl, slots := oslots } := Heap.get?_push_of_some _ hol
      have hsls := F.sub_list_set; have hslf := F.sub_list_frozenset
      have hne : (Value.type "list" == Value.type "dict") = false := by decide
      have hl1 : (s.heap.push (newSet w)).IsList l items := ⟨_, hol', rfl, nl, rfl⟩
      unfold Builtin.«set.__init__» noKeywords Builtin.Frozenset.updateFrom
      generalize hPI : pyIter = PI
      wp_walk
      subst hPI
      refine wpAny_pyIter_list hl1 (wpAny_bind (wpAny_runValue ?_))
      have hlS : l < s.heap.objs.size := Heap.lt_size hol
      have hh3 : A.in1.in1.in1.handled = none := by simp [hh]
      have hz : (s.heap.push (newSet w)).objs.size = s.heap.objs.size + 1 := Heap.size_push ..
      have hneI : l ≠ (s.heap.push (newSet w)).objs.size := by rw [hz]; exact Nat.ne_of_lt (Nat.lt_succ_of_lt hlS)
      have hSf : s.heap.objs.size ∉ [(s.heap.push (newSet w)).objs.size, l] := by
        rw [hz]; simp only [List.mem_cons, List.not_mem_nil, or_false, not_or]; exact ⟨Nat.ne_of_lt (Nat.lt_succ_self _), Nat.ne_of_gt hlS⟩
      have hval : ∀ (i : Nat) (v : Value), items[i]? = some v → ∃ k t, ns[i]? = some k ∧ v = .int k t := fun i v hv => by
        have hi : i < ns.length := hisz ▸ (Array.getElem?_eq_some_iff.mp hv).1
        obtain ⟨t, e⟩ := PyProof.Rows.IntsAre.int_at hit i v (by rw [Array.getElem?_toList]; exact hv)
        exact ⟨ns[i], t, List.getElem?_eq_getElem hi, by rw [e, List.getD_eq_getElem?_getD, List.getElem?_eq_getElem hi]; rfl⟩
      refine set_update_ints ((Walks.list hh3 _ l hneI items).toS) s.heap.objs.size hSf ns hisz hb hval (items.size - 0) 0 _ (by omega) (Nat.zero_le _) ⟨⟨_, Heap.get?_push_size _ rfl, rfl, rfl⟩, (hl1.push _)⟩ ?z0 ?zR
      case z0 => exact ⟨0, Nat.le_refl 0, setR_new_at (Heap.get?_push_of_some _ hS)⟩
      case zR =>
        intro s' c' hm hc' hS'
        obtain ⟨h', g2, d', tk', os'⟩ := s'
        have eg : g2 = s.gens := hm.gens
        have ed : d' = s.drawn := hm.drawn
        have eo : os' = s.os := hm.os
        subst eg ed eo
        rw [hisz] at hc'
        refine wpAny_pure (?_ : wpAny _ _ (ret Value.none) _ _ _)
        refine wpAny_pure ⟨rfl, h', tk', c', rfl, hS', hc', fun b o e => ?_⟩
        have hb0 : b < s.heap.objs.size := Heap.lt_size e
        refine hm.heap b o ?_ (Heap.get?_push_of_some _ (Heap.get?_push_of_some _ e))
        simp only [List.mem_cons, List.not_mem_nil, or_false, not_or]
        exact ⟨Nat.ne_of_lt hb0, by rw [hz]; exact Nat.ne_of_lt (Nat.lt_succ_of_lt hb0)⟩
    · cases r₂ with
      | error e => exact hr₂
      | ok fl₂ =>
      cases fl₂ with
      | ret r =>
        obtain ⟨rfl, h', tk, c', rfl, hS', hc', hk'⟩ := hr₂
        repeat (any_goals (first | assumption | wp_step))
        exact h _ _ _ hS' hc' hk'
      | _ => exact hr₂.elim
  | _ => exact hr.elim
section
variable {X : Cx}
/-- set(xs), xs a list of whole numbers -/
def rSetI (K : PySem.W.Frag) (w : World) : List V → Hp → VK → Prop := fun vs H Q => ∃ (l : Addr) (ns : List Int), vs = [V.ref l] ∧ SqL K H l (ns.map V.int) ∧ ns.length ≤ 60 ∧
  ∀ (a : Addr) (c : Nat), c ≤ ns.length → H a = none → Q (.ref a) (upd H a (SetO w a (fun j => decide (j ∈ ns)) c))
theorem cr_setI (hc : X.calm = true) : CallR X (.type "set") (rSetI X.K X.w) := by
  intro pins s σ H vs us Q I r h
  obtain ⟨l, ns, rfl, hs, hlen, q⟩ := h
  obtain ⟨its, rv, pl, hz⟩ := I.list hs
  rw [Vals.ref1 r]
  have hi : IntsAre its.toArray.toList ns := by simpa using rv.ints
  refine set_of_ints ns (I.ok.hd hc) pl.isList hi (by unfold scanBound; omega) fun h' tk c R hcl hk => ?_
  exact ⟨.ref _, upd H s.heap.objs.size (SetO X.w s.heap.objs.size (fun j => decide (j ∈ ns)) c), I.laid (t' := tk) hk (Nat.le_refl _) (setO_new R), rfl, q _ c hcl (I.hok.fresh (Nat.le_refl _))⟩
/-- d[k], d a written dict -/
theorem ix_kd {d : Addr} {es : Array DictEntry} {n : Nat} (D : KDict X.K X.w d es n) : IxR X (fun x y H Q => ∃ (z : Str) (u0 : Value) (v0 : V), x = .ref d ∧ y = .str z ∧ PySem.W.nsIn X.K d z = some (some u0) ∧ RelV v0 u0 ∧ Q v0 H) := by
  intro value slice pins s σ H x y v u Q I rx ry h hs
  obtain ⟨z, u0, v0, ex, ey, e, r, q⟩ := h
  subst ex ey
  cases rx
  obtain ⟨t, rfl⟩ := ry
  have fin : EP X pins σ Q u0 s := ⟨v0, H, I, r, q⟩
  exact subscriptTail_builtinR (x := u0) (kd_type D I) PySem.F.slot_dict_getitem.lookup
    (wpAny_getItem_of (PySem.strKind_is X.prog X.w z t) (PySem.W.mapOf_K (prog := X.prog) I.kIn D.at_ D.lit) (PySem.W.find_K D.at_ e) ⟨rfl, ⟨v0, H, I.tok _, r, q⟩⟩) hs
end
end DP
/-! The rules with the written part named, for comprehensions; a method called with keywords. -/
namespace DP
open PySem PySem.Spec PyProof.Rows L2
section
variable {X : Cx} {K : PySem.W.Frag}
theorem ixT (h : X.K = K := by rfl) : IxR X (rIxT K) := by subst h; exact ix_tup
theorem ixL (h : X.K = K := by rfl) : IxR X (rIxL K) := by subst h; exact ix_list
theorem inS (h : X.K = K := by rfl) : OpR X (compareOp .In) (rIn K false) := by subst h; exact op_in_seq
theorem notInS (h : X.K = K := by rfl) : OpR X (compareOp .NotIn) (rIn K true) := by subst h; exact op_notIn_seq
theorem eqDK (hu : X.A.units + 64 < cLine) (h : X.K = K := by rfl) : OpR X (compareOp .Eq) (rEqD K) := by subst h; exact op_eqD hu
theorem neDK (hu : X.A.units + 64 < cLine) (h : X.K = K := by rfl) : OpR X (compareOp .NotEq) (rNeD K) := by subst h; exact op_neD hu
theorem inDK (hu : X.A.units + 65 < cLine) (h : X.K = K := by rfl) : OpR X (compareOp .In) (rInD K) := by subst h; exact op_inD hu
theorem notInDK (hu : X.A.units + 65 < cLine) (h : X.K = K := by rfl) : OpR X (compareOp .NotIn) (rNotInD K) := by subst h; exact op_notInD hu
def rLenK (K : PySem.W.Frag) : List V → Hp → VK → Prop := fun xs H Q => ∃ p ys, xs = [V.ref p] ∧ (SqL K H p ys ∨ SqT K H p ys) ∧ Q (.int ys.length) H
theorem lenK (h : X.K = K := by rfl) : CallR X (.builtin "len") (rLenK K) := by subst h; exact call_len_seq
def rListK (K : PySem.W.Frag) : List V → Hp → VK → Prop := fun xs H Q => ∃ p ys, xs = [V.ref p] ∧ (SqL K H p ys ∨ SqT K H p ys) ∧ ∀ l, H l = none → Q (.ref l) (upd H l (.lst ys))
theorem listK (h : X.K = K := by rfl) : CallR X (.type "list") (rListK K) := by subst h; exact call_list_of
theorem maxK (hc : X.calm = true) (h : X.K = K := by rfl) : CallR X (.builtin "max") (rMax K) := by subst h; exact cr_max hc
theorem minK (hc : X.calm = true) (h : X.K = K := by rfl) : CallR X (.builtin "min") (rMin K) := by subst h; exact cr_min hc
theorem maxDK (hc : X.calm = true) (hu : X.A.units + 65 < cLine) (h : X.K = K := by rfl) : CallR X (.builtin "max") (rBestD K PySem.W.maxD) := by subst h; exact cr_maxD hc hu
theorem minDK (hc : X.calm = true) (hu : X.A.units + 65 < cLine) (h : X.K = K := by rfl) : CallR X (.builtin "min") (rBestD K PySem.W.minD) := by subst h; exact cr_minD hc hu
theorem sortK (h : X.K = K := by rfl) : CallR X (.builtin "sorted") (rSorted K) := by subst h; exact cr_sorted
theorem sortDK {β : Type} (enc : β → PyData) (hu : X.A.units + 65 < cLine) (h : X.K = K := by rfl) : CallR X (.builtin "sorted") (rSortD K enc) := by subst h; exact cr_sortD enc hu
theorem setIK {w : World} (hc : X.calm = true) (h : X.K = K := by rfl) (hw : X.w = w := by rfl) : CallR X (.type "set") (rSetI K w) := by subst h hw; exact cr_setI hc
theorem sortedSetK {w : World} (hc : X.calm = true) (hw : X.w = w := by rfl) : CallR X (.builtin "sorted") (rSortedSet w) := by subst hw; exact cr_sortedSet hc
theorem slL (h : X.K = K := by rfl) : SlR X (rSlL K) := by subst h; exact sl_list
theorem isiK (h : X.K = K := by rfl) : CallR X (.builtin "isinstance") (rIsi K) := by subst h; exact call_isi
theorem fldK {o : Expr} {ta : TE} {f : Str} {pos : Pos} (he : PE X o ta) (hb : attributeBase o f X.env (eval o X.env) = eval o X.env := by rfl) (h : X.K = K := by rfl) : PE X (.Attribute o f pos) (tFld K ta f) := by subst h; exact pe_fld he hb
theorem tupK {es : List Expr} {k : Nat} {t : TGs} {n : Nat} {pos : Pos} (hc : X.calm = true) (h1 : PGs X es t) (hn : (assignEach es X.env).length = n := by rfl) (hst : (assignEach es X.env).findIdx? (·.1) = none := by rfl) (h : X.K = K := by rfl) :
    PG X (.Tuple es k pos) (gTup K n t) := by subst h; exact pg_tup hc h1 hn hst
end
section
variable {X : Cx} {CX : CXT} {k : Nat} {f C : Addr} {fd : FuncData} {ps ks : List Str} {sp : Sp} {E : XK} {m : Str} {pos apos : Pos} {o : Expr} {kws : List Keyword} {ta : TE} {tk : TA} {g : List Value → List Value → List Value} {gV : List V → List V → List V}
/-- o.m(k = v, ..) -/
def tMethK (C : Addr) (m : Str) (sp : Sp) (gV : List V → List V → List V) (E : XK) (ta : TE) (tk : TA) : TE := fun σ H Q => ta σ H fun x H1 => ∃ a dx fs, x = .ref a ∧ H1 a = some (.ins C dx fs) ∧ fs.lookup m = none ∧ tk σ H1 fun zs H2 => sp (gV [.ref a] zs) H2 Q E
theorem pe_methK0 {pl : Sem Bool} (he : PE X o ta) (c : Cls X.K C) (hm : Meth X.K C m f) (F : FnOk X.prog X.w X.K X.mg X.base CX k f fd ps sp) (hr : Room k X.A) (hb : KBinds X.K fd ps ks g gV) (hx : Passes CX X E) (hkw : PK X kws tk)
    (hall : (backToKw pos (keywordEach kws X.env)).all (·.1.isSome) = true := by rfl) (hks : (backToKw pos (keywordEach kws X.env)).filterMap (·.1) = ks := by rfl)
    (hpl : ((backTo pos (starEach [] X.env)).any (·.1) || (backToKw pos (keywordEach kws X.env)).any (·.1.isNone)) = false := by rfl)
    (ht : eval (.Call (.Attribute o m apos) [] kws pos) X.env = (do
      let ov ← eval o X.env
      standAt apos.atName
      let (f, first) ← holding [ov] (getMethod ov m pl)
      callWith pos f first (backTo pos (starEach [] X.env)) (backToKw pos (keywordEach kws X.env))) := by rfl) :
    PE X (.Call (.Attribute o m apos) [] kws pos) (tMethK C m sp gV E ta tk) := by
  refine ⟨fun pins s σ H Q I h => ?_⟩
  refine PySem.W.methodCall_KW (pl := pl) (thn (he.run pins s σ H _ I h) fun u s1 ⟨x, H1, I1, rx, a, dx, fs, ex, ea, l, q⟩ => ?_) ht
  subst ex
  obtain rfl : u = Value.ref a := rx
  refine getmeth_ok I1 ea c hm l ?_
  refine PySem.W.callWith_KW0 (first := [.ref a]) (h₀ := X.base) I.ok.mod.kin hm.kp hall ?_ hpl
  refine thn (hkw.run pos pins s1 σ H1 _ I1 q) fun ws s2 ⟨zs, H2, I2, rz, q2⟩ => ⟨I2.kIn, ?_⟩
  rw [hks]
  exact run_fnk (us := [.ref a]) (vs := [.ref a]) F hr hb hx I2 (.cons rfl .nil) rz q2
end
/-- one positional value, one keyword -/
def g11 {α : Type} : List α → List α → List α
  | [a], [b] => [a, b]
  | _, _ => []
theorem g11_rel {vs : List V} {us : List Value} {zs : List V} {ws : List Value} (r : Vals vs us) (q : Vals zs ws) : Vals (g11 vs zs) (g11 us ws) := by
  cases r with
  | nil => exact .nil
  | cons a t =>
    cases t with
    | cons _ _ => exact .nil
    | nil =>
      cases q with
      | nil => exact .nil
      | cons b t =>
        cases t with
        | cons _ _ => exact .nil
        | nil => exact .cons a (.cons b .nil)
end DP
namespace KA
open PySem PySem.Spec PyProof.Rows L2 DP
def top (i : Nat) : Stmt := PySem.Challenge.pw_darkpace_k59_whole_led_back_twice.main.body.getD i (.Pass ⟨0, 0, 0, 0⟩)
abbrev slaw_tray : Stmt := top 29
abbrev N_law_tray : List Str := ["script", "fold", "great", "cell", "much"]
abbrev P_law_tray : List Str := ["script"]
theorem sclaw_tray : FnScope N_law_tray P_law_tray (defScope slaw_tray) := ⟨rfl, rfl, rfl, by decide +kernel, rfl, by decide +kernel, by decide +kernel⟩
abbrev slaw_draw : Stmt := top 30
abbrev N_law_draw : List Str := ["tray", "many", "found", "mixed"]
abbrev P_law_draw : List Str := ["tray", "many"]
theorem sclaw_draw : FnScope N_law_draw P_law_draw (defScope slaw_draw) := ⟨rfl, rfl, rfl, by decide +kernel, rfl, by decide +kernel, by decide +kernel⟩
abbrev slaw_great : Stmt := top 31
abbrev N_law_great : List Str := ["tray", "found", "k"]
abbrev P_law_great : List Str := ["tray"]
theorem sclaw_great : FnScope N_law_great P_law_great (defScope slaw_great) := ⟨rfl, rfl, rfl, by decide +kernel, rfl, by decide +kernel, by decide +kernel⟩
abbrev slaw_alike : Stmt := top 32
abbrev N_law_alike : List Str := ["found", "due", "k"]
abbrev P_law_alike : List Str := ["found", "due"]
theorem sclaw_alike : FnScope N_law_alike P_law_alike (defScope slaw_alike) := ⟨rfl, rfl, rfl, by decide +kernel, rfl, by decide +kernel, by decide +kernel⟩
abbrev slaw_length : Stmt := top 33
abbrev N_law_length : List Str := ["tray", "lot"]
abbrev P_law_length : List Str := ["tray"]
theorem sclaw_length : FnScope N_law_length P_law_length (defScope slaw_length) := ⟨rfl, rfl, rfl, by decide +kernel, rfl, by decide +kernel, by decide +kernel⟩
abbrev slaw_lead : Stmt := top 34
abbrev N_law_lead : List Str := ["size", "steps", "spot", "here", "there"]
abbrev P_law_lead : List Str := ["size", "steps", "spot"]
theorem sclaw_lead : FnScope N_law_lead P_law_lead (defScope slaw_lead) := ⟨rfl, rfl, rfl, by decide +kernel, rfl, by decide +kernel, by decide +kernel⟩
abbrev slaw_secret : Stmt := top 35
abbrev N_law_secret : List Str := ["tray", "size", "spots", "k", "rises", "spot", "lot", "base"]
abbrev P_law_secret : List Str := ["tray", "size"]
theorem sclaw_secret : FnScope N_law_secret P_law_secret (defScope slaw_secret) := ⟨rfl, rfl, rfl, by decide +kernel, rfl, by decide +kernel, by decide +kernel⟩
abbrev slaw_true_look : Stmt := top 36
abbrev N_law_true_look : List Str := ["tray", "size", "steps", "spot", "off", "said", "sign", "turn"]
abbrev P_law_true_look : List Str := ["tray", "size", "steps"]
theorem sclaw_true_look : FnScope N_law_true_look P_law_true_look (defScope slaw_true_look) := ⟨rfl, rfl, rfl, by decide +kernel, rfl, by decide +kernel, by decide +kernel⟩
abbrev slaw_known : Stmt := top 37
abbrev N_law_known : List Str := ["tray", "size", "most", "steps", "many", "turn"]
abbrev P_law_known : List Str := ["tray", "size", "most"]
theorem sclaw_known : FnScope N_law_known P_law_known (defScope slaw_known) := ⟨rfl, rfl, rfl, by decide +kernel, rfl, by decide +kernel, by decide +kernel⟩
abbrev slaw_made : Stmt := top 38
abbrev N_law_made : List Str := ["size", "known", "made", "look"]
abbrev P_law_made : List Str := ["size", "known"]
theorem sclaw_made : FnScope N_law_made P_law_made (defScope slaw_made) := ⟨rfl, rfl, rfl, by decide +kernel, rfl, by decide +kernel, by decide +kernel⟩
abbrev slaw_spot : Stmt := top 39
abbrev N_law_spot : List Str := ["tray", "size", "known", "lot", "spot"]
abbrev P_law_spot : List Str := ["tray", "size", "known"]
theorem sclaw_spot : FnScope N_law_spot P_law_spot (defScope slaw_spot) := ⟨rfl, rfl, rfl, by decide +kernel, rfl, by decide +kernel, by decide +kernel⟩
abbrev slaw_plus : Stmt := top 40
abbrev N_law_plus : List Str := ["there", "more"]
abbrev P_law_plus : List Str := ["there", "more"]
theorem sclaw_plus : FnScope N_law_plus P_law_plus (defScope slaw_plus) := ⟨rfl, rfl, rfl, by decide +kernel, rfl, by decide +kernel, by decide +kernel⟩
abbrev slaw_twice_right : Stmt := top 41
abbrev N_law_twice_right : List Str := ["tray", "size", "known", "made", "twice", "fourth", "turn", "spot", "some", "told", "there"]
abbrev P_law_twice_right : List Str := ["tray", "size", "known", "made"]
theorem sclaw_twice_right : FnScope N_law_twice_right P_law_twice_right (defScope slaw_twice_right) := ⟨rfl, rfl, rfl, by decide +kernel, rfl, by decide +kernel, by decide +kernel⟩
abbrev slaw_turned : Stmt := top 42
abbrev N_law_turned : List Str := ["pace"]
abbrev P_law_turned : List Str := ["pace"]
theorem sclaw_turned : FnScope N_law_turned P_law_turned (defScope slaw_turned) := ⟨rfl, rfl, rfl, by decide +kernel, rfl, by decide +kernel, by decide +kernel⟩
abbrev sside_looks : Stmt := top 12
abbrev N_side_looks : List Str := ["looks", "side", "words", "look"]
abbrev P_side_looks : List Str := ["looks", "side"]
theorem scside_looks : FnScope N_side_looks P_side_looks (defScope sside_looks) := ⟨rfl, rfl, rfl, by decide +kernel, rfl, by decide +kernel, by decide +kernel⟩
abbrev sround_looks : Stmt := top 13
abbrev N_round_looks : List Str := ["hands", "side", "hand"]
abbrev P_round_looks : List Str := ["hands", "side"]
theorem scround_looks : FnScope N_round_looks P_round_looks (defScope sround_looks) := ⟨rfl, rfl, rfl, by decide +kernel, rfl, by decide +kernel, by decide +kernel⟩
abbrev splace_by : Stmt := top 14
abbrev N_place_by : List Str := ["look", "side", "x", "length", "_", "start", "end"]
abbrev P_place_by : List Str := ["look", "side", "x", "length"]
theorem scplace_by : FnScope N_place_by P_place_by (defScope splace_by) := ⟨rfl, rfl, rfl, by decide +kernel, rfl, by decide +kernel, by decide +kernel⟩
abbrev sbest_step : Stmt := top 15
abbrev N_best_step : List Str := ["looks", "side", "x", "length", "steps", "look"]
abbrev P_best_step : List Str := ["looks", "side", "x", "length"]
theorem scbest_step : FnScope N_best_step P_best_step (defScope sbest_step) := ⟨rfl, rfl, rfl, by decide +kernel, rfl, by decide +kernel, by decide +kernel⟩
abbrev sWalk_init : Stmt := inClass (top 16) 0
abbrev N_Walk_init : List Str := ["self", "hands", "side", "x"]
abbrev P_Walk_init : List Str := ["self", "hands", "side", "x"]
theorem scWalk_init : FnScope N_Walk_init P_Walk_init (defScope sWalk_init) := ⟨rfl, rfl, rfl, by decide +kernel, rfl, by decide +kernel, by decide +kernel⟩
abbrev sWalkfollow : Stmt := inClass (top 16) 1
abbrev N_Walkfollow : List Str := ["self", "length", "known", "side", "seen", "uses", "number", "mark", "place", "look"]
abbrev P_Walkfollow : List Str := ["self", "length", "known", "side"]
theorem scWalkfollow : FnScope N_Walkfollow P_Walkfollow (defScope sWalkfollow) := ⟨rfl, rfl, rfl, by decide +kernel, rfl, by decide +kernel, by decide +kernel⟩
abbrev sWalk_period : Stmt := inClass (top 16) 2
abbrev N_Walk_period : List Str := ["self"]
abbrev P_Walk_period : List Str := ["self"]
theorem scWalk_period : FnScope N_Walk_period P_Walk_period (defScope sWalk_period) := ⟨rfl, rfl, rfl, by decide +kernel, rfl, by decide +kernel, by decide +kernel⟩
abbrev sWalk_climb : Stmt := inClass (top 16) 3
abbrev N_Walk_climb : List Str := ["self"]
abbrev P_Walk_climb : List Str := ["self"]
theorem scWalk_climb : FnScope N_Walk_climb P_Walk_climb (defScope sWalk_climb) := ⟨rfl, rfl, rfl, by decide +kernel, rfl, by decide +kernel, by decide +kernel⟩
abbrev scheck_round : Stmt := top 23
abbrev N_check_round : List Str := ["hands", "length", "number", "hand"]
abbrev P_check_round : List Str := ["hands"]
theorem sccheck_round : FnScope N_check_round P_check_round (defScope scheck_round) := ⟨rfl, rfl, rfl, by decide +kernel, rfl, by decide +kernel, by decide +kernel⟩
abbrev slowest : Stmt := top 25
abbrev N_lowest : List Str := ["top", "bottom", "shared"]
abbrev P_lowest : List Str := ["top", "bottom"]
theorem sclowest : FnScope N_lowest P_lowest (defScope slowest) := ⟨rfl, rfl, rfl, by decide +kernel, rfl, by decide +kernel, by decide +kernel⟩
abbrev sside_pace : Stmt := top 26
abbrev N_side_pace : List Str := ["hands", "side", "walk"]
abbrev P_side_pace : List Str := ["hands", "side"]
theorem scside_pace : FnScope N_side_pace P_side_pace (defScope sside_pace) := ⟨rfl, rfl, rfl, by decide +kernel, rfl, by decide +kernel, by decide +kernel⟩
abbrev spaces : Stmt := top 27
abbrev N_paces : List Str := ["hands"]
abbrev P_paces : List Str := ["hands"]
theorem scpaces : FnScope N_paces P_paces (defScope spaces) := ⟨rfl, rfl, rfl, by decide +kernel, rfl, by decide +kernel, by decide +kernel⟩
abbrev stoo_far : Stmt := top 19
abbrev N_too_far : List Str := ["low", "high", "length"]
abbrev P_too_far : List Str := ["low", "high", "length"]
theorem sctoo_far : FnScope N_too_far P_too_far (defScope stoo_far) := ⟨rfl, rfl, rfl, by decide +kernel, rfl, by decide +kernel, by decide +kernel⟩
abbrev sclash : Stmt := top 20
abbrev N_clash : List Str := ["look", "other", "length"]
abbrev P_clash : List Str := ["look", "other", "length"]
theorem scclash : FnScope N_clash P_clash (defScope sclash) := ⟨rfl, rfl, rfl, by decide +kernel, rfl, by decide +kernel, by decide +kernel⟩
abbrev sDark_init : Stmt := inClass (top 21) 0
abbrev N_Dark_init : List Str := ["self", "length"]
abbrev P_Dark_init : List Str := ["self", "length"]
theorem scDark_init : FnScope N_Dark_init P_Dark_init (defScope sDark_init) := ⟨rfl, rfl, rfl, by decide +kernel, rfl, by decide +kernel, by decide +kernel⟩
abbrev sDark_length : Stmt := inClass (top 21) 3
abbrev N_Dark_length : List Str := ["self"]
abbrev P_Dark_length : List Str := ["self"]
theorem scDark_length : FnScope N_Dark_length P_Dark_length (defScope sDark_length) := ⟨rfl, rfl, rfl, by decide +kernel, rfl, by decide +kernel, by decide +kernel⟩
abbrev sDark_hear : Stmt := inClass (top 21) 4
abbrev N_Dark_hear : List Str := ["self", "word", "x", "y", "look", "other"]
abbrev P_Dark_hear : List Str := ["self", "word", "x", "y"]
theorem scDark_hear : FnScope N_Dark_hear P_Dark_hear (defScope sDark_hear) := ⟨rfl, rfl, rfl, by decide +kernel, rfl, by decide +kernel, by decide +kernel⟩
abbrev sDark_looks : Stmt := inClass (top 21) 6
abbrev N_Dark_looks : List Str := ["self"]
abbrev P_Dark_looks : List Str := ["self"]
theorem scDark_looks : FnScope N_Dark_looks P_Dark_looks (defScope sDark_looks) := ⟨rfl, rfl, rfl, by decide +kernel, rfl, by decide +kernel, by decide +kernel⟩
abbrev sDark_least : Stmt := inClass (top 21) 7
abbrev N_Dark_least : List Str := ["self", "x"]
abbrev P_Dark_least : List Str := ["self", "x"]
theorem scDark_least : FnScope N_Dark_least P_Dark_least (defScope sDark_least) := ⟨rfl, rfl, rfl, by decide +kernel, rfl, by decide +kernel, by decide +kernel⟩
abbrev sDark_greatest : Stmt := inClass (top 21) 8
abbrev N_Dark_greatest : List Str := ["self", "x"]
abbrev P_Dark_greatest : List Str := ["self", "x"]
theorem scDark_greatest : FnScope N_Dark_greatest P_Dark_greatest (defScope sDark_greatest) := ⟨rfl, rfl, rfl, by decide +kernel, rfl, by decide +kernel, by decide +kernel⟩
abbrev sDark_led_back : Stmt := inClass (top 21) 11
abbrev N_Dark_led_back : List Str := ["self", "back", "word", "x", "y"]
abbrev P_Dark_led_back : List Str := ["self"]
theorem scDark_led_back : FnScope N_Dark_led_back P_Dark_led_back (defScope sDark_led_back) := ⟨rfl, rfl, rfl, by decide +kernel, rfl, by decide +kernel, by decide +kernel⟩
abbrev sDarkcheck_word : Stmt := inClass (top 21) 12
abbrev N_Darkcheck_word : List Str := ["self", "word"]
abbrev P_Darkcheck_word : List Str := ["self", "word"]
theorem scDarkcheck_word : FnScope N_Darkcheck_word P_Darkcheck_word (defScope sDarkcheck_word) := ⟨rfl, rfl, rfl, by decide +kernel, rfl, by decide +kernel, by decide +kernel⟩
abbrev sDarkhome : Stmt := inClass (top 21) 13
abbrev N_Darkhome : List Str := ["self", "word", "x", "y", "turns"]
abbrev P_Darkhome : List Str := ["self", "word", "x", "y"]
theorem scDarkhome : FnScope N_Darkhome P_Darkhome (defScope sDarkhome) := ⟨rfl, rfl, rfl, by decide +kernel, rfl, by decide +kernel, by decide +kernel⟩
abbrev sDarkclashing : Stmt := inClass (top 21) 14
abbrev N_Darkclashing : List Str := ["self", "look", "other"]
abbrev P_Darkclashing : List Str := ["self", "look"]
theorem scDarkclashing : FnScope N_Darkclashing P_Darkclashing (defScope sDarkclashing) := ⟨rfl, rfl, rfl, by decide +kernel, rfl, by decide +kernel, by decide +kernel⟩
abbrev sDarkbound : Stmt := inClass (top 21) 15
abbrev N_Darkbound : List Str := ["self", "side", "x", "step"]
abbrev P_Darkbound : List Str := ["self", "side", "x"]
theorem scDarkbound : FnScope N_Darkbound P_Darkbound (defScope sDarkbound) := ⟨rfl, rfl, rfl, by decide +kernel, rfl, by decide +kernel, by decide +kernel⟩
abbrev slaw : Stmt := top 43
abbrev N_law : List Str := ["script", "tray", "k", "size", "many", "rows", "turn", "made", "known", "one", "slow", "fast", "due"]
abbrev P_law : List Str := ["script"]
theorem sclaw : FnScope N_law P_law (defScope slaw) := ⟨rfl, rfl, rfl, by decide +kernel, rfl, by decide +kernel, by decide +kernel⟩
structure Ad where
  C : Addr
  C_Walk : Addr
  a_law_tray : Addr
  d_law_tray : FuncData
  a_law_draw : Addr
  d_law_draw : FuncData
  a_law_great : Addr
  d_law_great : FuncData
  a_law_alike : Addr
  d_law_alike : FuncData
  a_law_length : Addr
  d_law_length : FuncData
  a_law_lead : Addr
  d_law_lead : FuncData
  a_law_secret : Addr
  d_law_secret : FuncData
  a_law_true_look : Addr
  d_law_true_look : FuncData
  a_law_known : Addr
  d_law_known : FuncData
  a_law_made : Addr
  d_law_made : FuncData
  a_law_spot : Addr
  d_law_spot : FuncData
  a_law_plus : Addr
  d_law_plus : FuncData
  a_law_twice_right : Addr
  d_law_twice_right : FuncData
  a_law_turned : Addr
  d_law_turned : FuncData
  a_side_looks : Addr
  d_side_looks : FuncData
  a_round_looks : Addr
  d_round_looks : FuncData
  a_place_by : Addr
  d_place_by : FuncData
  a_best_step : Addr
  d_best_step : FuncData
  a_Walk_init : Addr
  d_Walk_init : FuncData
  a_Walkfollow : Addr
  d_Walkfollow : FuncData
  a_Walk_period : Addr
  d_Walk_period : FuncData
  a_Walk_climb : Addr
  d_Walk_climb : FuncData
  a_check_round : Addr
  d_check_round : FuncData
  a_lowest : Addr
  d_lowest : FuncData
  a_side_pace : Addr
  d_side_pace : FuncData
  a_paces : Addr
  d_paces : FuncData
  a_too_far : Addr
  d_too_far : FuncData
  a_clash : Addr
  d_clash : FuncData
  a_Dark_init : Addr
  d_Dark_init : FuncData
  a_Dark_length : Addr
  d_Dark_length : FuncData
  a_Dark_hear : Addr
  d_Dark_hear : FuncData
  a_Dark_looks : Addr
  d_Dark_looks : FuncData
  a_Dark_least : Addr
  d_Dark_least : FuncData
  a_Dark_greatest : Addr
  d_Dark_greatest : FuncData
  a_Dark_led_back : Addr
  d_Dark_led_back : FuncData
  a_Darkcheck_word : Addr
  d_Darkcheck_word : FuncData
  a_Darkhome : Addr
  d_Darkhome : FuncData
  a_Darkclashing : Addr
  d_Darkclashing : FuncData
  a_Darkbound : Addr
  d_Darkbound : FuncData
  a_law : Addr
  d_law : FuncData
  v_SLOW : Value
  v_FAST : Value
  a_WORDS : Addr
  a_LW : Addr
  t_slow : Addr
  t_fast : Addr
structure Tx (K : PySem.W.Frag) (w : World) (mg : Str → Option Value) (Z : Ad) : Prop where
  F_law_tray : Fun K "_law_tray" "_law_tray" slaw_tray Z.a_law_tray Z.d_law_tray
  bb_law_tray : Binds K Z.d_law_tray P_law_tray []
  g_law_tray : mg "_law_tray" = some (.ref Z.a_law_tray)
  F_law_draw : Fun K "_law_draw" "_law_draw" slaw_draw Z.a_law_draw Z.d_law_draw
  bb_law_draw : Binds K Z.d_law_draw P_law_draw []
  g_law_draw : mg "_law_draw" = some (.ref Z.a_law_draw)
  F_law_great : Fun K "_law_great" "_law_great" slaw_great Z.a_law_great Z.d_law_great
  bb_law_great : Binds K Z.d_law_great P_law_great []
  g_law_great : mg "_law_great" = some (.ref Z.a_law_great)
  F_law_alike : Fun K "_law_alike" "_law_alike" slaw_alike Z.a_law_alike Z.d_law_alike
  bb_law_alike : Binds K Z.d_law_alike P_law_alike []
  g_law_alike : mg "_law_alike" = some (.ref Z.a_law_alike)
  F_law_length : Fun K "_law_length" "_law_length" slaw_length Z.a_law_length Z.d_law_length
  bb_law_length : Binds K Z.d_law_length P_law_length []
  g_law_length : mg "_law_length" = some (.ref Z.a_law_length)
  F_law_lead : Fun K "_law_lead" "_law_lead" slaw_lead Z.a_law_lead Z.d_law_lead
  bb_law_lead : Binds K Z.d_law_lead P_law_lead []
  g_law_lead : mg "_law_lead" = some (.ref Z.a_law_lead)
  F_law_secret : Fun K "_law_secret" "_law_secret" slaw_secret Z.a_law_secret Z.d_law_secret
  bb_law_secret : Binds K Z.d_law_secret P_law_secret []
  g_law_secret : mg "_law_secret" = some (.ref Z.a_law_secret)
  F_law_true_look : Fun K "_law_true_look" "_law_true_look" slaw_true_look Z.a_law_true_look Z.d_law_true_look
  bb_law_true_look : Binds K Z.d_law_true_look P_law_true_look []
  g_law_true_look : mg "_law_true_look" = some (.ref Z.a_law_true_look)
  F_law_known : Fun K "_law_known" "_law_known" slaw_known Z.a_law_known Z.d_law_known
  bb_law_known : Binds K Z.d_law_known P_law_known []
  g_law_known : mg "_law_known" = some (.ref Z.a_law_known)
  F_law_made : Fun K "_law_made" "_law_made" slaw_made Z.a_law_made Z.d_law_made
  bb_law_made : Binds K Z.d_law_made P_law_made []
  g_law_made : mg "_law_made" = some (.ref Z.a_law_made)
  F_law_spot : Fun K "_law_spot" "_law_spot" slaw_spot Z.a_law_spot Z.d_law_spot
  bb_law_spot : Binds K Z.d_law_spot P_law_spot []
  g_law_spot : mg "_law_spot" = some (.ref Z.a_law_spot)
  F_law_plus : Fun K "_law_plus" "_law_plus" slaw_plus Z.a_law_plus Z.d_law_plus
  bb_law_plus : Binds K Z.d_law_plus P_law_plus []
  g_law_plus : mg "_law_plus" = some (.ref Z.a_law_plus)
  F_law_twice_right : Fun K "_law_twice_right" "_law_twice_right" slaw_twice_right Z.a_law_twice_right Z.d_law_twice_right
  bb_law_twice_right : Binds K Z.d_law_twice_right P_law_twice_right []
  g_law_twice_right : mg "_law_twice_right" = some (.ref Z.a_law_twice_right)
  F_law_turned : Fun K "_law_turned" "_law_turned" slaw_turned Z.a_law_turned Z.d_law_turned
  bb_law_turned : Binds K Z.d_law_turned P_law_turned []
  g_law_turned : mg "_law_turned" = some (.ref Z.a_law_turned)
  F_side_looks : Fun K "side_looks" "side_looks" sside_looks Z.a_side_looks Z.d_side_looks
  bb_side_looks : Binds K Z.d_side_looks P_side_looks []
  g_side_looks : mg "side_looks" = some (.ref Z.a_side_looks)
  F_round_looks : Fun K "round_looks" "round_looks" sround_looks Z.a_round_looks Z.d_round_looks
  bb_round_looks : Binds K Z.d_round_looks P_round_looks []
  g_round_looks : mg "round_looks" = some (.ref Z.a_round_looks)
  F_place_by : Fun K "place_by" "place_by" splace_by Z.a_place_by Z.d_place_by
  bb_place_by : Binds K Z.d_place_by P_place_by []
  g_place_by : mg "place_by" = some (.ref Z.a_place_by)
  F_best_step : Fun K "best_step" "best_step" sbest_step Z.a_best_step Z.d_best_step
  bb_best_step : Binds K Z.d_best_step P_best_step []
  g_best_step : mg "best_step" = some (.ref Z.a_best_step)
  F_Walk_init : Fun K "__init__" "Walk.__init__" sWalk_init Z.a_Walk_init Z.d_Walk_init
  bb_Walk_init : Binds K Z.d_Walk_init P_Walk_init []
  F_Walkfollow : Fun K "_follow" "Walk._follow" sWalkfollow Z.a_Walkfollow Z.d_Walkfollow
  bb_Walkfollow : Binds K Z.d_Walkfollow P_Walkfollow []
  m_Walkfollow : Meth K Z.C_Walk "_follow" Z.a_Walkfollow
  F_Walk_period : Fun K "period" "Walk.period" sWalk_period Z.a_Walk_period Z.d_Walk_period
  bb_Walk_period : Binds K Z.d_Walk_period P_Walk_period []
  m_Walk_period : Meth K Z.C_Walk "period" Z.a_Walk_period
  F_Walk_climb : Fun K "climb" "Walk.climb" sWalk_climb Z.a_Walk_climb Z.d_Walk_climb
  bb_Walk_climb : Binds K Z.d_Walk_climb P_Walk_climb []
  m_Walk_climb : Meth K Z.C_Walk "climb" Z.a_Walk_climb
  F_check_round : Fun K "check_round" "check_round" scheck_round Z.a_check_round Z.d_check_round
  bb_check_round : Binds K Z.d_check_round P_check_round []
  g_check_round : mg "check_round" = some (.ref Z.a_check_round)
  F_lowest : Fun K "lowest" "lowest" slowest Z.a_lowest Z.d_lowest
  bb_lowest : Binds K Z.d_lowest P_lowest []
  g_lowest : mg "lowest" = some (.ref Z.a_lowest)
  F_side_pace : Fun K "side_pace" "side_pace" sside_pace Z.a_side_pace Z.d_side_pace
  bb_side_pace : Binds K Z.d_side_pace P_side_pace []
  g_side_pace : mg "side_pace" = some (.ref Z.a_side_pace)
  F_paces : Fun K "paces" "paces" spaces Z.a_paces Z.d_paces
  bb_paces : Binds K Z.d_paces P_paces []
  g_paces : mg "paces" = some (.ref Z.a_paces)
  F_too_far : Fun K "too_far" "too_far" stoo_far Z.a_too_far Z.d_too_far
  bb_too_far : Binds K Z.d_too_far P_too_far []
  g_too_far : mg "too_far" = some (.ref Z.a_too_far)
  F_clash : Fun K "clash" "clash" sclash Z.a_clash Z.d_clash
  bb_clash : Binds K Z.d_clash P_clash []
  g_clash : mg "clash" = some (.ref Z.a_clash)
  F_Dark_init : Fun K "__init__" "Dark.__init__" sDark_init Z.a_Dark_init Z.d_Dark_init
  bb_Dark_init : Binds K Z.d_Dark_init P_Dark_init []
  F_Dark_length : Fun K "length" "Dark.length" sDark_length Z.a_Dark_length Z.d_Dark_length
  bb_Dark_length : Binds K Z.d_Dark_length P_Dark_length []
  m_Dark_length : Meth K Z.C "length" Z.a_Dark_length
  F_Dark_hear : Fun K "hear" "Dark.hear" sDark_hear Z.a_Dark_hear Z.d_Dark_hear
  bb_Dark_hear : Binds K Z.d_Dark_hear P_Dark_hear []
  m_Dark_hear : Meth K Z.C "hear" Z.a_Dark_hear
  F_Dark_looks : Fun K "looks" "Dark.looks" sDark_looks Z.a_Dark_looks Z.d_Dark_looks
  bb_Dark_looks : Binds K Z.d_Dark_looks P_Dark_looks []
  m_Dark_looks : Meth K Z.C "looks" Z.a_Dark_looks
  F_Dark_least : Fun K "least" "Dark.least" sDark_least Z.a_Dark_least Z.d_Dark_least
  bb_Dark_least : Binds K Z.d_Dark_least P_Dark_least []
  m_Dark_least : Meth K Z.C "least" Z.a_Dark_least
  F_Dark_greatest : Fun K "greatest" "Dark.greatest" sDark_greatest Z.a_Dark_greatest Z.d_Dark_greatest
  bb_Dark_greatest : Binds K Z.d_Dark_greatest P_Dark_greatest []
  m_Dark_greatest : Meth K Z.C "greatest" Z.a_Dark_greatest
  F_Dark_led_back : Fun K "led_back" "Dark.led_back" sDark_led_back Z.a_Dark_led_back Z.d_Dark_led_back
  bb_Dark_led_back : Binds K Z.d_Dark_led_back P_Dark_led_back []
  m_Dark_led_back : Meth K Z.C "led_back" Z.a_Dark_led_back
  F_Darkcheck_word : Fun K "_check_word" "Dark._check_word" sDarkcheck_word Z.a_Darkcheck_word Z.d_Darkcheck_word
  bb_Darkcheck_word : Binds K Z.d_Darkcheck_word P_Darkcheck_word []
  m_Darkcheck_word : Meth K Z.C "_check_word" Z.a_Darkcheck_word
  F_Darkhome : Fun K "_home" "Dark._home" sDarkhome Z.a_Darkhome Z.d_Darkhome
  bb_Darkhome : Binds K Z.d_Darkhome P_Darkhome []
  m_Darkhome : Meth K Z.C "_home" Z.a_Darkhome
  F_Darkclashing : Fun K "_clashing" "Dark._clashing" sDarkclashing Z.a_Darkclashing Z.d_Darkclashing
  bb_Darkclashing : Binds K Z.d_Darkclashing P_Darkclashing []
  m_Darkclashing : Meth K Z.C "_clashing" Z.a_Darkclashing
  F_Darkbound : Fun K "_bound" "Dark._bound" sDarkbound Z.a_Darkbound Z.d_Darkbound
  bb_Darkbound : Binds K Z.d_Darkbound P_Darkbound []
  m_Darkbound : Meth K Z.C "_bound" Z.a_Darkbound
  F_law : Fun K "law" "law" slaw Z.a_law Z.d_law
  bb_law : Binds K Z.d_law P_law []
  g_law : mg "law" = some (.ref Z.a_law)
  cl : Cls K Z.C
  g_Dark : mg "Dark" = some (.ref Z.C)
  cl_Walk : Cls K Z.C_Walk
  g_Walk : mg "Walk" = some (.ref Z.C_Walk)
  mk_Walk : Mk K Z.C_Walk Z.a_Walk_init
  nWalk_places : NoAttr K Z.C_Walk "places"
  nWalk_told_by : NoAttr K Z.C_Walk "told_by"
  nWalk_start : NoAttr K Z.C_Walk "start"
  mk_Dark : Mk K Z.C Z.a_Dark_init
  n_length : NoAttr K Z.C "_length"
  n_looks : NoAttr K Z.C "_looks"
  b_max : mg "max" = none
  b_min : mg "min" = none
  b_len : mg "len" = none
  b_range : mg "range" = none
  b_sorted : mg "sorted" = none
  b_set : mg "set" = none
  b_isinstance : mg "isinstance" = none
  b_list : mg "list" = none
  b_tuple : mg "tuple" = none
  b_bool : mg "bool" = none
  b_int : mg "int" = none
  b_str : mg "str" = none
  b_enumerate : mg "enumerate" = none
  g_gcd : mg "gcd" = some (.builtin "math.gcd")
  b_zip : mg "zip" = none
  g_SLOW : mg "SLOW" = some Z.v_SLOW
  r_SLOW : RelV (.str "slow") Z.v_SLOW
  g_FAST : mg "FAST" = some Z.v_FAST
  r_FAST : RelV (.str "fast") Z.v_FAST
  g_WORDS : mg "WORDS" = some (.ref Z.a_WORDS)
  kd_WORDS : ∃ es n, KDict K w Z.a_WORDS es n
  w_slow : PySem.W.nsIn K Z.a_WORDS "slow" = some (some (.ref Z.t_slow))
  w_fast : PySem.W.nsIn K Z.a_WORDS "fast" = some (some (.ref Z.t_fast))
  q_slow : ∀ H, SqT K H Z.t_slow [.str "at", .str "from"]
  q_fast : ∀ H, SqT K H Z.t_fast [.str "at", .str "upto"]
  g_LOOK_WORDS : mg "LOOK_WORDS" = some (.ref Z.a_LW)
  q_LW : ∀ H, SqT K H Z.a_LW [.str "at", .str "from", .str "upto"]
end KA
/-! Looks in plain Lean. -/
namespace KA
open PySem PySem.Spec PyProof.Rows L2 DP
/-- a look: word, x, y -/
abbrev Lk := Str × Int × Int
def encL (l : Lk) : PyData := .tuple [.str l.1, .int l.2.1, .int l.2.2]
def WordOk (x : Str) : Prop := x = "at" ∨ x = "from" ∨ x = "upto"
def SideOk (x : Str) : Prop := x = "slow" ∨ x = "fast"
/-- the words of a side, by truth -/
def onSide (sd x : Str) : Bool := if sd = "slow" then (decide (x = "at") || decide (x = "from")) else (decide (x = "at") || decide (x = "upto"))
/-- where a look alone tells that x is led -/
def plc (sd : Str) (l : Lk) (x L : Int) : Int := if sd = "slow" then l.2.2 + (x - l.2.1) / L * L else l.2.2 - (l.2.1 - x) / L * L
def Sized (n : Nat) (l : Lk) : Prop := l.2.1.natAbs < 2 ^ n ∧ l.2.2.natAbs < 2 ^ n
theorem slow_ne : ¬ (("fast" : Str) = "slow") := by decide +kernel
theorem plc_slow (l : Lk) (x L : Int) : plc "slow" l x L = l.2.2 + (x - l.2.1) / L * L := if_pos rfl
theorem plc_fast (l : Lk) (x L : Int) : plc "fast" l x L = l.2.2 - (l.2.1 - x) / L * L := if_neg slow_ne
def tooFar (a b : Lk) (L : Int) : Bool := onSide "slow" a.1 && onSide "fast" b.1 && decide (b.2.2 < plc "slow" a b.2.1 L)
def clashB (a b : Lk) (L : Int) : Bool := tooFar a b L || tooFar b a L
/-- brought home -/
def home (L : Int) (l : Lk) : Lk := (l.1, l.2.1 - l.2.1 / L * L, l.2.2 - l.2.1 / L * L)
theorem nat_div {a L : Int} (h : 0 < L) : (a / L).natAbs ≤ a.natAbs + 1 := Nat.le_succ_of_le (Int.natAbs_ediv_le_natAbs a L)
theorem sub_lt {a b : Int} {n : Nat} (ha : a.natAbs < 2 ^ n) (hb : b.natAbs < 2 ^ n) : (a - b).natAbs < 2 ^ (n + 1) := by
  rw [Nat.pow_succ]; omega
theorem add_lt {a b : Int} {n : Nat} (ha : a.natAbs < 2 ^ n) (hb : b.natAbs < 2 ^ n) : (a + b).natAbs < 2 ^ (n + 1) := by
  rw [Nat.pow_succ]; omega
theorem div_lt {a L : Int} {n : Nat} (h : 0 < L) (ha : a.natAbs < 2 ^ n) : (a / L).natAbs < 2 ^ (n + 1) := by
  have := nat_div (a := a) h
  have h1 : 1 ≤ 2 ^ n := Nat.one_le_two_pow
  rw [Nat.pow_succ]; omega
theorem lt_up {a : Int} {m n : Nat} (ha : a.natAbs < 2 ^ m) (h : m ≤ n) : a.natAbs < 2 ^ n := Nat.lt_of_lt_of_le ha (Nat.pow_le_pow_right (by decide) h)
section
variable {K : PySem.W.Frag} {H : Hp}
theorem dp_look {v : V} {l : Lk} (h : Dp K H v (encL l)) : ∃ a, v = .ref a ∧ SqT K H a [.str l.1, .int l.2.1, .int l.2.2] := by
  have h' : Dp K H v (.tuple [.str l.1, .int l.2.1, .int l.2.2]) := h
  cases h' with
  | tup s a =>
    cases a with
    | cons a1 a =>
      cases a with
      | cons a2 a =>
        cases a with
        | cons a3 a =>
          cases a; cases a1; cases a2; cases a3
          exact ⟨_, rfl, s⟩
theorem dp_list {v : V} {ds : List PyData} (h : Dp K H v (.list ds)) : ∃ a xs, v = .ref a ∧ SqL K H a xs ∧ DpAll K H xs ds := by
  cases h with
  | lst s a => exact ⟨_, _, rfl, s, a⟩
end
theorem decl_words {x : Str} (h : WordOk x) : inV (.str x) [.str "at", .str "from"] = onSide "slow" x ∧ inV (.str x) [.str "at", .str "upto"] = onSide "fast" x ∧ inV (.str x) [.str "at", .str "from", .str "upto"] = true := by
  rcases h with e | e | e <;> subst e <;> decide +kernel
theorem yes_ite {σ : L2.St} {H : Hp} {A B : Hp → Prop} (h : A H) : tYes σ H (fun b H3 => if b = true then A H3 else B H3) := by
  show (if true = true then A H else B H)
  rw [if_pos rfl]
  exact h
/-- data without lists: tuples, numbers, texts -/
def noL : PyData → Bool
  | .list _ => false
  | .dict _ => false
  | .tuple xs => noLs xs
  | _ => true
where noLs : List PyData → Bool
  | [] => true
  | x :: xs => noL x && noLs xs
/-- tuples stand -/
def Tups (H H' : Hp) : Prop := ∀ b xs, Rd H b (.tup xs) → Rd H' b (.tup xs)
theorem Tups.of_same {H H' : Hp} (S : Same H H') : Tups H H' := fun _ _ h => DP.Same.rd S h
theorem Tups.upd_lst {H : Hp} {D : Addr} {ys : List V} {o : HO} (h : H D = some (.lst ys)) : Tups H (upd H D o) := fun b xs hb => by
  have hn : b ≠ D := by
    rintro rfl
    rcases hb with e | ⟨q, e⟩ <;> rw [h] at e <;> cases e
  rcases hb with e | ⟨q, e⟩
  · exact .inl ((upd_ne hn).trans e)
  · exact .inr ⟨q, (upd_ne hn).trans e⟩
theorem Tups.upd_ins {H : Hp} {D C dx : Addr} {fs : List (Str × V)} {o : HO} (h : H D = some (.ins C dx fs)) : Tups H (upd H D o) := fun b xs hb => by
  have hn : b ≠ D := by
    rintro rfl
    rcases hb with e | ⟨q, e⟩ <;> rw [h] at e <;> cases e
  rcases hb with e | ⟨q, e⟩
  · exact .inl ((upd_ne hn).trans e)
  · exact .inr ⟨q, (upd_ne hn).trans e⟩
theorem Tups.trans {H H1 H2 : Hp} (a : Tups H H1) (b : Tups H1 H2) : Tups H H2 := fun c xs h => b c xs (a c xs h)
section
variable {K : PySem.W.Frag} {H H' : Hp}
mutual
theorem dp_tups (S : Tups H H') : ∀ (d : PyData) (v : V), noL d = true → Dp K H v d → Dp K H' v d
  | .none, _, _, h => by cases h; exact .non
  | .bool _, _, _, h => by cases h; exact .bl _
  | .int _, _, _, h => by cases h; exact .int _
  | .str _, _, _, h => by cases h; exact .str _
  | .list _, _, n, _ => by simp [noL] at n
  | .dict _, _, n, _ => by simp [noL] at n
  | .tuple ds, _, n, h => by
    cases h with
    | tup s a =>
      refine .tup ?_ (dpAll_tups S ds _ (by simpa [noL] using n) a)
      rcases s with s | s
      · exact .inl (S _ _ s)
      · exact .inr s
theorem dpAll_tups (S : Tups H H') : ∀ (ds : List PyData) (vs : List V), noL.noLs ds = true → DpAll K H vs ds → DpAll K H' vs ds
  | [], _, _, h => by cases h; exact .nil
  | d :: ds, _, n, h => by
    rw [noL.noLs, Bool.and_eq_true] at n
    cases h with
    | cons a b => exact .cons (dp_tups S d _ n.1 a) (dpAll_tups S ds _ n.2 b)
end
theorem noLs_map {β : Type} {enc : β → PyData} (h : ∀ b, noL (enc b) = true) : ∀ bs : List β, noL.noLs (bs.map enc) = true
  | [] => rfl
  | b :: bs => by
    show noL.noLs (enc b :: bs.map enc) = true
    rw [noL.noLs, h b, noLs_map h bs]; rfl
theorem noL_encL (l : Lk) : noL (encL l) = true := rfl
/-- one more at the list that a comprehension makes -/
theorem acc_step {D : Addr} {ys : List V} {ds : List PyData} {y : V} {d : PyData} (hD : H D = some (.lst ys)) (hn : noL.noLs ds = true) (hd : noL d = true) (h : DpAll K H ys ds) (hy : Dp K H y d) :
    DpAll K (upd H D (.lst (ys ++ [y]))) (ys ++ [y]) (ds ++ [d]) :=
  dpAll_snoc (dpAll_tups (Tups.upd_lst hD) _ _ hn h) (dp_tups (Tups.upd_lst hD) _ _ hd hy)
end
theorem same_set {H : Hp} {p : Addr} {o : HO} {H1 : Hp} (S : Same H H1) (hn : H p = none) : Same H (upd H1 p o) := fun b u e => by rw [upd_ne (ne_of_none e hn)]; exact S b u e
theorem take_snoc {α : Type} : ∀ {l : List α} {i : Nat} {x : α}, l[i]? = some x → l.take (i + 1) = l.take i ++ [x]
  | [], i, x, h => by simp at h
  | a :: l, 0, x, h => by
    have e : a = x := Option.some.inj h
    subst e
    rfl
  | a :: l, i + 1, x, h => by
    have ih := take_snoc (l := l) (i := i) (x := x) h
    show a :: l.take (i + 1) = a :: l.take i ++ [x]
    rw [ih]; rfl
theorem map_at {α β : Type} {f : α → β} {l : List α} {i : Nat} {y : β} (h : (l.map f)[i]? = some y) : ∃ x, l[i]? = some x ∧ y = f x := by
  rw [List.getElem?_map] at h
  cases e : l[i]? with
  | none => rw [e] at h; cases h
  | some x => rw [e] at h; exact ⟨x, rfl, (Option.some.inj h).symm⟩
end KA
namespace KA
open PySem PySem.Spec PyProof.Rows L2 DP
def spPlace (K : PySem.W.Frag) : Sp := fun vs H Q _ => ∃ (v : V) (l : Lk) (sd : Str) (x L : Int), vs = [v, .str sd, .int x, .int L] ∧ Dp K H v (encL l) ∧ SideOk sd ∧ 0 < L ∧ L.natAbs < 2 ^ 200 ∧ x.natAbs < 2 ^ 400 ∧ Sized 400 l ∧ Q (.int (plc sd l x L)) H
def spFar (K : PySem.W.Frag) (f : Lk → Lk → Int → Bool) : Sp := fun vs H Q _ => ∃ (v u : V) (a b : Lk) (L : Int), vs = [v, u, .int L] ∧ Dp K H v (encL a) ∧ Dp K H u (encL b) ∧ WordOk a.1 ∧ WordOk b.1 ∧ 0 < L ∧ L.natAbs < 2 ^ 200 ∧ Sized 400 a ∧ Sized 400 b ∧ Q (.bl (f a b L)) H
section
variable {P : Program} {w : World} {K : PySem.W.Frag} {mg : Str → Option Value} {base : Heap} {Z : Ad}
theorem ok_place_by (T : Tx K w mg Z) : FnOk P w K mg base CX0 1 Z.a_place_by Z.d_place_by P_place_by (spPlace K) := by
  refine T.F_place_by.ok scplace_by (fun vs H Q E h => ?_) (fun cdv A outer s H vs Q E hr h => ?_)
  · obtain ⟨v, l, sd, x, L, rfl, _⟩ := h
    rfl
  · obtain ⟨v, l, sd, x, L, rfl, hv, hsd, hL, hLb, hx, hl, k⟩ := h
    obtain ⟨a, rfl, ha⟩ := dp_look hv
    refine ⟨_, (pss_cons (ps_asg (pv 0) (tupK (K := K) (by rfl) (pgs_cons (pg_name (i := 4) scplace_by.nd rfl (Or.inl rfl)) (pgs_cons (pg_name (i := 5) scplace_by.nd rfl (Or.inl rfl)) (pgs_cons (pg_name (i := 6) scplace_by.nd rfl (Or.inl rfl)) pgs_nil)))))
      (C8.pss_cut (ps_if (pt_cmpR op_eq (pv 1) (pe_glob rfl T.g_SLOW T.r_SLOW) (nomark _)) (pss_one (ps_ret (pe_op op_add (pv 6) (pe_op op_mulW (pe_op op_fdivW (pe_op op_sub (pv 2) (pv 5)) (pv 3)) (pv 3))))) pss_nil)
      (pss_one (ps_ret (pe_op op_sub (pv 6) (pe_op op_mulW (pe_op op_fdivW (pe_op op_sub (pv 5) (pv 2)) (pv 3)) (pv 3))))))), ?_⟩
    refine ⟨_, rfl, _, _, rfl, ha, rfl, _, _, rfl, _, _, rfl, _, _, rfl, rfl, ?_⟩
    have e1 : (x - l.2.1).natAbs < 2 ^ 401 := sub_lt hx hl.1
    have e2 : (l.2.1 - x).natAbs < 2 ^ 401 := sub_lt hl.1 hx
    rcases hsd with e | e
    · subst e
      rw [plc_slow] at k
      refine ⟨fun _ _ => False, ⟨_, rfl, rfl, _, rfl, iteT ⟨_, rfl, _, rfl, _, rfl, _, _, rfl, rfl, _, rfl, _, _, rfl, rfl, wide_div hL hLb (by decide) (by decide), _, rfl, _, _, rfl, rfl, wide_mul (div_lt hL e1) hLb (by decide) (by decide) (by decide), _, _, rfl, rfl, k⟩⟩, fun _ _ z => z.elim⟩
    · subst e
      rw [plc_fast] at k
      refine ⟨fun σ' H' => σ' = [some (.ref a), some (.str "fast"), some (.int x), some (.int L), some (.str l.1), some (.int l.2.1), some (.int l.2.2)] ∧ H' = H, ⟨_, rfl, rfl, _, rfl, ?_⟩, ?_⟩
      · have e3 : decide (V.str "fast" = V.str "slow") = false := by decide +kernel
        rw [e3]
        exact iteF ⟨rfl, rfl⟩
      · rintro σ1 H1 ⟨rfl, rfl⟩
        exact ⟨_, rfl, _, rfl, _, rfl, _, _, rfl, rfl, _, rfl, _, _, rfl, rfl, wide_div hL hLb (by decide) (by decide), _, rfl, _, _, rfl, rfl, wide_mul (div_lt hL e2) hLb (by decide) (by decide) (by decide), _, _, rfl, rfl, k⟩
theorem ok_too_far (T : Tx K w mg Z) : FnOk P w K mg base CX0 2 Z.a_too_far Z.d_too_far P_too_far (spFar K tooFar) := by
  refine T.F_too_far.ok sctoo_far (fun vs H Q E h => ?_) (fun cdv A outer s H vs Q E hr h => ?_)
  · obtain ⟨v, u, a, b, L, rfl, _⟩ := h
    rfl
  · obtain ⟨v, u, a, b, L, rfl, hv, hu, wa, wb, hL, hLb, sa, sb, k⟩ := h
    obtain ⟨p, rfl, hp⟩ := dp_look hv
    obtain ⟨q, rfl, hq⟩ := dp_look hu
    obtain ⟨es, n, DW⟩ := T.kd_WORDS
    obtain ⟨da1, da2, _⟩ := decl_words wa
    obtain ⟨db1, db2, _⟩ := decl_words wb
    refine ⟨_, (C8.pss_cut (ps_if (PW.pt (pw_or (pt_cmpR (notInS (K := K)) (pe_ix (ixT (K := K)) (pv 0) pe_int (fun _ _ => rfl)) (pe_ix (ix_kd DW) (pe_glob (v := .ref Z.a_WORDS) rfl T.g_WORDS rfl) (pe_glob rfl T.g_SLOW T.r_SLOW) (fun _ _ => rfl)) (by rfl)) (pw_or1 (pt_cmpR (notInS (K := K)) (pe_ix (ixT (K := K)) (pv 1) pe_int (fun _ _ => rfl)) (pe_ix (ix_kd DW) (pe_glob (v := .ref Z.a_WORDS) rfl T.g_WORDS rfl) (pe_glob rfl T.g_FAST T.r_FAST) (fun _ _ => rfl)) (by rfl))))) (pss_one (ps_ret pe_bl)) pss_nil)
      (pss_one (ps_ret (pe_cmpR op_gt (pe_call (ok_place_by T) (hr.mono (by decide)) (by rfl) T.g_place_by T.F_place_by.kp T.bb_place_by .nil pass0 (pa_cons (pv 0) (pa_cons (pe_glob rfl T.g_SLOW T.r_SLOW) (pa_cons (pe_ix (ixT (K := K)) (pv 1) pe_int (fun _ _ => rfl)) (pa_cons (pv 2) pa_nil))))) (pe_ix (ixT (K := K)) (pv 1) pe_int (fun _ _ => rfl)) (nomark _))))), ?_⟩
    unfold tooFar at k
    refine ⟨fun σ' H' => σ' = [some (.ref p), some (.ref q), some (.int L)] ∧ H' = H ∧ onSide "slow" a.1 = true ∧ onSide "fast" b.1 = true, ?_, ?_⟩
    · refine ⟨_, rfl, _, _, _, _, rfl, rfl, hp, rfl, _, _, .ref Z.t_slow, rfl, rfl, T.w_slow, rfl, _, _, rfl, .inr (T.q_slow _), rfl, rfl, _, rfl, ?_⟩
      cases c1 : onSide "slow" a.1 with
      | false =>
        rw [c1] at da1 k
        have : (if true = true then !inV (V.str a.1) [V.str "at", V.str "from"] else inV (V.str a.1) [V.str "at", V.str "from"]) = true := by rw [if_pos rfl, da1]; rfl
        rw [this]
        exact iteT (iteT k)
      | true =>
        rw [c1] at da1
        have : (if true = true then !inV (V.str a.1) [V.str "at", V.str "from"] else inV (V.str a.1) [V.str "at", V.str "from"]) = false := by rw [if_pos rfl, da1]; rfl
        rw [this]
        refine iteF ⟨_, rfl, _, _, _, _, rfl, rfl, hq, rfl, _, _, .ref Z.t_fast, rfl, rfl, T.w_fast, rfl, _, _, rfl, .inr (T.q_fast _), rfl, rfl, _, rfl, ?_⟩
        cases c2 : onSide "fast" b.1 with
        | false =>
          rw [c2] at db2
          rw [c1, c2] at k
          have : (if true = true then !inV (V.str b.1) [V.str "at", V.str "upto"] else inV (V.str b.1) [V.str "at", V.str "upto"]) = true := by rw [if_pos rfl, db2]; rfl
          rw [this]
          exact iteT k
        | true =>
          rw [c2] at db2
          have : (if true = true then !inV (V.str b.1) [V.str "at", V.str "upto"] else inV (V.str b.1) [V.str "at", V.str "upto"]) = false := by rw [if_pos rfl, db2]; rfl
          rw [this]
          exact iteF ⟨rfl, rfl, rfl, rfl⟩
    · rintro σ1 H1 ⟨rfl, rfl, c1, c2⟩
      rw [c1, c2] at k
      refine ⟨_, rfl, _, rfl, _, _, _, _, rfl, rfl, hq, rfl, _, rfl, ?_⟩
      exact ⟨_, a, "slow", b.2.1, L, rfl, hv, .inl rfl, hL, hLb, sb.1, sa, _, rfl, _, _, _, _, rfl, rfl, hq, rfl, _, _, rfl, rfl, k⟩
theorem ok_clash (T : Tx K w mg Z) : FnOk P w K mg base CX0 3 Z.a_clash Z.d_clash P_clash (spFar K clashB) := by
  refine T.F_clash.ok scclash (fun vs H Q E h => ?_) (fun cdv A outer s H vs Q E hr h => ?_)
  · obtain ⟨v, u, a, b, L, rfl, _⟩ := h
    rfl
  · obtain ⟨v, u, a, b, L, rfl, hv, hu, wa, wb, hL, hLb, sa, sb, k⟩ := h
    refine ⟨_, (pss_one (ps_ret (pe_or (pe_call (ok_too_far T) (hr.mono (by decide)) (by rfl) T.g_too_far T.F_too_far.kp T.bb_too_far .nil pass0 (pa_cons (pv 0) (pa_cons (pv 1) (pa_cons (pv 2) pa_nil)))) (pe_one (pe_call (ok_too_far T) (hr.mono (by decide)) (by rfl) T.g_too_far T.F_too_far.kp T.bb_too_far .nil pass0 (pa_cons (pv 1) (pa_cons (pv 0) (pa_cons (pv 2) pa_nil)))))))), ?_⟩
    unfold clashB at k
    refine ⟨_, rfl, _, rfl, _, rfl, v, u, a, b, L, rfl, hv, hu, wa, wb, hL, hLb, sa, sb, _, rfl, ?_⟩
    cases c : tooFar a b L with
    | true => rw [c] at k; exact iteT k
    | false =>
      rw [c] at k
      exact iteF ⟨_, rfl, _, rfl, _, rfl, u, v, b, a, L, rfl, hu, hv, wb, wa, hL, hLb, sb, sa, k⟩
end
end KA
namespace KA
open PySem PySem.Spec PyProof.Rows L2 DP
def sideOf (sd : Str) (ls : List Lk) : List Lk := ls.filter fun l => onSide sd l.1
def spSide (K : PySem.W.Frag) : Sp := fun vs H Q _ => ∃ (v : V) (ls : List Lk) (sd : Str), vs = [v, .str sd] ∧ Dp K H v (.list (ls.map encL)) ∧ SideOk sd ∧ (∀ l ∈ ls, WordOk l.1) ∧ ls.length ≤ 1000 ∧
  ∀ H' p, H p = none → Same H H' → (∃ vs, H' p = some (.lst vs) ∧ DpAll K H' vs ((sideOf sd ls).map encL)) → Q (.ref p) H'
/-- a step: where, by which look -/
def encS (sd : Str) (x L : Int) (l : Lk) : PyData := .tuple [.int (plc sd l x L), encL l]
/-- the best step's place -/
def IsBest (sd : Str) (ls : List Lk) (x L m : Int) : Prop := (∃ l ∈ ls, plc sd l x L = m) ∧ ∀ l ∈ ls, if sd = "slow" then plc sd l x L ≤ m else m ≤ plc sd l x L
def spBest (K : PySem.W.Frag) : Sp := fun vs H Q _ => ∃ (v : V) (ls : List Lk) (sd : Str) (x L : Int), vs = [v, .str sd, .int x, .int L] ∧ Dp K H v (.list (ls.map encL)) ∧ SideOk sd ∧ (∀ l ∈ ls, WordOk l.1 ∧ Sized 400 l) ∧ ls.length ≤ 1000 ∧ 0 < L ∧ L.natAbs < 2 ^ 200 ∧ x.natAbs < 2 ^ 400 ∧
  (ls = [] → Q .non H) ∧ ∀ H' r l, l ∈ ls → Same H H' → IsBest sd ls x L (plc sd l x L) → Dp K H' r (encS sd x L l) → Q r H'
/-! ### the best step -/
theorem alike_step (sd : Str) (x L : Int) (a b : Lk) : PySem.W.alike (encS sd x L a) (encS sd x L b) = true := by simp [encS, encL, PySem.W.alike, PySem.W.alikeAll]
theorem steps_alike (sd : Str) (x L : Int) (ls : List Lk) : PySem.W.AlikeAll (ls.map (encS sd x L)) := by
  refine ⟨fun a ha b hb => ?_, fun a ha => ?_⟩
  · obtain ⟨p, _, rfl⟩ := List.mem_map.mp ha
    obtain ⟨q, _, rfl⟩ := List.mem_map.mp hb
    exact alike_step _ _ _ _ _
  · obtain ⟨p, _, rfl⟩ := List.mem_map.mp ha
    exact fun e => by cases e
theorem lay_look {l : Lk} (h : WordOk l.1) : (encL l).canLay0 = true := by
  obtain ⟨a, b, c⟩ := l
  have h : WordOk a := h
  rcases h with e | e | e <;> subst e <;> simp [encL, PyData.canLay0, PyData.canLayAll0] <;> decide +kernel
theorem steps_lay (sd : Str) (x L : Int) : ∀ ls : List Lk, (∀ l ∈ ls, WordOk l.1) → PyData.canLayAll0 (ls.map (encS sd x L)) = true
  | [], _ => rfl
  | l :: ls, h => by
    have h1 := lay_look (h l List.mem_cons_self)
    have h2 := steps_lay sd x L ls fun q hq => h q (List.mem_cons_of_mem _ hq)
    show PyData.canLayAll0 (encS sd x L l :: ls.map (encS sd x L)) = true
    simp [PyData.canLayAll0, h2, encS, PyData.canLay0, h1]
theorem steps_depth (sd : Str) (x L : Int) : ∀ ls : List Lk, PyData.depthAll (ls.map (encS sd x L)) ≤ 60
  | [] => by simp [PyData.depthAll]
  | l :: ls => by
    have h2 := steps_depth sd x L ls
    show PyData.depthAll (encS sd x L l :: ls.map (encS sd x L)) ≤ 60
    have h3 : (encS sd x L l).depth = 2 := by simp [encS, encL, PyData.depth, PyData.depthAll]
    rw [PyData.depthAll, h3]
    omega
/-- a greater place is a greater step -/
theorem lt_step {sd : Str} {x L : Int} {a b : Lk} (h : plc sd a x L < plc sd b x L) : PySem.W.dataLt (encS sd x L a) (encS sd x L b) = true := by
  unfold encS
  rw [PySem.W.dataLt_tuple, PySem.W.dataLt_cons (by simp [PySem.W.alike])]
  have e : PyData.eqv (.int (plc sd a x L)) (.int (plc sd b x L)) = false := by simp [PyData.eqv]; omega
  rw [e, if_neg Bool.false_ne_true, PySem.W.dataLt_int]
  exact decide_eq_true h
theorem le_step {sd : Str} {x L : Int} {a b : Lk} (h : PySem.W.dataLt (encS sd x L a) (encS sd x L b) = true) : plc sd a x L ≤ plc sd b x L := by
  unfold encS at h
  rw [PySem.W.dataLt_tuple, PySem.W.dataLt_cons (by simp [PySem.W.alike])] at h
  by_cases e : plc sd a x L = plc sd b x L
  · omega
  · have e' : PyData.eqv (.int (plc sd a x L)) (.int (plc sd b x L)) = false := by simp [PyData.eqv]; omega
    rw [e', if_neg Bool.false_ne_true, PySem.W.dataLt_int] at h
    have := of_decide_eq_true h
    omega
theorem max_go (x L : Int) : ∀ (ls : List Lk) (l : Lk), ∃ q, (q = l ∨ q ∈ ls) ∧ (ls.map (encS "slow" x L)).foldl (fun a y => if PySem.W.dataLt a y then y else a) (encS "slow" x L l) = encS "slow" x L q ∧ plc "slow" l x L ≤ plc "slow" q x L ∧ ∀ p ∈ ls, plc "slow" p x L ≤ plc "slow" q x L
  | [], l => ⟨l, .inl rfl, rfl, Int.le_refl _, fun _ h => by cases h⟩
  | y :: ls, l => by
    rw [List.map_cons, List.foldl_cons]
    cases c : PySem.W.dataLt (encS "slow" x L l) (encS "slow" x L y) with
    | true =>
      rw [if_pos rfl]
      obtain ⟨q, hq, e, h1, h2⟩ := max_go x L ls y
      have := le_step c
      refine ⟨q, ?_, e, by omega, fun p hp => ?_⟩
      · rcases hq with e | e
        · subst e; exact .inr List.mem_cons_self
        · exact .inr (List.mem_cons_of_mem _ e)
      · rcases List.mem_cons.mp hp with e | e
        · subst e; exact h1
        · exact h2 p e
    | false =>
      rw [if_neg Bool.false_ne_true]
      obtain ⟨q, hq, e, h1, h2⟩ := max_go x L ls l
      refine ⟨q, ?_, e, h1, fun p hp => ?_⟩
      · rcases hq with e | e
        · exact .inl e
        · exact .inr (List.mem_cons_of_mem _ e)
      · rcases List.mem_cons.mp hp with e | e
        · subst e
          by_cases hlt : plc "slow" l x L < plc "slow" p x L
          · rw [lt_step hlt] at c; cases c
          · omega
        · exact h2 p e
theorem max_step (x L : Int) (l : Lk) (ls : List Lk) : ∃ q, q ∈ l :: ls ∧ PySem.W.maxD (encS "slow" x L l) (ls.map (encS "slow" x L)) = encS "slow" x L q ∧ IsBest "slow" (l :: ls) x L (plc "slow" q x L) := by
  obtain ⟨q, hq, e, h1, h2⟩ := max_go x L ls l
  have hm : q ∈ l :: ls := by
    rcases hq with e | e
    · subst e; exact List.mem_cons_self
    · exact List.mem_cons_of_mem _ e
  refine ⟨q, hm, e, ⟨q, hm, rfl⟩, fun p hp => ?_⟩
  rw [if_pos rfl]
  rcases List.mem_cons.mp hp with e | e
  · subst e; exact h1
  · exact h2 p e
theorem min_go (x L : Int) : ∀ (ls : List Lk) (l : Lk), ∃ q, (q = l ∨ q ∈ ls) ∧ (ls.map (encS "fast" x L)).foldl (fun a y => if PySem.W.dataLt y a then y else a) (encS "fast" x L l) = encS "fast" x L q ∧ plc "fast" q x L ≤ plc "fast" l x L ∧ ∀ p ∈ ls, plc "fast" q x L ≤ plc "fast" p x L
  | [], l => ⟨l, .inl rfl, rfl, Int.le_refl _, fun _ h => by cases h⟩
  | y :: ls, l => by
    rw [List.map_cons, List.foldl_cons]
    cases c : PySem.W.dataLt (encS "fast" x L y) (encS "fast" x L l) with
    | true =>
      rw [if_pos rfl]
      obtain ⟨q, hq, e, h1, h2⟩ := min_go x L ls y
      have := le_step c
      refine ⟨q, ?_, e, by omega, fun p hp => ?_⟩
      · rcases hq with e | e
        · subst e; exact .inr List.mem_cons_self
        · exact .inr (List.mem_cons_of_mem _ e)
      · rcases List.mem_cons.mp hp with e | e
        · subst e; exact h1
        · exact h2 p e
    | false =>
      rw [if_neg Bool.false_ne_true]
      obtain ⟨q, hq, e, h1, h2⟩ := min_go x L ls l
      refine ⟨q, ?_, e, h1, fun p hp => ?_⟩
      · rcases hq with e | e
        · exact .inl e
        · exact .inr (List.mem_cons_of_mem _ e)
      · rcases List.mem_cons.mp hp with e | e
        · subst e
          by_cases hlt : plc "fast" p x L < plc "fast" l x L
          · rw [lt_step hlt] at c; cases c
          · omega
        · exact h2 p e
theorem min_step (x L : Int) (l : Lk) (ls : List Lk) : ∃ q, q ∈ l :: ls ∧ PySem.W.minD (encS "fast" x L l) (ls.map (encS "fast" x L)) = encS "fast" x L q ∧ IsBest "fast" (l :: ls) x L (plc "fast" q x L) := by
  obtain ⟨q, hq, e, h1, h2⟩ := min_go x L ls l
  have hm : q ∈ l :: ls := by
    rcases hq with e | e
    · subst e; exact List.mem_cons_self
    · exact List.mem_cons_of_mem _ e
  refine ⟨q, hm, e, ⟨q, hm, rfl⟩, fun p hp => ?_⟩
  rw [if_neg slow_ne]
  rcases List.mem_cons.mp hp with e | e
  · subst e; exact h1
  · exact h2 p e
section
variable {P : Program} {w : World} {K : PySem.W.Frag} {mg : Str → Option Value} {base : Heap} {Z : Ad}
theorem words_side {sd x : Str} (hs : SideOk sd) (hx : WordOk x) : inV (.str x) (if sd = "slow" then [.str "at", .str "from"] else [.str "at", .str "upto"]) = onSide sd x := by
  obtain ⟨h1, h2, _⟩ := decl_words hx
  rcases hs with e | e
  · subst e; rw [if_pos rfl]; exact h1
  · subst e; rw [if_neg slow_ne]; exact h2
theorem ok_side_looks (T : Tx K w mg Z) : FnOk P w K mg base CX0 1 Z.a_side_looks Z.d_side_looks P_side_looks (spSide K) := by
  refine T.F_side_looks.ok scside_looks (fun vs H Q E h => ?_) (fun cdv A outer s H vs Q E hr h => ?_)
  · obtain ⟨v, ls, sd, rfl, _⟩ := h
    rfl
  · obtain ⟨v, ls, sd, rfl, hv, hsd, hw, hlen, k⟩ := h
    obtain ⟨a, xs, rfl, ha, hd⟩ := dp_list hv
    obtain ⟨es, n, DW⟩ := T.kd_WORDS
    have hxl : xs.length = ls.length := by rw [dpAll_len hd, List.length_map]
    obtain ⟨tw, htw, hqw⟩ : ∃ tw, PySem.W.nsIn K Z.a_WORDS sd = some (some (.ref tw)) ∧ ∀ H, SqT K H tw (if sd = "slow" then [.str "at", .str "from"] else [.str "at", .str "upto"]) := by
      rcases hsd with e | e
      · subst e; exact ⟨_, T.w_slow, fun H => by rw [if_pos rfl]; exact T.q_slow H⟩
      · subst e; exact ⟨_, T.w_fast, fun H => by rw [if_neg slow_ne]; exact T.q_fast H⟩
    refine ⟨_, (pss_cons (ps_set (i := 2) scside_looks.nd rfl (Or.inr rfl) (pe_ix (ix_kd DW) (pe_glob (v := .ref Z.a_WORDS) rfl T.g_WORDS rfl) (pv 1) (fun _ _ => rfl)))
      (pss_one (ps_ret (pe_lc (own := [("look", 3)]) (g := gName 3) (tt := _) rfl scside_looks.nd (pi_list (pv 0)) (blkOk_by (own := [("look", 3)]) (N := N_side_looks) (sc := defScope sside_looks) (by decide +kernel)) (fun _ _ _ _ _ => (pg_name (i := 3) scside_looks.nd rfl (Or.inl rfl))) (fun _ _ _ _ _ => (pts_one (pt_cmpR (inS (K := K)) (pe_ix (ixT (K := K)) (pv 3) pe_int (fun _ _ => rfl)) (pv 2) (by rfl)))) (fun _ _ _ _ _ => (pv 3)))))), ?_⟩
    refine ⟨_, rfl, sd, _, .ref tw, rfl, rfl, htw, rfl, _, rfl, a, rfl, ⟨_, ha⟩, fun D hD => ?_⟩
    refine lc_list (K := K) (a := a) (xs := xs) (fun i H' => Same H H' ∧ ∃ ys, H' D = some (.lst ys) ∧ ys.length ≤ i ∧ DpAll K H' ys ((sideOf sd (ls.take i)).map encL)) ⟨same_upd hD, [], upd_same, Nat.le_refl _, .nil⟩ (fun i H' _ ⟨S, _⟩ => Same.sqL S ha) ?_ ?_
    · rintro i y H' hi ⟨S, ys, hD', hyl, hds⟩
      obtain ⟨d, hdi, hdy⟩ := dpAll_get hd hi
      obtain ⟨l, hl, rfl⟩ := map_at hdi
      have hwl := hw l (List.mem_of_getElem? hl)
      have hdy' := dp_mono S _ _ hdy
      obtain ⟨p, rfl, hp⟩ := dp_look hdy'
      refine ⟨rfl, _, rfl, _, _, _, _, rfl, rfl, hp, rfl, _, rfl, _, _, rfl, .inr (hqw _), rfl, ?_, _, rfl, ?_⟩
      · split <;> rfl
      · have e1 : (if false = true then !inV (V.str l.1) (if sd = "slow" then [V.str "at", V.str "from"] else [V.str "at", V.str "upto"]) else inV (V.str l.1) (if sd = "slow" then [V.str "at", V.str "from"] else [V.str "at", V.str "upto"])) = onSide sd l.1 := by
          rw [if_neg Bool.false_ne_true]; exact words_side hsd hwl
        rw [e1]
        have e2 : sideOf sd (ls.take (i + 1)) = sideOf sd (ls.take i) ++ (if onSide sd l.1 = true then [l] else []) := by
          rw [take_snoc hl]; unfold sideOf; rw [List.filter_append]
          cases c : onSide sd l.1 <;> simp [c]
        cases c : onSide sd l.1 with
        | false =>
          refine iteF ⟨S, ys, hD', by omega, ?_⟩
          rw [e2, c]
          simpa using hds
        | true =>
          refine iteT ⟨_, rfl, ys, hD', ?_, ?_, _, upd_same, by simp; omega, ?_⟩
          · have : ys.length ≤ 1000 := by
              have := (List.getElem?_eq_some_iff.mp hl).1
              omega
            exact small1000 this
          · exact same_set S hD
          · rw [e2, c, if_pos rfl, List.map_append]
            exact acc_step hD' (noLs_map noL_encL _) rfl hds hdy'
    · rintro H' ⟨S, ys, hD', hyl, hds⟩
      rw [List.take_of_length_le (by rw [hxl]; exact Nat.le_refl _)] at hds
      exact k H' D hD S ⟨ys, hD', hds⟩
theorem ok_best_step (T : Tx K w mg Z) : FnOk P w K mg base CX0 2 Z.a_best_step Z.d_best_step P_best_step (spBest K) := by
  refine T.F_best_step.ok scbest_step (fun vs H Q E h => ?_) (fun cdv A outer s H vs Q E hr h => ?_)
  · obtain ⟨v, ls, sd, x, L, rfl, _⟩ := h
    rfl
  · obtain ⟨v, ls, sd, x, L, rfl, hv, hsd, hw, hlen, hL, hLb, hx, k0, k⟩ := h
    obtain ⟨a, xs, rfl, ha, hd⟩ := dp_list hv
    have hxl : xs.length = ls.length := by rw [dpAll_len hd, List.length_map]
    refine ⟨_, (C8.pss_cut (ps_if (pt_not (pt_truth (pv 0) (by intro _; rfl))) (pss_one (ps_ret pe_non)) pss_nil)
      (pss_cons (ps_setLc (i := 4) (own := [("look", 5)]) (g := gName 5) (tt := tYes) rfl scbest_step.nd rfl rfl (sw_true rfl rfl rfl (by decide +kernel)) (pi_list (pv 0)) (blkOk_by (own := [("look", 5)]) (N := N_best_step) (sc := defScope sbest_step) (by decide +kernel)) (fun _ _ _ _ _ => (pg_name (i := 5) scbest_step.nd rfl (Or.inl rfl))) (fun _ _ _ _ _ => pts_nil) (fun _ _ _ _ _ => (pe_tup (pa_cons (pe_call (ok_place_by T) (hr.mono (by decide)) (by rfl) T.g_place_by T.F_place_by.kp T.bb_place_by .nil pass0 (pa_cons (pv 5) (pa_cons (pv 1) (pa_cons (pv 2) (pa_cons (pv 3) pa_nil))))) (pa_cons (pv 5) pa_nil)))))
      (pss_one (ps_ret (pe_ifExp (pt_cmpR op_eq (pv 1) (pe_glob rfl T.g_SLOW T.r_SLOW) (nomark _)) (pe_callB (maxDK (K := K) rfl (rooms hr)) (by rfl) T.b_max (by decide +kernel) (pa_cons (pv 4) pa_nil)) (pe_callB (minDK (K := K) rfl (rooms hr)) (by rfl) T.b_min (by decide +kernel) (pa_cons (pv 4) pa_nil))))))), ?_⟩
    refine ⟨fun σ' H' => σ' = [some (.ref a), some (.str sd), some (.int x), some (.int L), none, none] ∧ H' = H ∧ ls ≠ [], ?_, ?_⟩
    · refine ⟨_, rfl, _, .inl ⟨xs, ha, rfl⟩, ?_⟩
      cases ls with
      | nil =>
        have e : xs = [] := List.eq_nil_of_length_eq_zero hxl
        subst e
        exact iteT (k0 rfl)
      | cons l ls =>
        cases xs with
        | nil => simp at hxl
        | cons y ys => exact iteF ⟨rfl, rfl, by simp⟩
    · rintro σ1 H1 ⟨rfl, rfl, hne⟩
      refine ⟨_, rfl, a, rfl, ⟨_, ha⟩, fun D hD => ?_⟩
      refine lc_list (K := K) (a := a) (xs := xs) (fun i H' => Same H1 H' ∧ ∃ ys, H' D = some (.lst ys) ∧ ys.length ≤ i ∧ DpAll K H' ys ((ls.take i).map (encS sd x L))) ⟨same_upd hD, [], upd_same, Nat.le_refl _, .nil⟩ (fun i H' _ ⟨S, _⟩ => Same.sqL S ha) ?_ ?_
      · rintro i y H' hi ⟨S, ys, hD', hyl, hds⟩
        obtain ⟨d, hdi, hdy⟩ := dpAll_get hd hi
        obtain ⟨l, hl, rfl⟩ := map_at hdi
        have hwl := hw l (List.mem_of_getElem? hl)
        have hdy' := dp_mono S _ _ hdy
        refine ⟨rfl, yes_ite ?_⟩
        refine ⟨_, rfl, _, rfl, _, rfl, _, rfl, y, l, sd, x, L, rfl, hdy', hsd, hL, hLb, hx, hwl.2, _, rfl, (by show 2 ≤ sizeLine; decide), fun p hp => ?_⟩
        have hD2 : (upd H' p (.tup [.int (plc sd l x L), y])) D = some (.lst ys) := (upd_ne (ne_of_none hD' hp)).trans hD'
        have S2 := same_upd (o := HO.tup [.int (plc sd l x L), y]) hp
        refine ⟨ys, hD2, ?_, same_set (S.trans S2) hD, _, upd_same, by simp; omega, ?_⟩
        · have := (List.getElem?_eq_some_iff.mp hl).1
          exact small1000 (by omega)
        · rw [take_snoc hl, List.map_append]
          exact acc_step hD2 (noLs_map (fun _ => rfl) _) rfl (dpAll_mono S2 _ _ hds) (.tup (SqT.of upd_same) (.cons (.int _) (.cons (dp_mono S2 _ _ hdy') .nil)))
      · rintro H' ⟨S, ys, hD', hyl, hds⟩
        rw [List.take_of_length_le (by rw [hxl]; exact Nat.le_refl _)] at hds
        refine ⟨_, rfl, rfl, _, rfl, ?_⟩
        have hd0 : ∃ l ls', ls = l :: ls' := by
          cases ls with
          | nil => exact absurd rfl hne
          | cons l ls' => exact ⟨l, ls', rfl⟩
        obtain ⟨l, ls', rfl⟩ := hd0
        have hal := steps_alike sd x L (l :: ls')
        have hlay := steps_lay sd x L (l :: ls') (fun q hq => (hw q hq).1)
        have hdep := steps_depth sd x L (l :: ls')
        rcases hsd with e | e
        · subst e
          refine iteT ⟨_, rfl, D, ys, _, _, rfl, SqL.of hD', hds, hal, hlay, hdep, fun r hr => ?_⟩
          obtain ⟨q, hq, e, hb⟩ := max_step x L l ls'
          rw [e] at hr
          exact k H' r q hq S hb hr
        · subst e
          have e3 : decide (V.str "fast" = V.str "slow") = false := by decide +kernel
          rw [e3]
          refine iteF ⟨_, rfl, D, ys, _, _, rfl, SqL.of hD', hds, hal, hlay, hdep, fun r hr => ?_⟩
          obtain ⟨q, hq, e, hb⟩ := min_step x L l ls'
          rw [e] at hr
          exact k H' r q hq S hb hr
end
end KA
namespace KA
open PySem PySem.Spec PyProof.Rows L2 DP
/-- a Dark's fields -/
def df (L : Int) (la : Addr) : List (Str × V) := [("_length", .int L), ("_looks", .ref la)]
theorem ne_ll : ¬ (("_looks" : Str) = "_length") := by decide +kernel
theorem ne_ll' : ¬ (("_length" : Str) = "_looks") := by decide +kernel
theorem df_length (L : Int) (la : Addr) : (df L la).lookup ("_length" : Str) = some (.int L) := by simp [df, List.lookup]
theorem df_looks (L : Int) (la : Addr) : (df L la).lookup ("_looks" : Str) = some (.ref la) := by
  have h : (("_looks" : Str) == ("_length" : Str)) = false := by decide +kernel
  simp [df, List.lookup, h]
theorem df_no (L : Int) (la : Addr) {m : Str} (h1 : (m == ("_length" : Str)) = false) (h2 : (m == ("_looks" : Str)) = false) : (df L la).lookup m = none := by simp [df, List.lookup, h1, h2]
theorem df_put1 (v : V) : putF "_length" v [] = [(("_length" : Str), v)] := rfl
theorem df_put2 (L : Int) (la : Addr) : putF "_looks" (.ref la) [("_length", .int L)] = df L la := by
  show (if ("_length" : Str) = "_looks" then _ else _) = _
  rw [if_neg ne_ll']; rfl
theorem df_put3 (L : Int) (la lb : Addr) : putF "_looks" (.ref lb) (df L la) = df L lb := by
  show (if ("_length" : Str) = "_looks" then _ else (("_length" : Str), V.int L) :: putF "_looks" (.ref lb) [("_looks", .ref la)]) = _
  rw [if_neg ne_ll']
  show (("_length" : Str), V.int L) :: (if ("_looks" : Str) = "_looks" then _ else _) = _
  rw [if_pos rfl]; rfl
/-- what is free there was free before -/
structure FreeIn (H H' : Hp) : Prop where
  free : ∀ {b : Addr}, H' b = none → H b = none
structure DarkAt (Z : Ad) (K : PySem.W.Frag) (H : Hp) (d : Addr) (L : Int) (ls : List Lk) : Prop where
  ex : ∃ dx la vs, H d = some (.ins Z.C dx (df L la)) ∧ H la = some (.lst vs) ∧ DpAll K H vs (ls.map encL)
  pos : 0 < L
  big : L.natAbs < 2 ^ 200
  ok : ∀ l ∈ ls, WordOk l.1 ∧ Sized 302 l
  len : ls.length ≤ 60
theorem DarkAt.same {Z : Ad} {K : PySem.W.Frag} {H H' : Hp} {d : Addr} {L : Int} {ls : List Lk} (D : DarkAt Z K H d L ls) (S : Same H H') : DarkAt Z K H' d L ls := by
  obtain ⟨dx, la, vs, h1, h2, h3⟩ := D.ex
  exact ⟨⟨dx, la, vs, S _ _ h1, S _ _ h2, dpAll_mono S _ _ h3⟩, D.pos, D.big, D.ok, D.len⟩
theorem Sized.up {m n : Nat} {l : Lk} (h : Sized m l) (hm : m ≤ n) : Sized n l := ⟨lt_up h.1 hm, lt_up h.2 hm⟩
theorem df_inj {C C' dx dx' : Addr} {L L' : Int} {la la' : Addr} (h : some (HO.ins C dx (df L la)) = some (HO.ins C' dx' (df L' la'))) : la = la' := by
  have h1 : df L la = df L' la' := by injection h with h; injection h
  simp [df] at h1
  exact h1.2
def spInit (Z : Ad) (K : PySem.W.Frag) : Sp := fun vs H Q _ => ∃ (d dx : Addr) (L : Int), vs = [.ref d, .int L] ∧ H d = some (.ins Z.C dx []) ∧ 0 < L ∧ L.natAbs < 2 ^ 200 ∧ ∀ H' : Hp, DarkAt Z K H' d L [] → (∀ la dx, H' d = some (.ins Z.C dx (df L la)) → H la = none) → (∀ b o, H b = some o → b ≠ d → H' b = some o) → Q .non H'
def spLooks (Z : Ad) (K : PySem.W.Frag) : Sp := fun vs H Q _ => ∃ (d : Addr) (L : Int) (ls : List Lk), vs = [.ref d] ∧ DarkAt Z K H d L ls ∧ ∀ (p : Addr) (xs : List V) (H' : Hp), H p = none → Same H H' → H' p = some (.lst xs) → DpAll K H' xs (ls.map encL) → Q (.ref p) H'
def spWord : Sp := fun vs H Q _ => ∃ (d : V) (x : Str), vs = [d, .str x] ∧ WordOk x ∧ Q .non H
def spHome (Z : Ad) (K : PySem.W.Frag) : Sp := fun vs H Q _ => ∃ (d : Addr) (L : Int) (ls : List Lk) (l : Lk), vs = [.ref d, .str l.1, .int l.2.1, .int l.2.2] ∧ DarkAt Z K H d L ls ∧ WordOk l.1 ∧ Sized 300 l ∧ ∀ H' r, Same H H' → Dp K H' r (encL (home L l)) → Q r H'
def spClashing (Z : Ad) (K : PySem.W.Frag) : Sp := fun vs H Q _ => ∃ (d : Addr) (v : V) (L : Int) (ls : List Lk) (l : Lk), vs = [.ref d, v] ∧ DarkAt Z K H d L ls ∧ Dp K H v (encL l) ∧ WordOk l.1 ∧ Sized 302 l ∧
  (ls.find? (fun o => clashB l o L) = none → Q .non H) ∧ ∀ o r, ls.find? (fun o => clashB l o L) = some o → Dp K H r (encL o) → Q r H
/-- what is heard -/
def heard (L : Int) (ls : List Lk) (l : Lk) : List Lk := if home L l ∈ ls then ls else (ls ++ [home L l]).mergeSort (PySem.W.dataLe false encL)
def spHear (Z : Ad) (K : PySem.W.Frag) : Sp := fun vs H Q _ => ∃ (d : Addr) (L : Int) (ls : List Lk) (l : Lk), vs = [.ref d, .str l.1, .int l.2.1, .int l.2.2] ∧ DarkAt Z K H d L ls ∧ WordOk l.1 ∧ Sized 300 l ∧ ls.length < 60 ∧ (∀ o ∈ ls, clashB (home L l) o L = false) ∧
  ∀ H', DarkAt Z K H' d L (heard L ls l) → (∀ la dx, H' d = some (.ins Z.C dx (df L la)) → (∃ dx', H d = some (.ins Z.C dx' (df L la))) ∨ H la = none) → (∀ b o, H b = some o → b ≠ d → H' b = some o) → Q .non H'
def spBound (Z : Ad) (K : PySem.W.Frag) : Sp := fun vs H Q _ => ∃ (d : Addr) (L : Int) (ls : List Lk) (sd : Str) (x : Int), vs = [.ref d, .str sd, .int x] ∧ DarkAt Z K H d L ls ∧ SideOk sd ∧ x.natAbs < 2 ^ 400 ∧
  (sideOf sd ls = [] → ∀ H', Same H H' → Q .non H') ∧ ∀ m H', Same H H' → IsBest sd (sideOf sd ls) x L m → Q (.int m) H'
/-- what a side tells of x: None, or the best place -/
def Tells (sd : Str) (ls : List Lk) (x L : Int) (v : V) : Prop := (sideOf sd ls = [] ∧ v = .non) ∨ ∃ m, v = .int m ∧ IsBest sd (sideOf sd ls) x L m
def spSideOf (Z : Ad) (K : PySem.W.Frag) (sd : Str) : Sp := fun vs H Q _ => ∃ (d : Addr) (L : Int) (ls : List Lk) (x : Int), vs = [.ref d, .int x] ∧ DarkAt Z K H d L ls ∧ x.natAbs < 2 ^ 400 ∧
  ∀ v H', Same H H' → Tells sd ls x L v → Q v H'
theorem same_put {H : Hp} {d C dx : Addr} {fs fs' : List (Str × V)} (h : H d = some (.ins C dx fs)) : FreeIn H (upd H d (.ins C dx fs')) := ⟨fun {b} hb => by
  by_cases e : b = d
  · subst e; rw [upd_same] at hb; cases hb
  · rw [upd_ne e] at hb; exact hb⟩
theorem emod_small {x L : Int} (h : 0 < L) (hb : L.natAbs < 2 ^ 200) : (x - x / L * L).natAbs < 2 ^ 200 := by
  have e : x - x / L * L = x % L := by
    have := Int.mul_ediv_add_emod x L
    rw [Int.mul_comm (x / L) L]; omega
  rw [e]
  have h1 := Int.emod_nonneg x (show L ≠ 0 by omega)
  have h2 := Int.emod_lt_of_pos x h
  have h3 : (x % L).natAbs ≤ L.natAbs := by clear hb; omega
  exact Nat.lt_of_le_of_lt h3 hb
theorem home_sized {L : Int} {l : Lk} (h : 0 < L) (hb : L.natAbs < 2 ^ 200) (hl : Sized 300 l) : Sized 302 (home L l) := by
  have h0 := emod_small (x := l.2.1) h hb
  refine ⟨lt_up h0 (by decide), ?_⟩
  show (l.2.2 - l.2.1 / L * L).natAbs < 2 ^ 302
  have e : l.2.2 - l.2.1 / L * L = l.2.2 + ((l.2.1 - l.2.1 / L * L) - l.2.1) := by omega
  rw [e]
  have h1 : ((l.2.1 - l.2.1 / L * L) - l.2.1).natAbs < 2 ^ 301 := sub_lt (lt_up h0 (by decide)) hl.1
  exact add_lt (lt_up hl.2 (by decide)) h1
section
variable {P : Program} {w : World} {K : PySem.W.Frag} {mg : Str → Option Value} {base : Heap} {Z : Ad}
theorem ok_Dark_init (T : Tx K w mg Z) : FnOk P w K mg base CX0 1 Z.a_Dark_init Z.d_Dark_init P_Dark_init (spInit Z K) := by
  refine T.F_Dark_init.ok scDark_init (fun vs H Q E h => ?_) (fun cdv A outer s H vs Q E hr h => ?_)
  · obtain ⟨d, dx, L, rfl, _⟩ := h
    rfl
  · obtain ⟨d, dx, L, rfl, hd, hL, hLb, k⟩ := h
    refine ⟨_, (C8.pss_cut (ps_if (pt_cmpR op_lt (pv 1) pe_int (nomark _)) (pss_one ps_never) pss_nil)
      (pss_cons (ps_fld (pv 0) (pv 1) rfl)
      (pss_one (ps_fld (pv 0) (pe_lst pa_nil) rfl)))), ?_⟩
    refine ⟨fun σ' H' => σ' = [some (.ref d), some (.int L)] ∧ H' = H, ?_, ?_⟩
    · refine ⟨_, rfl, _, _, rfl, rfl, _, rfl, ?_⟩
      exact ite2 (fun c => (by have c' := of_decide_eq_true c; omega : False)) (fun _ => ⟨rfl, rfl⟩)
    · rintro σ1 H1 ⟨rfl, rfl⟩
      refine ⟨_, rfl, _, rfl, d, Z.C, dx, [], rfl, hd, T.cl, T.n_length, (by show 0 < 1000; decide), ?_⟩
      refine ⟨(by show 0 ≤ sizeLine; decide), fun p hp => ?_⟩
      have h1 : (upd H1 d (.ins Z.C dx (putF "_length" (.int L) []))) d = some (.ins Z.C dx [("_length", .int L)]) := upd_same
      have hdp : d ≠ p := ne_of_none h1 hp
      refine ⟨_, rfl, d, Z.C, dx, [("_length", .int L)], rfl, (upd_ne hdp).trans h1, T.cl, T.n_looks, (by show 1 < 1000; decide), ?_⟩
      refine k _ ⟨⟨dx, p, [], Eq.trans upd_same (congrArg (fun q => some (HO.ins Z.C dx q)) (df_put2 L p)), (upd_ne (Ne.symm hdp)).trans upd_same, .nil⟩, hL, hLb, (fun _ z => absurd z (by simp)), Nat.zero_le _⟩ (fun la' dx' e => ?_) fun b o e hb => ?_
      · rw [upd_same, df_put2] at e
        rw [← df_inj e]
        exact (same_put hd).free hp
      have e1 : (upd H1 d (.ins Z.C dx (putF "_length" (.int L) []))) b = some o := (upd_ne hb).trans e
      exact (upd_ne hb).trans ((upd_ne (ne_of_none e1 hp)).trans e1)
theorem ok_Dark_looks (T : Tx K w mg Z) : FnOk P w K mg base CX0 1 Z.a_Dark_looks Z.d_Dark_looks P_Dark_looks (spLooks Z K) := by
  refine T.F_Dark_looks.ok scDark_looks (fun vs H Q E h => ?_) (fun cdv A outer s H vs Q E hr h => ?_)
  · obtain ⟨d, L, ls, rfl, _⟩ := h
    rfl
  · obtain ⟨d, L, ls, rfl, D, k⟩ := h
    obtain ⟨dx, la, xs, h1, h2, h3⟩ := D.ex
    refine ⟨_, (pss_one (ps_ret (pe_callTy (listK (K := K)) (by rfl) T.b_list (by decide +kernel) (pa_cons (fldK (K := K) (pv 0) rfl) pa_nil)))), ?_⟩
    refine ⟨_, rfl, d, Z.C, dx, _, _, rfl, h1, T.cl, T.n_looks, df_looks _ _, la, xs, rfl, .inl (SqL.of h2), fun p hp => ?_⟩
    exact k p xs _ hp (same_upd hp) upd_same (dpAll_mono (same_upd hp) _ _ h3)
theorem ok_Darkcheck_word (T : Tx K w mg Z) : FnOk P w K mg base CX0 1 Z.a_Darkcheck_word Z.d_Darkcheck_word P_Darkcheck_word (spWord) := by
  refine T.F_Darkcheck_word.ok scDarkcheck_word (fun vs H Q E h => ?_) (fun cdv A outer s H vs Q E hr h => ?_)
  · obtain ⟨d, x, rfl, _⟩ := h
    rfl
  · obtain ⟨d, x, rfl, hx, k⟩ := h
    refine ⟨_, (pss_one (ps_if (pt_cmpR (notInS (K := K)) (pv 1) (pe_glob (v := .ref Z.a_LW) rfl T.g_LOOK_WORDS rfl) (by rfl)) (pss_one ps_never) pss_nil)), ?_⟩
    obtain ⟨_, _, e⟩ := decl_words hx
    refine ⟨_, rfl, _, _, rfl, .inr (T.q_LW _), rfl, rfl, _, rfl, ?_⟩
    have e2 : (if true = true then !inV (V.str x) [V.str "at", V.str "from", V.str "upto"] else inV (V.str x) [V.str "at", V.str "from", V.str "upto"]) = false := by rw [if_pos rfl, e]; rfl
    rw [e2]
    exact iteF k
theorem ok_Darkhome (T : Tx K w mg Z) : FnOk P w K mg base CX0 2 Z.a_Darkhome Z.d_Darkhome P_Darkhome (spHome Z K) := by
  refine T.F_Darkhome.ok scDarkhome (fun vs H Q E h => ?_) (fun cdv A outer s H vs Q E hr h => ?_)
  · obtain ⟨d, L, ls, l, rfl, _⟩ := h
    rfl
  · obtain ⟨d, L, ls, l, rfl, D, hw, hl, k⟩ := h
    obtain ⟨dx, la, xs, h1, h2, h3⟩ := D.ex
    refine ⟨_, (pss_cons (ps_expr (pe_meth (pv 0) T.cl T.m_Darkcheck_word (ok_Darkcheck_word T) (hr.mono (by decide)) T.bb_Darkcheck_word .nil pass0 (pa_cons (pv 1) pa_nil)))
      (pss_cons (ps_set (i := 4) scDarkhome.nd rfl (Or.inl rfl) (pe_op op_fdivW (pv 2) (fldK (K := K) (pv 0) rfl)))
      (pss_one (ps_ret (pe_tup (pa_cons (pv 1) (pa_cons (pe_op op_sub (pv 2) (pe_op op_mulW (pv 4) (fldK (K := K) (pv 0) rfl))) (pa_cons (pe_op op_sub (pv 3) (pe_op op_mulW (pv 4) (fldK (K := K) (pv 0) rfl))) pa_nil)))))))), ?_⟩
    refine ⟨_, rfl, d, dx, _, rfl, h1, df_no _ _ (by decide +kernel) (by decide +kernel), _, rfl, _, _, rfl, hw, ?_⟩
    refine ⟨_, rfl, _, rfl, d, Z.C, dx, _, _, rfl, h1, T.cl, T.n_length, df_length _ _, _, _, rfl, rfl, wide_div D.pos D.big (by decide) (by decide), ?_⟩
    have b1 : (l.2.1 / L).natAbs < 2 ^ 301 := div_lt D.pos hl.1
    refine ⟨_, rfl, _, rfl, _, rfl, _, rfl, d, Z.C, dx, _, _, rfl, h1, T.cl, T.n_length, df_length _ _, _, _, rfl, rfl, wide_mul b1 D.big (by decide) (by decide) (by decide), _, _, rfl, rfl, ?_⟩
    refine ⟨_, rfl, _, rfl, _, rfl, d, Z.C, dx, _, _, rfl, h1, T.cl, T.n_length, df_length _ _, _, _, rfl, rfl, wide_mul b1 D.big (by decide) (by decide) (by decide), _, _, rfl, rfl, (by show 3 ≤ sizeLine; decide), fun p hp => ?_⟩
    exact k _ _ (same_upd hp) (.tup (SqT.of upd_same) (.cons (.str _) (.cons (.int _) (.cons (.int _) .nil))))
theorem ok_Darkclashing (T : Tx K w mg Z) : FnOk P w K mg base CX0 4 Z.a_Darkclashing Z.d_Darkclashing P_Darkclashing (spClashing Z K) := by
  refine T.F_Darkclashing.ok scDarkclashing (fun vs H Q E h => ?_) (fun cdv A outer s H vs Q E hr h => ?_)
  · obtain ⟨d, v, L, ls, l, rfl, _⟩ := h
    rfl
  · obtain ⟨d, v, L, ls, l, rfl, D, hv, hw, hl, k0, k⟩ := h
    obtain ⟨dx, la, xs, h1, h2, h3⟩ := D.ex
    have hxl : xs.length = ls.length := by rw [dpAll_len h3, List.length_map]
    refine ⟨_, (pss_cons (ps_for PassesOwn.never rfl (pi_list (fldK (K := K) (pv 0) rfl)) (pg_name (i := 2) scDarkclashing.nd rfl (Or.inl rfl)) (pss_one (ps_if (pt_val (pe_call (ok_clash T) (hr.mono (by decide)) (by rfl) T.g_clash T.F_clash.kp T.bb_clash .nil pass0 (pa_cons (pv 1) (pa_cons (pv 2) (pa_cons (fldK (K := K) (pv 0) rfl) pa_nil))))) (pss_one (ps_ret (pv 2))) pss_nil)))
      (pss_one (ps_ret pe_non))), ?_⟩
    refine ⟨_, rfl, d, Z.C, dx, _, _, rfl, h1, T.cl, T.n_looks, df_looks _ _, la, rfl, ⟨_, SqL.of h2⟩, ?_⟩
    refine for_list (K := K) (a := la) (xs := xs) (fun i σ' H' => ∃ u, σ' = [some (.ref d), some v, u] ∧ H' = H ∧ (ls.take i).find? (fun o => clashB l o L) = none) ⟨none, rfl, rfl, rfl⟩ (fun i σ' H' _ ⟨_, _, e, _⟩ => by rw [e]; exact SqL.of h2) ?_ ?_
    · rintro i y σ' H' hi ⟨u, rfl, rfl, hno⟩
      obtain ⟨e, hdi, hdy⟩ := dpAll_get h3 hi
      obtain ⟨o, ho, rfl⟩ := map_at hdi
      have hok := D.ok o (List.mem_of_getElem? ho)
      refine ⟨_, rfl, _, rfl, _, rfl, d, Z.C, dx, _, _, rfl, h1, T.cl, T.n_length, df_length _ _, v, y, l, o, L, rfl, hv, hdy, hw, hok.1, D.pos, D.big, hl.up (by decide), hok.2.up (by decide), _, rfl, ?_⟩
      have hsp : ls = ls.take i ++ o :: ls.drop (i + 1) := by
        have h4 := List.getElem?_eq_some_iff.mp ho
        obtain ⟨h5, h6⟩ := h4
        rw [← h6, List.getElem_cons_drop, List.take_append_drop]
      cases c : clashB l o L with
      | true =>
        refine iteT ⟨_, rfl, k o y ?_ hdy⟩
        rw [hsp, List.find?_append, hno, List.find?_cons, c]
        rfl
      | false =>
        refine iteF ⟨_, rfl, rfl, ?_⟩
        rw [take_snoc ho, List.find?_append, hno, List.find?_cons, c]
        rfl
    · rintro σ' H' ⟨u, rfl, rfl, hno⟩
      rw [List.take_of_length_le (by rw [hxl]; exact Nat.le_refl _)] at hno
      exact k0 hno
theorem alike_looks (ls : List Lk) : PySem.W.AllAlike (ls.map encL) := PySem.W.AllAlike.of fun _ _ => by simp [encL, PySem.W.alike, PySem.W.alikeAll]
theorem depth_look (l : Lk) : (encL l).depth = 1 := by simp [encL, PyData.depth, PyData.depthAll]
theorem shaped_look {l : Lk} (h : WordOk l.1) : SeqAt.shaped (encL l) = true := by
  unfold SeqAt.shaped
  rw [lay_look h, depth_look]; rfl
theorem lay_looks : ∀ ls : List Lk, (∀ l ∈ ls, WordOk l.1) → PyData.canLayAll0 (ls.map encL) = true
  | [], _ => rfl
  | l :: ls, h => by
    show PyData.canLayAll0 (encL l :: ls.map encL) = true
    rw [PyData.canLayAll0, lay_look (h l List.mem_cons_self), lay_looks ls fun q hq => h q (List.mem_cons_of_mem _ hq)]; rfl
theorem depth_looks : ∀ ls : List Lk, PyData.depthAll (ls.map encL) ≤ 1
  | [] => by simp [PyData.depthAll]
  | l :: ls => by
    show PyData.depthAll (encL l :: ls.map encL) ≤ 1
    rw [PyData.depthAll, depth_look]
    have := depth_looks ls
    omega
theorem shaped_looks {ls : List Lk} (h : ∀ l ∈ ls, WordOk l.1) : SeqAt.shaped (.list (ls.map encL)) = true := by
  unfold SeqAt.shaped
  rw [PyData.canLay0, lay_looks ls h, PyData.depth]
  have := depth_looks ls
  simp; omega
theorem eqv_look (a b : Lk) : PyData.eqv (encL a) (encL b) = decide (a = b) := by
  obtain ⟨a1, a2, a3⟩ := a
  obtain ⟨b1, b2, b3⟩ := b
  simp [encL, PyData.eqv, PyData.eqvAll]
  by_cases h1 : a1 = b1 <;> by_cases h2 : a2 = b2 <;> by_cases h3 : a3 = b3 <;> simp [h1, h2, h3]
theorem any_look (ls : List Lk) (l : Lk) : ((ls.map encL).any fun z => PyData.eqv z (encL l)) = decide (l ∈ ls) := by
  rw [List.any_map]
  rw [Bool.eq_iff_iff, List.any_eq_true, decide_eq_true_eq]
  constructor
  · rintro ⟨o, ho, e⟩
    have e' : decide (o = l) = true := by rw [← eqv_look]; exact e
    rw [← of_decide_eq_true e']; exact ho
  · intro h
    exact ⟨l, h, by show PyData.eqv (encL l) (encL l) = true; rw [eqv_look]; simp⟩
theorem heard_mem {L : Int} {ls : List Lk} {l o : Lk} : o ∈ heard L ls l ↔ o ∈ ls ∨ o = home L l := by
  unfold heard
  by_cases c : home L l ∈ ls
  · rw [if_pos c]
    exact ⟨.inl, fun h => h.elim id fun e => e ▸ c⟩
  · rw [if_neg c, (List.mergeSort_perm _ _).mem_iff, List.mem_append, List.mem_singleton]
theorem heard_len (L : Int) (ls : List Lk) (l : Lk) : (heard L ls l).length ≤ ls.length + 1 := by
  unfold heard
  split
  · omega
  · rw [(List.mergeSort_perm _ _).length_eq, List.length_append]; simp
theorem ok_Dark_hear (T : Tx K w mg Z) : FnOk P w K mg base CX0 5 Z.a_Dark_hear Z.d_Dark_hear P_Dark_hear (spHear Z K) := by
  refine T.F_Dark_hear.ok scDark_hear (fun vs H Q E h => ?_) (fun cdv A outer s H vs Q E hr h => ?_)
  · obtain ⟨d, L, ls, l, rfl, _⟩ := h
    rfl
  · obtain ⟨d, L, ls, l, rfl, D, hw, hl, hlen, hno, k⟩ := h
    obtain ⟨dx, la, xs, h1, h2, h3⟩ := D.ex
    have hfind : ls.find? (fun o => clashB (home L l) o L) = none := List.find?_eq_none.mpr fun o ho => by rw [hno o ho]; exact Bool.false_ne_true
    have hsz := home_sized D.pos D.big hl
    refine ⟨_, (pss_cons (ps_set (i := 4) scDark_hear.nd rfl (Or.inl rfl) (pe_meth (pv 0) T.cl T.m_Darkhome (ok_Darkhome T) (hr.mono (by decide)) T.bb_Darkhome .nil pass0 (pa_cons (pv 1) (pa_cons (pv 2) (pa_cons (pv 3) pa_nil)))))
      (pss_cons (ps_set (i := 5) scDark_hear.nd rfl (Or.inl rfl) (pe_meth (pv 0) T.cl T.m_Darkclashing (ok_Darkclashing T) (hr.mono (by decide)) T.bb_Darkclashing .nil pass0 (pa_cons (pv 4) pa_nil)))
      (C8.pss_cut (ps_if (pt_cmpR op_notN (pv 5) pe_non (nomark _)) (pss_one ps_never) pss_nil)
      (pss_one (ps_if (pt_cmpR (notInDK (K := K) (rooms hr)) (pv 4) (fldK (K := K) (pv 0) rfl) (by rfl)) (pss_one (ps_fld (pv 0) (pe_callB (sortDK (K := K) encL (rooms hr)) (by rfl) T.b_sorted (by decide +kernel) (pa_cons (pe_op op_cat (fldK (K := K) (pv 0) rfl) (pe_lst (pa_cons (pv 4) pa_nil))) pa_nil)) rfl)) pss_nil))))), ?_⟩
    refine ⟨_, rfl, d, dx, _, rfl, h1, df_no _ _ (by decide +kernel) (by decide +kernel), _, rfl, _, rfl, _, rfl, d, L, ls, l, rfl, D, hw, hl, fun H1 r S hr => ?_⟩
    have D1 := D.same S
    refine ⟨_, rfl, d, dx, _, rfl, S _ _ h1, df_no _ _ (by decide +kernel) (by decide +kernel), _, rfl, d, r, L, ls, home L l, rfl, D1, hr, hw, hsz, fun _ => ?_, fun o r ho => ?_⟩
    · refine ⟨fun σ' H' => σ' = [some (.ref d), some (.str l.1), some (.int l.2.1), some (.int l.2.2), some r, some .non] ∧ H' = H1, ?_, ?_⟩
      · exact ⟨_, rfl, rfl, _, rfl, iteF ⟨rfl, rfl⟩⟩
      · rintro σ2 H2 ⟨rfl, rfl⟩
        have hwords : ∀ o ∈ ls, WordOk o.1 := fun o ho => (D.ok o ho).1
        have hds := dpAll_mono S _ _ h3
        refine ⟨_, rfl, _, rfl, d, Z.C, dx, _, _, rfl, S _ _ h1, T.cl, T.n_looks, df_looks _ _, encL (home L l), ls.map encL, hr, .lst (SqL.of (S _ _ h2)) hds, shaped_look hw, shaped_looks hwords, _, rfl, ?_⟩
        rw [any_look]
        have fin : ∀ H', DarkAt Z K H' d L (heard L ls l) → (∀ la dx, H' d = some (.ins Z.C dx (df L la)) → (∃ dx', H d = some (.ins Z.C dx' (df L la))) ∨ H la = none) → (∀ b o, H2 b = some o → b ≠ d → H' b = some o) → Q .non H' := fun H' DD ff kk => k H' DD ff fun b o e hb => kk b o (S b o e) hb
        have okH : ∀ o ∈ heard L ls l, WordOk o.1 ∧ Sized 302 o := fun o ho => by
          rcases heard_mem.mp ho with h | h
          · exact D.ok o h
          · subst h; exact ⟨hw, hsz⟩
        have lenH : (heard L ls l).length ≤ 60 := Nat.le_trans (heard_len L ls l) hlen
        by_cases c : home L l ∈ ls
        · have e : (!decide (home L l ∈ ls)) = false := by simp [c]
          rw [e]
          refine iteF (fin H2 ?_ (fun la' dx' e => ?_) fun _ _ e _ => e)
          · have eh : heard L ls l = ls := if_pos c
            rw [eh]; exact D1
          · have e2 := e.symm.trans (S _ _ h1)
            rw [df_inj e2]
            exact .inl ⟨dx, h1⟩
        · have e : (!decide (home L l ∈ ls)) = true := by simp [c]
          rw [e]
          refine iteT ⟨_, rfl, d, Z.C, dx, _, _, rfl, S _ _ h1, T.cl, T.n_looks, df_looks _ _, _, rfl, (by show 1 ≤ sizeLine; decide), fun p hp => ?_⟩
          have S2 := same_upd (o := HO.lst [r]) hp
          have h2' := S2 _ _ (S _ _ h2)
          refine ⟨la, p, xs, [r], rfl, rfl, h2', upd_same, ?_, fun p2 hp2 => ?_⟩
          · have : xs.length = ls.length := by rw [dpAll_len h3, List.length_map]
            exact Nat.le_of_lt (small1000 (by simp; omega))
          have S3 := S2.trans (same_upd (o := HO.lst (xs ++ [r])) hp2)
          have hall : DpAll K (upd (upd H2 p (.lst [r])) p2 (.lst (xs ++ [r]))) (xs ++ [r]) ((ls ++ [home L l]).map encL) := by
            rw [List.map_append]
            exact dpAll_snoc (dpAll_mono S3 _ _ hds) (dp_mono S3 _ _ hr)
          refine ⟨p2, xs ++ [r], ls ++ [home L l], rfl, SqL.of upd_same, hall, alike_looks _, PySem.W.Sortable.tuples fun _ => ⟨_, _, rfl⟩, fun b _ => by rw [depth_look]; decide, fun p3 ys H3 hp3 S4 hy hys => ?_⟩
          have S5 := S3.trans S4
          have h1' := S5 _ _ (S _ _ h1)
          have hd3 : d ≠ p3 := fun e => by
            subst e
            rw [(S3 _ _ (S _ _ h1))] at hp3
            cases hp3
          refine ⟨_, rfl, d, Z.C, dx, df L la, rfl, h1', T.cl, T.n_looks, (by show 2 < 1000; decide), ?_⟩
          refine fin _ ⟨⟨dx, p3, ys, Eq.trans upd_same (congrArg (fun q => some (HO.ins Z.C dx q)) (df_put3 L la p3)), (upd_ne (Ne.symm hd3)).trans hy, ?_⟩, D.pos, D.big, okH, lenH⟩ (fun la' dx' e => ?_) fun b o e hb => (upd_ne hb).trans (S5 _ _ e)
          rotate_left
          · rw [upd_same, df_put3] at e
            rw [← df_inj e]
            exact .inr (S.free (S3.free hp3))
          have eh : heard L ls l = (ls ++ [home L l]).mergeSort (PySem.W.dataLe false encL) := if_neg c
          rw [eh]
          exact dpAll_tups (Tups.upd_ins h1') _ _ (noLs_map noL_encL _) hys
    · rw [hfind] at ho; cases ho
theorem ok_Darkbound (T : Tx K w mg Z) : FnOk P w K mg base CX0 3 Z.a_Darkbound Z.d_Darkbound P_Darkbound (spBound Z K) := by
  refine T.F_Darkbound.ok scDarkbound (fun vs H Q E h => ?_) (fun cdv A outer s H vs Q E hr h => ?_)
  · obtain ⟨d, L, ls, sd, x, rfl, _⟩ := h
    rfl
  · obtain ⟨d, L, ls, sd, x, rfl, D, hsd, hx, k0, k⟩ := h
    obtain ⟨dx, la, xs, h1, h2, h3⟩ := D.ex
    refine ⟨_, (pss_cons (ps_set (i := 3) scDarkbound.nd rfl (Or.inl rfl) (pe_call (ok_best_step T) (hr.mono (by decide)) (by rfl) T.g_best_step T.F_best_step.kp T.bb_best_step .nil pass0 (pa_cons (pe_call (ok_side_looks T) (hr.mono (by decide)) (by rfl) T.g_side_looks T.F_side_looks.kp T.bb_side_looks .nil pass0 (pa_cons (fldK (K := K) (pv 0) rfl) (pa_cons (pv 1) pa_nil))) (pa_cons (pv 1) (pa_cons (pv 2) (pa_cons (fldK (K := K) (pv 0) rfl) pa_nil))))))
      (pss_one (ps_ret (pe_ifExp (pt_cmpR op_isN (pv 3) pe_non (nomark _)) pe_non (pe_ix (ixT (K := K)) (pv 3) pe_int (fun _ _ => rfl)))))), ?_⟩
    refine ⟨_, rfl, d, Z.C, dx, _, _, rfl, h1, T.cl, T.n_looks, df_looks _ _, _, rfl, .ref la, ls, sd, rfl, .lst (SqL.of h2) h3, hsd, fun l hl => (D.ok l hl).1, Nat.le_trans D.len (by decide), fun H1 r _ S hr0 => ?_⟩
    have hr : Dp K H1 (.ref r) (.list ((sideOf sd ls).map encL)) := by
      obtain ⟨vs, q1, q2⟩ := hr0
      exact .lst (SqL.of q1) q2
    refine ⟨_, rfl, _, rfl, _, rfl, d, Z.C, dx, _, _, rfl, S _ _ h1, T.cl, T.n_length, df_length _ _, ?_⟩
    refine ⟨.ref r, sideOf sd ls, sd, x, L, rfl, hr, hsd, fun l hl => ⟨(D.ok l (List.mem_filter.mp hl).1).1, (D.ok l (List.mem_filter.mp hl).1).2.up (by decide)⟩, Nat.le_trans (List.length_filter_le _ _) (Nat.le_trans D.len (by decide)), D.pos, D.big, hx, fun e => ?_, fun H2 r2 l hl S2 hb hr2 => ?_⟩
    · exact ⟨_, rfl, rfl, _, rfl, iteT (k0 e _ S)⟩
    · have hr2' : Dp K H2 r2 (.tuple [.int (plc sd l x L), encL l]) := hr2
      cases hr2' with
      | tup s a =>
        cases a with
        | cons a1 a =>
          cases a1
          cases a with
          | cons a2 a =>
          cases a
          refine ⟨_, rfl, rfl, _, rfl, ?_⟩
          refine iteF ⟨_, rfl, _, _, _, _, rfl, rfl, s, rfl, ?_⟩
          exact k _ _ (S.trans S2) hb
theorem ok_Dark_least (T : Tx K w mg Z) : FnOk P w K mg base CX0 4 Z.a_Dark_least Z.d_Dark_least P_Dark_least (spSideOf Z K "slow") := by
  refine T.F_Dark_least.ok scDark_least (fun vs H Q E h => ?_) (fun cdv A outer s H vs Q E hr h => ?_)
  · obtain ⟨d, L, ls, x, rfl, _⟩ := h
    rfl
  · obtain ⟨d, L, ls, x, rfl, D, hx, k⟩ := h
    obtain ⟨dx, la, xs, h1, h2, h3⟩ := D.ex
    refine ⟨_, (pss_one (ps_ret (pe_meth (pv 0) T.cl T.m_Darkbound (ok_Darkbound T) (hr.mono (by decide)) T.bb_Darkbound .nil pass0 (pa_cons (pe_glob rfl T.g_SLOW T.r_SLOW) (pa_cons (pv 1) pa_nil))))), ?_⟩
    exact ⟨_, rfl, d, dx, _, rfl, h1, df_no _ _ (by decide +kernel) (by decide +kernel), _, rfl, d, L, ls, "slow", x, rfl, D, .inl rfl, hx, fun e H1 S => k _ H1 S (.inl ⟨e, rfl⟩), fun m H1 S hb => k _ H1 S (.inr ⟨m, rfl, hb⟩)⟩
theorem ok_Dark_greatest (T : Tx K w mg Z) : FnOk P w K mg base CX0 4 Z.a_Dark_greatest Z.d_Dark_greatest P_Dark_greatest (spSideOf Z K "fast") := by
  refine T.F_Dark_greatest.ok scDark_greatest (fun vs H Q E h => ?_) (fun cdv A outer s H vs Q E hr h => ?_)
  · obtain ⟨d, L, ls, x, rfl, _⟩ := h
    rfl
  · obtain ⟨d, L, ls, x, rfl, D, hx, k⟩ := h
    obtain ⟨dx, la, xs, h1, h2, h3⟩ := D.ex
    refine ⟨_, (pss_one (ps_ret (pe_meth (pv 0) T.cl T.m_Darkbound (ok_Darkbound T) (hr.mono (by decide)) T.bb_Darkbound .nil pass0 (pa_cons (pe_glob rfl T.g_FAST T.r_FAST) (pa_cons (pv 1) pa_nil))))), ?_⟩
    exact ⟨_, rfl, d, dx, _, rfl, h1, df_no _ _ (by decide +kernel) (by decide +kernel), _, rfl, d, L, ls, "fast", x, rfl, D, .inr rfl, hx, fun e H1 S => k _ H1 S (.inl ⟨e, rfl⟩), fun m H1 S hb => k _ H1 S (.inr ⟨m, rfl, hb⟩)⟩
end
end KA
namespace KA
open PySem PySem.Spec PyProof.Rows L2 DP
/-! What the looks of a side tell, in plain Lean (laws that do without the tray's Law6). -/
theorem side_low {x : Str} (h : onSide "slow" x = true) : x = "at" ∨ x = "from" := by
  unfold onSide at h
  rw [if_pos rfl, Bool.or_eq_true, decide_eq_true_eq, decide_eq_true_eq] at h
  exact h
theorem side_high {x : Str} (h : onSide "fast" x = true) : x = "at" ∨ x = "upto" := by
  unfold onSide at h
  rw [if_neg slow_ne, Bool.or_eq_true, decide_eq_true_eq, decide_eq_true_eq] at h
  exact h
theorem plc_home {L : Int} (hL : 0 < L) (sd : Str) (l : Lk) (x : Int) : plc sd (home L l) x L = plc sd l x L := by
  unfold plc home
  split
  · show l.2.2 - l.2.1 / L * L + (x - (l.2.1 - l.2.1 / L * L)) / L * L = l.2.2 + (x - l.2.1) / L * L
    have e : x - (l.2.1 - l.2.1 / L * L) = (x - l.2.1) + l.2.1 / L * L := by omega
    rw [e, Int.add_mul_ediv_right _ _ (by omega), Int.add_mul]; omega
  · show l.2.2 - l.2.1 / L * L - (l.2.1 - l.2.1 / L * L - x) / L * L = l.2.2 - (l.2.1 - x) / L * L
    have e : l.2.1 - l.2.1 / L * L - x = (l.2.1 - x) + (-(l.2.1 / L)) * L := by rw [Int.neg_mul]; omega
    rw [e, Int.add_mul_ediv_right _ _ (by omega), Int.add_mul, Int.neg_mul]; omega
theorem fold_mem {L : Int} : ∀ (ls acc : List Lk) (o : Lk), o ∈ ls.foldl (heard L) acc ↔ o ∈ acc ∨ ∃ l ∈ ls, o = home L l
  | [], acc, o => by simp
  | l :: ls, acc, o => by
    rw [List.foldl_cons, fold_mem ls, heard_mem]
    constructor
    · rintro ((h | h) | ⟨q, hq, e⟩)
      · exact .inl h
      · exact .inr ⟨l, List.mem_cons_self, h⟩
      · exact .inr ⟨q, List.mem_cons_of_mem _ hq, e⟩
    · rintro (h | ⟨q, hq, e⟩)
      · exact .inl (.inl h)
      · rcases List.mem_cons.mp hq with h | h
        · subst h; exact .inl (.inr e)
        · exact .inr ⟨q, h, e⟩
theorem fold_len {L : Int} : ∀ (ls acc : List Lk), (ls.foldl (heard L) acc).length ≤ acc.length + ls.length
  | [], acc => by simp
  | l :: ls, acc => by
    have h1 := fold_len (L := L) ls (heard L acc l)
    have h2 := heard_len L acc l
    rw [List.foldl_cons, List.length_cons]; omega
theorem mem_side {sd : Str} {ls : List Lk} {l : Lk} : l ∈ sideOf sd ls ↔ l ∈ ls ∧ onSide sd l.1 = true := by
  unfold sideOf; rw [List.mem_filter]
/-- the best of the looks is the best of them brought home -/
theorem best_home {L : Int} (hL : 0 < L) {sd : Str} {ls hs : List Lk} {x m : Int} (hh : ∀ o, o ∈ hs ↔ ∃ l ∈ ls, o = home L l) (h : IsBest sd (sideOf sd hs) x L m) : IsBest sd (sideOf sd ls) x L m := by
  obtain ⟨⟨o, ho, e⟩, h2⟩ := h
  obtain ⟨ho1, ho2⟩ := mem_side.mp ho
  obtain ⟨l, hl, rfl⟩ := (hh o).mp ho1
  rw [plc_home hL] at e
  refine ⟨⟨l, mem_side.mpr ⟨hl, ho2⟩, e⟩, fun q hq => ?_⟩
  obtain ⟨hq1, hq2⟩ := mem_side.mp hq
  have := h2 (home L q) (mem_side.mpr ⟨(hh _).mpr ⟨q, hq1, rfl⟩, hq2⟩)
  rw [plc_home hL] at this
  exact this
theorem best_one {sd : Str} {ls : List Lk} {x L m m' : Int} (h : IsBest sd ls x L m) (h' : IsBest sd ls x L m') : m = m' := by
  obtain ⟨⟨a, ha, ea⟩, h2⟩ := h
  obtain ⟨⟨b, hb, eb⟩, h2'⟩ := h'
  have q1 := h2 b hb
  have q2 := h2' a ha
  rw [eb] at q1
  rw [ea] at q2
  split at q1 <;> split at q2 <;> first | omega | (exfalso; simp_all)
theorem side_nil {L : Int} {sd : Str} {ls hs : List Lk} (hh : ∀ o, o ∈ hs ↔ ∃ l ∈ ls, o = home L l) : sideOf sd hs = [] ↔ sideOf sd ls = [] := by
  constructor
  · intro h
    refine List.eq_nil_iff_forall_not_mem.mpr fun l hl => ?_
    obtain ⟨h1, h2⟩ := mem_side.mp hl
    have : home L l ∈ sideOf sd hs := mem_side.mpr ⟨(hh _).mpr ⟨l, h1, rfl⟩, h2⟩
    rw [h] at this; cases this
  · intro h
    refine List.eq_nil_iff_forall_not_mem.mpr fun o ho => ?_
    obtain ⟨h1, h2⟩ := mem_side.mp ho
    obtain ⟨l, hl, rfl⟩ := (hh o).mp h1
    have : l ∈ sideOf sd ls := mem_side.mpr ⟨hl, h2⟩
    rw [h] at this; cases this
theorem plc_shift {L : Int} (hL : 0 < L) (sd : Str) (l : Lk) (x k : Int) : plc sd l (x + k * L) L = plc sd l x L + k * L := by
  unfold plc
  split
  · have e : x + k * L - l.2.1 = (x - l.2.1) + k * L := by omega
    rw [e, Int.add_mul_ediv_right _ _ (by omega), Int.add_mul]; omega
  · have e : l.2.1 - (x + k * L) = (l.2.1 - x) + (-k) * L := by rw [Int.neg_mul]; omega
    rw [e, Int.add_mul_ediv_right _ _ (by omega), Int.add_mul, Int.neg_mul]; omega
theorem far_home {L : Int} (hL : 0 < L) (a b : Lk) : tooFar (home L a) (home L b) L = tooFar a b L := by
  unfold tooFar
  have e1 : (home L b).2.2 = b.2.2 - b.2.1 / L * L := rfl
  have e2 : (home L b).2.1 = b.2.1 + (-(b.2.1 / L)) * L := by show b.2.1 - b.2.1 / L * L = _; rw [Int.neg_mul]; omega
  rw [e1, e2, plc_home hL, plc_shift hL, Int.neg_mul]
  congr 1
  rw [decide_eq_decide]
  constructor <;> intro h <;> omega
theorem clash_home {L : Int} (hL : 0 < L) (a b : Lk) : clashB (home L a) (home L b) L = clashB a b L := by
  unfold clashB
  rw [far_home hL, far_home hL]
/-- the best place, as a number -/
noncomputable def bst (sd : Str) (ls : List Lk) (x L : Int) : Int := by
  classical exact if h : ∃ m, IsBest sd ls x L m then h.choose else 0
theorem bst_of {sd : Str} {ls : List Lk} {x L m : Int} (h : IsBest sd ls x L m) : bst sd ls x L = m := by
  have e : ∃ m, IsBest sd ls x L m := ⟨m, h⟩
  unfold bst
  rw [dif_pos e]
  exact best_one e.choose_spec h
theorem bst_slow {ls : List Lk} (h : ls ≠ []) (x L : Int) : IsBest "slow" ls x L (bst "slow" ls x L) := by
  cases ls with
  | nil => exact absurd rfl h
  | cons l r =>
    obtain ⟨q, _, _, b⟩ := max_step x L l r
    rw [bst_of b]; exact b
theorem bst_fast {ls : List Lk} (h : ls ≠ []) (x L : Int) : IsBest "fast" ls x L (bst "fast" ls x L) := by
  cases ls with
  | nil => exact absurd rfl h
  | cons l r =>
    obtain ⟨q, _, _, b⟩ := min_step x L l r
    rw [bst_of b]; exact b
theorem plc_mono {L : Int} (hL : 0 < L) (sd : Str) (l : Lk) {x y : Int} (h : x ≤ y) : plc sd l x L ≤ plc sd l y L := by
  unfold plc
  split
  · have h1 := Int.mul_le_mul_of_nonneg_right (Int.ediv_le_ediv hL (by omega : x - l.2.1 ≤ y - l.2.1)) (Int.le_of_lt hL)
    omega
  · have h1 := Int.mul_le_mul_of_nonneg_right (Int.ediv_le_ediv hL (by omega : l.2.1 - y ≤ l.2.1 - x)) (Int.le_of_lt hL)
    omega
theorem best_mono {L : Int} (hL : 0 < L) {sd : Str} {ls : List Lk} {x y m m' : Int} (h : IsBest sd ls x L m) (h' : IsBest sd ls y L m') (hxy : x ≤ y) : m ≤ m' := by
  obtain ⟨⟨l, hl, e⟩, h2⟩ := h
  obtain ⟨⟨l', hl', e'⟩, h2'⟩ := h'
  have q1 := h2' l hl
  have q2 := h2 l' hl'
  by_cases c : sd = "slow"
  · rw [if_pos c] at q1
    have := plc_mono hL sd l hxy
    omega
  · rw [if_neg c] at q2
    have := plc_mono hL sd l' hxy
    omega
theorem best_shift {L : Int} (hL : 0 < L) {sd : Str} {ls : List Lk} {x m : Int} (k : Int) (h : IsBest sd ls x L m) : IsBest sd ls (x + k * L) L (m + k * L) := by
  obtain ⟨⟨l, hl, e⟩, h2⟩ := h
  refine ⟨⟨l, hl, by rw [plc_shift hL, e]⟩, fun q hq => ?_⟩
  have := h2 q hq
  rw [plc_shift hL]
  split at this
  · rw [if_pos (by assumption)]; omega
  · rw [if_neg (by assumption)]; omega
theorem far_le {L : Int} {a b : Lk} (h : tooFar a b L = false) (ha : onSide "slow" a.1 = true) (hb : onSide "fast" b.1 = true) : plc "slow" a b.2.1 L ≤ b.2.2 := by
  unfold tooFar at h
  rw [ha, hb, Bool.true_and, Bool.true_and, decide_eq_false_iff_not] at h
  omega
theorem far_no {L : Int} {a b : Lk} (h : onSide "slow" a.1 = true → onSide "fast" b.1 = true → plc "slow" a b.2.1 L ≤ b.2.2) : tooFar a b L = false := by
  unfold tooFar
  cases c1 : onSide "slow" a.1 with
  | false => rfl
  | true =>
    cases c2 : onSide "fast" b.1 with
    | false => rfl
    | true =>
      rw [Bool.true_and, Bool.true_and, decide_eq_false_iff_not]
      have := h c1 c2
      omega
theorem no_far_of {L : Int} {a b : Lk} (h : clashB a b L = false) : tooFar a b L = false ∧ tooFar b a L = false := by
  unfold clashB at h
  rw [Bool.or_eq_false_iff] at h
  exact h
theorem cross {L : Int} (hL : 0 < L) {a b : Lk} (h : plc "slow" a b.2.1 L ≤ b.2.2) (x : Int) : plc "slow" a x L ≤ plc "fast" b x L := by
  rw [plc_fast]
  have hj : (b.2.1 - x) / L * L ≤ b.2.1 - x := by
    have := Int.mul_ediv_add_emod (b.2.1 - x) L
    have h0 := Int.emod_nonneg (b.2.1 - x) (show L ≠ 0 by omega)
    rw [Int.mul_comm] at this
    omega
  generalize (b.2.1 - x) / L = j at hj ⊢
  have h1 := plc_mono hL "slow" a (by omega : x + j * L ≤ b.2.1)
  rw [plc_shift hL] at h1
  omega
theorem low_high {L : Int} (hL : 0 < L) {hs : List Lk} (hnc : ∀ a ∈ hs, ∀ b ∈ hs, clashB a b L = false) {x m m' : Int} (h : IsBest "slow" (sideOf "slow" hs) x L m) (h' : IsBest "fast" (sideOf "fast" hs) x L m') : m ≤ m' := by
  obtain ⟨⟨l, hl, e⟩, _⟩ := h
  obtain ⟨⟨l', hl', e'⟩, _⟩ := h'
  obtain ⟨h1, h2⟩ := mem_side.mp hl
  obtain ⟨h1', h2'⟩ := mem_side.mp hl'
  rw [← e, ← e']
  exact cross hL (far_le (no_far_of (hnc l h1 l' h1')).1 h2 h2') x
end KA
namespace KA
open PySem PySem.Spec PyProof.Rows L2 DP
/-- the length of the list at g -/
def lenAt (H : Hp) (g : Addr) : Nat := match H g with | some (.lst xs) => xs.length | _ => 0
theorem lenAt_of {H : Hp} {g : Addr} {xs : List V} (h : H g = some (.lst xs)) : lenAt H g = xs.length := by unfold lenAt; rw [h]
theorem atI_last {α : Type} {xs : List α} (h : 0 < xs.length) : atI xs (-1) = xs[xs.length - 1]? := by
  unfold atI ixN
  rw [if_neg (by decide), if_pos (by omega)]
  show xs[_]? = _
  congr 1
  omega
theorem same_made {H : Hp} {d dx : Addr} {o : HO} (hdn : H d = none) (hdx : H dx = none) : Same H (upd (upd H dx (.own d)) d o) := fun b o e => by
  rw [upd_ne (ne_of_none e hdn), upd_ne (ne_of_none e hdx)]; exact e
/-- all stands but one object -/
def Out (d : Addr) (H H' : Hp) : Prop := ∀ c o, H c = some o → c ≠ d → H' c = some o
theorem Out.tups {d C dx : Addr} {fs : List (Str × V)} {H H' : Hp} (k : Out d H H') (h : H d = some (.ins C dx fs)) : Tups H H' := fun c zs hc => by
  have hcb : c ≠ d := by
    rintro rfl
    rcases hc with e | ⟨q, e⟩ <;> rw [h] at e <;> cases e
  rcases hc with e | ⟨q, e⟩
  · exact .inl (k _ _ e hcb)
  · exact .inr ⟨q, k _ _ e hcb⟩
theorem Out.dark {Z : Ad} {K : PySem.W.Frag} {H H' : Hp} {d e C dx : Addr} {fs : List (Str × V)} {L : Int} {ls : List Lk} (k : Out d H H') (D : DarkAt Z K H e L ls) (h : H d = some (.ins C dx fs)) (hne : e ≠ d) : DarkAt Z K H' e L ls := by
  obtain ⟨dx2, la, vs, h1, h2, h3⟩ := D.ex
  exact ⟨⟨dx2, la, vs, k _ _ h1 hne, k _ _ h2 (fun q => by rw [q, h] at h2; cases h2), dpAll_tups (k.tups h) _ _ (noLs_map noL_encL ls) h3⟩, D.pos, D.big, D.ok, D.len⟩
theorem Out.sqL {K : PySem.W.Frag} {H H' : Hp} {d C dx p : Addr} {fs : List (Str × V)} {xs : List V} (k : Out d H H') (h : H d = some (.ins C dx fs)) (q : SqL K H p xs) : SqL K H' p xs := by
  rcases q with q | q
  · have hp : p ≠ d := by
      rintro rfl
      rcases q with e | ⟨z, e⟩ <;> rw [h] at e <;> cases e
    rcases q with e | ⟨z, e⟩
    · exact .inl (.inl (k _ _ e hp))
    · exact .inl (.inr ⟨z, k _ _ e hp⟩)
  · exact .inr q
end KA
namespace KA
open PySem PySem.Spec PyProof.Rows L2 DP RZ
/-- a comprehension over zip of two lists of one length -/
theorem lc_zip {K : PySem.W.Frag} {a b : Addr} {xs ys : List V} {g : TG} {tt : TT} {te : TE} {vs : List Nat} {σ : L2.St} {H1 : Hp} {D : Addr} {Qd : Hp → Prop} (hl : xs.length = ys.length) (Pv : Nat → Hp → Prop) (h0 : Pv 0 (upd H1 D (.lst []))) (hq : ∀ i H, Pv i H → SqL K H a xs ∧ SqL K H b ys)
    (hs : ∀ i x y T H, xs[i]? = some x → ys[i]? = some y → Pv i H → H T = none → g (.ref T) (wipe σ vs) (upd H T (.tup [x, y])) fun σ2 H2 => wipe σ2 vs = wipe σ vs ∧ tt σ2 H2 fun b H3 =>
      if b = true then te σ2 H3 fun y H4 => ∃ acc, H4 D = some (.lst acc) ∧ acc.length < sizeLine ∧ Pv (i + 1) (upd H4 D (.lst (acc ++ [y]))) else Pv (i + 1) H3) (hd : ∀ H, Pv xs.length H → Qd H) :
    ∃ W : Nat → Nat → Hp → Prop, (∃ m, W 0 m (upd H1 D (.lst []))) ∧ ∀ i m H, W i m H →
      ((Itz K a b).stop i H ∧ Qd H) ∨ ((Itz K a b).go i H ∧ ∃ Nx : Hp → Prop, (∀ H', Nx H' → ∃ m', m' < m ∧ W (i + 1) m' H') ∧ ∀ x H', (Itz K a b).yld i H x H' → g x (wipe σ vs) H' fun σ2 H2 => wipe σ2 vs = wipe σ vs ∧ tt σ2 H2 fun b H3 =>
        if b = true then te σ2 H3 fun y H4 => ∃ acc, H4 D = some (.lst acc) ∧ acc.length < sizeLine ∧ Nx (upd H4 D (.lst (acc ++ [y]))) else Nx H3) := by
  refine ⟨fun i m H => m = xs.length - i ∧ i ≤ xs.length ∧ Pv i H, ⟨xs.length, rfl, Nat.zero_le _, h0⟩, ?_⟩
  rintro i m H ⟨rfl, hi, p⟩
  obtain ⟨qx, qy⟩ := hq i H p
  by_cases hlt : i < xs.length
  · have hx : xs[i]? = some xs[i] := List.getElem?_eq_getElem hlt
    have hlt2 : i < ys.length := by omega
    have hy : ys[i]? = some ys[i] := List.getElem?_eq_getElem hlt2
    refine .inr ⟨⟨xs, ys, _, _, qx, qy, hx, hy⟩, Pv (i + 1), fun H' p' => ⟨xs.length - (i + 1), by omega, rfl, hlt, p'⟩, fun v H' y => ?_⟩
    obtain ⟨T, x', y', rfl, hT, rfl, f1, f2⟩ := y
    exact hs i x' y' T H (f1 xs qx) (f2 ys qy) p hT
  · have e : i = xs.length := by omega
    subst e
    exact .inl ⟨⟨xs, ys, qx, qy, Or.inl (Nat.le_refl _)⟩, hd H p⟩
end KA
namespace KA
open PySem PySem.Spec PyProof.Rows L2 DP
/-! ### hands under which nobody overtakes, and looks that they fit -/
structure Hand (L : Int) (f : Int → Int) : Prop where
  mono : ∀ x y, x ≤ y → f x ≤ f y
  turn : ∀ x k, f (x + k * L) = f x + k * L
def Fits (f : Int → Int) (l : Lk) : Prop := (onSide "slow" l.1 = true → l.2.2 ≤ f l.2.1) ∧ (onSide "fast" l.1 = true → f l.2.1 ≤ l.2.2)
theorem fit_low {L : Int} (hL : 0 < L) {f : Int → Int} (F : Hand L f) {l : Lk} (h : Fits f l) (hs : onSide "slow" l.1 = true) (x : Int) : plc "slow" l x L ≤ f x := by
  have h1 := h.1 hs
  have h2 := Int.mul_ediv_add_emod (x - l.2.1) L
  have h3 := Int.emod_nonneg (x - l.2.1) (show L ≠ 0 by omega)
  rw [Int.mul_comm] at h2
  have h4 := F.mono (l.2.1 + (x - l.2.1) / L * L) x (by omega)
  rw [F.turn] at h4
  rw [plc_slow]; omega
theorem fit_high {L : Int} (hL : 0 < L) {f : Int → Int} (F : Hand L f) {l : Lk} (h : Fits f l) (hs : onSide "fast" l.1 = true) (x : Int) : f x ≤ plc "fast" l x L := by
  have h1 := h.2 hs
  have h2 := Int.mul_ediv_add_emod (l.2.1 - x) L
  have h3 := Int.emod_nonneg (l.2.1 - x) (show L ≠ 0 by omega)
  rw [Int.mul_comm] at h2
  have h4 := F.mono x (l.2.1 + (-((l.2.1 - x) / L)) * L) (by rw [Int.neg_mul]; omega)
  rw [F.turn, Int.neg_mul] at h4
  rw [plc_fast]; omega
theorem fit_far {L : Int} (hL : 0 < L) {f : Int → Int} (F : Hand L f) {a b : Lk} (ha : Fits f a) (hb : Fits f b) : tooFar a b L = false :=
  far_no fun h1 h2 => Int.le_trans (fit_low hL F ha h1 b.2.1) (hb.2 h2)
theorem fit_clash {L : Int} (hL : 0 < L) {f : Int → Int} (F : Hand L f) {a b : Lk} (ha : Fits f a) (hb : Fits f b) : clashB a b L = false := by
  unfold clashB
  rw [fit_far hL F ha hb, fit_far hL F hb ha]; rfl
theorem fit_home {L : Int} {f : Int → Int} (F : Hand L f) {l : Lk} (h : Fits f l) : Fits f (home L l) := by
  have e : f (home L l).2.1 = f l.2.1 - l.2.1 / L * L := by
    show f (l.2.1 - l.2.1 / L * L) = _
    have := F.turn l.2.1 (-(l.2.1 / L))
    rw [Int.neg_mul] at this
    rw [Int.sub_eq_add_neg, this]; omega
  refine ⟨fun hs => ?_, fun hs => ?_⟩
  · have := h.1 hs
    rw [e]
    show l.2.2 - l.2.1 / L * L ≤ _
    omega
  · have := h.2 hs
    rw [e]
    show _ ≤ l.2.2 - l.2.1 / L * L
    omega
/-- some places, and where they are led: rising, within a turn -/
structure Rises (L : Int) (prs : List (Int × Int)) : Prop where
  ne : prs ≠ []
  ord : prs.Pairwise fun a b => a.1 < b.1 ∧ a.2 ≤ b.2
  on : ∀ s ∈ prs, 0 ≤ s.1 ∧ s.1 < L
  turn : ∃ b : Int, b.natAbs < 2 ^ 104 ∧ ∀ s ∈ prs, b ≤ s.2 ∧ s.2 ≤ b + L
theorem pw_at {α : Type} {R : α → α → Prop} {l : List α} (h : l.Pairwise R) {a b : α} (ha : a ∈ l) (hb : b ∈ l) : a = b ∨ R a b ∨ R b a := by
  obtain ⟨i, hi, rfl⟩ := List.getElem_of_mem ha
  obtain ⟨j, hj, rfl⟩ := List.getElem_of_mem hb
  rw [List.pairwise_iff_getElem] at h
  rcases Nat.lt_trichotomy i j with e | e | e
  · exact .inr (.inl (h i j hi hj e))
  · subst e; exact .inl rfl
  · exact .inr (.inr (h j i hj hi e))
def atL (s : Int × Int) : Lk := ("at", s.1, s.2)
theorem Rises.lead {L : Int} (hL : 0 < L) {prs : List (Int × Int)} (R : Rises L prs) : ∃ f, Hand L f ∧ ∀ s ∈ prs, f s.1 = s.2 := by
  have hne : prs.map atL ≠ [] := fun e => R.ne (List.map_eq_nil_iff.mp e)
  refine ⟨fun x => bst "slow" (prs.map atL) x L, ⟨fun x y h => best_mono hL (bst_slow hne x L) (bst_slow hne y L) h, fun x k => bst_of (best_shift hL k (bst_slow hne x L))⟩, fun s hs => bst_of ⟨⟨atL s, List.mem_map.mpr ⟨s, hs, rfl⟩, ?_⟩, fun l hl => ?_⟩⟩
  · rw [plc_slow]
    show s.2 + (s.1 - s.1) / L * L = s.2
    rw [Int.sub_self, Int.zero_ediv, Int.zero_mul, Int.add_zero]
  · obtain ⟨q, hq, rfl⟩ := List.mem_map.mp hl
    rw [if_pos rfl, plc_slow]
    show q.2 + (s.1 - q.1) / L * L ≤ s.2
    have h1 := R.on s hs
    have h2 := R.on q hq
    obtain ⟨b, _, hb⟩ := R.turn
    have h3 := hb s hs
    have h4 := hb q hq
    rcases pw_at R.ord hq hs with e | e | e
    · rw [e, Int.sub_self, Int.zero_ediv, Int.zero_mul]; omega
    · rw [Int.ediv_eq_zero_of_lt (by omega) (by omega), Int.zero_mul]; omega
    · have e2 : (s.1 - q.1) / L = -1 := by
        have e1 : s.1 - q.1 = (s.1 - q.1 + L) + (-1) * L := by omega
        rw [e1, Int.add_mul_ediv_right _ _ (by omega), Int.ediv_eq_zero_of_lt (by omega) (by omega)]
        rfl
      rw [e2]; omega
/-- a look that is said of such places -/
def Said (L : Int) (prs : List (Int × Int)) (l : Lk) : Prop := WordOk l.1 ∧ ∃ s ∈ prs, l.2.1 = s.1 ∧ (l.1 = "at" → l.2.2 = s.2) ∧ (l.1 = "from" → l.2.2 ≤ s.2 ∧ s.2 ≤ l.2.2 + L) ∧ (l.1 = "upto" → s.2 ≤ l.2.2 ∧ l.2.2 ≤ s.2 + L)
theorem Said.fits {L : Int} {prs : List (Int × Int)} {f : Int → Int} (hf : ∀ s ∈ prs, f s.1 = s.2) {l : Lk} (h : Said L prs l) : Fits f l := by
  obtain ⟨_, s, hs, e, h1, h2, h3⟩ := h
  rw [Fits, e, hf s hs]
  refine ⟨fun c => ?_, fun c => ?_⟩
  · rcases side_low c with e | e
    · exact Int.le_of_eq (h1 e)
    · exact (h2 e).1
  · rcases side_high c with e | e
    · exact Int.le_of_eq (h1 e).symm
    · exact (h3 e).1
theorem Said.sized {L : Int} (hL : 0 < L) (hLb : L.natAbs < 2 ^ 100) {prs : List (Int × Int)} (R : Rises L prs) {l : Lk} (h : Said L prs l) : Sized 110 l := by
  obtain ⟨w, s, hs, e, h1, h2, h3⟩ := h
  have h4 := R.on s hs
  obtain ⟨b, hb, hb2⟩ := R.turn
  have h5 := hb2 s hs
  refine ⟨?_, ?_⟩
  · rw [e]; exact lt_up (Nat.lt_of_le_of_lt (by omega : s.1.natAbs ≤ L.natAbs) hLb) (by decide)
  · have e1 : (2 : Nat) ^ 110 = 2 ^ 104 * 64 := by decide
    have e2 : (2 : Nat) ^ 100 ≤ 2 ^ 104 := by decide
    rw [e1]
    generalize (2 : Nat) ^ 104 = B at hb e2 ⊢
    generalize (2 : Nat) ^ 100 = C at hLb e2
    rcases w with w | w | w
    · rw [h1 w]; omega
    · have := h2 w; omega
    · have := h3 w; omega
/-- heard some turns on -/
theorem home_turned {L : Int} (hL : 0 < L) (w : Str) (x y k : Int) : home L (w, x + k * L, y + k * L) = home L (w, x, y) := by
  have e : (x + k * L) / L = x / L + k := by rw [Int.add_mul_ediv_right _ _ (by omega)]
  show (w, x + k * L - (x + k * L) / L * L, y + k * L - (x + k * L) / L * L) = (w, x - x / L * L, y - x / L * L)
  rw [e, Int.add_mul]
  congr 1
  congr 1 <;> omega
theorem heard_turned {L : Int} (hL : 0 < L) (ls : List Lk) (w : Str) (x y k : Int) : heard L ls (w, x + k * L, y + k * L) = heard L ls (w, x, y) := by
  unfold heard
  rw [home_turned hL]
/-- all heard -/
def heardAll (L : Int) (ls : List Lk) : List Lk := ls.foldl (heard L) []
theorem heardAll_mem {L : Int} {ls : List Lk} (o : Lk) : o ∈ heardAll L ls ↔ ∃ l ∈ ls, o = home L l := by
  unfold heardAll
  rw [fold_mem]; simp
end KA
namespace KA
open PySem PySem.Spec PyProof.Rows L2 DP
/-! ### where hands, used by turns, lead a place -/
theorem bst_is {sd : Str} (hs : SideOk sd) {ls : List Lk} (h : ls ≠ []) (x L : Int) : IsBest sd ls x L (bst sd ls x L) := by
  rcases hs with e | e <;> subst e
  · exact bst_slow h x L
  · exact bst_fast h x L
/-- one use: none where there is no look of the side -/
noncomputable def stp (sd : Str) (L : Int) (ls : List Lk) (y : Int) : Option Int := by
  classical exact if ls = [] then none else some (bst sd ls y L)
theorem stp_nil {sd : Str} {L y : Int} : stp sd L [] y = none := by
  unfold stp; rw [if_pos rfl]
theorem stp_best {sd : Str} {L y m : Int} {ls : List Lk} (h : IsBest sd ls y L m) : stp sd L ls y = some m := by
  obtain ⟨⟨l, hl, _⟩, _⟩ := id h
  have hne : ls ≠ [] := fun e => by rw [e] at hl; cases hl
  unfold stp
  rw [if_neg hne, bst_of h]
theorem stp_some {sd : Str} (hs : SideOk sd) {L y : Int} {ls : List Lk} (h : ls ≠ []) : stp sd L ls y = some (bst sd ls y L) := stp_best (bst_is hs h y L)
theorem stp_shift {sd : Str} (hs : SideOk sd) {L : Int} (hL : 0 < L) (ls : List Lk) (y k : Int) : stp sd L ls (y + k * L) = (stp sd L ls y).map (· + k * L) := by
  by_cases h : ls = []
  · subst h; rw [stp_nil, stp_nil]; rfl
  · rw [stp_best (best_shift hL k (bst_is hs h y L)), stp_best (bst_is hs h y L)]; rfl
noncomputable def it (sd : Str) (L : Int) (kn : List (List Lk)) (x : Int) : Nat → Option Int
  | 0 => some x
  | n + 1 => (it sd L kn x n).bind (stp sd L (kn.getD (n % kn.length) []))
theorem it_succ {sd : Str} {L : Int} {kn : List (List Lk)} {x : Int} (n : Nat) : it sd L kn x (n + 1) = (it sd L kn x n).bind (stp sd L (kn.getD (n % kn.length) [])) := rfl
theorem it_none {sd : Str} {L : Int} {kn : List (List Lk)} {x : Int} {n : Nat} (h : it sd L kn x n = none) : ∀ k, it sd L kn x (n + k) = none
  | 0 => h
  | k + 1 => by
    show (it sd L kn x (n + k)).bind _ = none
    rw [it_none h k]; rfl
/-- where it stands at the same hand, whole turns on, it goes on alike -/
theorem it_turn {sd : Str} (hs : SideOk sd) {L : Int} (hL : 0 < L) {kn : List (List Lk)} {x k : Int} {s t : Nat} (hm : s % kn.length = t % kn.length) (h : it sd L kn x t = (it sd L kn x s).map (· + k * L)) : ∀ n, it sd L kn x (t + n) = (it sd L kn x (s + n)).map (· + k * L)
  | 0 => h
  | n + 1 => by
    show it sd L kn x (t + n + 1) = (it sd L kn x (s + n + 1)).map _
    rw [it_succ, it_succ, it_turn hs hL hm h n]
    have e : (t + n) % kn.length = (s + n) % kn.length := by rw [Nat.add_mod, ← hm, ← Nat.add_mod]
    rw [e]
    cases it sd L kn x (s + n) with
    | none => rfl
    | some y => exact stp_shift hs hL _ y k
theorem it_laps {sd : Str} (hs : SideOk sd) {L : Int} (hL : 0 < L) {kn : List (List Lk)} {x k : Int} {s p : Nat} (hm : s % kn.length = (s + p) % kn.length) (h : it sd L kn x (s + p) = (it sd L kn x s).map (· + k * L)) (r : Nat) : ∀ t : Nat, it sd L kn x (s + r + t * p) = (it sd L kn x (s + r)).map (· + t * (k * L))
  | 0 => by
    rw [Nat.zero_mul]
    cases it sd L kn x (s + r) with
    | none => simp
    | some y => simp
  | t + 1 => by
    have h1 := it_turn hs hL hm h (r + t * p)
    have e1 : s + p + (r + t * p) = s + r + (t + 1) * p := by rw [Nat.add_mul]; omega
    have e2 : s + (r + t * p) = s + r + t * p := by omega
    rw [e1, e2] at h1
    rw [h1, it_laps hs hL hm h r t]
    cases it sd L kn x (s + r) with
    | none => rfl
    | some y =>
      show some (y + (t : Int) * (k * L) + k * L) = some (y + ((t + 1 : Nat) : Int) * (k * L))
      rw [Int.natCast_add, Int.add_mul]
      congr 1
      omega
/-- two rounds that tell the same of each place lead alike -/
theorem it_alike {sd : Str} {L : Int} {kn kn' : List (List Lk)} {x : Int} (hl : kn.length = kn'.length) (h : ∀ i y, i < kn.length → stp sd L (kn.getD i []) y = stp sd L (kn'.getD i []) y) (hm : 0 < kn.length) : ∀ n, it sd L kn x n = it sd L kn' x n
  | 0 => rfl
  | n + 1 => by
    show (it sd L kn x n).bind _ = (it sd L kn' x n).bind _
    rw [it_alike hl h hm n]
    cases it sd L kn' x n with
    | none => rfl
    | some y =>
      show stp sd L (kn.getD (n % kn.length) []) y = stp sd L (kn'.getD (n % kn'.length) []) y
      rw [← hl]
      exact h _ y (Nat.mod_lt _ hm)
/-! ### the walk -/
structure WalkOk (sd : Str) (L : Int) (kn : List (List Lk)) (x : Int) (ps : List Int) (tl : List Lk) : Prop where
  len : ps.length = tl.length + 1
  zero : ps[0]? = some x
  step : ∀ i l, tl[i]? = some l → l ∈ kn.getD (i % kn.length) [] ∧ ∃ y z, ps[i]? = some y ∧ ps[i + 1]? = some z ∧ plc sd l y L = z ∧ IsBest sd (kn.getD (i % kn.length) []) y L z
/-- how it ends -/
def EndOk (L : Int) (kn : List (List Lk)) (ps : List Int) (tl : List Lk) : Option Nat → Prop
  | none => kn.getD (tl.length % kn.length) [] = []
  | some s => s < tl.length ∧ s % kn.length = tl.length % kn.length ∧ ∃ a b, ps[s]? = some a ∧ ps[tl.length]? = some b ∧ a % L = b % L
theorem WalkOk.it {sd : Str} {L : Int} {kn : List (List Lk)} {x : Int} {ps : List Int} {tl : List Lk} (W : WalkOk sd L kn x ps tl) : ∀ (i : Nat) (y : Int), ps[i]? = some y → it sd L kn x i = some y
  | 0, y, h => by
    rw [W.zero] at h
    exact h
  | i + 1, y, h => by
    have hi := (List.getElem?_eq_some_iff.mp h).1
    have hl := W.len
    obtain ⟨_, y0, z, h1, h2, _, h4⟩ := W.step i _ (List.getElem?_eq_getElem (by omega : i < tl.length))
    rw [h2] at h
    rw [← Option.some.inj h]
    show (KA.it sd L kn x i).bind _ = _
    rw [W.it i y0 h1]
    exact stp_best h4
/-- behind any uses: the walk's own answer -/
theorem behind_in {sd : Str} {L : Int} {kn : List (List Lk)} {x : Int} {ps : List Int} {tl : List Lk} (W : WalkOk sd L kn x ps tl) {n : Nat} (h : n < ps.length) : it sd L kn x n = some (ps.getD n 0) := by
  refine W.it n _ ?_
  rw [List.getD_eq_getElem?_getD, List.getElem?_eq_getElem h]; rfl
theorem behind_none {sd : Str} {L : Int} {kn : List (List Lk)} {x : Int} {ps : List Int} {tl : List Lk} (W : WalkOk sd L kn x ps tl) (h : EndOk L kn ps tl none) {n : Nat} (hn : ps.length ≤ n) : it sd L kn x n = none := by
  have hl := W.len
  have h1 : it sd L kn x (tl.length + 1) = none := by
    show (it sd L kn x tl.length).bind _ = none
    rw [show kn.getD (tl.length % kn.length) [] = [] from h]
    cases it sd L kn x tl.length with
    | none => rfl
    | some y => exact stp_nil
  have h2 := it_none h1 (n - (tl.length + 1))
  rwa [show tl.length + 1 + (n - (tl.length + 1)) = n by omega] at h2
theorem behind_laps {sd : Str} (hs : SideOk sd) {L : Int} (hL : 0 < L) {kn : List (List Lk)} {x : Int} {ps : List Int} {tl : List Lk} (W : WalkOk sd L kn x ps tl) {s : Nat} (h : EndOk L kn ps tl (some s)) (t r : Nat) (hr : s + r < ps.length) :
    it sd L kn x (s + r + t * (tl.length - s)) = some (ps.getD (s + r) 0 + t * (ps.getD tl.length 0 - ps.getD s 0)) := by
  obtain ⟨h1, h2, a, b, ha, hb, hab⟩ := h
  have ea := W.it s a ha
  have eb := W.it _ b hb
  have e1 : s + (tl.length - s) = tl.length := by omega
  obtain ⟨k, hk⟩ : ∃ k, b = a + k * L := by
    refine ⟨b / L - a / L, ?_⟩
    have q1 := Int.mul_ediv_add_emod a L
    have q2 := Int.mul_ediv_add_emod b L
    rw [Int.mul_comm] at q1 q2
    rw [Int.sub_mul]
    omega
  have hit : it sd L kn x (s + (tl.length - s)) = (it sd L kn x s).map (· + k * L) := by
    rw [e1, ea, eb, hk]; rfl
  rw [it_laps hs hL (by rw [e1]; exact h2) hit r t, behind_in W hr]
  have ga : ps.getD s 0 = a := by rw [List.getD_eq_getElem?_getD, ha]; rfl
  have gb : ps.getD tl.length 0 = b := by rw [List.getD_eq_getElem?_getD, hb]; rfl
  rw [ga, gb, hk]
  show some (ps.getD (s + r) 0 + (t : Int) * (k * L)) = some (ps.getD (s + r) 0 + (t : Int) * (a + k * L - a))
  rw [show a + k * L - a = k * L by omega]
/-! ### sizes -/
theorem plc_near {L : Int} (hL : 0 < L) (sd : Str) (l : Lk) (x : Int) : (plc sd l x L - x).natAbs ≤ (l.2.2 - l.2.1).natAbs + L.natAbs := by
  unfold plc
  split
  · have q := Int.mul_ediv_add_emod (x - l.2.1) L
    have q0 := Int.emod_nonneg (x - l.2.1) (show L ≠ 0 by omega)
    have q1 := Int.emod_lt_of_pos (x - l.2.1) hL
    rw [Int.mul_comm] at q
    omega
  · have q := Int.mul_ediv_add_emod (l.2.1 - x) L
    have q0 := Int.emod_nonneg (l.2.1 - x) (show L ≠ 0 by omega)
    have q1 := Int.emod_lt_of_pos (l.2.1 - x) hL
    rw [Int.mul_comm] at q
    omega
/-- a hand's looks are such as a Dark keeps -/
def KnOk (kn : List (List Lk)) : Prop := ∀ ls ∈ kn, ls.length ≤ 60 ∧ ∀ l ∈ ls, WordOk l.1 ∧ Sized 310 l
theorem KnOk.get {kn : List (List Lk)} (h : KnOk kn) (i : Nat) : (kn.getD i []).length ≤ 60 ∧ ∀ l ∈ kn.getD i [], WordOk l.1 ∧ Sized 310 l := by
  by_cases hi : i < kn.length
  · have e : kn.getD i [] = kn[i] := by rw [List.getD_eq_getElem?_getD, List.getElem?_eq_getElem hi]; rfl
    rw [e]
    exact h _ (List.getElem_mem hi)
  · have e : kn.getD i [] = [] := by rw [List.getD_eq_getElem?_getD, List.getElem?_eq_none (by omega)]; rfl
    rw [e]
    exact ⟨Nat.zero_le _, fun l hl => by cases hl⟩
theorem step_near {L : Int} (hL : 0 < L) (hLb : L.natAbs < 2 ^ 200) {l : Lk} (h : Sized 310 l) (sd : Str) (x : Int) : (plc sd l x L - x).natAbs ≤ 2 ^ 312 := by
  have h1 := plc_near hL sd l x
  have h2 : (l.2.2 - l.2.1).natAbs < 2 ^ 311 := sub_lt h.2 h.1
  have h3 : L.natAbs < 2 ^ 311 := lt_up hLb (by decide)
  have h4 : (2 : Nat) ^ 312 = 2 ^ 311 + 2 ^ 311 := by rw [Nat.pow_succ, Nat.mul_two]
  omega
theorem WalkOk.small {sd : Str} {L : Int} (hL : 0 < L) (hLb : L.natAbs < 2 ^ 200) {kn : List (List Lk)} (hk : KnOk kn) {x : Int} {ps : List Int} {tl : List Lk} (W : WalkOk sd L kn x ps tl) : ∀ (i : Nat) (y : Int), ps[i]? = some y → y.natAbs ≤ x.natAbs + i * 2 ^ 312
  | 0, y, h => by
    rw [W.zero] at h
    rw [← Option.some.inj h]; omega
  | i + 1, y, h => by
    have hi := (List.getElem?_eq_some_iff.mp h).1
    have hl := W.len
    obtain ⟨hm, y0, z, h1, h2, h3, _⟩ := W.step i _ (List.getElem?_eq_getElem (by omega : i < tl.length))
    rw [h2] at h
    rw [← Option.some.inj h, ← h3]
    have q1 := W.small hL hLb hk i y0 h1
    have q2 := step_near hL hLb ((hk.get _).2 _ hm).2 sd y0
    rw [Nat.add_mul, Nat.one_mul]
    generalize (2 : Nat) ^ 312 = B at q1 q2 ⊢
    generalize i * B = c at q1 ⊢
    omega
/-! ### the marks: hand and place within the turn -/
def mark (L : Int) (m : Nat) (ps : List Int) (i : Nat) : Nat × Int := (i % m, ps.getD i 0 % L)
def marks (L : Int) (m : Nat) (ps : List Int) (n : Nat) : List (Nat × Int) := (List.range n).map (mark L m ps)
def cand (L : Int) (kn : List (List Lk)) (x : Int) : List (Nat × Int) := (0, x % L) :: ((List.range kn.length).map fun j => (kn.getD j []).map fun l => ((j + 1) % kn.length, l.2.2 % L)).flatten
theorem nodup_le {α : Type} [DecidableEq α] : ∀ {l l' : List α}, l.Nodup → (∀ a ∈ l, a ∈ l') → l.length ≤ l'.length
  | [], l', _, _ => Nat.zero_le _
  | a :: l, l', hn, hs => by
    obtain ⟨h1, h2⟩ := List.nodup_cons.mp hn
    have ha := hs a List.mem_cons_self
    have h3 : ∀ b ∈ l, b ∈ l'.erase a := fun b hb => (List.mem_erase_of_ne (fun e => h1 (by rw [← e]; exact hb))).mpr (hs b (List.mem_cons_of_mem _ hb))
    have h4 := nodup_le h2 h3
    have h5 := List.length_erase_of_mem ha
    have h6 := List.length_pos_of_mem ha
    rw [List.length_cons]; omega
theorem flat_le {β γ : Type} {f : β → List γ} {c : Nat} : ∀ {l : List β}, (∀ b ∈ l, (f b).length ≤ c) → (l.map f).flatten.length ≤ l.length * c
  | [], _ => by simp
  | b :: l, h => by
    have h1 := flat_le (l := l) fun q hq => h q (List.mem_cons_of_mem _ hq)
    have h2 := h b List.mem_cons_self
    rw [List.map_cons, List.flatten_cons, List.length_append, List.length_cons, Nat.add_mul]
    omega
theorem cand_len {L : Int} {kn : List (List Lk)} (hk : KnOk kn) (x : Int) : (cand L kn x).length ≤ kn.length * 60 + 1 := by
  unfold cand
  rw [List.length_cons]
  have h := flat_le (f := fun j => (kn.getD j []).map fun l : Lk => ((j + 1) % kn.length, l.2.2 % L)) (c := 60) (l := List.range kn.length) fun j _ => by
    rw [List.length_map]; exact (hk.get j).1
  rw [List.length_range] at h
  omega
theorem plc_mod {L : Int} (sd : Str) (l : Lk) (x : Int) : plc sd l x L % L = l.2.2 % L := by
  unfold plc
  split
  · exact Int.add_mul_emod_self_right ..
  · rw [Int.sub_eq_add_neg, ← Int.neg_mul]
    exact Int.add_mul_emod_self_right ..
theorem mark_cand {sd : Str} {L : Int} {kn : List (List Lk)} (hm : 0 < kn.length) {x : Int} {ps : List Int} {tl : List Lk} (W : WalkOk sd L kn x ps tl) : ∀ i, i < ps.length → mark L kn.length ps i ∈ cand L kn x
  | 0, _ => by
    refine List.mem_cons.mpr (.inl ?_)
    unfold mark
    rw [List.getD_eq_getElem?_getD, W.zero, Nat.zero_mod]; rfl
  | i + 1, hi => by
    refine List.mem_cons.mpr (.inr ?_)
    have hl := W.len
    obtain ⟨h0, y0, z, h1, h2, h3, _⟩ := W.step i _ (List.getElem?_eq_getElem (by omega : i < tl.length))
    refine List.mem_flatten.mpr ⟨_, List.mem_map.mpr ⟨i % kn.length, List.mem_range.mpr (Nat.mod_lt _ hm), rfl⟩, List.mem_map.mpr ⟨_, h0, ?_⟩⟩
    unfold mark
    rw [List.getD_eq_getElem?_getD, h2]
    show (_, _) = (_, z % L)
    rw [← h3, plc_mod]
    congr 1
    rw [Nat.mod_add_mod]
theorem marks_le {sd : Str} {L : Int} {kn : List (List Lk)} (hm : 0 < kn.length) {x : Int} {ps : List Int} {tl : List Lk} (W : WalkOk sd L kn x ps tl) {n : Nat} (hn : n ≤ ps.length) (hd : (marks L kn.length ps n).Nodup) : n ≤ (cand L kn x).length := by
  have h := nodup_le hd (l' := cand L kn x) fun a ha => by
    obtain ⟨i, hi, rfl⟩ := List.mem_map.mp ha
    exact mark_cand hm W i (Nat.lt_of_lt_of_le (List.mem_range.mp hi) hn)
  unfold marks at h
  rwa [List.length_map, List.length_range] at h
theorem WalkOk.new {sd : Str} {L : Int} {kn : List (List Lk)} {x : Int} : WalkOk sd L kn x [x] [] := ⟨rfl, rfl, fun i l h => by simp at h⟩
theorem WalkOk.snoc {sd : Str} {L : Int} {kn : List (List Lk)} {x y z : Int} {ps : List Int} {tl : List Lk} {l : Lk} (W : WalkOk sd L kn x ps tl) (hy : ps[tl.length]? = some y) (hl : l ∈ kn.getD (tl.length % kn.length) []) (hz : plc sd l y L = z) (hb : IsBest sd (kn.getD (tl.length % kn.length) []) y L z) : WalkOk sd L kn x (ps ++ [z]) (tl ++ [l]) := by
  have hlen := W.len
  refine ⟨by simp [hlen], by rw [List.getElem?_append_left (by omega)]; exact W.zero, fun i l' h => ?_⟩
  by_cases hi : i < tl.length
  · rw [List.getElem?_append_left hi] at h
    obtain ⟨h0, y0, z0, h1, h2, h3⟩ := W.step i l' h
    exact ⟨h0, y0, z0, by rw [List.getElem?_append_left (by omega)]; exact h1, by rw [List.getElem?_append_left (by omega)]; exact h2, h3⟩
  · have hi2 := (List.getElem?_eq_some_iff.mp h).1
    have e : i = tl.length := by
      rw [List.length_append, List.length_singleton] at hi2; omega
    subst e
    rw [List.getElem?_append_right (Nat.le_refl _), Nat.sub_self] at h
    have e2 : l = l' := Option.some.inj h
    subst e2
    refine ⟨hl, y, z, by rw [List.getElem?_append_left (by omega)]; exact hy, ?_, hz, hb⟩
    rw [List.getElem?_append_right (by omega), hlen, Nat.sub_self]; rfl
theorem marks_keep {L : Int} {m : Nat} {ps : List Int} {z : Int} {n : Nat} (h : n ≤ ps.length) : marks L m (ps ++ [z]) n = marks L m ps n := by
  unfold marks
  refine List.map_congr_left fun i hi => ?_
  have := List.mem_range.mp hi
  unfold mark
  rw [List.getD_eq_getElem?_getD, List.getD_eq_getElem?_getD, List.getElem?_append_left (by omega)]
theorem marks_succ {L : Int} {m : Nat} {ps : List Int} {n : Nat} : marks L m ps (n + 1) = marks L m ps n ++ [mark L m ps n] := by
  unfold marks
  rw [List.range_succ, List.map_append]; rfl
theorem marks_nodup {L : Int} {m : Nat} {ps : List Int} {n : Nat} (h : (marks L m ps n).Nodup) (h2 : mark L m ps n ∉ marks L m ps n) : (marks L m ps (n + 1)).Nodup := by
  rw [marks_succ]
  refine List.nodup_append.mpr ⟨h, by simp, fun a ha b hb e => ?_⟩
  rw [List.mem_singleton] at hb
  subst hb; subst e
  exact h2 ha
end KA
namespace KA
open PySem PySem.Spec PyProof.Rows L2 DP
/-- hands in the dark, of one length -/
def Darks (Z : Ad) (K : PySem.W.Frag) (H : Hp) (ds : List Addr) (L : Int) (hs : List (List Lk)) : Prop := ds.length = hs.length ∧ ∀ (i : Nat) (d : Addr) (ls : List Lk), ds[i]? = some d → hs[i]? = some ls → DarkAt Z K H d L ls
theorem Darks.same {Z : Ad} {K : PySem.W.Frag} {H H' : Hp} {ds : List Addr} {L : Int} {hs : List (List Lk)} (D : Darks Z K H ds L hs) (S : Same H H') : Darks Z K H' ds L hs := ⟨D.1, fun i d ls h1 h2 => (D.2 i d ls h1 h2).same S⟩
theorem Darks.get {Z : Ad} {K : PySem.W.Frag} {H : Hp} {ds : List Addr} {L : Int} {hs : List (List Lk)} (D : Darks Z K H ds L hs) {i : Nat} {d : Addr} (h : ds[i]? = some d) : ∃ ls, hs[i]? = some ls ∧ DarkAt Z K H d L ls := by
  have hi := (List.getElem?_eq_some_iff.mp h).1
  have hl := D.1
  exact ⟨hs[i], List.getElem?_eq_getElem (by omega), D.2 i d _ h (List.getElem?_eq_getElem (by omega))⟩
/-- a list of looks that stands as itself -/
def LkAt (K : PySem.W.Frag) (H : Hp) (p : Addr) (ls : List Lk) : Prop := ∃ vs, H p = some (.lst vs) ∧ DpAll K H vs (ls.map encL)
theorem LkAt.dp {K : PySem.W.Frag} {H : Hp} {p : Addr} {ls : List Lk} (h : LkAt K H p ls) : Dp K H (.ref p) (.list (ls.map encL)) := by
  obtain ⟨vs, h1, h2⟩ := h
  exact .lst (SqL.of h1) h2
theorem LkAt.to {K : PySem.W.Frag} {H H' : Hp} {p : Addr} {ls : List Lk} (h : LkAt K H p ls) (ht : Tups H H') (hp : ∀ o, H p = some o → H' p = some o) : LkAt K H' p ls := by
  obtain ⟨vs, h1, h2⟩ := h
  exact ⟨vs, hp _ h1, dpAll_tups ht _ _ (noLs_map noL_encL ls) h2⟩
theorem LkAt.same {K : PySem.W.Frag} {H H' : Hp} {p : Addr} {ls : List Lk} (h : LkAt K H p ls) (S : Same H H') : LkAt K H' p ls := h.to (Tups.of_same S) fun o e => S _ _ e
/-- lists of looks -/
def Lots (K : PySem.W.Frag) (H : Hp) (as : List Addr) (kn : List (List Lk)) : Prop := as.length = kn.length ∧ ∀ (i : Nat) (a : Addr) (ls : List Lk), as[i]? = some a → kn[i]? = some ls → LkAt K H a ls
theorem Lots.same {K : PySem.W.Frag} {H H' : Hp} {as : List Addr} {kn : List (List Lk)} (D : Lots K H as kn) (S : Same H H') : Lots K H' as kn := ⟨D.1, fun i a ls h1 h2 => (D.2 i a ls h1 h2).same S⟩
theorem Lots.to {K : PySem.W.Frag} {H H' : Hp} {as : List Addr} {kn : List (List Lk)} (D : Lots K H as kn) (ht : Tups H H') (hp : ∀ a ∈ as, ∀ o, H a = some o → H' a = some o) : Lots K H' as kn := ⟨D.1, fun i a ls h1 h2 => (D.2 i a ls h1 h2).to ht (hp a (List.mem_of_getElem? h1))⟩
theorem Lots.get {K : PySem.W.Frag} {H : Hp} {as : List Addr} {kn : List (List Lk)} (D : Lots K H as kn) {i : Nat} {a : Addr} (h : as[i]? = some a) : ∃ ls, kn[i]? = some ls ∧ LkAt K H a ls := by
  have hi := (List.getElem?_eq_some_iff.mp h).1
  have hl := D.1
  exact ⟨kn[i], List.getElem?_eq_getElem (by omega), D.2 i a _ h (List.getElem?_eq_getElem (by omega))⟩
theorem Lots.snoc {K : PySem.W.Frag} {H : Hp} {as : List Addr} {kn : List (List Lk)} {a : Addr} {ls : List Lk} (D : Lots K H as kn) (h : LkAt K H a ls) : Lots K H (as ++ [a]) (kn ++ [ls]) := by
  have hl := D.1
  refine ⟨by simp [hl], fun i b l h1 h2 => ?_⟩
  by_cases hi : i < as.length
  · rw [List.getElem?_append_left hi] at h1
    rw [List.getElem?_append_left (by omega)] at h2
    exact D.2 i b l h1 h2
  · have h3 := (List.getElem?_eq_some_iff.mp h1).1
    rw [List.length_append, List.length_singleton] at h3
    have e : i = as.length := by omega
    subst e
    rw [List.getElem?_append_right (Nat.le_refl _), Nat.sub_self] at h1
    rw [List.getElem?_append_right (by omega), hl, Nat.sub_self] at h2
    have e1 : a = b := Option.some.inj h1
    have e2 : ls = l := Option.some.inj h2
    subst e1 e2
    exact h
/-- a list of objects, in place of them -/
abbrev refs (as : List Addr) : List V := as.map V.ref
def spRound (Z : Ad) (K : PySem.W.Frag) : Sp := fun vs H Q _ => ∃ (hp : Addr) (ds : List Addr) (sd : Str) (L : Int) (hs : List (List Lk)), vs = [.ref hp, .str sd] ∧ SqL K H hp (refs ds) ∧ Darks Z K H ds L hs ∧ SideOk sd ∧ ds.length ≤ 1000 ∧
  ∀ H' p as, H p = none → (∀ a ∈ as, H a = none ∧ a ≠ p) → Same H H' → H' p = some (.lst (refs as)) → Lots K H' as (hs.map (sideOf sd)) → Q (.ref p) H'
theorem same_acc {H H' : Hp} {D : Addr} {o : HO} (S : Same H H') (hD : H D = none) : Same H (upd H' D o) := same_set S hD
section
variable {P : Program} {w : World} {K : PySem.W.Frag} {mg : Str → Option Value} {base : Heap} {Z : Ad}
theorem ok_round_looks (T : Tx K w mg Z) : FnOk P w K mg base CX0 2 Z.a_round_looks Z.d_round_looks P_round_looks (spRound Z K) := by
  refine T.F_round_looks.ok scround_looks (fun vs H Q E h => ?_) (fun cdv A outer s H vs Q E hr h => ?_)
  · obtain ⟨hp, ds, sd, L, hs, rfl, _⟩ := h
    rfl
  · obtain ⟨hp, ds, sd, L, hs, rfl, hh, hD, hsd, hlen, k⟩ := h
    refine ⟨_, (pss_one (ps_ret (pe_lc (own := [("hand", 2)]) (g := gName 2) (tt := tYes) rfl scround_looks.nd (pi_list (pv 0)) (blkOk_by (own := [("hand", 2)]) (N := N_round_looks) (sc := defScope sround_looks) (by decide +kernel)) (fun _ _ _ _ _ => (pg_name (i := 2) scround_looks.nd rfl (Or.inl rfl))) (fun _ _ _ _ _ => pts_nil) (fun _ _ _ _ _ => (pe_call (ok_side_looks T) (hr.mono (by decide)) (by rfl) T.g_side_looks T.F_side_looks.kp T.bb_side_looks .nil pass0 (pa_cons (pe_meth0 (pv 2) T.cl T.m_Dark_looks (ok_Dark_looks T) (hr.mono (by decide)) T.bb_Dark_looks .nil pass0) (pa_cons (pv 1) pa_nil))))))), ?_⟩
    refine ⟨_, rfl, hp, rfl, ⟨_, hh⟩, fun D hDn => ?_⟩
    refine lc_list (K := K) (a := hp) (xs := refs ds) (fun i H' => Same H H' ∧ ∃ as, H' D = some (.lst (refs as)) ∧ as.length = i ∧ (∀ a ∈ as, H a = none ∧ a ≠ D) ∧ Lots K H' as ((hs.take i).map (sideOf sd))) ⟨same_upd hDn, [], upd_same, rfl, (fun _ z => by cases z), rfl, fun i a ls z => by simp at z⟩ (fun i H' _ ⟨S, _⟩ => Same.sqL S hh) ?_ ?_
    · rintro i y H' hi ⟨S, as, hD', hal, hfr, hlots⟩
      obtain ⟨d, hd, rfl⟩ : ∃ d, ds[i]? = some d ∧ y = .ref d := by
        obtain ⟨d, h1, h2⟩ := map_at hi
        exact ⟨d, h1, h2⟩
      obtain ⟨ls, hls, DD⟩ := hD.get hd
      refine ⟨rfl, yes_ite ?_⟩
      have DD1 := DD.same S
      obtain ⟨dx, la, vs, h1, h2, h3⟩ := DD1.ex
      refine ⟨_, rfl, d, dx, _, rfl, h1, df_no _ _ (by decide +kernel) (by decide +kernel), d, L, ls, rfl, DD1, fun p xs H1 hp1 S1 hx1 hx2 => ?_⟩
      refine ⟨_, rfl, .ref p, ls, sd, rfl, .lst (SqL.of hx1) hx2, hsd, fun l hl => (DD.ok l hl).1, Nat.le_trans DD.len (by decide), fun H2 q hq S2 hlk => ?_⟩
      have S12 := S1.trans S2
      have hD2 := S12 _ _ hD'
      have hqD : q ≠ D := fun e => by rw [e, S1 _ _ hD'] at hq; cases hq
      refine ⟨refs as, hD2, ?_, same_set (S.trans S12) hDn, as ++ [q], ?_, by simp [hal], fun a ha => ?_, ?_⟩
      · have := (List.getElem?_eq_some_iff.mp hd).1
        exact small1000 (by simp; omega)
      · rw [upd_same]; simp [refs]
      · rcases List.mem_append.mp ha with h | h
        · exact hfr a h
        · rw [List.mem_singleton] at h
          subst h
          exact ⟨S.free (S1.free hq), hqD⟩
      · rw [take_snoc hls, List.map_append]
        have hn : ∀ a ∈ as ++ [q], a ≠ D := fun a ha => by
          rcases List.mem_append.mp ha with h | h
          · exact (hfr a h).2
          · rw [List.mem_singleton] at h; subst h; exact hqD
        exact ((hlots.same S12).snoc hlk).to (Tups.upd_lst hD2) fun a ha o e => (upd_ne (hn a ha)).trans e
    · rintro H' ⟨S, as, hD', hal, hfr, hlots⟩
      have hl := hD.1
      have e : hs.take (refs ds).length = hs := List.take_of_length_le (by simp; omega)
      rw [e] at hlots
      exact k H' D as hDn hfr S hD' hlots
end
end KA
namespace KA
open PySem PySem.Spec PyProof.Rows L2 DP
/-- a Walk's fields -/
def wf (pl tb : Addr) (st : V) : List (Str × V) := [("places", .ref pl), ("told_by", .ref tb), ("start", st)]
def stV : Option Nat → V
  | none => .non
  | some s => .int s
theorem wf_places (pl tb : Addr) (st : V) : (wf pl tb st).lookup ("places" : Str) = some (.ref pl) := by simp [wf, List.lookup]
theorem wf_told (pl tb : Addr) (st : V) : (wf pl tb st).lookup ("told_by" : Str) = some (.ref tb) := by
  have h : (("told_by" : Str) == ("places" : Str)) = false := by decide +kernel
  simp [wf, List.lookup, h]
theorem wf_start (pl tb : Addr) (st : V) : (wf pl tb st).lookup ("start" : Str) = some st := by
  have h : (("start" : Str) == ("places" : Str)) = false := by decide +kernel
  have h2 : (("start" : Str) == ("told_by" : Str)) = false := by decide +kernel
  simp [wf, List.lookup, h, h2]
theorem wf_no (pl tb : Addr) (st : V) {m : Str} (h1 : (m == ("places" : Str)) = false) (h2 : (m == ("told_by" : Str)) = false) (h3 : (m == ("start" : Str)) = false) : (wf pl tb st).lookup m = none := by simp [wf, List.lookup, h1, h2, h3]
theorem wf_put (pl tb : Addr) (st v : V) : putF "start" v (wf pl tb st) = wf pl tb v := by
  show (if ("places" : Str) = "start" then _ else (("places" : Str), V.ref pl) :: (if ("told_by" : Str) = "start" then _ else (("told_by" : Str), V.ref tb) :: (if ("start" : Str) = "start" then _ else _))) = _
  rw [if_neg (by decide +kernel), if_neg (by decide +kernel), if_pos rfl]; rfl
/-- what is walked: its places, the looks that told them, where it comes round to -/
structure WalkAt (Z : Ad) (K : PySem.W.Frag) (H : Hp) (w : Addr) (pl tb : Addr) (ps : List Int) (tl : List Lk) (st : Option Nat) : Prop where
  ex : ∃ dx tvs, H w = some (.ins Z.C_Walk dx (wf pl tb (stV st))) ∧ H pl = some (.lst (ps.map V.int)) ∧ H tb = some (.lst tvs) ∧ DpAll K H tvs (tl.map encL)
/-- the dict of the marks seen -/
def seenK (L : Int) (m : Nat) (ps : List Int) (n : Nat) : List (List Key × V) := (List.range n).map fun i => ([.inl (((i % m : Nat)) : Int), .inl (ps.getD i 0 % L)], V.int i)
theorem seen_some {L : Int} {m : Nat} {ps : List Int} {n : Nat} {a b : Int} {v : V} (h : valV (seenK L m ps n) [.inl a, .inl b] = some v) : ∃ i : Nat, i < n ∧ v = .int i ∧ (((i % m : Nat)) : Int) = a ∧ ps.getD i 0 % L = b := by
  unfold valV at h
  cases e : (seenK L m ps n).find? fun kv => decide (kv.1 = [.inl a, .inl b]) with
  | none => rw [e] at h; cases h
  | some p =>
    rw [e] at h
    have e1 := List.find?_some e
    obtain ⟨i, hi, rfl⟩ := List.mem_map.mp (List.mem_of_find?_eq_some e)
    have e2 := of_decide_eq_true e1
    injection e2 with e3 e4
    injection e4 with e5 _
    exact ⟨i, List.mem_range.mp hi, (Option.some.inj h).symm, Sum.inl.inj e3, Sum.inl.inj e5⟩
theorem seen_none {L : Int} {m : Nat} {ps : List Int} {n j : Nat} (h : valV (seenK L m ps n) [.inl ((j % m : Nat) : Int), .inl (ps.getD j 0 % L)] = none) : mark L m ps j ∉ marks L m ps n := by
  intro hm
  obtain ⟨i, hi, e⟩ := List.mem_map.mp hm
  unfold valV at h
  rw [Option.map_eq_none_iff] at h
  have h2 := List.find?_eq_none.mp h _ (List.mem_map.mpr ⟨i, hi, rfl⟩)
  refine h2 (decide_eq_true ?_)
  have e1 : i % m = j % m := congrArg Prod.fst e
  have e2 : ps.getD i 0 % L = ps.getD j 0 % L := congrArg Prod.snd e
  show [Sum.inl _, Sum.inl _] = _
  rw [e1, e2]
theorem putK_new {κ : Type} [DecidableEq κ] {kvs : List (κ × V)} {k : κ} {v : V} (h : valV kvs k = none) : putK kvs k v = kvs ++ [(k, v)] := by
  unfold putK
  have e : (kvs.any fun kv => decide (kv.1 = k)) = false := by rw [valV_any, h]; rfl
  rw [e, if_neg Bool.false_ne_true]
theorem seenK_len (L : Int) (m : Nat) (ps : List Int) (n : Nat) : (seenK L m ps n).length = n := by unfold seenK; simp
theorem seenK_next {L : Int} {m : Nat} {ps : List Int} {z : Int} {n : Nat} (h : n < ps.length) : seenK L m (ps ++ [z]) (n + 1) = seenK L m ps n ++ [([.inl ((n % m : Nat) : Int), .inl (ps.getD n 0 % L)], V.int n)] := by
  unfold seenK
  rw [List.range_succ, List.map_append]
  have e : ∀ i, i < ps.length → (ps ++ [z]).getD i 0 = ps.getD i 0 := fun i hi => by rw [List.getD_eq_getElem?_getD, List.getD_eq_getElem?_getD, List.getElem?_append_left hi]
  congr 1
  · refine List.map_congr_left fun i hi => ?_
    have := List.mem_range.mp hi
    rw [e i (by omega)]
  · show [([Sum.inl ((n % m : Nat) : Int), Sum.inl ((ps ++ [z]).getD n 0 % L)], V.int n)] = _
    rw [e n h]
def spFollow (Z : Ad) (K : PySem.W.Frag) : Sp := fun vs H Q _ => ∃ (w kp pl tb dx : Addr) (as : List Addr) (L x : Int) (sd : Str) (kn : List (List Lk)), vs = [.ref w, .int L, .ref kp, .str sd] ∧ H w = some (.ins Z.C_Walk dx (wf pl tb .non)) ∧ H pl = some (.lst [.int x]) ∧ H tb = some (.lst []) ∧
  H kp = some (.lst (refs as)) ∧ Lots K H as kn ∧ pl ≠ tb ∧ (∀ a ∈ kp :: as, a ≠ w ∧ a ≠ pl ∧ a ≠ tb) ∧ SideOk sd ∧ 0 < L ∧ L.natAbs < 2 ^ 200 ∧ x.natAbs < 2 ^ 390 ∧ 0 < kn.length ∧ kn.length ≤ 60 ∧ KnOk kn ∧
  ∀ H' ps tl st, WalkOk sd L kn x ps tl → EndOk L kn ps tl st → (marks L kn.length ps tl.length).Nodup → WalkAt Z K H' w pl tb ps tl st → (∀ b o, H b = some o → b ≠ w → b ≠ pl → b ≠ tb → H' b = some o) → Q .non H'
section
variable {P : Program} {w : World} {K : PySem.W.Frag} {mg : Str → Option Value} {base : Heap} {Z : Ad}
theorem ok_Walkfollow (T : Tx K w mg Z) : FnOk P w K mg base CX0 3 Z.a_Walkfollow Z.d_Walkfollow P_Walkfollow (spFollow Z K) := by
  refine T.F_Walkfollow.ok scWalkfollow (fun vs H Q E h => ?_) (fun cdv A outer s H vs Q E hr h => ?_)
  · obtain ⟨w, kp, pl, tb, dx, as, L, x, sd, kn, rfl, _⟩ := h
    rfl
  · obtain ⟨w, kp, pl, tb, dx, as, L, x, sd, kn, rfl, hw, hpl, htb, hkp, hlots, hpt, hne, hsd, hL, hLb, hx, hm0, hm1, hk, k⟩ := h
    refine ⟨_, (pss_cons (ps_set (i := 4) scWalkfollow.nd rfl (Or.inl rfl) pe_dnewT)
      (pss_one (ps_while PassesOwn.never (pt_val pe_bl) (pss_cons (ps_set (i := 5) scWalkfollow.nd rfl (Or.inl rfl) (pe_callB (lenK (K := K)) (by rfl) T.b_len (by decide +kernel) (pa_cons (fldK (K := K) (pv 0) rfl) pa_nil)))
      (pss_cons (ps_set (i := 6) scWalkfollow.nd rfl (Or.inl rfl) (pe_op op_mod (pv 5) (pe_callB (lenK (K := K)) (by rfl) T.b_len (by decide +kernel) (pa_cons (pv 2) pa_nil))))
      (pss_cons (ps_set (i := 7) scWalkfollow.nd rfl (Or.inl rfl) (pe_tup (pa_cons (pv 6) (pa_cons (pe_op op_mod (pe_ix (ixL (K := K)) (fldK (K := K) (pv 0) rfl) (pe_un un_neg pe_int) (fun _ _ => rfl)) (pv 1)) pa_nil))))
      (C8.pss_cut (ps_if (pt_cmp (pc_din (hu_of hr) (pv 7) (pv 4))) (pss_cons (ps_fld (pv 0) (pe_dget (hu_of hr) (pv 4) (pv 7) (fun _ _ => rfl)) rfl)
      (pss_one ps_retN)) pss_nil)
      (C8.pss_cut (ps_if (pt_not (pt_truth (pe_ix (ixL (K := K)) (pv 2) (pv 6) (fun _ _ => rfl)) (by intro _; rfl))) (pss_one ps_retN) pss_nil)
      (pss_cons (ps_dput (hu_of hr) (pv 4) (pv 7) (pv 5) rfl)
      (pss_cons (ps_asg (pe_call (ok_best_step T) (hr.mono (by decide)) (by rfl) T.g_best_step T.F_best_step.kp T.bb_best_step .nil pass0 (pa_cons (pe_ix (ixL (K := K)) (pv 2) (pv 6) (fun _ _ => rfl)) (pa_cons (pv 3) (pa_cons (pe_ix (ixL (K := K)) (fldK (K := K) (pv 0) rfl) (pe_un un_neg pe_int) (fun _ _ => rfl)) (pa_cons (pv 1) pa_nil))))) (tupK (K := K) (by rfl) (pgs_cons (pg_name (i := 8) scWalkfollow.nd rfl (Or.inl rfl)) (pgs_cons (pg_name (i := 9) scWalkfollow.nd rfl (Or.inl rfl)) pgs_nil))))
      (pss_cons (ps_expr (pe_bm PySem.F.plainAttrs_list PySem.F.slot_list_append PySem.F.type_list_append mt_append (fldK (K := K) (pv 0) rfl) (pa_cons (pv 8) pa_nil)))
      (pss_one (ps_expr (pe_bm PySem.F.plainAttrs_list PySem.F.slot_list_append PySem.F.type_list_append mt_append (fldK (K := K) (pv 0) rfl) (pa_cons (pv 9) pa_nil))))))))))))))), ?_⟩
    refine fun sa hsa => ?_
    have hwp : w ≠ pl := fun e => by rw [e, hpl] at hw; cases hw
    have hwt : w ≠ tb := fun e => by rw [e, htb] at hw; cases hw
    refine while_by (fun σ' H' => ∃ u5 u6 u7 u8 u9 ps tl tvs, σ' = [some (.ref w), some (.int L), some (.ref kp), some (.str sd), some (.ref sa), u5, u6, u7, u8, u9] ∧ WalkOk sd L kn x ps tl ∧ (marks L kn.length ps tl.length).Nodup ∧
      H' w = some (.ins Z.C_Walk dx (wf pl tb .non)) ∧ H' pl = some (.lst (ps.map V.int)) ∧ H' tb = some (.lst tvs) ∧ DpAll K H' tvs (tl.map encL) ∧ H' sa = some (.dT (seenK L kn.length ps tl.length)) ∧ ∀ b o, H b = some o → b ≠ w → b ≠ pl → b ≠ tb → H' b = some o)
      (fun _ H' => (cand L kn x).length - lenAt H' tb) ?_ ?_ ?_
    · refine ⟨none, none, none, none, none, [x], [], [], rfl, .new, List.nodup_nil, (upd_ne (ne_of_none hw hsa)).trans hw, (upd_ne (ne_of_none hpl hsa)).trans hpl, (upd_ne (ne_of_none htb hsa)).trans htb, .nil, upd_same, fun b o e _ _ _ => (upd_ne (ne_of_none e hsa)).trans e⟩
    · rintro σ1 H1 ⟨u5, u6, u7, u8, u9, ps, tl, tvs, rfl, W, hmk, gw, gpl, gtb, gtv, gsa, keep⟩
      have hwl := W.len
      have htl : tvs.length = tl.length := by rw [dpAll_len gtv, List.length_map]
      have hkw : kp ≠ w ∧ kp ≠ pl ∧ kp ≠ tb := hne kp List.mem_cons_self
      have gkp := keep _ _ hkp hkw.1 hkw.2.1 hkw.2.2
      have hal := hlots.1
      have hmI : (0 : Int) < ((refs as).length : Int) := by simp; omega
      obtain ⟨y, hy⟩ : ∃ y, ps[tl.length]? = some y := ⟨ps[tl.length], List.getElem?_eq_getElem (by omega)⟩
      have hlast : atI (ps.map V.int) (-1) = some (.int y) := by
        rw [atI_last (by rw [List.length_map]; omega : 0 < (ps.map V.int).length), List.length_map, show ps.length - 1 = tl.length by omega, List.getElem?_map, hy]; rfl
      refine ⟨_, rfl, iteT ?_⟩
      refine ⟨_, rfl, w, Z.C_Walk, dx, _, _, rfl, gw, T.cl_Walk, T.nWalk_told_by, wf_told _ _ _, tb, tvs, rfl, .inl (SqL.of gtb), ?_⟩
      refine ⟨_, rfl, _, rfl, kp, refs as, rfl, .inl (SqL.of gkp), _, _, rfl, rfl, hmI, ?_⟩
      refine ⟨_, rfl, _, rfl, w, Z.C_Walk, dx, _, _, rfl, gw, T.cl_Walk, T.nWalk_places, wf_places _ _ _, _, rfl, _, _, _, _, rfl, rfl, SqL.of gpl, hlast, _, rfl, _, _, rfl, rfl, hL, (by show 2 ≤ sizeLine; decide), fun q hq => ?_⟩
      have hn1 : ((tvs.length : Nat) : Int) % ((refs as).length : Int) = ((tl.length % kn.length : Nat) : Int) := by rw [htl]; simp [hal]
      have hy0 : ps.getD tl.length 0 = y := by rw [List.getD_eq_getElem?_getD, hy]; rfl
      dsimp only
      rw [hn1, htl]
      have Sq := same_upd (o := HO.tup [V.int ((tl.length % kn.length : Nat) : Int), .int (y % L)]) hq
      have fq : (upd H1 q (.tup [V.int ((tl.length % kn.length : Nat) : Int), .int (y % L)])) q = some (.tup (([.inl ((tl.length % kn.length : Nat) : Int), .inl (ps.getD tl.length 0 % L)] : List Key).map kV)) := by rw [hy0]; exact upd_same
      generalize upd H1 q (.tup [V.int ((tl.length % kn.length : Nat) : Int), .int (y % L)]) = H2 at Sq fq ⊢
      have keep2 : ∀ b o, H b = some o → b ≠ w → b ≠ pl → b ≠ tb → H2 b = some o := fun b o e n1 n2 n3 => Sq _ _ (keep b o e n1 n2 n3)
      have gtv2 := dpAll_mono Sq _ _ gtv
      have WA2 : ∀ st, H2 w = some (.ins Z.C_Walk dx (wf pl tb (stV st))) → WalkAt Z K H2 w pl tb ps tl st := fun st e => ⟨dx, tvs, e, Sq _ _ gpl, Sq _ _ gtb, gtv2⟩
      refine ⟨fun σ' H' => σ' = [some (.ref w), some (.int L), some (.ref kp), some (.str sd), some (.ref sa), some (.int tl.length), some (.int ((tl.length % kn.length : Nat) : Int)), some (.ref q), u8, u9] ∧ H' = H2 ∧ valV (seenK L kn.length ps tl.length) [.inl ((tl.length % kn.length : Nat) : Int), .inl (ps.getD tl.length 0 % L)] = none, ?_, ?_⟩
      · refine ⟨_, rfl, _, rfl, sa, _, rfl, DGet.t (Sq _ _ gsa) fq, _, rfl, ?_⟩
        cases c : valV (seenK L kn.length ps tl.length) [.inl ((tl.length % kn.length : Nat) : Int), .inl (ps.getD tl.length 0 % L)] with
        | none => exact iteF ⟨rfl, rfl, rfl⟩
        | some v =>
          refine iteT ?_
          obtain ⟨i, hi, rfl, hi1, hi2⟩ := seen_some c
          have g := DGet.t (Sq _ _ gsa) fq
          rw [c] at g
          refine ⟨_, rfl, _, rfl, sa, _, rfl, g, _, rfl, w, Z.C_Walk, dx, _, rfl, Sq _ _ gw, T.cl_Walk, T.nWalk_start, (by show 3 < 1000; decide), ?_⟩
          have hwl2 : i < ps.length := by omega
          have hup : Tups H2 (upd H2 w (.ins Z.C_Walk dx (putF "start" (.int i) (wf pl tb .non)))) := Tups.upd_ins (Sq _ _ gw)
          refine k _ ps tl (some i) W ⟨hi, by omega, ps.getD i 0, y, ?_, hy, by rw [hi2, hy0]⟩ hmk ⟨dx, tvs, ?_, (upd_ne (Ne.symm hwp)).trans (Sq _ _ gpl), (upd_ne (Ne.symm hwt)).trans (Sq _ _ gtb), dpAll_tups hup _ _ (noLs_map noL_encL tl) gtv2⟩ fun b o e n1 n2 n3 => (upd_ne n1).trans (keep2 b o e n1 n2 n3)
          · rw [List.getD_eq_getElem?_getD, List.getElem?_eq_getElem hwl2]; rfl
          · rw [upd_same, wf_put]; rfl
      · rintro σ2 H3 ⟨rfl, rfl, hnew⟩
        have hnum : tl.length % kn.length < kn.length := Nat.mod_lt _ hm0
        obtain ⟨a, ha⟩ : ∃ a, as[tl.length % kn.length]? = some a := ⟨as[tl.length % kn.length], List.getElem?_eq_getElem (by omega)⟩
        have gl2 : Lots K H3 as kn := hlots.to (fun b xs e => ?tups) fun a' ha' o e => keep2 _ _ e (hne a' (List.mem_cons_of_mem _ ha')).1 (hne a' (List.mem_cons_of_mem _ ha')).2.1 (hne a' (List.mem_cons_of_mem _ ha')).2.2
        case tups =>
          have hb1 : b ≠ w := fun q => by subst q; rcases e with e | ⟨_, e⟩ <;> rw [hw] at e <;> cases e
          have hb2 : b ≠ pl := fun q => by subst q; rcases e with e | ⟨_, e⟩ <;> rw [hpl] at e <;> cases e
          have hb3 : b ≠ tb := fun q => by subst q; rcases e with e | ⟨_, e⟩ <;> rw [htb] at e <;> cases e
          rcases e with e | ⟨z, e⟩
          · exact .inl (keep2 _ _ e hb1 hb2 hb3)
          · exact .inr ⟨z, keep2 _ _ e hb1 hb2 hb3⟩
        obtain ⟨ls, hls, hlk⟩ := gl2.get ha
        have hlsD : kn.getD (tl.length % kn.length) [] = ls := by rw [List.getD_eq_getElem?_getD, hls]; rfl
        have hix : atI (refs as) ((tl.length % kn.length : Nat) : Int) = some (.ref a) := by
          refine at_of (j := tl.length % kn.length) (by simp) ?_
          show (as.map V.ref)[_]? = _
          rw [List.getElem?_map, ha]; rfl
        obtain ⟨lvs, hl1, hl2⟩ := hlk
        have hlen2 : lvs.length = ls.length := by rw [dpAll_len hl2, List.length_map]
        have gkp3 := keep2 _ _ hkp hkw.1 hkw.2.1 hkw.2.2
        refine ⟨fun σ' H' => σ' = [some (.ref w), some (.int L), some (.ref kp), some (.str sd), some (.ref sa), some (.int tl.length), some (.int ((tl.length % kn.length : Nat) : Int)), some (.ref q), u8, u9] ∧ H' = H3 ∧ ls ≠ [], ?_, ?_⟩
        · refine ⟨_, rfl, _, rfl, _, _, _, _, rfl, rfl, SqL.of gkp3, hix, _, .inl ⟨lvs, SqL.of hl1, rfl⟩, ?_⟩
          cases hc : ls with
          | nil =>
            rw [hc] at hlen2
            have e : lvs = [] := List.eq_nil_of_length_eq_zero hlen2
            subst e
            refine iteT (k _ ps tl none W (hlsD.trans hc) hmk (WA2 none (Sq _ _ gw)) keep2)
          | cons l ls' =>
            rw [hc] at hlen2
            cases lvs with
            | nil => simp at hlen2
            | cons y' ys' => exact iteF ⟨rfl, rfl, by simp⟩
        · rintro σ3 H4 ⟨rfl, rfl, hnil⟩
          have hN : tl.length < 4000 := by
            have h1 := marks_le hm0 W (n := tl.length) (by omega) hmk
            have h2 := cand_len hk (L := L) x
            have h3 : kn.length * 60 ≤ 60 * 60 := Nat.mul_le_mul_right 60 hm1
            omega
          have hyb : y.natAbs < 2 ^ 400 := by
            have h1 := W.small hL hLb hk _ y hy
            have h2 : tl.length * 2 ^ 312 ≤ 2 ^ 390 := Nat.le_trans (Nat.mul_le_mul_right _ (Nat.le_of_lt hN)) (by decide)
            have h3 : (2 : Nat) ^ 390 + 2 ^ 390 ≤ 2 ^ 400 := by decide
            omega
          refine ⟨_, rfl, _, rfl, _, rfl, sa, _, rfl, DPut.t (Sq _ _ gsa) fq (by rw [seenK_len]; exact Nat.lt_trans hN (by decide)), ?_⟩
          rw [putK_new hnew]
          have gs4 := Sq _ _ gsa
          have nsa : ∀ b o, H4 b = some o → (∀ kvs, o ≠ .dT kvs) → b ≠ sa := fun b o e hno q => by
            subst q
            rw [e] at gs4
            exact hno _ (Option.some.inj gs4)
          have t5 : Tups H4 (upd H4 sa (.dT (seenK L kn.length ps tl.length ++ [([.inl ((tl.length % kn.length : Nat) : Int), .inl (ps.getD tl.length 0 % L)], V.int tl.length)]))) := fun b xs e => by
            have hb : b ≠ sa := by
              rintro rfl
              rcases e with e | ⟨_, e⟩ <;> rw [gs4] at e <;> cases e
            rcases e with e | ⟨z, e⟩
            · exact .inl ((upd_ne hb).trans e)
            · exact .inr ⟨z, (upd_ne hb).trans e⟩
          have up5 : ∀ b o, H4 b = some o → (∀ kvs, o ≠ .dT kvs) → (upd H4 sa (.dT (seenK L kn.length ps tl.length ++ [([.inl ((tl.length % kn.length : Nat) : Int), .inl (ps.getD tl.length 0 % L)], V.int tl.length)]))) b = some o := fun b o e hno => (upd_ne (nsa b o e hno)).trans e
          have gs5 : (upd H4 sa (.dT (seenK L kn.length ps tl.length ++ [([.inl ((tl.length % kn.length : Nat) : Int), .inl (ps.getD tl.length 0 % L)], V.int tl.length)]))) sa = some _ := upd_same
          have keep5 : ∀ b o, H b = some o → b ≠ w → b ≠ pl → b ≠ tb → (upd H4 sa (.dT (seenK L kn.length ps tl.length ++ [([.inl ((tl.length % kn.length : Nat) : Int), .inl (ps.getD tl.length 0 % L)], V.int tl.length)]))) b = some o := fun b o e n1 n2 n3 => (upd_ne (ne_of_none e hsa)).trans (keep2 b o e n1 n2 n3)
          generalize upd H4 sa (.dT (seenK L kn.length ps tl.length ++ [([.inl ((tl.length % kn.length : Nat) : Int), .inl (ps.getD tl.length 0 % L)], V.int tl.length)])) = H5 at t5 up5 gs5 keep5 ⊢
          have gw5 := up5 _ _ (Sq _ _ gw) (fun _ e => by cases e)
          have gpl5 := up5 _ _ (Sq _ _ gpl) (fun _ e => by cases e)
          have gtb5 := up5 _ _ (Sq _ _ gtb) (fun _ e => by cases e)
          have gtv5 := dpAll_tups t5 _ _ (noLs_map noL_encL tl) gtv2
          have gl5 := dpAll_tups t5 _ _ (noLs_map noL_encL ls) hl2
          have hkl := hk.get (tl.length % kn.length)
          rw [hlsD] at hkl
          refine ⟨_, rfl, _, rfl, _, _, _, _, rfl, rfl, SqL.of (keep5 _ _ hkp hkw.1 hkw.2.1 hkw.2.2), hix, _, rfl, _, rfl, w, Z.C_Walk, dx, _, _, rfl, gw5, T.cl_Walk, T.nWalk_places, wf_places _ _ _, _, rfl, _, _, _, _, rfl, rfl, SqL.of gpl5, hlast, _, rfl, ?_⟩
          refine ⟨_, ls, sd, y, L, rfl, .lst (SqL.of (up5 _ _ hl1 (fun _ e => by cases e))) gl5, hsd, fun l hl => ⟨(hkl.2 l hl).1, (hkl.2 l hl).2.up (by decide)⟩, Nat.le_trans hkl.1 (by decide), hL, hLb, hyb, fun e => absurd e hnil, fun H6 r l hl S6 hb hr => ?_⟩
          have hr' : Dp K H6 r (.tuple [.int (plc sd l y L), encL l]) := hr
          cases hr' with
          | tup sq da =>
            cases da with
            | cons a1 da =>
              cases a1
              cases da with
              | cons a2 da =>
              cases da
              have gw6 := S6 _ _ gw5
              have gpl6 := S6 _ _ gpl5
              have gtb6 := S6 _ _ gtb5
              have gs6 := S6 _ _ gs5
              have gtv6 := dpAll_mono S6 _ _ gtv5
              refine ⟨_, _, rfl, sq, rfl, _, _, rfl, _, _, rfl, rfl, ?_⟩
              refine ⟨_, rfl, w, Z.C_Walk, dx, _, _, rfl, gw6, T.cl_Walk, T.nWalk_places, wf_places _ _ _, .inl ⟨rfl, _, SqL.of gpl6⟩, _, rfl, pl, ps.map V.int, _, rfl, rfl, gpl6, ?_, ?_⟩
              · exact Nat.lt_of_le_of_lt (by rw [List.length_map]; omega : (ps.map V.int).length ≤ 4000) (by decide)
              have t7 : Tups H6 (upd H6 pl (.lst (ps.map V.int ++ [V.int (plc sd l y L)]))) := Tups.upd_lst gpl6
              have gw7 : (upd H6 pl (.lst (ps.map V.int ++ [V.int (plc sd l y L)]))) w = some (.ins Z.C_Walk dx (wf pl tb .non)) := (upd_ne hwp).trans gw6
              have gtb7 : (upd H6 pl (.lst (ps.map V.int ++ [V.int (plc sd l y L)]))) tb = some (.lst tvs) := (upd_ne (Ne.symm hpt)).trans gtb6
              have gtv7 := dpAll_tups t7 _ _ (noLs_map noL_encL tl) gtv6
              have ga7 := dp_tups t7 _ _ (noL_encL l) a2
              refine ⟨_, rfl, w, Z.C_Walk, dx, _, _, rfl, gw7, T.cl_Walk, T.nWalk_told_by, wf_told _ _ _, .inl ⟨rfl, _, SqL.of gtb7⟩, _, rfl, tb, tvs, _, rfl, rfl, gtb7, ?_, ?_⟩
              · exact Nat.lt_of_le_of_lt (by omega : tvs.length ≤ 4000) (by decide)
              have hps : sa ≠ pl := fun e => by rw [e, gpl6] at gs6; cases gs6
              have hts : sa ≠ tb := fun e => by rw [e, gtb6] at gs6; cases gs6
              have hmem : l ∈ kn.getD (tl.length % kn.length) [] := by rw [hlsD]; exact hl
              have hbest : IsBest sd (kn.getD (tl.length % kn.length) []) y L (plc sd l y L) := by rw [hlsD]; exact hb
              have W2 := W.snoc hy hmem rfl hbest
              have hnd : (marks L kn.length (ps ++ [plc sd l y L]) (tl ++ [l]).length).Nodup := by
                rw [List.length_append, List.length_singleton, marks_keep (by omega)]
                exact marks_nodup hmk (seen_none hnew)
              refine ⟨⟨_, _, _, _, _, ps ++ [plc sd l y L], tl ++ [l], _, rfl, W2, hnd, (upd_ne hwt).trans gw7, ?_, upd_same, ?_, ?_, fun b o e n1 n2 n3 => (upd_ne n3).trans ((upd_ne n2).trans (S6 _ _ (keep5 b o e n1 n2 n3)))⟩, ?_⟩
              · rw [upd_ne hpt, upd_same, List.map_append]; rfl
              · rw [List.map_append]
                exact acc_step gtb7 (noLs_map noL_encL _) rfl gtv7 ga7
              · rw [upd_ne hts, upd_ne hps, gs6, List.length_append, List.length_singleton, seenK_next (by omega)]
              · have h1 := marks_le hm0 W2 (n := (tl ++ [l]).length) (by simp; omega) hnd
                rw [lenAt_of upd_same, lenAt_of gtb]
                simp at h1 ⊢
                omega
    · rintro σ1 H1 Q1 Q2 hQ ⟨b, eb, hc⟩
      exact ⟨b, eb, hQ _ _ hc⟩
end
end KA
namespace KA
open PySem PySem.Spec PyProof.Rows L2 DP
/-- for k, x in enumerate(xs) -/
theorem for_enum {K : PySem.W.Frag} {a : Addr} {xs : List V} {g : TG} {tb : TS} {D : Ends} {σ : L2.St} {H : Hp} (Pv : Nat → L2.St → Hp → Prop) (h0 : Pv 0 σ H) (hl : ∀ i σ H, i ≤ xs.length → Pv i σ H → SqL K H a xs)
    (hs : ∀ i x T σ H, xs[i]? = some x → Pv i σ H → H T = none → g (.ref T) σ (upd H T (.tup [.int (i : Nat), x])) fun σ2 H2 => tb { D with nx := Pv (i + 1), ct := Pv (i + 1), bk := D.nx } σ2 H2) (hd : ∀ σ H, Pv xs.length σ H → D.nx σ H) :
    ∃ W : Nat → Nat → L2.St → Hp → Prop, (∃ m, W 0 m σ H) ∧ ∀ i m σ H, W i m σ H →
      ((Ite K a).stop i H ∧ D.nx σ H) ∨ ((Ite K a).go i H ∧ ∃ N : L2.St → Hp → Prop, (∀ σ' H', N σ' H' → ∃ m', m' < m ∧ W (i + 1) m' σ' H') ∧ ∀ x H', (Ite K a).yld i H x H' → g x σ H' fun σ2 H2 => tb { D with nx := N, ct := N, bk := D.nx } σ2 H2) := by
  refine ⟨fun i m σ H => m = xs.length - i ∧ i ≤ xs.length ∧ Pv i σ H, ⟨xs.length, by simp, Nat.zero_le _, h0⟩, ?_⟩
  rintro i m σ H ⟨rfl, hi, p⟩
  have q := hl i σ H hi p
  by_cases hlt : i < xs.length
  · refine .inr ⟨⟨xs, xs[i], q, by simp [hlt]⟩, Pv (i + 1), fun σ' H' p' => ⟨xs.length - (i + 1), by omega, rfl, hlt, p'⟩, fun v H' y => ?_⟩
    obtain ⟨T, x, rfl, hT, rfl, f⟩ := y
    exact hs i x T σ H (f xs q) p hT
  · have e : i = xs.length := by omega
    subst e
    exact .inl ⟨⟨xs, q, Nat.le_refl _⟩, hd σ H p⟩
/-- the sides' looks of hands are such as the walk asks -/
theorem knOk {Z : Ad} {K : PySem.W.Frag} {H : Hp} {ds : List Addr} {L : Int} {hs : List (List Lk)} (D : Darks Z K H ds L hs) (sd : Str) : KnOk (hs.map (sideOf sd)) := by
  intro ls hm
  obtain ⟨l0, hl0, rfl⟩ := List.mem_map.mp hm
  obtain ⟨i, hi, e⟩ := List.getElem_of_mem hl0
  have hl := D.1
  have DD := D.2 i ds[i] l0 (List.getElem?_eq_getElem (by omega)) (by rw [List.getElem?_eq_getElem hi, e])
  refine ⟨Nat.le_trans (List.length_filter_le _ _) DD.len, fun l hl => ?_⟩
  have h1 := DD.ok l (List.mem_filter.mp hl).1
  exact ⟨h1.1, h1.2.up (by decide)⟩
/-- an answer of a walk -/
def oV : Option Int → V
  | none => .non
  | some i => .int i
def spLen (Z : Ad) (K : PySem.W.Frag) : Sp := fun vs H Q _ => ∃ (d : Addr) (L : Int) (ls : List Lk), vs = [.ref d] ∧ DarkAt Z K H d L ls ∧ Q (.int L) H
def spWalk (Z : Ad) (K : PySem.W.Frag) : Sp := fun vs H Q _ => ∃ (w hp dx : Addr) (ds : List Addr) (sd : Str) (L x : Int) (hs : List (List Lk)), vs = [.ref w, .ref hp, .str sd, .int x] ∧ H w = some (.ins Z.C_Walk dx []) ∧ SqL K H hp (refs ds) ∧ Darks Z K H ds L hs ∧ 0 < ds.length ∧ ds.length ≤ 60 ∧ SideOk sd ∧ x.natAbs < 2 ^ 390 ∧ (∀ d ∈ ds, d ≠ w) ∧
  ∀ H' pl tb ps tl st, WalkOk sd L (hs.map (sideOf sd)) x ps tl → EndOk L (hs.map (sideOf sd)) ps tl st → (marks L (hs.map (sideOf sd)).length ps tl.length).Nodup → WalkAt Z K H' w pl tb ps tl st → Out w H H' → Q .non H'
def spPeriod (Z : Ad) (K : PySem.W.Frag) : Sp := fun vs H Q _ => ∃ (w pl tb : Addr) (ps : List Int) (tl : List Lk) (s : Nat), vs = [.ref w] ∧ WalkAt Z K H w pl tb ps tl (some s) ∧ Q (.int ((tl.length : Int) - s)) H
def spClimb (Z : Ad) (K : PySem.W.Frag) : Sp := fun vs H Q _ => ∃ (w pl tb : Addr) (ps : List Int) (tl : List Lk) (s : Nat), vs = [.ref w] ∧ WalkAt Z K H w pl tb ps tl (some s) ∧ ps.length = tl.length + 1 ∧ s < tl.length ∧ Q (.int (ps.getD tl.length 0 - ps.getD s 0)) H
def spBehind (Z : Ad) (K : PySem.W.Frag) : Sp := fun vs H Q _ => ∃ (w pl tb : Addr) (sd : Str) (L x n : Int) (kn : List (List Lk)) (ps : List Int) (tl : List Lk) (st : Option Nat), vs = [.ref w, .int n] ∧ WalkAt Z K H w pl tb ps tl st ∧ WalkOk sd L kn x ps tl ∧ EndOk L kn ps tl st ∧ SideOk sd ∧ 0 < L ∧ L.natAbs < 2 ^ 200 ∧ KnOk kn ∧ x.natAbs < 2 ^ 390 ∧ tl.length < 4000 ∧ 0 ≤ n ∧ n.natAbs < 2 ^ 300 ∧
  ∀ H', Same H H' → Q (oV (it sd L kn x n.toNat)) H'
def spCheck (Z : Ad) (K : PySem.W.Frag) : Sp := fun vs H Q _ => ∃ (hp : Addr) (ds : List Addr) (L : Int) (hs : List (List Lk)), vs = [.ref hp] ∧ SqL K H hp (refs ds) ∧ Darks Z K H ds L hs ∧ 0 < ds.length ∧ ∀ H', Same H H' → Q .non H'
def spPlaceB (Z : Ad) (K : PySem.W.Frag) : Sp := fun vs H Q _ => ∃ (hp : Addr) (ds : List Addr) (sd : Str) (L x n : Int) (hs : List (List Lk)), vs = [.ref hp, .str sd, .int x, .int n] ∧ SqL K H hp (refs ds) ∧ Darks Z K H ds L hs ∧ 0 < ds.length ∧ ds.length ≤ 60 ∧ SideOk sd ∧ x.natAbs < 2 ^ 390 ∧ 0 ≤ n ∧ n.natAbs < 2 ^ 300 ∧
  ∀ H', Same H H' → Q (oV (it sd L (hs.map (sideOf sd)) x n.toNat)) H'
def spOneB (Z : Ad) (K : PySem.W.Frag) (sd : Str) : Sp := fun vs H Q _ => ∃ (hp : Addr) (ds : List Addr) (L x n : Int) (hs : List (List Lk)), vs = [.ref hp, .int x, .int n] ∧ SqL K H hp (refs ds) ∧ Darks Z K H ds L hs ∧ 0 < ds.length ∧ ds.length ≤ 60 ∧ x.natAbs < 2 ^ 390 ∧ 0 ≤ n ∧ n.natAbs < 2 ^ 300 ∧
  ∀ H', Same H H' → Q (oV (it sd L (hs.map (sideOf sd)) x n.toNat)) H'
theorem wf_new (pl tb : Addr) : putF "start" .non (putF "told_by" (.ref tb) (putF "places" (.ref pl) [])) = wf pl tb .non := by
  have e1 : ¬ (("places" : Str) = "told_by") := by decide +kernel
  have e2 : ¬ (("places" : Str) = "start") := by decide +kernel
  have e3 : ¬ (("told_by" : Str) = "start") := by decide +kernel
  show putF "start" .non (if ("places" : Str) = "told_by" then _ else (("places" : Str), V.ref pl) :: putF "told_by" (.ref tb) []) = _
  rw [if_neg e1]
  show (if ("places" : Str) = "start" then _ else (("places" : Str), V.ref pl) :: putF "start" .non (putF "told_by" (.ref tb) [])) = _
  rw [if_neg e2]
  show (("places" : Str), V.ref pl) :: (if ("told_by" : Str) = "start" then _ else (("told_by" : Str), V.ref tb) :: putF "start" .non []) = _
  rw [if_neg e3]; rfl
section
variable {P : Program} {w : World} {K : PySem.W.Frag} {mg : Str → Option Value} {base : Heap} {Z : Ad}
theorem ok_Dark_length (T : Tx K w mg Z) : FnOk P w K mg base CX0 1 Z.a_Dark_length Z.d_Dark_length P_Dark_length (spLen Z K) := by
  refine T.F_Dark_length.ok scDark_length (fun vs H Q E h => ?_) (fun cdv A outer s H vs Q E hr h => ?_)
  · obtain ⟨d, L, ls, rfl, _⟩ := h
    rfl
  · obtain ⟨d, L, ls, rfl, D, k⟩ := h
    obtain ⟨dx, la, xs, h1, h2, h3⟩ := id D.ex
    refine ⟨_, (pss_one (ps_ret (fldK (K := K) (pv 0) rfl))), ?_⟩
    exact ⟨_, rfl, d, Z.C, dx, _, _, rfl, h1, T.cl, T.n_length, df_length _ _, k⟩
theorem ok_Walk_init (T : Tx K w mg Z) : FnOk P w K mg base CX0 4 Z.a_Walk_init Z.d_Walk_init P_Walk_init (spWalk Z K) := by
  refine T.F_Walk_init.ok scWalk_init (fun vs H Q E h => ?_) (fun cdv A outer s H vs Q E hr h => ?_)
  · obtain ⟨w, hp, dx, ds, sd, L, x, hs, rfl, _⟩ := h
    rfl
  · obtain ⟨w, hp, dx, ds, sd, L, x, hs, rfl, hw, hh, hD, hd0, hd1, hsd, hx, hdw, k⟩ := h
    refine ⟨_, (pss_cons (ps_fld (pv 0) (pe_lst (pa_cons (pv 3) pa_nil)) rfl)
      (pss_cons (ps_fld (pv 0) (pe_lst pa_nil) rfl)
      (pss_cons (ps_fld (pv 0) pe_non rfl)
      (pss_one (ps_expr (pe_meth (pv 0) T.cl_Walk T.m_Walkfollow (ok_Walkfollow T) (hr.mono (by decide)) T.bb_Walkfollow .nil pass0 (pa_cons (pe_meth0 (pe_ix (ixL (K := K)) (pv 1) pe_int (fun _ _ => rfl)) T.cl T.m_Dark_length (ok_Dark_length T) (hr.mono (by decide)) T.bb_Dark_length .nil pass0) (pa_cons (pe_call (ok_round_looks T) (hr.mono (by decide)) (by rfl) T.g_round_looks T.F_round_looks.kp T.bb_round_looks .nil pass0 (pa_cons (pv 1) (pa_cons (pv 2) pa_nil))) (pa_cons (pv 2) pa_nil))))))))), ?_⟩
    refine ⟨_, rfl, (by show 1 ≤ sizeLine; decide), fun pl hpl => ?_⟩
    have hwp : w ≠ pl := ne_of_none hw hpl
    refine ⟨_, rfl, w, Z.C_Walk, dx, [], rfl, (upd_ne hwp).trans hw, T.cl_Walk, T.nWalk_places, (by show 0 < 1000; decide), ?_⟩
    refine ⟨(by show 0 ≤ sizeLine; decide), fun tb htb => ?_⟩
    have g1 : (upd (upd H pl (.lst [V.int x])) w (.ins Z.C_Walk dx (putF "places" (.ref pl) []))) w = some (.ins Z.C_Walk dx (putF "places" (.ref pl) [])) := upd_same
    have g1p : (upd (upd H pl (.lst [V.int x])) w (.ins Z.C_Walk dx (putF "places" (.ref pl) []))) pl = some (.lst [V.int x]) := (upd_ne (Ne.symm hwp)).trans upd_same
    have k1 : ∀ b o, H b = some o → b ≠ w → (upd (upd H pl (.lst [V.int x])) w (.ins Z.C_Walk dx (putF "places" (.ref pl) []))) b = some o := fun b o e n => (upd_ne n).trans ((upd_ne (ne_of_none e hpl)).trans e)
    generalize upd (upd H pl (.lst [V.int x])) w (.ins Z.C_Walk dx (putF "places" (.ref pl) [])) = H1 at htb g1 g1p k1 ⊢
    have hwt : w ≠ tb := ne_of_none g1 htb
    have hpt : pl ≠ tb := ne_of_none g1p htb
    refine ⟨_, rfl, w, Z.C_Walk, dx, _, rfl, (upd_ne hwt).trans g1, T.cl_Walk, T.nWalk_told_by, (by show 1 < 1000; decide), ?_⟩
    have g2 : (upd (upd H1 tb (.lst [])) w (.ins Z.C_Walk dx (putF "told_by" (.ref tb) (putF "places" (.ref pl) [])))) w = some (.ins Z.C_Walk dx (putF "told_by" (.ref tb) (putF "places" (.ref pl) []))) := upd_same
    have g2p : (upd (upd H1 tb (.lst [])) w (.ins Z.C_Walk dx (putF "told_by" (.ref tb) (putF "places" (.ref pl) [])))) pl = some (.lst [V.int x]) := (upd_ne (Ne.symm hwp)).trans ((upd_ne hpt).trans g1p)
    have g2t : (upd (upd H1 tb (.lst [])) w (.ins Z.C_Walk dx (putF "told_by" (.ref tb) (putF "places" (.ref pl) [])))) tb = some (.lst []) := (upd_ne (Ne.symm hwt)).trans upd_same
    have k2 : ∀ b o, H b = some o → b ≠ w → (upd (upd H1 tb (.lst [])) w (.ins Z.C_Walk dx (putF "told_by" (.ref tb) (putF "places" (.ref pl) [])))) b = some o := fun b o e n => (upd_ne n).trans ((upd_ne (ne_of_none (k1 b o e n) htb)).trans (k1 b o e n))
    generalize upd (upd H1 tb (.lst [])) w (.ins Z.C_Walk dx (putF "told_by" (.ref tb) (putF "places" (.ref pl) []))) = H2 at g2 g2p g2t k2 ⊢
    refine ⟨_, rfl, w, Z.C_Walk, dx, _, rfl, g2, T.cl_Walk, T.nWalk_start, (by show 2 < 1000; decide), ?_⟩
    rw [wf_new]
    have g3 : (upd H2 w (.ins Z.C_Walk dx (wf pl tb .non))) w = some (.ins Z.C_Walk dx (wf pl tb .non)) := upd_same
    have g3p : (upd H2 w (.ins Z.C_Walk dx (wf pl tb .non))) pl = some (.lst [V.int x]) := (upd_ne (Ne.symm hwp)).trans g2p
    have g3t : (upd H2 w (.ins Z.C_Walk dx (wf pl tb .non))) tb = some (.lst []) := (upd_ne (Ne.symm hwt)).trans g2t
    have k3 : Out w H (upd H2 w (.ins Z.C_Walk dx (wf pl tb .non))) := fun b o e n => (upd_ne n).trans (k2 b o e n)
    generalize upd H2 w (.ins Z.C_Walk dx (wf pl tb .non)) = H3 at g3 g3p g3t k3 ⊢
    have hh3 := k3.sqL hw hh
    have hD3 : Darks Z K H3 ds L hs := ⟨hD.1, fun i d ls e1 e2 => k3.dark (hD.2 i d ls e1 e2) hw (hdw d (List.mem_of_getElem? e1))⟩
    obtain ⟨d0, hd00⟩ : ∃ d0, ds[0]? = some d0 := ⟨ds[0], List.getElem?_eq_getElem hd0⟩
    obtain ⟨ls0, hls0, D0⟩ := hD3.get hd00
    have hix : atI (refs ds) 0 = some (.ref d0) := by
      refine at_of (j := 0) rfl ?_
      show (ds.map V.ref)[0]? = _
      rw [List.getElem?_map, hd00]; rfl
    obtain ⟨dx0, la0, vs0, e1, e2, e3⟩ := id D0.ex
    refine ⟨_, rfl, w, dx, _, rfl, g3, wf_no _ _ _ (by decide +kernel) (by decide +kernel) (by decide +kernel), ?_⟩
    refine ⟨_, rfl, _, _, _, _, rfl, rfl, hh3, hix, d0, dx0, _, rfl, e1, df_no _ _ (by decide +kernel) (by decide +kernel), d0, L, ls0, rfl, D0, ?_⟩
    refine ⟨_, rfl, _, rfl, hp, ds, sd, L, hs, rfl, hh3, hD3, hsd, Nat.le_trans hd1 (by decide), fun H4 p as hp4 hfr S4 gp4 gl4 => ?_⟩
    have hn : ∀ a ∈ p :: as, a ≠ w ∧ a ≠ pl ∧ a ≠ tb := fun a ha => by
      have : H3 a = none := by
        rcases List.mem_cons.mp ha with e | e
        · subst e; exact hp4
        · exact (hfr a e).1
      exact ⟨fun e => (by rw [e, g3] at this; cases this), fun e => (by rw [e, g3p] at this; cases this), fun e => (by rw [e, g3t] at this; cases this)⟩
    have hlen := hD.1
    refine ⟨_, rfl, w, p, pl, tb, dx, as, L, x, sd, hs.map (sideOf sd), rfl, S4 _ _ g3, S4 _ _ g3p, S4 _ _ g3t, gp4, gl4, hpt, hn, hsd, D0.pos, D0.big, hx, by rw [List.length_map]; omega, by rw [List.length_map]; omega, knOk hD sd, fun H5 ps tl st W E hm WA k5 => ?_⟩
    refine k H5 pl tb ps tl st W E hm WA fun b o e n => k5 b o (S4 _ _ (k3 b o e n)) n ?_ ?_
    · intro e'; subst e'; rw [hpl] at e; cases e
    · intro e'; subst e'; exact absurd e (by
        intro e
        rw [k1 _ _ e n] at htb; cases htb)
theorem ok_Walk_period (T : Tx K w mg Z) : FnOk P w K mg base CX0 1 Z.a_Walk_period Z.d_Walk_period P_Walk_period (spPeriod Z K) := by
  refine T.F_Walk_period.ok scWalk_period (fun vs H Q E h => ?_) (fun cdv A outer s H vs Q E hr h => ?_)
  · obtain ⟨w, pl, tb, ps, tl, s, rfl, _⟩ := h
    rfl
  · obtain ⟨w, pl, tb, ps, tl, s, rfl, ⟨dx, tvs, h1, h2, h3, h4⟩, k⟩ := h
    have hl : tvs.length = tl.length := by rw [dpAll_len h4, List.length_map]
    rw [← hl] at k
    refine ⟨_, (pss_one (ps_ret (pe_op op_sub (pe_callB (lenK (K := K)) (by rfl) T.b_len (by decide +kernel) (pa_cons (fldK (K := K) (pv 0) rfl) pa_nil)) (fldK (K := K) (pv 0) rfl)))), ?_⟩
    exact ⟨_, rfl, w, Z.C_Walk, dx, _, _, rfl, h1, T.cl_Walk, T.nWalk_told_by, wf_told _ _ _, tb, tvs, rfl, .inl (SqL.of h3), _, rfl, w, Z.C_Walk, dx, _, _, rfl, h1, T.cl_Walk, T.nWalk_start, wf_start _ _ _, _, _, rfl, rfl, k⟩
theorem ok_Walk_climb (T : Tx K w mg Z) : FnOk P w K mg base CX0 1 Z.a_Walk_climb Z.d_Walk_climb P_Walk_climb (spClimb Z K) := by
  refine T.F_Walk_climb.ok scWalk_climb (fun vs H Q E h => ?_) (fun cdv A outer s H vs Q E hr h => ?_)
  · obtain ⟨w, pl, tb, ps, tl, s, rfl, _⟩ := h
    rfl
  · obtain ⟨w, pl, tb, ps, tl, s, rfl, ⟨dx, tvs, h1, h2, h3, h4⟩, hl, hs, k⟩ := h
    have q1 : atI (ps.map V.int) (-1) = some (.int (ps.getD tl.length 0)) := by
      rw [atI_last (by rw [List.length_map]; omega : 0 < (ps.map V.int).length), List.length_map, show ps.length - 1 = tl.length by omega, List.getElem?_map, List.getD_eq_getElem?_getD, List.getElem?_eq_getElem (by omega)]; rfl
    have q2 : atI (ps.map V.int) (s : Int) = some (.int (ps.getD s 0)) := by
      refine at_of (j := s) (by simp) ?_
      rw [List.getElem?_map, List.getD_eq_getElem?_getD, List.getElem?_eq_getElem (by omega)]; rfl
    refine ⟨_, (pss_one (ps_ret (pe_op op_sub (pe_ix (ixL (K := K)) (fldK (K := K) (pv 0) rfl) (pe_un un_neg pe_int) (fun _ _ => rfl)) (pe_ix (ixL (K := K)) (fldK (K := K) (pv 0) rfl) (fldK (K := K) (pv 0) rfl) (fun _ _ => rfl))))), ?_⟩
    exact ⟨_, rfl, w, Z.C_Walk, dx, _, _, rfl, h1, T.cl_Walk, T.nWalk_places, wf_places _ _ _, _, rfl, _, _, _, _, rfl, rfl, SqL.of h2, q1, _, rfl, w, Z.C_Walk, dx, _, _, rfl, h1, T.cl_Walk, T.nWalk_places, wf_places _ _ _, _, rfl, w, Z.C_Walk, dx, _, _, rfl, h1, T.cl_Walk, T.nWalk_start, wf_start _ _ _, _, _, _, _, rfl, rfl, SqL.of h2, q2, _, _, rfl, rfl, k⟩
theorem getI (ps : List Int) {i : Nat} {j : Int} (h : i < ps.length) (e : j = (i : Int)) : atI (ps.map V.int) j = some (.int (ps.getD i 0)) := by
  refine at_of (j := i) e ?_
  rw [List.getElem?_map, List.getD_eq_getElem?_getD, List.getElem?_eq_getElem h]; rfl
theorem ok_check_round (T : Tx K w mg Z) : FnOk P w K mg base CX0 2 Z.a_check_round Z.d_check_round P_check_round (spCheck Z K) := by
  refine T.F_check_round.ok sccheck_round (fun vs H Q E h => ?_) (fun cdv A outer s H vs Q E hr h => ?_)
  · obtain ⟨hp, ds, L, hs, rfl, _⟩ := h
    rfl
  · obtain ⟨hp, ds, L, hs, rfl, hh, hD, hd0, k⟩ := h
    obtain ⟨d0, hd00⟩ : ∃ d0, ds[0]? = some d0 := ⟨ds[0], List.getElem?_eq_getElem hd0⟩
    obtain ⟨ls0, hls0, D0⟩ := hD.get hd00
    have hix : atI (refs ds) 0 = some (.ref d0) := by
      refine at_of (j := 0) rfl ?_
      show (ds.map V.ref)[0]? = _
      rw [List.getElem?_map, hd00]; rfl
    obtain ⟨dx0, la0, vs0, e1, e2, e3⟩ := id D0.ex
    refine ⟨_, (C8.pss_cut (ps_if (pt_not (pt_truth (pv 0) (by intro _; rfl))) (pss_one ps_never) pss_nil)
      (pss_cons (ps_set (i := 1) sccheck_round.nd rfl (Or.inl rfl) (pe_meth0 (pe_ix (ixL (K := K)) (pv 0) pe_int (fun _ _ => rfl)) T.cl T.m_Dark_length (ok_Dark_length T) (hr.mono (by decide)) T.bb_Dark_length .nil pass0))
      (pss_one (ps_for PassesOwn.never rfl (pi_enum (by rfl) T.b_enumerate (pa_cons (pv 0) pa_nil)) (tupK (K := K) (by rfl) (pgs_cons (pg_name (i := 2) sccheck_round.nd rfl (Or.inl rfl)) (pgs_cons (pg_name (i := 3) sccheck_round.nd rfl (Or.inl rfl)) pgs_nil))) (pss_one (ps_if (pt_cmpR op_ne (pe_meth0 (pv 3) T.cl T.m_Dark_length (ok_Dark_length T) (hr.mono (by decide)) T.bb_Dark_length .nil pass0) (pv 1) (nomark _)) (pss_one ps_never) pss_nil)))))), ?_⟩
    refine ⟨fun σ' H' => σ' = [some (.ref hp), none, none, none] ∧ H' = H, ?_, ?_⟩
    · refine ⟨_, rfl, _, .inl ⟨refs ds, hh, rfl⟩, ?_⟩
      cases ds with
      | nil => simp at hd0
      | cons d ds => exact iteF ⟨rfl, rfl⟩
    · rintro σ1 H1 ⟨rfl, rfl⟩
      refine ⟨_, rfl, _, _, _, _, rfl, rfl, hh, hix, d0, dx0, _, rfl, e1, df_no _ _ (by decide +kernel) (by decide +kernel), d0, L, ls0, rfl, D0, ?_⟩
      refine ⟨_, rfl, hp, refs ds, rfl, hh, ?_⟩
      refine for_enum (K := K) (a := hp) (xs := refs ds) (fun i σ' H' => ∃ u2 u3, σ' = [some (.ref hp), some (.int L), u2, u3] ∧ Same H1 H') ⟨_, _, rfl, fun _ _ e => e⟩ (fun i σ' H' _ ⟨_, _, _, S⟩ => Same.sqL S hh) ?_ (fun σ' H' ⟨_, _, _, S⟩ => k H' S)
      rintro i y T' σ' H' hi ⟨u2, u3, rfl, S⟩ hT'
      obtain ⟨d, hd, rfl⟩ : ∃ d, ds[i]? = some d ∧ y = .ref d := by
        obtain ⟨d, h1, h2⟩ := map_at hi
        exact ⟨d, h1, h2⟩
      obtain ⟨ls, hls, DD⟩ := hD.get hd
      have S2 := S.trans (same_upd (o := HO.tup [V.int (i : Nat), .ref d]) hT')
      have DD2 := DD.same S2
      obtain ⟨dx, la, vs, q1, q2, q3⟩ := id DD2.ex
      refine ⟨_, _, rfl, SqT.of upd_same, rfl, _, _, rfl, _, _, rfl, rfl, ?_⟩
      refine ⟨_, rfl, d, dx, _, rfl, q1, df_no _ _ (by decide +kernel) (by decide +kernel), d, L, ls, rfl, DD2, _, rfl, rfl, _, rfl, ?_⟩
      exact ite2 (fun c => (by simp at c : False).elim) (fun _ => ⟨_, _, rfl, S2⟩)
end
end KA
namespace KA
open PySem PySem.Spec PyProof.Rows L2 DP
/-- what stood stands, but at t and g -/
def Keep (t g : Addr) (H H' : Hp) : Prop := ∀ b o, H b = some o → b ≠ t → b ≠ g → H' b = some o
theorem Keep.refl (t g : Addr) (H : Hp) : Keep t g H H := fun _ _ h _ _ => h
theorem Keep.trans {t g : Addr} {H H1 H2 : Hp} (a : Keep t g H H1) (b : Keep t g H1 H2) : Keep t g H H2 := fun c o h x y => b c o (a c o h x y) x y
/-- the tray: at t, its great numbers at g; no more than n draws so far went by the fold -/
structure Tray (H : Hp) (t g : Addr) (n : Nat) : Prop where
  ex : ∃ (gs : List Int) (l f c : Int), H t = some (.lst [.ref g, .int l, .int f, .int c]) ∧ H g = some (.lst (gs.map V.int)) ∧ gs.length ≤ 63 ∧ (∀ x ∈ gs, 0 ≤ x) ∧ 0 ≤ l ∧ 0 ≤ f ∧ f < 2 ^ 61 ∧ 0 ≤ c ∧ c ≤ (n : Int)
  ne : t ≠ g
theorem Tray.same {H H' : Hp} {t g : Addr} {n : Nat} (T : Tray H t g n) (S : Same H H') : Tray H' t g n := by
  obtain ⟨⟨gs, l, f, c, h1, h2, r⟩, hne⟩ := T
  exact ⟨⟨gs, l, f, c, S _ _ h1, S _ _ h2, r⟩, hne⟩
theorem Keep.of_same {t g : Addr} {H H' : Hp} (S : Same H H') : Keep t g H H' := fun b o e _ _ => S b o e
def spDraw : Sp := fun vs H Q _ => ∃ (t g : Addr) (n : Nat) (m : Int), vs = [.ref t, .int m] ∧ Tray H t g n ∧ 0 < m ∧ m.natAbs < 2 ^ 1000 ∧ n < 2 ^ 60 ∧
  ∀ (H' : Hp) (r : Int), 0 ≤ r → r < m → Tray H' t g (n + 1) → Keep t g H H' → Q (.int r) H'
/-- the length of the list at g -/
theorem shaped_ints (ns : List Int) : SeqAt.shaped (.list (ns.map .int)) = true := by
  have h1 : ∀ ns : List Int, PyData.canLayAll0 (ns.map .int) = true := by
    intro ns
    induction ns with
    | nil => rfl
    | cons a r ih => simp [PyData.canLayAll0, PyData.canLay0, ih]
  have h2 : ∀ ns : List Int, PyData.depthAll (ns.map .int) = 0 := PySem.W.depth_ints
  unfold SeqAt.shaped
  simp [PyData.canLay0, PyData.depth, h1, h2]
theorem pow_lt {i : Int} {a n : Nat} (h : i.natAbs < 2 ^ a) (h0 : n ≠ 0) : (i ^ n).natAbs < 2 ^ (a * n) := by
  rw [Int.natAbs_pow, Nat.pow_mul]
  exact Nat.pow_lt_pow_left h h0
theorem seqIx0 {n : Nat} (h : 0 < n) : seqIndex? 0 n = some 0 := by
  unfold seqIndex?
  simp
  omega
theorem while_post {c : TT} {tb : TS} {D : Ends} {σ : L2.St} {H : Hp} (Pv : L2.St → Hp → Prop) (μ : L2.St → Hp → Nat) (Po : L2.St → Hp → Prop) (h0 : Pv σ H)
    (hs : ∀ σ H, Pv σ H → c σ H fun b H1 => if b = true then tb { D with nx := fun σ' H' => Pv σ' H' ∧ μ σ' H' < μ σ H, ct := fun σ' H' => Pv σ' H' ∧ μ σ' H' < μ σ H, bk := D.nx } σ H1 else Po σ H1)
    (hd : ∀ σ H, Po σ H → D.nx σ H) (mono : ∀ σ H Q Q', (∀ b H1, Q b H1 → Q' b H1) → c σ H Q → c σ H Q') : tWhile c tb D σ H :=
  while_by Pv μ h0 (fun σ1 H1 p => mono σ1 H1 _ _ (fun b H2 q => by
    cases b with
    | true => exact q
    | false => exact hd _ _ q) (hs σ1 H1 p)) mono
section
variable {P : Program} {w : World} {K : PySem.W.Frag} {mg : Str → Option Value} {base : Heap} {Z : Ad}
theorem ok_law_draw (T : Tx K w mg Z) : FnOk P w K mg base CX0 1 Z.a_law_draw Z.d_law_draw P_law_draw (spDraw) := by
  refine T.F_law_draw.ok sclaw_draw (fun vs H Q E h => ?_) (fun cdv A outer s H vs Q E hr h => ?_)
  · obtain ⟨t, g, n, m, rfl, _⟩ := h
    rfl
  · obtain ⟨t, g, n, m, rfl, ⟨ht, hne⟩, hm, hmb, hn, k⟩ := h
    refine ⟨_, (C8.pss_cut (ps_while PassesOwn.never (PW.pt (pw_and (pt_cmpR op_lt (pe_ix (ixL (K := K)) (pv 0) pe_int (fun _ _ => rfl)) pe_int (nomark _)) (pw_and1 (pt_cmpR (neDK (K := K) hr.units) (pe_ix (ixL (K := K)) (pv 0) pe_int (fun _ _ => rfl)) (pe_lst pa_nil) (nomark _))))) (pss_one (ps_asg (pe_bm PySem.F.plainAttrs_list PySem.F.slot_list_pop PySem.F.type_list_pop mt_popAt (pe_ix (ixL (K := K)) (pv 0) pe_int (fun _ _ => rfl)) (pa_cons pe_int pa_nil)) (pg_sub (pv 0) pe_int set_list))))
      (C8.pss_cut (ps_if (pt_cmpR op_ge (pe_ix (ixL (K := K)) (pv 0) pe_int (fun _ _ => rfl)) pe_int (nomark _)) (pss_cons (ps_set (i := 2) sclaw_draw.nd rfl (Or.inl rfl) (pe_op op_mod (pe_ix (ixL (K := K)) (pv 0) pe_int (fun _ _ => rfl)) (pv 1)))
      (pss_cons (ps_asg (pe_op op_fdivW (pe_ix (ixL (K := K)) (pv 0) pe_int (fun _ _ => rfl)) (pv 1)) (pg_sub (pv 0) pe_int set_list))
      (pss_one (ps_ret (pv 2))))) pss_nil)
      (pss_cons (ps_asg (pe_op op_add (pe_ix (ixL (K := K)) (pv 0) pe_int (fun _ _ => rfl)) pe_int) (pg_sub (pv 0) pe_int set_list))
      (pss_cons (ps_set (i := 3) sclaw_draw.nd rfl (Or.inl rfl) (pe_op op_mod (pe_op op_add (pe_op op_mulW (pe_op op_add (pe_ix (ixL (K := K)) (pv 0) pe_int (fun _ _ => rfl)) pe_int) (pe_op op_pow (pe_op op_add (pe_ix (ixL (K := K)) (pv 0) pe_int (fun _ _ => rfl)) pe_int) pe_int)) (pe_op op_mulW pe_int (pe_ix (ixL (K := K)) (pv 0) pe_int (fun _ _ => rfl)))) (pe_op op_sub (pe_op op_pow pe_int pe_int) pe_int)))
      (pss_one (ps_ret (pe_op op_mod (pe_op op_fdivW (pe_op op_mod (pe_op op_pow (pv 3) pe_int) (pe_op op_add (pe_op op_pow pe_int pe_int) pe_int)) pe_int) (pv 1)))))))), ?_⟩
    -- while tray[1] < 2 and tray[0] != []
    refine ⟨fun σ' H' => σ' = [some (.ref t), some (.int m), none, none] ∧ Tray H' t g n ∧ Keep t g H H', ?_, ?_⟩
    · refine while_post (fun σ' H' => σ' = [some (.ref t), some (.int m), none, none] ∧ Tray H' t g n ∧ Keep t g H H') (fun _ H' => lenAt H' g) (fun σ' H' => σ' = [some (.ref t), some (.int m), none, none] ∧ Tray H' t g n ∧ Keep t g H H') ⟨rfl, ⟨ht, hne⟩, Keep.refl _ _ _⟩ ?_ (fun _ _ q => q) ?_
      · rintro σ1 H1 ⟨rfl, ⟨⟨gs, l, f, c, h1, h2, hl, hge, hl0, hf0, hf1, hc0, hc1⟩, _⟩, kp⟩
        refine ⟨_, rfl, _, _, _, _, rfl, rfl, SqL.of h1, rfl, _, _, rfl, rfl, _, rfl, ?_⟩
        refine ite2 (fun hlt => ?_) (fun hnl => ?_)
        · refine ⟨_, rfl, _, _, _, _, rfl, rfl, SqL.of h1, rfl, (by show 0 ≤ sizeLine; decide), fun p hp => ?_⟩
          have g2 : (upd H1 p (.lst [])) g = some (.lst (gs.map V.int)) := (upd_ne (ne_of_none h2 hp)).trans h2
          have g1 : (upd H1 p (.lst [])) t = some (.lst [.ref g, .int l, .int f, .int c]) := (upd_ne (ne_of_none h1 hp)).trans h1
          have kp1 : Keep t g H (upd H1 p (.lst [])) := fun b o e n1 n2 => (upd_ne (ne_of_none (kp b o e n1 n2) hp)).trans (kp b o e n1 n2)
          refine ⟨_, _, .lst (SqL.of g2) (dpAll_ints gs), .lst (SqL.of upd_same) .nil, shaped_ints gs, rfl, _, rfl, ?_⟩
          cases gs with
          | nil => exact iteF ⟨rfl, ⟨⟨[], l, f, c, g1, g2, hl, hge, hl0, hf0, hf1, hc0, hc1⟩, hne⟩, kp1⟩
          | cons y ys =>
            refine iteT ?_
            -- tray[1] = tray[0].pop(0)
            refine ⟨_, rfl, _, _, _, _, rfl, rfl, SqL.of g1, rfl, .inl ⟨rfl, _, SqL.of g2⟩, _, _, _, 0, _, rfl, rfl, g2, by decide, by decide, seqIx0 (by simp), rfl, ?_⟩
            refine ⟨_, rfl, _, _, _, 1, rfl, rfl, (upd_ne hne).trans g1, rfl, ?_⟩
            refine ⟨⟨rfl, ⟨⟨ys, y, f, c, upd_same, (upd_ne (Ne.symm hne)).trans upd_same, ?_, ?_, ?_, hf0, hf1, hc0, hc1⟩, hne⟩, ?_⟩, ?_⟩
            · simp at hl; omega
            · exact fun x hx => hge x (List.mem_cons_of_mem _ hx)
            · exact hge y List.mem_cons_self
            · exact fun b o e n1 n2 => (upd_ne n1).trans ((upd_ne n2).trans (kp1 b o e n1 n2))
            · rw [lenAt_of ((upd_ne (Ne.symm hne)).trans upd_same), lenAt_of h2]
              simp
        · exact iteF ⟨rfl, ⟨⟨gs, l, f, c, h1, h2, hl, hge, hl0, hf0, hf1, hc0, hc1⟩, hne⟩, kp⟩
      · intro σ1 H1 Q1 Q2 hQ hc
        obtain ⟨v, hv, p, xs, i, x, e1, e2, hs, ha, i1, j1, e3, e4, k1, ek, hif⟩ := hc
        refine ⟨v, hv, p, xs, i, x, e1, e2, hs, ha, i1, j1, e3, e4, k1, ek, ?_⟩
        cases k1 with
        | false => exact hQ _ _ hif
        | true =>
          obtain ⟨v, hv, p, xs, i, x, e1, e2, hs, ha, hz, hp⟩ := hif
          refine ⟨v, hv, p, xs, i, x, e1, e2, hs, ha, hz, fun p' np => ?_⟩
          obtain ⟨d, e, d1, d2, s1, s2, b, eb, q⟩ := hp p' np
          exact ⟨d, e, d1, d2, s1, s2, b, eb, hQ _ _ q⟩
    · rintro σ1 H1 ⟨rfl, ⟨⟨gs, l, f, c, h1, h2, hl, hge, hl0, hf0, hf1, hc0, hc1⟩, _⟩, kp⟩
      refine ⟨fun σ' H' => σ' = [some (.ref t), some (.int m), none, none] ∧ H' = H1, ?_, ?_⟩
      · refine ⟨_, rfl, _, _, _, _, rfl, rfl, SqL.of h1, rfl, _, _, rfl, rfl, _, rfl, ?_⟩
        refine ite2 (fun hge2 => ?_) (fun _ => ⟨rfl, rfl⟩)
        refine ⟨_, rfl, _, _, _, _, rfl, rfl, SqL.of h1, rfl, _, rfl, _, _, rfl, rfl, hm, ?_⟩
        refine ⟨_, rfl, _, _, _, _, rfl, rfl, SqL.of h1, rfl, _, rfl, _, _, rfl, rfl, wide_div hm hmb (by decide) (by decide), _, rfl, _, _, _, 1, rfl, rfl, h1, rfl, _, rfl, ?_⟩
        refine k _ _ (Int.emod_nonneg _ (by omega)) (Int.emod_lt_of_pos _ hm) ⟨⟨gs, l / m, f, c, upd_same, (upd_ne (Ne.symm hne)).trans h2, hl, hge, Int.ediv_nonneg hl0 (by omega), hf0, hf1, hc0, by push_cast; omega⟩, hne⟩ fun b o e n1 n2 => (upd_ne n1).trans (kp b o e n1 n2)
      · rintro σ2 H2 ⟨rfl, rfl⟩
        refine ⟨_, rfl, _, _, _, _, rfl, rfl, SqL.of h1, rfl, _, _, rfl, rfl, _, rfl, _, _, _, 3, rfl, rfl, h1, rfl, ?_⟩
        have g1 : (upd H2 t (.lst (List.set [.ref g, .int l, .int f, .int c] 3 (.int (c + 1))))) t = some (.lst [.ref g, .int l, .int f, .int (c + 1)]) := upd_same
        have bf : (f + 5).natAbs < 2 ^ 63 := by omega
        have bc : (c + 1 + 2).natAbs < 2 ^ 61 := by omega
        have b3 : ((c + 1 + 2) ^ (3 : Int).toNat).natAbs < 2 ^ (61 * 3) := pow_lt bc (by decide)
        refine ⟨_, rfl, _, _, _, _, rfl, rfl, SqL.of g1, rfl, _, _, rfl, rfl, _, rfl, _, _, _, _, rfl, rfl, SqL.of g1, rfl, _, _, rfl, rfl, _, _, rfl, rfl, ⟨by decide, by decide, Nat.lt_trans bc (by decide)⟩, _, _, rfl, rfl, wide_mul bf b3 (by decide) (by decide) (by decide), ?_⟩
        refine ⟨_, rfl, _, _, _, _, rfl, rfl, SqL.of g1, rfl, _, _, rfl, rfl, wide_mul (a := 30) (b := 61) (by decide) (by omega) (by decide) (by decide) (by decide), _, _, rfl, rfl, ?_⟩
        refine ⟨_, _, rfl, rfl, ⟨by decide, by decide, by decide⟩, _, _, rfl, rfl, _, _, rfl, rfl, (by show (0 : Int) < _; decide), ?_⟩
        have hx0 := Int.emod_nonneg ((f + 5) * (c + 1 + 2) ^ (3 : Int).toNat + 1000003 * (c + 1)) (show (2 : Int) ^ (61 : Int).toNat - 1 ≠ 0 by decide)
        have hx1 := Int.emod_lt_of_pos ((f + 5) * (c + 1 + 2) ^ (3 : Int).toNat + 1000003 * (c + 1)) (show (0 : Int) < (2 : Int) ^ (61 : Int).toNat - 1 by decide)
        have e61 : (2 : Int) ^ (61 : Int).toNat - 1 = 2305843009213693951 := by decide
        rw [e61] at hx0 hx1
        refine ⟨_, rfl, _, _, rfl, rfl, ⟨by decide, by decide, ?_⟩, _, _, rfl, rfl, ⟨by decide, by decide, by decide⟩, _, _, rfl, rfl, _, _, rfl, rfl, (by show (0 : Int) < _; decide), _, _, rfl, rfl, wide_div (b := 10) (by decide) (by decide) (by decide) (by decide), _, rfl, _, _, rfl, rfl, hm, ?_⟩
        · show (((f + 5) * (c + 1 + 2) ^ (3 : Int).toNat + 1000003 * (c + 1)) % ((2 : Int) ^ (61 : Int).toNat - 1)).natAbs < 2 ^ 64
          rw [e61]
          omega
        · refine k _ _ (Int.emod_nonneg _ (by omega)) (Int.emod_lt_of_pos _ hm) ⟨⟨gs, l, f, c + 1, g1, (upd_ne (Ne.symm hne)).trans h2, hl, hge, hl0, hf0, hf1, by omega, by push_cast; omega⟩, hne⟩ fun b o e n1 n2 => (upd_ne n1).trans (kp b o e n1 n2)
end
end KA
namespace KA
open PySem PySem.Spec PyProof.Rows L2 DP
def spTray (K : PySem.W.Frag) : Sp := fun vs H Q _ => ∃ (a : Addr) (ns : List Int), vs = [.ref a] ∧ SqL K H a (ns.map V.int) ∧ ns.length ≤ 63 ∧ ∀ (H' : Hp) (t g : Addr), Tray H' t g 0 → Same H H' → H t = none → H g = none → Q (.ref t) H'
def spGreat : Sp := fun vs H Q _ => ∃ (t g : Addr) (n : Nat), vs = [.ref t] ∧ Tray H t g n ∧ n < 2 ^ 50 ∧ ∀ (H' : Hp) (r : Int), 0 ≤ r → r < 10 ^ 59 → Tray H' t g (n + 4) → Keep t g H H' → Q (.int r) H'
def spLength : Sp := fun vs H Q _ => ∃ (t g : Addr) (n : Nat), vs = [.ref t] ∧ Tray H t g n ∧ n < 2 ^ 49 ∧ ∀ (H' : Hp) (r : Int), 0 < r → r ≤ 10 ^ 30 → Tray H' t g (n + 10) → Keep t g H H' → Q (.int r) H'
theorem Tray.up {H : Hp} {t g : Addr} {m n : Nat} (T : Tray H t g m) (h : m ≤ n) : Tray H t g n := by
  obtain ⟨⟨gs, l, f, c, h1, h2, hl, hge, hl0, hf0, hf1, hc0, hc1⟩, hne⟩ := T
  exact ⟨⟨gs, l, f, c, h1, h2, hl, hge, hl0, hf0, hf1, hc0, by omega⟩, hne⟩
theorem pow_ten : (10 : Int) ^ (14 : Int).toNat = 10 ^ 14 ∧ (10 : Int) ^ (15 : Int).toNat = 10 ^ 15 ∧ (10 : Int) ^ (29 : Int).toNat = 10 ^ 29 ∧ (10 : Int) ^ (31 : Int).toNat = 10 ^ 31 ∧ (10 : Int) ^ (57 : Int).toNat = 10 ^ 57 := ⟨rfl, rfl, rfl, rfl, rfl⟩
section
variable {P : Program} {w : World} {K : PySem.W.Frag} {mg : Str → Option Value} {base : Heap} {Z : Ad}
theorem ok_law_tray (T : Tx K w mg Z) : FnOk P w K mg base CX0 1 Z.a_law_tray Z.d_law_tray P_law_tray (spTray K) := by
  refine T.F_law_tray.ok sclaw_tray (fun vs H Q E h => ?_) (fun cdv A outer s H vs Q E hr h => ?_)
  · obtain ⟨a, ns, rfl, _⟩ := h
    rfl
  · obtain ⟨a, ns, rfl, hS, hlen, k⟩ := h
    refine ⟨_, (pss_cons (ps_set (i := 1) sclaw_tray.nd rfl (Or.inl rfl) pe_int)
      (pss_cons (ps_set (i := 2) sclaw_tray.nd rfl (Or.inl rfl) (pe_lst pa_nil))
      (pss_cons (ps_for PassesOwn.never rfl (pi_list (pv 0)) (pg_name (i := 3) sclaw_tray.nd rfl (Or.inl rfl)) (pss_cons (ps_set (i := 1) sclaw_tray.nd rfl (Or.inl rfl) (pe_op op_mod (pe_op op_add (pe_op op_mulW (pv 1) pe_int) (pv 3)) (pe_op op_sub (pe_op op_pow pe_int pe_int) pe_int)))
      (pss_cons (ps_set (i := 4) sclaw_tray.nd rfl (Or.inl rfl) (pe_callB (call_max2 rfl) (by rfl) T.b_max (by decide +kernel) (pa_cons (pv 3) (pa_cons (pe_op op_sub pe_int (pv 3)) pa_nil))))
      (pss_one (ps_if (pt_cmpR op_ge (pv 4) (pe_op op_pow pe_int pe_int) (nomark _)) (pss_one (ps_expr (pe_bm PySem.F.plainAttrs_list PySem.F.slot_list_append PySem.F.type_list_append mt_append (pv 2) (pa_cons (pe_op op_sub (pv 4) (pe_op op_pow pe_int pe_int)) pa_nil)))) pss_nil)))))
      (pss_one (ps_ret (pe_lst (pa_cons (pv 2) (pa_cons pe_int (pa_cons (pv 1) (pa_cons pe_int pa_nil)))))))))), ?_⟩
    refine ⟨(by show 0 ≤ sizeLine; decide), fun G hG => ?_⟩
    refine ⟨_, rfl, a, rfl, ⟨_, Same.sqL (same_upd hG) hS⟩, ?_⟩
    refine for_list (K := K) (a := a) (xs := ns.map V.int) (fun i σ' H' => ∃ (gs : List Int) (f : Int) (u v : Option V), σ' = [some (.ref a), some (.int f), some (.ref G), u, v] ∧ Same H H' ∧ H' G = some (.lst (gs.map V.int)) ∧ gs.length ≤ i ∧ (∀ x ∈ gs, 0 ≤ x) ∧ 0 ≤ f ∧ f < 2 ^ 61)
      ⟨[], 314159265358979, none, none, rfl, same_upd hG, upd_same, Nat.le_refl _, (fun _ z => absurd z (by simp)), by decide, by decide⟩ (fun i σ' H' _ ⟨_, _, _, _, _, S, _⟩ => Same.sqL S hS) ?_ ?_
    · rintro i y σ' H' hi ⟨gs, f, u, v, rfl, S, hg, hgl, hge, hf0, hf1⟩
      obtain ⟨z, hz, rfl⟩ := map_at hi
      have hi63 : i < 63 := by
        have := (List.getElem?_eq_some_iff.mp hz).1
        omega
      have bf : f.natAbs < 2 ^ 61 := by omega
      refine ⟨_, rfl, _, _, rfl, rfl, wide_mul (b := 30) bf (by decide) (by decide) (by decide) (by decide), _, rfl, _, _, rfl, rfl, ?_⟩
      refine ⟨_, _, rfl, rfl, ⟨by decide, by decide, by decide⟩, _, _, rfl, rfl, _, _, rfl, rfl, (by show (0 : Int) < _; decide), ?_⟩
      have hx0 := Int.emod_nonneg (f * 1000003 + z) (show (2 : Int) ^ (61 : Int).toNat - 1 ≠ 0 by decide)
      have hx1 := Int.emod_lt_of_pos (f * 1000003 + z) (show (0 : Int) < (2 : Int) ^ (61 : Int).toNat - 1 by decide)
      have e61 : (2 : Int) ^ (61 : Int).toNat - 1 = 2305843009213693951 := by decide
      refine ⟨_, rfl, _, rfl, _, _, rfl, rfl, _, _, rfl, _, rfl, _, _, rfl, rfl, ⟨by decide, by decide, by decide⟩, _, _, rfl, rfl, _, rfl, ?_⟩
      refine ite2 (fun c => ?_) (fun _ => ?_)
      · refine ⟨_, rfl, .inl ⟨rfl, _, SqL.of hg⟩, _, rfl, _, _, rfl, rfl, ⟨by decide, by decide, by decide⟩, _, _, rfl, rfl, G, _, _, rfl, rfl, hg, ?_, ?_⟩
        · exact small1000 (by simp; omega)
        · have c' := of_decide_eq_true c
          refine ⟨gs ++ [(if 0 - z > z then 0 - z else z) - 10 ^ (18 : Int).toNat], _, _, _, rfl, same_set S hG, ?_, ?_, ?_, hx0, by rw [e61] at hx1; rw [e61]; omega⟩
          · rw [List.map_append]; exact upd_same
          · simp; omega
          · intro x hx
            rcases List.mem_append.mp hx with h | h
            · exact hge x h
            · rw [List.mem_singleton] at h
              subst h
              omega
      · exact ⟨gs, _, _, _, rfl, S, hg, by omega, hge, hx0, by rw [e61] at hx1; rw [e61]; omega⟩
    · rintro σ' H' ⟨gs, f, u, v, rfl, S, hg, hgl, hge, hf0, hf1⟩
      refine ⟨_, rfl, _, rfl, (by show 4 ≤ sizeLine; decide), fun t ht => ?_⟩
      have hgt : G ≠ t := ne_of_none hg ht
      refine k _ t G ⟨⟨gs, 0, f, 0, upd_same, (upd_ne hgt).trans hg, ?_, hge, Int.le_refl _, hf0, hf1, Int.le_refl _, Int.le_refl _⟩, Ne.symm hgt⟩ (same_set S (S.free ht)) (S.free ht) hG
      rw [List.length_map] at hgl
      omega
theorem ok_law_great (T : Tx K w mg Z) : FnOk P w K mg base CX0 2 Z.a_law_great Z.d_law_great P_law_great (spGreat) := by
  refine T.F_law_great.ok sclaw_great (fun vs H Q E h => ?_) (fun cdv A outer s H vs Q E hr h => ?_)
  · obtain ⟨t, g, n, rfl, _⟩ := h
    rfl
  · obtain ⟨t, g, n, rfl, hT, hn, k⟩ := h
    refine ⟨_, (pss_cons (ps_set (i := 1) sclaw_great.nd rfl (Or.inl rfl) (pe_call (ok_law_draw T) (hr.mono (by decide)) (by rfl) T.g_law_draw T.F_law_draw.kp T.bb_law_draw .nil pass0 (pa_cons (pv 0) (pa_cons (pe_op op_pow pe_int pe_int) pa_nil))))
      (pss_cons (ps_for PassesOwn.never rfl (pi_range1 (by rfl) T.b_range (pa_cons pe_int pa_nil)) (pg_name (i := 2) sclaw_great.nd rfl (Or.inl rfl)) (pss_one (ps_set (i := 1) sclaw_great.nd rfl (Or.inl rfl) (pe_op op_add (pe_op op_mulW (pv 1) (pe_op op_pow pe_int pe_int)) (pe_call (ok_law_draw T) (hr.mono (by decide)) (by rfl) T.g_law_draw T.F_law_draw.kp T.bb_law_draw .nil pass0 (pa_cons (pv 0) (pa_cons (pe_op op_pow pe_int pe_int) pa_nil)))))))
      (pss_one (ps_ret (pv 1))))), ?_⟩
    refine ⟨_, rfl, _, _, rfl, rfl, ⟨by decide, by decide, by decide⟩, t, g, n, _, rfl, hT, by decide, by decide, Nat.lt_trans hn (by decide), fun H1 r h0 h1 T1 k1 => ?_⟩
    refine ⟨3, rfl, by decide, by decide, ?_⟩
    refine for_range (n := 3) (fun i σ' H' => ∃ (r : Int) (u : Option V), σ' = [some (.ref t), some (.int r), u] ∧ 0 ≤ r ∧ r < 10 ^ 14 * (10 ^ 15) ^ i ∧ Tray H' t g (n + 1 + i) ∧ Keep t g H H') ⟨r, none, rfl, h0, by simpa using h1, T1, k1⟩ ?_ ?_
    · rintro i σ' H' hi ⟨r, u, rfl, r0, r1, T2, k2⟩
      have hb : (10 : Int) ^ 14 * (10 ^ 15) ^ i ≤ 10 ^ 14 * (10 ^ 15) ^ 2 := by
        have : i = 0 ∨ i = 1 ∨ i = 2 := by omega
        rcases this with e | e | e <;> subst e <;> decide
      have rb : r.natAbs < 2 ^ 200 := by
        have : r < 10 ^ 14 * (10 ^ 15) ^ 2 := Int.lt_of_lt_of_le r1 hb
        have e : (10 : Int) ^ 14 * (10 ^ 15) ^ 2 = 100000000000000000000000000000000000000000000 := by decide
        rw [e] at this
        have e2 : (2 : Nat) ^ 200 = 1606938044258990275541962092341162602522202993782792835301376 := by decide
        rw [e2]; omega
      refine ⟨_, rfl, _, _, rfl, rfl, ⟨by decide, by decide, by decide⟩, _, _, rfl, rfl, wide_mul (b := 60) rb (by decide) (by decide) (by decide) (by decide), ?_⟩
      refine ⟨_, rfl, _, _, rfl, rfl, ⟨by decide, by decide, by decide⟩, t, g, n + 1 + i, _, rfl, T2, by decide, by decide, (by omega), fun H3 q q0 q1 T3 k3 => ?_⟩
      refine ⟨_, _, rfl, rfl, ?_⟩
      have e15 : (10 : Int) ^ (15 : Int).toNat = 1000000000000000 := by decide
      rw [e15] at q1
      refine ⟨_, _, rfl, ?_, ?_, T3, k2.trans k3⟩
      · rw [e15]; omega
      · rw [e15, Int.pow_succ (10 ^ 15) i, ← Int.mul_assoc]
        generalize (10 : Int) ^ 14 * (10 ^ 15) ^ i = B at r1 ⊢
        have e : (10 : Int) ^ 15 = 1000000000000000 := by decide
        rw [e]; omega
    · rintro σ' H' ⟨r, u, rfl, r0, r1, T2, k2⟩
      refine ⟨_, rfl, k _ _ r0 ?_ (T2.up (by omega)) k2⟩
      exact Int.lt_of_lt_of_le r1 (by decide)
theorem ok_law_length (T : Tx K w mg Z) : FnOk P w K mg base CX0 3 Z.a_law_length Z.d_law_length P_law_length (spLength) := by
  refine T.F_law_length.ok sclaw_length (fun vs H Q E h => ?_) (fun cdv A outer s H vs Q E hr h => ?_)
  · obtain ⟨t, g, n, rfl, _⟩ := h
    rfl
  · obtain ⟨t, g, n, rfl, hT, hn, k⟩ := h
    refine ⟨_, (pss_cons (ps_set (i := 1) sclaw_length.nd rfl (Or.inl rfl) (pe_call (ok_law_draw T) (hr.mono (by decide)) (by rfl) T.g_law_draw T.F_law_draw.kp T.bb_law_draw .nil pass0 (pa_cons (pv 0) (pa_cons pe_int pa_nil))))
      (C8.pss_cut (ps_if (pt_cmpR op_eq (pv 1) pe_int (nomark _)) (pss_one (ps_ret (pe_callB (call_max2 rfl) (by rfl) T.b_max (by decide +kernel) (pa_cons pe_int (pa_cons (pe_op op_fdivW (pe_call (ok_law_great T) (hr.mono (by decide)) (by rfl) T.g_law_great T.F_law_great.kp T.bb_law_great .nil pass0 (pa_cons (pv 0) pa_nil)) (pe_op op_pow pe_int pe_int)) pa_nil))))) pss_nil)
      (pss_one (ps_ret (pe_op op_add pe_int (pe_call (ok_law_draw T) (hr.mono (by decide)) (by rfl) T.g_law_draw T.F_law_draw.kp T.bb_law_draw .nil pass0 (pa_cons (pv 0) (pa_cons (pe_ix (ixL (K := K)) (pe_lst (pa_cons pe_int (pa_cons pe_int (pa_cons pe_int (pa_cons pe_int (pa_cons pe_int pa_nil)))))) (pv 1) (fun _ _ => rfl)) pa_nil)))))))), ?_⟩
    have hn2 : n < 2 ^ 60 := Nat.lt_trans hn (by decide)
    have hn3 : n + 1 < 2 ^ 50 := Nat.lt_of_lt_of_le (Nat.add_lt_add_right hn 1) (by decide)
    refine ⟨_, rfl, t, g, n, _, rfl, hT, by decide, by decide, hn2, fun H1 lot l0 l1 T1 k1 => ?_⟩
    refine ⟨fun σ' H' => σ' = [some (.ref t), some (.int lot)] ∧ H' = H1 ∧ lot ≠ 5, ?_, ?_⟩
    · refine ⟨_, rfl, rfl, _, rfl, ?_⟩
      refine ite2 (fun c => ?_) (fun c => ⟨rfl, rfl, fun e => c (by rw [e]; decide)⟩)
      refine ⟨_, rfl, t, g, n + 1, rfl, T1, hn3, fun H2 r r0 r1 T2 k2 => ?_⟩
      refine ⟨_, _, rfl, rfl, ⟨by decide, by decide, by decide⟩, _, _, rfl, rfl, wide_div (b := 100) (by decide) (by decide) (by decide) (by decide), _, _, rfl, ?_⟩
      have e29 : (10 : Int) ^ (29 : Int).toNat = 100000000000000000000000000000 := by decide
      have e59 : (10 : Int) ^ 59 = 100000000000000000000000000000000000000000000000000000000000 := by decide
      have e30 : (10 : Int) ^ 30 = 1000000000000000000000000000000 := by decide
      rw [e59] at r1
      refine k _ _ ?_ ?_ (T2.up (by omega)) (k1.trans k2)
      · split <;> omega
      · rw [e29, e30]; split <;> omega
    · rintro σ' H' ⟨rfl, rfl, h5⟩
      have hc : ∃ m : Int, atI [V.int 3, .int 5, .int 12, .int 12, .int 400] lot = some (.int m) ∧ 0 < m ∧ m ≤ 400 := by
        have : lot = 0 ∨ lot = 1 ∨ lot = 2 ∨ lot = 3 ∨ lot = 4 := by omega
        rcases this with e | e | e | e | e <;> subst e
        · exact ⟨3, rfl, by decide, by decide⟩
        · exact ⟨5, rfl, by decide, by decide⟩
        · exact ⟨12, rfl, by decide, by decide⟩
        · exact ⟨12, rfl, by decide, by decide⟩
        · exact ⟨400, rfl, by decide, by decide⟩
      obtain ⟨m, hm, m0, m1⟩ := hc
      have hmb : m.natAbs < 2 ^ 1000 := Nat.lt_of_le_of_lt (by omega : m.natAbs ≤ 400) (by decide)
      refine ⟨_, rfl, (by show 5 ≤ sizeLine; decide), fun p hp => ?_⟩
      refine ⟨_, rfl, p, _, _, _, rfl, rfl, SqL.of upd_same, hm, ?_⟩
      have T2 : Tray (upd H' p (.lst [V.int 3, .int 5, .int 12, .int 12, .int 400])) t g (n + 1) := T1.same (same_upd hp)
      refine ⟨t, g, n + 1, m, rfl, T2, m0, hmb, Nat.lt_trans hn3 (by decide), fun H3 r r0 r1 T3 k3 => ?_⟩
      refine ⟨_, _, rfl, rfl, k _ _ (by omega) ?_ (T3.up (by omega)) (k1.trans ((Keep.of_same (same_upd hp)).trans k3))⟩
      have e30 : (10 : Int) ^ 30 = 1000000000000000000000000000000 := by decide
      rw [e30]; omega
end
end KA
namespace KA
open PySem PySem.Spec PyProof.Rows L2 DP
abbrev Pr := Int × Int
def encP (p : Pr) : PyData := .tuple [.int p.1, .int p.2]
theorem noL_encP (p : Pr) : noL (encP p) = true := rfl
/-- where each step leads x -/
def leads (L : Int) (steps : List Pr) (x : Int) : List Int := steps.map fun s => s.2 + (x - s.1) / L * L
def IsMaxL (l : List Int) (m : Int) : Prop := m ∈ l ∧ ∀ y ∈ l, y ≤ m
def StepsOk (L : Int) (steps : List Pr) : Prop := steps ≠ [] ∧ steps.length ≤ 20 ∧ ∀ s ∈ steps, 0 ≤ s.1 ∧ s.1 < L ∧ s.2.natAbs < 2 ^ 250
/-- a list of data at p, tracked -/
def LAt (K : PySem.W.Frag) (H : Hp) (p : Addr) (ds : List PyData) : Prop := ∃ vs, H p = some (.lst vs) ∧ DpAll K H vs ds
theorem LAt.dp {K : PySem.W.Frag} {H : Hp} {p : Addr} {ds : List PyData} (h : LAt K H p ds) : Dp K H (.ref p) (.list ds) := by
  obtain ⟨vs, h1, h2⟩ := h
  exact .lst (SqL.of h1) h2
theorem LAt.same {K : PySem.W.Frag} {H H' : Hp} {p : Addr} {ds : List PyData} (h : LAt K H p ds) (S : Same H H') : LAt K H' p ds := by
  obtain ⟨vs, h1, h2⟩ := h
  exact ⟨vs, S _ _ h1, dpAll_mono S _ _ h2⟩
theorem Keep.tups {H H' : Hp} {t g : Addr} {n : Nat} (T : Tray H t g n) (k : Keep t g H H') : Tups H H' := fun b xs hb => by
  obtain ⟨⟨gs, l, f, c, h1, h2, r⟩, hne⟩ := T
  rcases hb with e | ⟨q, e⟩
  · refine .inl (k b _ e ?_ ?_) <;> rintro rfl
    · rw [h1] at e; cases e
    · rw [h2] at e; cases e
  · refine .inr ⟨q, k b _ e ?_ ?_⟩ <;> rintro rfl
    · rw [h1] at e; cases e
    · rw [h2] at e; cases e
theorem LAt.keep {K : PySem.W.Frag} {H H' : Hp} {t g p : Addr} {n : Nat} {ds : List PyData} (h : LAt K H p ds) (T : Tray H t g n) (k : Keep t g H H') (h1 : p ≠ t) (h2 : p ≠ g) (hn : noL.noLs ds = true) : LAt K H' p ds := by
  obtain ⟨vs, a, b⟩ := h
  exact ⟨vs, k _ _ a h1 h2, dpAll_tups (Keep.tups T k) _ _ hn b⟩
theorem Tray.at_ne {H : Hp} {t g p : Addr} {n : Nat} (T : Tray H t g n) (hp : H p = none) : p ≠ t ∧ p ≠ g := by
  obtain ⟨⟨gs, l, f, c, h1, h2, r⟩, hne⟩ := T
  exact ⟨Ne.symm (ne_of_none h1 hp), Ne.symm (ne_of_none h2 hp)⟩
theorem Keep.free {H H' : Hp} {t g p : Addr} {n : Nat} (T : Tray H t g n) (k : Keep t g H H') (hp : H' p = none) (T' : ∃ m, Tray H' t g m) : H p = none := by
  obtain ⟨m, T'⟩ := T'
  obtain ⟨h1, h2⟩ := T'.at_ne hp
  cases e : H p with
  | none => rfl
  | some o =>
    rw [k p o e h1 h2] at hp
    cases hp
def spLead (K : PySem.W.Frag) : Sp := fun vs H Q _ => ∃ (v : V) (L x : Int) (steps : List Pr), vs = [.int L, v, .int x] ∧ Dp K H v (.list (steps.map encP)) ∧ 0 < L ∧ L.natAbs < 2 ^ 200 ∧ x.natAbs < 2 ^ 300 ∧ StepsOk L steps ∧ ∀ m H', Same H H' → IsMaxL (leads L steps x) m → Q (.int m) H'
def spSecret (K : PySem.W.Frag) : Sp := fun vs H Q _ => ∃ (t g : Addr) (n : Nat) (L : Int), vs = [.ref t, .int L] ∧ Tray H t g n ∧ n < 2 ^ 45 ∧ 0 < L ∧ L ≤ 10 ^ 30 ∧
  ∀ (H' : Hp) (p : Addr) (steps : List Pr), H p = none → Tray H' t g (n + 30) → Keep t g H H' → LAt K H' p (steps.map encP) → StepsOk L steps → Q (.ref p) H'
theorem dp_pair {K : PySem.W.Frag} {H : Hp} {v : V} {p : Pr} (h : Dp K H v (encP p)) : ∃ a, v = .ref a ∧ SqT K H a [.int p.1, .int p.2] := by
  have h' : Dp K H v (.tuple [.int p.1, .int p.2]) := h
  cases h' with
  | tup s a =>
    cases a with
    | cons a1 a =>
      cases a with
      | cons a2 a =>
        cases a; cases a1; cases a2
        exact ⟨_, rfl, s⟩
section
variable {P : Program} {w : World} {K : PySem.W.Frag} {mg : Str → Option Value} {base : Heap} {Z : Ad}
theorem ok_law_lead (T : Tx K w mg Z) : FnOk P w K mg base CX0 1 Z.a_law_lead Z.d_law_lead P_law_lead (spLead K) := by
  refine T.F_law_lead.ok sclaw_lead (fun vs H Q E h => ?_) (fun cdv A outer s H vs Q E hr h => ?_)
  · obtain ⟨v, L, x, steps, rfl, _⟩ := h
    rfl
  · obtain ⟨v, L, x, steps, rfl, hv, hL, hLb, hx, ⟨hne, hlen, hst⟩, k⟩ := h
    obtain ⟨a, xs, rfl, ha, hd⟩ := dp_list hv
    have hxl : xs.length = steps.length := by rw [dpAll_len hd, List.length_map]
    refine ⟨_, (pss_one (ps_ret (pe_callB (maxK (K := K) rfl) (by rfl) T.b_max (by decide +kernel) (pa_cons (pe_lc (own := [("here", 3), ("there", 4)]) (g := gTup K 2 (gCons (gName 3) (gCons (gName 4) gNil))) (tt := tYes) rfl sclaw_lead.nd (pi_list (pv 1)) (blkOk_by (own := [("here", 3), ("there", 4)]) (N := N_law_lead) (sc := defScope slaw_lead) (by decide +kernel)) (fun _ _ _ _ _ => (tupK (K := K) (by rfl) (pgs_cons (pg_name (i := 3) sclaw_lead.nd rfl (Or.inl rfl)) (pgs_cons (pg_name (i := 4) sclaw_lead.nd rfl (Or.inl rfl)) pgs_nil)))) (fun _ _ _ _ _ => pts_nil) (fun _ _ _ _ _ => (pe_op op_add (pv 4) (pe_op op_mulW (pe_op op_fdivW (pe_op op_sub (pv 2) (pv 3)) (pv 0)) (pv 0))))) pa_nil)))), ?_⟩
    refine ⟨_, rfl, a, rfl, ⟨_, ha⟩, fun D hD => ?_⟩
    refine lc_list (K := K) (a := a) (xs := xs) (fun i H' => Same H H' ∧ H' D = some (.lst ((leads L (steps.take i) x).map V.int))) ⟨same_upd hD, upd_same⟩ (fun i H' _ ⟨S, _⟩ => Same.sqL S ha) ?_ ?_
    · rintro i y H' hi ⟨S, hD'⟩
      obtain ⟨d, hdi, hdy⟩ := dpAll_get hd hi
      obtain ⟨l, hl, rfl⟩ := map_at hdi
      obtain ⟨s0, s1, s2⟩ := hst l (List.mem_of_getElem? hl)
      obtain ⟨p, rfl, hp⟩ := dp_pair (dp_mono S _ _ hdy)
      have b1 : l.1.natAbs < 2 ^ 300 := Nat.lt_of_le_of_lt (by clear hLb; omega : l.1.natAbs ≤ L.natAbs) (Nat.lt_trans hLb (by decide))
      refine ⟨_, _, rfl, hp, rfl, _, _, rfl, _, _, rfl, rfl, rfl, yes_ite ?_⟩
      refine ⟨_, rfl, _, rfl, _, rfl, _, _, rfl, rfl, _, rfl, _, _, rfl, rfl, wide_div hL hLb (by decide) (by decide), _, rfl, _, _, rfl, rfl, wide_mul (div_lt hL (sub_lt hx b1)) hLb (by decide) (by decide) (by decide), _, _, rfl, rfl, ?_⟩
      refine ⟨_, hD', ?_, same_set S hD, ?_⟩
      · have : i < steps.length := (List.getElem?_eq_some_iff.mp hl).1
        exact small1000 (by simp [leads]; omega)
      · have e : leads L (steps.take (i + 1)) x = leads L (steps.take i) x ++ [l.2 + (x - l.1) / L * L] := by
          unfold leads; rw [take_snoc hl, List.map_append]; rfl
        rw [e, List.map_append]
        exact upd_same
    · rintro H' ⟨S, hD'⟩
      rw [List.take_of_length_le (by rw [hxl]; exact Nat.le_refl _)] at hD'
      refine ⟨D, leads L steps x, rfl, SqL.of hD', ?_, fun m h1 h2 => k m H' S ⟨h1, h2⟩⟩
      have : 0 < steps.length := List.length_pos_iff.mpr hne
      simpa [leads] using this
end
end KA
namespace KA
open PySem PySem.Spec PyProof.Rows L2 DP
theorem small_nat {L : Int} {a : Int} {n : Nat} (h0 : 0 ≤ a) (h1 : a ≤ L) (hL : L.natAbs < 2 ^ n) : a.natAbs < 2 ^ n := Nat.lt_of_le_of_lt (by omega : a.natAbs ≤ L.natAbs) hL
theorem bigL {L : Int} (h0 : 0 < L) (h : L ≤ 10 ^ 30) : L.natAbs < 2 ^ 100 := by
  have e : (10 : Int) ^ 30 = 1000000000000000000000000000000 := by decide
  have e2 : (2 : Nat) ^ 100 = 1267650600228229401496703205376 := by decide
  rw [e] at h; rw [e2]; omega
/-- what the tray's calls keep of the frame: the tray, all else, so far m draws -/
structure At (H Hc : Hp) (t g : Addr) (m : Nat) : Prop where
  T : Tray Hc t g m
  k : Keep t g H Hc
theorem At.step {H H1 H2 : Hp} {t g : Addr} {m m' : Nat} (a : At H H1 t g m) (T : Tray H2 t g m') (k : Keep t g H1 H2) : At H H2 t g m' := ⟨T, a.k.trans k⟩
theorem At.up {H Hc : Hp} {t g : Addr} {m m' : Nat} (a : At H Hc t g m) (h : m ≤ m') : At H Hc t g m' := ⟨a.T.up h, a.k⟩
theorem At.new {H H1 : Hp} {t g p : Addr} {m : Nat} {o : HO} (a : At H H1 t g m) (hp : H1 p = none) : At H (upd H1 p o) t g m := ⟨a.T.same (same_upd hp), a.k.trans (Keep.of_same (same_upd hp))⟩
theorem At.free {H H1 : Hp} {t g p : Addr} {m : Nat} (a : At H H1 t g m) (hp : H1 p = none) : H p = none := by
  obtain ⟨h1, h2⟩ := a.T.at_ne hp
  cases e : H p with
  | none => rfl
  | some o =>
    rw [a.k p o e h1 h2] at hp
    cases hp
/-- a list that a comprehension makes is changed: it is new -/
theorem At.acc {H H1 : Hp} {t g D : Addr} {m : Nat} {o : HO} (a : At H H1 t g m) (hD : H D = none) (h1 : D ≠ t) (h2 : D ≠ g) : At H (upd H1 D o) t g m := by
  obtain ⟨⟨⟨gs, l, f, c, e1, e2, r⟩, hne⟩, k⟩ := a
  exact ⟨⟨⟨gs, l, f, c, (upd_ne (Ne.symm h1)).trans e1, (upd_ne (Ne.symm h2)).trans e2, r⟩, hne⟩, fun b o e n1 n2 => (upd_ne (ne_of_none e hD)).trans (k b o e n1 n2)⟩
section
variable {P : Program} {w : World} {K : PySem.W.Frag} {mg : Str → Option Value} {base : Heap} {Z : Ad}
theorem ok_law_secret (T : Tx K w mg Z) : FnOk P w K mg base CX0 3 Z.a_law_secret Z.d_law_secret P_law_secret (spSecret K) := by
  refine T.F_law_secret.ok sclaw_secret (fun vs H Q E h => ?_) (fun cdv A outer s H vs Q E hr h => ?_)
  · obtain ⟨t, g, n, L, rfl, _⟩ := h
    rfl
  · obtain ⟨t, g, n, L, rfl, hT, hn, hL, hL30, k⟩ := h
    have hLb := bigL hL hL30
    have hb : ∀ m, m ≤ n + 30 → m < 2 ^ 49 := fun m hm => Nat.lt_of_le_of_lt hm (Nat.lt_of_lt_of_le (Nat.add_lt_add_right hn 30) (by decide))
    have hb' : ∀ m, m ≤ n + 30 → m < 2 ^ 60 := fun m hm => Nat.lt_trans (hb m hm) (by decide)
    refine ⟨_, (pss_cons (ps_set (i := 2) sclaw_secret.nd rfl (Or.inr rfl) (pe_callB (sortedSetK (w := w) rfl) (by rfl) T.b_sorted (by decide +kernel) (pa_cons (pe_callTy (setIK (K := K) (w := w) rfl) (by rfl) T.b_set (by decide +kernel) (pa_cons (pe_lc (own := [("k", 3)]) (g := gName 3) (tt := tYes) rfl sclaw_secret.nd (pi_range1 (by rfl) T.b_range (pa_cons (pe_op op_add pe_int (pe_call (ok_law_draw T) (hr.mono (by decide)) (by rfl) T.g_law_draw T.F_law_draw.kp T.bb_law_draw .nil pass0 (pa_cons (pv 0) (pa_cons pe_int pa_nil)))) pa_nil)) (blkOk_by (own := [("k", 3)]) (N := N_law_secret) (sc := defScope slaw_secret) (by decide +kernel)) (fun _ _ _ _ _ => (pg_name (i := 3) sclaw_secret.nd rfl (Or.inl rfl))) (fun _ _ _ _ _ => pts_nil) (fun _ _ _ _ _ => (pe_call (ok_law_draw T) (hr.mono (by decide)) (by rfl) T.g_law_draw T.F_law_draw.kp T.bb_law_draw .nil pass0 (pa_cons (pv 0) (pa_cons (pv 1) pa_nil))))) pa_nil)) pa_nil)))
      (pss_cons (ps_set (i := 4) sclaw_secret.nd rfl (Or.inr rfl) (pe_callB (sortK (K := K)) (by rfl) T.b_sorted (by decide +kernel) (pa_cons (pe_lc (own := [("spot", 5)]) (g := gName 5) (tt := tYes) rfl sclaw_secret.nd (pi_list (pv 2)) (blkOk_by (own := [("spot", 5)]) (N := N_law_secret) (sc := defScope slaw_secret) (by decide +kernel)) (fun _ _ _ _ _ => (pg_name (i := 5) sclaw_secret.nd rfl (Or.inl rfl))) (fun _ _ _ _ _ => pts_nil) (fun _ _ _ _ _ => (pe_call (ok_law_draw T) (hr.mono (by decide)) (by rfl) T.g_law_draw T.F_law_draw.kp T.bb_law_draw .nil pass0 (pa_cons (pv 0) (pa_cons (pe_op op_add (pv 1) pe_int) pa_nil))))) pa_nil)))
      (pss_cons (ps_set (i := 6) sclaw_secret.nd rfl (Or.inl rfl) (pe_call (ok_law_draw T) (hr.mono (by decide)) (by rfl) T.g_law_draw T.F_law_draw.kp T.bb_law_draw .nil pass0 (pa_cons (pv 0) (pa_cons pe_int pa_nil))))
      (pss_cons (ps_set (i := 7) sclaw_secret.nd rfl (Or.inr rfl) (pe_ix (ixL (K := K)) (pe_lst (pa_cons pe_int (pa_cons (pe_call (ok_law_draw T) (hr.mono (by decide)) (by rfl) T.g_law_draw T.F_law_draw.kp T.bb_law_draw .nil pass0 (pa_cons (pv 0) (pa_cons (pe_op op_add (pv 1) pe_int) pa_nil))) (pa_cons (pe_op op_sub (pe_call (ok_law_draw T) (hr.mono (by decide)) (by rfl) T.g_law_draw T.F_law_draw.kp T.bb_law_draw .nil pass0 (pa_cons (pv 0) (pa_cons (pe_op op_add (pe_op op_mulW pe_int (pv 1)) pe_int) pa_nil))) (pe_op op_mulW pe_int (pv 1))) pa_nil)))) (pe_op op_mod (pv 6) pe_int) (fun _ _ => rfl)))
      (C8.pss_cut (ps_if (pt_cmpR op_eq (pv 6) pe_int (nomark _)) (pss_one (ps_set (i := 7) sclaw_secret.nd rfl (Or.inr rfl) (pe_op op_sub (pe_op op_fdivW (pe_call (ok_law_great T) (hr.mono (by decide)) (by rfl) T.g_law_great T.F_law_great.kp T.bb_law_great .nil pass0 (pa_cons (pv 0) pa_nil)) pe_int) (pe_op op_pow pe_int pe_int)))) pss_nil)
      (pss_one (ps_ret (pe_lc (own := [("k", 3)]) (g := gName 3) (tt := tYes) rfl sclaw_secret.nd (pi_range1 (by rfl) T.b_range (pa_cons (pe_callB (lenK (K := K)) (by rfl) T.b_len (by decide +kernel) (pa_cons (pv 2) pa_nil)) pa_nil)) (blkOk_by (own := [("k", 3)]) (N := N_law_secret) (sc := defScope slaw_secret) (by decide +kernel)) (fun _ _ _ _ _ => (pg_name (i := 3) sclaw_secret.nd rfl (Or.inl rfl))) (fun _ _ _ _ _ => pts_nil) (fun _ _ _ _ _ => (pe_tup (pa_cons (pe_ix (ixL (K := K)) (pv 2) (pv 3) (fun _ _ => rfl)) (pa_cons (pe_op op_add (pv 7) (pe_ix (ixL (K := K)) (pv 4) (pv 3) (fun _ _ => rfl))) pa_nil)))))))))))), ?_⟩
    -- spots = sorted(set([_law_draw(tray, size) for k in range(1 + _law_draw(tray, 6))]))
    refine ⟨_, rfl, t, g, n, 6, rfl, hT, by decide, by decide, hb' _ (by omega), fun H1 d0 d1 d2 T1 k1 => ?_⟩
    have A1 : At H H1 t g (n + 1) := ⟨T1, k1⟩
    refine ⟨_, _, rfl, rfl, 1 + d0, rfl, by omega, by omega, fun D hD => ?_⟩
    obtain ⟨Dt, Dg⟩ := T1.at_ne hD
    have hDH := A1.free hD
    refine lc_range (lo := 0) (n := (1 + d0).toNat) (fun i H' => At H H' t g (n + 1 + i) ∧ ∃ ns : List Int, H' D = some (.lst (ns.map V.int)) ∧ ns.length = i ∧ ∀ x ∈ ns, 0 ≤ x ∧ x < L) ⟨A1.new hD, [], upd_same, rfl, fun _ z => absurd z (by simp)⟩ ?_ ?_
    · rintro i H' hi ⟨A, ns, hd, hl, hx⟩
      have hi6 : i < 6 := by omega
      refine ⟨rfl, yes_ite ?_⟩
      refine ⟨_, rfl, _, rfl, t, g, n + 1 + i, L, rfl, A.T, hL, lt_up hLb (by decide), hb' _ (by omega), fun H2 r r0 r1 T2 k2 => ?_⟩
      have hd2 := k2 _ _ hd Dt Dg
      refine ⟨_, hd2, small1000 (by simp; omega), (A.step T2 k2).acc hDH Dt Dg, ns ++ [r], ?_, by simp [hl], fun x hx' => ?_⟩
      · rw [List.map_append]; exact upd_same
      · rcases List.mem_append.mp hx' with h | h
        · exact hx x h
        · rw [List.mem_singleton] at h; subst h; exact ⟨r0, r1⟩
    rintro H2 ⟨A2, ns, hd, hnl, hx⟩
    refine ⟨D, ns, rfl, SqL.of hd, by omega, fun q c hc hq => ?_⟩
    refine ⟨q, _, c, rfl, upd_same, by omega, fun ss p hpw hmem hsl hp => ?_⟩
    have A3 := (A2.new (o := SetO w q (fun j => decide (j ∈ ns)) c) hq).new (o := HO.lst (ss.map V.int)) hp
    generalize eH3 : upd (upd H2 q (SetO w q (fun j => decide (j ∈ ns)) c)) p (.lst (ss.map V.int)) = H3 at A3 ⊢
    have hp3 : H3 p = some (.lst (ss.map V.int)) := by rw [← eH3]; exact upd_same
    have hpH : H p = none := (A2.new (o := SetO w q (fun j => decide (j ∈ ns)) c) hq).free hp
    obtain ⟨pt, pg⟩ := (A2.new (o := SetO w q (fun j => decide (j ∈ ns)) c) hq).T.at_ne hp
    have hss : ∀ x ∈ ss, 0 ≤ x ∧ x < L := fun x hx' => hx x (of_decide_eq_true ((hmem x).mp hx'))
    have hss6 : ss.length ≤ 6 := by rw [hsl]; omega
    have hssne : ss ≠ [] := by
      cases ns with
      | nil => simp at hnl; omega
      | cons y r =>
        intro e
        have : y ∈ ss := (hmem y).mpr (by simp)
        rw [e] at this; cases this
    have A3' : At H H3 t g (n + 7) := A3.up (by omega)
    -- rises = sorted([_law_draw(tray, size + 1) for spot in spots])
    refine ⟨_, rfl, p, rfl, ⟨_, SqL.of hp3⟩, fun D2 hD2 => ?_⟩
    obtain ⟨D2t, D2g⟩ := A3'.T.at_ne hD2
    have hD2H := A3'.free hD2
    have hD2p : p ≠ D2 := ne_of_none hp3 hD2
    refine lc_list (K := K) (a := p) (xs := ss.map V.int) (fun i H' => At H H' t g (n + 7 + i) ∧ H' p = some (.lst (ss.map V.int)) ∧ ∃ ns : List Int, H' D2 = some (.lst (ns.map V.int)) ∧ ns.length = i ∧ ∀ x ∈ ns, 0 ≤ x ∧ x ≤ L)
      ⟨A3'.new hD2, (upd_ne hD2p).trans hp3, [], upd_same, rfl, fun _ z => absurd z (by simp)⟩ (fun i H' _ ⟨_, h, _⟩ => SqL.of h) ?_ ?_
    · rintro i y H' hi ⟨A, hpk, ns2, hd, hl, hx2⟩
      have hi6 : i < 6 := by
        have := (List.getElem?_eq_some_iff.mp hi).1
        rw [List.length_map] at this; omega
      refine ⟨rfl, yes_ite ?_⟩
      refine ⟨_, rfl, _, rfl, _, _, rfl, rfl, t, g, n + 7 + i, L + 1, rfl, A.T, by omega, lt_up (add_lt hLb (show (1 : Int).natAbs < 2 ^ 100 by decide)) (by decide), hb' _ (by omega), fun H4 r r0 r1 T4 k4 => ?_⟩
      have hd2 := k4 _ _ hd D2t D2g
      refine ⟨_, hd2, small1000 (by simp; omega), (A.step T4 k4).acc hD2H D2t D2g, (upd_ne hD2p).trans (k4 _ _ hpk pt pg), ns2 ++ [r], ?_, by simp [hl], fun x hx' => ?_⟩
      · rw [List.map_append]; exact upd_same
      · rcases List.mem_append.mp hx' with h | h
        · exact hx2 x h
        · rw [List.mem_singleton] at h; subst h; exact ⟨r0, by omega⟩
    rintro H4 ⟨A4, hp4, ns2, hd2, hnl2, hx2⟩
    rw [List.length_map] at A4 hnl2
    refine ⟨D2, ns2, rfl, SqL.of hd2, by omega, fun rs p2 hperm hsrt hp2 => ?_⟩
    have hrl : rs.length = ss.length := by rw [hperm.length_eq, hnl2]
    have hrs : ∀ x ∈ rs, 0 ≤ x ∧ x ≤ L := fun x hx' => hx2 x (hperm.mem_iff.mp hx')
    obtain ⟨p2t, p2g⟩ := A4.T.at_ne hp2
    have hp2p : p ≠ p2 := ne_of_none hp4 hp2
    have A5 : At H (upd H4 p2 (.lst (rs.map V.int))) t g (n + 13) := (A4.new hp2).up (by omega)
    have hp5 : (upd H4 p2 (.lst (rs.map V.int))) p = some (.lst (ss.map V.int)) := (upd_ne hp2p).trans hp4
    have hq5 : (upd H4 p2 (.lst (rs.map V.int))) p2 = some (.lst (rs.map V.int)) := upd_same
    generalize upd H4 p2 (.lst (rs.map V.int)) = H5 at A5 hp5 hq5 ⊢
    -- lot = _law_draw(tray, 6)
    refine ⟨_, rfl, t, g, n + 13, 6, rfl, A5.T, by decide, by decide, hb' _ (by omega), fun H6 lot l0 l1 T6 k6 => ?_⟩
    have A6 := A5.step T6 k6
    have hp6 := k6 _ _ hp5 pt pg
    have hq6 := k6 _ _ hq5 p2t p2g
    -- base = [0, _law_draw(tray, size + 1), _law_draw(tray, 4 * size + 1) - 2 * size][lot % 3]
    refine ⟨_, rfl, _, rfl, _, _, rfl, rfl, t, g, n + 14, L + 1, rfl, A6.T, by omega, lt_up (add_lt hLb (show (1 : Int).natAbs < 2 ^ 100 by decide)) (by decide), hb' _ (by omega), fun H7 b1 c0 c1 T7 k7 => ?_⟩
    have A7 := A6.step T7 k7
    have b4 : (4 * L).natAbs < 2 ^ 103 := by rw [Int.natAbs_mul]; exact Nat.lt_of_lt_of_le (Nat.mul_lt_mul_of_le_of_lt (Nat.le_refl 4) hLb (by decide)) (by decide)
    refine ⟨_, rfl, _, rfl, _, _, rfl, rfl, wide_mul (a := 10) (by decide) hLb (by decide) (by decide) (by decide), _, _, rfl, rfl, t, g, n + 15, 4 * L + 1, rfl, A7.T, by omega, lt_up (add_lt b4 (show (1 : Int).natAbs < 2 ^ 103 by decide)) (by decide), hb' _ (by omega), fun H8 b2 f0 f1 T8 k8 => ?_⟩
    have A8 := A7.step T8 k8
    refine ⟨_, rfl, _, _, rfl, rfl, wide_mul (a := 10) (by decide) hLb (by decide) (by decide) (by decide), _, _, rfl, rfl, (by show 3 ≤ sizeLine; decide), fun p3 hp3 => ?_⟩
    have hp8 := k8 _ _ (k7 _ _ hp6 pt pg) pt pg
    have hq8 := k8 _ _ (k7 _ _ hq6 p2t p2g) p2t p2g
    have hbase : ∃ b : Int, atI [V.int 0, .int b1, .int (b2 - 2 * L)] (lot % 3) = some (.int b) ∧ b.natAbs < 2 ^ 200 := by
      have e1 : b1.natAbs < 2 ^ 200 := by
        have : b1.natAbs < 2 ^ 101 := small_nat c0 (by omega : b1 ≤ L) (lt_up hLb (by decide))
        exact lt_up this (by decide)
      have e2 : (b2 - 2 * L).natAbs < 2 ^ 200 := by
        have : (b2 - 2 * L).natAbs ≤ (4 * L).natAbs := by clear hLb b4; omega
        exact Nat.lt_of_le_of_lt this (lt_up b4 (by decide))
      have : lot % 3 = 0 ∨ lot % 3 = 1 ∨ lot % 3 = 2 := by omega
      rcases this with e | e | e <;> rw [e]
      · exact ⟨0, rfl, by decide⟩
      · exact ⟨b1, rfl, e1⟩
      · exact ⟨b2 - 2 * L, rfl, e2⟩
    obtain ⟨b, hbi, hbb⟩ := hbase
    refine ⟨_, rfl, _, _, rfl, rfl, (by show (0 : Int) < 3; decide), p3, _, _, _, rfl, rfl, SqL.of upd_same, hbi, ?_⟩
    have A9 : At H _ t g (n + 16) := A8.new (o := HO.lst [V.int 0, .int b1, .int (b2 - 2 * L)]) hp3
    have hp9 := (same_upd (o := HO.lst [V.int 0, .int b1, .int (b2 - 2 * L)]) hp3) _ _ hp8
    have hq9 := (same_upd (o := HO.lst [V.int 0, .int b1, .int (b2 - 2 * L)]) hp3) _ _ hq8
    generalize upd H8 p3 (.lst [V.int 0, .int b1, .int (b2 - 2 * L)]) = H9 at A9 hp9 hq9 ⊢
    -- if lot == 5: base = _law_great(tray) // 10 - 10 ** 57
    refine ⟨fun σ' H' => ∃ b : Int, σ' = [some (.ref t), some (.int L), some (.ref p), none, some (.ref p2), none, some (.int lot), some (.int b)] ∧ b.natAbs < 2 ^ 210 ∧ At H H' t g (n + 20) ∧ H' p = some (.lst (ss.map V.int)) ∧ H' p2 = some (.lst (rs.map V.int)), ?_, ?_⟩
    · refine ⟨_, rfl, rfl, _, rfl, ?_⟩
      refine ite2 (fun _ => ?_) (fun _ => ⟨b, rfl, lt_up hbb (by decide), A9.up (by omega), hp9, hq9⟩)
      refine ⟨_, rfl, t, g, n + 16, rfl, A9.T, Nat.lt_trans (hb _ (by omega)) (by decide), fun H10 r r0 r1 T10 k10 => ?_⟩
      refine ⟨_, _, rfl, rfl, wide_div (b := 10) (by decide) (by decide) (by decide) (by decide), _, _, rfl, rfl, ⟨by decide, by decide, by decide⟩, _, _, rfl, rfl, ?_⟩
      refine ⟨_, rfl, ?_, (A9.step T10 k10).up (by omega), k10 _ _ hp9 pt pg, k10 _ _ hq9 p2t p2g⟩
      have rb : r.natAbs < 2 ^ 200 := small_nat r0 (Int.le_of_lt r1) (by decide)
      exact lt_up (sub_lt (div_lt (by decide) rb) (show ((10 : Int) ^ (57 : Int).toNat).natAbs < 2 ^ 201 by decide)) (by decide)
    rintro σ' H10 ⟨b, rfl, hbb, A10, hp10, hq10⟩
    -- return [(spots[k], base + rises[k]) for k in range(len(spots))]
    refine ⟨_, rfl, p, _, rfl, .inl (SqL.of hp10), _, rfl, ?_, ?_, fun D3 hD3 => ?_⟩
    · exact Int.le_trans (by decide) (Int.natCast_nonneg _)
    · have : ((ss.map V.int).length : Int) ≤ 6 := by rw [List.length_map]; omega
      exact Int.lt_of_le_of_lt this (by decide)
    obtain ⟨D3t, D3g⟩ := A10.T.at_ne hD3
    have hD3H := A10.free hD3
    have hD3p : p ≠ D3 := ne_of_none hp10 hD3
    have hD3q : p2 ≠ D3 := ne_of_none hq10 hD3
    have hzl : (List.zipWith (fun s r => ((s, b + r) : Pr)) ss rs).length = ss.length := by rw [List.length_zipWith, hrl]; omega
    refine lc_range (lo := 0) (n := ((ss.map V.int).length : Int).toNat) (fun i H' => At H H' t g (n + 20) ∧ H' p = some (.lst (ss.map V.int)) ∧ H' p2 = some (.lst (rs.map V.int)) ∧ ∃ vs, H' D3 = some (.lst vs) ∧ vs.length = i ∧ DpAll K H' vs (((List.zipWith (fun s r => ((s, b + r) : Pr)) ss rs).take i).map encP))
      ⟨A10.new hD3, (upd_ne hD3p).trans hp10, (upd_ne hD3q).trans hq10, [], upd_same, rfl, .nil⟩ ?_ ?_
    · rintro i H' hi ⟨A, hpk, hqk, vs, hd, hvl, hds⟩
      have hi' : i < ss.length := by simpa using hi
      have hss' : ss[i]? = some ss[i] := List.getElem?_eq_getElem hi'
      have hrs' : rs[i]? = some (rs[i]'(by omega)) := List.getElem?_eq_getElem (by omega)
      refine ⟨rfl, yes_ite ?_⟩
      refine ⟨_, rfl, _, rfl, p, _, _, .int ss[i], rfl, rfl, SqL.of hpk, at_of (j := i) (by simp) (by rw [List.getElem?_map, hss']; rfl), _, rfl, _, rfl, _, rfl, p2, _, _, .int (rs[i]'(by omega)), rfl, rfl, SqL.of hqk, at_of (j := i) (by simp) (by rw [List.getElem?_map, hrs']; rfl), _, _, rfl, rfl, (by show 2 ≤ sizeLine; decide), fun p4 hp4 => ?_⟩
      have S4 := same_upd (o := HO.tup [V.int ss[i], .int (b + rs[i]'(by omega))]) hp4
      have hd4 := S4 _ _ hd
      refine ⟨vs, hd4, small1000 (by omega), (A.new hp4).acc hD3H D3t D3g, (upd_ne hD3p).trans (S4 _ _ hpk), (upd_ne hD3q).trans (S4 _ _ hqk), _, upd_same, by simp [hvl], ?_⟩
      have hz : (List.zipWith (fun s r => ((s, b + r) : Pr)) ss rs)[i]? = some (ss[i], b + rs[i]'(by omega)) := by
        simp [List.getElem?_zipWith, hss', hrs']
      rw [take_snoc hz, List.map_append]
      exact acc_step hd4 (noLs_map noL_encP _) rfl (dpAll_mono S4 _ _ hds) (.tup (SqT.of upd_same) (.cons (.int _) (.cons (.int _) .nil)))
    · rintro H' ⟨A, hpk, hqk, vs, hd, hvl, hds⟩
      have e : ((ss.map V.int).length : Int).toNat = ss.length := by simp
      rw [e, List.take_of_length_le (by rw [hzl]; exact Nat.le_refl _)] at hds
      refine k H' D3 _ hD3H (A.T.up (by omega)) A.k ⟨vs, hd, hds⟩ ⟨fun e => ?_, by rw [hzl]; omega, fun s hs => ?_⟩
      · have := congrArg List.length e
        rw [hzl] at this
        exact hssne (List.eq_nil_of_length_eq_zero this)
      · obtain ⟨i, hi, e⟩ := List.getElem_of_mem hs
        rw [List.getElem_zipWith] at e
        rw [hzl] at hi
        have h1 := hss _ (List.getElem_mem hi)
        have h2 := hrs (rs[i]'(by omega)) (List.getElem_mem _)
        rw [← e]
        refine ⟨h1.1, h1.2, ?_⟩
        exact lt_up (add_lt hbb (small_nat h2.1 h2.2 (lt_up hLb (by decide)))) (by decide)
end
end KA
namespace KA
open PySem PySem.Spec PyProof.Rows L2 DP
/-- a look that the hidden hand is as -/
structure TrueLk (L : Int) (steps : List Pr) (l : Lk) : Prop where
  word : WordOk l.1
  sz : Sized 270 l
  ex : ∃ x k m, l.2.1 = x + k * L ∧ IsMaxL (leads L steps x) m ∧ (l.1 = "at" → l.2.2 = m + k * L) ∧ (l.1 = "from" → l.2.2 ≤ m + k * L) ∧ (l.1 = "upto" → m + k * L ≤ l.2.2)
def spTrue (K : PySem.W.Frag) : Sp := fun vs H Q _ => ∃ (t g p : Addr) (n : Nat) (L : Int) (steps : List Pr), vs = [.ref t, .int L, .ref p] ∧ Tray H t g n ∧ n < 2 ^ 46 ∧ 0 < L ∧ L ≤ 10 ^ 30 ∧ LAt K H p (steps.map encP) ∧ StepsOk L steps ∧ p ≠ t ∧ p ≠ g ∧
  ∀ (H' : Hp) (r : V) (l : Lk), At H H' t g (n + 30) → Dp K H' r (encL l) → TrueLk L steps l → Q r H'
theorem lead_bound {L x m : Int} {steps : List Pr} (hL : 0 < L) (hLb : L.natAbs < 2 ^ 100) (hx0 : 0 ≤ x) (hx1 : x < L) (hs : StepsOk L steps) (hm : IsMaxL (leads L steps x) m) : m.natAbs < 2 ^ 260 := by
  obtain ⟨s, hs', e⟩ := List.mem_map.mp hm.1
  obtain ⟨s0, s1, s2⟩ := hs.2.2 s hs'
  have h1 : (x - s.1).natAbs < 2 ^ 101 := sub_lt (small_nat hx0 (Int.le_of_lt hx1) hLb) (small_nat s0 (Int.le_of_lt s1) hLb)
  have h2 : ((x - s.1) / L * L).natAbs < 2 ^ (102 + 100) := wide_lt (div_lt hL h1) hLb
  rw [← e]
  exact lt_up (add_lt s2 (lt_up h2 (by decide))) (by decide)
section
variable {P : Program} {w : World} {K : PySem.W.Frag} {mg : Str → Option Value} {base : Heap} {Z : Ad}
theorem ok_law_true_look (T : Tx K w mg Z) : FnOk P w K mg base CX0 3 Z.a_law_true_look Z.d_law_true_look P_law_true_look (spTrue K) := by
  refine T.F_law_true_look.ok sclaw_true_look (fun vs H Q E h => ?_) (fun cdv A outer s H vs Q E hr h => ?_)
  · obtain ⟨t, g, p, n, L, steps, rfl, _⟩ := h
    rfl
  · obtain ⟨t, g, p, n, L, steps, rfl, hT, hn, hL, hL30, hp, hst, hpt, hpg, k⟩ := h
    have hLb := bigL hL hL30
    have hb : ∀ m, m ≤ n + 30 → m < 2 ^ 49 := fun m hm => Nat.lt_of_le_of_lt hm (Nat.lt_of_lt_of_le (Nat.add_lt_add_right hn 30) (by decide))
    have hb' : ∀ m, m ≤ n + 30 → m < 2 ^ 60 := fun m hm => Nat.lt_trans (hb m hm) (by decide)
    have A0 : At H H t g n := ⟨hT, Keep.refl _ _ _⟩
    have hsl : 0 < steps.length := List.length_pos_iff.mpr hst.1
    have nl := noLs_map noL_encP steps
    refine ⟨_, (pss_cons (ps_set (i := 3) sclaw_true_look.nd rfl (Or.inl rfl) (pe_ix (ixL (K := K)) (pe_lst (pa_cons (pe_ix (ixT (K := K)) (pe_ix (ixL (K := K)) (pv 2) (pe_call (ok_law_draw T) (hr.mono (by decide)) (by rfl) T.g_law_draw T.F_law_draw.kp T.bb_law_draw .nil pass0 (pa_cons (pv 0) (pa_cons (pe_callB (lenK (K := K)) (by rfl) T.b_len (by decide +kernel) (pa_cons (pv 2) pa_nil)) pa_nil))) (fun _ _ => rfl)) pe_int (fun _ _ => rfl)) (pa_cons (pe_call (ok_law_draw T) (hr.mono (by decide)) (by rfl) T.g_law_draw T.F_law_draw.kp T.bb_law_draw .nil pass0 (pa_cons (pv 0) (pa_cons (pv 1) pa_nil))) pa_nil))) (pe_call (ok_law_draw T) (hr.mono (by decide)) (by rfl) T.g_law_draw T.F_law_draw.kp T.bb_law_draw .nil pass0 (pa_cons (pv 0) (pa_cons pe_int pa_nil))) (fun _ _ => rfl)))
      (pss_cons (ps_set (i := 4) sclaw_true_look.nd rfl (Or.inl rfl) (pe_ix (ixL (K := K)) (pe_lst (pa_cons pe_int (pa_cons (pe_call (ok_law_draw T) (hr.mono (by decide)) (by rfl) T.g_law_draw T.F_law_draw.kp T.bb_law_draw .nil pass0 (pa_cons (pv 0) (pa_cons pe_int pa_nil))) (pa_cons (pe_call (ok_law_draw T) (hr.mono (by decide)) (by rfl) T.g_law_draw T.F_law_draw.kp T.bb_law_draw .nil pass0 (pa_cons (pv 0) (pa_cons (pe_op op_add (pv 1) pe_int) pa_nil))) pa_nil)))) (pe_call (ok_law_draw T) (hr.mono (by decide)) (by rfl) T.g_law_draw T.F_law_draw.kp T.bb_law_draw .nil pass0 (pa_cons (pv 0) (pa_cons pe_int pa_nil))) (fun _ _ => rfl)))
      (pss_cons (ps_asg (pe_ix (ixL (K := K)) (pe_lst (pa_cons (pe_tup (pa_cons pe_str (pa_cons pe_int pa_nil))) (pa_cons (pe_tup (pa_cons pe_str (pa_cons (pe_un un_neg pe_int) pa_nil))) (pa_cons (pe_tup (pa_cons pe_str (pa_cons pe_int pa_nil))) pa_nil)))) (pe_call (ok_law_draw T) (hr.mono (by decide)) (by rfl) T.g_law_draw T.F_law_draw.kp T.bb_law_draw .nil pass0 (pa_cons (pv 0) (pa_cons pe_int pa_nil))) (fun _ _ => rfl)) (tupK (K := K) (by rfl) (pgs_cons (pg_name (i := 5) sclaw_true_look.nd rfl (Or.inl rfl)) (pgs_cons (pg_name (i := 6) sclaw_true_look.nd rfl (Or.inl rfl)) pgs_nil))))
      (pss_cons (ps_set (i := 7) sclaw_true_look.nd rfl (Or.inl rfl) (pe_lst (pa_cons pe_int (pa_cons (pe_op op_sub (pe_call (ok_law_draw T) (hr.mono (by decide)) (by rfl) T.g_law_draw T.F_law_draw.kp T.bb_law_draw .nil pass0 (pa_cons (pv 0) (pa_cons pe_int pa_nil))) pe_int) (pa_cons (pe_op op_fdivW (pe_call (ok_law_great T) (hr.mono (by decide)) (by rfl) T.g_law_great T.F_law_great.kp T.bb_law_great .nil pass0 (pa_cons (pv 0) pa_nil)) (pe_op op_pow pe_int pe_int)) pa_nil)))))
      (pss_cons (ps_set (i := 7) sclaw_true_look.nd rfl (Or.inl rfl) (pe_op op_mulW (pe_ix (ixL (K := K)) (pv 7) (pe_ix (ixL (K := K)) (pe_lst (pa_cons pe_int (pa_cons pe_int (pa_cons pe_int (pa_cons pe_int (pa_cons pe_int pa_nil)))))) (pe_call (ok_law_draw T) (hr.mono (by decide)) (by rfl) T.g_law_draw T.F_law_draw.kp T.bb_law_draw .nil pass0 (pa_cons (pv 0) (pa_cons pe_int pa_nil))) (fun _ _ => rfl)) (fun _ _ => rfl)) (pv 1)))
      (pss_one (ps_ret (pe_tup (pa_cons (pv 5) (pa_cons (pe_op op_add (pv 3) (pv 7)) (pa_cons (pe_op op_add (pe_op op_add (pe_call (ok_law_lead T) (hr.mono (by decide)) (by rfl) T.g_law_lead T.F_law_lead.kp T.bb_law_lead .nil pass0 (pa_cons (pv 1) (pa_cons (pv 2) (pa_cons (pv 3) pa_nil)))) (pe_op op_mulW (pv 6) (pv 4))) (pv 7)) pa_nil))))))))))), ?_⟩
    -- spot
    obtain ⟨vs, hv1, hv2⟩ := hp
    have hvl : vs.length = steps.length := by rw [dpAll_len hv2, List.length_map]
    have hvb : (vs.length : Int).natAbs < 2 ^ 1000 := Nat.lt_of_le_of_lt (by rw [hvl]; exact hst.2.1 : vs.length ≤ 20) (by decide)
    refine ⟨_, rfl, _, rfl, _, rfl, p, vs, rfl, .inl (SqL.of hv1), t, g, n, (vs.length : Int), rfl, hT, by omega, hvb, hb' _ (by omega), fun H1 i0 i1 i2 T1 k1 => ?_⟩
    have A1 := A0.step T1 k1
    have hp1 := (show LAt K H p (steps.map encP) from ⟨vs, hv1, hv2⟩).keep hT k1 hpt hpg nl
    obtain ⟨vs1, hw1, hw2⟩ := hp1
    have hwl : vs1.length = steps.length := by rw [dpAll_len hw2, List.length_map]
    have hi : i0.toNat < steps.length := by omega
    obtain ⟨s0, hs0⟩ : ∃ s0, steps[i0.toNat]? = some s0 := ⟨steps[i0.toNat], List.getElem?_eq_getElem hi⟩
    obtain ⟨v0, hv0, hd0⟩ := dpAll_get' hw2 (show (steps.map encP)[i0.toNat]? = some (encP s0) by rw [List.getElem?_map, hs0]; rfl)
    obtain ⟨a0, rfl, hq0⟩ := dp_pair hd0
    obtain ⟨sx0, sx1, sx2⟩ := hst.2.2 s0 (List.mem_of_getElem? hs0)
    refine ⟨p, vs1, _, _, rfl, rfl, SqL.of hw1, at_of (j := i0.toNat) (by omega) hv0, a0, _, _, _, rfl, rfl, hq0, rfl, ?_⟩
    refine ⟨_, rfl, _, rfl, t, g, n + 1, L, rfl, T1, hL, lt_up hLb (by decide), hb' _ (by omega), fun H2 x1 x2 x3 T2 k2 => ?_⟩
    have A2 := A1.step T2 k2
    refine ⟨(by show 2 ≤ sizeLine; decide), fun q hq => ?_⟩
    obtain ⟨qt, qg⟩ := T2.at_ne hq
    have A3 := A2.new (o := HO.lst [V.int s0.1, .int x1]) hq
    refine ⟨_, rfl, t, g, n + 2, 2, rfl, A3.T, by decide, by decide, hb' _ (by omega), fun H3 c0 c1 c2 T3 k3 => ?_⟩
    have A4 := A3.step T3 k3
    have hspot : ∃ x : Int, atI [V.int s0.1, .int x1] c0 = some (.int x) ∧ 0 ≤ x ∧ x < L := by
      have : c0 = 0 ∨ c0 = 1 := by omega
      rcases this with e | e <;> subst e
      · exact ⟨s0.1, rfl, sx0, sx1⟩
      · exact ⟨x1, rfl, x2, x3⟩
    obtain ⟨x, hxi, hx0, hx1⟩ := hspot
    refine ⟨q, _, _, _, rfl, rfl, SqL.of (k3 _ _ upd_same qt qg), hxi, ?_⟩
    have hp4 : LAt K H3 p (steps.map encP) := by
      have h1 : LAt K H1 p (steps.map encP) := ⟨vs1, hw1, hw2⟩
      exact ((h1.keep T1 k2 hpt hpg nl).same (same_upd hq)).keep A3.T k3 hpt hpg nl
    clear hv0 hd0 hq0 hw1 hw2 hv1 hv2
    -- off
    refine ⟨_, rfl, t, g, n + 3, 3, rfl, A4.T, by decide, by decide, hb' _ (by omega), fun H4 o1 o2 o3 T4 k4 => ?_⟩
    have A5 := A4.step T4 k4
    refine ⟨_, rfl, _, rfl, _, _, rfl, rfl, t, g, n + 4, L + 1, rfl, T4, by omega, lt_up (add_lt hLb (show (1 : Int).natAbs < 2 ^ 100 by decide)) (by decide), hb' _ (by omega), fun H5 r1 r2 r3 T5 k5 => ?_⟩
    have A6 := A5.step T5 k5
    refine ⟨(by show 3 ≤ sizeLine; decide), fun q2 hq2 => ?_⟩
    obtain ⟨q2t, q2g⟩ := T5.at_ne hq2
    have A7 := A6.new (o := HO.lst [V.int 0, .int o1, .int r1]) hq2
    refine ⟨_, rfl, t, g, n + 5, 3, rfl, A7.T, by decide, by decide, hb' _ (by omega), fun H6 d0 d1 d2 T6 k6 => ?_⟩
    have A8 := A7.step T6 k6
    have hoff : ∃ x : Int, atI [V.int 0, .int o1, .int r1] d0 = some (.int x) ∧ 0 ≤ x ∧ x.natAbs < 2 ^ 101 := by
      have : d0 = 0 ∨ d0 = 1 ∨ d0 = 2 := by omega
      rcases this with e | e | e <;> subst e
      · exact ⟨0, rfl, by decide, by decide⟩
      · exact ⟨o1, rfl, o2, Nat.lt_of_le_of_lt (by omega : o1.natAbs ≤ 3) (by decide)⟩
      · exact ⟨r1, rfl, r2, small_nat r2 (by omega : r1 ≤ L) (lt_up hLb (by decide))⟩
    obtain ⟨off, hoi, hoff0, hoffb⟩ := hoff
    refine ⟨q2, _, _, _, rfl, rfl, SqL.of (k6 _ _ upd_same q2t q2g), hoi, ?_⟩
    have hp8 : LAt K H6 p (steps.map encP) := (((hp4.keep A4.T k4 hpt hpg nl).keep T4 k5 hpt hpg nl).same (same_upd hq2)).keep A7.T k6 hpt hpg nl
    -- said, sign
    refine ⟨(by show 2 ≤ sizeLine; decide), fun p1 hp1 => ?_⟩
    have B1 := A8.new (o := HO.tup [V.str "at", .int 0]) hp1
    refine ⟨_, rfl, (by show 2 ≤ sizeLine; decide), fun p2 hp2 => ?_⟩
    have B2 := B1.new (o := HO.tup [V.str "from", .int (-1)]) hp2
    refine ⟨(by show 2 ≤ sizeLine; decide), fun p3 hp3 => ?_⟩
    have B3 := B2.new (o := HO.tup [V.str "upto", .int 1]) hp3
    have w3 : (upd (upd (upd H6 p1 (.tup [V.str "at", .int 0])) p2 (.tup [V.str "from", .int (-1)])) p3 (.tup [V.str "upto", .int 1])) p3 = some (.tup [V.str "upto", .int 1]) := upd_same
    have w2 := (same_upd (o := HO.tup [V.str "upto", .int 1]) hp3) p2 _ (upd_same (H := upd H6 p1 (.tup [V.str "at", .int 0])) (o := HO.tup [V.str "from", .int (-1)]))
    have w1 := (same_upd (o := HO.tup [V.str "upto", .int 1]) hp3) p1 _ ((same_upd (o := HO.tup [V.str "from", .int (-1)]) hp2) p1 _ (upd_same (H := H6) (o := HO.tup [V.str "at", .int 0])))
    have hp9 := ((hp8.same (same_upd (o := HO.tup [V.str "at", .int 0]) hp1)).same (same_upd (o := HO.tup [V.str "from", .int (-1)]) hp2)).same (same_upd (o := HO.tup [V.str "upto", .int 1]) hp3)
    refine ⟨(by show 3 ≤ sizeLine; decide), fun q3 hq3 => ?_⟩
    obtain ⟨q3t, q3g⟩ := B3.T.at_ne hq3
    have hp10 := hp9.same (same_upd (o := HO.lst [V.ref p1, .ref p2, .ref p3]) hq3)
    have S10 := same_upd (o := HO.lst [V.ref p1, .ref p2, .ref p3]) hq3
    have B4 := B3.new (o := HO.lst [V.ref p1, .ref p2, .ref p3]) hq3
    refine ⟨_, rfl, t, g, n + 6, 3, rfl, B4.T, by decide, by decide, hb' _ (by omega), fun H7 e0 e1 e2 T7 k7 => ?_⟩
    have B5 := B4.step T7 k7
    have hp11 := hp10.keep B4.T k7 hpt hpg nl
    have tp := Keep.tups B4.T k7
    have hsaid : ∃ (pp : Addr) (wd : Str) (sg : Int), atI [V.ref p1, .ref p2, .ref p3] e0 = some (.ref pp) ∧ SqT K H7 pp [.str wd, .int sg] ∧ (wd = "at" ∧ sg = 0 ∨ wd = "from" ∧ sg = -1 ∨ wd = "upto" ∧ sg = 1) := by
      have : e0 = 0 ∨ e0 = 1 ∨ e0 = 2 := by omega
      rcases this with e | e | e <;> subst e
      · exact ⟨p1, "at", 0, rfl, .inl (tp _ _ (.inl (S10 _ _ w1))), .inl ⟨rfl, rfl⟩⟩
      · exact ⟨p2, "from", -1, rfl, .inl (tp _ _ (.inl (S10 _ _ w2))), .inr (.inl ⟨rfl, rfl⟩)⟩
      · exact ⟨p3, "upto", 1, rfl, .inl (tp _ _ (.inl (S10 _ _ w3))), .inr (.inr ⟨rfl, rfl⟩)⟩
    obtain ⟨pp, wd, sg, hpi, hpp, hws⟩ := hsaid
    refine ⟨q3, _, _, _, rfl, rfl, SqL.of (k7 _ _ upd_same q3t q3g), hpi, ?_⟩
    refine ⟨pp, _, rfl, hpp, rfl, _, _, rfl, _, _, rfl, rfl, ?_⟩
    -- turn
    refine ⟨_, rfl, t, g, n + 7, 5, rfl, T7, by decide, by decide, hb' _ (by omega), fun H8 f0 f1 f2 T8 k8 => ?_⟩
    have B6 := B5.step T8 k8
    refine ⟨_, _, rfl, rfl, _, rfl, t, g, n + 8, rfl, T8, Nat.lt_trans (hb _ (by omega)) (by decide), fun H9 g0 g1 g2 T9 k9 => ?_⟩
    have B7 := B6.step T9 k9
    refine ⟨_, _, rfl, rfl, ⟨by decide, by decide, by decide⟩, _, _, rfl, rfl, wide_div (b := 110) (by decide) (by decide) (by decide) (by decide), (by show 3 ≤ sizeLine; decide), fun q4 hq4 => ?_⟩
    obtain ⟨q4t, q4g⟩ := T9.at_ne hq4
    have B8 := B7.new (o := HO.lst [V.int 0, .int (f0 - 2), .int (g0 / 10 ^ (31 : Int).toNat)]) hq4
    have hp12 := ((hp11.keep T7 k8 hpt hpg nl).keep T8 k9 hpt hpg nl).same (same_upd (o := HO.lst [V.int 0, .int (f0 - 2), .int (g0 / 10 ^ (31 : Int).toNat)]) hq4)
    -- turn = turn[..] * size
    refine ⟨_, rfl, (by show 5 ≤ sizeLine; decide), fun q5 hq5 => ?_⟩
    obtain ⟨q5t, q5g⟩ := B8.T.at_ne hq5
    have B9 := B8.new (o := HO.lst [V.int 0, .int 0, .int 1, .int 1, .int 2]) hq5
    have hp13 := hp12.same (same_upd (o := HO.lst [V.int 0, .int 0, .int 1, .int 1, .int 2]) hq5)
    have hq4' := (same_upd (o := HO.lst [V.int 0, .int 0, .int 1, .int 1, .int 2]) hq5) q4 _ (upd_same (H := H9) (o := HO.lst [V.int 0, .int (f0 - 2), .int (g0 / 10 ^ (31 : Int).toNat)]))
    refine ⟨_, rfl, t, g, n + 12, 5, rfl, B9.T, by decide, by decide, hb' _ (by omega), fun H10 h0 h1 h2 T10 k10 => ?_⟩
    have B10 := B9.step T10 k10
    have hp14 := hp13.keep B9.T k10 hpt hpg nl
    have hturn : ∃ (j kk : Int), atI [V.int 0, .int 0, .int 1, .int 1, .int 2] h0 = some (.int j) ∧ atI [V.int 0, .int (f0 - 2), .int (g0 / 10 ^ (31 : Int).toNat)] j = some (.int kk) ∧ kk.natAbs < 2 ^ 169 := by
      have c1 : (f0 - 2).natAbs < 2 ^ 169 := Nat.lt_of_le_of_lt (by omega : (f0 - 2).natAbs ≤ 7) (by decide)
      have c2 : (g0 / 10 ^ (31 : Int).toNat).natAbs < 2 ^ 169 := by
        have h1 : g0 / 10 ^ (31 : Int).toNat ≤ 10 ^ 59 / 10 ^ (31 : Int).toNat := Int.ediv_le_ediv (by decide) (Int.le_of_lt g2)
        have h0 : 0 ≤ g0 / 10 ^ (31 : Int).toNat := Int.ediv_nonneg g1 (by decide)
        exact small_nat h0 h1 (by decide)
      have : h0 = 0 ∨ h0 = 1 ∨ h0 = 2 ∨ h0 = 3 ∨ h0 = 4 := by omega
      rcases this with e | e | e | e | e <;> subst e
      · exact ⟨0, 0, rfl, rfl, by decide⟩
      · exact ⟨0, 0, rfl, rfl, by decide⟩
      · exact ⟨1, _, rfl, rfl, c1⟩
      · exact ⟨1, _, rfl, rfl, c1⟩
      · exact ⟨2, _, rfl, rfl, c2⟩
    obtain ⟨j, kk, hj, hkk, hkb⟩ := hturn
    refine ⟨q5, _, _, _, rfl, rfl, SqL.of (k10 _ _ upd_same q5t q5g), hj, q4, _, _, _, rfl, rfl, SqL.of (k10 _ _ hq4' q4t q4g), hkk, ?_⟩
    refine ⟨_, rfl, _, _, rfl, rfl, wide_mul hkb hLb (by decide) (by decide) (by decide), ?_⟩
    have hkL : (kk * L).natAbs < 2 ^ 269 := wide_lt hkb hLb
    -- the look
    have hxb : x.natAbs < 2 ^ 100 := small_nat hx0 (Int.le_of_lt hx1) hLb
    refine ⟨_, rfl, _, rfl, _, rfl, _, _, rfl, rfl, _, rfl, _, rfl, _, rfl, .ref p, L, x, steps, rfl, hp14.dp, hL, lt_up hLb (by decide), lt_up hxb (by decide), hst, fun m H11 S11 hm => ?_⟩
    have hmb := lead_bound hL hLb hx0 hx1 hst hm
    have hsgb : sg.natAbs < 2 ^ 2 := by rcases hws with ⟨_, e⟩ | ⟨_, e⟩ | ⟨_, e⟩ <;> rw [e] <;> decide
    have hso : (sg * off).natAbs < 2 ^ (2 + 101) := wide_lt hsgb hoffb
    refine ⟨_, rfl, _, rfl, _, _, rfl, rfl, wide_mul hsgb hoffb (by decide) (by decide) (by decide), _, _, rfl, rfl, _, rfl, _, _, rfl, rfl, (by show 3 ≤ sizeLine; decide), fun q6 hq6 => ?_⟩
    have B11 : At H H11 t g (n + 13) := ⟨B10.T.same S11, B10.k.trans (Keep.of_same S11)⟩
    refine k _ _ (wd, x + kk * L, m + sg * off + kk * L) ((B11.new hq6).up (by omega)) (.tup (SqT.of upd_same) (.cons (.str _) (.cons (.int _) (.cons (.int _) .nil)))) ⟨?_, ⟨?_, ?_⟩, x, kk, m, rfl, hm, fun e => ?_, fun e => ?_, fun e => ?_⟩
    · rcases hws with ⟨e, _⟩ | ⟨e, _⟩ | ⟨e, _⟩
      · exact .inl e
      · exact .inr (.inl e)
      · exact .inr (.inr e)
    · exact add_lt (lt_up hxb (by decide)) hkL
    · exact add_lt (lt_up (add_lt hmb (lt_up hso (by decide))) (by decide)) hkL
    · have e' : wd = "at" := e
      show m + sg * off + kk * L = m + kk * L
      rcases hws with ⟨_, es⟩ | ⟨ew, _⟩ | ⟨ew, _⟩
      · rw [es]; omega
      · rw [e'] at ew; exact absurd ew (by decide +kernel)
      · rw [e'] at ew; exact absurd ew (by decide +kernel)
    · have e' : wd = "from" := e
      show m + sg * off + kk * L ≤ m + kk * L
      rcases hws with ⟨ew, _⟩ | ⟨_, es⟩ | ⟨ew, _⟩
      · rw [e'] at ew; exact absurd ew (by decide +kernel)
      · rw [es]; omega
      · rw [e'] at ew; exact absurd ew (by decide +kernel)
    · have e' : wd = "upto" := e
      show m + kk * L ≤ m + sg * off + kk * L
      rcases hws with ⟨ew, _⟩ | ⟨ew, _⟩ | ⟨_, es⟩
      · rw [e'] at ew; exact absurd ew (by decide +kernel)
      · rw [e'] at ew; exact absurd ew (by decide +kernel)
      · rw [es]; omega
end
end KA
namespace KA
open PySem PySem.Spec PyProof.Rows L2 DP
def spKnown (K : PySem.W.Frag) : Sp := fun vs H Q _ => ∃ (t g : Addr) (n : Nat) (L most : Int), vs = [.ref t, .int L, .int most] ∧ Tray H t g n ∧ n < 2 ^ 44 ∧ 0 < L ∧ L ≤ 10 ^ 30 ∧ 0 ≤ most ∧ most ≤ 40 ∧
  ∀ (H' : Hp) (p : Addr) (ls : List Lk) (steps : List Pr), H p = none → At H H' t g (n + 2000) → LAt K H' p (ls.map encL) → (∀ l ∈ ls, TrueLk L steps l) → StepsOk L steps → (ls.length : Int) ≤ most → Q (.ref p) H'
def spLawSide (K : PySem.W.Frag) (sd : Str) : Sp := fun vs H Q _ => ∃ (v : V) (L x : Int) (ls : List Lk), vs = [.int L, v, .int x] ∧ Dp K H v (.list (ls.map encL)) ∧ 0 < L ∧ L.natAbs < 2 ^ 200 ∧ x.natAbs < 2 ^ 400 ∧ (∀ l ∈ ls, WordOk l.1 ∧ Sized 400 l) ∧ ls.length ≤ 100 ∧
  ∀ v H', Same H H' → Tells sd ls x L v → Q v H'
section
variable {P : Program} {w : World} {K : PySem.W.Frag} {mg : Str → Option Value} {base : Heap} {Z : Ad}
theorem ok_law_known (T : Tx K w mg Z) : FnOk P w K mg base CX0 4 Z.a_law_known Z.d_law_known P_law_known (spKnown K) := by
  refine T.F_law_known.ok sclaw_known (fun vs H Q E h => ?_) (fun cdv A outer s H vs Q E hr h => ?_)
  · obtain ⟨t, g, n, L, most, rfl, _⟩ := h
    rfl
  · obtain ⟨t, g, n, L, most, rfl, hT, hn, hL, hL30, hm0, hm1, k⟩ := h
    have hb : ∀ m, m ≤ n + 2000 → m < 2 ^ 46 := fun m hm => Nat.lt_of_le_of_lt hm (Nat.lt_of_lt_of_le (Nat.add_lt_add_right hn 2000) (by decide))
    have hb' : ∀ m, m ≤ n + 2000 → m < 2 ^ 60 := fun m hm => Nat.lt_trans (hb m hm) (by decide)
    have A0 : At H H t g n := ⟨hT, Keep.refl _ _ _⟩
    refine ⟨_, (pss_cons (ps_set (i := 3) sclaw_known.nd rfl (Or.inr rfl) (pe_call (ok_law_secret T) (hr.mono (by decide)) (by rfl) T.g_law_secret T.F_law_secret.kp T.bb_law_secret .nil pass0 (pa_cons (pv 0) (pa_cons (pv 1) pa_nil))))
      (pss_cons (ps_set (i := 4) sclaw_known.nd rfl (Or.inl rfl) (pe_call (ok_law_draw T) (hr.mono (by decide)) (by rfl) T.g_law_draw T.F_law_draw.kp T.bb_law_draw .nil pass0 (pa_cons (pv 0) (pa_cons (pe_ix (ixL (K := K)) (pe_lst (pa_cons pe_int (pa_cons pe_int (pa_cons (pe_op op_add (pv 2) pe_int) pa_nil)))) (pe_call (ok_law_draw T) (hr.mono (by decide)) (by rfl) T.g_law_draw T.F_law_draw.kp T.bb_law_draw .nil pass0 (pa_cons (pv 0) (pa_cons pe_int pa_nil))) (fun _ _ => rfl)) pa_nil))))
      (pss_one (ps_ret (pe_lc (own := [("turn", 5)]) (g := gName 5) (tt := tYes) rfl sclaw_known.nd (pi_range1 (by rfl) T.b_range (pa_cons (pe_callB (call_min2 rfl) (by rfl) T.b_min (by decide +kernel) (pa_cons (pv 2) (pa_cons (pv 4) pa_nil))) pa_nil)) (blkOk_by (own := [("turn", 5)]) (N := N_law_known) (sc := defScope slaw_known) (by decide +kernel)) (fun _ _ _ _ _ => (pg_name (i := 5) sclaw_known.nd rfl (Or.inl rfl))) (fun _ _ _ _ _ => pts_nil) (fun _ _ _ _ _ => (pe_call (ok_law_true_look T) (hr.mono (by decide)) (by rfl) T.g_law_true_look T.F_law_true_look.kp T.bb_law_true_look .nil pass0 (pa_cons (pv 0) (pa_cons (pv 1) (pa_cons (pv 3) pa_nil)))))))))), ?_⟩
    refine ⟨_, rfl, _, rfl, t, g, n, L, rfl, hT, Nat.lt_trans hn (by decide), hL, hL30, fun H1 p steps hp T1 k1 l1 hst => ?_⟩
    have A1 := A0.step T1 k1
    obtain ⟨hpt, hpg⟩ := hT.at_ne hp
    have nl := noLs_map noL_encP steps
    refine ⟨_, rfl, _, rfl, _, _, rfl, rfl, (by show 3 ≤ sizeLine; decide), fun q hq => ?_⟩
    obtain ⟨qt, qg⟩ := T1.at_ne hq
    have A2 := A1.new (o := HO.lst [V.int 4, .int 9, .int (most + 1)]) hq
    refine ⟨_, rfl, t, g, n + 30, 3, rfl, A2.T, by decide, by decide, hb' _ (by omega), fun H2 c0 c1 c2 T2 k2 => ?_⟩
    have A3 := A2.step T2 k2
    have l3 := (l1.same (same_upd (o := HO.lst [V.int 4, .int 9, .int (most + 1)]) hq)).keep A2.T k2 hpt hpg nl
    have hmany : ∃ j : Int, atI [V.int 4, .int 9, .int (most + 1)] c0 = some (.int j) ∧ 0 < j ∧ j ≤ 41 := by
      have : c0 = 0 ∨ c0 = 1 ∨ c0 = 2 := by omega
      rcases this with e | e | e <;> subst e
      · exact ⟨4, rfl, by decide, by decide⟩
      · exact ⟨9, rfl, by decide, by decide⟩
      · exact ⟨most + 1, rfl, by omega, by omega⟩
    obtain ⟨j, hj, hj0, hj1⟩ := hmany
    refine ⟨q, _, _, _, rfl, rfl, SqL.of (k2 _ _ upd_same qt qg), hj, t, g, n + 31, j, rfl, A3.T, hj0, Nat.lt_of_le_of_lt (by omega : j.natAbs ≤ 41) (by decide), hb' _ (by omega), fun H3 m m0 m1 T3 k3 => ?_⟩
    have A4 := A3.step T3 k3
    have l4 := l3.keep A3.T k3 hpt hpg nl
    have hmin : 0 ≤ (if m < most then m else most) ∧ (if m < most then m else most) ≤ most := by split <;> omega
    refine ⟨_, rfl, _, rfl, _, _, rfl, _, rfl, Int.le_trans (by decide) hmin.1, Int.lt_of_le_of_lt hmin.2 (Int.lt_of_le_of_lt hm1 (by decide)), fun D hD => ?_⟩
    obtain ⟨Dt, Dg⟩ := T3.at_ne hD
    have hDH := A4.free hD
    obtain ⟨vs4, hp4, _⟩ := id l4
    have hDp : p ≠ D := ne_of_none hp4 hD
    refine lc_range (lo := 0) (n := (if m < most then m else most).toNat) (fun i H' => At H H' t g (n + 40 + 30 * i) ∧ LAt K H' p (steps.map encP) ∧ ∃ (vs : List V) (ls : List Lk), H' D = some (.lst vs) ∧ DpAll K H' vs (ls.map encL) ∧ ls.length = i ∧ ∀ l ∈ ls, TrueLk L steps l)
      ⟨(A4.new hD).up (by omega), l4.same (same_upd hD), [], [], upd_same, .nil, rfl, fun _ z => absurd z (by simp)⟩ ?_ ?_
    · rintro i H' hi ⟨A, lp, vs, ls, hd, hds, hl, htr⟩
      have hi40 : i < 40 := by omega
      refine ⟨rfl, yes_ite ?_⟩
      refine ⟨_, rfl, _, rfl, _, rfl, t, g, p, n + 40 + 30 * i, L, steps, rfl, A.T, hb _ (by omega), hL, hL30, lp, hst, hpt, hpg, fun H5 r l A5 hr hl5 => ?_⟩
      have hd5 := A5.k _ _ hd Dt Dg
      have hds5 := dpAll_tups (Keep.tups A.T A5.k) _ _ (noLs_map noL_encL ls) hds
      obtain ⟨vp, hvp, hvq⟩ := lp.keep A.T A5.k hpt hpg nl
      have hvl : vs.length = ls.length := by rw [dpAll_len hds, List.length_map]
      refine ⟨vs, hd5, small1000 (by omega), ((A.step A5.T A5.k).acc hDH Dt Dg).up (by omega), ⟨vp, (upd_ne hDp).trans hvp, dpAll_tups (Tups.upd_lst hd5) _ _ nl hvq⟩, _, ls ++ [l], upd_same, ?_, by simp [hl], fun o ho => ?_⟩
      · rw [List.map_append]
        exact acc_step hd5 (noLs_map noL_encL _) rfl hds5 hr
      · rcases List.mem_append.mp ho with h | h
        · exact htr o h
        · rw [List.mem_singleton] at h; subst h; exact hl5
    · rintro H' ⟨A, lp, vs, ls, hd, hds, hl, htr⟩
      refine k H' D ls steps hDH (A.up (by omega)) ⟨vs, hd, hds⟩ htr hst (by omega)
end
end KA
namespace KA
open PySem PySem.Spec PyProof.Rows L2 DP
/-- no list of it is long -/
def fewD : PyData → Bool
  | .list xs => decide (xs.length ≤ 1000) && fewDs xs
  | .tuple xs => decide (xs.length ≤ 1000) && fewDs xs
  | _ => true
where fewDs : List PyData → Bool
  | [] => true
  | x :: xs => fewD x && fewDs xs
def tyName : PyData → String
  | .none => "NoneType"
  | .bool _ => "bool"
  | .int _ => "int"
  | .str _ => "str"
  | .list _ => "list"
  | .tuple _ => "tuple"
  | .dict _ => "dict"
theorem ty_of {K : PySem.W.Frag} {H : Hp} {v : V} {d : PyData} (h : Dp K H v d) : TyX K H v (.type (tyName d)) := by
  cases h with
  | non => exact .base .non
  | bl b => exact .base (.bl b)
  | int i => exact .base (.int i)
  | str x => exact .base (.str x)
  | lst s a =>
    rcases s with (s | ⟨o, s⟩) | ⟨o, its, n, e, c, _⟩
    · exact .base (.lst s)
    · exact .base (.frz s)
    · exact .kList e c
  | tup s a =>
    rcases s with (s | ⟨o, s⟩) | ⟨o, its, n, e, c, _⟩
    · exact .base (.tup s)
    · exact .fTuple s
    · exact .kTuple e c
theorem isi {K : PySem.W.Frag} {H : Hp} {v : V} {d : PyData} {C : String} {b : Bool} {Q : VK} (h : Dp K H v d) (hk : kitB (tyName d) C = some b) (q : Q (.bl b) H) : rIsi K [v, .ty C] H Q :=
  ⟨v, .ty C, _, .type C, b, rfl, ClsV.ty C, ty_of h, kit_ty hk, q⟩
def spAlike (K : PySem.W.Frag) (n : Nat) : Sp := fun vs H Q _ => ∃ (v u : V) (d : PyData), vs = [v, u] ∧ Dp K H v d ∧ Dp K H u d ∧ fewD d = true ∧ d.depth < n ∧ Q (.bl true) H
theorem few_at : ∀ {ds : List PyData} {i : Nat} {d : PyData}, fewD.fewDs ds = true → ds[i]? = some d → fewD d = true
  | [], _, _, _, h => by simp at h
  | a :: r, 0, d, n, h => by
    rw [fewD.fewDs, Bool.and_eq_true] at n
    have e : a = d := Option.some.inj h
    subst e; exact n.1
  | a :: r, i + 1, d, n, h => by
    rw [fewD.fewDs, Bool.and_eq_true] at n
    exact few_at n.2 (by simpa using h)
theorem depth_at : ∀ {ds : List PyData} {i : Nat} {d : PyData}, ds[i]? = some d → d.depth ≤ PyData.depthAll ds
  | [], _, _, h => by simp at h
  | a :: r, 0, d, h => by
    have e : a = d := Option.some.inj h
    subst e; rw [PyData.depthAll]; omega
  | a :: r, i + 1, d, h => by
    have := depth_at (ds := r) (i := i) (d := d) (by simpa using h)
    rw [PyData.depthAll]; omega
theorem ix_any {K : PySem.W.Frag} {H : Hp} {p : Addr} {xs : List V} {i : Int} {x : V} {Q : VK} (s : SqL K H p xs ∨ SqT K H p xs) (h : atI xs i = some x) (q : Q x H) : rIx K (.ref p) (.int i) H Q := by
  rcases s with s | s
  · exact .inl ⟨p, xs, i, x, rfl, rfl, s, h, q⟩
  · exact .inr (.inl ⟨p, xs, i, x, rfl, rfl, s, h, q⟩)
section
variable {P : Program} {w : World} {K : PySem.W.Frag} {mg : Str → Option Value} {base : Heap} {Z : Ad}
/-- what the loop asks: the items alike, by the promise one level down -/
theorem ok_law_alike_of {k n : Nat} (T : Tx K w mg Z) (ih : FnOk P w K mg base CX0 k Z.a_law_alike Z.d_law_alike P_law_alike (spAlike K n)) : FnOk P w K mg base CX0 (k + 1) Z.a_law_alike Z.d_law_alike P_law_alike (spAlike K (n + 1)) := by
  refine T.F_law_alike.ok sclaw_alike (fun vs H Q E h => ?_) (fun cdv A outer s H vs Q E hr h => ?_)
  · obtain ⟨v, u, d, rfl, _⟩ := h
    rfl
  · obtain ⟨v, u, d, rfl, hv, hu, hf, hd, k⟩ := h
    -- the data's kinds: what the tests answer
    have ty := ty_of hu
    refine ⟨_, (C8.pss_cut (ps_if (pt_cmpR op_isN (pv 1) pe_non (nomark _)) (pss_one (ps_ret (pe_cmpR op_isN (pv 0) pe_non (nomark _)))) pss_nil)
      (C8.pss_cut (ps_if (pt_val (pe_callB (isiK (K := K)) (by rfl) T.b_isinstance (by decide +kernel) (pa_cons (pv 1) (pa_cons (pe_bltn (v := .ty "bool") (by rfl) T.b_bool (by decide +kernel) rfl) pa_nil)))) (pss_one (ps_ret (pe_and (pe_callB (isiK (K := K)) (by rfl) T.b_isinstance (by decide +kernel) (pa_cons (pv 0) (pa_cons (pe_bltn (v := .ty "bool") (by rfl) T.b_bool (by decide +kernel) rfl) pa_nil))) (pe_one (pe_cmpR op_eq (pv 0) (pv 1) (nomark _)))))) pss_nil)
      (C8.pss_cut (ps_if (pt_val (pe_callB (isiK (K := K)) (by rfl) T.b_isinstance (by decide +kernel) (pa_cons (pv 1) (pa_cons (pe_bltn (v := .ty "int") (by rfl) T.b_int (by decide +kernel) rfl) pa_nil)))) (pss_one (ps_ret (pe_and (pe_callB (isiK (K := K)) (by rfl) T.b_isinstance (by decide +kernel) (pa_cons (pv 0) (pa_cons (pe_bltn (v := .ty "int") (by rfl) T.b_int (by decide +kernel) rfl) pa_nil))) (pe_and (pe_not (pe_callB (isiK (K := K)) (by rfl) T.b_isinstance (by decide +kernel) (pa_cons (pv 0) (pa_cons (pe_bltn (v := .ty "bool") (by rfl) T.b_bool (by decide +kernel) rfl) pa_nil)))) (pe_one (pe_cmpR op_eq (pv 0) (pv 1) (nomark _))))))) pss_nil)
      (C8.pss_cut (ps_if (pt_val (pe_callB (isiK (K := K)) (by rfl) T.b_isinstance (by decide +kernel) (pa_cons (pv 1) (pa_cons (pe_bltn (v := .ty "str") (by rfl) T.b_str (by decide +kernel) rfl) pa_nil)))) (pss_one (ps_ret (pe_and (pe_callB (isiK (K := K)) (by rfl) T.b_isinstance (by decide +kernel) (pa_cons (pv 0) (pa_cons (pe_bltn (v := .ty "str") (by rfl) T.b_str (by decide +kernel) rfl) pa_nil))) (pe_one (pe_cmpR op_eq (pv 0) (pv 1) (nomark _)))))) pss_nil)
      (C8.pss_cut (ps_if (PW.pt (pw_or (pt_cmpR (neDK (K := K) hr.units) (pe_callB (isiK (K := K)) (by rfl) T.b_isinstance (by decide +kernel) (pa_cons (pv 0) (pa_cons (pe_bltn (v := .ty "list") (by rfl) T.b_list (by decide +kernel) rfl) pa_nil))) (pe_callB (isiK (K := K)) (by rfl) T.b_isinstance (by decide +kernel) (pa_cons (pv 1) (pa_cons (pe_bltn (v := .ty "list") (by rfl) T.b_list (by decide +kernel) rfl) pa_nil))) (nomark _)) (pw_or1 (pt_cmpR (neDK (K := K) hr.units) (pe_callB (isiK (K := K)) (by rfl) T.b_isinstance (by decide +kernel) (pa_cons (pv 0) (pa_cons (pe_bltn (v := .ty "tuple") (by rfl) T.b_tuple (by decide +kernel) rfl) pa_nil))) (pe_callB (isiK (K := K)) (by rfl) T.b_isinstance (by decide +kernel) (pa_cons (pv 1) (pa_cons (pe_bltn (v := .ty "tuple") (by rfl) T.b_tuple (by decide +kernel) rfl) pa_nil))) (nomark _))))) (pss_one (ps_ret pe_bl)) pss_nil)
      (C8.pss_cut (ps_if (pt_cmpR op_ne (pe_callB (lenK (K := K)) (by rfl) T.b_len (by decide +kernel) (pa_cons (pv 0) pa_nil)) (pe_callB (lenK (K := K)) (by rfl) T.b_len (by decide +kernel) (pa_cons (pv 1) pa_nil)) (nomark _)) (pss_one (ps_ret pe_bl)) pss_nil)
      (pss_cons (ps_for PassesOwn.never rfl (pi_range1 (by rfl) T.b_range (pa_cons (pe_callB (lenK (K := K)) (by rfl) T.b_len (by decide +kernel) (pa_cons (pv 1) pa_nil)) pa_nil)) (pg_name (i := 2) sclaw_alike.nd rfl (Or.inl rfl)) (pss_one (ps_if (pt_not (pt_val (pe_call ih hr (by rfl) T.g_law_alike T.F_law_alike.kp T.bb_law_alike .nil pass0 (pa_cons (pe_ix ix_seq (pv 0) (pv 2) (fun _ _ => rfl)) (pa_cons (pe_ix ix_seq (pv 1) (pv 2) (fun _ _ => rfl)) pa_nil))))) (pss_one (ps_ret pe_bl)) pss_nil)))
      (pss_one (ps_ret pe_bl))))))))), ?_⟩
    refine ⟨fun σ' H' => σ' = [some v, some u, none] ∧ H' = H ∧ d ≠ .none, ?_, ?_⟩
    · refine ⟨_, rfl, rfl, _, rfl, ?_⟩
      cases hu with
      | non =>
        cases hv
        exact iteT ⟨_, rfl, rfl, k⟩
      | bl b => exact iteF ⟨rfl, rfl, fun e => by cases e⟩
      | int b => exact iteF ⟨rfl, rfl, fun e => by cases e⟩
      | str b => exact iteF ⟨rfl, rfl, fun e => by cases e⟩
      | lst s a => exact iteF ⟨rfl, rfl, fun e => by cases e⟩
      | tup s a => exact iteF ⟨rfl, rfl, fun e => by cases e⟩
    rintro σ1 H1 ⟨rfl, rfl, n1⟩
    refine ⟨fun σ' H' => σ' = [some v, some u, none] ∧ H' = H1 ∧ ∀ b, d ≠ .bool b, ?_, ?_⟩
    · cases hu with
      | non => exact absurd rfl n1
      | bl b =>
        have hv' := hv
        cases hv
        exact ⟨_, rfl, ⟨_, _, _, _, true, rfl, .ty _, ty_of (.bl b), kit_ty (by simp only [tyName]; decide +kernel), _, rfl, iteT ⟨_, rfl, ⟨_, _, _, _, true, rfl, .ty _, ty_of hv', kit_ty (by simp only [tyName]; decide +kernel), _, rfl, iteT ⟨_, rfl, _, rfl, rfl, (by simpa using k)⟩⟩⟩⟩⟩
      | int b => exact ⟨_, rfl, ⟨_, _, _, _, false, rfl, .ty _, ty_of (.int b), kit_ty (by simp only [tyName]; decide +kernel), _, rfl, iteF ⟨rfl, rfl, fun _ e => by cases e⟩⟩⟩
      | str b => exact ⟨_, rfl, ⟨_, _, _, _, false, rfl, .ty _, ty_of (.str b), kit_ty (by simp only [tyName]; decide +kernel), _, rfl, iteF ⟨rfl, rfl, fun _ e => by cases e⟩⟩⟩
      | lst s a => exact ⟨_, rfl, ⟨_, _, _, _, false, rfl, .ty _, ty_of (.lst s a), kit_ty (by simp only [tyName]; decide +kernel), _, rfl, iteF ⟨rfl, rfl, fun _ e => by cases e⟩⟩⟩
      | tup s a => exact ⟨_, rfl, ⟨_, _, _, _, false, rfl, .ty _, ty_of (.tup s a), kit_ty (by simp only [tyName]; decide +kernel), _, rfl, iteF ⟨rfl, rfl, fun _ e => by cases e⟩⟩⟩
    rintro σ2 H2 ⟨rfl, rfl, n2⟩
    refine ⟨fun σ' H' => σ' = [some v, some u, none] ∧ H' = H2 ∧ ∀ b, d ≠ .int b, ?_, ?_⟩
    · cases hu with
      | non => exact absurd rfl n1
      | bl b => exact absurd rfl (n2 b)
      | int b =>
        have hv' := hv
        cases hv
        exact ⟨_, rfl, ⟨_, _, _, _, true, rfl, .ty _, ty_of (.int b), kit_ty (by simp only [tyName]; decide +kernel), _, rfl, iteT ⟨_, rfl, ⟨_, _, _, _, true, rfl, .ty _, ty_of hv', kit_ty (by simp only [tyName]; decide +kernel), _, rfl, iteT ⟨_, rfl, ⟨_, _, _, _, false, rfl, .ty _, ty_of hv', kit_ty (by simp only [tyName]; decide +kernel), _, rfl, _, rfl, iteT ⟨_, rfl, _, rfl, rfl, (by simpa using k)⟩⟩⟩⟩⟩⟩⟩
      | str b => exact ⟨_, rfl, ⟨_, _, _, _, false, rfl, .ty _, ty_of (.str b), kit_ty (by simp only [tyName]; decide +kernel), _, rfl, iteF ⟨rfl, rfl, fun _ e => by cases e⟩⟩⟩
      | lst s a => exact ⟨_, rfl, ⟨_, _, _, _, false, rfl, .ty _, ty_of (.lst s a), kit_ty (by simp only [tyName]; decide +kernel), _, rfl, iteF ⟨rfl, rfl, fun _ e => by cases e⟩⟩⟩
      | tup s a => exact ⟨_, rfl, ⟨_, _, _, _, false, rfl, .ty _, ty_of (.tup s a), kit_ty (by simp only [tyName]; decide +kernel), _, rfl, iteF ⟨rfl, rfl, fun _ e => by cases e⟩⟩⟩
    rintro σ3 H3 ⟨rfl, rfl, n3⟩
    refine ⟨fun σ' H' => σ' = [some v, some u, none] ∧ H' = H3 ∧ ∀ b, d ≠ .str b, ?_, ?_⟩
    · cases hu with
      | non => exact absurd rfl n1
      | bl b => exact absurd rfl (n2 b)
      | int b => exact absurd rfl (n3 b)
      | str b =>
        have hv' := hv
        cases hv
        exact ⟨_, rfl, ⟨_, _, _, _, true, rfl, .ty _, ty_of (.str b), kit_ty (by simp only [tyName]; decide +kernel), _, rfl, iteT ⟨_, rfl, ⟨_, _, _, _, true, rfl, .ty _, ty_of hv', kit_ty (by simp only [tyName]; decide +kernel), _, rfl, iteT ⟨_, rfl, _, rfl, rfl, (by simpa using k)⟩⟩⟩⟩⟩
      | lst s a => exact ⟨_, rfl, ⟨_, _, _, _, false, rfl, .ty _, ty_of (.lst s a), kit_ty (by simp only [tyName]; decide +kernel), _, rfl, iteF ⟨rfl, rfl, fun _ e => by cases e⟩⟩⟩
      | tup s a => exact ⟨_, rfl, ⟨_, _, _, _, false, rfl, .ty _, ty_of (.tup s a), kit_ty (by simp only [tyName]; decide +kernel), _, rfl, iteF ⟨rfl, rfl, fun _ e => by cases e⟩⟩⟩
    rintro σ4 H4 ⟨rfl, rfl, n4⟩
    -- a list or a tuple
    obtain ⟨p, q, xs, ys, ds, ev, eu, sx, sy, hx, hy, hl, hfw, hdp, hty⟩ : ∃ (p q : Addr) (xs ys : List V) (ds : List PyData), v = .ref p ∧ u = .ref q ∧ (SqL K H4 p xs ∨ SqT K H4 p xs) ∧ (SqL K H4 q ys ∨ SqT K H4 q ys) ∧ DpAll K H4 xs ds ∧ DpAll K H4 ys ds ∧ ds.length ≤ 1000 ∧ fewD.fewDs ds = true ∧ PyData.depthAll ds < n ∧ (tyName d = "list" ∨ tyName d = "tuple") := by
      cases hu with
      | non => exact absurd rfl n1
      | bl b => exact absurd rfl (n2 b)
      | int b => exact absurd rfl (n3 b)
      | str b => exact absurd rfl (n4 b)
      | lst s a =>
        cases hv with
        | lst s' a' =>
          rw [fewD, Bool.and_eq_true, decide_eq_true_eq] at hf
          rw [PyData.depth] at hd
          exact ⟨_, _, _, _, _, rfl, rfl, .inl s', .inl s, a', a, hf.1, hf.2, by omega, .inl rfl⟩
      | tup s a =>
        cases hv with
        | tup s' a' =>
          rw [fewD, Bool.and_eq_true, decide_eq_true_eq] at hf
          rw [PyData.depth] at hd
          exact ⟨_, _, _, _, _, rfl, rfl, .inr s', .inr s, a', a, hf.1, hf.2, by omega, .inr rfl⟩
    have lx := dpAll_len hx
    have ly := dpAll_len hy
    refine ⟨fun σ' H' => σ' = [some v, some u, none] ∧ H' = H4, ?_, ?_⟩
    · obtain ⟨b1, e1⟩ : ∃ b, kitB (tyName d) "list" = some b := by
        rcases hty with e | e <;> rw [e]
        · exact ⟨true, by decide +kernel⟩
        · exact ⟨false, by decide +kernel⟩
      obtain ⟨b2, e2⟩ : ∃ b, kitB (tyName d) "tuple" = some b := by
        rcases hty with e | e <;> rw [e]
        · exact ⟨false, by decide +kernel⟩
        · exact ⟨true, by decide +kernel⟩
      refine ⟨_, rfl, ⟨_, _, _, _, _, rfl, .ty _, ty_of hv, kit_ty e1, _, rfl, ⟨_, _, _, _, _, rfl, .ty _, ty_of hu, kit_ty e1, .bool b1, .bool b1, .bl _, .bl _, rfl, rfl, _, rfl, ?_⟩⟩⟩
      have d1 : (!PyData.eqv (.bool b1) (.bool b1)) = false := by cases b1 <;> decide +kernel
      rw [d1]
      refine iteF ⟨_, rfl, ⟨_, _, _, _, _, rfl, .ty _, ty_of hv, kit_ty e2, _, rfl, ⟨_, _, _, _, _, rfl, .ty _, ty_of hu, kit_ty e2, .bool b2, .bool b2, .bl _, .bl _, rfl, rfl, _, rfl, ?_⟩⟩⟩
      have d2 : (!PyData.eqv (.bool b2) (.bool b2)) = false := by cases b2 <;> decide +kernel
      rw [d2]
      exact iteF ⟨rfl, rfl⟩
    rintro σ5 H5 ⟨rfl, rfl⟩
    refine ⟨fun σ' H' => σ' = [some v, some u, none] ∧ H' = H5, ?_, ?_⟩
    · subst ev eu
      refine ⟨_, rfl, p, xs, rfl, sx, _, rfl, q, ys, rfl, sy, rfl, _, rfl, ?_⟩
      have d1 : (!decide (V.int (xs.length : Int) = V.int (ys.length : Int))) = false := by rw [lx, ly]; simp
      rw [d1]
      exact iteF ⟨rfl, rfl⟩
    rintro σ6 H6 ⟨rfl, rfl⟩
    subst ev eu
    refine ⟨_, rfl, q, ys, rfl, sy, (ys.length : Int), rfl, ?_, ?_, ?_⟩
    · exact Int.le_trans (by decide) (Int.natCast_nonneg _)
    · have : (ys.length : Int) ≤ 1000 := by rw [ly]; exact_mod_cast hl
      exact Int.lt_of_le_of_lt this (by decide)
    refine for_range (n := (ys.length : Int).toNat) (fun i σ' H' => ∃ w0, σ' = [some (.ref p), some (.ref q), w0] ∧ H' = H6) ⟨none, rfl, rfl⟩ ?_ ?_
    · rintro i σ' H' hi ⟨w0, rfl, rfl⟩
      have hi' : i < ds.length := by rw [← ly]; simpa using hi
      obtain ⟨e, he⟩ : ∃ e, ds[i]? = some e := ⟨ds[i], List.getElem?_eq_getElem hi'⟩
      obtain ⟨x, hxi, hxe⟩ := dpAll_get' hx he
      obtain ⟨y, hyi, hye⟩ := dpAll_get' hy he
      refine ⟨_, rfl, _, rfl, ?_⟩
      refine ix_any (K := K) sx (at_of (by simp) hxi) ?_
      refine ⟨_, rfl, _, rfl, ?_⟩
      refine ix_any (K := K) sy (at_of (by simp) hyi) ?_
      exact ⟨x, y, e, rfl, hxe, hye, few_at hfw he, Nat.lt_of_le_of_lt (depth_at he) hdp, _, rfl, iteF ⟨_, rfl, rfl⟩⟩
    · rintro σ' H' ⟨w0, rfl, rfl⟩
      exact k
theorem ok_law_alike0 (T : Tx K w mg Z) : FnOk P w K mg base CX0 1 Z.a_law_alike Z.d_law_alike P_law_alike (spAlike K 0) := by
  refine T.F_law_alike.ok sclaw_alike (fun vs H Q E h => ?_) (fun cdv A outer s H vs Q E hr h => ?_)
  · obtain ⟨v, u, d, rfl, _⟩ := h
    rfl
  · obtain ⟨v, u, d, rfl, hv, hu, hf, hd, k⟩ := h
    exact absurd hd (Nat.not_lt_zero _)
theorem ok_law_alike (T : Tx K w mg Z) : ∀ n, FnOk P w K mg base CX0 (n + 1) Z.a_law_alike Z.d_law_alike P_law_alike (spAlike K n)
  | 0 => ok_law_alike0 T
  | n + 1 => ok_law_alike_of T (ok_law_alike T n)
end
end KA
namespace KA
open PySem PySem.Spec PyProof.Rows L2 DP
/-! ### the hidden hand -/
theorem leads_shift {L x k : Int} (hL : 0 < L) (steps : List Pr) : leads L steps (x + k * L) = (leads L steps x).map (· + k * L) := by
  unfold leads
  rw [List.map_map]
  refine List.map_congr_left fun s _ => ?_
  show s.2 + (x + k * L - s.1) / L * L = s.2 + (x - s.1) / L * L + k * L
  have e : x + k * L - s.1 = (x - s.1) + k * L := by omega
  rw [e, Int.add_mul_ediv_right _ _ (by omega), Int.add_mul]
  omega
theorem max_shift {L x k m : Int} (hL : 0 < L) {steps : List Pr} (h : IsMaxL (leads L steps x) m) : IsMaxL (leads L steps (x + k * L)) (m + k * L) := by
  rw [leads_shift hL]
  refine ⟨List.mem_map.mpr ⟨m, h.1, rfl⟩, fun y hy => ?_⟩
  obtain ⟨z, hz, e⟩ := List.mem_map.mp hy
  have := h.2 z hz
  have e' : z + k * L = y := e
  omega
theorem max_mono {L x x' m m' : Int} (hL : 0 < L) {steps : List Pr} (hx : x ≤ x') (h : IsMaxL (leads L steps x) m) (h' : IsMaxL (leads L steps x') m') : m ≤ m' := by
  obtain ⟨s, hs, e⟩ := List.mem_map.mp h.1
  have h1 := h'.2 _ (List.mem_map.mpr ⟨s, hs, rfl⟩)
  have h2 : (x - s.1) / L ≤ (x' - s.1) / L := Int.ediv_le_ediv hL (by omega)
  have h3 := Int.mul_le_mul_of_nonneg_right h2 (Int.le_of_lt hL)
  omega
theorem max_one {l : List Int} {m m' : Int} (h : IsMaxL l m) (h' : IsMaxL l m') : m = m' := by
  have := h.2 _ h'.1
  have := h'.2 _ h.1
  omega
/-- what a true look says, wherever it stands -/
def Says (L : Int) (steps : List Pr) (l : Lk) : Prop := ∃ x k m, l.2.1 = x + k * L ∧ IsMaxL (leads L steps x) m ∧ (l.1 = "at" → l.2.2 = m + k * L) ∧ (l.1 = "from" → l.2.2 ≤ m + k * L) ∧ (l.1 = "upto" → m + k * L ≤ l.2.2)
theorem says_home {L : Int} {steps : List Pr} {l : Lk} (h : Says L steps l) : Says L steps (home L l) := by
  obtain ⟨x, k, m, h1, h2, h3, h4, h5⟩ := h
  refine ⟨x, k - l.2.1 / L, m, ?_, h2, fun e => ?_, fun e => ?_, fun e => ?_⟩
  · show l.2.1 - l.2.1 / L * L = x + (k - l.2.1 / L) * L
    rw [Int.sub_mul]; omega
  · have := h3 e
    show l.2.2 - l.2.1 / L * L = m + (k - l.2.1 / L) * L
    rw [Int.sub_mul]; omega
  · have := h4 e
    show l.2.2 - l.2.1 / L * L ≤ m + (k - l.2.1 / L) * L
    rw [Int.sub_mul]; omega
  · have := h5 e
    show m + (k - l.2.1 / L) * L ≤ l.2.2 - l.2.1 / L * L
    rw [Int.sub_mul]; omega
theorem no_far {L : Int} (hL : 0 < L) {steps : List Pr} {a b : Lk} (ha : Says L steps a) (hb : Says L steps b) : tooFar a b L = false := by
  unfold tooFar
  cases c1 : onSide "slow" a.1 with
  | false => rfl
  | true =>
    cases c2 : onSide "fast" b.1 with
    | false => rfl
    | true =>
      rw [Bool.true_and, Bool.true_and, decide_eq_false_iff_not, plc_slow]
      obtain ⟨x, k, m, h1, h2, h3, h4, h5⟩ := ha
      obtain ⟨x', k', m', h1', h2', h3', h4', h5'⟩ := hb
      have low : a.2.2 ≤ m + k * L := by
        rcases side_low c1 with e | e
        · exact Int.le_of_eq (h3 e)
        · exact h4 e
      have high : m' + k' * L ≤ b.2.2 := by
        rcases side_high c2 with e | e
        · exact Int.le_of_eq (h3' e).symm
        · exact h5' e
      have hj : (b.2.1 - a.2.1) / L * L ≤ b.2.1 - a.2.1 := by
        have := Int.mul_ediv_add_emod (b.2.1 - a.2.1) L
        have h0 := Int.emod_nonneg (b.2.1 - a.2.1) (show L ≠ 0 by omega)
        rw [Int.mul_comm] at this
        omega
      generalize (b.2.1 - a.2.1) / L = j at hj ⊢
      have hx : x + (k + j - k') * L ≤ x' := by
        rw [Int.sub_mul, Int.add_mul]; omega
      have := max_mono hL hx (max_shift hL h2) h2'
      rw [Int.sub_mul, Int.add_mul] at this
      omega
theorem no_clash {L : Int} (hL : 0 < L) {steps : List Pr} {a b : Lk} (ha : Says L steps a) (hb : Says L steps b) : clashB a b L = false := by
  unfold clashB
  rw [no_far hL ha hb, no_far hL hb ha]; rfl
theorem TrueLk.says {L : Int} {steps : List Pr} {l : Lk} (h : TrueLk L steps l) : Says L steps l := h.ex
/-! ### what a Dark tells and what the looks tell -/
/-- the best of the looks is the best of them brought home -/
def spMade (Z : Ad) (K : PySem.W.Frag) : Sp := fun vs H Q _ => ∃ (v : V) (L : Int) (ls : List Lk), vs = [.int L, v] ∧ Dp K H v (.list (ls.map encL)) ∧ 0 < L ∧ L.natAbs < 2 ^ 200 ∧ (∀ l ∈ ls, WordOk l.1 ∧ Sized 300 l) ∧ (∀ a ∈ ls, ∀ b ∈ ls, clashB a b L = false) ∧ ls.length ≤ 58 ∧
  ∀ (H' : Hp) (d : Addr), H d = none → Same H H' → DarkAt Z K H' d L (ls.foldl (heard L) []) → (∀ la dx, H' d = some (.ins Z.C dx (df L la)) → H la = none) → Q (.ref d) H'
def spSpot (K : PySem.W.Frag) : Sp := fun vs H Q _ => ∃ (t g p : Addr) (n : Nat) (L : Int) (ls : List Lk), vs = [.ref t, .int L, .ref p] ∧ Tray H t g n ∧ n < 2 ^ 44 ∧ 0 < L ∧ L ≤ 10 ^ 30 ∧ LAt K H p (ls.map encL) ∧ p ≠ t ∧ p ≠ g ∧ (∀ l ∈ ls, WordOk l.1 ∧ Sized 270 l) ∧ ls.length ≤ 100 ∧
  ∀ (H' : Hp) (r : Int), At H H' t g (n + 20) → r.natAbs < 2 ^ 280 → Q (.int r) H'
section
variable {P : Program} {w : World} {K : PySem.W.Frag} {mg : Str → Option Value} {base : Heap} {Z : Ad}
theorem ok_law_made (T : Tx K w mg Z) : FnOk P w K mg base CX0 6 Z.a_law_made Z.d_law_made P_law_made (spMade Z K) := by
  refine T.F_law_made.ok sclaw_made (fun vs H Q E h => ?_) (fun cdv A outer s H vs Q E hr h => ?_)
  · obtain ⟨v, L, ls, rfl, _⟩ := h
    rfl
  · obtain ⟨v, L, ls, rfl, hv, hL, hLb, htr, hnc, hlen, k⟩ := h
    obtain ⟨a, xs, rfl, ha, hd⟩ := dp_list hv
    have hxl : xs.length = ls.length := by rw [dpAll_len hd, List.length_map]
    refine ⟨_, (pss_cons (ps_set (i := 2) sclaw_made.nd rfl (Or.inl rfl) (pe_make T.mk_Dark (ok_Dark_init T) (hr.mono (by decide)) (by rfl) T.g_Dark T.bb_Dark_init .nil pass0 (pa_cons (pv 0) pa_nil)))
      (pss_cons (ps_for PassesOwn.never rfl (pi_list (pv 1)) (pg_name (i := 3) sclaw_made.nd rfl (Or.inl rfl)) (pss_one (ps_expr (pe_meth (pv 2) T.cl T.m_Dark_hear (ok_Dark_hear T) (hr.mono (by decide)) T.bb_Dark_hear .nil pass0 (pa_cons (pe_ix (ixT (K := K)) (pv 3) pe_int (fun _ _ => rfl)) (pa_cons (pe_ix (ixT (K := K)) (pv 3) pe_int (fun _ _ => rfl)) (pa_cons (pe_ix (ixT (K := K)) (pv 3) pe_int (fun _ _ => rfl)) pa_nil)))))))
      (pss_one (ps_ret (pv 2))))), ?_⟩
    refine ⟨_, rfl, fun d dx hdn hdx hne => ?_⟩
    have S0 : Same H (upd (upd H dx (.own d)) d (.ins Z.C dx [])) := fun b o e => by
      rw [upd_ne (ne_of_none e hdn), upd_ne (ne_of_none e hdx)]; exact e
    refine ⟨d, dx, L, rfl, upd_same, hL, hLb, fun H1 D1 f1 k1 => ⟨rfl, ?_⟩⟩
    have S1 : Same H H1 := fun b o e => k1 b o (S0 b o e) (ne_of_none e hdn)
    refine ⟨_, rfl, a, rfl, ⟨_, Same.sqL S1 ha⟩, ?_⟩
    refine for_list (K := K) (a := a) (xs := xs) (fun i σ' H' => ∃ u, σ' = [some (.int L), some (.ref a), some (.ref d), u] ∧ Same H H' ∧ DarkAt Z K H' d L ((ls.take i).foldl (heard L) []) ∧ ∀ la dx, H' d = some (.ins Z.C dx (df L la)) → H la = none) ⟨none, rfl, S1, D1, fun la dx e => S0.free (f1 la dx e)⟩ (fun i σ' H' _ ⟨_, _, S, _⟩ => Same.sqL S ha) ?_ ?_
    · rintro i y σ' H' hi ⟨u, rfl, S, D, F⟩
      obtain ⟨e, hdi, hdy⟩ := dpAll_get hd hi
      obtain ⟨l, hl, rfl⟩ := map_at hdi
      have hlm := List.mem_of_getElem? hl
      have hi' : i < ls.length := (List.getElem?_eq_some_iff.mp hl).1
      obtain ⟨p, rfl, hp⟩ := dp_look (dp_mono S _ _ hdy)
      obtain ⟨dx', la, vs, g1, g2, g3⟩ := id D.ex
      have hfl := fold_len (L := L) (ls.take i) []
      refine ⟨_, rfl, d, dx', _, rfl, g1, df_no _ _ (by decide +kernel) (by decide +kernel), ?_⟩
      refine ⟨_, rfl, _, _, _, _, rfl, rfl, hp, rfl, _, rfl, _, _, _, _, rfl, rfl, hp, rfl, _, rfl, _, _, _, _, rfl, rfl, hp, rfl, ?_⟩
      refine ⟨d, L, _, l, rfl, D, (htr l hlm).1, (htr l hlm).2, ?_, fun o ho => ?_, fun H2 D2 f2 k2 => ?_⟩
      · rw [List.length_take] at hfl; simp at hfl; omega
      · obtain h | ⟨q, hq, e⟩ := (fold_mem _ _ _).mp ho
        · cases h
        · rw [e]
          rw [clash_home hL]
          exact hnc l hlm q (List.mem_of_mem_take hq)
      · refine ⟨_, rfl, fun b o e => k2 b o (S b o e) (ne_of_none e hdn), ?_⟩
        rw [take_snoc hl, List.foldl_append]
        refine ⟨D2, fun la dx e => ?_⟩
        rcases f2 la dx e with ⟨dx', h⟩ | h
        · exact F la dx' h
        · exact S.free h
    · rintro σ' H' ⟨u, rfl, S, D, F⟩
      rw [List.take_of_length_le (by rw [hxl]; exact Nat.le_refl _)] at D
      exact ⟨_, rfl, k H' d hdn S D F⟩
theorem ok_law_spot (T : Tx K w mg Z) : FnOk P w K mg base CX0 3 Z.a_law_spot Z.d_law_spot P_law_spot (spSpot K) := by
  refine T.F_law_spot.ok sclaw_spot (fun vs H Q E h => ?_) (fun cdv A outer s H vs Q E hr h => ?_)
  · obtain ⟨t, g, p, n, L, ls, rfl, _⟩ := h
    rfl
  · obtain ⟨t, g, p, n, L, ls, rfl, hT, hn, hL, hL30, hp, hpt, hpg, hok, hlen, k⟩ := h
    have hLb := bigL hL hL30
    have hb : ∀ m, m ≤ n + 30 → m < 2 ^ 49 := fun m hm => Nat.lt_of_le_of_lt hm (Nat.lt_of_lt_of_le (Nat.add_lt_add_right hn 30) (by decide))
    have hb' : ∀ m, m ≤ n + 30 → m < 2 ^ 60 := fun m hm => Nat.lt_trans (hb m hm) (by decide)
    have A0 : At H H t g n := ⟨hT, Keep.refl _ _ _⟩
    have nl := noLs_map noL_encL ls
    refine ⟨_, (pss_cons (ps_set (i := 3) sclaw_spot.nd rfl (Or.inl rfl) (pe_call (ok_law_draw T) (hr.mono (by decide)) (by rfl) T.g_law_draw T.F_law_draw.kp T.bb_law_draw .nil pass0 (pa_cons (pv 0) (pa_cons pe_int pa_nil))))
      (pss_cons (ps_set (i := 4) sclaw_spot.nd rfl (Or.inl rfl) (pe_call (ok_law_draw T) (hr.mono (by decide)) (by rfl) T.g_law_draw T.F_law_draw.kp T.bb_law_draw .nil pass0 (pa_cons (pv 0) (pa_cons (pv 1) pa_nil))))
      (C8.pss_cut (ps_if (PW.pt (pw_and (pt_cmpR (neDK (K := K) hr.units) (pv 2) (pe_lst pa_nil) (nomark _)) (pw_and1 (pt_cmpR op_lt (pv 3) pe_int (nomark _))))) (pss_one (ps_set (i := 4) sclaw_spot.nd rfl (Or.inl rfl) (pe_op op_add (pe_ix (ixT (K := K)) (pe_ix (ixL (K := K)) (pv 2) (pe_call (ok_law_draw T) (hr.mono (by decide)) (by rfl) T.g_law_draw T.F_law_draw.kp T.bb_law_draw .nil pass0 (pa_cons (pv 0) (pa_cons (pe_callB (lenK (K := K)) (by rfl) T.b_len (by decide +kernel) (pa_cons (pv 2) pa_nil)) pa_nil))) (fun _ _ => rfl)) pe_int (fun _ _ => rfl)) (pe_ix (ixL (K := K)) (pe_lst (pa_cons pe_int (pa_cons pe_int (pa_cons (pe_un un_neg pe_int) pa_nil)))) (pv 3) (fun _ _ => rfl))))) pss_nil)
      (pss_one (ps_ret (pe_op op_add (pv 4) (pe_op op_mulW (pe_ix (ixL (K := K)) (pe_lst (pa_cons pe_int (pa_cons (pe_op op_sub (pe_call (ok_law_draw T) (hr.mono (by decide)) (by rfl) T.g_law_draw T.F_law_draw.kp T.bb_law_draw .nil pass0 (pa_cons (pv 0) (pa_cons pe_int pa_nil))) pe_int) (pa_cons (pe_op op_fdivW (pe_call (ok_law_great T) (hr.mono (by decide)) (by rfl) T.g_law_great T.F_law_great.kp T.bb_law_great .nil pass0 (pa_cons (pv 0) pa_nil)) (pe_op op_pow pe_int pe_int)) pa_nil)))) (pe_call (ok_law_draw T) (hr.mono (by decide)) (by rfl) T.g_law_draw T.F_law_draw.kp T.bb_law_draw .nil pass0 (pa_cons (pv 0) (pa_cons pe_int pa_nil))) (fun _ _ => rfl)) (pv 1)))))))), ?_⟩
    refine ⟨_, rfl, t, g, n, 4, rfl, hT, by decide, by decide, hb' _ (by omega), fun H1 lot l0 l1 T1 k1 => ?_⟩
    have A1 := A0.step T1 k1
    refine ⟨_, rfl, _, rfl, t, g, n + 1, L, rfl, T1, hL, lt_up hLb (by decide), hb' _ (by omega), fun H2 s0 s1 s2 T2 k2 => ?_⟩
    have A2 := A1.step T2 k2
    have hp2 := (hp.keep hT k1 hpt hpg nl).keep T1 k2 hpt hpg nl
    have hs0 : s0.natAbs < 2 ^ 275 := small_nat s1 (Int.le_of_lt s2) (lt_up hLb (by decide))
    refine ⟨fun σ' H' => ∃ x : Int, σ' = [some (.ref t), some (.int L), some (.ref p), some (.int lot), some (.int x)] ∧ x.natAbs < 2 ^ 275 ∧ At H H' t g (n + 4), ?_, ?_⟩
    · obtain ⟨vs2, hv1, hv2⟩ := id hp2
      refine ⟨_, rfl, (by show 0 ≤ sizeLine; decide), fun q hq => ?_⟩
      have S3 := same_upd (o := HO.lst []) hq
      have A3 := A2.new (o := HO.lst []) hq
      have hp3 := hp2.same S3
      refine ⟨_, _, hp3.dp, .lst (SqL.of upd_same) .nil, shaped_looks fun l hl => (hok l hl).1, rfl, _, rfl, ?_⟩
      cases ls with
      | nil => exact iteF (iteF ⟨s0, rfl, hs0, A3.up (by omega)⟩)
      | cons l1' lr =>
        refine iteT ⟨_, rfl, _, _, rfl, rfl, _, rfl, ?_⟩
        refine ite2 (fun c => ?_) (fun _ => ⟨s0, rfl, hs0, A3.up (by omega)⟩)
        have c' := of_decide_eq_true c
        obtain ⟨vs3, hw1, hw2⟩ := id hp3
        have hvl : vs3.length = (l1' :: lr).length := by rw [dpAll_len hw2, List.length_map]
        have hpos : 0 < vs3.length := by rw [hvl]; simp
        refine ⟨_, rfl, _, rfl, _, rfl, p, vs3, rfl, .inl (SqL.of hw1), t, g, n + 2, (vs3.length : Int), rfl, A3.T, by omega, Nat.lt_of_le_of_lt (by rw [hvl]; exact hlen : vs3.length ≤ 100) (by decide), hb' _ (by omega), fun H4 i0 i1 i2 T4 k4 => ?_⟩
        have A4 := A3.step T4 k4
        obtain ⟨vs4, hx1, hx2⟩ := hp3.keep A3.T k4 hpt hpg nl
        have hi : i0.toNat < (l1' :: lr).length := by rw [← hvl]; omega
        obtain ⟨l, hl⟩ : ∃ l, (l1' :: lr)[i0.toNat]? = some l := ⟨_, List.getElem?_eq_getElem hi⟩
        obtain ⟨v0, hv0, hd0⟩ := dpAll_get' hx2 (show ((l1' :: lr).map encL)[i0.toNat]? = some (encL l) by rw [List.getElem?_map, hl]; rfl)
        obtain ⟨a0, rfl, hq0⟩ := dp_look hd0
        refine ⟨p, vs4, _, _, rfl, rfl, SqL.of hx1, at_of (j := i0.toNat) (by omega) hv0, a0, _, _, _, rfl, rfl, hq0, rfl, ?_⟩
        refine ⟨_, rfl, (by show 3 ≤ sizeLine; decide), fun q2 hq2 => ?_⟩
        have hlot : ∃ j : Int, atI [V.int 0, .int 1, .int (-1)] lot = some (.int j) ∧ j.natAbs < 2 ^ 2 := by
          have : lot = 0 ∨ lot = 1 ∨ lot = 2 := by omega
          rcases this with e | e | e <;> subst e
          · exact ⟨0, rfl, by decide⟩
          · exact ⟨1, rfl, by decide⟩
          · exact ⟨-1, rfl, by decide⟩
        obtain ⟨j, hj, hjb⟩ := hlot
        refine ⟨_, rfl, q2, _, _, _, rfl, rfl, SqL.of upd_same, hj, _, _, rfl, rfl, ?_⟩
        exact ⟨_, rfl, lt_up (add_lt (hok l (List.mem_of_getElem? hl)).2.1 (lt_up hjb (by decide))) (by decide), (A4.new hq2).up (by omega)⟩
    · rintro σ' H3 ⟨x, rfl, hx, A3⟩
      refine ⟨_, rfl, _, rfl, t, g, n + 4, 5, rfl, A3.T, by decide, by decide, hb' _ (by omega), fun H4 f0 f1 f2 T4 k4 => ?_⟩
      have A4 := A3.step T4 k4
      refine ⟨_, _, rfl, rfl, _, rfl, t, g, n + 5, rfl, T4, Nat.lt_trans (hb _ (by omega)) (by decide), fun H5 g0 g1 g2 T5 k5 => ?_⟩
      have A5 := A4.step T5 k5
      refine ⟨_, _, rfl, rfl, ⟨by decide, by decide, by decide⟩, _, _, rfl, rfl, wide_div (b := 110) (by decide) (by decide) (by decide) (by decide), (by show 3 ≤ sizeLine; decide), fun q4 hq4 => ?_⟩
      obtain ⟨q4t, q4g⟩ := T5.at_ne hq4
      have A6 := A5.new (o := HO.lst [V.int 0, .int (f0 - 2), .int (g0 / 10 ^ (31 : Int).toNat)]) hq4
      refine ⟨_, rfl, t, g, n + 9, 3, rfl, A6.T, by decide, by decide, hb' _ (by omega), fun H7 h0 h1 h2 T7 k7 => ?_⟩
      have A7 := A6.step T7 k7
      have hturn : ∃ kk : Int, atI [V.int 0, .int (f0 - 2), .int (g0 / 10 ^ (31 : Int).toNat)] h0 = some (.int kk) ∧ kk.natAbs < 2 ^ 169 := by
        have c1 : (f0 - 2).natAbs < 2 ^ 169 := Nat.lt_of_le_of_lt (by omega : (f0 - 2).natAbs ≤ 7) (by decide)
        have c2 : (g0 / 10 ^ (31 : Int).toNat).natAbs < 2 ^ 169 := by
          have h1 : g0 / 10 ^ (31 : Int).toNat ≤ 10 ^ 59 / 10 ^ (31 : Int).toNat := Int.ediv_le_ediv (by decide) (Int.le_of_lt g2)
          have h0 : 0 ≤ g0 / 10 ^ (31 : Int).toNat := Int.ediv_nonneg g1 (by decide)
          exact small_nat h0 h1 (by decide)
        have : h0 = 0 ∨ h0 = 1 ∨ h0 = 2 := by omega
        rcases this with e | e | e <;> subst e
        · exact ⟨0, rfl, by decide⟩
        · exact ⟨_, rfl, c1⟩
        · exact ⟨_, rfl, c2⟩
      obtain ⟨kk, hkk, hkb⟩ := hturn
      refine ⟨q4, _, _, _, rfl, rfl, SqL.of (k7 _ _ upd_same q4t q4g), hkk, _, rfl, _, _, rfl, rfl, wide_mul hkb hLb (by decide) (by decide) (by decide), _, _, rfl, rfl, ?_⟩
      exact k _ _ (A7.up (by omega)) (lt_up (add_lt hx (lt_up (wide_lt hkb hLb) (by decide))) (by decide))
end
end KA
namespace KA
open PySem PySem.Spec PyProof.Rows L2 DP
theorem At.sm {H H1 H2 : Hp} {t g : Addr} {m : Nat} (a : At H H1 t g m) (S : Same H1 H2) : At H H2 t g m := ⟨a.T.same S, a.k.trans (Keep.of_same S)⟩
theorem dp_two {K : PySem.W.Frag} {H : Hp} {q : Addr} {a b : Int} (h : H q = some (.tup [.int a, .int b])) : Dp K H (.ref q) (encP (a, b)) := .tup (SqT.of h) (.cons (.int _) (.cons (.int _) .nil))
end KA
namespace KA
open PySem PySem.Spec PyProof.Rows L2 DP
/-- a Dark's list of looks is not the deck -/
def Off (Z : Ad) (H : Hp) (d : Addr) (L : Int) (t g : Addr) : Prop := ∀ la dx, H d = some (.ins Z.C dx (df L la)) → la ≠ t ∧ la ≠ g
theorem DarkAt.keep {Z : Ad} {K : PySem.W.Frag} {H H' : Hp} {t g d : Addr} {n : Nat} {L : Int} {ls : List Lk} (D : DarkAt Z K H d L ls) (T : Tray H t g n) (k : Keep t g H H') (hla : Off Z H d L t g) : DarkAt Z K H' d L ls ∧ Off Z H' d L t g := by
  obtain ⟨dx, la, vs, h1, h2, h3⟩ := D.ex
  obtain ⟨a1, a2⟩ := hla la dx h1
  have hd : d ≠ t ∧ d ≠ g := by
    obtain ⟨⟨gs, l0, f, c, e1, e2, r⟩, hne⟩ := T
    refine ⟨?_, ?_⟩ <;> rintro rfl
    · rw [h1] at e1; cases e1
    · rw [h1] at e2; cases e2
  have h1' := k _ _ h1 hd.1 hd.2
  refine ⟨⟨⟨dx, la, vs, h1', k _ _ h2 a1 a2, dpAll_tups (Keep.tups T k) _ _ (noLs_map noL_encL ls) h3⟩, D.pos, D.big, D.ok, D.len⟩, fun la' dx' e => ?_⟩
  rw [h1'] at e
  rw [← df_inj e]
  exact ⟨a1, a2⟩
theorem Off.same {Z : Ad} {K : PySem.W.Frag} {H H' : Hp} {d t g : Addr} {L : Int} {ls : List Lk} (O : Off Z H d L t g) (D : DarkAt Z K H d L ls) (S : Same H H') : Off Z H' d L t g := fun la dx e => by
  obtain ⟨dx', la', _, h1, _⟩ := D.ex
  have e2 := S _ _ h1
  rw [e] at e2
  rw [df_inj e2]
  exact O la' dx' h1
end KA
namespace KA
open PySem PySem.Spec PyProof.Rows L2 DP
/-- several Darks -/
def DarksAt (Z : Ad) (K : PySem.W.Frag) (H : Hp) (ds : List Addr) (L : Int) (hs : List (List Lk)) (t g : Addr) : Prop := Darks Z K H ds L hs ∧ ∀ d ∈ ds, Off Z H d L t g
theorem DarksAt.keep {Z : Ad} {K : PySem.W.Frag} {H H' : Hp} {t g : Addr} {ds : List Addr} {n : Nat} {L : Int} {hs : List (List Lk)} (D : DarksAt Z K H ds L hs t g) (T : Tray H t g n) (k : Keep t g H H') : DarksAt Z K H' ds L hs t g :=
  ⟨⟨D.1.1, fun i d ls h1 h2 => ((D.1.2 i d ls h1 h2).keep T k (D.2 d (List.mem_of_getElem? h1))).1⟩, fun d hd => by
    obtain ⟨i, hi, rfl⟩ := List.getElem_of_mem hd
    obtain ⟨ls, _, DD⟩ := D.1.get (List.getElem?_eq_getElem hi)
    exact (DD.keep T k (D.2 _ hd)).2⟩
theorem DarksAt.same {Z : Ad} {K : PySem.W.Frag} {H H' : Hp} {t g : Addr} {ds : List Addr} {L : Int} {hs : List (List Lk)} (D : DarksAt Z K H ds L hs t g) (S : Same H H') : DarksAt Z K H' ds L hs t g :=
  ⟨D.1.same S, fun d hd => by
    obtain ⟨i, hi, rfl⟩ := List.getElem_of_mem hd
    obtain ⟨ls, _, DD⟩ := D.1.get (List.getElem?_eq_getElem hi)
    exact (D.2 _ hd).same DD S⟩
theorem DarksAt.acc {Z : Ad} {K : PySem.W.Frag} {H : Hp} {t g D : Addr} {ds : List Addr} {L : Int} {hs : List (List Lk)} {xs : List V} {o : HO} (h : DarksAt Z K H ds L hs t g) (hD : H D = some (.lst xs)) (hne : ∀ d ∈ ds, ∀ la dx, H d = some (.ins Z.C dx (df L la)) → la ≠ D) : DarksAt Z K (upd H D o) ds L hs t g ∧ ∀ d ∈ ds, ∀ la dx, (upd H D o) d = some (.ins Z.C dx (df L la)) → la ≠ D := by
  have hdD : ∀ d ∈ ds, d ≠ D := fun d hd e => by
    obtain ⟨i, hi, e1⟩ := List.getElem_of_mem hd
    obtain ⟨ls, _, DD⟩ := h.1.get (show ds[i]? = some d by rw [List.getElem?_eq_getElem hi, e1])
    obtain ⟨dx', la', _, h1, _⟩ := DD.ex
    rw [e, hD] at h1; cases h1
  refine ⟨⟨⟨h.1.1, fun i d ls h1 h2 => ?_⟩, fun d hd la dx e => ?_⟩, fun d hd la dx e => ?_⟩
  · have DD := h.1.2 i d ls h1 h2
    have hm := List.mem_of_getElem? h1
    obtain ⟨dx, la, vs, e1, e2, e3⟩ := DD.ex
    exact ⟨⟨dx, la, vs, (upd_ne (hdD d hm)).trans e1, (upd_ne (hne d hm la dx e1)).trans e2, dpAll_tups (Tups.upd_lst hD) _ _ (noLs_map noL_encL ls) e3⟩, DD.pos, DD.big, DD.ok, DD.len⟩
  · rw [upd_ne (hdD d hd)] at e
    exact h.2 d hd la dx e
  · rw [upd_ne (hdD d hd)] at e
    exact hne d hd la dx e
theorem cut_take {xs : List V} {k : Nat} : cutV xs none (some (k : Int)) = xs.take k := by
  unfold cutV
  rw [HT.sIx_none, HT.sIx_nat, List.drop_zero, Nat.sub_zero, List.take_eq_take_iff]
  omega
def dO : Option Int → PyData
  | none => .none
  | some i => .int i
theorem dp_oV {K : PySem.W.Frag} {H : Hp} : ∀ o, Dp K H (oV o) (dO o)
  | none => .non
  | some i => .int i
theorem shaped_dO : ∀ o, SeqAt.shaped (dO o) = true
  | none => rfl
  | some i => rfl
theorem eqv_dO (o : Option Int) : PyData.eqv (dO o) (dO o) = true := by
  cases o <;> simp [dO, PyData.eqv]
/-- lists of looks, not the deck -/
def LotsAt (K : PySem.W.Frag) (H : Hp) (as : List Addr) (lots : List (List Lk)) (t g : Addr) : Prop := Lots K H as lots ∧ ∀ a ∈ as, a ≠ t ∧ a ≠ g
theorem LotsAt.keep {K : PySem.W.Frag} {H H' : Hp} {t g : Addr} {as : List Addr} {n : Nat} {lots : List (List Lk)} (D : LotsAt K H as lots t g) (T : Tray H t g n) (k : Keep t g H H') : LotsAt K H' as lots t g :=
  ⟨D.1.to (Keep.tups T k) fun a ha o e => k _ _ e (D.2 a ha).1 (D.2 a ha).2, D.2⟩
theorem LotsAt.same {K : PySem.W.Frag} {H H' : Hp} {t g : Addr} {as : List Addr} {lots : List (List Lk)} (D : LotsAt K H as lots t g) (S : Same H H') : LotsAt K H' as lots t g := ⟨D.1.same S, D.2⟩
theorem LotsAt.acc {K : PySem.W.Frag} {H : Hp} {t g F : Addr} {as : List Addr} {lots : List (List Lk)} {xs : List V} {o : HO} (D : LotsAt K H as lots t g) (hF : H F = some (.lst xs)) (hne : ∀ a ∈ as, a ≠ F) : LotsAt K (upd H F o) as lots t g :=
  ⟨D.1.to (Tups.upd_lst hF) fun a ha o e => (upd_ne (hne a ha)).trans e, D.2⟩
theorem at_set {α : Type} {l : List α} {i j : Nat} {a x : α} (h : (l.set j a)[i]? = some x) : (i = j ∧ x = a ∧ j < l.length) ∨ (i ≠ j ∧ l[i]? = some x) := by
  rw [List.getElem?_set] at h
  by_cases e : j = i
  · rw [if_pos e] at h
    split at h
    · refine .inl ⟨e.symm, (Option.some.inj h).symm, by assumption⟩
    · cases h
  · rw [if_neg e] at h
    exact .inr ⟨fun q => e q.symm, h⟩
theorem LotsAt.set {K : PySem.W.Frag} {H : Hp} {t g a : Addr} {as : List Addr} {lots : List (List Lk)} {ls : List Lk} (D : LotsAt K H as lots t g) {i j : Nat} (h1 : as[i]? = some a) (h2 : lots[i]? = some ls) : LotsAt K H (as.set j a) (lots.set j ls) t g := by
  refine ⟨⟨by rw [List.length_set, List.length_set]; exact D.1.1, fun i' b l e1 e2 => ?_⟩, fun b hb => ?_⟩
  · rcases at_set e1 with ⟨q1, q2, _⟩ | ⟨q1, q2⟩
    · rcases at_set e2 with ⟨p1, p2, _⟩ | ⟨p1, p2⟩
      · rw [q2, p2]; exact D.1.2 i a ls h1 h2
      · exact absurd q1 p1
    · rcases at_set e2 with ⟨p1, p2, _⟩ | ⟨p1, p2⟩
      · exact absurd p1 q1
      · exact D.1.2 i' b l q2 p2
  · rcases List.mem_or_eq_of_mem_set hb with h | h
    · exact D.2 b h
    · rw [h]; exact D.2 a (List.mem_of_getElem? h1)
theorem DarksAt.set {Z : Ad} {K : PySem.W.Frag} {H : Hp} {t g d : Addr} {ds : List Addr} {L : Int} {hs : List (List Lk)} {ls : List Lk} (D : DarksAt Z K H ds L hs t g) {i j : Nat} (h1 : ds[i]? = some d) (h2 : hs[i]? = some ls) : DarksAt Z K H (ds.set j d) L (hs.set j ls) t g := by
  refine ⟨⟨by rw [List.length_set, List.length_set]; exact D.1.1, fun i' b l e1 e2 => ?_⟩, fun b hb => ?_⟩
  · rcases at_set e1 with ⟨q1, q2, _⟩ | ⟨q1, q2⟩
    · rcases at_set e2 with ⟨p1, p2, _⟩ | ⟨p1, p2⟩
      · rw [q2, p2]; exact D.1.2 i d ls h1 h2
      · exact absurd q1 p1
    · rcases at_set e2 with ⟨p1, p2, _⟩ | ⟨p1, p2⟩
      · exact absurd p1 q1
      · exact D.1.2 i' b l q2 p2
  · rcases List.mem_or_eq_of_mem_set hb with h | h
    · exact D.2 b h
    · rw [h]; exact D.2 d (List.mem_of_getElem? h1)
theorem DarksAt.snoc {Z : Ad} {K : PySem.W.Frag} {H : Hp} {t g d : Addr} {ds : List Addr} {L : Int} {hs : List (List Lk)} {ls : List Lk} (D : DarksAt Z K H ds L hs t g) (h : DarkAt Z K H d L ls) (o : Off Z H d L t g) : DarksAt Z K H (ds ++ [d]) L (hs ++ [ls]) t g := by
  have hl := D.1.1
  refine ⟨⟨by simp [hl], fun i b l h1 h2 => ?_⟩, fun b hb => ?_⟩
  · by_cases hi : i < ds.length
    · rw [List.getElem?_append_left hi] at h1
      rw [List.getElem?_append_left (by omega)] at h2
      exact D.1.2 i b l h1 h2
    · have h3 := (List.getElem?_eq_some_iff.mp h1).1
      rw [List.length_append, List.length_singleton] at h3
      have e : i = ds.length := by omega
      subst e
      rw [List.getElem?_append_right (Nat.le_refl _), Nat.sub_self] at h1
      rw [List.getElem?_append_right (by omega), hl, Nat.sub_self] at h2
      have e1 : d = b := Option.some.inj h1
      have e2 : ls = l := Option.some.inj h2
      subst e1 e2
      exact h
  · rcases List.mem_append.mp hb with h' | h'
    · exact D.2 b h'
    · rw [List.mem_singleton] at h'; subst h'; exact o
theorem LotsAt.snoc {K : PySem.W.Frag} {H : Hp} {t g a : Addr} {as : List Addr} {lots : List (List Lk)} {ls : List Lk} (D : LotsAt K H as lots t g) (h : LkAt K H a ls) (o : a ≠ t ∧ a ≠ g) : LotsAt K H (as ++ [a]) (lots ++ [ls]) t g := ⟨D.1.snoc h, fun b hb => by
  rcases List.mem_append.mp hb with h' | h'
  · exact D.2 b h'
  · rw [List.mem_singleton] at h'; subst h'; exact o⟩
theorem refs_set (as : List Addr) (j : Nat) (a : Addr) : (refs as).set j (.ref a) = refs (as.set j a) := by
  unfold refs; rw [List.map_set]
theorem atI_refs {as : List Addr} {i : Nat} {j : Int} {a : Addr} (e : j = (i : Int)) (h : as[i]? = some a) : atI (refs as) j = some (.ref a) := by
  refine at_of (j := i) e ?_
  show (as.map V.ref)[i]? = _
  rw [List.getElem?_map, h]; rfl
theorem ixN_last {n : Nat} (h : 0 < n) : ixN n (-1) = some (n - 1) := by
  unfold ixN
  rw [if_neg (by decide), if_pos (by omega)]
  congr 1
  omega
theorem cut_from {xs : List V} {k : Nat} : cutV xs (some (k : Int)) none = xs.drop k := by
  unfold cutV
  rw [HT.sIx_none, HT.sIx_nat]
  by_cases h : k ≤ xs.length
  · rw [show min k xs.length = k by omega, List.take_of_length_le (by rw [List.length_drop]; exact Nat.le_refl _)]
  · rw [show min k xs.length = xs.length by omega, Nat.sub_self, List.take_zero, List.drop_eq_nil_of_le (by omega)]
theorem ixN_nat {n k : Nat} (h : k < n) : ixN n (k : Int) = some k := by
  unfold ixN
  rw [if_pos (by omega), if_pos (by omega)]; rfl
theorem Off.none {Z : Ad} {K : PySem.W.Frag} {H : Hp} {d x : Addr} {L : Int} {ls : List Lk} (D : DarkAt Z K H d L ls) (hx : H x = none) : Off Z H d L x x := fun la dx e => by
  obtain ⟨dx', la', vs, h1, h2, _⟩ := D.ex
  rw [h1] at e
  rw [← df_inj e]
  exact ⟨ne_of_none h2 hx, ne_of_none h2 hx⟩
/-- a list of Darks at D, D none of their parts -/
structure Row (Z : Ad) (K : PySem.W.Frag) (H : Hp) (t g D : Addr) (ds : List Addr) (L : Int) (hs : List (List Lk)) : Prop where
  l : H D = some (.lst (refs ds))
  dk : DarksAt Z K H ds L hs t g
  off : ∀ d ∈ ds, Off Z H d L D D
section
variable {Z : Ad} {K : PySem.W.Frag} {H H' H1 : Hp} {t g D d : Addr} {ds : List Addr} {L : Int} {hs : List (List Lk)} {ls : List Lk} {n : Nat}
theorem Row.new (L : Int) (hD : H D = none) : Row Z K (upd H D (.lst [])) t g D [] L [] := ⟨upd_same, ⟨⟨rfl, fun _ _ _ z => by simp at z⟩, fun _ z => by cases z⟩, fun _ z => by cases z⟩
theorem Darks.mem (D : Darks Z K H ds L hs) (h : d ∈ ds) : ∃ ls, DarkAt Z K H d L ls := by
  obtain ⟨i, hi, e⟩ := List.getElem_of_mem h
  obtain ⟨ls, _, DD⟩ := D.get (show ds[i]? = some d by rw [List.getElem?_eq_getElem hi, e])
  exact ⟨ls, DD⟩
theorem Row.same (R : Row Z K H t g D ds L hs) (S : Same H H') : Row Z K H' t g D ds L hs := ⟨S _ _ R.l, R.dk.same S, fun d hd => by
  obtain ⟨ls, DD⟩ := R.dk.1.mem hd
  exact (R.off d hd).same DD S⟩
theorem Off.keep {x : Addr} (O : Off Z H d L x x) (DD : DarkAt Z K H d L ls) (T : Tray H t g n) (k : Keep t g H H') : Off Z H' d L x x := fun la dx e => by
  obtain ⟨dx', la', vs, h1, _⟩ := DD.ex
  have hd : d ≠ t ∧ d ≠ g := by
    obtain ⟨⟨gs, l0, f, c, e1, e2, r⟩, hne⟩ := T
    refine ⟨?_, ?_⟩ <;> rintro rfl
    · rw [h1] at e1; cases e1
    · rw [h1] at e2; cases e2
  rw [k _ _ h1 hd.1 hd.2] at e
  rw [← df_inj e]
  exact O la' dx' h1
theorem Row.keep (R : Row Z K H t g D ds L hs) (T : Tray H t g n) (k : Keep t g H H') (h1 : D ≠ t) (h2 : D ≠ g) : Row Z K H' t g D ds L hs := ⟨k _ _ R.l h1 h2, R.dk.keep T k, fun d hd => by
  obtain ⟨ls, DD⟩ := R.dk.1.mem hd
  exact (R.off d hd).keep DD T k⟩
theorem Row.step (R : Row Z K H t g D ds L hs) (T : Tray H t g n) (S : Same H H1) (DD : DarkAt Z K H1 d L ls) (F : ∀ la dx, H1 d = some (.ins Z.C dx (df L la)) → H la = none) : Row Z K (upd H1 D (.lst (refs ds ++ [V.ref d]))) t g D (ds ++ [d]) L (hs ++ [ls]) := by
  have R1 := R.same S
  have o1 : Off Z H1 d L t g := fun la dx e => T.at_ne (F la dx e)
  have o2 : Off Z H1 d L D D := fun la dx e => by
    have := ne_of_none R.l (F la dx e)
    exact ⟨Ne.symm this, Ne.symm this⟩
  have dk := R1.dk.snoc DD o1
  have off : ∀ d' ∈ ds ++ [d], Off Z H1 d' L D D := fun d' hd => by
    rcases List.mem_append.mp hd with h | h
    · exact R1.off d' h
    · rw [List.mem_singleton] at h; subst h; exact o2
  refine ⟨by rw [upd_same]; simp [refs], (dk.acc R1.l fun d' hd la dx e => (off d' hd la dx e).1).1, fun d' hd la dx e => ?_⟩
  have hne : d' ≠ D := fun q => by rw [q, upd_same] at e; cases e
  rw [upd_ne hne] at e
  exact off d' hd la dx e
theorem Row.of (dk : DarksAt Z K H ds L hs t g) (hD : H D = none) : Row Z K (upd H D (.lst (refs ds))) t g D ds L hs := ⟨upd_same, dk.same (same_upd hD), fun d hd => by
  obtain ⟨ls, DD⟩ := dk.1.mem hd
  exact (Off.none DD hD).same DD (same_upd hD)⟩
theorem Darks.set1 (Dk : Darks Z K H ds L hs) (DD : DarkAt Z K H d L ls) (k : Nat) : Darks Z K H (ds.set k d) L (hs.set k ls) := by
  refine ⟨by rw [List.length_set, List.length_set]; exact Dk.1, fun i b l e1 e2 => ?_⟩
  rcases at_set e1 with ⟨q1, q2, _⟩ | ⟨q1, q2⟩
  · rcases at_set e2 with ⟨p1, p2, _⟩ | ⟨p1, p2⟩
    · rw [q2, p2]; exact DD
    · exact absurd q1 p1
  · rcases at_set e2 with ⟨p1, p2, _⟩ | ⟨p1, p2⟩
    · exact absurd p1 q1
    · exact Dk.2 i b l q2 p2
theorem Row.set (R : Row Z K H t g D ds L hs) (T : Tray H t g n) (S : Same H H1) (DD : DarkAt Z K H1 d L ls) (F : ∀ la dx, H1 d = some (.ins Z.C dx (df L la)) → H la = none) (k : Nat) : Row Z K (upd H1 D (.lst ((refs ds).set k (V.ref d)))) t g D (ds.set k d) L (hs.set k ls) := by
  have R1 := R.same S
  have o1 : Off Z H1 d L t g := fun la dx e => T.at_ne (F la dx e)
  have o2 : Off Z H1 d L D D := fun la dx e => by
    have := ne_of_none R.l (F la dx e)
    exact ⟨Ne.symm this, Ne.symm this⟩
  have dk : DarksAt Z K H1 (ds.set k d) L (hs.set k ls) t g := ⟨R1.dk.1.set1 DD k, fun d' hd => by
    rcases List.mem_or_eq_of_mem_set hd with h | h
    · exact R1.dk.2 d' h
    · rw [h]; exact o1⟩
  have off : ∀ d' ∈ ds.set k d, Off Z H1 d' L D D := fun d' hd => by
    rcases List.mem_or_eq_of_mem_set hd with h | h
    · exact R1.off d' h
    · rw [h]; exact o2
  refine ⟨by rw [upd_same, refs, refs, List.map_set], (dk.acc R1.l fun d' hd la dx e => (off d' hd la dx e).1).1, fun d' hd la dx e => ?_⟩
  have hne : d' ≠ D := fun q => by rw [q, upd_same] at e; cases e
  rw [upd_ne hne] at e
  exact off d' hd la dx e
/-- begun at another hand -/
theorem Darks.turned {hs0 : List (List Lk)} (Dk : Darks Z K H ds L (hs0.map (heardAll L))) (k : Nat) : Darks Z K H (ds.drop k ++ ds.take k) L ((hs0.drop k ++ hs0.take k).map (heardAll L)) := by
  have hl := Dk.1
  rw [List.length_map] at hl
  rw [List.map_append, List.map_drop, List.map_take]
  refine ⟨by simp [hl], fun i b l h1 h2 => ?_⟩
  by_cases hi : i < (ds.drop k).length
  · rw [List.getElem?_append_left hi, List.getElem?_drop] at h1
    rw [List.getElem?_append_left (by simp at hi ⊢; omega), List.getElem?_drop] at h2
    exact Dk.2 _ b l h1 h2
  · rw [List.getElem?_append_right (by omega)] at h1
    rw [List.getElem?_append_right (by simp at hi ⊢; omega)] at h2
    have e : ((hs0.map (heardAll L)).drop k).length = (ds.drop k).length := by simp [hl]
    rw [e] at h2
    obtain ⟨h3, h3'⟩ := List.getElem?_eq_some_iff.mp h1
    rw [List.length_take] at h3
    rw [List.getElem?_take_of_lt (by omega)] at h1 h2
    exact Dk.2 _ b l h1 h2
end
section
variable {Z : Ad} {K : PySem.W.Frag} {H H' H1 : Hp} {t g D d : Addr} {ds es : List Addr} {L : Int} {hs js : List (List Lk)} {ls : List Lk} {n : Nat}
theorem Row.stepK (R : Row Z K H t g D ds L hs) (T : Tray H t g n) (k : Keep t g H H1) (h1 : D ≠ t) (h2 : D ≠ g) (DD : DarkAt Z K H1 d L ls) (F : ∀ la dx, H1 d = some (.ins Z.C dx (df L la)) → H la = none) : Row Z K (upd H1 D (.lst (refs ds ++ [V.ref d]))) t g D (ds ++ [d]) L (hs ++ [ls]) := by
  have R1 := R.keep T k h1 h2
  have o1 : Off Z H1 d L t g := fun la dx e => T.at_ne (F la dx e)
  have o2 : Off Z H1 d L D D := fun la dx e => by
    have := ne_of_none R.l (F la dx e)
    exact ⟨Ne.symm this, Ne.symm this⟩
  have dk := R1.dk.snoc DD o1
  have off : ∀ d' ∈ ds ++ [d], Off Z H1 d' L D D := fun d' hd => by
    rcases List.mem_append.mp hd with h | h
    · exact R1.off d' h
    · rw [List.mem_singleton] at h; subst h; exact o2
  refine ⟨by rw [upd_same]; simp [refs], (dk.acc R1.l fun d' hd la dx e => (off d' hd la dx e).1).1, fun d' hd la dx e => ?_⟩
  have hne : d' ≠ D := fun q => by rw [q, upd_same] at e; cases e
  rw [upd_ne hne] at e
  exact off d' hd la dx e
end
end KA
namespace KA
open PySem PySem.Spec PyProof.Rows L2 DP
/-! ### looks led back -/
def upL (l : Lk) : Lk := ("upto", l.2.2, l.2.1)
def frL (l : Lk) : Lk := ("from", l.2.2 + 1, l.2.1 + 1)
def bkA (l : Lk) : List Lk := if l.1 = "upto" then [] else [upL l]
def bkB (l : Lk) : List Lk := if l.1 = "from" then [] else [frL l]
def bk1 (l : Lk) : List Lk := bkA l ++ bkB l
def bk (ls : List Lk) : List Lk := ls.flatMap bk1
theorem mem_bk {ls : List Lk} {q : Lk} : q ∈ bk ls ↔ ∃ l ∈ ls, (l.1 ≠ "upto" ∧ q = upL l) ∨ (l.1 ≠ "from" ∧ q = frL l) := by
  unfold bk
  rw [List.mem_flatMap]
  refine exists_congr fun l => and_congr_right fun _ => ?_
  unfold bk1 bkA bkB
  rw [List.mem_append]
  by_cases c1 : l.1 = "upto" <;> by_cases c2 : l.1 = "from" <;> simp [c1, c2]
theorem bk_word {ls : List Lk} {q : Lk} (h : q ∈ bk ls) : WordOk q.1 := by
  obtain ⟨l, _, ⟨_, rfl⟩ | ⟨_, rfl⟩⟩ := mem_bk.mp h
  · exact .inr (.inr rfl)
  · exact .inr (.inl rfl)
theorem bk_sized {ls : List Lk} {q : Lk} {n : Nat} (h : q ∈ bk ls) (hs : ∀ l ∈ ls, Sized n l) : Sized (n + 1) q := by
  obtain ⟨l, hl, ⟨_, rfl⟩ | ⟨_, rfl⟩⟩ := mem_bk.mp h
  · exact ⟨lt_up (hs l hl).2 (Nat.le_succ n), lt_up (hs l hl).1 (Nat.le_succ n)⟩
  · have one : ∀ a : Int, a.natAbs < 2 ^ n → (a + 1).natAbs < 2 ^ (n + 1) := fun a ha => by
      have h1 : 1 ≤ 2 ^ n := Nat.one_le_two_pow
      rw [Nat.pow_succ]; omega
    exact ⟨one _ (hs l hl).2, one _ (hs l hl).1⟩
theorem not_upto {x : Str} (h : WordOk x) (n : x ≠ "upto") : onSide "slow" x = true := by
  rcases h with rfl | rfl | rfl
  · decide +kernel
  · decide +kernel
  · exact absurd rfl n
theorem not_from {x : Str} (h : WordOk x) (n : x ≠ "from") : onSide "fast" x = true := by
  rcases h with rfl | rfl | rfl
  · decide +kernel
  · exact absurd rfl n
  · decide +kernel
theorem slow_from {x : Str} (h : onSide "slow" x = true) : x ≠ "upto" := by
  rintro rfl
  exact absurd h (by decide +kernel)
theorem fast_upto {x : Str} (h : onSide "fast" x = true) : x ≠ "from" := by
  rintro rfl
  exact absurd h (by decide +kernel)
theorem bk_slow {ls : List Lk} {q : Lk} (h : q ∈ bk ls) (s : onSide "slow" q.1 = true) : ∃ l ∈ ls, l.1 ≠ "from" ∧ q = frL l := by
  obtain ⟨l, hl, ⟨_, rfl⟩ | ⟨n, rfl⟩⟩ := mem_bk.mp h
  · exact absurd rfl (slow_from s)
  · exact ⟨l, hl, n, rfl⟩
theorem bk_fast {ls : List Lk} {q : Lk} (h : q ∈ bk ls) (s : onSide "fast" q.1 = true) : ∃ l ∈ ls, l.1 ≠ "upto" ∧ q = upL l := by
  obtain ⟨l, hl, ⟨n, rfl⟩ | ⟨_, rfl⟩⟩ := mem_bk.mp h
  · exact ⟨l, hl, n, rfl⟩
  · exact absurd rfl (fast_upto s)
theorem div_le {a L : Int} (hL : 0 < L) : a / L * L ≤ a := by
  have h1 := Int.mul_ediv_add_emod a L
  have h2 := Int.emod_nonneg a (show L ≠ 0 by omega)
  rw [Int.mul_comm] at h1
  omega
theorem le_div {a k L : Int} (hL : 0 < L) (h : k * L ≤ a) : k * L ≤ a / L * L := Int.mul_le_mul_of_nonneg_right ((Int.le_ediv_iff_mul_le hL).mpr h) (Int.le_of_lt hL)
theorem bk_far {L : Int} (hL : 0 < L) {ls : List Lk} (hw : ∀ l ∈ ls, WordOk l.1) (nc : ∀ a ∈ ls, ∀ b ∈ ls, clashB a b L = false) {p q : Lk} (hp : p ∈ bk ls) (hq : q ∈ bk ls) : tooFar p q L = false := by
  cases c : tooFar p q L with
  | false => rfl
  | true =>
    exfalso
    unfold tooFar at c
    rw [Bool.and_eq_true, Bool.and_eq_true, decide_eq_true_eq] at c
    obtain ⟨⟨c1, c2⟩, c3⟩ := c
    obtain ⟨b, hb, nb, rfl⟩ := bk_slow hp c1
    obtain ⟨a, ha, na, rfl⟩ := bk_fast hq c2
    rw [plc_slow] at c3
    have c3' : a.2.1 < b.2.1 + 1 + (a.2.2 - (b.2.2 + 1)) / L * L := c3
    have h1 := div_le (a := a.2.2 - (b.2.2 + 1)) hL
    generalize (a.2.2 - (b.2.2 + 1)) / L = k at c3' h1
    have h2 : (-k) * L ≤ b.2.1 - a.2.1 := by rw [Int.neg_mul]; omega
    have h3 := le_div hL h2
    rw [Int.neg_mul] at h3
    have h4 := nc a ha b hb
    unfold clashB tooFar at h4
    rw [not_upto (hw a ha) na, not_from (hw b hb) nb, Bool.true_and, Bool.true_and, plc_slow, Bool.or_eq_false_iff, decide_eq_false_iff_not] at h4
    exact h4.1 (by omega)
theorem bk_nc {L : Int} (hL : 0 < L) {ls : List Lk} (hw : ∀ l ∈ ls, WordOk l.1) (nc : ∀ a ∈ ls, ∀ b ∈ ls, clashB a b L = false) : ∀ p ∈ bk ls, ∀ q ∈ bk ls, clashB p q L = false := fun p hp q hq => by
  unfold clashB
  rw [bk_far hL hw nc hp hq, bk_far hL hw nc hq hp]; rfl
/-- where the least lands, the greatest of the hand led back comes from -/
theorem bk_in_fast {ls : List Lk} {x L m : Int} (h : IsBest "slow" (sideOf "slow" ls) x L m) : ∃ l ∈ ls, plc "slow" l x L = m ∧ upL l ∈ sideOf "fast" (bk ls) := by
  obtain ⟨⟨l, hl, em⟩, hb⟩ := h
  obtain ⟨hl1, hl2⟩ := mem_side.mp hl
  exact ⟨l, hl1, em, mem_side.mpr ⟨mem_bk.mpr ⟨l, hl1, .inl ⟨slow_from hl2, rfl⟩⟩, show onSide "fast" "upto" = true by decide +kernel⟩⟩
theorem bk_in_slow {ls : List Lk} {x L m : Int} (h : IsBest "fast" (sideOf "fast" ls) x L m) : ∃ l ∈ ls, plc "fast" l x L = m ∧ frL l ∈ sideOf "slow" (bk ls) := by
  obtain ⟨⟨l, hl, em⟩, hb⟩ := h
  obtain ⟨hl1, hl2⟩ := mem_side.mp hl
  exact ⟨l, hl1, em, mem_side.mpr ⟨mem_bk.mpr ⟨l, hl1, .inr ⟨fast_upto hl2, rfl⟩⟩, show onSide "slow" "from" = true by decide +kernel⟩⟩
theorem back_least1 {L : Int} (hL : 0 < L) {ls : List Lk} {x m : Int} (h : IsBest "slow" (sideOf "slow" ls) x L m) {u : V} (tu : Tells "fast" (bk ls) m L u) : ∃ a, u = .int a ∧ a ≤ x := by
  obtain ⟨l, _, em, hin⟩ := bk_in_fast h
  rcases tu with ⟨e, _⟩ | ⟨a, rfl, ba⟩
  · rw [e] at hin; cases hin
  refine ⟨a, rfl, ?_⟩
  have h1 := ba.2 _ hin
  rw [if_neg slow_ne, plc_fast] at h1
  have h1' : a ≤ l.2.1 - (l.2.2 - m) / L * L := h1
  rw [plc_slow] at em
  have e2 : l.2.2 - m = (-((x - l.2.1) / L)) * L := by rw [Int.neg_mul]; omega
  rw [e2, Int.mul_ediv_cancel _ (by omega : L ≠ 0), Int.neg_mul] at h1'
  have := div_le (a := x - l.2.1) hL
  omega
theorem back_least2 {L : Int} (hL : 0 < L) {ls : List Lk} (hw : ∀ l ∈ ls, WordOk l.1) {x m : Int} (h : IsBest "slow" (sideOf "slow" ls) x L m) {v : V} (tv : Tells "fast" (bk ls) (m + 1) L v) : ∃ b, v = .int b ∧ x < b := by
  obtain ⟨l, _, em, hin⟩ := bk_in_fast h
  rcases tv with ⟨e, _⟩ | ⟨b, rfl, bb⟩
  · rw [e] at hin; cases hin
  refine ⟨b, rfl, ?_⟩
  obtain ⟨⟨q, hq, eq⟩, _⟩ := bb
  obtain ⟨hq1, hq2⟩ := mem_side.mp hq
  obtain ⟨l', hl', n', rfl⟩ := bk_fast hq1 hq2
  rw [plc_fast] at eq
  have eq' : l'.2.1 - (l'.2.2 - (m + 1)) / L * L = b := eq
  have h1 := div_le (a := l'.2.2 - (m + 1)) hL
  generalize (l'.2.2 - (m + 1)) / L = k at eq' h1
  rcases Int.lt_or_le x b with z | z
  · exact z
  · exfalso
    have h2 := h.2 l' (mem_side.mpr ⟨hl', not_upto (hw l' hl') n'⟩)
    rw [if_pos rfl, plc_slow] at h2
    have h3 : (-k) * L ≤ x - l'.2.1 := by rw [Int.neg_mul]; omega
    have h4 := le_div hL h3
    rw [Int.neg_mul] at h4
    omega
theorem back_greatest1 {L : Int} (hL : 0 < L) {ls : List Lk} (hw : ∀ l ∈ ls, WordOk l.1) {x m : Int} (h : IsBest "fast" (sideOf "fast" ls) x L m) {u : V} (tu : Tells "slow" (bk ls) m L u) : ∃ a, u = .int a ∧ a ≤ x := by
  obtain ⟨l, _, em, hin⟩ := bk_in_slow h
  rcases tu with ⟨e, _⟩ | ⟨a, rfl, ba⟩
  · rw [e] at hin; cases hin
  refine ⟨a, rfl, ?_⟩
  obtain ⟨⟨q, hq, eq⟩, _⟩ := ba
  obtain ⟨hq1, hq2⟩ := mem_side.mp hq
  obtain ⟨l', hl', n', rfl⟩ := bk_slow hq1 hq2
  rw [plc_slow] at eq
  have eq' : l'.2.1 + 1 + (m - (l'.2.2 + 1)) / L * L = a := eq
  have h1 := div_le (a := m - (l'.2.2 + 1)) hL
  generalize (m - (l'.2.2 + 1)) / L = k at eq' h1
  rcases Int.lt_or_le x a with z | z
  · exfalso
    have h2 := h.2 l' (mem_side.mpr ⟨hl', not_from (hw l' hl') n'⟩)
    rw [if_neg slow_ne, plc_fast] at h2
    have h3 : (-k) * L ≤ l'.2.1 - x := by rw [Int.neg_mul]; omega
    have h4 := le_div hL h3
    rw [Int.neg_mul] at h4
    omega
  · exact z
theorem back_greatest2 {L : Int} (hL : 0 < L) {ls : List Lk} {x m : Int} (h : IsBest "fast" (sideOf "fast" ls) x L m) {v : V} (tv : Tells "slow" (bk ls) (m + 1) L v) : ∃ b, v = .int b ∧ x < b := by
  obtain ⟨l, _, em, hin⟩ := bk_in_slow h
  rcases tv with ⟨e, _⟩ | ⟨b, rfl, bb⟩
  · rw [e] at hin; cases hin
  refine ⟨b, rfl, ?_⟩
  have h1 := bb.2 _ hin
  rw [if_pos rfl, plc_slow] at h1
  have h1' : l.2.1 + 1 + (m + 1 - (l.2.2 + 1)) / L * L ≤ b := h1
  rw [plc_fast] at em
  have e2 : m + 1 - (l.2.2 + 1) = (-((l.2.1 - x) / L)) * L := by rw [Int.neg_mul]; omega
  rw [e2, Int.mul_ediv_cancel _ (by omega : L ≠ 0), Int.neg_mul] at h1'
  have := div_le (a := l.2.1 - x) hL
  omega
def spBack (Z : Ad) (K : PySem.W.Frag) : Sp := fun vs H Q _ => ∃ (d : Addr) (L : Int) (hs : List Lk), vs = [.ref d] ∧ DarkAt Z K H d L hs ∧ (∀ l ∈ hs, Sized 290 l) ∧ (∀ a ∈ hs, ∀ b ∈ hs, clashB a b L = false) ∧ (bk hs).length ≤ 58 ∧
  ∀ (H' : Hp) (b : Addr), H b = none → Same H H' → DarkAt Z K H' b L ((bk hs).foldl (heard L) []) → (∀ la dx, H' b = some (.ins Z.C dx (df L la)) → H la = none) → Q (.ref b) H'
theorem bk_take {ls : List Lk} {i : Nat} {l : Lk} (h : ls[i]? = some l) : bk (ls.take (i + 1)) = bk (ls.take i) ++ bk1 l := by
  rw [take_snoc h]; unfold bk; rw [List.flatMap_append]; simp
theorem bk_pre {ls : List Lk} (i : Nat) : ∃ r, bk ls = bk (ls.take i) ++ r := ⟨bk (ls.drop i), by unfold bk; rw [← List.flatMap_append, List.take_append_drop]⟩
section
variable {P : Program} {w : World} {K : PySem.W.Frag} {mg : Str → Option Value} {base : Heap} {Z : Ad}
theorem ok_Dark_led_back (T : Tx K w mg Z) : FnOk P w K mg base CX0 6 Z.a_Dark_led_back Z.d_Dark_led_back P_Dark_led_back (spBack Z K) := by
  refine T.F_Dark_led_back.ok scDark_led_back (fun vs H Q E h => ?_) (fun cdv A outer s H vs Q E hr h => ?_)
  · obtain ⟨d, L, hs, rfl, _⟩ := h
    rfl
  · obtain ⟨d, L, hs, rfl, D, hsz, hnc, hlen, k⟩ := h
    obtain ⟨dx, la, xs, h1, h2, h3⟩ := id D.ex
    have hL := D.pos
    have hwd : ∀ l ∈ hs, WordOk l.1 := fun l hl => (D.ok l hl).1
    have nc := bk_nc hL hwd hnc
    refine ⟨_, (pss_cons (ps_set (i := 1) scDark_led_back.nd rfl (Or.inl rfl) (pe_make T.mk_Dark (ok_Dark_init T) (hr.mono (by decide)) (by rfl) T.g_Dark T.bb_Dark_init .nil pass0 (pa_cons (fldK (K := K) (pv 0) rfl) pa_nil)))
      (pss_cons (ps_for PassesOwn.never rfl (pi_list (pe_meth0 (pv 0) T.cl T.m_Dark_looks (ok_Dark_looks T) (hr.mono (by decide)) T.bb_Dark_looks .nil pass0)) (tupK (K := K) (by rfl) (pgs_cons (pg_name (i := 2) scDark_led_back.nd rfl (Or.inl rfl)) (pgs_cons (pg_name (i := 3) scDark_led_back.nd rfl (Or.inl rfl)) (pgs_cons (pg_name (i := 4) scDark_led_back.nd rfl (Or.inl rfl)) pgs_nil)))) (C8.pss_cut (ps_if (pt_cmpR op_ne (pv 2) pe_str (nomark _)) (pss_one (ps_expr (pe_meth (pv 1) T.cl T.m_Dark_hear (ok_Dark_hear T) (hr.mono (by decide)) T.bb_Dark_hear .nil pass0 (pa_cons pe_str (pa_cons (pv 4) (pa_cons (pv 3) pa_nil)))))) pss_nil)
      (pss_one (ps_if (pt_cmpR op_ne (pv 2) pe_str (nomark _)) (pss_one (ps_expr (pe_meth (pv 1) T.cl T.m_Dark_hear (ok_Dark_hear T) (hr.mono (by decide)) T.bb_Dark_hear .nil pass0 (pa_cons pe_str (pa_cons (pe_op op_add (pv 4) pe_int) (pa_cons (pe_op op_add (pv 3) pe_int) pa_nil)))))) pss_nil))))
      (pss_one (ps_ret (pv 1))))), ?_⟩
    refine ⟨_, rfl, d, Z.C, dx, _, _, rfl, h1, T.cl, T.n_length, df_length _ _, fun b dxb hbn hbx hne => ?_⟩
    have S0 : Same H (upd (upd H dxb (.own b)) b (.ins Z.C dxb [])) := fun c o e => by
      rw [upd_ne (ne_of_none e hbn), upd_ne (ne_of_none e hbx)]; exact e
    refine ⟨b, dxb, L, rfl, upd_same, hL, D.big, fun H1 D1 f1 k1 => ⟨rfl, ?_⟩⟩
    have S1 : Same H H1 := fun c o e => k1 c o (S0 c o e) (ne_of_none e hbn)
    refine ⟨_, rfl, d, dx, _, rfl, S1 _ _ h1, df_no _ _ (by decide +kernel) (by decide +kernel), d, L, hs, rfl, D.same S1, fun p ys H2 hp S2 hp1 hp2 => ?_⟩
    have hpb : p ≠ b := by
      rintro rfl
      obtain ⟨dx1, la1, vs1, g1, _⟩ := D1.ex
      rw [hp] at g1; cases g1
    have hyl : ys.length = hs.length := by rw [dpAll_len hp2, List.length_map]
    have F2 : ∀ la dx, H2 b = some (.ins Z.C dx (df L la)) → H la = none := fun la2 dx2 e => by
      obtain ⟨dx1, la1, vs1, g1, _⟩ := D1.ex
      have e2 := S2 _ _ g1
      rw [e] at e2
      rw [df_inj e2]
      exact S0.free (f1 la1 dx1 g1)
    obtain ⟨dx1, la1, vs1, g1, _⟩ := id (D1.same S2).ex
    have tups : ∀ {H'}, (∀ c o, H2 c = some o → c ≠ b → H' c = some o) → Tups H2 H' := fun kb c zs hc => by
      have hcb : c ≠ b := by
        rintro rfl
        rcases hc with e | ⟨q, e⟩ <;> rw [g1] at e <;> cases e
      rcases hc with e | ⟨q, e⟩
      · exact .inl (kb _ _ e hcb)
      · exact .inr ⟨q, kb _ _ e hcb⟩
    -- one more is heard
    have one : ∀ {H' : Hp} {pr : List Lk} {q : Lk}, (∀ o ∈ pr, o ∈ bk hs) → q ∈ bk hs → pr.length < 58 → (∀ c o, H2 c = some o → c ≠ b → H' c = some o) → (∀ la dx, H' b = some (.ins Z.C dx (df L la)) → H la = none) →
        (pr.foldl (heard L) []).length < 60 ∧ (∀ o ∈ pr.foldl (heard L) [], clashB (home L q) o L = false) ∧
        ∀ H'', DarkAt Z K H'' b L (heard L (pr.foldl (heard L) []) q) → (∀ la dx, H'' b = some (.ins Z.C dx (df L la)) → (∃ dx', H' b = some (.ins Z.C dx' (df L la))) ∨ H' la = none) → (∀ c o, H' c = some o → c ≠ b → H'' c = some o) →
          (∀ c o, H2 c = some o → c ≠ b → H'' c = some o) ∧ DarkAt Z K H'' b L ((pr ++ [q]).foldl (heard L) []) ∧ ∀ la dx, H'' b = some (.ins Z.C dx (df L la)) → H la = none := by
      intro H' pr q hpr hq hl kb F
      have hfl := fold_len (L := L) pr []
      have S : Same H H' := fun c o e => kb c o ((S1.trans S2) _ _ e) (ne_of_none e hbn)
      refine ⟨by simp at hfl; omega, fun o ho => ?_, fun H'' D'' f'' k'' => ⟨fun c o e hc => k'' c o (kb c o e hc) hc, ?_, fun la dx e => ?_⟩⟩
      · obtain h | ⟨r, hr, e⟩ := (fold_mem _ _ _).mp ho
        · cases h
        · rw [e, clash_home hL]
          exact nc q hq r (hpr r hr)
      · rw [List.foldl_append]; exact D''
      · rcases f'' la dx e with ⟨dx', h⟩ | h
        · exact F la dx' h
        · exact S.free h
    refine ⟨p, rfl, ⟨_, SqL.of hp1⟩, ?_⟩
    refine for_list (K := K) (a := p) (xs := ys) (fun i σ' H' => ∃ u2 u3 u4, σ' = [some (.ref d), some (.ref b), u2, u3, u4] ∧ (∀ c o, H2 c = some o → c ≠ b → H' c = some o) ∧ DarkAt Z K H' b L ((bk (hs.take i)).foldl (heard L) []) ∧ ∀ la dx, H' b = some (.ins Z.C dx (df L la)) → H la = none) ⟨none, none, none, rfl, fun _ _ e _ => e, D1.same S2, F2⟩ (fun i σ' H' _ ⟨_, _, _, _, kb, _⟩ => SqL.of (kb _ _ hp1 hpb)) ?_ ?_
    · rintro i y σ' H' hi ⟨u2, u3, u4, rfl, kb, DD, F⟩
      obtain ⟨e, hdi, hdy⟩ := dpAll_get hp2 hi
      obtain ⟨l, hl, rfl⟩ := map_at hdi
      have hlm := List.mem_of_getElem? hl
      obtain ⟨pp, rfl, hpp⟩ := dp_look (dp_tups (tups kb) _ _ rfl hdy)
      obtain ⟨r, er⟩ := bk_pre (ls := hs) (i + 1)
      have tk := bk_take hl
      rw [tk] at er
      have inA : ∀ o ∈ bk (hs.take i) ++ bkA l, o ∈ bk hs := fun o ho => by
        rw [er]
        unfold bk1
        simp only [List.mem_append] at ho ⊢
        rcases ho with h | h
        · exact .inl (.inl h)
        · exact .inl (.inr (.inl h))
      have lenA : (bk (hs.take i)).length + (bkA l).length + (bkB l).length ≤ 58 := by
        rw [er] at hlen
        unfold bk1 at hlen
        simp only [List.length_append] at hlen
        omega
      refine ⟨_, _, rfl, hpp, rfl, _, _, rfl, _, _, rfl, _, _, rfl, rfl, ?_⟩
      refine ⟨fun σ' H' => σ' = [some (.ref d), some (.ref b), some (.str l.1), some (.int l.2.1), some (.int l.2.2)] ∧ (∀ c o, H2 c = some o → c ≠ b → H' c = some o) ∧ DarkAt Z K H' b L ((bk (hs.take i) ++ bkA l).foldl (heard L) []) ∧ ∀ la dx, H' b = some (.ins Z.C dx (df L la)) → H la = none, ?_, ?_⟩
      · refine ⟨_, rfl, rfl, _, rfl, ?_⟩
        by_cases c : l.1 = "upto"
        · have e1 : bkA l = [] := if_pos c
          rw [e1, List.append_nil]
          have e2 : (!decide (V.str l.1 = V.str "upto")) = false := by rw [c]; simp
          rw [e2]
          exact iteF ⟨rfl, kb, DD, F⟩
        · have e1 : bkA l = [upL l] := if_neg c
          rw [e1]
          rw [e1] at inA lenA
          have e2 : (!decide (V.str l.1 = V.str "upto")) = true := by
            rw [Bool.not_eq_true', decide_eq_false_iff_not]
            exact fun e => c (V.str.inj e)
          rw [e2]
          obtain ⟨dxq, laq, vsq, gq, _⟩ := id DD.ex
          refine iteT ⟨_, rfl, b, dxq, _, rfl, gq, df_no _ _ (by decide +kernel) (by decide +kernel), _, rfl, _, rfl, ?_⟩
          have hq : upL l ∈ bk hs := inA _ (by simp)
          obtain ⟨o1, o2, o3⟩ := one (q := upL l) (fun o ho => inA o (List.mem_append_left _ ho)) hq (by simp at lenA; omega) kb F
          refine ⟨b, L, _, upL l, rfl, DD, bk_word hq, (bk_sized hq hsz).up (by decide), o1, o2, fun H'' D'' f'' k'' => ?_⟩
          obtain ⟨x1, x2, x3⟩ := o3 H'' D'' f'' k''
          exact ⟨rfl, x1, x2, x3⟩
      · rintro σ' H3 ⟨rfl, kb3, D3, F3⟩
        refine ⟨_, rfl, rfl, _, rfl, ?_⟩
        by_cases c : l.1 = "from"
        · have e1 : bkB l = [] := if_pos c
          have e2 : (!decide (V.str l.1 = V.str "from")) = false := by rw [c]; simp
          rw [e2]
          refine iteF ⟨_, _, _, rfl, kb3, ?_, F3⟩
          rw [tk]
          unfold bk1
          rw [e1, List.append_nil]; exact D3
        · have e1 : bkB l = [frL l] := if_neg c
          rw [e1] at lenA
          have e2 : (!decide (V.str l.1 = V.str "from")) = true := by
            rw [Bool.not_eq_true', decide_eq_false_iff_not]
            exact fun e => c (V.str.inj e)
          rw [e2]
          obtain ⟨dxq, laq, vsq, gq, _⟩ := id D3.ex
          refine iteT ⟨_, rfl, b, dxq, _, rfl, gq, df_no _ _ (by decide +kernel) (by decide +kernel), _, rfl, _, _, rfl, rfl, _, rfl, _, _, rfl, rfl, ?_⟩
          have hq : frL l ∈ bk hs := mem_bk.mpr ⟨l, hlm, .inr ⟨c, rfl⟩⟩
          obtain ⟨o1, o2, o3⟩ := one (q := frL l) inA hq (by simp at lenA ⊢; omega) kb3 F3
          refine ⟨b, L, _, frL l, rfl, D3, bk_word hq, (bk_sized hq hsz).up (by decide), o1, o2, fun H'' D'' f'' k'' => ?_⟩
          obtain ⟨x1, x2, x3⟩ := o3 H'' D'' f'' k''
          refine ⟨_, _, _, rfl, x1, ?_, x3⟩
          rw [tk]
          unfold bk1
          rw [e1, ← List.append_assoc]; exact x2
    · rintro σ' H' ⟨u2, u3, u4, rfl, kb, DD, F⟩
      rw [List.take_of_length_le (by rw [hyl]; exact Nat.le_refl _)] at DD
      exact ⟨_, rfl, k H' b hbn (fun c o e => kb c o ((S1.trans S2) _ _ e) (ne_of_none e hbn)) DD F⟩
end
end KA
namespace KA
open PySem PySem.Spec PyProof.Rows L2 DP
/-! ### a leading, used again and again -/
def itf (f : Int → Int) (x : Int) : Nat → Int
  | 0 => x
  | n + 1 => f (itf f x n)
theorem itf_add (f : Int → Int) (x : Int) (m : Nat) : ∀ n, itf f x (m + n) = itf f (itf f x m) n
  | 0 => rfl
  | n + 1 => by
    show f (itf f x (m + n)) = f (itf f (itf f x m) n)
    rw [itf_add f x m n]
section
variable {L : Int} {f : Int → Int}
theorem itf_mono (F : Hand L f) {x y : Int} (h : x ≤ y) : ∀ n, itf f x n ≤ itf f y n
  | 0 => h
  | n + 1 => F.mono _ _ (itf_mono F h n)
theorem itf_shift (F : Hand L f) (x k : Int) : ∀ n, itf f (x + k * L) n = itf f x n + k * L
  | 0 => rfl
  | n + 1 => by
    show f (itf f (x + k * L) n) = f (itf f x n) + k * L
    rw [itf_shift F x k n, F.turn]
theorem itf_laps (F : Hand L f) {x c : Int} {p : Nat} (h : itf f x p = x + c * L) : ∀ t : Nat, itf f x (t * p) = x + t * (c * L)
  | 0 => by simp [itf]
  | t + 1 => by
    rw [Nat.succ_mul, Nat.add_comm, itf_add, h, itf_shift F, itf_laps F h t]
    push_cast
    grind
/-- two pointers stay so many turns together -/
theorem itf_near (F : Hand L f) {x y m : Int} (h : x ≤ y + m * L) (n : Nat) : itf f x n ≤ itf f y n + m * L := by
  have := itf_mono F h n
  rwa [itf_shift F] at this
theorem far_turns (hL : 0 < L) (x y : Int) : x ≤ y + ((x - y).natAbs : Int) * L := by
  have h : ((x - y).natAbs : Int) * 1 ≤ ((x - y).natAbs : Int) * L := Int.mul_le_mul_of_nonneg_left (by omega) (by omega)
  omega
/-- all that come round do so at one pace -/
theorem pace_cmp (hL : 0 < L) (F : Hand L f) {x c z k : Int} {p q : Nat} (h1 : itf f x p = x + c * L) (h2 : itf f z q = z + k * L) : c * q = k * p := by
  obtain ⟨m, hm⟩ : ∃ m : Int, m = ((x - z).natAbs : Int) := ⟨_, rfl⟩
  have n1 := far_turns hL x z
  have n2 := far_turns hL z x
  have e : (z - x).natAbs = (x - z).natAbs := by omega
  rw [e] at n2
  rw [← hm] at n1 n2
  have m0 : 0 ≤ m := by omega
  obtain ⟨t, ht⟩ : ∃ t : Nat, (t : Int) = 2 * m + 1 := ⟨(2 * m + 1).toNat, by omega⟩
  have a1 : itf f x (t * (q * p)) = x + ((t * q : Nat) : Int) * (c * L) := by rw [← Nat.mul_assoc]; exact itf_laps F h1 _
  have a2 : itf f z (t * (q * p)) = z + ((t * p : Nat) : Int) * (k * L) := by rw [Nat.mul_comm q p, ← Nat.mul_assoc]; exact itf_laps F h2 _
  have b1 := itf_near F n1 (t * (q * p))
  have b2 := itf_near F n2 (t * (q * p))
  rw [a1, a2] at b1 b2
  push_cast at b1 b2
  rw [ht] at b1 b2
  have key : ∀ d : Int, (2 * m + 1) * d * L ≤ 2 * m * L → 0 < d → False := fun d g3 hd => by
    have g4 : (2 * m + 1) * 1 * L ≤ (2 * m + 1) * d * L := by
      refine Int.mul_le_mul_of_nonneg_right (Int.mul_le_mul_of_nonneg_left (by omega) (by omega)) (by omega)
    have g5 : (2 * m + 1) * 1 * L = 2 * m * L + L := by grind
    omega
  have e1 : (2 * m + 1) * (q : Int) * (c * L) = (2 * m + 1) * (c * q) * L := by grind
  have e2 : (2 * m + 1) * (p : Int) * (k * L) = (2 * m + 1) * (k * p) * L := by grind
  have e3 : 2 * m * L = m * L + m * L := by grind
  rw [e1, e2] at b1 b2
  rcases Int.lt_trichotomy (c * q) (k * p) with h | h | h
  · exfalso
    refine key (k * p - c * q) ?_ (by omega)
    have : (2 * m + 1) * (k * p - c * q) * L = (2 * m + 1) * (k * p) * L - (2 * m + 1) * (c * q) * L := by grind
    omega
  · exact h
  · exfalso
    refine key (c * q - k * p) ?_ (by omega)
    have : (2 * m + 1) * (c * q - k * p) * L = (2 * m + 1) * (c * q) * L - (2 * m + 1) * (k * p) * L := by grind
    omega
/-- a pace in lowest terms -/
structure PaceOf (L : Int) (f : Int → Int) (pr : Int × Int) : Prop where
  pos : 0 < pr.2
  cop : Int.gcd pr.1 pr.2 = 1
  lap : ∃ (x c : Int) (p : Nat), 0 < p ∧ itf f x p = x + c * L ∧ pr.1 * p = c * pr.2
/-- who comes round, comes round at the pace -/
theorem PaceOf.all {pr : Int × Int} (hL : 0 < L) (F : Hand L f) (P : PaceOf L f pr) {z k : Int} {q : Nat} (h : itf f z q = z + k * L) : pr.1 * q = k * pr.2 := by
  obtain ⟨x, c, p, p0, h1, h2⟩ := P.lap
  have h3 := pace_cmp hL F h1 h
  have e : (pr.1 * q) * p = (k * pr.2) * p := by grind
  exact Int.eq_of_mul_eq_mul_right (by omega) e
/-- a pace above 0 leads however far -/
theorem fwd (hL : 0 < L) (F : Hand L f) {pr : Int × Int} (P : PaceOf L f pr) (h0 : 0 < pr.1) (z y : Int) : ∃ n, y ≤ itf f z n := by
  obtain ⟨x, c, p, p0, h1, h2⟩ := P.lap
  have c0 : 0 < c := by
    have e : 0 < pr.1 * (p : Int) := Int.mul_pos h0 (by omega)
    rw [h2] at e
    have := P.pos
    by_cases hc : 0 < c
    · exact hc
    · exfalso
      have := Int.mul_nonpos_of_nonpos_of_nonneg (show c ≤ 0 by omega) (show 0 ≤ pr.2 by omega)
      omega
  obtain ⟨m, hm⟩ : ∃ m : Int, m = ((x - z).natAbs : Int) := ⟨_, rfl⟩
  have n1 := far_turns hL x z
  rw [← hm] at n1
  refine ⟨((y - x).natAbs + m.toNat) * p, ?_⟩
  have b := itf_near F n1 (((y - x).natAbs + m.toNat) * p)
  rw [itf_laps F h1] at b
  have g1 : (((y - x).natAbs + m.toNat : Nat) : Int) * L ≤ (((y - x).natAbs + m.toNat : Nat) : Int) * (c * L) := by
    refine Int.mul_le_mul_of_nonneg_left ?_ (by omega)
    have : 1 * L ≤ c * L := Int.mul_le_mul_of_nonneg_right (by omega) (by omega)
    omega
  have g2 : ((y - x).natAbs : Int) * 1 ≤ ((y - x).natAbs : Int) * L := Int.mul_le_mul_of_nonneg_left (by omega) (by omega)
  have g3 : (((y - x).natAbs + m.toNat : Nat) : Int) * L = ((y - x).natAbs : Int) * L + m * L := by
    have : ((m.toNat : Nat) : Int) = m := by omega
    push_cast
    rw [this]
    grind
  omega
/-- at a pace of 0 or below: a first use that comes so far is none behind which a place came again -/
theorem first_new (hL : 0 < L) (F : Hand L f) {pr : Int × Int} (P : PaceOf L f pr) (h0 : pr.1 ≤ 0) {z y : Int} {n : Nat} (hn : y ≤ itf f z n) (hb : ∀ k, k < n → itf f z k < y) {i j : Nat} (hij : i < j) (hj : j ≤ n) : itf f z i % L ≠ itf f z j % L := fun e => by
  obtain ⟨k, hk⟩ : ∃ k, itf f z j = itf f z i + k * L := by
    refine ⟨itf f z j / L - itf f z i / L, ?_⟩
    have q1 := Int.mul_ediv_add_emod (itf f z i) L
    have q2 := Int.mul_ediv_add_emod (itf f z j) L
    have : (itf f z j / L - itf f z i / L) * L = L * (itf f z j / L) - L * (itf f z i / L) := by grind
    omega
  have e1 : itf f (itf f z i) (j - i) = itf f z i + k * L := by
    rw [← itf_add, show i + (j - i) = j by omega, hk]
  have e2 := P.all hL F e1
  have hp := P.pos
  have k0 : k ≤ 0 := by
    by_cases hk0 : k ≤ 0
    · exact hk0
    · exfalso
      have g1 : 0 < k * pr.2 := Int.mul_pos (by omega) hp
      have g2 : pr.1 * ((j - i : Nat) : Int) ≤ 0 := Int.mul_nonpos_of_nonpos_of_nonneg h0 (by omega)
      omega
  have e3 : itf f z n = itf f z (i + (n - j)) + k * L := by
    have : itf f z n = itf f (itf f z j) (n - j) := by rw [← itf_add, show j + (n - j) = n by omega]
    rw [this, hk, itf_shift F, ← itf_add]
  have g3 : k * L ≤ 0 := Int.mul_nonpos_of_nonpos_of_nonneg k0 (by omega)
  have := hb (i + (n - j)) (by omega)
  omega
/-- the pace is one -/
theorem PaceOf.one {pr pr' : Int × Int} (hL : 0 < L) (F : Hand L f) (P : PaceOf L f pr) (P' : PaceOf L f pr') : pr = pr' := by
  obtain ⟨x, c, p, p0, h1, h2⟩ := P'.lap
  have h3 := P.all hL F h1
  have e : pr.1 * pr'.2 = pr'.1 * pr.2 := by
    have e1 : (pr.1 * pr'.2) * p = (pr'.1 * pr.2) * p := by grind
    exact Int.eq_of_mul_eq_mul_right (by omega) e1
  have a := Int.gcd_mul_right pr.1 pr'.2 pr.2
  have b := Int.gcd_mul_right pr'.1 pr.2 pr'.2
  have p1 := P.pos
  have p2 := P'.pos
  rw [P.cop] at a
  rw [P'.cop] at b
  rw [e, Int.mul_comm pr.2 pr'.2] at a
  rw [a] at b
  have e3 : pr.2 = pr'.2 := by omega
  have e4 : pr.1 = pr'.1 := by
    rw [e3] at e
    exact Int.eq_of_mul_eq_mul_right (by omega) e
  exact Prod.ext e4 e3
/-- at the pace, but for a turn -/
theorem pace_near (hL : 0 < L) {f : Int → Int} (F : Hand L f) {pr : Int × Int} (P : PaceOf L f pr) (z : Int) (n : Nat) : ((itf f z n - z) * pr.2 - n * pr.1 * L).natAbs ≤ (pr.2 * L).natAbs := by
  obtain ⟨x, c, p, p0, h1, h2⟩ := P.lap
  have hp2 := P.pos
  -- what n uses do anywhere, they do everywhere but for a turn
  have turnOf : ∀ y : Int, ∃ k : Int, z + k * L ≤ y ∧ y < z + (k + 1) * L := fun y => by
    refine ⟨(y - z) / L, ?_⟩
    have q1 := Int.mul_ediv_add_emod (y - z) L
    have q2 := Int.emod_nonneg (y - z) (show L ≠ 0 by omega)
    have q3 := Int.emod_lt_of_pos (y - z) hL
    have e1 : (y - z) / L * L = L * ((y - z) / L) := Int.mul_comm _ _
    have e2 : ((y - z) / L + 1) * L = (y - z) / L * L + L := by grind
    omega
  have up : ∀ y : Int, itf f y n - y ≤ itf f z n - z + L := fun y => by
    obtain ⟨k, k1, k2⟩ := turnOf y
    have h := itf_mono F (Int.le_of_lt k2) n
    rw [itf_shift F] at h
    have e2 : (k + 1) * L = k * L + L := by grind
    omega
  have dn : ∀ y : Int, itf f z n - z - L ≤ itf f y n - y := fun y => by
    obtain ⟨k, k1, k2⟩ := turnOf y
    have h := itf_mono F k1 n
    rw [itf_shift F] at h
    have e2 : (k + 1) * L = k * L + L := by grind
    omega
  have upN : ∀ (m : Nat) (y : Int), itf f y (m * n) - y ≤ m * (itf f z n - z + L) := by
    intro m
    induction m with
    | zero => intro y; simp [itf]
    | succ m ih =>
      intro y
      rw [show (m + 1) * n = n + m * n by rw [Nat.succ_mul, Nat.add_comm], itf_add]
      have a := up y
      have b := ih (itf f y n)
      have e : ((m + 1 : Nat) : Int) * (itf f z n - z + L) = m * (itf f z n - z + L) + (itf f z n - z + L) := by push_cast; grind
      omega
  have dnN : ∀ (m : Nat) (y : Int), m * (itf f z n - z - L) ≤ itf f y (m * n) - y := by
    intro m
    induction m with
    | zero => intro y; simp [itf]
    | succ m ih =>
      intro y
      rw [show (m + 1) * n = n + m * n by rw [Nat.succ_mul, Nat.add_comm], itf_add]
      have a := dn y
      have b := ih (itf f y n)
      have e : ((m + 1 : Nat) : Int) * (itf f z n - z - L) = m * (itf f z n - z - L) + (itf f z n - z - L) := by push_cast; grind
      omega
  have a := upN p x
  have b := dnN p x
  have e := itf_laps F h1 n
  rw [Nat.mul_comm] at e
  rw [e] at a b
  generalize itf f z n - z = D at a b ⊢
  have e3 : (n : Int) * (c * L) * pr.2 = n * pr.1 * L * p := by grind
  have a1 : n * pr.1 * L * p ≤ (D + L) * pr.2 * p := by
    have := Int.mul_le_mul_of_nonneg_right (show (n : Int) * (c * L) ≤ p * (D + L) by omega) (Int.le_of_lt hp2)
    have e4 : (p : Int) * (D + L) * pr.2 = (D + L) * pr.2 * p := by grind
    omega
  have b1 : (D - L) * pr.2 * p ≤ n * pr.1 * L * p := by
    have := Int.mul_le_mul_of_nonneg_right (show (p : Int) * (D - L) ≤ (n : Int) * (c * L) by omega) (Int.le_of_lt hp2)
    have e4 : (p : Int) * (D - L) * pr.2 = (D - L) * pr.2 * p := by grind
    omega
  have a2 := Int.le_of_mul_le_mul_right a1 (by omega)
  have b2 := Int.le_of_mul_le_mul_right b1 (by omega)
  have e5 : (D + L) * pr.2 = D * pr.2 + pr.2 * L := by grind
  have e6 : (D - L) * pr.2 = D * pr.2 - pr.2 * L := by grind
  have e7 : 0 ≤ pr.2 * L := Int.mul_nonneg (Int.le_of_lt hp2) (Int.le_of_lt hL)
  omega
/-- each lead so many turns farther -/
theorem pace_farther {f : Int → Int} (F : Hand L f) {pr : Int × Int} (P : PaceOf L f pr) (k : Int) : PaceOf L (fun x => f x + k * L) (pr.1 + k * pr.2, pr.2) := by
  obtain ⟨x, c, p, p0, h1, h2⟩ := P.lap
  have h : ∀ (n : Nat) (x : Int), itf (fun x => f x + k * L) x n = itf f x n + n * (k * L) := by
    intro n
    induction n with
    | zero => intro x; simp [itf]
    | succ n ih =>
      intro x
      show f (itf (fun x => f x + k * L) x n) + k * L = f (itf f x n) + _
      rw [ih]
      have e : (n : Int) * (k * L) = (n * k) * L := by grind
      rw [e, F.turn]
      push_cast
      grind
  refine ⟨P.pos, ?_, x, c + p * k, p, p0, ?_, ?_⟩
  · show Int.gcd (pr.1 + k * pr.2) pr.2 = 1
    rw [Int.gcd_add_mul_right_left]; exact P.cop
  · rw [h, h1]; grind
  · show (pr.1 + k * pr.2) * p = (c + p * k) * pr.2
    grind
end
def lowT (a b : Int) : Int × Int := (a / (Int.gcd a b : Int), b / (Int.gcd a b : Int))
theorem low_terms {a b : Int} (hb : 0 < b) : Int.gcd (a / (Int.gcd a b : Int)) (b / (Int.gcd a b : Int)) = 1 ∧ 0 < b / (Int.gcd a b : Int) ∧ a / (Int.gcd a b : Int) * b = a * (b / (Int.gcd a b : Int)) ∧ b / (Int.gcd a b : Int) ≤ b := by
  have g0 : 0 < Int.gcd a b := Int.gcd_pos_of_ne_zero_right a (by omega)
  have d1 := Int.gcd_dvd_left a b
  have d2 := Int.gcd_dvd_right a b
  refine ⟨Int.gcd_ediv_gcd_ediv_gcd g0, ?_, ?_, ?_⟩
  · rw [Int.lt_ediv_iff_mul_lt (by omega) d2]; omega
  · obtain ⟨x, hx⟩ := d1
    obtain ⟨y, hy⟩ := d2
    generalize hg : (Int.gcd a b : Int) = g at *
    rw [hx, Int.mul_ediv_cancel_left _ (by omega), hy, Int.mul_ediv_cancel_left _ (by omega)]
    grind
  · exact Int.ediv_le_self _ (by omega)
def SzQ (n : Nat) (s : Int × Int) : Prop := s.1.natAbs < 2 ^ n ∧ s.2.natAbs < 2 ^ n
theorem lowQ_size {a b : Int} {n : Nat} (ha : a.natAbs < 2 ^ n) (hb : b.natAbs < 2 ^ n) : SzQ n (lowT a b) := ⟨Nat.lt_of_le_of_lt (Int.natAbs_ediv_le_natAbs _ _) ha, Nat.lt_of_le_of_lt (Int.natAbs_ediv_le_natAbs _ _) hb⟩
end KA
namespace KA
open PySem PySem.Spec PyProof.Rows L2 DP
/-! ### the pace that a walk shows -/
def spLowest (K : PySem.W.Frag) : Sp := fun vs H Q _ => ∃ (a b : Int), vs = [.int a, .int b] ∧ 0 < b ∧ b.natAbs < 2 ^ 1000 ∧ ∀ H' r, Same H H' → Dp K H' r (encP (lowT a b)) → Q r H'
/-- a round's pace, from 0 on, in lowest terms -/
structure RPace (sd : Str) (L : Int) (kn : List (List Lk)) (pr : Pr) : Prop where
  pos : 0 < pr.2
  cop : Int.gcd pr.1 pr.2 = 1
  lap : ∃ (n p : Nat) (x c : Int), 0 < p ∧ it sd L kn 0 n = some x ∧ it sd L kn 0 (n + p * kn.length) = some (x + c * L) ∧ pr.1 * p = c * pr.2
def encO : Option Pr → PyData
  | none => .none
  | some l => encP l
/-- what a walk tells: no pace, for it breaks off, or one -/
def PaceOpt (sd : Str) (L : Int) (kn : List (List Lk)) (o : Option Pr) : Prop := (o = none ∧ ∃ n, it sd L kn 0 n = none) ∨ ∃ pr, o = some pr ∧ RPace sd L kn pr ∧ SzQ 393 pr
def spSideP (Z : Ad) (K : PySem.W.Frag) : Sp := fun vs H Q _ => ∃ (hp : Addr) (ds : List Addr) (sd : Str) (L : Int) (hs : List (List Lk)), vs = [.ref hp, .str sd] ∧ SqL K H hp (refs ds) ∧ Darks Z K H ds L hs ∧ 0 < ds.length ∧ ds.length ≤ 60 ∧ SideOk sd ∧
  ∀ H' r o, Same H H' → Dp K H' r (encO o) → PaceOpt sd L (hs.map (sideOf sd)) o → Q r H'
section
variable {P : Program} {w : World} {K : PySem.W.Frag} {mg : Str → Option Value} {base : Heap} {Z : Ad}
theorem ok_lowest (T : Tx K w mg Z) : FnOk P w K mg base CX0 1 Z.a_lowest Z.d_lowest P_lowest (spLowest K) := by
  refine T.F_lowest.ok sclowest (fun vs H Q E h => ?_) (fun cdv A outer s H vs Q E hr h => ?_)
  · obtain ⟨a, b, rfl, _⟩ := h
    rfl
  · obtain ⟨a, b, rfl, hb, hbb, k⟩ := h
    have g0 : 0 < Int.gcd a b := Int.gcd_pos_of_ne_zero_right a (by omega)
    have g1 : (Int.gcd a b : Int) ≤ b := Int.gcd_le_right a hb
    have g2 : ((Int.gcd a b : Int)).natAbs < 2 ^ 1000 := Nat.lt_of_le_of_lt (by omega) hbb
    refine ⟨_, (pss_cons (ps_set (i := 2) sclowest.nd rfl (Or.inl rfl) (pe_callBfun cr_gcd (by rfl) T.g_gcd (pa_cons (pv 0) (pa_cons (pv 1) pa_nil))))
      (pss_one (ps_ret (pe_tup (pa_cons (pe_op op_fdivW (pv 0) (pv 2)) (pa_cons (pe_op op_fdivW (pv 1) (pv 2)) pa_nil)))))), ?_⟩
    refine ⟨_, rfl, _, rfl, a, b, rfl, ?_⟩
    have e : ((Nat.gcd a.natAbs b.natAbs : Nat) : Int) = (Int.gcd a b : Int) := rfl
    rw [e]
    refine ⟨_, rfl, _, rfl, _, _, rfl, rfl, wide_div (by omega) g2 (by decide) (by decide), _, rfl, _, rfl, _, _, rfl, rfl, wide_div (by omega) g2 (by decide) (by decide), (by show 2 ≤ sizeLine; decide), fun q hq => ?_⟩
    exact k _ _ (same_upd hq) (dp_two upd_same)
theorem ok_side_pace (T : Tx K w mg Z) : FnOk P w K mg base CX0 6 Z.a_side_pace Z.d_side_pace P_side_pace (spSideP Z K) := by
  refine T.F_side_pace.ok scside_pace (fun vs H Q E h => ?_) (fun cdv A outer s H vs Q E hr h => ?_)
  · obtain ⟨hp, ds, sd, L, hs, rfl, _⟩ := h
    rfl
  · obtain ⟨hp, ds, sd, L, hs, rfl, hh, hD, hd0, hd1, hsd, k⟩ := h
    refine ⟨_, (pss_cons (ps_set (i := 2) scside_pace.nd rfl (Or.inl rfl) (pe_make T.mk_Walk (ok_Walk_init T) (hr.mono (by decide)) (by rfl) T.g_Walk T.bb_Walk_init .nil pass0 (pa_cons (pv 0) (pa_cons (pv 1) (pa_cons pe_int pa_nil)))))
      (C8.pss_cut (ps_if (pt_cmpR op_isN (fldK (K := K) (pv 2) rfl) pe_non (nomark _)) (pss_one (ps_ret pe_non)) pss_nil)
      (pss_one (ps_ret (pe_call (ok_lowest T) (hr.mono (by decide)) (by rfl) T.g_lowest T.F_lowest.kp T.bb_lowest .nil pass0 (pa_cons (pe_op op_fdivW (pe_meth0 (pv 2) T.cl_Walk T.m_Walk_climb (ok_Walk_climb T) (hr.mono (by decide)) T.bb_Walk_climb .nil pass0) (pe_meth0 (pe_ix (ixL (K := K)) (pv 0) pe_int (fun _ _ => rfl)) T.cl T.m_Dark_length (ok_Dark_length T) (hr.mono (by decide)) T.bb_Dark_length .nil pass0)) (pa_cons (pe_op op_fdivW (pe_meth0 (pv 2) T.cl_Walk T.m_Walk_period (ok_Walk_period T) (hr.mono (by decide)) T.bb_Walk_period .nil pass0) (pe_callB (lenK (K := K)) (by rfl) T.b_len (by decide +kernel) (pa_cons (pv 0) pa_nil))) pa_nil))))))), ?_⟩
    refine ⟨_, rfl, _, rfl, fun w dx hwn hdx hne => ?_⟩
    have S2 := same_made (o := HO.ins Z.C_Walk dx []) hwn hdx
    have hD2 := hD.same S2
    have hdw : ∀ d ∈ ds, d ≠ w := fun d hd e => by
      obtain ⟨i, hi, e1⟩ := List.getElem_of_mem hd
      have hi' : ds[i]? = some d := by rw [List.getElem?_eq_getElem hi, e1]
      obtain ⟨ls, _, DD⟩ := hD.get hi'
      obtain ⟨dx', la, vs, q1, _⟩ := DD.ex
      rw [e, hwn] at q1; cases q1
    refine ⟨w, hp, dx, ds, sd, L, 0, hs, rfl, upd_same, Same.sqL S2 hh, hD2, hd0, hd1, hsd, by decide, hdw, fun H3 pl tb ps tl st W E hm WA k3 => ⟨rfl, ?_⟩⟩
    have S3 : Same H H3 := fun b o e => k3 b o (S2 b o e) (fun e' => by
      subst e'
      rw [e] at hwn; cases hwn)
    obtain ⟨dxw, tvs, q1, q2, q3, q4⟩ := id WA.ex
    have hl := hD.1
    have hwl := W.len
    have hkn := knOk hD sd
    have hN : tl.length < 4000 := by
      have h1 := marks_le (by rw [List.length_map]; omega) W (n := tl.length) (by have := W.len; omega) hm
      have h2 := cand_len hkn (L := L) 0
      have h3 : (hs.map (sideOf sd)).length * 60 ≤ 60 * 60 := Nat.mul_le_mul_right 60 (by rw [List.length_map]; omega)
      omega
    obtain ⟨d0, hd00⟩ : ∃ d0, ds[0]? = some d0 := ⟨ds[0], List.getElem?_eq_getElem hd0⟩
    obtain ⟨ls0, hls0, D0⟩ := (hD.same S3).get hd00
    have hix : atI (refs ds) 0 = some (.ref d0) := by
      refine at_of (j := 0) rfl ?_
      show (ds.map V.ref)[0]? = _
      rw [List.getElem?_map, hd00]; rfl
    obtain ⟨dx0, la0, vs0, e1, e2, e3⟩ := id D0.ex
    cases st with
    | none =>
      refine ⟨fun _ _ => False, ?_, fun _ _ z => z.elim⟩
      exact ⟨_, rfl, w, Z.C_Walk, dxw, _, _, rfl, q1, T.cl_Walk, T.nWalk_start, wf_start _ _ _, rfl, _, rfl, iteT (k H3 .non none S3 .non (.inl ⟨rfl, ps.length, behind_none W E (Nat.le_refl _)⟩))⟩
    | some s =>
      refine ⟨fun σ' H' => σ' = [some (.ref hp), some (.str sd), some (.ref w)] ∧ H' = H3, ?_, ?_⟩
      · exact ⟨_, rfl, w, Z.C_Walk, dxw, _, _, rfl, q1, T.cl_Walk, T.nWalk_start, wf_start _ _ _, rfl, _, rfl, iteF ⟨rfl, rfl⟩⟩
      rintro σ4 H4 ⟨rfl, rfl⟩
      obtain ⟨hs1, hs2, a, b, ha, hb, hab⟩ := id E
      have hmL : (hs.map (sideOf sd)).length = ds.length := by rw [List.length_map]; omega
      have hm0 : 0 < ds.length := hd0
      obtain ⟨p, hp0⟩ : ∃ p, tl.length - s = p * ds.length := by
        rw [hmL] at hs2
        have h1 := Nat.div_add_mod tl.length ds.length
        have h2 := Nat.div_add_mod s ds.length
        refine ⟨tl.length / ds.length - s / ds.length, ?_⟩
        rw [Nat.sub_mul, Nat.mul_comm (tl.length / ds.length), Nat.mul_comm (s / ds.length)]
        omega
      have hpp : 0 < p := by
        rcases Nat.eq_zero_or_pos p with e | e
        · subst e; omega
        · exact e
      have hpl : p < 4000 := by
        have : p * 1 ≤ p * ds.length := Nat.mul_le_mul_left _ hm0
        omega
      have hper : ((tl.length : Int) - s) / (ds.length : Int) = (p : Int) := by
        have e : (tl.length : Int) - s = (p : Int) * (ds.length : Int) := by
          have : ((tl.length - s : Nat) : Int) = ((p * ds.length : Nat) : Int) := by rw [hp0]
          push_cast at this
          omega
        rw [e, Int.mul_ediv_cancel _ (by omega)]
      have hsm : ∀ i, i < ps.length → (ps.getD i 0).natAbs < 2 ^ 391 := fun i hi => by
        have q1 := W.small D0.pos D0.big hkn i (ps.getD i 0) (by rw [List.getD_eq_getElem?_getD, List.getElem?_eq_getElem hi]; rfl)
        have q2 : i * 2 ^ 312 ≤ 2 ^ 390 := Nat.le_trans (Nat.mul_le_mul_right _ (by omega : i ≤ 4000)) (by decide)
        have q3 : (2 : Nat) ^ 391 = 2 ^ 390 + 2 ^ 390 := by rw [Nat.pow_succ, Nat.mul_two]
        have q4 : (0 : Int).natAbs = 0 := rfl
        omega
      have hcl : ((ps.getD tl.length 0 - ps.getD s 0) / L).natAbs < 2 ^ 393 := div_lt D0.pos (sub_lt (hsm _ (by omega)) (hsm _ (by omega)))
      have hno1 := wf_no pl tb (stV (some s)) (m := "climb") (by decide +kernel) (by decide +kernel) (by decide +kernel)
      have hno2 := wf_no pl tb (stV (some s)) (m := "period") (by decide +kernel) (by decide +kernel) (by decide +kernel)
      have hh4 := Same.sqL S3 hh
      refine ⟨_, rfl, w, dxw, _, rfl, q1, hno1, w, pl, tb, ps, tl, s, rfl, WA, hwl, hs1, ?_⟩
      refine ⟨_, rfl, _, _, _, _, rfl, rfl, hh4, hix, d0, dx0, _, rfl, e1, df_no _ _ (by decide +kernel) (by decide +kernel), d0, L, ls0, rfl, D0, _, _, rfl, rfl, wide_div D0.pos D0.big (by decide) (by decide), ?_⟩
      have hdl : ((refs ds).length : Int) = (ds.length : Int) := by show ((ds.map V.ref).length : Int) = _; rw [List.length_map]
      refine ⟨_, rfl, w, dxw, _, rfl, q1, hno2, w, pl, tb, ps, tl, s, rfl, WA, _, rfl, hp, _, rfl, .inl hh4, _, _, rfl, rfl, wide_div (b := 10) (by rw [hdl]; omega) (by rw [hdl]; exact Nat.lt_of_le_of_lt (by omega : (ds.length : Int).natAbs ≤ 60) (by decide)) (by decide) (by decide), ?_⟩
      have ep : (fun i j => V.int (i / j)) ((tl.length : Int) - s) ((refs ds).length : Int) = .int (p : Int) := by rw [hdl]; show V.int _ = _; rw [hper]
      have hpb : (p : Int).natAbs < 2 ^ 393 := Nat.lt_of_lt_of_le (by omega : _ < 4000) (by decide)
      refine ⟨(ps.getD tl.length 0 - ps.getD s 0) / L, (p : Int), (by rw [← ep]; rfl), by omega, Nat.lt_of_lt_of_le (by omega : (p : Int).natAbs < 4000) (by decide), fun H5 r S5 hr5 => ?_⟩
      obtain ⟨c1, c2, c3, c4⟩ := low_terms (a := (ps.getD tl.length 0 - ps.getD s 0) / L) (b := (p : Int)) (by omega)
      have ga : ps.getD s 0 = a := by rw [List.getD_eq_getElem?_getD, ha]; rfl
      have gb : ps.getD tl.length 0 = b := by rw [List.getD_eq_getElem?_getD, hb]; rfl
      refine k H5 r (some _) (S3.trans S5) hr5 (.inr ⟨_, rfl, ⟨c2, c1, s, p, ps.getD s 0, (ps.getD tl.length 0 - ps.getD s 0) / L, hpp, behind_in W (by omega), ?_, c3⟩, lowQ_size hcl hpb⟩)
      rw [hmL, ← hp0, show s + (tl.length - s) = tl.length by omega, behind_in W (by omega)]
      have q1 := Int.mul_ediv_add_emod (ps.getD tl.length 0 - ps.getD s 0) L
      have q2 : (ps.getD tl.length 0 - ps.getD s 0) % L = 0 := Int.emod_eq_zero_of_dvd (Int.dvd_of_emod_eq_zero (by rw [Int.sub_emod, ga, gb, hab, Int.sub_self, Int.zero_emod]))
      rw [Int.mul_comm] at q1
      congr 1
      omega
end
end KA
namespace KA
open PySem PySem.Spec PyProof.Rows L2 DP
/-! ### a round as one leading -/
noncomputable def rf (sd : Str) (L : Int) : List (List Lk) → Int → Int
  | [] => fun x => x
  | ls :: r => fun x => rf sd L r (bst sd ls x L)
def Filled (kn : List (List Lk)) : Prop := ∀ ls ∈ kn, ls ≠ []
theorem bst_hand {sd : Str} (hs : SideOk sd) {L : Int} (hL : 0 < L) {ls : List Lk} (h : ls ≠ []) : Hand L (fun x => bst sd ls x L) :=
  ⟨fun x y hxy => best_mono hL (bst_is hs h x L) (bst_is hs h y L) hxy, fun x k => bst_of (best_shift hL k (bst_is hs h x L))⟩
theorem rf_hand {sd : Str} (hs : SideOk sd) {L : Int} (hL : 0 < L) : ∀ {kn : List (List Lk)}, Filled kn → Hand L (rf sd L kn)
  | [], _ => ⟨fun _ _ h => h, fun _ _ => rfl⟩
  | ls :: r, h => by
    have F := bst_hand hs hL (h ls List.mem_cons_self)
    have G := rf_hand hs hL (kn := r) fun l hl => h l (List.mem_cons_of_mem _ hl)
    refine ⟨fun x y hxy => G.mono _ _ (F.mono _ _ hxy), fun x k => ?_⟩
    show rf sd L r (bst sd ls (x + k * L) L) = _
    have e : bst sd ls (x + k * L) L = bst sd ls x L + k * L := F.turn x k
    rw [e]
    exact G.turn _ _
theorem rf_append (sd : Str) (L : Int) : ∀ (a b : List (List Lk)) (x : Int), rf sd L (a ++ b) x = rf sd L b (rf sd L a x)
  | [], _, _ => rfl
  | _ :: a, b, x => rf_append sd L a b _
theorem it_part {sd : Str} (hs : SideOk sd) {L : Int} {kn : List (List Lk)} (h : Filled kn) {x y : Int} {n : Nat} (hy : it sd L kn x (n * kn.length) = some y) : ∀ i, i ≤ kn.length → it sd L kn x (n * kn.length + i) = some (rf sd L (kn.take i) y)
  | 0, _ => by simpa [rf] using hy
  | i + 1, hi => by
    have h1 := it_part hs h hy i (by omega)
    have e : (n * kn.length + i) % kn.length = i := by
      rw [Nat.mul_comm, Nat.mul_add_mod, Nat.mod_eq_of_lt (by omega)]
    have hg : kn[i]? = some (kn.getD i []) := by rw [List.getD_eq_getElem?_getD, List.getElem?_eq_getElem (by omega)]; rfl
    show it sd L kn x (n * kn.length + i + 1) = _
    rw [it_succ, h1, e, take_snoc hg, rf_append]
    exact stp_some hs (h _ (List.mem_of_getElem? hg))
theorem it_rf {sd : Str} (hs : SideOk sd) {L : Int} {kn : List (List Lk)} (h : Filled kn) (x : Int) : ∀ n, it sd L kn x (n * kn.length) = some (itf (rf sd L kn) x n)
  | 0 => by rw [Nat.zero_mul]; rfl
  | n + 1 => by
    have h1 := it_part (L := L) hs h (it_rf (L := L) hs h x n) kn.length (Nat.le_refl _)
    rw [List.take_length] at h1
    rw [Nat.succ_mul]
    exact h1
theorem it_full {sd : Str} (hs : SideOk sd) {L : Int} {kn : List (List Lk)} (h : Filled kn) (h0 : 0 < kn.length) (x : Int) (n : Nat) : it sd L kn x n ≠ none := fun e => by
  have h1 := it_none e (n * kn.length - n)
  have h2 : n ≤ n * kn.length := Nat.le_mul_of_pos_right _ h0
  rw [show n + (n * kn.length - n) = n * kn.length by omega, it_rf hs h] at h1
  cases h1
theorem it_gap {sd : Str} {L : Int} {kn : List (List Lk)} (h : ¬ Filled kn) (x : Int) : ∃ n, ∀ m, n ≤ m → it sd L kn x m = none := by
  have : ∃ ls, ls ∈ kn ∧ ls = [] := Classical.byContradiction fun hno => h fun ls hl e => hno ⟨ls, hl, e⟩
  obtain ⟨ls, hl, rfl⟩ := this
  obtain ⟨i, hi, e⟩ := List.getElem_of_mem hl
  have h1 : it sd L kn x (i + 1) = none := by
    rw [it_succ, Nat.mod_eq_of_lt hi]
    have e2 : kn.getD i [] = [] := by rw [List.getD_eq_getElem?_getD, List.getElem?_eq_getElem hi, e]; rfl
    rw [e2]
    cases it sd L kn x i with
    | none => rfl
    | some y => exact stp_nil
  exact ⟨i + 1, fun m hm => by
    have := it_none h1 (m - (i + 1))
    rwa [show i + 1 + (m - (i + 1)) = m by omega] at this⟩
/-- a round's pace is its one leading's -/
theorem RPace.of {sd : Str} (hs : SideOk sd) {L : Int} (hL : 0 < L) {kn : List (List Lk)} (h : Filled kn) (h0 : 0 < kn.length) {pr : Pr} (P : RPace sd L kn pr) : PaceOf L (rf sd L kn) pr := by
  obtain ⟨n, p, x, c, p0, e1, e2, e3⟩ := P.lap
  have hm : n % kn.length = (n + p * kn.length) % kn.length := by rw [Nat.add_mul_mod_self_right]
  have ht := it_turn hs hL hm (k := c) (by rw [e2, e1]; rfl)
  obtain ⟨r, q, hr⟩ : ∃ r q, n + r = q * kn.length := by
    refine ⟨kn.length * (n + 1) - n, n + 1, ?_⟩
    have : n + 1 ≤ kn.length * (n + 1) := Nat.le_mul_of_pos_left _ h0
    rw [Nat.mul_comm (n + 1)]
    omega
  have h2 := ht r
  rw [hr, show n + p * kn.length + r = (q + p) * kn.length by rw [Nat.add_mul, ← hr]; omega, it_rf hs h, it_rf hs h] at h2
  have h3 := Option.some.inj h2
  refine ⟨P.pos, P.cop, itf (rf sd L kn) 0 q, c, p, p0, ?_, e3⟩
  rw [← itf_add]
  exact h3
/-- what paces tells of a side -/
def PaceIs (sd : Str) (L : Int) (kn : List (List Lk)) (o : Option Pr) : Prop := (¬ Filled kn → o = none) ∧ (Filled kn → ∃ pr, o = some pr ∧ PaceOf L (rf sd L kn) pr ∧ SzQ 393 pr)
theorem PaceIs.one {sd : Str} (hs : SideOk sd) {L : Int} (hL : 0 < L) {kn : List (List Lk)} {o o' : Option Pr} (h : PaceIs sd L kn o) (h' : PaceIs sd L kn o') : o = o' := by
  by_cases c : Filled kn
  · obtain ⟨p, rfl, P, _⟩ := h.2 c
    obtain ⟨p', rfl, P', _⟩ := h'.2 c
    rw [P.one hL (rf_hand hs hL c) P']
  · rw [h.1 c, h'.1 c]
/-- from one round to another whose leading goes along -/
theorem PaceIs.map {sd sd' : Str} (hs' : SideOk sd') {L L' : Int} (hL' : 0 < L') {kn kn' : List (List Lk)} {o o' : Option Pr} (g : Pr → Pr) (hf : Filled kn ↔ Filled kn') (hg : ∀ pr, Filled kn → PaceOf L (rf sd L kn) pr → PaceOf L' (rf sd' L' kn') (g pr)) (h : PaceIs sd L kn o) (h' : PaceIs sd' L' kn' o') : o' = o.map g := by
  by_cases c : Filled kn
  · obtain ⟨p, rfl, P, _⟩ := h.2 c
    obtain ⟨p', rfl, P', _⟩ := h'.2 (hf.mp c)
    rw [P'.one hL' (rf_hand hs' hL' (hf.mp c)) (hg p c P)]; rfl
  · rw [h.1 c, h'.1 fun q => c (hf.mpr q)]; rfl
/-- begun at another hand -/
theorem turned_filled (kn : List (List Lk)) (k : Nat) : Filled kn ↔ Filled (kn.drop k ++ kn.take k) := by
  have : ∀ ls, ls ∈ kn ↔ ls ∈ kn.drop k ++ kn.take k := fun ls => by
    rw [List.mem_append]
    constructor
    · intro h
      rw [← List.take_append_drop k kn] at h
      exact (List.mem_append.mp h).symm
    · rintro (h | h)
      · exact List.mem_of_mem_drop h
      · exact List.mem_of_mem_take h
  exact ⟨fun h ls hl => h ls ((this ls).mpr hl), fun h ls hl => h ls ((this ls).mp hl)⟩
theorem conj_itf {f g A : Int → Int} (h : ∀ x, g (A x) = A (f x)) (x : Int) : ∀ n, itf g (A x) n = A (itf f x n)
  | 0 => rfl
  | n + 1 => by
    show g (itf g (A x) n) = A (f (itf f x n))
    rw [conj_itf h x n, h]
theorem turned_pace {sd : Str} (hs : SideOk sd) {L : Int} (hL : 0 < L) {kn : List (List Lk)} (k : Nat) {pr : Pr} (c : Filled kn) (P : PaceOf L (rf sd L kn) pr) : PaceOf L (rf sd L (kn.drop k ++ kn.take k)) pr := by
  obtain ⟨x, c', p, p0, h1, h2⟩ := P.lap
  have F := rf_hand hs hL (kn := kn.take k) fun ls hl => c ls (List.mem_of_mem_take hl)
  refine ⟨P.pos, P.cop, rf sd L (kn.take k) x, c', p, p0, ?_, h2⟩
  have hc : ∀ y, rf sd L (kn.drop k ++ kn.take k) (rf sd L (kn.take k) y) = rf sd L (kn.take k) (rf sd L kn y) := fun y => by
    rw [rf_append, ← rf_append sd L (kn.take k) (kn.drop k), List.take_append_drop]
  rw [conj_itf hc, h1, F.turn]
/-- drawn out and moved -/
def outL (t d : Int) (l : Lk) : Lk := (l.1, l.2.1 * t + d, l.2.2 * t + d)
theorem plc_out {sd : Str} {L t d : Int} (hL : 0 < L) (ht : 0 < t) (l : Lk) (z : Int) : plc sd (outL t d l) (z * t + d) (L * t) = plc sd l z L * t + d := by
  unfold plc outL
  have e1 : ∀ u v : Int, (u * t + d - (v * t + d)) / (L * t) = (u - v) / L := fun u v => by
    rw [show u * t + d - (v * t + d) = (u - v) * t by grind, Int.mul_ediv_mul_of_pos_left _ _ ht]
  split
  · show l.2.2 * t + d + (z * t + d - (l.2.1 * t + d)) / (L * t) * (L * t) = _
    rw [e1]; grind
  · show l.2.2 * t + d - (l.2.1 * t + d - (z * t + d)) / (L * t) * (L * t) = _
    rw [e1]; grind
theorem bst_out {sd : Str} (hs : SideOk sd) {L t d : Int} (hL : 0 < L) (ht : 0 < t) {ls : List Lk} (h : ls ≠ []) (z : Int) : bst sd (ls.map (outL t d)) (z * t + d) (L * t) = bst sd ls z L * t + d := by
  obtain ⟨⟨l, hl, e⟩, h2⟩ := bst_is hs h z L
  refine bst_of ⟨⟨_, List.mem_map.mpr ⟨l, hl, rfl⟩, by rw [plc_out hL ht, e]⟩, fun q hq => ?_⟩
  obtain ⟨l', hl', rfl⟩ := List.mem_map.mp hq
  have h3 := h2 l' hl'
  rw [plc_out hL ht]
  split
  · rename_i c
    rw [if_pos c] at h3
    have := Int.mul_le_mul_of_nonneg_right h3 (Int.le_of_lt ht)
    omega
  · rename_i c
    rw [if_neg c] at h3
    have := Int.mul_le_mul_of_nonneg_right h3 (Int.le_of_lt ht)
    omega
theorem side_out (sd : Str) (t d : Int) (ls : List Lk) : sideOf sd (ls.map (outL t d)) = (sideOf sd ls).map (outL t d) := by
  unfold sideOf
  rw [List.filter_map]
  rfl
theorem rf_out {sd : Str} (hs : SideOk sd) {L t d : Int} (hL : 0 < L) (ht : 0 < t) : ∀ {kn : List (List Lk)}, Filled kn → ∀ z, rf sd (L * t) (kn.map (List.map (outL t d))) (z * t + d) = rf sd L kn z * t + d
  | [], _, _ => rfl
  | ls :: r, h, z => by
    show rf sd (L * t) (r.map (List.map (outL t d))) (bst sd (ls.map (outL t d)) (z * t + d) (L * t)) = _
    rw [bst_out hs hL ht (h ls List.mem_cons_self), rf_out hs hL ht (fun l hl => h l (List.mem_cons_of_mem _ hl))]; rfl
theorem out_filled (kn : List (List Lk)) (t d : Int) : Filled kn ↔ Filled (kn.map (List.map (outL t d))) := by
  constructor
  · intro h ls hl
    obtain ⟨l, hl', rfl⟩ := List.mem_map.mp hl
    intro e
    exact h l hl' (List.map_eq_nil_iff.mp e)
  · intro h ls hl e
    exact h _ (List.mem_map.mpr ⟨ls, hl, rfl⟩) (by rw [e]; rfl)
theorem out_pace {sd : Str} (hs : SideOk sd) {L t d : Int} (hL : 0 < L) (ht : 0 < t) {kn : List (List Lk)} {pr : Pr} (c : Filled kn) (P : PaceOf L (rf sd L kn) pr) : PaceOf (L * t) (rf sd (L * t) (kn.map (List.map (outL t d)))) pr := by
  obtain ⟨x, c', p, p0, h1, h2⟩ := P.lap
  refine ⟨P.pos, P.cop, x * t + d, c', p, p0, ?_, h2⟩
  have := conj_itf (f := rf sd L kn) (g := rf sd (L * t) (kn.map (List.map (outL t d)))) (A := fun z => z * t + d) (rf_out hs hL ht c) x p
  rw [this, h1]
  grind
/-- behind any uses, drawn out and moved -/
theorem it_out {sd : Str} (hs : SideOk sd) {L t d : Int} (hL : 0 < L) (ht : 0 < t) (kn : List (List Lk)) (x : Int) : ∀ n, it sd (L * t) (kn.map (List.map (outL t d))) (x * t + d) n = (it sd L kn x n).map fun z => z * t + d
  | 0 => rfl
  | n + 1 => by
    rw [it_succ, it_succ, it_out hs hL ht kn x n, List.length_map]
    have e : (kn.map (List.map (outL t d))).getD (n % kn.length) [] = (kn.getD (n % kn.length) []).map (outL t d) := by
      rw [List.getD_eq_getElem?_getD, List.getElem?_map, List.getD_eq_getElem?_getD]
      cases kn[n % kn.length]? <;> rfl
    rw [e]
    cases it sd L kn x n with
    | none => rfl
    | some y =>
      show stp sd (L * t) _ (y * t + d) = _
      by_cases c : kn.getD (n % kn.length) [] = []
      · rw [c]
        show stp sd (L * t) [] _ = (stp sd L [] y).map _
        rw [stp_nil, stp_nil]; rfl
      · have c2 : (kn.getD (n % kn.length) []).map (outL t d) ≠ [] := fun e => c (List.map_eq_nil_iff.mp e)
        rw [stp_some hs c2, bst_out hs hL ht c]
        show _ = (stp sd L _ y).map _
        rw [stp_some hs c]; rfl
/-- one hand's looks some turns farther -/
def farL (k L : Int) (l : Lk) : Lk := (l.1, l.2.1, l.2.2 + k * L)
theorem bst_far {sd : Str} (hs : SideOk sd) {L k : Int} {ls : List Lk} (h : ls ≠ []) (z : Int) : bst sd (ls.map (farL k L)) z L = bst sd ls z L + k * L := by
  have ep : ∀ l : Lk, plc sd (farL k L l) z L = plc sd l z L + k * L := fun l => by
    unfold plc farL
    split
    · show l.2.2 + k * L + (z - l.2.1) / L * L = _; omega
    · show l.2.2 + k * L - (l.2.1 - z) / L * L = _; omega
  obtain ⟨⟨l, hl, e⟩, h2⟩ := bst_is hs h z L
  refine bst_of ⟨⟨_, List.mem_map.mpr ⟨l, hl, rfl⟩, by rw [ep, e]⟩, fun q hq => ?_⟩
  obtain ⟨l', hl', rfl⟩ := List.mem_map.mp hq
  have h3 := h2 l' hl'
  rw [ep]
  split
  · rename_i c
    rw [if_pos c] at h3; omega
  · rename_i c
    rw [if_neg c] at h3; omega
theorem side_far (sd : Str) (k L : Int) (ls : List Lk) : sideOf sd (ls.map (farL k L)) = (sideOf sd ls).map (farL k L) := by
  unfold sideOf
  rw [List.filter_map]
  rfl
theorem rf_far {sd : Str} (hs : SideOk sd) {L : Int} (hL : 0 < L) (k : Int) : ∀ {kn : List (List Lk)} (i : Nat) (ls : List Lk), kn[i]? = some ls → Filled kn → ∀ z, rf sd L (kn.set i (ls.map (farL k L))) z = rf sd L kn z + k * L
  | [], _, _, h, _, _ => by simp at h
  | l :: r, 0, ls, h, c, z => by
    have e : l = ls := Option.some.inj h
    subst e
    show rf sd L r (bst sd (l.map (farL k L)) z L) = rf sd L r (bst sd l z L) + k * L
    rw [bst_far hs (c l List.mem_cons_self), (rf_hand hs hL (kn := r) fun q hq => c q (List.mem_cons_of_mem _ hq)).turn]
  | l :: r, i + 1, ls, h, c, z => rf_far hs hL k (kn := r) i ls h (fun q hq => c q (List.mem_cons_of_mem _ hq)) (bst sd l z L)
theorem far_filled {kn : List (List Lk)} {i : Nat} {ls : List Lk} (h : kn[i]? = some ls) (k L : Int) : Filled kn ↔ Filled (kn.set i (ls.map (farL k L))) := by
  have hi := (List.getElem?_eq_some_iff.mp h).1
  constructor
  · intro c q hq e
    rcases List.mem_or_eq_of_mem_set hq with h1 | h1
    · exact c q h1 e
    · rw [h1] at e
      exact c ls (List.mem_of_getElem? h) (List.map_eq_nil_iff.mp e)
  · intro c q hq e
    obtain ⟨j, hj, ej⟩ := List.getElem_of_mem hq
    by_cases eij : i = j
    · subst eij
      rw [List.getElem?_eq_getElem hi, ej] at h
      have e2 : q = ls := Option.some.inj h
      refine c (ls.map (farL k L)) (List.mem_of_getElem? (i := i) (by rw [List.getElem?_set_self hi])) ?_
      rw [← e2, e]; rfl
    · exact c q (List.mem_of_getElem? (i := j) (by rw [List.getElem?_set_ne eij, List.getElem?_eq_getElem hj, ej])) e
theorem far_pace {sd : Str} (hs : SideOk sd) {L : Int} (hL : 0 < L) (k : Int) {kn : List (List Lk)} {i : Nat} {ls : List Lk} (h : kn[i]? = some ls) {pr : Pr} (c : Filled kn) (P : PaceOf L (rf sd L kn) pr) : PaceOf L (rf sd L (kn.set i (ls.map (farL k L)))) (pr.1 + k * pr.2, pr.2) := by
  have e : rf sd L (kn.set i (ls.map (farL k L))) = fun x => rf sd L kn x + k * L := funext fun z => rf_far hs hL k i ls h c z
  rw [e]
  exact pace_farther (rf_hand hs hL c) P k
/-! ### heard or handed -/
theorem stp_heard {sd : Str} (hs : SideOk sd) {L : Int} (hL : 0 < L) (ls : List Lk) (y : Int) : stp sd L (sideOf sd (heardAll L ls)) y = stp sd L (sideOf sd ls) y := by
  by_cases h : sideOf sd (heardAll L ls) = []
  · rw [h, (side_nil heardAll_mem).mp h]
  · have b := bst_is hs h y L
    rw [stp_best b, stp_best (best_home hL heardAll_mem b)]
theorem it_heard {sd : Str} (hs : SideOk sd) {L : Int} (hL : 0 < L) {lots : List (List Lk)} (h0 : 0 < lots.length) (x : Int) (n : Nat) : it sd L ((lots.map (heardAll L)).map (sideOf sd)) x n = it sd L (lots.map (sideOf sd)) x n := by
  refine it_alike (by simp) (fun i y hi => ?_) (by simpa using h0) n
  rw [List.length_map, List.length_map] at hi
  have e1 : ((lots.map (heardAll L)).map (sideOf sd)).getD i [] = sideOf sd (heardAll L lots[i]) := by
    rw [List.getD_eq_getElem?_getD, List.getElem?_map, List.getElem?_map, List.getElem?_eq_getElem hi]; rfl
  have e2 : (lots.map (sideOf sd)).getD i [] = sideOf sd lots[i] := by
    rw [List.getD_eq_getElem?_getD, List.getElem?_map, List.getElem?_eq_getElem hi]; rfl
  rw [e1, e2, stp_heard hs hL]
theorem heard_filled {sd : Str} {L : Int} (lots : List (List Lk)) : Filled ((lots.map (heardAll L)).map (sideOf sd)) ↔ Filled (lots.map (sideOf sd)) := by
  have key : ∀ ls : List Lk, sideOf sd (heardAll L ls) = [] ↔ sideOf sd ls = [] := fun ls => side_nil heardAll_mem
  constructor
  · intro h q hq e
    obtain ⟨ls, hl, rfl⟩ := List.mem_map.mp hq
    exact h _ (List.mem_map.mpr ⟨_, List.mem_map.mpr ⟨ls, hl, rfl⟩, rfl⟩) ((key ls).mpr e)
  · intro h q hq e
    obtain ⟨l0, hl0, rfl⟩ := List.mem_map.mp hq
    obtain ⟨ls, hl, rfl⟩ := List.mem_map.mp hl0
    exact h _ (List.mem_map.mpr ⟨ls, hl, rfl⟩) ((key ls).mp e)
theorem rf_heard {sd : Str} (hs : SideOk sd) {L : Int} (hL : 0 < L) : ∀ {lots : List (List Lk)}, Filled (lots.map (sideOf sd)) → rf sd L ((lots.map (heardAll L)).map (sideOf sd)) = rf sd L (lots.map (sideOf sd))
  | [], _ => rfl
  | ls :: r, h => funext fun x => by
    show rf sd L ((r.map (heardAll L)).map (sideOf sd)) (bst sd (sideOf sd (heardAll L ls)) x L) = rf sd L (r.map (sideOf sd)) (bst sd (sideOf sd ls) x L)
    have h1 := h (sideOf sd ls) List.mem_cons_self
    have h2 : sideOf sd (heardAll L ls) ≠ [] := fun e => h1 ((side_nil heardAll_mem).mp e)
    have e := stp_heard hs hL ls x
    rw [stp_some hs h1, stp_some hs h2] at e
    rw [Option.some.inj e, rf_heard hs hL fun q hq => h q (List.mem_cons_of_mem _ hq)]
theorem PaceIs.heard {sd : Str} (hs : SideOk sd) {L : Int} (hL : 0 < L) {lots : List (List Lk)} {o : Option Pr} (h : PaceIs sd L ((lots.map (heardAll L)).map (sideOf sd)) o) : PaceIs sd L (lots.map (sideOf sd)) o := by
  refine ⟨fun c => h.1 fun q => c ((heard_filled lots).mp q), fun c => ?_⟩
  obtain ⟨pr, e, P, z⟩ := h.2 ((heard_filled lots).mpr c)
  rw [rf_heard hs hL c] at P
  exact ⟨pr, e, P, z⟩
theorem PaceOpt.is {sd : Str} (hs : SideOk sd) {L : Int} (hL : 0 < L) {kn : List (List Lk)} (h0 : 0 < kn.length) {o : Option Pr} (h : PaceOpt sd L kn o) : PaceIs sd L kn o := by
  rcases h with ⟨rfl, n, hn⟩ | ⟨pr, rfl, RP, z⟩
  · exact ⟨fun _ => rfl, fun c => absurd hn (it_full hs c h0 0 n)⟩
  · refine ⟨fun c => ?_, fun c => ⟨pr, rfl, RP.of hs hL c h0, z⟩⟩
    obtain ⟨n, p, x, c', p0, e1, e2, e3⟩ := RP.lap
    obtain ⟨m, hm⟩ := it_gap (sd := sd) (L := L) c 0
    exfalso
    have ht := it_turn hs hL (kn := kn) (s := n) (t := n + p * kn.length) (k := c') (x := 0) (by rw [Nat.add_mul_mod_self_right]) (by rw [e2, e1]; rfl)
    have all : ∀ j : Nat, it sd L kn 0 (n + j * (p * kn.length)) ≠ none := by
      intro j
      induction j with
      | zero => rw [Nat.zero_mul, Nat.add_zero, e1]; exact fun e => by cases e
      | succ j ih =>
        have := ht (j * (p * kn.length))
        rw [show n + p * kn.length + j * (p * kn.length) = n + (j + 1) * (p * kn.length) by rw [Nat.succ_mul]; omega] at this
        rw [this]
        intro e
        cases hq : it sd L kn 0 (n + j * (p * kn.length)) with
        | none => exact ih hq
        | some v => rw [hq] at e; cases e
    have hp1 : 1 ≤ p * kn.length := Nat.mul_pos p0 h0
    refine all m (hm _ ?_)
    have : m * 1 ≤ m * (p * kn.length) := Nat.mul_le_mul_left _ hp1
    omega
def encPs (o1 o2 : Option Pr) : PyData := .tuple [encO o1, encO o2]
def spPaces (Z : Ad) (K : PySem.W.Frag) : Sp := fun vs H Q _ => ∃ (hp : Addr) (ds : List Addr) (L : Int) (lots : List (List Lk)), vs = [.ref hp] ∧ SqL K H hp (refs ds) ∧ Darks Z K H ds L (lots.map (heardAll L)) ∧ 0 < ds.length ∧ ds.length ≤ 60 ∧
  ∀ H' r o1 o2, Same H H' → Dp K H' r (encPs o1 o2) → PaceIs "slow" L (lots.map (sideOf "slow")) o1 → PaceIs "fast" L (lots.map (sideOf "fast")) o2 → Q r H'
section
variable {P : Program} {w : World} {K : PySem.W.Frag} {mg : Str → Option Value} {base : Heap} {Z : Ad}
theorem ok_paces (T : Tx K w mg Z) : FnOk P w K mg base CX0 7 Z.a_paces Z.d_paces P_paces (spPaces Z K) := by
  refine T.F_paces.ok scpaces (fun vs H Q E h => ?_) (fun cdv A outer s H vs Q E hr h => ?_)
  · obtain ⟨hp, ds, L, lots, rfl, _⟩ := h
    rfl
  · obtain ⟨hp, ds, L, lots, rfl, hh, hD, hd0, hd1, k⟩ := h
    have hlen : lots.length = ds.length := by have := hD.1; rw [List.length_map] at this; omega
    obtain ⟨d0, hd00⟩ : ∃ d0, ds[0]? = some d0 := ⟨ds[0], List.getElem?_eq_getElem hd0⟩
    obtain ⟨ls0, hls0, D0⟩ := hD.get hd00
    have hL := D0.pos
    refine ⟨_, (pss_cons (ps_expr (pe_call (ok_check_round T) (hr.mono (by decide)) (by rfl) T.g_check_round T.F_check_round.kp T.bb_check_round .nil pass0 (pa_cons (pv 0) pa_nil)))
      (pss_one (ps_ret (pe_tup (pa_cons (pe_call (ok_side_pace T) (hr.mono (by decide)) (by rfl) T.g_side_pace T.F_side_pace.kp T.bb_side_pace .nil pass0 (pa_cons (pv 0) (pa_cons (pe_glob rfl T.g_SLOW T.r_SLOW) pa_nil))) (pa_cons (pe_call (ok_side_pace T) (hr.mono (by decide)) (by rfl) T.g_side_pace T.F_side_pace.kp T.bb_side_pace .nil pass0 (pa_cons (pv 0) (pa_cons (pe_glob rfl T.g_FAST T.r_FAST) pa_nil))) pa_nil)))))), ?_⟩
    refine ⟨_, rfl, hp, ds, L, _, rfl, hh, hD, hd0, fun H1 S1 => ?_⟩
    refine ⟨_, rfl, hp, ds, "slow", L, lots.map (heardAll L), rfl, Same.sqL S1 hh, hD.same S1, hd0, hd1, .inl rfl, fun H2 r1 o1 S2 h1 P1 => ?_⟩
    refine ⟨_, rfl, hp, ds, "fast", L, lots.map (heardAll L), rfl, Same.sqL (S1.trans S2) hh, hD.same (S1.trans S2), hd0, hd1, .inr rfl, fun H3 r2 o2 S3 h2 P2 => ?_⟩
    refine ⟨(by show 2 ≤ sizeLine; decide), fun q hq => ?_⟩
    have S4 := same_upd (o := HO.tup [r1, r2]) hq
    exact k _ _ o1 o2 (((S1.trans S2).trans S3).trans S4) (.tup (SqT.of upd_same) (.cons (dp_mono (S3.trans S4) _ _ h1) (.cons (dp_mono S4 _ _ h2) .nil))) (PaceIs.heard (.inl rfl) hL (P1.is (.inl rfl) hL (by rw [List.length_map, List.length_map]; omega))) (PaceIs.heard (.inr rfl) hL (P2.is (.inr rfl) hL (by rw [List.length_map, List.length_map]; omega)))
end
end KA
namespace KA
open PySem PySem.Spec PyProof.Rows L2 DP
/-! ### led back: the other way about -/
section
variable {L : Int} {f : Int → Int} {pr : Int × Int}
theorem PaceOf.ge (hL : 0 < L) (F : Hand L f) (P : PaceOf L f pr) {x s : Int} {q : Nat} (h : x + s * L ≤ itf f x q) : s * pr.2 ≤ pr.1 * q := by
  obtain ⟨z, c, p, p0, h1, h2⟩ := P.lap
  have up : ∀ t : Nat, x + t * (s * L) ≤ itf f x (t * q) := by
    intro t
    induction t with
    | zero => simp [itf]
    | succ t ih =>
      rw [show (t + 1) * q = q + t * q by rw [Nat.succ_mul, Nat.add_comm], itf_add]
      have a := itf_mono F h (t * q)
      rw [itf_shift F] at a
      have e : ((t + 1 : Nat) : Int) * (s * L) = t * (s * L) + s * L := by push_cast; grind
      omega
  obtain ⟨m, hm⟩ : ∃ m : Int, m = ((x - z).natAbs : Int) := ⟨_, rfl⟩
  have n1 := far_turns hL x z
  have n2 := far_turns hL z x
  have e : (z - x).natAbs = (x - z).natAbs := by omega
  rw [e] at n2
  rw [← hm] at n1 n2
  obtain ⟨t, ht⟩ : ∃ t : Nat, (t : Int) = 2 * m + 1 := ⟨(2 * m + 1).toNat, by omega⟩
  have a1 := up (t * p)
  have a2 : itf f z (t * q * p) = z + ((t * q : Nat) : Int) * (c * L) := itf_laps F h1 (t * q)
  have b := itf_near F n1 (t * p * q)
  rw [show t * q * p = t * p * q by rw [Nat.mul_assoc, Nat.mul_comm q p, ← Nat.mul_assoc]] at a2
  rw [a2] at b
  push_cast at a1 b
  rw [ht] at a1 b
  have key : (p : Int) * s ≤ q * c := by
    by_cases hc : (p : Int) * s ≤ q * c
    · exact hc
    · exfalso
      have g1 : (2 * m + 1) * (p * s - q * c) * L ≤ 2 * m * L := by
        have e1 : (2 * m + 1) * (p * s - q * c) * L = (2 * m + 1) * p * (s * L) - (2 * m + 1) * q * (c * L) := by grind
        have e3 : 2 * m * L = m * L + m * L := by grind
        omega
      have g4 : (2 * m + 1) * 1 * L ≤ (2 * m + 1) * (p * s - q * c) * L := Int.mul_le_mul_of_nonneg_right (Int.mul_le_mul_of_nonneg_left (by omega) (by omega)) (by omega)
      have g5 : (2 * m + 1) * 1 * L = 2 * m * L + L := by grind
      omega
  have hp := P.pos
  have k2 := Int.mul_le_mul_of_nonneg_right key (Int.le_of_lt hp)
  have e4 : (p : Int) * s * pr.2 = (s * pr.2) * p := by grind
  have e5 : (q : Int) * c * pr.2 = (pr.1 * q) * p := by grind
  rw [e4, e5] at k2
  exact Int.le_of_mul_le_mul_right k2 (by omega)
theorem PaceOf.le (hL : 0 < L) (F : Hand L f) (P : PaceOf L f pr) {x s : Int} {q : Nat} (h : itf f x q ≤ x + s * L) : pr.1 * q ≤ s * pr.2 := by
  obtain ⟨z, c, p, p0, h1, h2⟩ := P.lap
  have up : ∀ t : Nat, itf f x (t * q) ≤ x + t * (s * L) := by
    intro t
    induction t with
    | zero => simp [itf]
    | succ t ih =>
      rw [show (t + 1) * q = q + t * q by rw [Nat.succ_mul, Nat.add_comm], itf_add]
      have a := itf_mono F h (t * q)
      rw [itf_shift F] at a
      have e : ((t + 1 : Nat) : Int) * (s * L) = t * (s * L) + s * L := by push_cast; grind
      omega
  obtain ⟨m, hm⟩ : ∃ m : Int, m = ((x - z).natAbs : Int) := ⟨_, rfl⟩
  have n1 := far_turns hL x z
  have n2 := far_turns hL z x
  have e : (z - x).natAbs = (x - z).natAbs := by omega
  rw [e] at n2
  rw [← hm] at n1 n2
  obtain ⟨t, ht⟩ : ∃ t : Nat, (t : Int) = 2 * m + 1 := ⟨(2 * m + 1).toNat, by omega⟩
  have a1 := up (t * p)
  have a2 : itf f z (t * q * p) = z + ((t * q : Nat) : Int) * (c * L) := itf_laps F h1 (t * q)
  have b := itf_near F n2 (t * p * q)
  rw [show t * q * p = t * p * q by rw [Nat.mul_assoc, Nat.mul_comm q p, ← Nat.mul_assoc]] at a2
  rw [a2] at b
  push_cast at a1 b
  rw [ht] at a1 b
  have key : (q : Int) * c ≤ p * s := by
    by_cases hc : (q : Int) * c ≤ p * s
    · exact hc
    · exfalso
      have g1 : (2 * m + 1) * (q * c - p * s) * L ≤ 2 * m * L := by
        have e1 : (2 * m + 1) * (q * c - p * s) * L = (2 * m + 1) * q * (c * L) - (2 * m + 1) * p * (s * L) := by grind
        have e3 : 2 * m * L = m * L + m * L := by grind
        omega
      have g4 : (2 * m + 1) * 1 * L ≤ (2 * m + 1) * (q * c - p * s) * L := Int.mul_le_mul_of_nonneg_right (Int.mul_le_mul_of_nonneg_left (by omega) (by omega)) (by omega)
      have g5 : (2 * m + 1) * 1 * L = 2 * m * L + L := by grind
      omega
  have hp := P.pos
  have k2 := Int.mul_le_mul_of_nonneg_right key (Int.le_of_lt hp)
  have e4 : (p : Int) * s * pr.2 = (s * pr.2) * p := by grind
  have e5 : (q : Int) * c * pr.2 = (pr.1 * q) * p := by grind
  rw [e4, e5] at k2
  exact Int.le_of_mul_le_mul_right k2 (by omega)
end
/-- a hand and one that leads back -/
structure Adj (f g : Int → Int) : Prop where
  lo : ∀ x, g (f x) ≤ x
  hi : ∀ x, x < g (f x + 1)
theorem Adj.comp {f1 f2 g1 g2 : Int → Int} (m1 : ∀ x y, x ≤ y → g1 x ≤ g1 y) (A1 : Adj f1 g1) (A2 : Adj f2 g2) : Adj (fun x => f2 (f1 x)) (fun m => g1 (g2 m)) := by
  refine ⟨fun x => Int.le_trans (m1 _ _ (A2.lo (f1 x))) (A1.lo x), fun x => ?_⟩
  have h := A2.hi (f1 x)
  exact Int.lt_of_lt_of_le (A1.hi x) (m1 _ _ h)
theorem itf_in (g : Int → Int) (x : Int) (n : Nat) : itf g (g x) n = itf g x (n + 1) := by
  rw [Nat.add_comm n 1, itf_add]; rfl
theorem Adj.itf {f g : Int → Int} (m : ∀ x y, x ≤ y → g x ≤ g y) (A : Adj f g) : ∀ n, Adj (fun x => itf f x n) (fun x => itf g x n)
  | 0 => ⟨fun x => Int.le_refl x, fun x => by show x < x + 1; omega⟩
  | n + 1 => by
    have ih := Adj.itf m A n
    have mn : ∀ n x y, x ≤ y → KA.itf g x n ≤ KA.itf g y n := by
      intro n
      induction n with
      | zero => exact fun x y h => h
      | succ n ih2 => exact fun x y h => m _ _ (ih2 x y h)
    have c := Adj.comp (f1 := fun x => KA.itf f x n) (f2 := f) (g1 := fun x => KA.itf g x n) (g2 := g) (mn n) ih A
    refine ⟨fun x => ?_, fun x => ?_⟩
    · have := c.lo x
      show KA.itf g (f (KA.itf f x n)) (n + 1) ≤ x
      rw [← itf_in]; exact this
    · have := c.hi x
      show x < KA.itf g (f (KA.itf f x n) + 1) (n + 1)
      rw [← itf_in]; exact this
theorem Adj.pace {L : Int} (hL : 0 < L) {f g : Int → Int} (G : Hand L g) (A : Adj f g) {pr pr' : Pr} (P : PaceOf L f pr) (P' : PaceOf L g pr') : pr' = (0 - pr.1, pr.2) := by
  obtain ⟨x, c, p, p0, h1, h2⟩ := P.lap
  have Ap := A.itf G.mono p
  have a1 := Ap.lo x
  have a2 := Ap.hi x
  rw [h1] at a1 a2
  have b1 := P'.le hL G (x := x + c * L) (s := -c) (q := p) (by rw [Int.neg_mul]; omega)
  have b2 := P'.ge hL G (x := x + c * L + 1) (s := -c) (q := p) (by rw [Int.neg_mul]; omega)
  have e1 : pr'.1 * p = -c * pr'.2 := Int.le_antisymm b1 b2
  obtain ⟨z, c', p', p0', k1, k2⟩ := P'.lap
  have q0 := P.pos
  have q0' := P'.pos
  have e2 : (-pr.1) * pr'.2 = pr'.1 * pr.2 := by
    have : ((-pr.1) * pr'.2) * p = (pr'.1 * pr.2) * p := by grind
    exact Int.eq_of_mul_eq_mul_right (by omega) this
  have e3 : (0 - pr.1) * p' = c' * pr.2 := by
    have : ((0 - pr.1) * p') * pr'.2 = (c' * pr.2) * pr'.2 := by grind
    exact Int.eq_of_mul_eq_mul_right (by omega) this
  refine P'.one hL G ⟨q0, ?_, z, c', p', p0', k1, e3⟩
  show Int.gcd (0 - pr.1) pr.2 = 1
  rw [Int.zero_sub, Int.neg_gcd]; exact P.cop
def oth (sd : Str) : Str := if sd = "slow" then "fast" else "slow"
theorem oth_ok {sd : Str} (hs : SideOk sd) : SideOk (oth sd) := by
  unfold oth
  split
  · exact .inr rfl
  · exact .inl rfl
theorem oth_oth {sd : Str} (hs : SideOk sd) : oth (oth sd) = sd := by
  rcases hs with rfl | rfl
  · decide +kernel
  · decide +kernel
theorem oth_slow : oth "slow" = "fast" := if_pos rfl
theorem oth_fast : oth "fast" = "slow" := if_neg slow_ne
theorem bk_nil {sd : Str} (hs : SideOk sd) {ls : List Lk} (hw : ∀ l ∈ ls, WordOk l.1) : sideOf (oth sd) (bk ls) = [] ↔ sideOf sd ls = [] := by
  rcases hs with rfl | rfl
  · rw [oth_slow]
    constructor
    · intro h
      refine List.eq_nil_iff_forall_not_mem.mpr fun l hl => ?_
      obtain ⟨h1, h2⟩ := mem_side.mp hl
      have : upL l ∈ sideOf "fast" (bk ls) := mem_side.mpr ⟨mem_bk.mpr ⟨l, h1, .inl ⟨slow_from h2, rfl⟩⟩, show onSide "fast" "upto" = true by decide +kernel⟩
      rw [h] at this; cases this
    · intro h
      refine List.eq_nil_iff_forall_not_mem.mpr fun q hq => ?_
      obtain ⟨h1, h2⟩ := mem_side.mp hq
      obtain ⟨l, hl, n, rfl⟩ := bk_fast h1 h2
      have : l ∈ sideOf "slow" ls := mem_side.mpr ⟨hl, not_upto (hw l hl) n⟩
      rw [h] at this; cases this
  · rw [oth_fast]
    constructor
    · intro h
      refine List.eq_nil_iff_forall_not_mem.mpr fun l hl => ?_
      obtain ⟨h1, h2⟩ := mem_side.mp hl
      have : frL l ∈ sideOf "slow" (bk ls) := mem_side.mpr ⟨mem_bk.mpr ⟨l, h1, .inr ⟨fast_upto h2, rfl⟩⟩, show onSide "slow" "from" = true by decide +kernel⟩
      rw [h] at this; cases this
    · intro h
      refine List.eq_nil_iff_forall_not_mem.mpr fun q hq => ?_
      obtain ⟨h1, h2⟩ := mem_side.mp hq
      obtain ⟨l, hl, n, rfl⟩ := bk_slow h1 h2
      have : l ∈ sideOf "fast" ls := mem_side.mpr ⟨hl, not_from (hw l hl) n⟩
      rw [h] at this; cases this
theorem int_of {a b : Int} (h : V.int a = V.int b) : a = b := V.int.inj h
theorem bk_adj {sd : Str} (hs : SideOk sd) {L : Int} (hL : 0 < L) {ls : List Lk} (hw : ∀ l ∈ ls, WordOk l.1) (h : sideOf sd ls ≠ []) : Adj (fun x => bst sd (sideOf sd ls) x L) (fun m => bst (oth sd) (sideOf (oth sd) (bk ls)) m L) := by
  have hb : sideOf (oth sd) (bk ls) ≠ [] := fun e => h ((bk_nil hs hw).mp e)
  have tl : ∀ m, Tells (oth sd) (bk ls) m L (.int (bst (oth sd) (sideOf (oth sd) (bk ls)) m L)) := fun m => .inr ⟨_, rfl, bst_is (oth_ok hs) hb m L⟩
  refine ⟨fun x => ?_, fun x => ?_⟩
  · have b := bst_is hs h x L
    have t := tl (bst sd (sideOf sd ls) x L)
    rcases hs with rfl | rfl
    · obtain ⟨a, e, ha⟩ := back_least1 hL b t
      rw [← int_of e] at ha; exact ha
    · obtain ⟨a, e, ha⟩ := back_greatest1 hL hw b t
      rw [← int_of e] at ha; exact ha
  · have b := bst_is hs h x L
    have t := tl (bst sd (sideOf sd ls) x L + 1)
    rcases hs with rfl | rfl
    · obtain ⟨a, e, ha⟩ := back_least2 hL hw b t
      rw [← int_of e] at ha; exact ha
    · obtain ⟨a, e, ha⟩ := back_greatest2 hL b t
      rw [← int_of e] at ha; exact ha
theorem bst_heard {sd : Str} (hs : SideOk sd) {L : Int} (hL : 0 < L) {ls : List Lk} (h : sideOf sd ls ≠ []) (y : Int) : bst sd (sideOf sd (heardAll L ls)) y L = bst sd (sideOf sd ls) y L := by
  have h2 : sideOf sd (heardAll L ls) ≠ [] := fun e => h ((side_nil heardAll_mem).mp e)
  have e := stp_heard hs hL ls y
  rw [stp_some hs h, stp_some hs h2] at e
  exact Option.some.inj e
/-- looks of hands, such as are led back -/
structure Bok (L : Int) (hs : List Lk) (n m : Nat) : Prop where
  w : ∀ l ∈ hs, WordOk l.1
  s : ∀ l ∈ hs, Sized n l
  nc : ∀ a ∈ hs, ∀ b ∈ hs, clashB a b L = false
  len : (bk hs).length ≤ m
theorem Bok.up {L : Int} {hs : List Lk} {n n' m m' : Nat} (B : Bok L hs n m) (h : n ≤ n') (h2 : m ≤ m') : Bok L hs n' m' := ⟨B.w, fun l hl => (B.s l hl).up h, B.nc, Nat.le_trans B.len h2⟩
theorem bk_lenB (ls : List Lk) : (bk ls).length ≤ 2 * ls.length := by
  induction ls with
  | nil => simp [bk]
  | cons l ls ih =>
    have e : bk (l :: ls) = bk1 l ++ bk ls := by simp [bk]
    have h1 : (bk1 l).length ≤ 2 := by
      unfold bk1 bkA bkB
      split <;> split <;> simp
    rw [e, List.length_append, List.length_cons]
    omega
theorem bk_len1 {ls : List Lk} (h : ∀ l ∈ ls, l.1 = "upto" ∨ l.1 = "from") : (bk ls).length ≤ ls.length := by
  induction ls with
  | nil => simp [bk]
  | cons l ls ih =>
    have e : bk (l :: ls) = bk1 l ++ bk ls := by simp [bk]
    have h1 : (bk1 l).length ≤ 1 := by
      have n1 : ¬ (("upto" : Str) = "from") := by decide +kernel
      have n2 : ¬ (("from" : Str) = "upto") := by decide +kernel
      unfold bk1 bkA bkB
      rcases h l List.mem_cons_self with q | q
      · rw [if_pos q, q, if_neg n1]; simp
      · rw [if_pos q, q, if_neg n2]; simp
    have := ih fun o ho => h o (List.mem_cons_of_mem _ ho)
    rw [e, List.length_append, List.length_cons]
    omega
theorem home_szB {n : Nat} {L : Int} {l : Lk} (h : 0 < L) (hb : L.natAbs < 2 ^ 200) (hn : 200 ≤ n) (hl : Sized n l) : Sized (n + 2) (home L l) := by
  have h0 := emod_small (x := l.2.1) h hb
  refine ⟨lt_up h0 (by omega), ?_⟩
  show (l.2.2 - l.2.1 / L * L).natAbs < 2 ^ (n + 2)
  have e : l.2.2 - l.2.1 / L * L = l.2.2 + ((l.2.1 - l.2.1 / L * L) - l.2.1) := by omega
  rw [e]
  have h1 : ((l.2.1 - l.2.1 / L * L) - l.2.1).natAbs < 2 ^ (n + 1) := sub_lt (lt_up h0 hn) hl.1
  exact add_lt (lt_up hl.2 (by omega)) h1
theorem home_word (L : Int) (l : Lk) : (home L l).1 = l.1 := rfl
theorem Bok.heard {L : Int} (hL : 0 < L) (hLb : L.natAbs < 2 ^ 200) {ls : List Lk} {n : Nat} (hn : 200 ≤ n) (hw : ∀ l ∈ ls, WordOk l.1) (hs : ∀ l ∈ ls, Sized n l) (nc : ∀ a ∈ ls, ∀ b ∈ ls, clashB a b L = false) {m : Nat} (hm : (bk (heardAll L ls)).length ≤ m) : Bok L (heardAll L ls) (n + 2) m := by
  refine ⟨fun l hl => ?_, fun l hl => ?_, fun a ha b hb => ?_, hm⟩
  · obtain ⟨q, hq, rfl⟩ := (heardAll_mem _).mp hl
    exact hw q hq
  · obtain ⟨q, hq, rfl⟩ := (heardAll_mem _).mp hl
    exact home_szB hL hLb hn (hs q hq)
  · obtain ⟨x, hx, rfl⟩ := (heardAll_mem _).mp ha
    obtain ⟨y, hy, rfl⟩ := (heardAll_mem _).mp hb
    rw [clash_home hL]; exact nc x hx y hy
theorem Bok.back {L : Int} (hL : 0 < L) (hLb : L.natAbs < 2 ^ 200) {hs : List Lk} {n m : Nat} (hn : 200 ≤ n) (B : Bok L hs n m) : Bok L (heardAll L (bk hs)) (n + 3) m := by
  refine Bok.heard hL hLb (by omega) (fun q hq => bk_word hq) (fun q hq => bk_sized hq B.s) (bk_nc hL B.w B.nc) (Nat.le_trans (bk_len1 fun l hl => ?_) (Nat.le_trans (fold_len (L := L) (bk hs) []) (by simpa using B.len)))
  obtain ⟨q, hq, rfl⟩ := (heardAll_mem _).mp hl
  obtain ⟨l, _, ⟨_, rfl⟩ | ⟨_, rfl⟩⟩ := mem_bk.mp hq
  · exact .inl rfl
  · exact .inr rfl
theorem bk_wordsH {L : Int} {hs : List Lk} : ∀ l ∈ heardAll L (bk hs), WordOk l.1 := fun l hl => by
  obtain ⟨q, hq, rfl⟩ := (heardAll_mem _).mp hl
  exact bk_word (q := q) hq
/-- led back twice -/
def dbl (L : Int) (hs : List Lk) : List Lk := heardAll L (bk (heardAll L (bk hs)))
theorem heard_side {sd : Str} {L : Int} {ls : List Lk} : sideOf sd (heardAll L ls) = [] ↔ sideOf sd ls = [] := side_nil heardAll_mem
theorem dbl_nil {sd : Str} (hs : SideOk sd) {L : Int} {ls : List Lk} (hw : ∀ l ∈ ls, WordOk l.1) : sideOf sd (dbl L ls) = [] ↔ sideOf sd ls = [] := by
  unfold dbl
  rw [heard_side]
  have h1 := bk_nil (oth_ok hs) (bk_wordsH (L := L) (hs := ls))
  rw [oth_oth hs] at h1
  rw [h1, heard_side, bk_nil hs hw]
theorem dbl_stp {sd : Str} (hs : SideOk sd) {L : Int} (hL : 0 < L) {ls : List Lk} (hw : ∀ l ∈ ls, WordOk l.1) (x : Int) : stp sd L (sideOf sd (dbl L ls)) (x + 1) = (stp sd L (sideOf sd ls) x).map (· + 1) := by
  by_cases c : sideOf sd ls = []
  · rw [c, (dbl_nil hs hw).mpr c, stp_nil, stp_nil]; rfl
  · have c2 : sideOf sd (dbl L ls) ≠ [] := fun e => c ((dbl_nil hs hw).mp e)
    rw [stp_some hs c, stp_some hs c2]
    have n1 : sideOf (oth sd) (bk ls) ≠ [] := fun e => c ((bk_nil hs hw).mp e)
    have n2 : sideOf (oth sd) (heardAll L (bk ls)) ≠ [] := fun e => n1 (heard_side.mp e)
    have n3 : sideOf sd (bk (heardAll L (bk ls))) ≠ [] := fun e => c2 (heard_side.mpr e)
    have A := bk_adj hs hL hw c
    have B := bk_adj (oth_ok hs) hL (bk_wordsH (L := L) (hs := ls)) n2
    rw [oth_oth hs] at B
    have eg : (fun x => bst (oth sd) (sideOf (oth sd) (heardAll L (bk ls))) x L) = fun x => bst (oth sd) (sideOf (oth sd) (bk ls)) x L := funext fun y => bst_heard (oth_ok hs) hL n1 y
    rw [eg] at B
    have eh : bst sd (sideOf sd (dbl L ls)) (x + 1) L = bst sd (sideOf sd (bk (heardAll L (bk ls)))) (x + 1) L := bst_heard hs hL n3 _
    have H := bst_hand hs hL n3
    rw [eh]
    show some _ = some _
    congr 1
    refine Int.le_antisymm ?_ ?_
    · have a := A.hi x
      exact Int.le_trans (H.mono _ _ (show x + 1 ≤ _ from a)) (B.lo _)
    · have a := A.lo x
      exact Int.lt_of_lt_of_le (B.hi (bst sd (sideOf sd ls) x L)) (H.mono _ _ (by show _ + 1 ≤ x + 1; have a' : bst (oth sd) (sideOf (oth sd) (bk ls)) (bst sd (sideOf sd ls) x L) L ≤ x := a; omega))
theorem tells_stp {sd : Str} (hs : SideOk sd) {L x : Int} {ls : List Lk} {v : V} (h : Tells sd ls x L v) : v = oV (stp sd L (sideOf sd ls) x) := by
  rcases h with ⟨e, rfl⟩ | ⟨m, rfl, b⟩
  · rw [e, stp_nil]; rfl
  · rw [stp_best b]; rfl
/-! ### a round led back -/
def bkr (L : Int) (lots : List (List Lk)) : List (List Lk) := (lots.map (heardAll L)).reverse.map bk
theorem bkr_cons (L : Int) (ls : List Lk) (r : List (List Lk)) : bkr L (ls :: r) = bkr L r ++ [bk (heardAll L ls)] := by
  unfold bkr
  rw [List.map_cons, List.reverse_cons, List.map_append]; rfl
theorem words_heard {L : Int} {ls : List Lk} (hw : ∀ l ∈ ls, WordOk l.1) : ∀ l ∈ heardAll L ls, WordOk l.1 := fun l hl => by
  obtain ⟨q, hq, rfl⟩ := (heardAll_mem _).mp hl
  exact hw q hq
theorem bkr_filled {sd : Str} (hs : SideOk sd) {L : Int} : ∀ {lots : List (List Lk)}, (∀ ls ∈ lots, ∀ l ∈ ls, WordOk l.1) → (Filled (lots.map (sideOf sd)) ↔ Filled ((bkr L lots).map (sideOf (oth sd))))
  | [], _ => ⟨fun _ ls h => by simp [bkr] at h, fun _ ls h => by simp at h⟩
  | ls :: r, hw => by
    have ih := bkr_filled hs (L := L) (lots := r) fun q hq => hw q (List.mem_cons_of_mem _ hq)
    have e := bk_nil hs (words_heard (L := L) (hw ls List.mem_cons_self))
    rw [heard_side] at e
    rw [bkr_cons, List.map_append]
    constructor
    · intro h q hq
      rcases List.mem_append.mp hq with h1 | h1
      · exact ih.mp (fun o ho => h o (List.mem_cons_of_mem _ ho)) q h1
      · rw [List.map_singleton, List.mem_singleton] at h1
        subst h1
        exact fun z => h _ List.mem_cons_self (e.mp z)
    · intro h q hq
      rcases List.mem_cons.mp hq with h1 | h1
      · subst h1
        exact fun z => h _ (List.mem_append_right _ (by simp)) (e.mpr z)
      · exact ih.mpr (fun o ho => h o (List.mem_append_left _ ho)) q h1
theorem bkr_adj {sd : Str} (hs : SideOk sd) {L : Int} (hL : 0 < L) : ∀ {lots : List (List Lk)}, (∀ ls ∈ lots, ∀ l ∈ ls, WordOk l.1) → Filled (lots.map (sideOf sd)) → Adj (rf sd L (lots.map (sideOf sd))) (rf (oth sd) L ((bkr L lots).map (sideOf (oth sd))))
  | [], _, _ => ⟨fun x => Int.le_refl x, fun x => by show x < x + 1; omega⟩
  | ls :: r, hw, h => by
    have hwl := hw ls List.mem_cons_self
    have c : sideOf sd ls ≠ [] := h _ List.mem_cons_self
    have c1 : sideOf sd (heardAll L ls) ≠ [] := fun e => c (heard_side.mp e)
    have hr : Filled (r.map (sideOf sd)) := fun q hq => h q (List.mem_cons_of_mem _ hq)
    have hwr : ∀ ls ∈ r, ∀ l ∈ ls, WordOk l.1 := fun q hq => hw q (List.mem_cons_of_mem _ hq)
    have ih := bkr_adj hs hL hwr hr
    have A := bk_adj hs hL (words_heard (L := L) hwl) c1
    have ef : (fun x => bst sd (sideOf sd (heardAll L ls)) x L) = fun x => bst sd (sideOf sd ls) x L := funext fun y => bst_heard hs hL c y
    rw [ef] at A
    have n1 : sideOf (oth sd) (bk (heardAll L ls)) ≠ [] := fun e => c1 ((bk_nil hs (words_heard (L := L) hwl)).mp e)
    have C := Adj.comp (bst_hand (oth_ok hs) hL n1).mono A ih
    have e : rf (oth sd) L ((bkr L (ls :: r)).map (sideOf (oth sd))) = fun m => bst (oth sd) (sideOf (oth sd) (bk (heardAll L ls))) (rf (oth sd) L ((bkr L r).map (sideOf (oth sd))) m) L := funext fun m => by
      rw [bkr_cons, List.map_append, rf_append]; rfl
    rw [e]
    exact C
def negO (o : Option Pr) : Option Pr := o.map fun p => (0 - p.1, p.2)
theorem bkr_pace {sd : Str} (hs : SideOk sd) {L : Int} (hL : 0 < L) {lots : List (List Lk)} (hw : ∀ ls ∈ lots, ∀ l ∈ ls, WordOk l.1) {o o' : Option Pr} (h : PaceIs sd L (lots.map (sideOf sd)) o) (h' : PaceIs (oth sd) L ((bkr L lots).map (sideOf (oth sd))) o') : o' = negO o := by
  by_cases c : Filled (lots.map (sideOf sd))
  · have c' := (bkr_filled hs (L := L) hw).mp c
    obtain ⟨p, rfl, P, _⟩ := h.2 c
    obtain ⟨p', rfl, P', _⟩ := h'.2 c'
    rw [(bkr_adj hs hL hw c).pace hL (rf_hand (oth_ok hs) hL c') P P']; rfl
  · rw [h.1 c, h'.1 fun q => c ((bkr_filled hs (L := L) hw).mpr q)]; rfl
theorem few_encPsB (o o' : Option Pr) : fewD (encPs o o') = true := by
  cases o <;> cases o' <;> rfl
theorem depth_encPsB (o o' : Option Pr) : (encPs o o').depth < 4 := by
  cases o <;> cases o' <;> simp [encPs, encO, encP, PyData.depth, PyData.depthAll]
theorem few_dO : ∀ o, fewD (dO o) = true
  | none => rfl
  | some _ => rfl
theorem few_four (a b c d : Option Int) : fewD (.list [dO a, dO b, dO c, dO d]) = true := by
  cases a <;> cases b <;> cases c <;> cases d <;> rfl
theorem depth_four (a b c d : Option Int) : (PyData.list [dO a, dO b, dO c, dO d]).depth < 4 := by
  cases a <;> cases b <;> cases c <;> cases d <;> simp [dO, PyData.depth, PyData.depthAll]
theorem dp_encPsB {K : PySem.W.Frag} {H : Hp} {v : V} {o o' : Option Pr} (h : Dp K H v (encPs o o')) : ∃ a x y, v = .ref a ∧ SqT K H a [x, y] ∧ Dp K H x (encO o) ∧ Dp K H y (encO o') := by
  have h' : Dp K H v (.tuple [encO o, encO o']) := h
  cases h' with
  | tup s a =>
    cases a with
    | cons a1 a =>
      cases a with
      | cons a2 a =>
        cases a
        exact ⟨_, _, _, rfl, s, a1, a2⟩
end KA
namespace KA
open PySem PySem.Spec PyProof.Rows L2 DP RZ
/-- for x, y in zip(xs, ys), of one length -/
theorem for_zip {K : PySem.W.Frag} {a b : Addr} {xs ys : List V} {g : TG} {tb : TS} {D : Ends} {σ : L2.St} {H : Hp} (hl : xs.length = ys.length) (Pv : Nat → L2.St → Hp → Prop) (h0 : Pv 0 σ H) (hq : ∀ i σ H, Pv i σ H → SqL K H a xs ∧ SqL K H b ys)
    (hs : ∀ i x y T σ H, xs[i]? = some x → ys[i]? = some y → Pv i σ H → H T = none → g (.ref T) σ (upd H T (.tup [x, y])) fun σ2 H2 => tb { D with nx := Pv (i + 1), ct := Pv (i + 1), bk := D.nx } σ2 H2) (hd : ∀ σ H, Pv xs.length σ H → D.nx σ H) :
    ∃ W : Nat → Nat → L2.St → Hp → Prop, (∃ m, W 0 m σ H) ∧ ∀ i m σ H, W i m σ H →
      ((Itz K a b).stop i H ∧ D.nx σ H) ∨ ((Itz K a b).go i H ∧ ∃ N : L2.St → Hp → Prop, (∀ σ' H', N σ' H' → ∃ m', m' < m ∧ W (i + 1) m' σ' H') ∧ ∀ x H', (Itz K a b).yld i H x H' → g x σ H' fun σ2 H2 => tb { D with nx := N, ct := N, bk := D.nx } σ2 H2) := by
  refine ⟨fun i m σ H => m = xs.length - i ∧ i ≤ xs.length ∧ Pv i σ H, ⟨xs.length, by simp, Nat.zero_le _, h0⟩, ?_⟩
  rintro i m σ H ⟨rfl, hi, p⟩
  obtain ⟨qx, qy⟩ := hq i σ H p
  by_cases hlt : i < xs.length
  · have hx : xs[i]? = some xs[i] := List.getElem?_eq_getElem hlt
    have hlt2 : i < ys.length := by omega
    have hy : ys[i]? = some ys[i] := List.getElem?_eq_getElem hlt2
    refine .inr ⟨⟨xs, ys, _, _, qx, qy, hx, hy⟩, Pv (i + 1), fun σ' H' p' => ⟨xs.length - (i + 1), by omega, rfl, hlt, p'⟩, fun v H' y => ?_⟩
    obtain ⟨T, x', y', rfl, hT, rfl, f1, f2⟩ := y
    exact hs i x' y' T σ H (f1 xs qx) (f2 ys qy) p hT
  · have e : i = xs.length := by omega
    subst e
    exact .inl ⟨⟨xs, ys, qx, qy, Or.inl (Nat.le_refl _)⟩, hd σ H p⟩
theorem Darks.rev {Z : Ad} {K : PySem.W.Frag} {H : Hp} {ds : List Addr} {L : Int} {hs : List (List Lk)} (D : Darks Z K H ds L hs) : Darks Z K H ds.reverse L hs.reverse := by
  have hl := D.1
  refine ⟨by simp [hl], fun i d ls h1 h2 => ?_⟩
  have hi := (List.getElem?_eq_some_iff.mp h1).1
  rw [List.length_reverse] at hi
  rw [List.getElem?_reverse hi] at h1
  rw [List.getElem?_reverse (by omega), ← hl] at h2
  exact D.2 _ d ls h1 h2
def spLaw (K : PySem.W.Frag) : Sp := fun vs H Q _ => ∃ (a : Addr) (ns : List Int), vs = [.ref a] ∧ SqL K H a (ns.map V.int) ∧ ns.length ≤ 63 ∧ ∀ H', Q (.bl true) H'
structure Lot (L : Int) (ls : List Lk) : Prop where
  w : ∀ l ∈ ls, WordOk l.1 ∧ Sized 270 l
  nc : ∀ a ∈ ls, ∀ b ∈ ls, clashB a b L = false
  len : ls.length ≤ 6
def spPlus : Sp := fun vs H Q _ => ∃ (o : Option Int) (m : Int), vs = [oV o, .int m] ∧ Q (oV (o.map (· + m))) H
def spTurned (K : PySem.W.Frag) : Sp := fun vs H Q _ => ∃ (v : V) (o : Option Pr), vs = [v] ∧ Dp K H v (encO o) ∧ ∀ r H', Same H H' → Dp K H' r (encO (negO o)) → Q r H'
def spTwice (Z : Ad) (K : PySem.W.Frag) : Sp := fun vs H Q _ => ∃ (t g p d : Addr) (n : Nat) (L : Int) (ls hs : List Lk), vs = [.ref t, .int L, .ref p, .ref d] ∧ Tray H t g n ∧ n < 2 ^ 43 ∧ 0 < L ∧ L ≤ 10 ^ 30 ∧ LAt K H p (ls.map encL) ∧ p ≠ t ∧ p ≠ g ∧ (∀ l ∈ ls, WordOk l.1 ∧ Sized 270 l) ∧ ls.length ≤ 100 ∧
  DarkAt Z K H d L hs ∧ Off Z H d L t g ∧ Bok L hs 272 12 ∧ ∀ H', At H H' t g (n + 100) → Q (.bl true) H'
theorem map_two (o : Option Int) : (o.map (· + 1)).map (· + 1) = o.map (· + 2) := by
  cases o with
  | none => rfl
  | some z => show some (z + 1 + 1) = some (z + 2); rw [Int.add_assoc]; rfl
section
variable {P : Program} {w : World} {K : PySem.W.Frag} {mg : Str → Option Value} {base : Heap} {Z : Ad}
theorem ok_law_plus (T : Tx K w mg Z) : FnOk P w K mg base CX0 1 Z.a_law_plus Z.d_law_plus P_law_plus (spPlus) := by
  refine T.F_law_plus.ok sclaw_plus (fun vs H Q E h => ?_) (fun cdv A outer s H vs Q E hr h => ?_)
  · obtain ⟨o, m, rfl, _⟩ := h
    rfl
  · obtain ⟨o, m, rfl, k⟩ := h
    refine ⟨_, (pss_one (ps_ret (pe_ifExp (pt_cmpR op_isN (pv 0) pe_non (nomark _)) pe_non (pe_op op_add (pv 0) (pv 1))))), ?_⟩
    cases o with
    | none => exact ⟨_, rfl, rfl, _, rfl, iteT k⟩
    | some z => exact ⟨_, rfl, rfl, _, rfl, iteF ⟨_, rfl, _, rfl, _, _, rfl, rfl, k⟩⟩
theorem ok_law_turned (T : Tx K w mg Z) : FnOk P w K mg base CX0 1 Z.a_law_turned Z.d_law_turned P_law_turned (spTurned K) := by
  refine T.F_law_turned.ok sclaw_turned (fun vs H Q E h => ?_) (fun cdv A outer s H vs Q E hr h => ?_)
  · obtain ⟨v, o, rfl, _⟩ := h
    rfl
  · obtain ⟨v, o, rfl, hv, k⟩ := h
    refine ⟨_, (pss_one (ps_ret (pe_ifExp (pt_cmpR op_isN (pv 0) pe_non (nomark _)) pe_non (pe_tup (pa_cons (pe_op op_sub pe_int (pe_ix (ixT (K := K)) (pv 0) pe_int (fun _ _ => rfl))) (pa_cons (pe_ix (ixT (K := K)) (pv 0) pe_int (fun _ _ => rfl)) pa_nil)))))), ?_⟩
    cases o with
    | none =>
      cases hv
      exact ⟨_, rfl, rfl, _, rfl, iteT (k _ _ (fun _ _ e => e) .non)⟩
    | some pr =>
      obtain ⟨a, rfl, ha⟩ := dp_pair hv
      refine ⟨_, rfl, rfl, _, rfl, iteF ⟨_, rfl, _, _, _, _, rfl, rfl, ha, rfl, _, _, rfl, rfl, _, rfl, _, _, _, _, rfl, rfl, ha, rfl, (by show 2 ≤ sizeLine; decide), fun q hq => ?_⟩⟩
      exact k _ _ (same_upd hq) (dp_two upd_same)
theorem ok_law_twice_right (T : Tx K w mg Z) : FnOk P w K mg base CX0 7 Z.a_law_twice_right Z.d_law_twice_right P_law_twice_right (spTwice Z K) := by
  refine T.F_law_twice_right.ok sclaw_twice_right (fun vs H Q E h => ?_) (fun cdv A outer s H vs Q E hr h => ?_)
  · obtain ⟨t, g, p, d, n, L, ls, hs, rfl, _⟩ := h
    rfl
  · obtain ⟨t, g, p, d, n, L, ls, hs, rfl, hT, hn, hL, hL30, lp, hpt, hpg, hok, hlen, D, OD, B, k⟩ := h
    have hLb := bigL hL hL30
    have hL2 : L.natAbs < 2 ^ 200 := lt_up hLb (by decide)
    have nl := noLs_map noL_encL ls
    refine ⟨_, (pss_cons (ps_set (i := 4) sclaw_twice_right.nd rfl (Or.inl rfl) (pe_meth0 (pe_meth0 (pv 3) T.cl T.m_Dark_led_back (ok_Dark_led_back T) (hr.mono (by decide)) T.bb_Dark_led_back .nil pass0) T.cl T.m_Dark_led_back (ok_Dark_led_back T) (hr.mono (by decide)) T.bb_Dark_led_back .nil pass0))
      (pss_cons (ps_set (i := 5) sclaw_twice_right.nd rfl (Or.inl rfl) (pe_meth0 (pe_meth0 (pv 4) T.cl T.m_Dark_led_back (ok_Dark_led_back T) (hr.mono (by decide)) T.bb_Dark_led_back .nil pass0) T.cl T.m_Dark_led_back (ok_Dark_led_back T) (hr.mono (by decide)) T.bb_Dark_led_back .nil pass0))
      (pss_cons (ps_for PassesOwn.never rfl (pi_range1 (by rfl) T.b_range (pa_cons pe_int pa_nil)) (pg_name (i := 6) sclaw_twice_right.nd rfl (Or.inl rfl)) (pss_cons (ps_set (i := 7) sclaw_twice_right.nd rfl (Or.inl rfl) (pe_call (ok_law_spot T) (hr.mono (by decide)) (by rfl) T.g_law_spot T.F_law_spot.kp T.bb_law_spot .nil pass0 (pa_cons (pv 0) (pa_cons (pv 1) (pa_cons (pv 2) pa_nil)))))
      (pss_cons (ps_set (i := 8) sclaw_twice_right.nd rfl (Or.inl rfl) (pe_lst (pa_cons (pe_meth (pv 3) T.cl T.m_Dark_least (ok_Dark_least T) (hr.mono (by decide)) T.bb_Dark_least .nil pass0 (pa_cons (pv 7) pa_nil)) (pa_cons (pe_meth (pv 3) T.cl T.m_Dark_greatest (ok_Dark_greatest T) (hr.mono (by decide)) T.bb_Dark_greatest .nil pass0 (pa_cons (pv 7) pa_nil)) pa_nil))))
      (pss_cons (ps_set (i := 9) sclaw_twice_right.nd rfl (Or.inl rfl) (pe_lst (pa_cons (pe_meth (pv 4) T.cl T.m_Dark_least (ok_Dark_least T) (hr.mono (by decide)) T.bb_Dark_least .nil pass0 (pa_cons (pe_op op_add (pv 7) pe_int) pa_nil)) (pa_cons (pe_meth (pv 4) T.cl T.m_Dark_greatest (ok_Dark_greatest T) (hr.mono (by decide)) T.bb_Dark_greatest .nil pass0 (pa_cons (pe_op op_add (pv 7) pe_int) pa_nil)) (pa_cons (pe_meth (pv 5) T.cl T.m_Dark_least (ok_Dark_least T) (hr.mono (by decide)) T.bb_Dark_least .nil pass0 (pa_cons (pe_op op_add (pv 7) pe_int) pa_nil)) (pa_cons (pe_meth (pv 5) T.cl T.m_Dark_greatest (ok_Dark_greatest T) (hr.mono (by decide)) T.bb_Dark_greatest .nil pass0 (pa_cons (pe_op op_add (pv 7) pe_int) pa_nil)) pa_nil))))))
      (pss_one (ps_if (pt_not (pt_val (pe_call (ok_law_alike T 4) (hr.mono (by decide)) (by rfl) T.g_law_alike T.F_law_alike.kp T.bb_law_alike .nil pass0 (pa_cons (pv 9) (pa_cons (pe_op op_cat (pe_lc (own := [("there", 10)]) (g := gName 10) (tt := tYes) rfl sclaw_twice_right.nd (pi_list (pv 8)) (blkOk_by (own := [("there", 10)]) (N := N_law_twice_right) (sc := defScope slaw_twice_right) (by decide +kernel)) (fun _ _ _ _ _ => (pg_name (i := 10) sclaw_twice_right.nd rfl (Or.inl rfl))) (fun _ _ _ _ _ => pts_nil) (fun _ _ _ _ _ => (pe_call (ok_law_plus T) (hr.mono (by decide)) (by rfl) T.g_law_plus T.F_law_plus.kp T.bb_law_plus .nil pass0 (pa_cons (pv 10) (pa_cons pe_int pa_nil))))) (pe_lc (own := [("there", 10)]) (g := gName 10) (tt := tYes) rfl sclaw_twice_right.nd (pi_list (pv 8)) (blkOk_by (own := [("there", 10)]) (N := N_law_twice_right) (sc := defScope slaw_twice_right) (by decide +kernel)) (fun _ _ _ _ _ => (pg_name (i := 10) sclaw_twice_right.nd rfl (Or.inl rfl))) (fun _ _ _ _ _ => pts_nil) (fun _ _ _ _ _ => (pe_call (ok_law_plus T) (hr.mono (by decide)) (by rfl) T.g_law_plus T.F_law_plus.kp T.bb_law_plus .nil pass0 (pa_cons (pv 10) (pa_cons pe_int pa_nil)))))) pa_nil))))) (pss_one (ps_ret pe_bl)) pss_nil))))))
      (pss_one (ps_ret pe_bl))))), ?_⟩
    obtain ⟨dx, la, vsd, e1, _, _⟩ := id D.ex
    have B1 := B.back hL hL2 (by decide)
    have B2 := B1.back hL hL2 (by decide)
    have B3 := B2.back hL hL2 (by decide)
    have m58 : ∀ {m : Nat}, m ≤ 12 → m ≤ 58 := fun h => by omega
    refine ⟨_, rfl, d, dx, _, rfl, e1, df_no _ _ (by decide +kernel) (by decide +kernel), d, L, hs, rfl, D, fun l hl => (B.s l hl).up (by decide), B.nc, m58 B.len, fun H1 b1 hb1 S1 D1 F1 => ?_⟩
    obtain ⟨dx1, la1, vs1, e2, _, _⟩ := id D1.ex
    refine ⟨b1, dx1, _, rfl, e2, df_no _ _ (by decide +kernel) (by decide +kernel), b1, L, _, rfl, D1, fun l hl => (B1.s l hl).up (by decide), B1.nc, m58 B1.len, fun H2 tw htw S2 D2 F2 => ?_⟩
    obtain ⟨dx2, la2, vs2, e3, _, _⟩ := id D2.ex
    refine ⟨_, rfl, tw, dx2, _, rfl, e3, df_no _ _ (by decide +kernel) (by decide +kernel), tw, L, _, rfl, D2, fun l hl => (B2.s l hl).up (by decide), B2.nc, m58 B2.len, fun H3 b3 hb3 S3 D3 F3 => ?_⟩
    obtain ⟨dx3, la3, vs3, e4, _, _⟩ := id D3.ex
    refine ⟨b3, dx3, _, rfl, e4, df_no _ _ (by decide +kernel) (by decide +kernel), b3, L, _, rfl, D3, fun l hl => (B3.s l hl).up (by decide), B3.nc, m58 B3.len, fun H4 fo hfo S4 D4 F4 => ?_⟩
    have T1 := hT.same S1
    have T2 := T1.same S2
    have T3 := T2.same S3
    have T4 := T3.same S4
    have O2 : Off Z H2 tw L t g := fun la dx e => T1.at_ne (F2 la dx e)
    have O4 : Off Z H4 fo L t g := fun la dx e => T3.at_ne (F4 la dx e)
    have DD2 : DarkAt Z K H2 tw L (dbl L hs) := D2
    have DD4 : DarkAt Z K H4 fo L (dbl L (dbl L hs)) := D4
    have S34 := S3.trans S4
    have S14 := (S1.trans S2).trans S34
    have dk : ∀ {H'}, Keep t g H4 H' → DarkAt Z K H' d L hs := fun kk => ((D.same S14).keep T4 kk (OD.same D S14)).1
    have dt : ∀ {H'}, Keep t g H4 H' → DarkAt Z K H' tw L (dbl L hs) := fun kk => ((DD2.same S34).keep T4 kk (O2.same DD2 S34)).1
    have df4 : ∀ {H'}, Keep t g H4 H' → DarkAt Z K H' fo L (dbl L (dbl L hs)) := fun kk => (DD4.keep T4 kk O4).1
    have lp4 := lp.same S14
    have A4 : At H H4 t g n := ⟨T4, Keep.of_same S14⟩
    have w0 := B.w
    have w2 : ∀ l ∈ dbl L hs, WordOk l.1 := B2.w
    clear D1 D2 D3 D4 F1 F2 F3 F4 e2 e3 e4 B1 B2 B3
    refine ⟨4, rfl, by decide, by decide, ?_⟩
    refine for_range (n := 4) (fun i σ' H' => ∃ u6 u7 u8 u9 u10, σ' = [some (.ref t), some (.int L), some (.ref p), some (.ref d), some (.ref tw), some (.ref fo), u6, u7, u8, u9, u10] ∧ At H4 H' t g (n + 20 * i)) ⟨_, _, _, _, _, rfl, T4, Keep.refl _ _ _⟩ ?_ ?_
    rotate_left
    · rintro σ' H' ⟨_, _, _, _, _, rfl, A⟩
      exact k H' ((A4.step A.T A.k).up (by omega))
    rintro i σ' H5 hi ⟨u6, u7, u8, u9, u10, rfl, A5⟩
    refine ⟨_, rfl, _, rfl, _, rfl, t, g, p, n + 20 * i, L, ls, rfl, A5.T, Nat.lt_of_le_of_lt (by omega : n + 20 * i ≤ n + 200) (Nat.lt_of_lt_of_le (Nat.add_lt_add_right hn 200) (by decide)), hL, hL30, lp4.keep T4 A5.k hpt hpg nl, hpt, hpg, hok, hlen, fun H6 x A6' hx => ?_⟩
    have A6 := A5.step A6'.T A6'.k
    have hx4 : x.natAbs < 2 ^ 400 := lt_up hx (by decide)
    have hx1 : (x + 1).natAbs < 2 ^ 400 := lt_up (add_lt hx (show (1 : Int).natAbs < 2 ^ 280 by decide)) (by decide)
    have hx2 : (x + 2).natAbs < 2 ^ 400 := lt_up (add_lt hx (show (2 : Int).natAbs < 2 ^ 280 by decide)) (by decide)
    obtain ⟨o1, eo1⟩ : ∃ o, o = stp "slow" L (sideOf "slow" hs) x := ⟨_, rfl⟩
    obtain ⟨o2, eo2⟩ : ∃ o, o = stp "fast" L (sideOf "fast" hs) x := ⟨_, rfl⟩
    -- some
    obtain ⟨dxa, laa, vsa, ea, _, _⟩ := id (dk A6.k).ex
    refine ⟨_, rfl, d, dxa, _, rfl, ea, df_no _ _ (by decide +kernel) (by decide +kernel), _, rfl, d, L, hs, x, rfl, dk A6.k, hx4, fun v1 H7 S7 tv1 => ?_⟩
    have A7 := A6.sm S7
    have ev1 := tells_stp (.inl rfl) tv1
    refine ⟨_, rfl, d, dxa, _, rfl, S7 _ _ ea, df_no _ _ (by decide +kernel) (by decide +kernel), _, rfl, d, L, hs, x, rfl, dk A7.k, hx4, fun v2 H8 S8 tv2 => ⟨(by show 2 ≤ sizeLine; decide), fun sq hsq => ?_⟩⟩
    have A8 := A7.sm S8
    have ev2 := tells_stp (.inr rfl) tv2
    rw [← eo1] at ev1
    rw [← eo2] at ev2
    subst ev1 ev2
    have gsq : (upd H8 sq (.lst [oV o1, oV o2])) sq = some (.lst [oV o1, oV o2]) := upd_same
    have A9 := A8.new (o := .lst [oV o1, oV o2]) hsq
    generalize upd H8 sq (.lst [oV o1, oV o2]) = H9 at gsq A9 ⊢
    -- told
    obtain ⟨dxb, lab, vsb, eb, _, _⟩ := id (dt A9.k).ex
    refine ⟨_, rfl, tw, dxb, _, rfl, eb, df_no _ _ (by decide +kernel) (by decide +kernel), _, rfl, _, _, rfl, rfl, tw, L, _, x + 1, rfl, dt A9.k, hx1, fun v3 H10 S10 tv3 => ?_⟩
    have A10 := A9.sm S10
    have ev3 := tells_stp (.inl rfl) tv3
    refine ⟨_, rfl, tw, dxb, _, rfl, S10 _ _ eb, df_no _ _ (by decide +kernel) (by decide +kernel), _, rfl, _, _, rfl, rfl, tw, L, _, x + 1, rfl, dt A10.k, hx1, fun v4 H11 S11 tv4 => ?_⟩
    have A11 := A10.sm S11
    have ev4 := tells_stp (.inr rfl) tv4
    obtain ⟨dxc, lac, vsc, ec, _, _⟩ := id (df4 A11.k).ex
    refine ⟨_, rfl, fo, dxc, _, rfl, ec, df_no _ _ (by decide +kernel) (by decide +kernel), _, rfl, _, _, rfl, rfl, fo, L, _, x + 2, rfl, df4 A11.k, hx2, fun v5 H12 S12 tv5 => ?_⟩
    have A12 := A11.sm S12
    have ev5 := tells_stp (.inl rfl) tv5
    refine ⟨_, rfl, fo, dxc, _, rfl, S12 _ _ ec, df_no _ _ (by decide +kernel) (by decide +kernel), _, rfl, _, _, rfl, rfl, fo, L, _, x + 2, rfl, df4 A12.k, hx2, fun v6 H13 S13 tv6 => ⟨(by show 4 ≤ sizeLine; decide), fun td htd => ?_⟩⟩
    have A13 := A12.sm S13
    have ev6 := tells_stp (.inr rfl) tv6
    have ex2 : x + 2 = x + 1 + 1 := by omega
    rw [dbl_stp (.inl rfl) hL w0, ← eo1] at ev3
    rw [dbl_stp (.inr rfl) hL w0, ← eo2] at ev4
    rw [ex2, dbl_stp (.inl rfl) hL w2, dbl_stp (.inl rfl) hL w0, ← eo1, map_two] at ev5
    rw [ex2, dbl_stp (.inr rfl) hL w2, dbl_stp (.inr rfl) hL w0, ← eo2, map_two] at ev6
    subst ev3 ev4 ev5 ev6
    have S9 := ((S10.trans S11).trans S12).trans S13
    have gs13 := S9 _ _ gsq
    have Std := same_upd (o := HO.lst [oV (o1.map (· + 1)), oV (o2.map (· + 1)), oV (o1.map (· + 2)), oV (o2.map (· + 2))]) htd
    have gtd : (upd H13 td (.lst [oV (o1.map (· + 1)), oV (o2.map (· + 1)), oV (o1.map (· + 2)), oV (o2.map (· + 2))])) td = some (.lst [oV (o1.map (· + 1)), oV (o2.map (· + 1)), oV (o1.map (· + 2)), oV (o2.map (· + 2))]) := upd_same
    generalize upd H13 td (.lst [oV (o1.map (· + 1)), oV (o2.map (· + 1)), oV (o1.map (· + 2)), oV (o2.map (· + 2))]) = H14 at Std gtd ⊢
    have A14 := A13.sm Std
    have gs14 := Std _ _ gs13
    -- due
    refine ⟨_, rfl, _, rfl, sq, rfl, ⟨_, SqL.of gs14⟩, fun E hE => ?_⟩
    have chg : ∀ (Hb H' : Hp) (E : Addr) (j : Int) (i' : Nat) (o : Option Int) (ys : List V), Hb E = none → [o1, o2][i']? = some o → i' < 2 → Same Hb H' → H' E = some (.lst ys) → ys = (([o1, o2].take i').map fun o => oV (o.map (· + j))) →
        ∃ acc, H' E = some (.lst acc) ∧ acc.length < sizeLine ∧ Same Hb (upd H' E (.lst (acc ++ [oV (o.map (· + j))]))) ∧ ∃ ys, (upd H' E (.lst (acc ++ [oV (o.map (· + j))]))) E = some (.lst ys) ∧ ys = (([o1, o2].take (i' + 1)).map fun o => oV (o.map (· + j))) := by
      intro Hb H' E j i' o ys hE ho hi2 S gE eys
      refine ⟨ys, gE, small1000 (by rw [eys]; simp; omega), same_set S hE, _, upd_same, ?_⟩
      rw [eys, take_snoc ho, List.map_append]; rfl
    refine lc_list (K := K) (a := sq) (xs := [oV o1, oV o2]) (fun i' H' => Same H14 H' ∧ ∃ ys, H' E = some (.lst ys) ∧ ys = (([o1, o2].take i').map fun o => oV (o.map (· + 1)))) ⟨same_upd hE, [], upd_same, rfl⟩ (fun i' H' _ ⟨S, _⟩ => SqL.of (S _ _ gs14)) ?_ ?_
    · rintro i' y H' hi' ⟨S, ys, gE, eys⟩
      have hi2 : i' < 2 := (List.getElem?_eq_some_iff.mp hi').1
      obtain ⟨o, ho, rfl⟩ := map_at (f := oV) (l := [o1, o2]) hi'
      exact ⟨rfl, yes_ite ⟨_, rfl, o, 1, rfl, chg _ _ _ _ _ _ _ hE ho hi2 S gE eys⟩⟩
    rintro H15 ⟨S15, ys, gE, eys⟩
    have gs15 := S15 _ _ gs14
    refine ⟨_, rfl, sq, rfl, ⟨_, SqL.of gs15⟩, fun E2 hE2 => ?_⟩
    refine lc_list (K := K) (a := sq) (xs := [oV o1, oV o2]) (fun i' H' => Same H15 H' ∧ ∃ ys, H' E2 = some (.lst ys) ∧ ys = (([o1, o2].take i').map fun o => oV (o.map (· + 2)))) ⟨same_upd hE2, [], upd_same, rfl⟩ (fun i' H' _ ⟨S, _⟩ => SqL.of (S _ _ gs15)) ?_ ?_
    · rintro i' y H' hi' ⟨S, ys, gE, eys⟩
      have hi2 : i' < 2 := (List.getElem?_eq_some_iff.mp hi').1
      obtain ⟨o, ho, rfl⟩ := map_at (f := oV) (l := [o1, o2]) hi'
      exact ⟨rfl, yes_ite ⟨_, rfl, o, 2, rfl, chg _ _ _ _ _ _ _ hE2 ho hi2 S gE eys⟩⟩
    rintro H16 ⟨S16, ys2, gE2, eys2⟩
    have gE16 := S16 _ _ gE
    have A16 := (A14.sm S15).sm S16
    subst eys eys2
    refine ⟨E, E2, _, _, rfl, rfl, gE16, gE2, (by show 2 + 2 ≤ sizeLine; decide), fun rs hrs => ?_⟩
    have Srs := same_upd (o := HO.lst ([oV (o1.map (· + 1)), oV (o2.map (· + 1))] ++ [oV (o1.map (· + 2)), oV (o2.map (· + 2))])) hrs
    refine ⟨_, _, .list [dO (o1.map (· + 1)), dO (o2.map (· + 1)), dO (o1.map (· + 2)), dO (o2.map (· + 2))], rfl, .lst (SqL.of (Srs _ _ (S16 _ _ (S15 _ _ gtd)))) (.cons (dp_oV _) (.cons (dp_oV _) (.cons (dp_oV _) (.cons (dp_oV _) .nil)))), .lst (SqL.of upd_same) (.cons (dp_oV _) (.cons (dp_oV _) (.cons (dp_oV _) (.cons (dp_oV _) .nil)))), few_four _ _ _ _, depth_four _ _ _ _, _, rfl, iteF ?_⟩
    exact ⟨_, _, _, _, _, rfl, (A16.sm Srs).up (by omega)⟩
theorem ok_law (T : Tx K w mg Z) : FnOk P w K mg base CX0 9 Z.a_law Z.d_law P_law (spLaw K) := by
  refine T.F_law.ok sclaw (fun vs H Q E h => ?_) (fun cdv A outer s H vs Q E hr h => ?_)
  · obtain ⟨a, ns, rfl, _⟩ := h
    rfl
  · obtain ⟨a, ns, rfl, hS, hlen, k⟩ := h
    refine ⟨_, (pss_cons (ps_set (i := 1) sclaw.nd rfl (Or.inr rfl) (pe_call (ok_law_tray T) (hr.mono (by decide)) (by rfl) T.g_law_tray T.F_law_tray.kp T.bb_law_tray .nil pass0 (pa_cons (pv 0) pa_nil)))
      (pss_cons (ps_for PassesOwn.never rfl (pi_range1 (by rfl) T.b_range (pa_cons (pe_op op_add pe_int (pe_callB (lenK (K := K)) (by rfl) T.b_len (by decide +kernel) (pa_cons (pe_slice (slL (K := K)) (pv 0) po_none (po_some pe_int)) pa_nil))) pa_nil)) (pg_name (i := 2) sclaw.nd rfl (Or.inl rfl)) (pss_cons (ps_set (i := 3) sclaw.nd rfl (Or.inr rfl) (pe_call (ok_law_length T) (hr.mono (by decide)) (by rfl) T.g_law_length T.F_law_length.kp T.bb_law_length .nil pass0 (pa_cons (pv 1) pa_nil)))
      (pss_cons (ps_set (i := 4) sclaw.nd rfl (Or.inl rfl) (pe_op op_add pe_int (pe_call (ok_law_draw T) (hr.mono (by decide)) (by rfl) T.g_law_draw T.F_law_draw.kp T.bb_law_draw .nil pass0 (pa_cons (pv 1) (pa_cons pe_int pa_nil)))))
      (pss_cons (ps_setLc (i := 5) (own := [("turn", 6)]) (g := gName 6) (tt := tYes) rfl sclaw.nd rfl rfl (sw_true rfl rfl rfl (by decide +kernel)) (pi_range1 (by rfl) T.b_range (pa_cons (pv 4) pa_nil)) (blkOk_by (own := [("turn", 6)]) (N := N_law) (sc := defScope slaw) (by decide +kernel)) (fun _ _ _ _ _ => (pg_name (i := 6) sclaw.nd rfl (Or.inl rfl))) (fun _ _ _ _ _ => pts_nil) (fun _ _ _ _ _ => (pe_call (ok_law_known T) (hr.mono (by decide)) (by rfl) T.g_law_known T.F_law_known.kp T.bb_law_known .nil pass0 (pa_cons (pv 1) (pa_cons (pv 3) (pa_cons pe_int pa_nil))))))
      (pss_cons (ps_setLc (i := 7) (own := [("known", 8)]) (g := gName 8) (tt := tYes) rfl sclaw.nd rfl rfl (sw_true rfl rfl rfl (by decide +kernel)) (pi_list (pv 5)) (blkOk_by (own := [("known", 8)]) (N := N_law) (sc := defScope slaw) (by decide +kernel)) (fun _ _ _ _ _ => (pg_name (i := 8) sclaw.nd rfl (Or.inl rfl))) (fun _ _ _ _ _ => pts_nil) (fun _ _ _ _ _ => (pe_call (ok_law_made T) (hr.mono (by decide)) (by rfl) T.g_law_made T.F_law_made.kp T.bb_law_made .nil pass0 (pa_cons (pv 3) (pa_cons (pv 8) pa_nil)))))
      (pss_cons (ps_for PassesOwn.never rfl (pi_zip (by rfl) T.b_zip (pa_cons (pv 5) (pa_cons (pv 7) pa_nil))) (tupK (K := K) (by rfl) (pgs_cons (pg_name (i := 8) sclaw.nd rfl (Or.inl rfl)) (pgs_cons (pg_name (i := 9) sclaw.nd rfl (Or.inl rfl)) pgs_nil))) (pss_one (ps_if (pt_not (pt_val (pe_call (ok_law_twice_right T) (hr.mono (by decide)) (by rfl) T.g_law_twice_right T.F_law_twice_right.kp T.bb_law_twice_right .nil pass0 (pa_cons (pv 1) (pa_cons (pv 3) (pa_cons (pv 8) (pa_cons (pv 9) pa_nil))))))) (pss_one (ps_ret pe_bl)) pss_nil)))
      (pss_cons (ps_asg (pe_call (ok_paces T) (hr.mono (by decide)) (by rfl) T.g_paces T.F_paces.kp T.bb_paces .nil pass0 (pa_cons (pv 7) pa_nil)) (tupK (K := K) (by rfl) (pgs_cons (pg_name (i := 10) sclaw.nd rfl (Or.inl rfl)) (pgs_cons (pg_name (i := 11) sclaw.nd rfl (Or.inl rfl)) pgs_nil))))
      (pss_cons (ps_set (i := 12) sclaw.nd rfl (Or.inl rfl) (pe_tup (pa_cons (pe_call (ok_law_turned T) (hr.mono (by decide)) (by rfl) T.g_law_turned T.F_law_turned.kp T.bb_law_turned .nil pass0 (pa_cons (pv 11) pa_nil)) (pa_cons (pe_call (ok_law_turned T) (hr.mono (by decide)) (by rfl) T.g_law_turned T.F_law_turned.kp T.bb_law_turned .nil pass0 (pa_cons (pv 10) pa_nil)) pa_nil))))
      (pss_one (ps_if (pt_not (pt_val (pe_call (ok_law_alike T 4) (hr.mono (by decide)) (by rfl) T.g_law_alike T.F_law_alike.kp T.bb_law_alike .nil pass0 (pa_cons (pe_call (ok_paces T) (hr.mono (by decide)) (by rfl) T.g_paces T.F_paces.kp T.bb_paces .nil pass0 (pa_cons (pe_lc (own := [("one", 9)]) (g := gName 9) (tt := tYes) rfl sclaw.nd (pi_list (pe_revL (pv 7))) (blkOk_by (own := [("one", 9)]) (N := N_law) (sc := defScope slaw) (by decide +kernel)) (fun _ _ _ _ _ => (pg_name (i := 9) sclaw.nd rfl (Or.inl rfl))) (fun _ _ _ _ _ => pts_nil) (fun _ _ _ _ _ => (pe_meth0 (pv 9) T.cl T.m_Dark_led_back (ok_Dark_led_back T) (hr.mono (by decide)) T.bb_Dark_led_back .nil pass0))) pa_nil)) (pa_cons (pv 12) pa_nil))))) (pss_one (ps_ret pe_bl)) pss_nil))))))))))
      (pss_one (ps_ret pe_bl)))), ?_⟩
    refine ⟨_, rfl, a, ns, rfl, hS, hlen, fun H0 t g T0 S0 ht hg => ?_⟩
    refine ⟨_, rfl, _, rfl, a, _, rfl, Same.sqL S0 hS, fun q hq => ⟨q, _, rfl, .inl (SqL.of upd_same), _, _, rfl, rfl, ?_⟩⟩
    have hcut : ((cutV (ns.map V.int) none (some 6)).length : Int) ≤ 63 := by
      have e : (cutV (ns.map V.int) none (some (6 : Int))).length ≤ 63 := Nat.le_trans (cutV_length _ _ _) (by rw [List.length_map]; exact hlen)
      exact_mod_cast e
    have hcut0 : (0 : Int) ≤ ((cutV (ns.map V.int) none (some 6)).length : Int) := Int.natCast_nonneg _
    generalize ((cutV (ns.map V.int) none (some 6)).length : Int) = cut at hcut hcut0 ⊢
    have A0 : At H0 (upd H0 q (.lst (cutV (ns.map V.int) none (some 6)))) t g 0 := ⟨T0.same (same_upd hq), Keep.of_same (same_upd hq)⟩
    generalize upd H0 q (.lst (cutV (ns.map V.int) none (some 6))) = H0' at A0 ⊢
    refine ⟨2 + cut, rfl, by omega, by omega, ?_⟩
    refine for_range (n := (2 + cut).toNat) (fun i σ' H' => ∃ (u2 u3 u4 u5 u6 u7 u8 u9 u10 u11 u12 : Option V), σ' = [some (.ref a), some (.ref t), u2, u3, u4, u5, u6, u7, u8, u9, u10, u11, u12] ∧ Tray H' t g (10000 * i)) ⟨_, _, _, _, _, _, _, _, _, _, _, rfl, A0.T⟩ ?_ ?_
    rotate_left
    · rintro σ' H' ⟨_, _, _, _, _, _, _, _, _, _, _, rfl, _⟩
      exact k H'
    rintro i σ' H1 hi ⟨u2, u3, u4, u5, u6, u7, u8, u9, u10, u11, u12, rfl, T1⟩
    have hi13 : i < 66 := by omega
    have hn : ∀ m, m ≤ 10000 * i + 10000 → m < 2 ^ 43 := fun m hm => Nat.lt_of_le_of_lt (by omega : m ≤ 1000000) (by decide)
    obtain ⟨N, eN⟩ : ∃ N, N = 10000 * i := ⟨_, rfl⟩
    have eN2 : 10000 * (i + 1) = N + 10000 := by omega
    rw [eN2]
    rw [← eN] at T1 hn
    have h60 : ∀ m, m ≤ N + 10000 → m < 2 ^ 60 := fun m hm => Nat.lt_trans (hn m hm) (by decide)
    have h44 : ∀ m, m ≤ N + 10000 → m < 2 ^ 44 := fun m hm => Nat.lt_trans (hn m hm) (by decide)
    -- size, many
    refine ⟨_, rfl, t, g, N, rfl, T1, Nat.lt_trans (hn _ (by omega)) (by decide), fun H2 L hL hL30 T2 k2 => ?_⟩
    have hLb := bigL hL hL30
    have hL2 : L.natAbs < 2 ^ 200 := lt_up hLb (by decide)
    refine ⟨_, rfl, t, g, N + 10, 3, rfl, T2, by decide, by decide, h60 _ (by omega), fun H3 m m0 m1 T3 k3 => ⟨_, _, rfl, rfl, ?_⟩⟩
    -- rows
    refine ⟨_, rfl, 1 + m, rfl, by omega, Int.lt_of_le_of_lt (show 1 + m ≤ 4 by omega) (by decide), fun F hF => ?_⟩
    obtain ⟨Ft, Fg⟩ := T3.at_ne hF
    have A3 : At H3 H3 t g (N + 11) := ⟨T3, Keep.refl _ _ _⟩
    refine lc_range (lo := 0) (n := (1 + m).toNat) (fun j H' => At H3 H' t g (N + 11 + 2000 * j) ∧ ∃ (as : List Addr) (lots : List (List Lk)), H' F = some (.lst (refs as)) ∧ LotsAt K H' as lots t g ∧ (∀ a ∈ as, a ≠ F) ∧ lots.length = j ∧ ∀ ls ∈ lots, Lot L ls)
      ⟨A3.new hF, [], [], upd_same, ⟨⟨rfl, fun _ _ _ z => by simp at z⟩, fun _ z => by cases z⟩, (fun _ z => by cases z), rfl, fun _ z => by cases z⟩ ?_ ?_
    · rintro j H4 hj ⟨A4, as, lots, gF4, lo4, hasF, hll, hlot⟩
      have hj3 : j < 3 := by omega
      refine ⟨rfl, yes_ite ?_⟩
      refine ⟨_, rfl, _, rfl, t, g, N + 11 + 2000 * j, L, 6, rfl, A4.T, h44 _ (by omega), hL, hL30, by decide, by decide, fun H5 p ls steps hp B5 lp htr hst hll6 => ?_⟩
      obtain ⟨pt, pg⟩ := A4.T.at_ne hp
      have A5 := A4.step B5.T B5.k
      have gF5 := B5.k _ _ gF4 Ft Fg
      have lo5 := (lo4.keep A4.T B5.k).snoc lp ⟨pt, pg⟩
      have hpF : p ≠ F := Ne.symm (ne_of_none gF4 hp)
      have hasF' : ∀ a ∈ as ++ [p], a ≠ F := fun a ha => by
        rcases List.mem_append.mp ha with h | h
        · exact hasF a h
        · rw [List.mem_singleton] at h; subst h; exact hpF
      have hal : as.length = lots.length := lo4.1.1
      refine ⟨_, gF5, small1000 (by rw [List.length_map]; omega), (A5.acc hF Ft Fg).up (by omega), as ++ [p], lots ++ [ls], ?_, lo5.acc gF5 hasF', hasF', by simp [hll], fun l' hl' => ?_⟩
      · rw [upd_same]; simp [refs]
      · rcases List.mem_append.mp hl' with h | h
        · exact hlot l' h
        · rw [List.mem_singleton] at h; subst h
          exact ⟨fun l hl => ⟨(htr l hl).word, (htr l hl).sz⟩, fun a ha b hb => no_clash hL (htr a ha).says (htr b hb).says, by omega⟩
    rintro H4 ⟨A4, as, lots, gF4, lo4, hasF, hll, hlot⟩
    have hl0 : 0 < lots.length := by omega
    have hl3 : lots.length ≤ 3 := by omega
    have hal : as.length = lots.length := lo4.1.1
    replace A4 : At H3 H4 t g (N + 6011) := A4.up (by omega)
    have T4 := A4.T
    -- made
    refine ⟨_, rfl, F, rfl, ⟨_, SqL.of gF4⟩, fun D hD => ?_⟩
    obtain ⟨Dt, Dg⟩ := T4.at_ne hD
    have hFD : F ≠ D := ne_of_none gF4 hD
    refine lc_list (K := K) (a := F) (xs := refs as) (fun j H' => Same H4 H' ∧ ∃ ds, ds.length = j ∧ Row Z K H' t g D ds L ((lots.take j).map (heardAll L))) ⟨same_upd hD, [], rfl, Row.new L hD⟩ (fun j H' _ h => SqL.of (h.1 _ _ gF4)) ?_ ?_
    · rintro j y H5 hj ⟨S5, ds, hdl, R5⟩
      obtain ⟨b, hb, rfl⟩ := map_at hj
      obtain ⟨ls, hls, hlk⟩ := (lo4.same S5).1.get hb
      have G := hlot ls (List.mem_of_getElem? hls)
      have hj3 : j < 3 := by
        have := (List.getElem?_eq_some_iff.mp hls).1
        omega
      refine ⟨rfl, yes_ite ?_⟩
      refine ⟨_, rfl, _, rfl, .ref b, L, ls, rfl, hlk.dp, hL, hL2, fun l hl => ⟨(G.w l hl).1, (G.w l hl).2.up (by decide)⟩, G.nc, Nat.le_trans G.len (by decide), fun H6 d hd S6 D6 F6 => ?_⟩
      refine ⟨_, S6 _ _ R5.l, small1000 (by rw [List.length_map]; omega), same_set (S5.trans S6) hD, ds ++ [d], by simp [hdl], ?_⟩
      rw [take_snoc hls, List.map_append]
      exact R5.step (T4.same S5) S6 D6 F6
    rintro H5 ⟨S5, ds, hdl, R5⟩
    rw [show (refs as).length = lots.length by rw [← hal]; exact List.length_map _] at hdl R5
    rw [List.take_length] at R5
    have gF5 := S5 _ _ gF4
    have lo5 := lo4.same S5
    have T5 := T4.same S5
    have bok : ∀ ls ∈ lots, Bok L (heardAll L ls) 272 12 := fun ls hl => by
      have G := hlot ls hl
      refine Bok.heard hL hL2 (by decide) (fun l hl => (G.w l hl).1) (fun l hl => (G.w l hl).2) G.nc ?_
      have h1 := bk_lenB (heardAll L ls)
      have h2 := fold_len (L := L) ls []
      have h3 : (heardAll L ls).length ≤ ls.length := by unfold heardAll; simpa using h2
      have := G.len
      omega
    -- twice
    refine ⟨_, rfl, _, rfl, ?_⟩
    refine ⟨F, D, _, _, rfl, SqL.of gF5, SqL.of R5.l, ?_⟩
    refine for_zip (a := F) (b := D) (xs := refs as) (ys := refs ds) (by rw [List.length_map, List.length_map]; omega) (fun j σ' H' => ∃ u8 u9, σ' = [some (.ref a), some (.ref t), some (.int (0 + (i : Nat))), some (.int L), some (.int (1 + m)), some (.ref F), u6, some (.ref D), u8, u9, u10, u11, u12] ∧ At H5 H' t g (N + 6011 + 100 * j)) ⟨_, _, rfl, T5, Keep.refl _ _ _⟩ (fun j σ' H' h => ?_) ?_ ?_
    · obtain ⟨_, _, _, A⟩ := h
      exact ⟨SqL.of (A.k _ _ gF5 Ft Fg), SqL.of (A.k _ _ R5.l Dt Dg)⟩
    · rintro j y z tt σ' H6 hy hz ⟨u8, u9, rfl, A6⟩ htt
      obtain ⟨b, hb, rfl⟩ := map_at hy
      obtain ⟨d, hd, rfl⟩ := map_at hz
      have Stt := same_upd (o := HO.tup [V.ref b, V.ref d]) htt
      refine ⟨_, _, rfl, SqT.of upd_same, rfl, _, _, rfl, _, _, rfl, rfl, ?_⟩
      have A7 := A6.sm Stt
      have lo7 := lo5.keep T5 A7.k
      have R7 := R5.keep T5 A7.k Dt Dg
      obtain ⟨ls, hls, hlk⟩ := lo7.1.get hb
      obtain ⟨hs, hhs, DD⟩ := R7.dk.1.get hd
      have ehs : hs = heardAll L ls := by
        rw [List.getElem?_map, hls] at hhs
        exact (Option.some.inj hhs).symm
      subst ehs
      have hlm := List.mem_of_getElem? hls
      have G := hlot ls hlm
      have hbt := lo7.2 b (List.mem_of_getElem? hb)
      have hj3 : j < 3 := by
        have := (List.getElem?_eq_some_iff.mp hls).1
        omega
      refine ⟨_, rfl, _, rfl, _, rfl, _, rfl, t, g, b, d, N + 6011 + 100 * j, L, ls, heardAll L ls, rfl, A7.T, hn _ (by omega), hL, hL30, hlk, hbt.1, hbt.2, G.w, Nat.le_trans G.len (by decide), DD, R7.dk.2 d (List.mem_of_getElem? hd), bok ls hlm, fun H8 B8 => ⟨_, rfl, iteF ?_⟩⟩
      exact ⟨_, _, rfl, (A7.step B8.T B8.k).up (by omega)⟩
    rintro σ' H6 ⟨u8, u9, rfl, A6⟩
    rw [show (refs as).length = lots.length by rw [← hal]; exact List.length_map _] at A6
    replace A6 : At H5 H6 t g (N + 7000) := A6.up (by omega)
    have R6 := R5.keep T5 A6.k Dt Dg
    have hd0 : 0 < ds.length := by omega
    have hd60 : ds.length ≤ 60 := by omega
    have hw : ∀ ls ∈ lots, ∀ l ∈ ls, WordOk l.1 := fun ls hl l h => ((hlot ls hl).w l h).1
    -- paces
    refine ⟨_, rfl, D, ds, L, lots, rfl, SqL.of R6.l, R6.dk.1, hd0, hd60, fun H7 r o1 o2 S7 hr7 P1 P2 => ?_⟩
    obtain ⟨pq, x, y, rfl, sxy, hx, hy⟩ := dp_encPsB hr7
    have R7 := R6.same S7
    have A7 := A6.sm S7
    refine ⟨_, _, rfl, sxy, rfl, _, _, rfl, _, _, rfl, rfl, ?_⟩
    refine ⟨_, rfl, y, o2, rfl, hy, fun r2 H8 S8 h2 => ⟨_, rfl, x, o1, rfl, dp_mono S8 _ _ hx, fun r1 H9 S9 h1 => ⟨(by show 2 ≤ sizeLine; decide), fun due hdue => ?_⟩⟩⟩
    have S10 := same_upd (o := HO.tup [r2, r1]) hdue
    have hdu : Dp K (upd H9 due (.tup [r2, r1])) (.ref due) (encPs (negO o2) (negO o1)) := .tup (SqT.of upd_same) (.cons (dp_mono (S9.trans S10) _ _ h2) (.cons (dp_mono S10 _ _ h1) .nil))
    generalize upd H9 due (.tup [r2, r1]) = H10 at S10 hdu ⊢
    have S710 := (S8.trans S9).trans S10
    have R10 := R7.same S710
    have A10 := A7.sm S710
    -- led back
    refine ⟨_, rfl, D, _, rfl, SqL.of R10.l, fun rv hrv => ?_⟩
    have Srv := same_upd (o := HO.lst (refs ds).reverse) hrv
    have grv : (upd H10 rv (.lst (refs ds).reverse)) rv = some (.lst (refs ds.reverse)) := by rw [upd_same]; simp [refs]
    generalize upd H10 rv (.lst (refs ds).reverse) = H11 at Srv grv ⊢
    have R11 := R10.same Srv
    have A11 := A10.sm Srv
    have rev := R11.dk.1.rev
    refine ⟨rv, rfl, ⟨_, SqL.of grv⟩, fun E hE => ?_⟩
    refine lc_list (K := K) (a := rv) (xs := refs ds.reverse) (fun j H' => Same H11 H' ∧ ∃ es, es.length = j ∧ Row Z K H' t g E es L (((bkr L lots).take j).map (heardAll L))) ⟨same_upd hE, [], rfl, Row.new L hE⟩ (fun j H' _ h => SqL.of (h.1 _ _ grv)) ?_ ?_
    · rintro j z H12 hj ⟨S12, es, hel, R12⟩
      obtain ⟨d, hd, rfl⟩ := map_at hj
      obtain ⟨hs, hhs, DD⟩ := (rev.same S12).get hd
      have hhm : ∃ ls ∈ lots, heardAll L ls = hs := by
        have := List.mem_of_getElem? hhs
        rw [List.mem_reverse] at this
        exact List.mem_map.mp this
      obtain ⟨ls, hlm, ehs⟩ := hhm
      have Bo := bok ls hlm
      rw [ehs] at Bo
      have hbk : (bkr L lots)[j]? = some (bk hs) := by
        unfold bkr
        rw [List.getElem?_map, hhs]; rfl
      have hj3 : j < 3 := by
        have := (List.getElem?_eq_some_iff.mp hd).1
        rw [List.length_reverse] at this
        omega
      obtain ⟨dx, la, vs, e1, _, _⟩ := id DD.ex
      refine ⟨rfl, yes_ite ?_⟩
      refine ⟨_, rfl, d, dx, _, rfl, e1, df_no _ _ (by decide +kernel) (by decide +kernel), d, L, hs, rfl, DD, fun l hl => (Bo.s l hl).up (by decide), Bo.nc, Nat.le_trans Bo.len (by decide), fun H13 b hb S13 D13 F13 => ?_⟩
      refine ⟨_, S13 _ _ R12.l, small1000 (by rw [List.length_map]; omega), same_set (S12.trans S13) hE, es ++ [b], by simp [hel], ?_⟩
      rw [take_snoc hbk, List.map_append]
      exact R12.step (A11.T.same S12) S13 D13 F13
    rintro H12 ⟨S12, es, hel, R12⟩
    have hbl : (bkr L lots).length = lots.length := by simp [bkr]
    rw [show (refs ds.reverse).length = lots.length by rw [List.length_map, List.length_reverse]; exact hdl] at hel R12
    rw [show lots.length = (bkr L lots).length from hbl.symm, List.take_length] at R12
    refine ⟨E, es, L, bkr L lots, rfl, SqL.of R12.l, R12.dk.1, by omega, by omega, fun H13 r3 o3 o4 S13 h3 P3 P4 => ?_⟩
    have e3 : o3 = negO o2 := bkr_pace (.inr rfl) hL hw P2 (by rw [oth_fast]; exact P3)
    have e4 : o4 = negO o1 := bkr_pace (.inl rfl) hL hw P1 (by rw [oth_slow]; exact P4)
    subst e3 e4
    refine ⟨_, rfl, _, _, encPs (negO o2) (negO o1), rfl, h3, dp_mono ((Srv.trans S12).trans S13) _ _ hdu, few_encPsB _ _, depth_encPsB _ _, _, rfl, iteF ?_⟩
    have A12 := A11.sm (S12.trans S13)
    have T12 := (((A4.sm S5).step A6.T A6.k).step (A7.sm (S710.trans (Srv.trans (S12.trans S13)))).T (Keep.of_same (S7.trans (S710.trans (Srv.trans (S12.trans S13)))))).T
    exact ⟨_, _, _, _, _, _, _, _, _, _, _, rfl, T12.up (by omega)⟩
end
end KA
namespace KA
open PySem PySem.Spec PyProof.Rows L2 DP
theorem g11_of {α : Type} : ∀ {us ws : List α}, (g11 us ws).length = 2 → ∃ a b, us = [a] ∧ ws = [b]
  | [a], [b], _ => ⟨a, b, rfl, rfl⟩
  | [], _, h => nomatch (show (0 : Nat) = 2 from h)
  | [_], [], h => nomatch (show (0 : Nat) = 2 from h)
  | [_], _ :: _ :: _, h => nomatch (show (0 : Nat) = 2 from h)
  | _ :: _ :: _, _, h => nomatch (show (0 : Nat) = 2 from h)
theorem sqt2 {K : PySem.W.Frag} {H : Hp} {t : Addr} {x y : Str} {o : Option Addr} {u v : Tok} {n : Nat} {s : Array (Option Value)} (l : K.lookup t = some ⟨.type "tuple", o, .seq #[.str x u, .str y v] n, s⟩) : SqT K H t [.str x, .str y] :=
  .inr ⟨_, _, n, l, rfl, rfl, (by show 2 ≤ sizeLine; decide), .cons ⟨u, rfl⟩ (.cons ⟨v, rfl⟩ .nil)⟩
theorem sqt3 {K : PySem.W.Frag} {H : Hp} {t : Addr} {x y z : Str} {o : Option Addr} {u v q : Tok} {n : Nat} {s : Array (Option Value)} (l : K.lookup t = some ⟨.type "tuple", o, .seq #[.str x u, .str y v, .str z q] n, s⟩) : SqT K H t [.str x, .str y, .str z] :=
  .inr ⟨_, _, n, l, rfl, rfl, (by show 3 ≤ sizeLine; decide), .cons ⟨u, rfl⟩ (.cons ⟨v, rfl⟩ (.cons ⟨q, rfl⟩ .nil))⟩
theorem all_mk {l : PySem.W.OpenLaw} {w : World} {K : PySem.W.Frag} {h : Heap} {mg : Str → Option Value} {fa : Addr} (X : K.In h) (G : h.Ns mainGlobals mg) (hfa : mg "law" = some (.ref fa))
    {C : Addr}
    {C_Walk : Addr}
    {f0 : Addr} {od0 an0 : Option Addr} {sl0 : Array (Option Value)} {oc0 kV0 dc0 pm0 cd0 ct0 : Value}
    {f1 : Addr} {od1 an1 : Option Addr} {sl1 : Array (Option Value)} {oc1 kV1 dc1 pm1 cd1 ct1 : Value}
    {f2 : Addr} {od2 an2 : Option Addr} {sl2 : Array (Option Value)} {oc2 kV2 dc2 pm2 cd2 ct2 : Value}
    {f3 : Addr} {od3 an3 : Option Addr} {sl3 : Array (Option Value)} {oc3 kV3 dc3 pm3 cd3 ct3 : Value}
    {f4 : Addr} {od4 an4 : Option Addr} {sl4 : Array (Option Value)} {oc4 kV4 dc4 pm4 cd4 ct4 : Value}
    {f5 : Addr} {od5 an5 : Option Addr} {sl5 : Array (Option Value)} {oc5 kV5 dc5 pm5 cd5 ct5 : Value}
    {f6 : Addr} {od6 an6 : Option Addr} {sl6 : Array (Option Value)} {oc6 kV6 dc6 pm6 cd6 ct6 : Value}
    {f7 : Addr} {od7 an7 : Option Addr} {sl7 : Array (Option Value)} {oc7 kV7 dc7 pm7 cd7 ct7 : Value}
    {f8 : Addr} {od8 an8 : Option Addr} {sl8 : Array (Option Value)} {oc8 kV8 dc8 pm8 cd8 ct8 : Value}
    {f9 : Addr} {od9 an9 : Option Addr} {sl9 : Array (Option Value)} {oc9 kV9 dc9 pm9 cd9 ct9 : Value}
    {f10 : Addr} {od10 an10 : Option Addr} {sl10 : Array (Option Value)} {oc10 kV10 dc10 pm10 cd10 ct10 : Value}
    {f11 : Addr} {od11 an11 : Option Addr} {sl11 : Array (Option Value)} {oc11 kV11 dc11 pm11 cd11 ct11 : Value}
    {f12 : Addr} {od12 an12 : Option Addr} {sl12 : Array (Option Value)} {oc12 kV12 dc12 pm12 cd12 ct12 : Value}
    {f13 : Addr} {od13 an13 : Option Addr} {sl13 : Array (Option Value)} {oc13 kV13 dc13 pm13 cd13 ct13 : Value}
    {f14 : Addr} {od14 an14 : Option Addr} {sl14 : Array (Option Value)} {oc14 kV14 dc14 pm14 cd14 ct14 : Value}
    {f15 : Addr} {od15 an15 : Option Addr} {sl15 : Array (Option Value)} {oc15 kV15 dc15 pm15 cd15 ct15 : Value}
    {f16 : Addr} {od16 an16 : Option Addr} {sl16 : Array (Option Value)} {oc16 kV16 dc16 pm16 cd16 ct16 : Value}
    {f17 : Addr} {od17 an17 : Option Addr} {sl17 : Array (Option Value)} {oc17 kV17 dc17 pm17 cd17 ct17 : Value}
    {f18 : Addr} {od18 an18 : Option Addr} {sl18 : Array (Option Value)} {oc18 kV18 dc18 pm18 cd18 ct18 : Value}
    {f19 : Addr} {od19 an19 : Option Addr} {sl19 : Array (Option Value)} {oc19 kV19 dc19 pm19 cd19 ct19 : Value}
    {f20 : Addr} {od20 an20 : Option Addr} {sl20 : Array (Option Value)} {oc20 kV20 dc20 pm20 cd20 ct20 : Value}
    {f21 : Addr} {od21 an21 : Option Addr} {sl21 : Array (Option Value)} {oc21 kV21 dc21 pm21 cd21 ct21 : Value}
    {f22 : Addr} {od22 an22 : Option Addr} {sl22 : Array (Option Value)} {oc22 kV22 dc22 pm22 cd22 ct22 : Value}
    {f23 : Addr} {od23 an23 : Option Addr} {sl23 : Array (Option Value)} {oc23 kV23 dc23 pm23 cd23 ct23 : Value}
    {f24 : Addr} {od24 an24 : Option Addr} {sl24 : Array (Option Value)} {oc24 kV24 dc24 pm24 cd24 ct24 : Value}
    {f25 : Addr} {od25 an25 : Option Addr} {sl25 : Array (Option Value)} {oc25 kV25 dc25 pm25 cd25 ct25 : Value}
    {f26 : Addr} {od26 an26 : Option Addr} {sl26 : Array (Option Value)} {oc26 kV26 dc26 pm26 cd26 ct26 : Value}
    {f27 : Addr} {od27 an27 : Option Addr} {sl27 : Array (Option Value)} {oc27 kV27 dc27 pm27 cd27 ct27 : Value}
    {f28 : Addr} {od28 an28 : Option Addr} {sl28 : Array (Option Value)} {oc28 kV28 dc28 pm28 cd28 ct28 : Value}
    {f29 : Addr} {od29 an29 : Option Addr} {sl29 : Array (Option Value)} {oc29 kV29 dc29 pm29 cd29 ct29 : Value}
    {f30 : Addr} {od30 an30 : Option Addr} {sl30 : Array (Option Value)} {oc30 kV30 dc30 pm30 cd30 ct30 : Value}
    {f31 : Addr} {od31 an31 : Option Addr} {sl31 : Array (Option Value)} {oc31 kV31 dc31 pm31 cd31 ct31 : Value}
    {f32 : Addr} {od32 an32 : Option Addr} {sl32 : Array (Option Value)} {oc32 kV32 dc32 pm32 cd32 ct32 : Value}
    {f33 : Addr} {od33 an33 : Option Addr} {sl33 : Array (Option Value)} {oc33 kV33 dc33 pm33 cd33 ct33 : Value}
    {f34 : Addr} {od34 an34 : Option Addr} {sl34 : Array (Option Value)} {oc34 kV34 dc34 pm34 cd34 ct34 : Value}
    {f35 : Addr} {od35 an35 : Option Addr} {sl35 : Array (Option Value)} {oc35 kV35 dc35 pm35 cd35 ct35 : Value}
    {f36 : Addr} {od36 an36 : Option Addr} {sl36 : Array (Option Value)} {oc36 kV36 dc36 pm36 cd36 ct36 : Value}
    {f37 : Addr} {od37 an37 : Option Addr} {sl37 : Array (Option Value)} {oc37 kV37 dc37 pm37 cd37 ct37 : Value}
    {f38 : Addr} {od38 an38 : Option Addr} {sl38 : Array (Option Value)} {oc38 kV38 dc38 pm38 cd38 ct38 : Value}
    {f39 : Addr} {od39 an39 : Option Addr} {sl39 : Array (Option Value)} {oc39 kV39 dc39 pm39 cd39 ct39 : Value}
    {tSLOW : Tok}
    {tFAST : Tok}
    {aW aL tS tF : Addr} {es : Array DictEntry} {nW n1 n2 n3 : Nat} {o1 o2 o3 : Option Addr} {s1 s2 s3 : Array (Option Value)} {u1 u2 u3 u4 u5 u6 u7 : Tok}
    (aC : PySem.W.nsIn K mainGlobals "Dark" = some (some (.ref C)))
    (aC_Walk : PySem.W.nsIn K mainGlobals "Walk" = some (some (.ref C_Walk)))
    (a0 : PySem.W.nsIn K mainGlobals "_law_tray" = some (some (.ref f0)))
    (l0 : K.lookup f0 = some ⟨oc0, od0, .func (PySem.W.fnOf "_law_tray" "_law_tray" (defArgs slaw_tray) (defBody slaw_tray) (defScope slaw_tray) .none kV0 dc0 pm0 an0 cd0 ct0), sl0⟩)
    (c0 : PySem.W.codeIn K cd0 "_law_tray" = true)
    (k0 : PySem.W.keepIn K (.ref f0) = true)
    (a1 : PySem.W.nsIn K mainGlobals "_law_draw" = some (some (.ref f1)))
    (l1 : K.lookup f1 = some ⟨oc1, od1, .func (PySem.W.fnOf "_law_draw" "_law_draw" (defArgs slaw_draw) (defBody slaw_draw) (defScope slaw_draw) .none kV1 dc1 pm1 an1 cd1 ct1), sl1⟩)
    (c1 : PySem.W.codeIn K cd1 "_law_draw" = true)
    (k1 : PySem.W.keepIn K (.ref f1) = true)
    (a2 : PySem.W.nsIn K mainGlobals "_law_great" = some (some (.ref f2)))
    (l2 : K.lookup f2 = some ⟨oc2, od2, .func (PySem.W.fnOf "_law_great" "_law_great" (defArgs slaw_great) (defBody slaw_great) (defScope slaw_great) .none kV2 dc2 pm2 an2 cd2 ct2), sl2⟩)
    (c2 : PySem.W.codeIn K cd2 "_law_great" = true)
    (k2 : PySem.W.keepIn K (.ref f2) = true)
    (a3 : PySem.W.nsIn K mainGlobals "_law_alike" = some (some (.ref f3)))
    (l3 : K.lookup f3 = some ⟨oc3, od3, .func (PySem.W.fnOf "_law_alike" "_law_alike" (defArgs slaw_alike) (defBody slaw_alike) (defScope slaw_alike) .none kV3 dc3 pm3 an3 cd3 ct3), sl3⟩)
    (c3 : PySem.W.codeIn K cd3 "_law_alike" = true)
    (k3 : PySem.W.keepIn K (.ref f3) = true)
    (a4 : PySem.W.nsIn K mainGlobals "_law_length" = some (some (.ref f4)))
    (l4 : K.lookup f4 = some ⟨oc4, od4, .func (PySem.W.fnOf "_law_length" "_law_length" (defArgs slaw_length) (defBody slaw_length) (defScope slaw_length) .none kV4 dc4 pm4 an4 cd4 ct4), sl4⟩)
    (c4 : PySem.W.codeIn K cd4 "_law_length" = true)
    (k4 : PySem.W.keepIn K (.ref f4) = true)
    (a5 : PySem.W.nsIn K mainGlobals "_law_lead" = some (some (.ref f5)))
    (l5 : K.lookup f5 = some ⟨oc5, od5, .func (PySem.W.fnOf "_law_lead" "_law_lead" (defArgs slaw_lead) (defBody slaw_lead) (defScope slaw_lead) .none kV5 dc5 pm5 an5 cd5 ct5), sl5⟩)
    (c5 : PySem.W.codeIn K cd5 "_law_lead" = true)
    (k5 : PySem.W.keepIn K (.ref f5) = true)
    (a6 : PySem.W.nsIn K mainGlobals "_law_secret" = some (some (.ref f6)))
    (l6 : K.lookup f6 = some ⟨oc6, od6, .func (PySem.W.fnOf "_law_secret" "_law_secret" (defArgs slaw_secret) (defBody slaw_secret) (defScope slaw_secret) .none kV6 dc6 pm6 an6 cd6 ct6), sl6⟩)
    (c6 : PySem.W.codeIn K cd6 "_law_secret" = true)
    (k6 : PySem.W.keepIn K (.ref f6) = true)
    (a7 : PySem.W.nsIn K mainGlobals "_law_true_look" = some (some (.ref f7)))
    (l7 : K.lookup f7 = some ⟨oc7, od7, .func (PySem.W.fnOf "_law_true_look" "_law_true_look" (defArgs slaw_true_look) (defBody slaw_true_look) (defScope slaw_true_look) .none kV7 dc7 pm7 an7 cd7 ct7), sl7⟩)
    (c7 : PySem.W.codeIn K cd7 "_law_true_look" = true)
    (k7 : PySem.W.keepIn K (.ref f7) = true)
    (a8 : PySem.W.nsIn K mainGlobals "_law_known" = some (some (.ref f8)))
    (l8 : K.lookup f8 = some ⟨oc8, od8, .func (PySem.W.fnOf "_law_known" "_law_known" (defArgs slaw_known) (defBody slaw_known) (defScope slaw_known) .none kV8 dc8 pm8 an8 cd8 ct8), sl8⟩)
    (c8 : PySem.W.codeIn K cd8 "_law_known" = true)
    (k8 : PySem.W.keepIn K (.ref f8) = true)
    (a9 : PySem.W.nsIn K mainGlobals "_law_made" = some (some (.ref f9)))
    (l9 : K.lookup f9 = some ⟨oc9, od9, .func (PySem.W.fnOf "_law_made" "_law_made" (defArgs slaw_made) (defBody slaw_made) (defScope slaw_made) .none kV9 dc9 pm9 an9 cd9 ct9), sl9⟩)
    (c9 : PySem.W.codeIn K cd9 "_law_made" = true)
    (k9 : PySem.W.keepIn K (.ref f9) = true)
    (a10 : PySem.W.nsIn K mainGlobals "_law_spot" = some (some (.ref f10)))
    (l10 : K.lookup f10 = some ⟨oc10, od10, .func (PySem.W.fnOf "_law_spot" "_law_spot" (defArgs slaw_spot) (defBody slaw_spot) (defScope slaw_spot) .none kV10 dc10 pm10 an10 cd10 ct10), sl10⟩)
    (c10 : PySem.W.codeIn K cd10 "_law_spot" = true)
    (k10 : PySem.W.keepIn K (.ref f10) = true)
    (a11 : PySem.W.nsIn K mainGlobals "_law_plus" = some (some (.ref f11)))
    (l11 : K.lookup f11 = some ⟨oc11, od11, .func (PySem.W.fnOf "_law_plus" "_law_plus" (defArgs slaw_plus) (defBody slaw_plus) (defScope slaw_plus) .none kV11 dc11 pm11 an11 cd11 ct11), sl11⟩)
    (c11 : PySem.W.codeIn K cd11 "_law_plus" = true)
    (k11 : PySem.W.keepIn K (.ref f11) = true)
    (a12 : PySem.W.nsIn K mainGlobals "_law_twice_right" = some (some (.ref f12)))
    (l12 : K.lookup f12 = some ⟨oc12, od12, .func (PySem.W.fnOf "_law_twice_right" "_law_twice_right" (defArgs slaw_twice_right) (defBody slaw_twice_right) (defScope slaw_twice_right) .none kV12 dc12 pm12 an12 cd12 ct12), sl12⟩)
    (c12 : PySem.W.codeIn K cd12 "_law_twice_right" = true)
    (k12 : PySem.W.keepIn K (.ref f12) = true)
    (a13 : PySem.W.nsIn K mainGlobals "_law_turned" = some (some (.ref f13)))
    (l13 : K.lookup f13 = some ⟨oc13, od13, .func (PySem.W.fnOf "_law_turned" "_law_turned" (defArgs slaw_turned) (defBody slaw_turned) (defScope slaw_turned) .none kV13 dc13 pm13 an13 cd13 ct13), sl13⟩)
    (c13 : PySem.W.codeIn K cd13 "_law_turned" = true)
    (k13 : PySem.W.keepIn K (.ref f13) = true)
    (a14 : PySem.W.nsIn K mainGlobals "side_looks" = some (some (.ref f14)))
    (l14 : K.lookup f14 = some ⟨oc14, od14, .func (PySem.W.fnOf "side_looks" "side_looks" (defArgs sside_looks) (defBody sside_looks) (defScope sside_looks) .none kV14 dc14 pm14 an14 cd14 ct14), sl14⟩)
    (c14 : PySem.W.codeIn K cd14 "side_looks" = true)
    (k14 : PySem.W.keepIn K (.ref f14) = true)
    (a15 : PySem.W.nsIn K mainGlobals "round_looks" = some (some (.ref f15)))
    (l15 : K.lookup f15 = some ⟨oc15, od15, .func (PySem.W.fnOf "round_looks" "round_looks" (defArgs sround_looks) (defBody sround_looks) (defScope sround_looks) .none kV15 dc15 pm15 an15 cd15 ct15), sl15⟩)
    (c15 : PySem.W.codeIn K cd15 "round_looks" = true)
    (k15 : PySem.W.keepIn K (.ref f15) = true)
    (a16 : PySem.W.nsIn K mainGlobals "place_by" = some (some (.ref f16)))
    (l16 : K.lookup f16 = some ⟨oc16, od16, .func (PySem.W.fnOf "place_by" "place_by" (defArgs splace_by) (defBody splace_by) (defScope splace_by) .none kV16 dc16 pm16 an16 cd16 ct16), sl16⟩)
    (c16 : PySem.W.codeIn K cd16 "place_by" = true)
    (k16 : PySem.W.keepIn K (.ref f16) = true)
    (a17 : PySem.W.nsIn K mainGlobals "best_step" = some (some (.ref f17)))
    (l17 : K.lookup f17 = some ⟨oc17, od17, .func (PySem.W.fnOf "best_step" "best_step" (defArgs sbest_step) (defBody sbest_step) (defScope sbest_step) .none kV17 dc17 pm17 an17 cd17 ct17), sl17⟩)
    (c17 : PySem.W.codeIn K cd17 "best_step" = true)
    (k17 : PySem.W.keepIn K (.ref f17) = true)
    (a18 : PySem.W.findIn K (.ref C_Walk) "__init__" = some (some (.ref f18)))
    (i18 : PySem.W.isFn K (.ref f18) = true)
    (l18 : K.lookup f18 = some ⟨oc18, od18, .func (PySem.W.fnOf "__init__" "Walk.__init__" (defArgs sWalk_init) (defBody sWalk_init) (defScope sWalk_init) .none kV18 dc18 pm18 an18 cd18 ct18), sl18⟩)
    (c18 : PySem.W.codeIn K cd18 "Walk.__init__" = true)
    (k18 : PySem.W.keepIn K (.ref f18) = true)
    (a19 : PySem.W.findIn K (.ref C_Walk) "_follow" = some (some (.ref f19)))
    (i19 : PySem.W.isFn K (.ref f19) = true)
    (l19 : K.lookup f19 = some ⟨oc19, od19, .func (PySem.W.fnOf "_follow" "Walk._follow" (defArgs sWalkfollow) (defBody sWalkfollow) (defScope sWalkfollow) .none kV19 dc19 pm19 an19 cd19 ct19), sl19⟩)
    (c19 : PySem.W.codeIn K cd19 "Walk._follow" = true)
    (k19 : PySem.W.keepIn K (.ref f19) = true)
    (a20 : PySem.W.findIn K (.ref C_Walk) "period" = some (some (.ref f20)))
    (i20 : PySem.W.isFn K (.ref f20) = true)
    (l20 : K.lookup f20 = some ⟨oc20, od20, .func (PySem.W.fnOf "period" "Walk.period" (defArgs sWalk_period) (defBody sWalk_period) (defScope sWalk_period) .none kV20 dc20 pm20 an20 cd20 ct20), sl20⟩)
    (c20 : PySem.W.codeIn K cd20 "Walk.period" = true)
    (k20 : PySem.W.keepIn K (.ref f20) = true)
    (a21 : PySem.W.findIn K (.ref C_Walk) "climb" = some (some (.ref f21)))
    (i21 : PySem.W.isFn K (.ref f21) = true)
    (l21 : K.lookup f21 = some ⟨oc21, od21, .func (PySem.W.fnOf "climb" "Walk.climb" (defArgs sWalk_climb) (defBody sWalk_climb) (defScope sWalk_climb) .none kV21 dc21 pm21 an21 cd21 ct21), sl21⟩)
    (c21 : PySem.W.codeIn K cd21 "Walk.climb" = true)
    (k21 : PySem.W.keepIn K (.ref f21) = true)
    (a22 : PySem.W.nsIn K mainGlobals "check_round" = some (some (.ref f22)))
    (l22 : K.lookup f22 = some ⟨oc22, od22, .func (PySem.W.fnOf "check_round" "check_round" (defArgs scheck_round) (defBody scheck_round) (defScope scheck_round) .none kV22 dc22 pm22 an22 cd22 ct22), sl22⟩)
    (c22 : PySem.W.codeIn K cd22 "check_round" = true)
    (k22 : PySem.W.keepIn K (.ref f22) = true)
    (a23 : PySem.W.nsIn K mainGlobals "lowest" = some (some (.ref f23)))
    (l23 : K.lookup f23 = some ⟨oc23, od23, .func (PySem.W.fnOf "lowest" "lowest" (defArgs slowest) (defBody slowest) (defScope slowest) .none kV23 dc23 pm23 an23 cd23 ct23), sl23⟩)
    (c23 : PySem.W.codeIn K cd23 "lowest" = true)
    (k23 : PySem.W.keepIn K (.ref f23) = true)
    (a24 : PySem.W.nsIn K mainGlobals "side_pace" = some (some (.ref f24)))
    (l24 : K.lookup f24 = some ⟨oc24, od24, .func (PySem.W.fnOf "side_pace" "side_pace" (defArgs sside_pace) (defBody sside_pace) (defScope sside_pace) .none kV24 dc24 pm24 an24 cd24 ct24), sl24⟩)
    (c24 : PySem.W.codeIn K cd24 "side_pace" = true)
    (k24 : PySem.W.keepIn K (.ref f24) = true)
    (a25 : PySem.W.nsIn K mainGlobals "paces" = some (some (.ref f25)))
    (l25 : K.lookup f25 = some ⟨oc25, od25, .func (PySem.W.fnOf "paces" "paces" (defArgs spaces) (defBody spaces) (defScope spaces) .none kV25 dc25 pm25 an25 cd25 ct25), sl25⟩)
    (c25 : PySem.W.codeIn K cd25 "paces" = true)
    (k25 : PySem.W.keepIn K (.ref f25) = true)
    (a26 : PySem.W.nsIn K mainGlobals "too_far" = some (some (.ref f26)))
    (l26 : K.lookup f26 = some ⟨oc26, od26, .func (PySem.W.fnOf "too_far" "too_far" (defArgs stoo_far) (defBody stoo_far) (defScope stoo_far) .none kV26 dc26 pm26 an26 cd26 ct26), sl26⟩)
    (c26 : PySem.W.codeIn K cd26 "too_far" = true)
    (k26 : PySem.W.keepIn K (.ref f26) = true)
    (a27 : PySem.W.nsIn K mainGlobals "clash" = some (some (.ref f27)))
    (l27 : K.lookup f27 = some ⟨oc27, od27, .func (PySem.W.fnOf "clash" "clash" (defArgs sclash) (defBody sclash) (defScope sclash) .none kV27 dc27 pm27 an27 cd27 ct27), sl27⟩)
    (c27 : PySem.W.codeIn K cd27 "clash" = true)
    (k27 : PySem.W.keepIn K (.ref f27) = true)
    (a28 : PySem.W.findIn K (.ref C) "__init__" = some (some (.ref f28)))
    (i28 : PySem.W.isFn K (.ref f28) = true)
    (l28 : K.lookup f28 = some ⟨oc28, od28, .func (PySem.W.fnOf "__init__" "Dark.__init__" (defArgs sDark_init) (defBody sDark_init) (defScope sDark_init) .none kV28 dc28 pm28 an28 cd28 ct28), sl28⟩)
    (c28 : PySem.W.codeIn K cd28 "Dark.__init__" = true)
    (k28 : PySem.W.keepIn K (.ref f28) = true)
    (a29 : PySem.W.findIn K (.ref C) "length" = some (some (.ref f29)))
    (i29 : PySem.W.isFn K (.ref f29) = true)
    (l29 : K.lookup f29 = some ⟨oc29, od29, .func (PySem.W.fnOf "length" "Dark.length" (defArgs sDark_length) (defBody sDark_length) (defScope sDark_length) .none kV29 dc29 pm29 an29 cd29 ct29), sl29⟩)
    (c29 : PySem.W.codeIn K cd29 "Dark.length" = true)
    (k29 : PySem.W.keepIn K (.ref f29) = true)
    (a30 : PySem.W.findIn K (.ref C) "hear" = some (some (.ref f30)))
    (i30 : PySem.W.isFn K (.ref f30) = true)
    (l30 : K.lookup f30 = some ⟨oc30, od30, .func (PySem.W.fnOf "hear" "Dark.hear" (defArgs sDark_hear) (defBody sDark_hear) (defScope sDark_hear) .none kV30 dc30 pm30 an30 cd30 ct30), sl30⟩)
    (c30 : PySem.W.codeIn K cd30 "Dark.hear" = true)
    (k30 : PySem.W.keepIn K (.ref f30) = true)
    (a31 : PySem.W.findIn K (.ref C) "looks" = some (some (.ref f31)))
    (i31 : PySem.W.isFn K (.ref f31) = true)
    (l31 : K.lookup f31 = some ⟨oc31, od31, .func (PySem.W.fnOf "looks" "Dark.looks" (defArgs sDark_looks) (defBody sDark_looks) (defScope sDark_looks) .none kV31 dc31 pm31 an31 cd31 ct31), sl31⟩)
    (c31 : PySem.W.codeIn K cd31 "Dark.looks" = true)
    (k31 : PySem.W.keepIn K (.ref f31) = true)
    (a32 : PySem.W.findIn K (.ref C) "least" = some (some (.ref f32)))
    (i32 : PySem.W.isFn K (.ref f32) = true)
    (l32 : K.lookup f32 = some ⟨oc32, od32, .func (PySem.W.fnOf "least" "Dark.least" (defArgs sDark_least) (defBody sDark_least) (defScope sDark_least) .none kV32 dc32 pm32 an32 cd32 ct32), sl32⟩)
    (c32 : PySem.W.codeIn K cd32 "Dark.least" = true)
    (k32 : PySem.W.keepIn K (.ref f32) = true)
    (a33 : PySem.W.findIn K (.ref C) "greatest" = some (some (.ref f33)))
    (i33 : PySem.W.isFn K (.ref f33) = true)
    (l33 : K.lookup f33 = some ⟨oc33, od33, .func (PySem.W.fnOf "greatest" "Dark.greatest" (defArgs sDark_greatest) (defBody sDark_greatest) (defScope sDark_greatest) .none kV33 dc33 pm33 an33 cd33 ct33), sl33⟩)
    (c33 : PySem.W.codeIn K cd33 "Dark.greatest" = true)
    (k33 : PySem.W.keepIn K (.ref f33) = true)
    (a34 : PySem.W.findIn K (.ref C) "led_back" = some (some (.ref f34)))
    (i34 : PySem.W.isFn K (.ref f34) = true)
    (l34 : K.lookup f34 = some ⟨oc34, od34, .func (PySem.W.fnOf "led_back" "Dark.led_back" (defArgs sDark_led_back) (defBody sDark_led_back) (defScope sDark_led_back) .none kV34 dc34 pm34 an34 cd34 ct34), sl34⟩)
    (c34 : PySem.W.codeIn K cd34 "Dark.led_back" = true)
    (k34 : PySem.W.keepIn K (.ref f34) = true)
    (a35 : PySem.W.findIn K (.ref C) "_check_word" = some (some (.ref f35)))
    (i35 : PySem.W.isFn K (.ref f35) = true)
    (l35 : K.lookup f35 = some ⟨oc35, od35, .func (PySem.W.fnOf "_check_word" "Dark._check_word" (defArgs sDarkcheck_word) (defBody sDarkcheck_word) (defScope sDarkcheck_word) .none kV35 dc35 pm35 an35 cd35 ct35), sl35⟩)
    (c35 : PySem.W.codeIn K cd35 "Dark._check_word" = true)
    (k35 : PySem.W.keepIn K (.ref f35) = true)
    (a36 : PySem.W.findIn K (.ref C) "_home" = some (some (.ref f36)))
    (i36 : PySem.W.isFn K (.ref f36) = true)
    (l36 : K.lookup f36 = some ⟨oc36, od36, .func (PySem.W.fnOf "_home" "Dark._home" (defArgs sDarkhome) (defBody sDarkhome) (defScope sDarkhome) .none kV36 dc36 pm36 an36 cd36 ct36), sl36⟩)
    (c36 : PySem.W.codeIn K cd36 "Dark._home" = true)
    (k36 : PySem.W.keepIn K (.ref f36) = true)
    (a37 : PySem.W.findIn K (.ref C) "_clashing" = some (some (.ref f37)))
    (i37 : PySem.W.isFn K (.ref f37) = true)
    (l37 : K.lookup f37 = some ⟨oc37, od37, .func (PySem.W.fnOf "_clashing" "Dark._clashing" (defArgs sDarkclashing) (defBody sDarkclashing) (defScope sDarkclashing) .none kV37 dc37 pm37 an37 cd37 ct37), sl37⟩)
    (c37 : PySem.W.codeIn K cd37 "Dark._clashing" = true)
    (k37 : PySem.W.keepIn K (.ref f37) = true)
    (a38 : PySem.W.findIn K (.ref C) "_bound" = some (some (.ref f38)))
    (i38 : PySem.W.isFn K (.ref f38) = true)
    (l38 : K.lookup f38 = some ⟨oc38, od38, .func (PySem.W.fnOf "_bound" "Dark._bound" (defArgs sDarkbound) (defBody sDarkbound) (defScope sDarkbound) .none kV38 dc38 pm38 an38 cd38 ct38), sl38⟩)
    (c38 : PySem.W.codeIn K cd38 "Dark._bound" = true)
    (k38 : PySem.W.keepIn K (.ref f38) = true)
    (a39 : PySem.W.nsIn K mainGlobals "law" = some (some (.ref f39)))
    (l39 : K.lookup f39 = some ⟨oc39, od39, .func (PySem.W.fnOf "law" "law" (defArgs slaw) (defBody slaw) (defScope slaw) .none kV39 dc39 pm39 an39 cd39 ct39), sl39⟩)
    (c39 : PySem.W.codeIn K cd39 "law" = true)
    (k39 : PySem.W.keepIn K (.ref f39) = true)
    (pg : PySem.W.plainGet K C Str.empty = true)
    (hd : PySem.W.hasDictIn K C = true)
    (po : PySem.W.plainOver K C = true)
    (sa : PySem.W.findIn K (.ref C) "__setattr__" = some (some (.builtin "object.__setattr__")))
    (mk : PySem.W.makesIn K C = true)
    (kc : PySem.W.keepIn K (.ref C) = true)
    (n_length : PySem.W.findIn K (.ref C) "_length" = some none)
    (n_looks : PySem.W.findIn K (.ref C) "_looks" = some none)
    (pg_Walk : PySem.W.plainGet K C_Walk Str.empty = true)
    (hd_Walk : PySem.W.hasDictIn K C_Walk = true)
    (po_Walk : PySem.W.plainOver K C_Walk = true)
    (sa_Walk : PySem.W.findIn K (.ref C_Walk) "__setattr__" = some (some (.builtin "object.__setattr__")))
    (mk_Walk : PySem.W.makesIn K C_Walk = true)
    (kc_Walk : PySem.W.keepIn K (.ref C_Walk) = true)
    (nWalk_places : PySem.W.findIn K (.ref C_Walk) "places" = some none)
    (nWalk_told_by : PySem.W.findIn K (.ref C_Walk) "told_by" = some none)
    (nWalk_start : PySem.W.findIn K (.ref C_Walk) "start" = some none)
    (b_max : PySem.W.nsIn K mainGlobals "max" = some none)
    (b_min : PySem.W.nsIn K mainGlobals "min" = some none)
    (b_len : PySem.W.nsIn K mainGlobals "len" = some none)
    (b_range : PySem.W.nsIn K mainGlobals "range" = some none)
    (b_sorted : PySem.W.nsIn K mainGlobals "sorted" = some none)
    (b_set : PySem.W.nsIn K mainGlobals "set" = some none)
    (b_isinstance : PySem.W.nsIn K mainGlobals "isinstance" = some none)
    (b_list : PySem.W.nsIn K mainGlobals "list" = some none)
    (b_tuple : PySem.W.nsIn K mainGlobals "tuple" = some none)
    (b_bool : PySem.W.nsIn K mainGlobals "bool" = some none)
    (b_int : PySem.W.nsIn K mainGlobals "int" = some none)
    (b_str : PySem.W.nsIn K mainGlobals "str" = some none)
    (b_enumerate : PySem.W.nsIn K mainGlobals "enumerate" = some none)
    (g_gcd0 : PySem.W.nsIn K mainGlobals "gcd" = some (some (.builtin "math.gcd")))
    (b_zip : PySem.W.nsIn K mainGlobals "zip" = some none)
    (gSLOW : PySem.W.nsIn K mainGlobals "SLOW" = some (some (.str "slow" tSLOW)))
    (gFAST : PySem.W.nsIn K mainGlobals "FAST" = some (some (.str "fast" tFAST)))
    (gW : PySem.W.nsIn K mainGlobals "WORDS" = some (some (.ref aW)))
    (lW : K.lookup aW = some ⟨.type "dict", none, .dict es nW, #[]⟩)
    (keys : PySem.W.KeysLit w.params es.toList)
    (low : (aW == sysModules) = false)
    (wS : PySem.W.nsIn K aW "slow" = some (some (.ref tS)))
    (wF : PySem.W.nsIn K aW "fast" = some (some (.ref tF)))
    (lS : K.lookup tS = some ⟨.type "tuple", o1, .seq #[.str "at" u1, .str "from" u2] n1, s1⟩)
    (lF : K.lookup tF = some ⟨.type "tuple", o2, .seq #[.str "at" u3, .str "upto" u4] n2, s2⟩)
    (gL : PySem.W.nsIn K mainGlobals "LOOK_WORDS" = some (some (.ref aL)))
    (lL : K.lookup aL = some ⟨.type "tuple", o3, .seq #[.str "at" u5, .str "from" u6, .str "upto" u7] n3, s3⟩) :
    ∃ fd : FuncData, (∀ (s : Shared) (v : Value), BindsTo s fd ⟨[v], []⟩ [("script", v)]) ∧ ∀ base : Heap, K.In base → base.Ns mainGlobals mg → FnOk l.prog w K mg base CX0 9 fa fd ["script"] (spLaw K) := by
  have e := hfa.symm.trans (PySem.W.mg_of X G a39)
  cases e
  have F0 := fun_mk (st := slaw_tray) l0 c0 k0
  have F1 := fun_mk (st := slaw_draw) l1 c1 k1
  have F2 := fun_mk (st := slaw_great) l2 c2 k2
  have F3 := fun_mk (st := slaw_alike) l3 c3 k3
  have F4 := fun_mk (st := slaw_length) l4 c4 k4
  have F5 := fun_mk (st := slaw_lead) l5 c5 k5
  have F6 := fun_mk (st := slaw_secret) l6 c6 k6
  have F7 := fun_mk (st := slaw_true_look) l7 c7 k7
  have F8 := fun_mk (st := slaw_known) l8 c8 k8
  have F9 := fun_mk (st := slaw_made) l9 c9 k9
  have F10 := fun_mk (st := slaw_spot) l10 c10 k10
  have F11 := fun_mk (st := slaw_plus) l11 c11 k11
  have F12 := fun_mk (st := slaw_twice_right) l12 c12 k12
  have F13 := fun_mk (st := slaw_turned) l13 c13 k13
  have F14 := fun_mk (st := sside_looks) l14 c14 k14
  have F15 := fun_mk (st := sround_looks) l15 c15 k15
  have F16 := fun_mk (st := splace_by) l16 c16 k16
  have F17 := fun_mk (st := sbest_step) l17 c17 k17
  have F18 := fun_mk (st := sWalk_init) l18 c18 k18
  have F19 := fun_mk (st := sWalkfollow) l19 c19 k19
  have F20 := fun_mk (st := sWalk_period) l20 c20 k20
  have F21 := fun_mk (st := sWalk_climb) l21 c21 k21
  have F22 := fun_mk (st := scheck_round) l22 c22 k22
  have F23 := fun_mk (st := slowest) l23 c23 k23
  have F24 := fun_mk (st := sside_pace) l24 c24 k24
  have F25 := fun_mk (st := spaces) l25 c25 k25
  have F26 := fun_mk (st := stoo_far) l26 c26 k26
  have F27 := fun_mk (st := sclash) l27 c27 k27
  have F28 := fun_mk (st := sDark_init) l28 c28 k28
  have F29 := fun_mk (st := sDark_length) l29 c29 k29
  have F30 := fun_mk (st := sDark_hear) l30 c30 k30
  have F31 := fun_mk (st := sDark_looks) l31 c31 k31
  have F32 := fun_mk (st := sDark_least) l32 c32 k32
  have F33 := fun_mk (st := sDark_greatest) l33 c33 k33
  have F34 := fun_mk (st := sDark_led_back) l34 c34 k34
  have F35 := fun_mk (st := sDarkcheck_word) l35 c35 k35
  have F36 := fun_mk (st := sDarkhome) l36 c36 k36
  have F37 := fun_mk (st := sDarkclashing) l37 c37 k37
  have F38 := fun_mk (st := sDarkbound) l38 c38 k38
  have F39 := fun_mk (st := slaw) l39 c39 k39
  let Z : Ad := {
    a_law_tray := f0,
    d_law_tray := PySem.W.fnOf "_law_tray" "_law_tray" (defArgs slaw_tray) (defBody slaw_tray) (defScope slaw_tray) .none kV0 dc0 pm0 an0 cd0 ct0,
    a_law_draw := f1,
    d_law_draw := PySem.W.fnOf "_law_draw" "_law_draw" (defArgs slaw_draw) (defBody slaw_draw) (defScope slaw_draw) .none kV1 dc1 pm1 an1 cd1 ct1,
    a_law_great := f2,
    d_law_great := PySem.W.fnOf "_law_great" "_law_great" (defArgs slaw_great) (defBody slaw_great) (defScope slaw_great) .none kV2 dc2 pm2 an2 cd2 ct2,
    a_law_alike := f3,
    d_law_alike := PySem.W.fnOf "_law_alike" "_law_alike" (defArgs slaw_alike) (defBody slaw_alike) (defScope slaw_alike) .none kV3 dc3 pm3 an3 cd3 ct3,
    a_law_length := f4,
    d_law_length := PySem.W.fnOf "_law_length" "_law_length" (defArgs slaw_length) (defBody slaw_length) (defScope slaw_length) .none kV4 dc4 pm4 an4 cd4 ct4,
    a_law_lead := f5,
    d_law_lead := PySem.W.fnOf "_law_lead" "_law_lead" (defArgs slaw_lead) (defBody slaw_lead) (defScope slaw_lead) .none kV5 dc5 pm5 an5 cd5 ct5,
    a_law_secret := f6,
    d_law_secret := PySem.W.fnOf "_law_secret" "_law_secret" (defArgs slaw_secret) (defBody slaw_secret) (defScope slaw_secret) .none kV6 dc6 pm6 an6 cd6 ct6,
    a_law_true_look := f7,
    d_law_true_look := PySem.W.fnOf "_law_true_look" "_law_true_look" (defArgs slaw_true_look) (defBody slaw_true_look) (defScope slaw_true_look) .none kV7 dc7 pm7 an7 cd7 ct7,
    a_law_known := f8,
    d_law_known := PySem.W.fnOf "_law_known" "_law_known" (defArgs slaw_known) (defBody slaw_known) (defScope slaw_known) .none kV8 dc8 pm8 an8 cd8 ct8,
    a_law_made := f9,
    d_law_made := PySem.W.fnOf "_law_made" "_law_made" (defArgs slaw_made) (defBody slaw_made) (defScope slaw_made) .none kV9 dc9 pm9 an9 cd9 ct9,
    a_law_spot := f10,
    d_law_spot := PySem.W.fnOf "_law_spot" "_law_spot" (defArgs slaw_spot) (defBody slaw_spot) (defScope slaw_spot) .none kV10 dc10 pm10 an10 cd10 ct10,
    a_law_plus := f11,
    d_law_plus := PySem.W.fnOf "_law_plus" "_law_plus" (defArgs slaw_plus) (defBody slaw_plus) (defScope slaw_plus) .none kV11 dc11 pm11 an11 cd11 ct11,
    a_law_twice_right := f12,
    d_law_twice_right := PySem.W.fnOf "_law_twice_right" "_law_twice_right" (defArgs slaw_twice_right) (defBody slaw_twice_right) (defScope slaw_twice_right) .none kV12 dc12 pm12 an12 cd12 ct12,
    a_law_turned := f13,
    d_law_turned := PySem.W.fnOf "_law_turned" "_law_turned" (defArgs slaw_turned) (defBody slaw_turned) (defScope slaw_turned) .none kV13 dc13 pm13 an13 cd13 ct13,
    a_side_looks := f14,
    d_side_looks := PySem.W.fnOf "side_looks" "side_looks" (defArgs sside_looks) (defBody sside_looks) (defScope sside_looks) .none kV14 dc14 pm14 an14 cd14 ct14,
    a_round_looks := f15,
    d_round_looks := PySem.W.fnOf "round_looks" "round_looks" (defArgs sround_looks) (defBody sround_looks) (defScope sround_looks) .none kV15 dc15 pm15 an15 cd15 ct15,
    a_place_by := f16,
    d_place_by := PySem.W.fnOf "place_by" "place_by" (defArgs splace_by) (defBody splace_by) (defScope splace_by) .none kV16 dc16 pm16 an16 cd16 ct16,
    a_best_step := f17,
    d_best_step := PySem.W.fnOf "best_step" "best_step" (defArgs sbest_step) (defBody sbest_step) (defScope sbest_step) .none kV17 dc17 pm17 an17 cd17 ct17,
    a_Walk_init := f18,
    d_Walk_init := PySem.W.fnOf "__init__" "Walk.__init__" (defArgs sWalk_init) (defBody sWalk_init) (defScope sWalk_init) .none kV18 dc18 pm18 an18 cd18 ct18,
    a_Walkfollow := f19,
    d_Walkfollow := PySem.W.fnOf "_follow" "Walk._follow" (defArgs sWalkfollow) (defBody sWalkfollow) (defScope sWalkfollow) .none kV19 dc19 pm19 an19 cd19 ct19,
    a_Walk_period := f20,
    d_Walk_period := PySem.W.fnOf "period" "Walk.period" (defArgs sWalk_period) (defBody sWalk_period) (defScope sWalk_period) .none kV20 dc20 pm20 an20 cd20 ct20,
    a_Walk_climb := f21,
    d_Walk_climb := PySem.W.fnOf "climb" "Walk.climb" (defArgs sWalk_climb) (defBody sWalk_climb) (defScope sWalk_climb) .none kV21 dc21 pm21 an21 cd21 ct21,
    a_check_round := f22,
    d_check_round := PySem.W.fnOf "check_round" "check_round" (defArgs scheck_round) (defBody scheck_round) (defScope scheck_round) .none kV22 dc22 pm22 an22 cd22 ct22,
    a_lowest := f23,
    d_lowest := PySem.W.fnOf "lowest" "lowest" (defArgs slowest) (defBody slowest) (defScope slowest) .none kV23 dc23 pm23 an23 cd23 ct23,
    a_side_pace := f24,
    d_side_pace := PySem.W.fnOf "side_pace" "side_pace" (defArgs sside_pace) (defBody sside_pace) (defScope sside_pace) .none kV24 dc24 pm24 an24 cd24 ct24,
    a_paces := f25,
    d_paces := PySem.W.fnOf "paces" "paces" (defArgs spaces) (defBody spaces) (defScope spaces) .none kV25 dc25 pm25 an25 cd25 ct25,
    a_too_far := f26,
    d_too_far := PySem.W.fnOf "too_far" "too_far" (defArgs stoo_far) (defBody stoo_far) (defScope stoo_far) .none kV26 dc26 pm26 an26 cd26 ct26,
    a_clash := f27,
    d_clash := PySem.W.fnOf "clash" "clash" (defArgs sclash) (defBody sclash) (defScope sclash) .none kV27 dc27 pm27 an27 cd27 ct27,
    a_Dark_init := f28,
    d_Dark_init := PySem.W.fnOf "__init__" "Dark.__init__" (defArgs sDark_init) (defBody sDark_init) (defScope sDark_init) .none kV28 dc28 pm28 an28 cd28 ct28,
    a_Dark_length := f29,
    d_Dark_length := PySem.W.fnOf "length" "Dark.length" (defArgs sDark_length) (defBody sDark_length) (defScope sDark_length) .none kV29 dc29 pm29 an29 cd29 ct29,
    a_Dark_hear := f30,
    d_Dark_hear := PySem.W.fnOf "hear" "Dark.hear" (defArgs sDark_hear) (defBody sDark_hear) (defScope sDark_hear) .none kV30 dc30 pm30 an30 cd30 ct30,
    a_Dark_looks := f31,
    d_Dark_looks := PySem.W.fnOf "looks" "Dark.looks" (defArgs sDark_looks) (defBody sDark_looks) (defScope sDark_looks) .none kV31 dc31 pm31 an31 cd31 ct31,
    a_Dark_least := f32,
    d_Dark_least := PySem.W.fnOf "least" "Dark.least" (defArgs sDark_least) (defBody sDark_least) (defScope sDark_least) .none kV32 dc32 pm32 an32 cd32 ct32,
    a_Dark_greatest := f33,
    d_Dark_greatest := PySem.W.fnOf "greatest" "Dark.greatest" (defArgs sDark_greatest) (defBody sDark_greatest) (defScope sDark_greatest) .none kV33 dc33 pm33 an33 cd33 ct33,
    a_Dark_led_back := f34,
    d_Dark_led_back := PySem.W.fnOf "led_back" "Dark.led_back" (defArgs sDark_led_back) (defBody sDark_led_back) (defScope sDark_led_back) .none kV34 dc34 pm34 an34 cd34 ct34,
    a_Darkcheck_word := f35,
    d_Darkcheck_word := PySem.W.fnOf "_check_word" "Dark._check_word" (defArgs sDarkcheck_word) (defBody sDarkcheck_word) (defScope sDarkcheck_word) .none kV35 dc35 pm35 an35 cd35 ct35,
    a_Darkhome := f36,
    d_Darkhome := PySem.W.fnOf "_home" "Dark._home" (defArgs sDarkhome) (defBody sDarkhome) (defScope sDarkhome) .none kV36 dc36 pm36 an36 cd36 ct36,
    a_Darkclashing := f37,
    d_Darkclashing := PySem.W.fnOf "_clashing" "Dark._clashing" (defArgs sDarkclashing) (defBody sDarkclashing) (defScope sDarkclashing) .none kV37 dc37 pm37 an37 cd37 ct37,
    a_Darkbound := f38,
    d_Darkbound := PySem.W.fnOf "_bound" "Dark._bound" (defArgs sDarkbound) (defBody sDarkbound) (defScope sDarkbound) .none kV38 dc38 pm38 an38 cd38 ct38,
    a_law := fa,
    d_law := PySem.W.fnOf "law" "law" (defArgs slaw) (defBody slaw) (defScope slaw) .none kV39 dc39 pm39 an39 cd39 ct39,
    C := C,
    C_Walk := C_Walk,
    v_SLOW := .str "slow" tSLOW,
    v_FAST := .str "fast" tFAST,
    a_WORDS := aW,
    a_LW := aL,
    t_slow := tS,
    t_fast := tF }
  have T : Tx K w mg Z := {
    F_law_tray := F0,
    bb_law_tray := F0.binds (ps := P_law_tray) fun _ _ _ _ _ _ us hl => match us, hl with | [_], _ => rfl,
    g_law_tray := PySem.W.mg_of X G a0,
    F_law_draw := F1,
    bb_law_draw := F1.binds (ps := P_law_draw) fun _ _ _ _ _ _ us hl => match us, hl with | [_, _], _ => rfl,
    g_law_draw := PySem.W.mg_of X G a1,
    F_law_great := F2,
    bb_law_great := F2.binds (ps := P_law_great) fun _ _ _ _ _ _ us hl => match us, hl with | [_], _ => rfl,
    g_law_great := PySem.W.mg_of X G a2,
    F_law_alike := F3,
    bb_law_alike := F3.binds (ps := P_law_alike) fun _ _ _ _ _ _ us hl => match us, hl with | [_, _], _ => rfl,
    g_law_alike := PySem.W.mg_of X G a3,
    F_law_length := F4,
    bb_law_length := F4.binds (ps := P_law_length) fun _ _ _ _ _ _ us hl => match us, hl with | [_], _ => rfl,
    g_law_length := PySem.W.mg_of X G a4,
    F_law_lead := F5,
    bb_law_lead := F5.binds (ps := P_law_lead) fun _ _ _ _ _ _ us hl => match us, hl with | [_, _, _], _ => rfl,
    g_law_lead := PySem.W.mg_of X G a5,
    F_law_secret := F6,
    bb_law_secret := F6.binds (ps := P_law_secret) fun _ _ _ _ _ _ us hl => match us, hl with | [_, _], _ => rfl,
    g_law_secret := PySem.W.mg_of X G a6,
    F_law_true_look := F7,
    bb_law_true_look := F7.binds (ps := P_law_true_look) fun _ _ _ _ _ _ us hl => match us, hl with | [_, _, _], _ => rfl,
    g_law_true_look := PySem.W.mg_of X G a7,
    F_law_known := F8,
    bb_law_known := F8.binds (ps := P_law_known) fun _ _ _ _ _ _ us hl => match us, hl with | [_, _, _], _ => rfl,
    g_law_known := PySem.W.mg_of X G a8,
    F_law_made := F9,
    bb_law_made := F9.binds (ps := P_law_made) fun _ _ _ _ _ _ us hl => match us, hl with | [_, _], _ => rfl,
    g_law_made := PySem.W.mg_of X G a9,
    F_law_spot := F10,
    bb_law_spot := F10.binds (ps := P_law_spot) fun _ _ _ _ _ _ us hl => match us, hl with | [_, _, _], _ => rfl,
    g_law_spot := PySem.W.mg_of X G a10,
    F_law_plus := F11,
    bb_law_plus := F11.binds (ps := P_law_plus) fun _ _ _ _ _ _ us hl => match us, hl with | [_, _], _ => rfl,
    g_law_plus := PySem.W.mg_of X G a11,
    F_law_twice_right := F12,
    bb_law_twice_right := F12.binds (ps := P_law_twice_right) fun _ _ _ _ _ _ us hl => match us, hl with | [_, _, _, _], _ => rfl,
    g_law_twice_right := PySem.W.mg_of X G a12,
    F_law_turned := F13,
    bb_law_turned := F13.binds (ps := P_law_turned) fun _ _ _ _ _ _ us hl => match us, hl with | [_], _ => rfl,
    g_law_turned := PySem.W.mg_of X G a13,
    F_side_looks := F14,
    bb_side_looks := F14.binds (ps := P_side_looks) fun _ _ _ _ _ _ us hl => match us, hl with | [_, _], _ => rfl,
    g_side_looks := PySem.W.mg_of X G a14,
    F_round_looks := F15,
    bb_round_looks := F15.binds (ps := P_round_looks) fun _ _ _ _ _ _ us hl => match us, hl with | [_, _], _ => rfl,
    g_round_looks := PySem.W.mg_of X G a15,
    F_place_by := F16,
    bb_place_by := F16.binds (ps := P_place_by) fun _ _ _ _ _ _ us hl => match us, hl with | [_, _, _, _], _ => rfl,
    g_place_by := PySem.W.mg_of X G a16,
    F_best_step := F17,
    bb_best_step := F17.binds (ps := P_best_step) fun _ _ _ _ _ _ us hl => match us, hl with | [_, _, _, _], _ => rfl,
    g_best_step := PySem.W.mg_of X G a17,
    F_Walk_init := F18,
    bb_Walk_init := F18.binds (ps := P_Walk_init) fun _ _ _ _ _ _ us hl => match us, hl with | [_, _, _, _], _ => rfl,
    F_Walkfollow := F19,
    bb_Walkfollow := F19.binds (ps := P_Walkfollow) fun _ _ _ _ _ _ us hl => match us, hl with | [_, _, _, _], _ => rfl,
    m_Walkfollow := ⟨a19, i19, k19⟩,
    F_Walk_period := F20,
    bb_Walk_period := F20.binds (ps := P_Walk_period) fun _ _ _ _ _ _ us hl => match us, hl with | [_], _ => rfl,
    m_Walk_period := ⟨a20, i20, k20⟩,
    F_Walk_climb := F21,
    bb_Walk_climb := F21.binds (ps := P_Walk_climb) fun _ _ _ _ _ _ us hl => match us, hl with | [_], _ => rfl,
    m_Walk_climb := ⟨a21, i21, k21⟩,
    F_check_round := F22,
    bb_check_round := F22.binds (ps := P_check_round) fun _ _ _ _ _ _ us hl => match us, hl with | [_], _ => rfl,
    g_check_round := PySem.W.mg_of X G a22,
    F_lowest := F23,
    bb_lowest := F23.binds (ps := P_lowest) fun _ _ _ _ _ _ us hl => match us, hl with | [_, _], _ => rfl,
    g_lowest := PySem.W.mg_of X G a23,
    F_side_pace := F24,
    bb_side_pace := F24.binds (ps := P_side_pace) fun _ _ _ _ _ _ us hl => match us, hl with | [_, _], _ => rfl,
    g_side_pace := PySem.W.mg_of X G a24,
    F_paces := F25,
    bb_paces := F25.binds (ps := P_paces) fun _ _ _ _ _ _ us hl => match us, hl with | [_], _ => rfl,
    g_paces := PySem.W.mg_of X G a25,
    F_too_far := F26,
    bb_too_far := F26.binds (ps := P_too_far) fun _ _ _ _ _ _ us hl => match us, hl with | [_, _, _], _ => rfl,
    g_too_far := PySem.W.mg_of X G a26,
    F_clash := F27,
    bb_clash := F27.binds (ps := P_clash) fun _ _ _ _ _ _ us hl => match us, hl with | [_, _, _], _ => rfl,
    g_clash := PySem.W.mg_of X G a27,
    F_Dark_init := F28,
    bb_Dark_init := F28.binds (ps := P_Dark_init) fun _ _ _ _ _ _ us hl => match us, hl with | [_, _], _ => rfl,
    F_Dark_length := F29,
    bb_Dark_length := F29.binds (ps := P_Dark_length) fun _ _ _ _ _ _ us hl => match us, hl with | [_], _ => rfl,
    m_Dark_length := ⟨a29, i29, k29⟩,
    F_Dark_hear := F30,
    bb_Dark_hear := F30.binds (ps := P_Dark_hear) fun _ _ _ _ _ _ us hl => match us, hl with | [_, _, _, _], _ => rfl,
    m_Dark_hear := ⟨a30, i30, k30⟩,
    F_Dark_looks := F31,
    bb_Dark_looks := F31.binds (ps := P_Dark_looks) fun _ _ _ _ _ _ us hl => match us, hl with | [_], _ => rfl,
    m_Dark_looks := ⟨a31, i31, k31⟩,
    F_Dark_least := F32,
    bb_Dark_least := F32.binds (ps := P_Dark_least) fun _ _ _ _ _ _ us hl => match us, hl with | [_, _], _ => rfl,
    m_Dark_least := ⟨a32, i32, k32⟩,
    F_Dark_greatest := F33,
    bb_Dark_greatest := F33.binds (ps := P_Dark_greatest) fun _ _ _ _ _ _ us hl => match us, hl with | [_, _], _ => rfl,
    m_Dark_greatest := ⟨a33, i33, k33⟩,
    F_Dark_led_back := F34,
    bb_Dark_led_back := F34.binds (ps := P_Dark_led_back) fun _ _ _ _ _ _ us hl => match us, hl with | [_], _ => rfl,
    m_Dark_led_back := ⟨a34, i34, k34⟩,
    F_Darkcheck_word := F35,
    bb_Darkcheck_word := F35.binds (ps := P_Darkcheck_word) fun _ _ _ _ _ _ us hl => match us, hl with | [_, _], _ => rfl,
    m_Darkcheck_word := ⟨a35, i35, k35⟩,
    F_Darkhome := F36,
    bb_Darkhome := F36.binds (ps := P_Darkhome) fun _ _ _ _ _ _ us hl => match us, hl with | [_, _, _, _], _ => rfl,
    m_Darkhome := ⟨a36, i36, k36⟩,
    F_Darkclashing := F37,
    bb_Darkclashing := F37.binds (ps := P_Darkclashing) fun _ _ _ _ _ _ us hl => match us, hl with | [_, _], _ => rfl,
    m_Darkclashing := ⟨a37, i37, k37⟩,
    F_Darkbound := F38,
    bb_Darkbound := F38.binds (ps := P_Darkbound) fun _ _ _ _ _ _ us hl => match us, hl with | [_, _, _], _ => rfl,
    m_Darkbound := ⟨a38, i38, k38⟩,
    F_law := F39,
    bb_law := F39.binds (ps := P_law) fun _ _ _ _ _ _ us hl => match us, hl with | [_], _ => rfl,
    g_law := PySem.W.mg_of X G a39,
    cl := ⟨pg, hd, po, sa⟩,
    g_Dark := PySem.W.mg_of X G aC,
    mk_Dark := ⟨mk, a28, i28, kc⟩,
    n_length := n_length,
    n_looks := n_looks,
    cl_Walk := ⟨pg_Walk, hd_Walk, po_Walk, sa_Walk⟩,
    g_Walk := PySem.W.mg_of X G aC_Walk,
    mk_Walk := ⟨mk_Walk, a18, i18, kc_Walk⟩,
    nWalk_places := nWalk_places,
    nWalk_told_by := nWalk_told_by,
    nWalk_start := nWalk_start,
    b_max := PySem.W.mg_none_of X G b_max,
    b_min := PySem.W.mg_none_of X G b_min,
    b_len := PySem.W.mg_none_of X G b_len,
    b_range := PySem.W.mg_none_of X G b_range,
    b_sorted := PySem.W.mg_none_of X G b_sorted,
    b_set := PySem.W.mg_none_of X G b_set,
    b_isinstance := PySem.W.mg_none_of X G b_isinstance,
    b_list := PySem.W.mg_none_of X G b_list,
    b_tuple := PySem.W.mg_none_of X G b_tuple,
    b_bool := PySem.W.mg_none_of X G b_bool,
    b_int := PySem.W.mg_none_of X G b_int,
    b_str := PySem.W.mg_none_of X G b_str,
    b_enumerate := PySem.W.mg_none_of X G b_enumerate,
    g_gcd := PySem.W.mg_of X G g_gcd0,
    b_zip := PySem.W.mg_none_of X G b_zip,
    g_SLOW := PySem.W.mg_of X G gSLOW,
    r_SLOW := ⟨tSLOW, rfl⟩,
    g_FAST := PySem.W.mg_of X G gFAST,
    r_FAST := ⟨tFAST, rfl⟩,
    g_WORDS := PySem.W.mg_of X G gW,
    kd_WORDS := ⟨es, nW, lW, keys, low⟩,
    w_slow := wS,
    w_fast := wF,
    q_slow := fun _ => sqt2 lS,
    q_fast := fun _ => sqt2 lF,
    g_LOOK_WORDS := PySem.W.mg_of X G gL,
    q_LW := fun _ => sqt3 lL }
  exact ⟨PySem.W.fnOf "law" "law" (defArgs slaw) (defBody slaw) (defScope slaw) .none kV39 dc39 pm39 an39 cd39 ct39, fun s v => .of_eq rfl, fun base _ _ => ok_law T⟩
theorem walk {l : PySem.W.OpenLaw} {q : Program} {loose : List Str} {XP : (Str → Option Value) → Heap → Prop} {YP : World → Heap → Prop} {d : DefRec} {K : Params → PySem.W.Frag} (hn : l.most = some 63) (hdf : d.params.defaults = [])
    (hY : ∀ (w : World) (h : Heap), YP w h → (K w.params).In h)
    (F : ∀ (w : World) (mg : Str → Option Value) (fa : Addr) (h : Heap), (K w.params).In h → h.Ns mainGlobals mg → mg d.name = some (.ref fa) →
      ∃ fd : FuncData, (∀ (s : Shared) (u : Value), BindsTo s fd ⟨[u], []⟩ [("script", u)]) ∧ ∀ base : Heap, (K w.params).In base → base.Ns mainGlobals mg → FnOk l.prog w (K w.params) mg base CX0 9 fa fd ["script"] (spLaw (K w.params))) :
    PySem.W.WalkO q loose XP YP l.row.toRowW d [] (fun f vs => PySem.call f vs) :=
  L2.walk_of (n := 63) (k := 9) (x := "script") (CX := fun _ => CX0) (sp := fun w => spLaw (K w.params)) hn (by decide) hdf ⟨rfl, by decide, by decide⟩ hY F (fun _ _ a ns hl _ hS => ⟨a, ns, rfl, hS, hl, fun _ => rfl⟩) fun _ _ _ _ _ z => z
end KA
open PySem PySem.W PyProof.Rows
set_option maxRecDepth 100000 in
set_option maxHeartbeats 0 in
theorem PySem.Challenge.cw_darkpace_k59_whole_led_back_twice_holds : PySem.Challenge.rw_darkpace_k59_whole_led_back_twice.Holds := by
  w_on; o_law; k_head; (case hw => w_witness2)
  k_fill
  refine KA.walk (l := PySem.Challenge.rw_darkpace_k59_whole_led_back_twice) rfl rfl (fun w h Y => PySem.W.kIn_of Y) ?F
  case F =>
    intro w mg fa h KX G hmg
    refine' KA.all_mk KX G hmg ?aC ?aC_Walk ?a0 ?l0 ?c0 ?k0 ?a1 ?l1 ?c1 ?k1 ?a2 ?l2 ?c2 ?k2 ?a3 ?l3 ?c3 ?k3 ?a4 ?l4 ?c4 ?k4 ?a5 ?l5 ?c5 ?k5 ?a6 ?l6 ?c6 ?k6 ?a7 ?l7 ?c7 ?k7 ?a8 ?l8 ?c8 ?k8 ?a9 ?l9 ?c9 ?k9 ?a10 ?l10 ?c10 ?k10 ?a11 ?l11 ?c11 ?k11 ?a12 ?l12 ?c12 ?k12 ?a13 ?l13 ?c13 ?k13 ?a14 ?l14 ?c14 ?k14 ?a15 ?l15 ?c15 ?k15 ?a16 ?l16 ?c16 ?k16 ?a17 ?l17 ?c17 ?k17 ?a18 ?i18 ?l18 ?c18 ?k18 ?a19 ?i19 ?l19 ?c19 ?k19 ?a20 ?i20 ?l20 ?c20 ?k20 ?a21 ?i21 ?l21 ?c21 ?k21 ?a22 ?l22 ?c22 ?k22 ?a23 ?l23 ?c23 ?k23 ?a24 ?l24 ?c24 ?k24 ?a25 ?l25 ?c25 ?k25 ?a26 ?l26 ?c26 ?k26 ?a27 ?l27 ?c27 ?k27 ?a28 ?i28 ?l28 ?c28 ?k28 ?a29 ?i29 ?l29 ?c29 ?k29 ?a30 ?i30 ?l30 ?c30 ?k30 ?a31 ?i31 ?l31 ?c31 ?k31 ?a32 ?i32 ?l32 ?c32 ?k32 ?a33 ?i33 ?l33 ?c33 ?k33 ?a34 ?i34 ?l34 ?c34 ?k34 ?a35 ?i35 ?l35 ?c35 ?k35 ?a36 ?i36 ?l36 ?c36 ?k36 ?a37 ?i37 ?l37 ?c37 ?k37 ?a38 ?i38 ?l38 ?c38 ?k38 ?a39 ?l39 ?c39 ?k39 ?pg ?hd ?po ?sa ?mk ?kc ?n_length ?n_looks ?pg_Walk ?hd_Walk ?po_Walk ?sa_Walk ?mk_Walk ?kc_Walk ?nWalk_places ?nWalk_told_by ?nWalk_start ?b_max ?b_min ?b_len ?b_range ?b_sorted ?b_set ?b_isinstance ?b_list ?b_tuple ?b_bool ?b_int ?b_str ?b_enumerate ?g_gcd0 ?b_zip ?gSLOW ?gFAST ?gW ?lW ?keys ?low ?wS ?wF ?lS ?lF ?gL ?lL
    (case aC => k_is)
    (case aC_Walk => k_is)
    (case a0 => k_is)
    (case l0 => k_is)
    (case c0 => k_is)
    (case k0 => k_is)
    (case a1 => k_is)
    (case l1 => k_is)
    (case c1 => k_is)
    (case k1 => k_is)
    (case a2 => k_is)
    (case l2 => k_is)
    (case c2 => k_is)
    (case k2 => k_is)
    (case a3 => k_is)
    (case l3 => k_is)
    (case c3 => k_is)
    (case k3 => k_is)
    (case a4 => k_is)
    (case l4 => k_is)
    (case c4 => k_is)
    (case k4 => k_is)
    (case a5 => k_is)
    (case l5 => k_is)
    (case c5 => k_is)
    (case k5 => k_is)
    (case a6 => k_is)
    (case l6 => k_is)
    (case c6 => k_is)
    (case k6 => k_is)
    (case a7 => k_is)
    (case l7 => k_is)
    (case c7 => k_is)
    (case k7 => k_is)
    (case a8 => k_is)
    (case l8 => k_is)
    (case c8 => k_is)
    (case k8 => k_is)
    (case a9 => k_is)
    (case l9 => k_is)
    (case c9 => k_is)
    (case k9 => k_is)
    (case a10 => k_is)
    (case l10 => k_is)
    (case c10 => k_is)
    (case k10 => k_is)
    (case a11 => k_is)
    (case l11 => k_is)
    (case c11 => k_is)
    (case k11 => k_is)
    (case a12 => k_is)
    (case l12 => k_is)
    (case c12 => k_is)
    (case k12 => k_is)
    (case a13 => k_is)
    (case l13 => k_is)
    (case c13 => k_is)
    (case k13 => k_is)
    (case a14 => k_is)
    (case l14 => k_is)
    (case c14 => k_is)
    (case k14 => k_is)
    (case a15 => k_is)
    (case l15 => k_is)
    (case c15 => k_is)
    (case k15 => k_is)
    (case a16 => k_is)
    (case l16 => k_is)
    (case c16 => k_is)
    (case k16 => k_is)
    (case a17 => k_is)
    (case l17 => k_is)
    (case c17 => k_is)
    (case k17 => k_is)
    (case a18 => k_is)
    (case i18 => k_is)
    (case l18 => k_is)
    (case c18 => k_is)
    (case k18 => k_is)
    (case a19 => k_is)
    (case i19 => k_is)
    (case l19 => k_is)
    (case c19 => k_is)
    (case k19 => k_is)
    (case a20 => k_is)
    (case i20 => k_is)
    (case l20 => k_is)
    (case c20 => k_is)
    (case k20 => k_is)
    (case a21 => k_is)
    (case i21 => k_is)
    (case l21 => k_is)
    (case c21 => k_is)
    (case k21 => k_is)
    (case a22 => k_is)
    (case l22 => k_is)
    (case c22 => k_is)
    (case k22 => k_is)
    (case a23 => k_is)
    (case l23 => k_is)
    (case c23 => k_is)
    (case k23 => k_is)
    (case a24 => k_is)
    (case l24 => k_is)
    (case c24 => k_is)
    (case k24 => k_is)
    (case a25 => k_is)
    (case l25 => k_is)
    (case c25 => k_is)
    (case k25 => k_is)
    (case a26 => k_is)
    (case l26 => k_is)
    (case c26 => k_is)
    (case k26 => k_is)
    (case a27 => k_is)
    (case l27 => k_is)
    (case c27 => k_is)
    (case k27 => k_is)
    (case a28 => k_is)
    (case i28 => k_is)
    (case l28 => k_is)
    (case c28 => k_is)
    (case k28 => k_is)
    (case a29 => k_is)
    (case i29 => k_is)
    (case l29 => k_is)
    (case c29 => k_is)
    (case k29 => k_is)
    (case a30 => k_is)
    (case i30 => k_is)
    (case l30 => k_is)
    (case c30 => k_is)
    (case k30 => k_is)
    (case a31 => k_is)
    (case i31 => k_is)
    (case l31 => k_is)
    (case c31 => k_is)
    (case k31 => k_is)
    (case a32 => k_is)
    (case i32 => k_is)
    (case l32 => k_is)
    (case c32 => k_is)
    (case k32 => k_is)
    (case a33 => k_is)
    (case i33 => k_is)
    (case l33 => k_is)
    (case c33 => k_is)
    (case k33 => k_is)
    (case a34 => k_is)
    (case i34 => k_is)
    (case l34 => k_is)
    (case c34 => k_is)
    (case k34 => k_is)
    (case a35 => k_is)
    (case i35 => k_is)
    (case l35 => k_is)
    (case c35 => k_is)
    (case k35 => k_is)
    (case a36 => k_is)
    (case i36 => k_is)
    (case l36 => k_is)
    (case c36 => k_is)
    (case k36 => k_is)
    (case a37 => k_is)
    (case i37 => k_is)
    (case l37 => k_is)
    (case c37 => k_is)
    (case k37 => k_is)
    (case a38 => k_is)
    (case i38 => k_is)
    (case l38 => k_is)
    (case c38 => k_is)
    (case k38 => k_is)
    (case a39 => k_is)
    (case l39 => k_is)
    (case c39 => k_is)
    (case k39 => k_is)
    (case pg => k_is)
    (case hd => k_is)
    (case po => k_is)
    (case sa => k_is)
    (case mk => k_is)
    (case kc => k_is)
    (case n_length => k_is)
    (case n_looks => k_is)
    (case pg_Walk => k_is)
    (case hd_Walk => k_is)
    (case po_Walk => k_is)
    (case sa_Walk => k_is)
    (case mk_Walk => k_is)
    (case kc_Walk => k_is)
    (case nWalk_places => k_is)
    (case nWalk_told_by => k_is)
    (case nWalk_start => k_is)
    (case b_max => k_is)
    (case b_min => k_is)
    (case b_len => k_is)
    (case b_range => k_is)
    (case b_sorted => k_is)
    (case b_set => k_is)
    (case b_isinstance => k_is)
    (case b_list => k_is)
    (case b_tuple => k_is)
    (case b_bool => k_is)
    (case b_int => k_is)
    (case b_str => k_is)
    (case b_enumerate => k_is)
    (case g_gcd0 => k_is)
    (case b_zip => k_is)
    (case gSLOW => k_is)
    (case gFAST => k_is)
    (case gW => k_is)
    (case lW => k_is)
    (case keys => k_keys)
    (case low => decide +kernel)
    (case wS => k_is)
    (case wF => k_is)
    (case lS => k_is)
    (case lF => k_is)
    (case gL => k_is)
    (case lL => k_is)
