import PyProof.Rows.All
import Wide.All
import OpenK.AllK
import Wide.FinOn
import HandS.ForMost
import HandS.Wide
import HandS.Deep
import HandS.IsInst
import HandS.Strs
import HandS.Codes
import HandS.Gcd
import KE.SortData
import KE.DataMinMax
import HandS.SetFor
import HandS.TupSets
import HandS.SetKeys
import HandS.OwnEq
import HandS.Defaults
import HandS.MakeKwOnly
import HandS.Comp
import HandS.More
import HandS.WideBits
import HandS.NoneIn
import HandS.Iter
import PySem.Challenge.RW_darkpace_k15_whole_more_looks
set_option Elab.async false
set_option linter.all false
set_option maxRecDepth 100000
set_option exponentiation.threshold 3000
set_option maxHeartbeats 16000000
/-! Rules of our own: data under a growing heap, sorted and max and min of data, set of ints, a written dict's item, a method called with a keyword. -/
namespace DP
open PySem PySem.Spec PyProof.Rows L2

theorem rooms {A : Around} {k : Nat} (hr : Room k A) : A.units + 65 < cLine := by have := hr.un; omega

theorem Same.rd {H H' : Hp} {a : Addr} {u : HO} (S : Same H H') (h : Rd H a u) : Rd H' a u := by
  rcases h with h | ⟨o, h⟩
  · exact Or.inl (S _ _ h)
  · exact Or.inr ⟨o, S _ _ h⟩
theorem Same.sqT {K : PySem.W.Frag} {H H' : Hp} {a : Addr} {xs : List V} (S : Same H H') (h : SqT K H a xs) : SqT K H' a xs := by
  rcases h with h | h
  · exact Or.inl (Same.rd S h)
  · exact Or.inr h
theorem Same.sqL {K : PySem.W.Frag} {H H' : Hp} {a : Addr} {xs : List V} (S : Same H H') (h : SqL K H a xs) : SqL K H' a xs := by
  rcases h with h | h
  · exact Or.inl (Same.rd S h)
  · exact Or.inr h
mutual
theorem dp_mono {K : PySem.W.Frag} {H H' : Hp} (S : Same H H') : ∀ (d : PyData) (v : V), Dp K H v d → Dp K H' v d
  | .none, _, h => by cases h; exact .non
  | .bool b, _, h => by cases h; exact .bl _
  | .int b, _, h => by cases h; exact .int _
  | .str b, _, h => by cases h; exact .str _
  | .list ds, _, h => by
    cases h with
    | lst s a => exact .lst (Same.sqL S s) (dpAll_mono S ds _ a)
  | .tuple ds, _, h => by
    cases h with
    | tup s a => exact .tup (Same.sqT S s) (dpAll_mono S ds _ a)
  | .dict _, _, h => by cases h
theorem dpAll_mono {K : PySem.W.Frag} {H H' : Hp} (S : Same H H') : ∀ (ds : List PyData) (vs : List V), DpAll K H vs ds → DpAll K H' vs ds
  | [], _, h => by cases h; exact .nil
  | d :: ds, _, h => by
    cases h with
    | cons a b => exact .cons (dp_mono S d _ a) (dpAll_mono S ds _ b)
end
section
variable {K : PySem.W.Frag} {H : Hp}
theorem dpAll_len : ∀ {vs : List V} {ds : List PyData}, DpAll K H vs ds → vs.length = ds.length
  | _, _, .nil => rfl
  | _, _, .cons _ t => by rw [List.length_cons, List.length_cons, dpAll_len t]
theorem dpAll_get : ∀ {vs : List V} {ds : List PyData} {i : Nat} {v : V}, DpAll K H vs ds → vs[i]? = some v → ∃ d, ds[i]? = some d ∧ Dp K H v d
  | _, _, _, _, .nil, e => by simp at e
  | _, _, 0, _, .cons r _, e => by simp at e; subst e; exact ⟨_, rfl, r⟩
  | _, _, i + 1, v, .cons _ t, e => by
    obtain ⟨d, h1, h2⟩ := dpAll_get (i := i) (v := v) t (by simpa using e)
    exact ⟨d, by simpa using h1, h2⟩
theorem dpAll_get' : ∀ {vs : List V} {ds : List PyData} {i : Nat} {d : PyData}, DpAll K H vs ds → ds[i]? = some d → ∃ v, vs[i]? = some v ∧ Dp K H v d
  | _, _, _, _, .nil, e => by simp at e
  | _, _, 0, _, .cons r _, e => by simp at e; subst e; exact ⟨_, rfl, r⟩
  | _, _, i + 1, v, .cons _ t, e => by
    obtain ⟨d, h1, h2⟩ := dpAll_get' (i := i) (d := v) t (by simpa using e)
    exact ⟨d, by simpa using h1, h2⟩
theorem dpAll_snoc : ∀ {vs : List V} {ds : List PyData} {v : V} {d : PyData}, DpAll K H vs ds → Dp K H v d → DpAll K H (vs ++ [v]) (ds ++ [d])
  | _, _, _, _, .nil, r => .cons r .nil
  | _, _, _, _, .cons q t, r => .cons q (dpAll_snoc t r)
theorem dpAll_app : ∀ {vs ws : List V} {ds es : List PyData}, DpAll K H vs ds → DpAll K H ws es → DpAll K H (vs ++ ws) (ds ++ es)
  | _, _, _, _, .nil, r => r
  | _, _, _, _, .cons q t, r => .cons q (dpAll_app t r)
theorem dpAll_ints : ∀ ns : List Int, DpAll K H (ns.map V.int) (ns.map PyData.int)
  | [] => .nil
  | n :: ns => .cons (.int n) (dpAll_ints ns)
theorem dpAll_int : ∀ {vs : List V} {ns : List Int}, DpAll K H vs (ns.map PyData.int) → vs = ns.map V.int
  | _, [], h => by cases h; rfl
  | _, n :: ns, h => by
    have h' : DpAll K H _ (PyData.int n :: ns.map PyData.int) := h
    cases h' with
    | cons a b =>
      cases a
      rw [dpAll_int b]; rfl
theorem same_upd {H : Hp} {p : Addr} {o : HO} (h : H p = none) : Same H (upd H p o) := fun b u e => by rw [upd_ne (ne_of_none e h)]; exact e
end

section
variable {X : Cx}
/-- sorted(xs): xs a list of alike data, of any length; P is what is known of each -/
def rSortD (K : PySem.W.Frag) {β : Type} (enc : β → PyData) : List V → Hp → VK → Prop := fun vs H Q => ∃ (a : Addr) (xs : List V) (bs : List β), vs = [V.ref a] ∧ SqL K H a xs ∧ DpAll K H xs (bs.map enc) ∧
  PySem.W.AllAlike (bs.map enc) ∧ PySem.W.Sortable (bs.map enc) ∧ (∀ b ∈ bs, (enc b).depth ≤ 60) ∧
  ∀ (p : Addr) (ys : List V) H', H p = none → Same H H' → H' p = some (.lst ys) → DpAll K H' ys ((bs.mergeSort (PySem.W.dataLe false enc)).map enc) → Q (.ref p) H'
theorem each_vals {K : PySem.W.Frag} {H : Hp} {β : Type} {enc : β → PyData} : ∀ {xs : List V} {us : List Value} {bs : List β}, Vals xs us → DpAll K H xs (bs.map enc) → PySem.W.EachIs (fun u b => ∃ x, RelV x u ∧ Dp K H x (enc b)) us bs
  | _, _, [], r, d => by
    have d' : DpAll K H _ [] := d
    cases d'
    cases r
    exact .nil
  | _, _, b :: bs, r, d => by
    have d' : DpAll K H _ (enc b :: bs.map enc) := d
    cases d' with
    | cons d1 d2 =>
      cases r with
      | cons r1 r2 => exact .cons ⟨_, r1, d1⟩ (each_vals r2 d2)
theorem vals_each {K : PySem.W.Frag} {H : Hp} {β : Type} {enc : β → PyData} : ∀ {us : List Value} {bs : List β}, PySem.W.EachIs (fun u b => ∃ x, RelV x u ∧ Dp K H x (enc b)) us bs → ∃ xs, Vals xs us ∧ DpAll K H xs (bs.map enc)
  | _, _, .nil => ⟨[], .nil, .nil⟩
  | _, _, .cons ⟨x, r, d⟩ t => by
    obtain ⟨xs, h1, h2⟩ := vals_each t
    exact ⟨x :: xs, .cons r h1, .cons d h2⟩
theorem cr_sortD {β : Type} (enc : β → PyData) (hu : X.A.units + 65 < cLine) : CallR X (.builtin "sorted") (rSortD X.K enc) := by
  intro pins s σ H vs us Q I r h
  obtain ⟨a, xs, bs, rfl, hs, hd, hal, hk, hdep, q⟩ := h
  obtain ⟨its, rv, hl, hz⟩ := I.list hs
  rw [Vals.ref1 r]
  have hlen : its.length = bs.length := by rw [← rv.length, dpAll_len hd, List.length_map]
  have e := each_vals rv hd
  obtain ⟨as, ra⟩ := Dp.readsAll I _ _ _ hd rv
  refine PySem.W.sorted_data (enc := enc) (bs := bs) (vs := its) hl.isList e (PySem.W.readsAll_each enc ra) hal hk (by rw [← hlen, ← rv.length]; exact hz) (fun b hb => ?_) fun out ho eo => ?_
  · have := hdep b hb
    omega
  · obtain ⟨ys, h1, h2⟩ := vals_each eo
    obtain ⟨ep, he'⟩ := PyProof.Rows.sortedAll_at s.heap its (List.toArray out)
    have hn : H (s.heap.objs.size + 1) = none := I.hok.fresh (Nat.le_succ _)
    have hyl : ys.length ≤ sizeLine := by
      rw [h1.length, ho, ← hlen, ← rv.length]; exact hz
    refine ⟨.ref _, upd H (s.heap.objs.size + 1) (.lst ys), I.laid (t' := s.toks) (fun _ _ => PyProof.Rows.sortedAll_old) (Nat.le_succ _) ⟨hyl, out, ep, h1, he'⟩, rfl, q _ ys _ hn (same_upd hn) upd_same ?_⟩
    exact dpAll_mono (same_upd hn) _ _ h2

/-- max(xs), min(xs): xs a list of alike data -/
def rBestD (K : PySem.W.Frag) (best : PyData → List PyData → PyData) : List V → Hp → VK → Prop := fun vs H Q => ∃ (a : Addr) (xs : List V) (d : PyData) (ds : List PyData), vs = [V.ref a] ∧ SqL K H a xs ∧ DpAll K H xs (d :: ds) ∧
  PySem.W.AlikeAll (d :: ds) ∧ PyData.canLayAll0 (d :: ds) = true ∧ PyData.depthAll (d :: ds) ≤ 60 ∧
  ∀ (x : V), Dp K H x (best d ds) → Q x H
theorem best_end {pins : List (Addr × Obj)} {s : Shared} {σ : L2.St} {H : Hp} {Q : VK} (I : Inv X pins σ H s) {xs : List V} {its : List Value} {as : List Addr} {ds : List PyData} (rv : Vals xs its) (hd : DpAll X.K H xs ds) (ra : ReadsAll s.heap its ds as) (hc : PyData.canLayAll0 ds = true) {i : Nat} {v : Value} {h' : Heap} {tk : Nat} {bs : List Addr} {e : PyData} (hi : its.toArray[i]? = some v)
    (hr : Reads h' v e bs) (he : e.canLay0 = true) (hk : ∀ b o, s.heap.get? b = some o → h'.get? b = some o) (q : ∀ x, Dp X.K H x e → Q x H) : EP X pins σ Q v { heap := h', gens := s.gens, drawn := s.drawn, toks := tk, os := s.os } := by
  have hi' : its[i]? = some v := by simpa using hi
  have hlt : i < its.length := by
    rcases Nat.lt_or_ge i its.length with h | h
    · exact h
    · rw [List.getElem?_eq_none h] at hi'; cases hi'
  obtain ⟨x, hx⟩ : ∃ x, xs[i]? = some x := ⟨xs[i]'(by rw [rv.length]; exact hlt), List.getElem?_eq_getElem _⟩
  obtain ⟨u, hu, ru⟩ := rv.get hx
  have euv : u = v := Option.some.inj (hu.symm.trans hi')
  subst euv
  obtain ⟨d, hdi, hdx⟩ := dpAll_get hd hx
  obtain ⟨as', rx⟩ := Dp.reads I d x u hdx ru
  have rx' : Reads h' u d as' := PyProof.Rows.Reads.keeps hk rx
  have hcd : d.canLay0 = true := by
    have : ∀ (ds : List PyData) (i : Nat), PyData.canLayAll0 ds = true → ds[i]? = some d → d.canLay0 = true := by
      intro ds
      induction ds with
      | nil => intro i _ h; simp at h
      | cons a r ih =>
        intro i h1 h2
        rw [PyData.canLayAll0, Bool.and_eq_true] at h1
        cases i with
        | zero => simp at h2; rw [← h2]; exact h1.1
        | succ i => exact ih i h1.2 (by simpa using h2)
    exact this ds i hc hdi
  have e1 := SeqAt.readOf_eq hcd rx'
  have e2 := SeqAt.readOf_eq he hr
  have ed : d = e := e1.symm.trans e2
  subst ed
  exact ⟨x, H, I.kept hk, ru, q x hdx⟩
theorem canLay_fold (f : PyData → PyData → Bool) : ∀ (ds : List PyData) (d : PyData), PyData.canLayAll0 (d :: ds) = true → (ds.foldl (fun a y => if f a y then y else a) d).canLay0 = true
  | [], d, h => by
    rw [PyData.canLayAll0, Bool.and_eq_true] at h
    exact h.1
  | e :: ds, d, h => by
    rw [PyData.canLayAll0, PyData.canLayAll0, Bool.and_eq_true, Bool.and_eq_true] at h
    rw [List.foldl_cons]
    refine canLay_fold f ds _ ?_
    rw [PyData.canLayAll0, Bool.and_eq_true]
    refine ⟨?_, h.2.2⟩
    split
    · exact h.2.1
    · exact h.1
theorem cr_maxD (hc : X.calm = true) (hu : X.A.units + 65 < cLine) : CallR X (.builtin "max") (rBestD X.K PySem.W.maxD) := by
  intro pins s σ H vs us Q I r h
  obtain ⟨a, xs, d, ds, rfl, hs, hd, hal, hl0, hdep, q⟩ := h
  obtain ⟨its, rv, hl, hz⟩ := I.list hs
  rw [Vals.ref1 r]
  obtain ⟨as, ra⟩ := Dp.readsAll I _ _ _ hd rv
  exact PySem.W.max_list_data (I.ok.hd hc) hl.isList (by simpa using ra) hal (by omega) fun i v h' tk bs hi hr hk => best_end I rv hd ra hl0 hi hr (canLay_fold _ ds d hl0) hk q
theorem cr_minD (hc : X.calm = true) (hu : X.A.units + 65 < cLine) : CallR X (.builtin "min") (rBestD X.K PySem.W.minD) := by
  intro pins s σ H vs us Q I r h
  obtain ⟨a, xs, d, ds, rfl, hs, hd, hal, hl0, hdep, q⟩ := h
  obtain ⟨its, rv, hl, hz⟩ := I.list hs
  rw [Vals.ref1 r]
  obtain ⟨as, ra⟩ := Dp.readsAll I _ _ _ hd rv
  exact PySem.W.min_list_data (I.ok.hd hc) hl.isList (by simpa using ra) hal (by omega) fun i v h' tk bs hi hr hk => best_end I rv hd ra hl0 hi hr (canLay_fold (fun a y => PySem.W.dataLt y a) ds d hl0) hk q
end
end DP
/-! set(xs) of a list of whole numbers, sorted then. -/
namespace DP
open PySem PySem.Spec PyProof.Rows L2
/-- a fresh set -/
abbrev newSet (w : World) : Obj := { cls := .type "set", dict := none, data := .set #[] 0 (.fresh 0 0 (!w.params.followText "set-order")) }
theorem set_of_ints {P : Program} {w : World} {A : Around} {E : Value → Shared → Prop} {s : Shared} {l : Addr} {items : Array Value} (ns : List Int) {Q : Value → Shared → Prop} (hh : A.handled = none) (hl : s.heap.IsList l items) (hit : IntsAre items.toList ns) (hb : ns.length + 1 < scanBound)
    (h : ∀ (h' : Heap) (tk c : Nat), SetR w h' s.heap.objs.size (fun j => decide (j ∈ ns)) c → c ≤ ns.length → (∀ b o, s.heap.get? b = some o → h'.get? b = some o) → Q (.ref s.heap.objs.size) { s with heap := h', toks := tk }) :
    wpAny (model P w) A (call (.type "set") [.ref l]) Q E s := by
  have hisz : items.size = ns.length := (Array.length_toList (xs := items)).symm.trans (IntsAre.length hit)
  have C := F.called_set
  obtain ⟨c, tl, hmro⟩ := C.mro
  have hmade := C.made; have hsub := C.sub
  refine wpAny_call (codeAny_of_tree ?_)
  show wpAny _ _ (callAny (.type "set") _) _ _ _
  refine wpAny_pure ⟨Code.quiet_builtin _ (by decide +kernel), codeAny_builtin F.entry_type_call ?_⟩
  rw [Around.under_plain (weight_type_call_type "set" [.ref l] []) rfl]
  have h1 := C.notType; have h2 := C.canCreate
  have hct := F.typeCall_set_1 (.ref l)
  repeat (any_goals (first | assumption | wp_step))
  refine codeAny_mono (code_set_led1 (.ref l) (E := E) (Q₁ := fun obj s₁ => obj = .ref s.heap.objs.size ∧ s₁ = { s with heap := s.heap.push (newSet w) }) ⟨rfl, rfl⟩) fun r s₁ hr => ?_
  cases r with
  | error e => exact hr
  | ok fl =>
  cases fl with
  | ret obj =>
    obtain ⟨rfl, rfl⟩ := hr
    have hS : (s.heap.push (newSet w)).get? s.heap.objs.size = some (newSet w) := Heap.get?_push_size _ rfl
    have hT : Shared.TypeIs { s with heap := s.heap.push (newSet w) } (.ref s.heap.objs.size) "set" := ⟨_, hS, rfl⟩
    have hli := C.init.lookup; have hbi := C.init.bind (.ref s.heap.objs.size)
    repeat (any_goals (first | assumption | wp_step))
    refine codeAny_mono (codeAny_call_builtin (R := wants (fun r s₂ => r = .none ∧ ∃ h' tk c, s₂ = { s with heap := h', toks := tk } ∧ SetR w h' s.heap.objs.size (fun j => decide (j ∈ ns)) c ∧ c ≤ ns.length ∧ ∀ b o, s.heap.get? b = some o → h'.get? b = some o) E) C.init.plain F.entry_set_init (check_set_init_1 hT ?_)) fun r₂ s₂ hr₂ => ?_
    · obtain ⟨⟨ocls, odict, odata, oslots⟩, hol, hcl, nl, hdl⟩ := hl
      simp only at hcl hdl
      subst hcl hdl
      have hol' : (s.heap.push (newSet w)).get? l = some { cls := .type "list", dict := odict, data := .seq items nl, slots := oslots } := Heap.get?_push_of_some _ hol
      have hsls := F.sub_list_set; have hslf := F.sub_list_frozenset
      have hne : (Value.type "list" == Value.type "dict") = false := by decide
      have hl1 : (s.heap.push (newSet w)).IsList l items := ⟨_, hol', rfl, nl, rfl⟩
      unfold Builtin.«set.__init__» noKeywords Builtin.Frozenset.updateFrom
      generalize hPI : pyIter = PI
      wp_walk
      subst hPI
      refine wpAny_pyIter_list hl1 (wpAny_bind (wpAny_runValue ?_))
      have hlS : l < s.heap.objs.size := Heap.lt_size hol
      have hh3 : A.in1.in1.in1.handled = none := by simp [hh]
      have hz : (s.heap.push (newSet w)).objs.size = s.heap.objs.size + 1 := Heap.size_push ..
      have hneI : l ≠ (s.heap.push (newSet w)).objs.size := by rw [hz]; exact Nat.ne_of_lt (Nat.lt_succ_of_lt hlS)
      have hSf : s.heap.objs.size ∉ [(s.heap.push (newSet w)).objs.size, l] := by
        rw [hz]; simp only [List.mem_cons, List.not_mem_nil, or_false, not_or]; exact ⟨Nat.ne_of_lt (Nat.lt_succ_self _), Nat.ne_of_gt hlS⟩
      have hval : ∀ (i : Nat) (v : Value), items[i]? = some v → ∃ k t, ns[i]? = some k ∧ v = .int k t := fun i v hv => by
        have hi : i < ns.length := hisz ▸ (Array.getElem?_eq_some_iff.mp hv).1
        obtain ⟨t, e⟩ := PyProof.Rows.IntsAre.int_at hit i v (by rw [Array.getElem?_toList]; exact hv)
        exact ⟨ns[i], t, List.getElem?_eq_getElem hi, by rw [e, List.getD_eq_getElem?_getD, List.getElem?_eq_getElem hi]; rfl⟩
      refine set_update_ints ((Walks.list hh3 _ l hneI items).toS) s.heap.objs.size hSf ns hisz hb hval (items.size - 0) 0 _ (by omega) (Nat.zero_le _) ⟨⟨_, Heap.get?_push_size _ rfl, rfl, rfl⟩, (hl1.push _)⟩ ?z0 ?zR
      case z0 => exact ⟨0, Nat.le_refl 0, setR_new_at (Heap.get?_push_of_some _ hS)⟩
      case zR =>
        intro s' c' hm hc' hS'
        obtain ⟨h', g2, d', tk', os'⟩ := s'
        have eg : g2 = s.gens := hm.gens
        have ed : d' = s.drawn := hm.drawn
        have eo : os' = s.os := hm.os
        subst eg ed eo
        rw [hisz] at hc'
        refine wpAny_pure (?_ : wpAny _ _ (ret Value.none) _ _ _)
        refine wpAny_pure ⟨rfl, h', tk', c', rfl, hS', hc', fun b o e => ?_⟩
        have hb0 : b < s.heap.objs.size := Heap.lt_size e
        refine hm.heap b o ?_ (Heap.get?_push_of_some _ (Heap.get?_push_of_some _ e))
        simp only [List.mem_cons, List.not_mem_nil, or_false, not_or]
        exact ⟨Nat.ne_of_lt hb0, by rw [hz]; exact Nat.ne_of_lt (Nat.lt_succ_of_lt hb0)⟩
    · cases r₂ with
      | error e => exact hr₂
      | ok fl₂ =>
      cases fl₂ with
      | ret r =>
        obtain ⟨rfl, h', tk, c', rfl, hS', hc', hk'⟩ := hr₂
        repeat (any_goals (first | assumption | wp_step))
        exact h _ _ _ hS' hc' hk'
      | _ => exact hr₂.elim
  | _ => exact hr.elim
section
variable {X : Cx}
/-- set(xs), xs a list of whole numbers -/
def rSetI (K : PySem.W.Frag) (w : World) : List V → Hp → VK → Prop := fun vs H Q => ∃ (l : Addr) (ns : List Int), vs = [V.ref l] ∧ SqL K H l (ns.map V.int) ∧ ns.length ≤ 60 ∧
  ∀ (a : Addr) (c : Nat), c ≤ ns.length → H a = none → Q (.ref a) (upd H a (SetO w a (fun j => decide (j ∈ ns)) c))
theorem cr_setI (hc : X.calm = true) : CallR X (.type "set") (rSetI X.K X.w) := by
  intro pins s σ H vs us Q I r h
  obtain ⟨l, ns, rfl, hs, hlen, q⟩ := h
  obtain ⟨its, rv, pl, hz⟩ := I.list hs
  rw [Vals.ref1 r]
  have hi : IntsAre its.toArray.toList ns := by simpa using rv.ints
  refine set_of_ints ns (I.ok.hd hc) pl.isList hi (by unfold scanBound; omega) fun h' tk c R hcl hk => ?_
  exact ⟨.ref _, upd H s.heap.objs.size (SetO X.w s.heap.objs.size (fun j => decide (j ∈ ns)) c), I.laid (t' := tk) hk (Nat.le_refl _) (setO_new R), rfl, q _ c hcl (I.hok.fresh (Nat.le_refl _))⟩
/-- d[k], d a written dict -/
theorem ix_kd {d : Addr} {es : Array DictEntry} {n : Nat} (D : KDict X.K X.w d es n) : IxR X (fun x y H Q => ∃ (z : Str) (u0 : Value) (v0 : V), x = .ref d ∧ y = .str z ∧ PySem.W.nsIn X.K d z = some (some u0) ∧ RelV v0 u0 ∧ Q v0 H) := by
  intro value slice pins s σ H x y v u Q I rx ry h hs
  obtain ⟨z, u0, v0, ex, ey, e, r, q⟩ := h
  subst ex ey
  cases rx
  obtain ⟨t, rfl⟩ := ry
  have fin : EP X pins σ Q u0 s := ⟨v0, H, I, r, q⟩
  exact subscriptTail_builtinR (x := u0) (kd_type D I) PySem.F.slot_dict_getitem.lookup
    (wpAny_getItem_of (PySem.strKind_is X.prog X.w z t) (PySem.W.mapOf_K (prog := X.prog) I.kIn D.at_ D.lit) (PySem.W.find_K D.at_ e) ⟨rfl, ⟨v0, H, I.tok _, r, q⟩⟩) hs
end
end DP
/-! The rules with the written part named, for comprehensions; a method called with keywords. -/
namespace DP
open PySem PySem.Spec PyProof.Rows L2
section
variable {X : Cx} {K : PySem.W.Frag}
theorem ixT (h : X.K = K := by rfl) : IxR X (rIxT K) := by subst h; exact ix_tup
theorem ixL (h : X.K = K := by rfl) : IxR X (rIxL K) := by subst h; exact ix_list
theorem inS (h : X.K = K := by rfl) : OpR X (compareOp .In) (rIn K false) := by subst h; exact op_in_seq
theorem notInS (h : X.K = K := by rfl) : OpR X (compareOp .NotIn) (rIn K true) := by subst h; exact op_notIn_seq
theorem eqDK (hu : X.A.units + 64 < cLine) (h : X.K = K := by rfl) : OpR X (compareOp .Eq) (rEqD K) := by subst h; exact op_eqD hu
theorem neDK (hu : X.A.units + 64 < cLine) (h : X.K = K := by rfl) : OpR X (compareOp .NotEq) (rNeD K) := by subst h; exact op_neD hu
theorem inDK (hu : X.A.units + 65 < cLine) (h : X.K = K := by rfl) : OpR X (compareOp .In) (rInD K) := by subst h; exact op_inD hu
theorem notInDK (hu : X.A.units + 65 < cLine) (h : X.K = K := by rfl) : OpR X (compareOp .NotIn) (rNotInD K) := by subst h; exact op_notInD hu
def rLenK (K : PySem.W.Frag) : List V → Hp → VK → Prop := fun xs H Q => ∃ p ys, xs = [V.ref p] ∧ (SqL K H p ys ∨ SqT K H p ys) ∧ Q (.int ys.length) H
theorem lenK (h : X.K = K := by rfl) : CallR X (.builtin "len") (rLenK K) := by subst h; exact call_len_seq
def rListK (K : PySem.W.Frag) : List V → Hp → VK → Prop := fun xs H Q => ∃ p ys, xs = [V.ref p] ∧ (SqL K H p ys ∨ SqT K H p ys) ∧ ∀ l, H l = none → Q (.ref l) (upd H l (.lst ys))
theorem listK (h : X.K = K := by rfl) : CallR X (.type "list") (rListK K) := by subst h; exact call_list_of
theorem maxK (hc : X.calm = true) (h : X.K = K := by rfl) : CallR X (.builtin "max") (rMax K) := by subst h; exact cr_max hc
theorem minK (hc : X.calm = true) (h : X.K = K := by rfl) : CallR X (.builtin "min") (rMin K) := by subst h; exact cr_min hc
theorem maxDK (hc : X.calm = true) (hu : X.A.units + 65 < cLine) (h : X.K = K := by rfl) : CallR X (.builtin "max") (rBestD K PySem.W.maxD) := by subst h; exact cr_maxD hc hu
theorem minDK (hc : X.calm = true) (hu : X.A.units + 65 < cLine) (h : X.K = K := by rfl) : CallR X (.builtin "min") (rBestD K PySem.W.minD) := by subst h; exact cr_minD hc hu
theorem sortK (h : X.K = K := by rfl) : CallR X (.builtin "sorted") (rSorted K) := by subst h; exact cr_sorted
theorem sortDK {β : Type} (enc : β → PyData) (hu : X.A.units + 65 < cLine) (h : X.K = K := by rfl) : CallR X (.builtin "sorted") (rSortD K enc) := by subst h; exact cr_sortD enc hu
theorem setIK {w : World} (hc : X.calm = true) (h : X.K = K := by rfl) (hw : X.w = w := by rfl) : CallR X (.type "set") (rSetI K w) := by subst h hw; exact cr_setI hc
theorem sortedSetK {w : World} (hc : X.calm = true) (hw : X.w = w := by rfl) : CallR X (.builtin "sorted") (rSortedSet w) := by subst hw; exact cr_sortedSet hc
theorem slL (h : X.K = K := by rfl) : SlR X (rSlL K) := by subst h; exact sl_list
theorem isiK (h : X.K = K := by rfl) : CallR X (.builtin "isinstance") (rIsi K) := by subst h; exact call_isi
theorem fldK {o : Expr} {ta : TE} {f : Str} {pos : Pos} (he : PE X o ta) (hb : attributeBase o f X.env (eval o X.env) = eval o X.env := by rfl) (h : X.K = K := by rfl) : PE X (.Attribute o f pos) (tFld K ta f) := by subst h; exact pe_fld he hb
theorem tupK {es : List Expr} {k : Nat} {t : TGs} {n : Nat} {pos : Pos} (hc : X.calm = true) (h1 : PGs X es t) (hn : (assignEach es X.env).length = n := by rfl) (hst : (assignEach es X.env).findIdx? (·.1) = none := by rfl) (h : X.K = K := by rfl) :
    PG X (.Tuple es k pos) (gTup K n t) := by subst h; exact pg_tup hc h1 hn hst
end
section
variable {X : Cx} {CX : CXT} {k : Nat} {f C : Addr} {fd : FuncData} {ps ks : List Str} {sp : Sp} {E : XK} {m : Str} {pos apos : Pos} {o : Expr} {kws : List Keyword} {ta : TE} {tk : TA} {g : List Value → List Value → List Value} {gV : List V → List V → List V}
/-- o.m(k = v, ..) -/
def tMethK (C : Addr) (m : Str) (sp : Sp) (gV : List V → List V → List V) (E : XK) (ta : TE) (tk : TA) : TE := fun σ H Q => ta σ H fun x H1 => ∃ a dx fs, x = .ref a ∧ H1 a = some (.ins C dx fs) ∧ fs.lookup m = none ∧ tk σ H1 fun zs H2 => sp (gV [.ref a] zs) H2 Q E
theorem pe_methK0 {pl : Sem Bool} (he : PE X o ta) (c : Cls X.K C) (hm : Meth X.K C m f) (F : FnOk X.prog X.w X.K X.mg X.base CX k f fd ps sp) (hr : Room k X.A) (hb : KBinds X.K fd ps ks g gV) (hx : Passes CX X E) (hkw : PK X kws tk)
    (hall : (backToKw pos (keywordEach kws X.env)).all (·.1.isSome) = true := by rfl) (hks : (backToKw pos (keywordEach kws X.env)).filterMap (·.1) = ks := by rfl)
    (hpl : ((backTo pos (starEach [] X.env)).any (·.1) || (backToKw pos (keywordEach kws X.env)).any (·.1.isNone)) = false := by rfl)
    (ht : eval (.Call (.Attribute o m apos) [] kws pos) X.env = (do
      let ov ← eval o X.env
      standAt apos.atName
      let (f, first) ← holding [ov] (getMethod ov m pl)
      callWith pos f first (backTo pos (starEach [] X.env)) (backToKw pos (keywordEach kws X.env))) := by rfl) :
    PE X (.Call (.Attribute o m apos) [] kws pos) (tMethK C m sp gV E ta tk) := by
  refine ⟨fun pins s σ H Q I h => ?_⟩
  refine PySem.W.methodCall_KW (pl := pl) (thn (he.run pins s σ H _ I h) fun u s1 ⟨x, H1, I1, rx, a, dx, fs, ex, ea, l, q⟩ => ?_) ht
  subst ex
  obtain rfl : u = Value.ref a := rx
  refine getmeth_ok I1 ea c hm l ?_
  refine PySem.W.callWith_KW0 (first := [.ref a]) (h₀ := X.base) I.ok.mod.kin hm.kp hall ?_ hpl
  refine thn (hkw.run pos pins s1 σ H1 _ I1 q) fun ws s2 ⟨zs, H2, I2, rz, q2⟩ => ⟨I2.kIn, ?_⟩
  rw [hks]
  exact run_fnk (us := [.ref a]) (vs := [.ref a]) F hr hb hx I2 (.cons rfl .nil) rz q2
end
/-- one positional value, one keyword -/
def g11 {α : Type} : List α → List α → List α
  | [a], [b] => [a, b]
  | _, _ => []
theorem g11_rel {vs : List V} {us : List Value} {zs : List V} {ws : List Value} (r : Vals vs us) (q : Vals zs ws) : Vals (g11 vs zs) (g11 us ws) := by
  cases r with
  | nil => exact .nil
  | cons a t =>
    cases t with
    | cons _ _ => exact .nil
    | nil =>
      cases q with
      | nil => exact .nil
      | cons b t =>
        cases t with
        | cons _ _ => exact .nil
        | nil => exact .cons a (.cons b .nil)
end DP
/-! A set of tuples whose parts are plain (whole numbers, texts), made of a list and sorted: over any kind of plain parts. -/
namespace SD
open PySem PySem.Spec PyProof.Rows L2
section
variable {P : Program} {w : World} {κ : Type} [DecidableEq κ] {kn : KeyKind P w κ} {A : Around} {E : Value → Shared → Prop} {s : Shared}
/-- parts are no objects -/
def Plain (kn : KeyKind P w κ) : Prop := ∀ k v, kn.is k v = true → v.scannable = true
abbrev TupAt (kn : KeyKind P w κ) (h : Heap) (p : Addr × List κ) : Prop := IsTupleKey kn h p.2 p.1
abbrev hsh (kn : KeyKind P w κ) (k : List κ) : Int := tupleKeyHash kn k
theorem parts (pl : Plain kn) : ∀ {k : List κ} {vs : List Value}, ItemsAre kn k vs → ∀ v ∈ vs, v.scannable = true
  | _, _, .nil, v, h => by cases h
  | _, _, .cons a t, v, h => by
    rcases List.mem_cons.mp h with e | h
    · rw [e]; exact pl _ _ a
    · exact parts pl t v h
theorem no_class1 (n : Nat) {v : Value} (h : v.scannable = true) : ofAClassStatement n v = pure false := by
  cases n <;> cases v <;> simp_all [Value.scannable, ofAClassStatement]
theorem no_class (pl : Plain kn) {b : Addr} {k : List κ} {Q : Bool → Shared → Prop} (hk : TupAt kn s.heap (b, k)) (q : Q false s) : wpAny (model P w) A (ofAClassStatement 8 (.ref b)) Q E s := by
  have ty := IsTupleKey.typeIs hk
  obtain ⟨o, items, n, ho, _, hd, hi⟩ := hk
  have hp := parts pl hi
  unfold ofAClassStatement
  refine wpAny_bind (wpAny_typeOf ty ?_)
  dsimp only
  simp only [show (("tuple" : String) == "tuple") = true by decide, if_true, Bool.not_true, Bool.false_eq_true, if_false]
  try refine wpAny_bind (wpAny_pure ?_)
  try simp only [Bool.not_true, Bool.false_eq_true, if_false]
  refine wpAny_bind (wpAny_seqItems ho hd ?_)
  dsimp only
  refine wpAny_bind ?_
  rw [← Array.forIn_toList]
  refine wpAny_forIn_list _ (fun rest r s2 => (r.1 = none ∧ s2 = s) ∧ ∀ v ∈ rest, v.scannable = true) _ (fun v rest r s2 hh => ?_) (fun r s2 hh => ?_) _ _ ⟨⟨rfl, rfl⟩, hp⟩
  · obtain ⟨⟨h1, rfl⟩, h2⟩ := hh
    rw [no_class1 _ (h2 v List.mem_cons_self)]
    refine wpAny_bind (wpAny_pure ?_)
    simp only [Bool.false_eq_true, if_false]
    exact wpAny_pure ⟨⟨rfl, rfl⟩, fun u hu => h2 u (List.mem_cons_of_mem _ hu)⟩
  · obtain ⟨⟨h1, rfl⟩, _⟩ := hh
    obtain ⟨r1, r2⟩ := r
    have h1' : r1 = none := h1
    subst h1'
    exact wpAny_pure q
theorem by_value (pl : Plain kn) {b : Addr} {k : List κ} {Q : Bool → Shared → Prop} (hk : TupAt kn s.heap (b, k)) (q : ∀ r, Q r s) : wpAny (model P w) A (hashByValue 8 (.ref b)) Q E s := by
  have ty := IsTupleKey.typeIs hk
  obtain ⟨o, items, n, ho, _, hd, hi⟩ := hk
  have hp := parts pl hi
  unfold hashByValue
  refine wpAny_bind (wpAny_specialOf ty F.slot_tuple_hash.lookup ?_)
  show wpAny _ _ (seqItems? (.ref b) >>= _) _ _ s
  refine wpAny_bind (wpAny_seqItems ho hd ?_)
  refine wpAny_bind ?_
  show wpAny _ _ (forIn items _ _) _ _ s
  rw [← Array.forIn_toList]
  refine wpAny_forIn_list _ (fun rest r s2 => s2 = s ∧ ∀ v ∈ rest, v.scannable = true) _ (fun v rest r s2 hh => ?_) (fun r s2 hh => ?_) _ _ ⟨rfl, hp⟩
  · obtain ⟨rfl, h2⟩ := hh
    rw [hashByValue_scannable _ (h2 v List.mem_cons_self)]
    refine wpAny_bind (wpAny_pure ?_)
    cases plainKind v
    · simp only [Bool.not_false, if_true]
      exact wpAny_pure (show wpAny _ _ (pure false) _ _ _ from wpAny_pure (q false))
    · simp only [Bool.not_true, Bool.false_eq_true, if_false]
      exact wpAny_pure ⟨rfl, fun u hu => h2 u (List.mem_cons_of_mem _ hu)⟩
  · obtain ⟨rfl, _⟩ := hh
    obtain ⟨r1, r2⟩ := r
    cases r1 with
    | none => exact wpAny_pure (q true)
    | some r => exact wpAny_pure (q r)
end
section
variable {P : Program} {w : World} {κ : Type} [DecidableEq κ] {kn : KeyKind P w κ} {A : Around} {E : Value → Shared → Prop} {s : Shared}
/-- looking for a tuple among tuples shows nothing -/
theorem unseen (pl : Plain kn) {b : Addr} {k : List κ} {Q : Bool → Shared → Prop} (hk : TupAt kn s.heap (b, k)) {ys : List Value} (hy : ∀ y ∈ ys, ∃ p : Addr × List κ, y = Value.ref p.1 ∧ TupAt kn s.heap p) (q : Q false s) :
    wpAny (model P w) A (searchCouldBeSeen (.ref b) ys) Q E s := by
  unfold searchCouldBeSeen
  refine wpAny_bind ?_
  refine wpAny_forIn_list _ (fun rest r s2 => (r.1 = none ∧ s2 = s) ∧ ∀ y ∈ rest, ∃ p : Addr × List κ, y = Value.ref p.1 ∧ TupAt kn s.heap p) _ (fun v rest r s2 hh => ?_) (fun r s2 hh => ?_) _ _ ⟨⟨rfl, rfl⟩, hy⟩
  · obtain ⟨⟨h1, rfl⟩, h2⟩ := hh
    obtain ⟨p, rfl, hp⟩ := h2 v List.mem_cons_self
    have more : ∀ y ∈ rest, ∃ p : Addr × List κ, y = Value.ref p.1 ∧ TupAt kn s2.heap p := fun u hu => h2 u (List.mem_cons_of_mem _ hu)
    dsimp only
    cases c : (b == p.1 || (carriedByValue (.ref b) && carriedByValue (.ref p.1))) with
    | true =>
      refine wp_if_pos rfl ?_
      exact wpAny_pure ⟨⟨rfl, rfl⟩, more⟩
    | false =>
      refine wp_if_neg Bool.false_ne_true ?_
      refine wpAny_bind (wpAny_eqIsQuiet_tuple hk ?_)
      simp only [Bool.not_true, Bool.false_eq_true, if_false]
      refine wpAny_bind (wpAny_eqIsQuiet_tuple hp ?_)
      simp only [Bool.not_true, Bool.false_eq_true, if_false]
      refine wpAny_bind (no_class pl hk ?_)
      simp only [Bool.false_eq_true, if_false]
      refine wpAny_bind (no_class pl hp ?_)
      simp only [Bool.false_eq_true, if_false]
      exact wpAny_pure ⟨⟨rfl, rfl⟩, more⟩
  · obtain ⟨⟨h1, rfl⟩, _⟩ := hh
    obtain ⟨r1, r2⟩ := r
    have h1' : r1 = none := h1
    subst h1'
    exact wpAny_pure q
/-- an entry's row -/
def row (kn : KeyKind P w κ) (p : Addr × List κ) : Int × Value := (hsh kn p.2, .ref p.1)
/-- the set at a has the tuples L -/
structure Tb (kn : KeyKind P w κ) (h : Heap) (a : Addr) (L : List (Addr × List κ)) (es : Array (Int × Value)) (ep : Nat) (t : SetTable) : Prop where
  obj : ∃ o, h.get? a = some o ∧ o.ExactSet ∧ o.data = .set es ep t
  rows : es.toList = L.map (row kn)
  tab : TabOk t (L.map fun p => hsh kn p.2)
  one : (L.map Prod.snd).Nodup
  led : w.params.followText "set-order" = true ∨ t.led = true
  room : L.length * 5 < t.mask * 3
  few : L.length < 64
def All (kn : KeyKind P w κ) (h : Heap) (L : List (Addr × List κ)) : Prop := ∀ p ∈ L, TupAt kn h p
variable {a : Addr} {L : List (Addr × List κ)} {es : Array (Int × Value)} {ep : Nat} {t : SetTable}
theorem rows_len {L : List (Addr × List κ)} {es : Array (Int × Value)} (h : es.toList = L.map (row kn)) : es.size = L.length := by
  have e := congrArg List.length h
  rwa [Array.length_toList, List.length_map] at e
theorem tab_len {t : SetTable} {L : List (Addr × List κ)} (T : TabOk t (L.map fun p => hsh kn p.2)) : t.place.size = L.length := by
  have e := T.sz
  rwa [List.length_map] at e
theorem fits_of {t : SetTable} {n : Nat} (h1 : t.place.size = n) (h2 : t.dummies = #[]) (h3 : n ≤ t.mask) : t.fits n = true := by
  unfold SetTable.fits SetTable.fill
  rw [h2, h1, Bool.and_eq_true, beq_iff_eq, decide_eq_true_eq]
  exact ⟨rfl, h3⟩
theorem Tb.fit (R : Tb kn s.heap a L es ep t) : t.fits es.size = true := by
  rw [rows_len R.rows]
  have h := R.room
  exact fits_of (tab_len R.tab) R.tab.dm (by omega)
theorem row_at {L : List (Addr × List κ)} {es : Array (Int × Value)} (h : es.toList = L.map (row kn)) {i : Nat} {p : Addr × List κ} (hp : L[i]? = some p) : es[i]? = some (hsh kn p.2, Value.ref p.1) := by
  rw [← Array.getElem?_toList, h, List.getElem?_map, hp]; rfl
theorem undumb (m : Nat) : ∀ (n : Nat) (p : SetTable.Probe), p.dummy = none → (nth m p n).dummy = none
  | 0, _, h => h
  | n + 1, p, h => undumb m n (adv m p) (by unfold adv; split <;> exact h)
abbrev from0 (m : Nat) (h : Int) : SetTable.Probe := runAt m (SetTable.bits h % (m + 1)) (SetTable.bits h)
/-- the search for x, from step c of its way on -/
theorem seek (pl : Plain kn) (R : Tb kn s.heap a L es ep t) (R2 : All kn s.heap L) {x : Addr} {k : List κ} (hx : TupAt kn s.heap (x, k)) (hu : A.units < cLine) {n : Nat} (hn : n < 10 * SetTable.turns t.mask)
    (free : way t.mask (hsh kn k) n ∉ t.place.toList) (full : ∀ c, c < n → way t.mask (hsh kn k) c ∈ t.place.toList) {Q : SetFound → Shared → Prop} (yes : k ∈ L.map Prod.snd → Q (.there none) s)
    (no : k ∉ L.map Prod.snd → Q (.free (way t.mask (hsh kn k) n) false) s) :
    ∀ (f c : Nat) (stand : Option SetTable.Probe), stand.getD (t.probeStart (hsh kn k)) = nth t.mask (from0 t.mask (hsh kn k)) c → c ≤ n → n - c < f →
      (∀ (i : Nat) p, L[i]? = some p → p.2 = k → ∃ d, (c ≤ d ∧ d < n) ∧ t.place.toList[i]? = some (way t.mask (hsh kn k) d)) →
      wpAny (model P w) A (setSearchFrom a (.ref x) (hsh kn k) true f stand) Q E s := by
  intro f
  induction f with
  | zero => intro c stand _ _ z _; exact absurd z (Nat.not_lt_zero _)
  | succ f ih =>
    intro c stand hs hc hf left
    obtain ⟨o, ho, _, hd⟩ := R.obj
    have gw : ¬ t.gaveWay = true := by
      unfold SetTable.gaveWay
      rw [mask_odd R.tab.mok]; decide
    have shift : ∀ q, nth t.mask (nth t.mask (from0 t.mask (hsh kn k)) c) q = nth t.mask (from0 t.mask (hsh kn k)) (c + q) := fun q => (nth_add t.mask c _ q).symm
    have wj : ∀ q, (nth t.mask (nth t.mask (from0 t.mask (hsh kn k)) c) q).j = way t.mask (hsh kn k) (c + q) := fun q => congrArg SetTable.Probe.j (shift q)
    have hcn : c + (n - c) = n := by omega
    have at_ : ∀ (i : Nat) p, L[i]? = some p → ((es[i]?.map (·.1)).getD 0 : Int) = hsh kn p.2 := fun i p hp => by rw [row_at R.rows hp]; rfl
    rw [setSearchFrom_succ]
    refine wpAny_bind (wpAny_setState_of ho hd R.fit ?_)
    dsimp only
    refine wp_if_neg gw ?_
    try refine wpAny_bind (wpAny_pure ?_)
    rcases go_spec t R.tab.ris R.tab.dm (fun i => (es[i]?.map (·.1)).getD 0) (hsh kn k) (10 * SetTable.turns t.mask) (n - c) _ (undumb t.mask c _ rfl) (by omega) (fun q hq => by rw [wj]; exact full _ (by omega)) (by rw [wj, hcn]; exact free) with ⟨q, i, hq, hi, hh, nb, pr⟩ | ⟨nb, pr⟩
    · have pr2 : t.probe (fun i => (es[i]?.map (·.1)).getD 0) (hsh kn k) (stand.getD (t.probeStart (hsh kn k))) = some (.candidate (way t.mask (hsh kn k) (c + q)) i (nth t.mask (from0 t.mask (hsh kn k)) (c + (q + 1)))) := by
        rw [hs, ← wj, ← shift]; exact pr
      rw [pr2]
      dsimp only
      rw [wj] at hi
      have hil : i < L.length := by
        have h1 := (List.getElem?_eq_some_iff.mp hi).1
        rw [Array.length_toList, tab_len R.tab] at h1
        exact h1
      obtain ⟨p, hp⟩ : ∃ p, L[i]? = some p := ⟨_, List.getElem?_eq_getElem hil⟩
      have hpL := List.mem_of_getElem? hp
      have live : t.slot (way t.mask (hsh kn k) (c + q)) = .live i := slot_live R.tab.ris hi
      have cand : wpAny (model P w) A (searchRest a (.ref x) (hsh kn k) true f es t (way t.mask (hsh kn k) (c + q)) i (nth t.mask (from0 t.mask (hsh kn k)) (c + (q + 1)))) Q E s := by
        unfold searchRest
        rw [row_at R.rows hp]
        dsimp only
        refine wpAny_bind (wpAny_holding (wpAny_eqBool_tuple hu (R2 p hpL) hx ?_))
        refine wpAny_bind (wpAny_setState_of ho hd R.fit ?_)
        dsimp only
        by_cases same : p.2 = k
        · refine wp_if_pos (by simp [same]) (wpAny_pure (yes ?_))
          exact List.mem_map.mpr ⟨p, hpL, same⟩
        · refine wp_if_neg (by simp [same]) ?_
          try refine wpAny_bind (wpAny_pure ?_)
          rw [L2.sameMem]
          dsimp only
          simp only [if_true, live, row_at R.rows hp]
          refine wpAny_bind (wpAny_isSame_ref_self (wpAny_bind (wpAny_pure ?_)))
          simp only [if_true]
          refine wp_if_neg (by simp [same]) ?_
          refine ih (c + (q + 1)) _ rfl (by omega) (by omega) fun i2 p2 h2 hk2 => ?_
          obtain ⟨d, ⟨d1, d2⟩, d3⟩ := left i2 p2 h2 hk2
          refine ⟨d, ⟨?_, d2⟩, d3⟩
          rcases Nat.lt_trichotomy d (c + q) with z | z | z
          · refine absurd ((at_ i2 p2 h2).trans (congrArg (hsh kn) hk2)) (nb (d - c) i2 (by omega) ?_)
            rw [wj, show c + (d - c) = d by omega]; exact d3
          · rw [z] at d3
            have e := (slot_live R.tab.ris d3).symm.trans live
            injection e with e
            rw [e, hp] at h2
            exact absurd ((congrArg Prod.snd (Option.some.inj h2)).trans hk2) same
          · omega
      cases hl : t.led with
      | true =>
        refine wp_if_neg (by simp) ?_
        try refine wpAny_bind (wpAny_pure ?_)
        exact cand
      | false =>
        refine wp_if_pos (by simp) ?_
        refine wpAny_bind (unseen pl hx (fun y hy => ?_) ?_)
        · obtain ⟨e, he, rfl⟩ := List.mem_map.mp hy
          have he2 : e ∈ es.toList := by
            have h3 : e ∈ es ∧ e.1 = hsh kn k := by simpa using he
            simpa using h3.1
          rw [R.rows] at he2
          obtain ⟨p2, hp2, rfl⟩ := List.mem_map.mp he2
          exact ⟨p2, rfl, R2 p2 hp2⟩
        · refine wp_if_neg (by decide) ?_
          try refine wpAny_bind (wpAny_pure ?_)
          exact cand
    · have pr2 : t.probe (fun i => (es[i]?.map (·.1)).getD 0) (hsh kn k) (stand.getD (t.probeStart (hsh kn k))) = some (.empty (way t.mask (hsh kn k) n) none) := by
        have e : way t.mask (hsh kn k) n = (nth t.mask (nth t.mask (from0 t.mask (hsh kn k)) c) (n - c)).j := by rw [wj, hcn]
        rw [hs, e]; exact pr
      rw [pr2]
      dsimp only
      refine wpAny_pure (no fun hm => ?_)
      obtain ⟨p2, h2, hk2⟩ := List.mem_map.mp hm
      obtain ⟨i2, hi2⟩ := List.mem_iff_getElem?.mp h2
      obtain ⟨d, ⟨d1, d2⟩, d3⟩ := left i2 p2 hi2 hk2
      refine absurd ((at_ i2 p2 hi2).trans (congrArg (hsh kn) hk2)) (nb (d - c) i2 (by omega) ?_)
      rw [wj, show c + (d - c) = d by omega]; exact d3
theorem seek0 (pl : Plain kn) (R : Tb kn s.heap a L es ep t) (R2 : All kn s.heap L) {x : Addr} {k : List κ} (hx : TupAt kn s.heap (x, k)) (hu : A.units < cLine) {Q : SetFound → Shared → Prop} (yes : k ∈ L.map Prod.snd → Q (.there none) s)
    (no : ∀ n, k ∉ L.map Prod.snd → way t.mask (hsh kn k) n ∉ t.place.toList → (∀ c, c < n → way t.mask (hsh kn k) c ∈ t.place.toList) → Q (.free (way t.mask (hsh kn k) n) false) s) :
    wpAny (model P w) A (setSearch a (.ref x) (hsh kn k) true) Q E s := by
  have hr := R.room
  obtain ⟨n, hn, h1, h2⟩ := R.tab.first (by rw [List.length_map]; omega) (hsh kn k)
  have small : n < 100000 := by
    have : SetTable.turns t.mask ≤ 142 := by
      unfold SetTable.turns
      rcases R.tab.mok with e | e | e <;> omega
    omega
  unfold setSearch
  refine seek pl R R2 hx hu hn h1 h2 yes (fun c => no n c h1 h2) 100000 0 none rfl (Nat.zero_le _) (by omega) fun i p hp hk => ?_
  have hi : (L.map fun p => hsh kn p.2)[i]? = some (hsh kn k) := by rw [List.getElem?_map, hp, ← hk]; rfl
  have hil : i < t.place.toList.length := by
    rw [Array.length_toList, tab_len R.tab]
    exact (List.getElem?_eq_some_iff.mp hp).1
  have hj := List.getElem?_eq_getElem hil
  obtain ⟨d, hd, e⟩ := R.tab.before h1 hi hj
  exact ⟨d, ⟨Nat.zero_le _, hd⟩, by rw [hj, e]⟩
end
section
variable {P : Program} {w : World} {κ : Type} [DecidableEq κ] {kn : KeyKind P w κ} {A : Around} {E : Value → Shared → Prop} {s : Shared}
theorem tup_but {h h' : Heap} {p : Addr × List κ} {a : Addr} {o : Obj} {es : Array (Int × Value)} {ep : Nat} {t : SetTable} (hp : TupAt kn h p) (ho : h.get? a = some o) (hd : o.data = .set es ep t) (hs : Heap.SameBut a h h') : TupAt kn h' p := by
  obtain ⟨o2, its, n, ho2, hc, hd2, hi⟩ := hp
  have ne : p.1 ≠ a := fun e => by
    rw [e, ho] at ho2
    rw [← Option.some.inj ho2, hd] at hd2
    exact nomatch hd2
  exact ⟨o2, its, n, (hs.2 p.1 ne).trans ho2, hc, hd2, hi⟩
theorem tup_keep {h h' : Heap} {p : Addr × List κ} (hp : TupAt kn h p) (hk : ∀ c o, h.get? c = some o → h'.get? c = some o) : TupAt kn h' p := by
  obtain ⟨o2, its, n, ho2, r⟩ := hp
  exact ⟨o2, its, n, hk _ _ ho2, r⟩
theorem mid_perm {α : Type} (L : List α) (p : Nat) (x : α) : (L.take p ++ x :: L.drop p).Perm (x :: L) := by
  have h := List.perm_middle (a := x) (l₁ := L.take p) (l₂ := L.drop p)
  rwa [List.take_append_drop] at h
theorem map_mid {α β : Type} (f : α → β) (L : List α) (p : Nat) (x : α) : (L.take p ++ x :: L.drop p).map f = (L.map f).take p ++ f x :: (L.map f).drop p := by
  rw [List.map_append, List.map_cons, List.map_take, List.map_drop]
/-- the rows in another order -/
theorem reorder {L : List (Addr × List κ)} {es : Array (Int × Value)} {order : Array Nat} (hr : es.toList = L.map (row kn)) (hp : order.toList.Perm (List.range L.length)) :
    ∃ M : List (Addr × List κ), (order.filterMap (es[·]?)).toList = M.map (row kn) ∧ M.Perm L ∧ (M.map fun p => hsh kn p.2) = order.toList.map fun i => (es.map (·.1)).getD i 0 := by
  have each : ∀ l : List Nat, (∀ i ∈ l, i < L.length) → l.filterMap (fun i => es[i]?) = (l.filterMap fun i => L[i]?).map (row kn) ∧ ((l.filterMap fun i => L[i]?).map fun p => hsh kn p.2) = l.map fun i => (es.map (·.1)).getD i 0 := by
    intro l
    induction l with
    | nil => intro _; exact ⟨rfl, rfl⟩
    | cons i l ih =>
      intro hl
      obtain ⟨e1, e2⟩ := ih fun j hj => hl j (List.mem_cons_of_mem _ hj)
      have hi := hl i List.mem_cons_self
      obtain ⟨p, hp⟩ : ∃ p, L[i]? = some p := ⟨_, List.getElem?_eq_getElem hi⟩
      have hrow := row_at hr hp
      rw [List.filterMap_cons_some hrow, List.filterMap_cons_some hp, List.map_cons, List.map_cons, List.map_cons, e1, e2]
      refine ⟨rfl, ?_⟩
      have e3 : (es.map (·.1))[i]? = some (hsh kn p.2) := by rw [Array.getElem?_map, hrow]; rfl
      have e4 : (es.map (·.1)).getD i 0 = hsh kn p.2 := by simp [Array.getD_eq_getD_getElem?, e3]
      rw [e4]
  obtain ⟨e1, e2⟩ := each order.toList fun i hi => List.mem_range.mp (hp.mem_iff.mp hi)
  refine ⟨_, by first | (rw [Array.toList_filterMap]; exact e1) | simpa using e1, ?_, e2⟩
  have all : (List.range L.length).filterMap (fun i => L[i]?) = L := by
    have z : ∀ n, n ≤ L.length → (List.range n).filterMap (fun i => L[i]?) = L.take n := by
      intro n
      induction n with
      | zero => intro _; rfl
      | succ n ih =>
        intro hn
        rw [List.range_succ, List.filterMap_append, ih (Nat.le_of_lt hn), List.take_succ, List.getElem?_eq_getElem hn, List.filterMap_cons_some (List.getElem?_eq_getElem hn)]; rfl
    rw [z _ (Nat.le_refl _), List.take_length]
  have h := hp.filterMap fun i => L[i]?
  rwa [all] at h
variable {a : Addr} {L : List (Addr × List κ)} {es : Array (Int × Value)} {ep : Nat} {t : SetTable}
/-- a larger table -/
theorem larger {o : Obj} (ho : s.heap.get? a = some o) (hx : o.ExactSet) (hd : o.data = .set es ep t) (rows : es.toList = L.map (row kn)) (sz : t.place.size = es.size) (dm : t.dummies = #[]) (fl : es.size ≤ t.mask)
    (one : (L.map Prod.snd).Nodup) (led : w.params.followText "set-order" = true ∨ t.led = true) (few : L.length < 64) {wanted M : Nat}
    (hw : SetTable.sizeAbove wanted - 1 = M) (hM : MaskOk M) (hw2 : SetTable.sizeAbove wanted ≤ 128) (room : L.length * 5 < M * 3) {Q : Unit → Shared → Prop}
    (q : ∀ h' L' es' ep' t', Heap.SameBut a s.heap h' → Tb kn h' a L' es' ep' t' → L'.Perm L → Q () { s with heap := h' }) : wpAny (model P w) A (setRelay a wanted) Q E s := by
  have hn := rows_len rows
  obtain ⟨t2, order, e, hp, T, em, el, _, _⟩ := relaid_ok t (hs := es.map (·.1)) (wanted := wanted) hw hM (by rw [Array.size_map, hn]; omega)
  rw [Array.size_map, hn] at hp
  obtain ⟨N, r1, r2, r3⟩ := reorder rows hp
  rw [← r3] at T
  have hz : (order.filterMap (es[·]?)).size = es.size := by rw [rows_len r1, r2.length_eq, hn]
  rw [setRelay_eq]
  refine wpAny_bind (wpAny_setState_of ho hd (fits_of sz dm fl) ?_)
  dsimp only
  refine wp_if_neg (by rw [sizeLine_eq]; omega) ?_
  try refine wpAny_bind (wpAny_pure ?_)
  rw [e]
  dsimp only
  refine wpAny_bind ?_
  refine wp_if_neg (by rw [hz]; simp) ?_
  try refine wpAny_bind (wpAny_pure ?_)
  refine wpAny_pure ?_
  dsimp only
  refine wpAny_storeSet_of ho hd ?_ (by rw [hz, hn, sizeLine_eq]; omega)
  have but : Heap.SameBut a s.heap (s.heap.update a (Obj.putSet (order.filterMap (es[·]?)) t2)) := Heap.SameBut.update ..
  refine q _ N _ (ep + 1) t2 but ⟨⟨_, store_at ho hd, ⟨hx.1, hx.2.1, hx.2.2⟩, rfl⟩, r1, T, (r2.map Prod.snd).nodup_iff.mpr one, by rw [el]; exact led, by rw [r2.length_eq, em]; exact room, by rw [r2.length_eq]; exact few⟩ r2
theorem plain_off {t : SetTable} {hs : List Int} (T : TabOk t hs) : TabOk { t with plain := false } hs := ⟨T.ris, T.dm, T.sz, T.mok, T.bd, T.reach⟩
/-- one tuple put in -/
theorem adding (pl : Plain kn) (R : Tb kn s.heap a L es ep t) (R2 : All kn s.heap L) {x : Addr} {k : List κ} (hx : TupAt kn s.heap (x, k)) (hu : A.units < cLine) (few : L.length + 1 < 64) {Q : Bool → Shared → Prop}
    (q : ∀ b h' L' es' ep' t', Heap.SameBut a s.heap h' → Tb kn h' a L' es' ep' t' → (L' = L ∧ k ∈ L.map Prod.snd ∨ L'.Perm ((x, k) :: L)) → Q b { s with heap := h' }) :
    wpAny (model P w) A (setAddHashed a (.ref x) (hsh kn k)) Q E s := by
  obtain ⟨o, ho, hex, hd⟩ := R.obj
  have hn := rows_len R.rows
  have hroom := R.room
  unfold setAddHashed
  refine wpAny_holding ?_
  rw [show (100000 : Nat) = 99999 + 1 from rfl, setAddHashedIn_succ]
  refine wpAny_bind (wpAny_setState_of ho hd R.fit ?_)
  dsimp only
  refine wp_if_neg (by simp [byScan, Value.scannable]) ?_
  try refine wpAny_bind (wpAny_pure ?_)
  refine wpAny_bind (seek0 pl R R2 hx hu (fun hm => ?_) fun n hm free full => ?_)
  · dsimp only
    exact wpAny_pure (q false s.heap L es ep t (Heap.SameBut.refl a s.heap) R (.inl ⟨rfl, hm⟩))
  dsimp only
  refine wpAny_bind (wpAny_setState_of ho hd R.fit ?_)
  dsimp only
  obtain ⟨q1, q2, q3, q4, q5, _, _, _, q9⟩ := R.tab.put free full
  generalize t.put (way t.mask (hsh kn k) n) = pt at q1 q3 q4 q5 q9 ⊢
  obtain ⟨t0, p0⟩ := pt
  dsimp only at q1 q3 q4 q5 q9 ⊢
  subst q1
  generalize SetTable.below t.place (way t.mask (hsh kn k) n) = p at q2 q3 ⊢
  -- whatever the table is called now
  have fin : ∀ t1 : SetTable, TabOk t1 ((L.map fun p => hsh kn p.2).take p ++ hsh kn k :: (L.map fun p => hsh kn p.2).drop p) → t1.mask = t.mask → t1.led = t.led → t1.fill = (L.map fun p => hsh kn p.2).length + 1 →
      wpAny (model P w) A (do
        storeSet a (SetTable.insertAt es p (hsh kn k, .ref x)) t1
        if !false && t1.tooFull then setRelay a (SetTable.grown (es.size + 1))
        return true) Q E s := by
    intro t1 T1 em el ef
    have hins : (SetTable.insertAt es p (hsh kn k, Value.ref x)).toList = (L.take p ++ (x, k) :: L.drop p).map (row kn) := by
      rw [SetTable.toList_insertAt, map_mid, R.rows]; rfl
    have pm := mid_perm L p (x, k)
    have hlen : (L.take p ++ (x, k) :: L.drop p).length = L.length + 1 := pm.length_eq
    have T2 : TabOk t1 ((L.take p ++ (x, k) :: L.drop p).map fun p => hsh kn p.2) := by rw [map_mid]; exact T1
    have one1 : ((L.take p ++ (x, k) :: L.drop p).map Prod.snd).Nodup := by
      refine (pm.map Prod.snd).nodup_iff.mpr ?_
      rw [List.map_cons]
      exact List.nodup_cons.mpr ⟨hm, R.one⟩
    have hsz := rows_len hins
    rw [hlen] at hsz
    generalize SetTable.insertAt es p (hsh kn k, Value.ref x) = es1 at hins hsz ⊢
    generalize L.take p ++ (x, k) :: L.drop p = L1 at pm hlen T2 one1 hins
    refine wpAny_bind (wpAny_storeSet_of ho hd ?_ (by rw [hsz, sizeLine_eq]; omega))
    have but : Heap.SameBut a s.heap (s.heap.update a (Obj.putSet es1 t1)) := Heap.SameBut.update ..
    have ho1 := store_at (es' := es1) (t' := t1) ho hd
    generalize s.heap.update a (Obj.putSet es1 t1) = h1 at but ho1 ⊢
    have led1 : w.params.followText "set-order" = true ∨ t1.led = true := by rw [el]; exact R.led
    cases full1 : t1.tooFull with
    | true =>
      have hb : (L.length + 1) * 5 ≥ t.mask * 3 := by
        have h := full1
        unfold SetTable.tooFull at h
        rw [decide_eq_true_eq, ef, em, List.length_map] at h
        exact h
      have two : (t.mask = 7 ∧ L.length = 4) ∨ (t.mask = 31 ∧ L.length = 18) := by
        rcases R.tab.mok with e | e | e <;> rw [e] at hb hroom
        · exact .inl ⟨e, by omega⟩
        · exact .inr ⟨e, by omega⟩
        · exfalso; omega
      have go : ∀ M, SetTable.sizeAbove (SetTable.grown (es.size + 1)) - 1 = M → MaskOk M → SetTable.sizeAbove (SetTable.grown (es.size + 1)) ≤ 128 → (L.length + 1) * 5 < M * 3 →
          wpAny (model P w) A (setRelay a (SetTable.grown (es.size + 1))) (fun _ s' => wpAny (model P w) A (pure true) Q E s') E { s with heap := h1 } := fun M g1 g2 g3 g4 => by
        refine larger (s := { s with heap := h1 }) ho1 ⟨hex.1, hex.2.1, hex.2.2⟩ rfl hins (by rw [tab_len T2, hsz, hlen]) T2.dm (by rw [hsz, em]; omega) one1 led1 (by rw [hlen]; exact few) g1 g2 g3 (by rw [hlen]; exact g4) ?_
        intro h2 L2 es2 ep2 t2 but2 R3 pm2
        exact wpAny_pure (q true h2 L2 es2 ep2 t2 (but.trans but2) R3 (.inr (pm2.trans pm)))
      first
        | (refine wpAny_bind ?_; refine wp_if_pos (by simp) ?_)
        | (refine wp_if_pos (by simp) ?_; refine wpAny_bind ?_)
      rcases two with ⟨_, e2⟩ | ⟨_, e2⟩
      · exact go 31 (by rw [hn, e2, size_20]) (.inr (.inl rfl)) (by rw [hn, e2, size_20]; decide) (by omega)
      · exact go 127 (by rw [hn, e2, size_76]) (.inr (.inr rfl)) (by rw [hn, e2, size_76]; decide) (by omega)
    | false =>
      first
        | refine wp_if_neg (by simp) ?_
        | (refine wpAny_bind ?_; refine wp_if_neg (by simp) ?_; refine wpAny_pure ?_)
      refine wpAny_pure (q true h1 L1 es1 (ep + 1) t1 but ⟨⟨_, ho1, ⟨hex.1, hex.2.1, hex.2.2⟩, rfl⟩, hins, T2, one1, led1, ?_, by rw [hlen]; exact few⟩ (.inr pm))
      have h := full1
      unfold SetTable.tooFull at h
      rw [decide_eq_false_iff_not, ef, em, List.length_map] at h
      rw [hlen, em]
      omega
  by_cases hpl : t0.plain = true
  · first
      | (refine wpAny_bind ?_; refine wp_if_pos hpl ?_; refine by_value pl hx fun r => ?_)
      | (refine wp_if_pos hpl ?_; refine wpAny_bind (by_value pl hx fun r => ?_))
    cases r with
    | true => simp only [if_true]; exact fin t0 q3 q4 q5 q9
    | false => simp only [Bool.false_eq_true, if_false]; exact fin _ (plain_off q3) q4 q5 q9
  · first
      | (refine wpAny_bind ?_; refine wp_if_neg hpl ?_; refine wpAny_pure ?_)
      | (refine wp_if_neg hpl ?_; refine wpAny_bind (wpAny_pure ?_))
    simp only [if_true]; exact fin t0 q3 q4 q5 q9
end
section
variable {P : Program} {w : World} {κ : Type} [DecidableEq κ] {kn : KeyKind P w κ} {A : Around} {E : Value → Shared → Prop} {s : Shared}
/-- L has what the first i of ks are, each once -/
structure Has (ks : List (Addr × List κ)) (i : Nat) (L : List (Addr × List κ)) : Prop where
  from_ : ∀ p ∈ L, p ∈ ks
  all : ∀ p ∈ ks.take i, p.2 ∈ L.map Prod.snd
  len : L.length ≤ i
theorem has_next {ks L L' : List (Addr × List κ)} {i : Nat} {x : Addr × List κ} (g : Has ks i L) (h : ks[i]? = some x) (c : (L' = L ∧ x.2 ∈ L.map Prod.snd) ∨ L'.Perm (x :: L)) : Has ks (i + 1) L' := by
  have tk : ks.take (i + 1) = ks.take i ++ [x] := by rw [List.take_succ, h]; rfl
  rcases c with ⟨rfl, hm⟩ | pm
  · refine ⟨g.from_, fun p hp => ?_, Nat.le_succ_of_le g.len⟩
    rw [tk] at hp
    rcases List.mem_append.mp hp with z | z
    · exact g.all p z
    · rw [List.mem_singleton.mp z]; exact hm
  · refine ⟨fun p hp => ?_, fun p hp => ?_, by rw [pm.length_eq]; exact Nat.succ_le_succ g.len⟩
    · rcases List.mem_cons.mp (pm.mem_iff.mp hp) with e | z
      · rw [e]; exact List.mem_of_getElem? h
      · exact g.from_ p z
    · rw [(pm.map Prod.snd).mem_iff, List.map_cons, List.mem_cons]
      rw [tk] at hp
      rcases List.mem_append.mp hp with z | z
      · exact .inr (g.all p z)
      · exact .inl (congrArg Prod.snd (List.mem_singleton.mp z))
theorem tb_keep {h h' : Heap} {a : Addr} {L : List (Addr × List κ)} {es : Array (Int × Value)} {ep : Nat} {t : SetTable} (R : Tb kn h a L es ep t) (k : ∀ o, h.get? a = some o → h'.get? a = some o) : Tb kn h' a L es ep t := by
  obtain ⟨o, ho, r⟩ := R.obj
  exact ⟨⟨o, k o ho, r⟩, R.rows, R.tab, R.one, R.led, R.room, R.few⟩
theorem tb_new {h : Heap} {a : Addr} (ho : h.get? a = some (DP.newSet w)) : Tb kn h a [] #[] 0 (.fresh 0 0 (!w.params.followText "set-order")) where
  obj := ⟨_, ho, ⟨rfl, rfl, rfl⟩, rfl⟩
  rows := rfl
  tab := ⟨.nil, rfl, rfl, .inl rfl, fun x h => (by cases h), fun i h j e => (by simp at e)⟩
  one := .nil
  led := by
    cases e : w.params.followText "set-order" with
    | true => exact .inl rfl
    | false => exact .inr rfl
  room := (by decide : 0 * 5 < 7 * 3)
  few := (by decide : 0 < 64)
/-- the loop of set.update over a list of tuples -/
theorem filling (pl : Plain kn) {I : Addr} {fp wr : List Addr} {G : Array GenState → Array GenState → Prop} {n : Nat} {Pv : Nat → Value → Prop} {St : Nat → Shared → Prop} {R : Result → Shared → Prop}
    (W : WalksS P w A.in1 I fp wr G n Pv St) {S : Addr} (hSf : S ∉ fp) {ks : List (Addr × List κ)} (few : ks.length < 64) (val : ∀ i v, Pv i v → ∃ p, ks[i]? = some p ∧ v = .ref p.1)
    {h0 : Heap} (hk : All kn h0 ks) (hS0 : h0.get? S = none) (hw0 : ∀ b ∈ wr, h0.get? b = none) (hu : A.in1.units < cLine)
    (q : ∀ s1 s' L es ep t, Moved (S :: wr) G s1 s' → Tb kn s'.heap S L es ep t → Has ks n L → (∀ b o, h0.get? b = some o → s'.heap.get? b = some o) → s1 = s → R (.ok (.ret .none)) s') :
    ∀ (j i : Nat) (s2 : Shared), n - i = j → i ≤ n → St i s2 → (∀ b o, h0.get? b = some o → s2.heap.get? b = some o) → (∃ L es ep t, Tb kn s2.heap S L es ep t ∧ Has ks i L) → (i = 0 → s2 = s) → (i ≠ 0 → Moved (S :: wr) G s s2) →
      codeAny (model P w) A (.builtin "set.update.loop" ⟨[.ref S, .ref I], []⟩) R s2 := by
  have hSw : S ∉ wr := fun h => hSf (W.sub _ h)
  have inS : ∀ b ∈ wr, b ∈ S :: wr := fun b hb => List.mem_cons_of_mem _ hb
  have still : ∀ {x y : Shared}, Moved wr G x y → (∀ b o, h0.get? b = some o → x.heap.get? b = some o) → ∀ b o, h0.get? b = some o → y.heap.get? b = some o := fun m k b o e => m.heap b o (fun hb => by rw [hw0 b hb] at e; cases e) (k b o e)
  have join : ∀ {i : Nat} {x y : Shared}, (i = 0 → x = s) → (i ≠ 0 → Moved (S :: wr) G s x) → Moved (S :: wr) G x y → Moved (S :: wr) G s y := fun {i x y} e0 e1 m => by
    by_cases c : i = 0
    · rw [← e0 c]; exact m
    · exact Moved.trans W.gtrans (e1 c) m
  intro j
  induction j with
  | zero =>
    intro i s2 hj hi hst kp ⟨L, es, ep, t, T, g⟩ e0 e1
    have hin : i = n := by omega
    subst hin
    refine codeAny_builtin F.entry_set_update_loop ?_
    rw [Around.under_plainId F.plain_set_update_loop _]
    show wpAny _ A.in1 (pyNext (.ref I) >>= _) _ _ s2
    refine wpAny_bind (W.done s2 _ _ hst fun s3 m => ?_)
    exact wpAny_pure (q s s3 L es ep t (join e0 e1 (m.mono inS)) (tb_keep T fun o e => m.heap S o hSw e) g (still m kp) rfl)
  | succ j ih =>
    intro i s2 hj hi hst kp ⟨L, es, ep, t, T, g⟩ e0 e1
    have hlt : i < n := by omega
    refine codeAny_builtin F.entry_set_update_loop ?_
    rw [Around.under_plainId F.plain_set_update_loop _]
    show wpAny _ A.in1 (pyNext (.ref I) >>= _) _ _ s2
    refine wpAny_bind (W.item i s2 _ _ hlt hst fun v s3 hP hst3 m => ?_)
    obtain ⟨p, hp, rfl⟩ := val i v hP
    have kp3 := still m kp
    have T3 : Tb kn s3.heap S L es ep t := tb_keep T fun o e => m.heap S o hSw e
    have hx : TupAt kn s3.heap p := tup_keep (hk p (List.mem_of_getElem? hp)) kp3
    have hL : All kn s3.heap L := fun r hr => tup_keep (hk r (g.from_ r hr)) kp3
    show wpAny _ A.in1 (holding [Value.ref p.1] (setAdd S (.ref p.1)) >>= _) _ _ s3
    refine wpAny_bind (wpAny_holding ?_)
    unfold setAdd
    refine wpAny_holding (wpAny_bind (wpAny_pyHash_tuple hu hx ?_))
    have hlen := (List.getElem?_eq_some_iff.mp hp).1
    refine adding (s := { s3 with toks := s3.toks + (p.2.length + 1) }) pl T3 hL hx hu (by have := g.len; omega) fun b h4 L4 es4 ep4 t4 but T4 c => ?_
    have keepB : ∀ b o, b ≠ S → s3.heap.get? b = some o → h4.get? b = some o := fun b o hb e => (but.2 b hb).trans e
    refine wpAny_pure ⟨plainId_quiet F.plain_set_update_loop _, ih (i + 1) _ (by omega) hlt (W.frame _ s3 _ _ hst3 (Nat.le_add_right _ _) fun b hb o e => keepB b o (fun e2 => hSf (e2 ▸ hb)) e) (fun b o e => keepB b o (fun z => by rw [z, hS0] at e; cases e) (kp3 b o e)) ⟨L4, es4, ep4, t4, T4, has_next g hp c⟩ (fun z => absurd z (Nat.succ_ne_zero _)) fun _ => ?_⟩
    exact join e0 e1 ((m.mono inS).then_heap (Nat.le_add_right _ _) fun b o hb e => keepB b o (fun z => hb (z ▸ List.mem_cons_self)) e)
/-- set(xs) -/
theorem set_made (pl : Plain kn) {l : Addr} {its : Array Value} (ks : List (Addr × List κ)) {Q : Value → Shared → Prop} (hh : A.handled = none) (hl : s.heap.IsList l its) (hit : its.toList = ks.map fun p => Value.ref p.1)
    (hk : All kn s.heap ks) (few : ks.length < 64) (hu : A.units + 3 < cLine)
    (q : ∀ (h' : Heap) (tk : Nat) L es ep t, Tb kn h' s.heap.objs.size L es ep t → Has ks ks.length L → (∀ b o, s.heap.get? b = some o → h'.get? b = some o) → Q (.ref s.heap.objs.size) { s with heap := h', toks := tk }) :
    wpAny (model P w) A (call (.type "set") [.ref l]) Q E s := by
  have hz : its.size = ks.length := by
    have e := congrArg List.length hit
    rwa [Array.length_toList, List.length_map] at e
  have C := F.called_set
  obtain ⟨c, tl, hmro⟩ := C.mro
  have hmade := C.made; have hsub := C.sub
  refine wpAny_call (codeAny_of_tree ?_)
  show wpAny _ _ (callAny (.type "set") _) _ _ _
  refine wpAny_pure ⟨Code.quiet_builtin _ (by decide +kernel), codeAny_builtin F.entry_type_call ?_⟩
  rw [Around.under_plain (weight_type_call_type "set" [.ref l] []) rfl]
  have h1 := C.notType; have h2 := C.canCreate
  have hct := F.typeCall_set_1 (.ref l)
  repeat (any_goals (first | assumption | wp_step))
  refine codeAny_mono (code_set_led1 (.ref l) (E := E) (Q₁ := fun obj s₁ => obj = .ref s.heap.objs.size ∧ s₁ = { s with heap := s.heap.push (DP.newSet w) }) ⟨rfl, rfl⟩) fun r s₁ hr => ?_
  cases r with
  | error e => exact hr
  | ok fl =>
  cases fl with
  | ret obj =>
    obtain ⟨rfl, rfl⟩ := hr
    have hS : (s.heap.push (DP.newSet w)).get? s.heap.objs.size = some (DP.newSet w) := Heap.get?_push_size _ rfl
    have hT : Shared.TypeIs { s with heap := s.heap.push (DP.newSet w) } (.ref s.heap.objs.size) "set" := ⟨_, hS, rfl⟩
    have hli := C.init.lookup; have hbi := C.init.bind (.ref s.heap.objs.size)
    repeat (any_goals (first | assumption | wp_step))
    refine codeAny_mono (codeAny_call_builtin (R := wants (fun r s₂ => r = .none ∧ ∃ h' tk L es ep t, s₂ = { s with heap := h', toks := tk } ∧ Tb kn h' s.heap.objs.size L es ep t ∧ Has ks ks.length L ∧ ∀ b o, s.heap.get? b = some o → h'.get? b = some o) E) C.init.plain F.entry_set_init (check_set_init_1 hT ?_)) fun r₂ s₂ hr₂ => ?_
    · obtain ⟨⟨ocls, odict, odata, oslots⟩, hol, hcl, nl, hdl⟩ := hl
      simp only at hcl hdl
      subst hcl hdl
      have hol' : (s.heap.push (DP.newSet w)).get? l = some { cls := .type "list", dict := odict, data := .seq its nl, slots := oslots } := Heap.get?_push_of_some _ hol
      have hsls := F.sub_list_set; have hslf := F.sub_list_frozenset
      have hne : (Value.type "list" == Value.type "dict") = false := by decide
      have hl1 : (s.heap.push (DP.newSet w)).IsList l its := ⟨_, hol', rfl, nl, rfl⟩
      unfold Builtin.«set.__init__» noKeywords Builtin.Frozenset.updateFrom
      generalize hPI : pyIter = PI
      wp_walk
      subst hPI
      refine wpAny_pyIter_list hl1 (wpAny_bind (wpAny_runValue ?_))
      have hlS : l < s.heap.objs.size := Heap.lt_size hol
      have hh3 : A.in1.in1.in1.handled = none := by simp [hh]
      have sz : (s.heap.push (DP.newSet w)).objs.size = s.heap.objs.size + 1 := Heap.size_push ..
      have neI : l ≠ (s.heap.push (DP.newSet w)).objs.size := by rw [sz]; exact Nat.ne_of_lt (Nat.lt_succ_of_lt hlS)
      have hSf : s.heap.objs.size ∉ [(s.heap.push (DP.newSet w)).objs.size, l] := by
        rw [sz]; simp only [List.mem_cons, List.not_mem_nil, or_false, not_or]; exact ⟨Nat.ne_of_lt (Nat.lt_succ_self _), Nat.ne_of_gt hlS⟩
      have val : ∀ (i : Nat) (v : Value), its[i]? = some v → ∃ p, ks[i]? = some p ∧ v = .ref p.1 := fun i v hv => by
        have e : its.toList[i]? = some v := by rw [Array.getElem?_toList]; exact hv
        rw [hit, List.getElem?_map, Option.map_eq_some_iff] at e
        obtain ⟨p, e1, e2⟩ := e
        exact ⟨p, e1, e2.symm⟩
      have gone : ∀ b, s.heap.objs.size ≤ b → s.heap.get? b = none := fun b hb => by
        cases e : s.heap.get? b with
        | none => rfl
        | some o => exact absurd (Heap.lt_size e) (Nat.not_lt.mpr hb)
      refine filling pl ((Walks.list hh3 _ l neI its).toS) hSf few val hk (gone _ (Nat.le_refl _)) (fun b hb => gone b (by rw [List.mem_singleton.mp hb, sz]; exact Nat.le_succ _)) hu ?fin (its.size - 0) 0 _ (by omega) (Nat.zero_le _) ⟨⟨_, Heap.get?_push_size _ rfl, rfl, rfl⟩, (hl1.push _)⟩ (fun b o e => Heap.get?_push_of_some _ (Heap.get?_push_of_some _ e)) ⟨[], _, _, _, tb_new (Heap.get?_push_of_some _ hS), ⟨fun p h => (by cases h), fun p h => (by simp at h), Nat.le_refl _⟩⟩ (fun _ => rfl) fun z => absurd rfl z
      case fin =>
        intro s1 s' L es ep t m T g k es1
        subst es1
        obtain ⟨h', g2, d', tk', os'⟩ := s'
        have eg : g2 = s.gens := m.gens
        have ed : d' = s.drawn := m.drawn
        have eo : os' = s.os := m.os
        subst eg ed eo
        refine wpAny_pure (?_ : wpAny _ _ (ret Value.none) _ _ _)
        rw [hz] at g
        exact wpAny_pure ⟨rfl, h', tk', L, es, ep, t, rfl, T, g, k⟩
    · cases r₂ with
      | error e => exact hr₂
      | ok fl₂ =>
      cases fl₂ with
      | ret r =>
        obtain ⟨rfl, h', tk, L, es, ep, t, rfl, T, g, k⟩ := hr₂
        repeat (any_goals (first | assumption | wp_step))
        exact q _ _ _ _ _ _ T g k
      | _ => exact hr₂.elim
  | _ => exact hr.elim
end
end SD
/-! The rules: set(xs) of a list of tuples of whole numbers and texts; sorted of such a set. -/
namespace SD
open PySem PySem.Spec PyProof.Rows L2 DP
theorem mix_plain (P : Program) (w : World) : Plain (mixKind P w) := fun k v h => by
  rcases keyIs_shape h with ⟨i, t, _, rfl⟩ | ⟨x, t, _, rfl⟩ <;> rfl
/-- a set with the tuples L -/
def SetDO (P : Program) (w : World) (a : Addr) (L : List (Addr × List Key)) : HO := .ext fun h => ∃ es ep t, Tb (mixKind P w) h a L es ep t
theorem set_new {P : Program} {w : World} {H : Hp} {h : Heap} {a : Addr} {L : List (Addr × List Key)} {es : Array (Int × Value)} {ep : Nat} {t : SetTable} (R : Tb (mixKind P w) h a L es ep t) : ObjOk P w H h a (SetDO P w a L) := by
  have ⟨o, ho, r⟩ := R.obj
  exact ⟨⟨es, ep, t, R⟩, ⟨o, ho⟩, fun h1 h2 ⟨es', ep', t', R'⟩ k => ⟨es', ep', t', tb_keep R' k⟩⟩
theorem keys_of {P : Program} {w : World} : ∀ {k : List Key} {us : List Value}, Vals (k.map kV) us → ItemsAre (mixKind P w) k us
  | [], _, .nil => .nil
  | n :: k, _, .cons r t => .cons (by
      cases n with
      | inl i =>
        obtain ⟨tk, rfl⟩ := r
        simp [mixKind, keyIs, Value.isInt]
      | inr z =>
        obtain ⟨tk, rfl⟩ := r
        simp [mixKind, keyIs, Value.isStrOf]) (keys_of t)
theorem refs_eq : ∀ {ks : List (Addr × List Key)} {us : List Value}, Vals (ks.map fun p => V.ref p.1) us → us = ks.map fun p => Value.ref p.1
  | [], _, .nil => rfl
  | p :: ks, _, .cons r t => by
    cases r
    rw [refs_eq t]; rfl
theorem refs_vals : ∀ (ks : List (Addr × List Key)), Vals (ks.map fun p => V.ref p.1) (ks.map fun p => Value.ref p.1)
  | [] => .nil
  | p :: ks => .cons rfl (refs_vals ks)
def kD : Key → PyData
  | .inl i => .int i
  | .inr z => .str z
section
variable {X : Cx}
theorem tup_inv {pins : List (Addr × Obj)} {σ : L2.St} {H : Hp} {s : Shared} {p : Addr × List Key} (I : Inv X pins σ H s) (h : SqT X.K H p.1 (p.2.map kV)) : TupAt (mixKind X.prog X.w) s.heap p := by
  obtain ⟨its, r, ⟨o, ho, hc, n, hd⟩, _⟩ := I.tuple h
  exact ⟨o, its.toArray, n, ho, hc, hd, by simpa using keys_of r⟩
/-- the tuples of the list stand there -/
def Stand (K : PySem.W.Frag) (H : Hp) (ks : List (Addr × List Key)) : Prop := ∀ p ∈ ks, SqT K H p.1 (p.2.map kV)
theorem Stand.same {K : PySem.W.Frag} {H H' : Hp} {ks : List (Addr × List Key)} (h : Stand K H ks) (S : Same H H') : Stand K H' ks := fun p hp => Same.sqT S (h p hp)
def rSetD (K : PySem.W.Frag) (P : Program) (w : World) : List V → Hp → VK → Prop := fun xs H Q => ∃ (l : Addr) (ks : List (Addr × List Key)), xs = [V.ref l] ∧ SqL K H l (ks.map fun p => V.ref p.1) ∧ Stand K H ks ∧ ks.length < 64 ∧
  ∀ a L, H a = none → (∀ p ∈ L, p ∈ ks) → (∀ p ∈ ks, p.2 ∈ L.map Prod.snd) → (L.map Prod.snd).Nodup → Q (.ref a) (upd H a (SetDO P w a L))
theorem cr_setD (hc : X.calm = true) (hu : X.A.units + 64 < cLine) : CallR X (.type "set") (rSetD X.K X.prog X.w) := by
  intro pins s σ H xs us Q I r h
  obtain ⟨l, ks, rfl, hl, hk, few, q⟩ := h
  rw [Vals.ref1 r]
  obtain ⟨its, rv, pl, hz⟩ := I.list hl
  refine set_made (P := X.prog) (w := X.w) (mix_plain _ _) ks (I.ok.hd hc) pl.isList (by simpa using refs_eq rv) (fun p hp => tup_inv I (hk p hp)) few (by omega) fun h' tk L es ep t T g k => ?_
  refine ⟨.ref s.heap.objs.size, upd H s.heap.objs.size (SetDO X.prog X.w s.heap.objs.size L), I.laid (t' := tk) k (Nat.le_refl _) (set_new T), rfl, q _ L (I.hok.fresh (Nat.le_refl _)) g.from_ (fun p hp => ?_) T.one⟩
  exact g.all p (by rw [List.take_length]; exact hp)
end
section
variable {P : Program} {w : World} {A : Around} {E : Value → Shared → Prop} {s : Shared}
def encK (p : Addr × List Key) : PyData := .tuple (p.2.map kD)
theorem reads_parts : ∀ {k : List Key} {us : List Value} {h : Heap}, ItemsAre (mixKind P w) k us → ReadsAll h us (k.map kD) []
  | _, _, _, .nil => .nil
  | _, _, h, .cons (k := n) a t => by
    rcases keyIs_shape a with ⟨i, tk, rfl, rfl⟩ | ⟨x, tk, rfl, rfl⟩
    · exact .cons (as := []) (.int _ _) (reads_parts t)
    · exact .cons (as := []) (.str _ _) (reads_parts t)
theorem reads_tup {h : Heap} {p : Addr × List Key} (x : TupAt (mixKind P w) h p) : Reads h (.ref p.1) (encK p) [] := by
  obtain ⟨o, its, n, ho, hc, hd, hi⟩ := x
  exact .tuple ho hc hd (reads_parts hi)
theorem each_refs : ∀ L : List (Addr × List Key), PySem.W.EachIs (fun (u : Value) (p : Addr × List Key) => u = .ref p.1) (L.map fun q => Value.ref q.1) L
  | [] => .nil
  | p :: L => .cons rfl (each_refs L)
theorem of_each : ∀ {us : List Value} {L : List (Addr × List Key)}, PySem.W.EachIs (fun (u : Value) (p : Addr × List Key) => u = .ref p.1) us L → us = L.map fun q => Value.ref q.1
  | _, _, .nil => rfl
  | _, _, .cons a t => by rw [a, of_each t]; rfl
theorem each_reads {h : Heap} : ∀ {L : List (Addr × List Key)} {a : Addr}, All (mixKind P w) h L → PySem.W.EachIs (fun (u : Value) (p : Addr × List Key) => ∃ as, Reads h u (encK p) as ∧ a ∉ as) (L.map fun q => Value.ref q.1) L
  | [], _, _ => .nil
  | p :: L, _, k => .cons ⟨[], reads_tup (k p List.mem_cons_self), by simp⟩ (each_reads fun q hq => k q (List.mem_cons_of_mem _ hq))
/-- what is known of the parts so that tuples can be put in order -/
structure Even (L : List (Addr × List Key)) : Prop where
  alike : ∀ p ∈ L, ∀ q ∈ L, PySem.W.alike (encK p) (encK q) = true
  some_ : ∀ p ∈ L, p.2 ≠ []
theorem Even.sub {L M : List (Addr × List Key)} (e : Even L) (h : ∀ p ∈ M, p ∈ L) : Even M := ⟨fun p hp q hq => e.alike p (h p hp) q (h q hq), fun p hp => e.some_ p (h p hp)⟩
theorem depth_parts : ∀ k : List Key, PyData.depthAll (k.map kD) = 0
  | [] => rfl
  | .inl i :: k => by
    show PyData.depthAll (PyData.int i :: k.map kD) = 0
    rw [PyData.depthAll, depth_parts k]; rfl
  | .inr z :: k => by
    show PyData.depthAll (PyData.str z :: k.map kD) = 0
    rw [PyData.depthAll, depth_parts k]; rfl
theorem depth_tup (p : Addr × List Key) : (encK p).depth = 1 := by
  unfold encK
  rw [PyData.depth, depth_parts]
theorem sorted_set {a : Addr} {L : List (Addr × List Key)} {es : Array (Int × Value)} {ep : Nat} {t : SetTable} {Q : Value → Shared → Prop} (R : Tb (mixKind P w) s.heap a L es ep t) (R2 : All (mixKind P w) s.heap L) (hh : A.handled = none) (hu : A.units + 64 < cLine) (ev : Even L)
    (q : ∀ s' p (out : Array Value) (c : Nat) (M : List (Addr × List Key)), (∀ b o, s.heap.get? b = some o → s'.heap.get? b = some o) → s'.gens = s.gens → s'.os = s.os → s.heap.objs.size ≤ p → M.Perm L →
      s'.heap.get? p = some (seqObj "list" out c) → out.toList = (M.mergeSort (PySem.W.dataLe false encK)).map (fun q => Value.ref q.1) → Q (.ref p) s') :
    wpAny (model P w) A (call (.builtin "sorted") [.ref a]) Q E s := by
  obtain ⟨o, ho, hex, hd⟩ := R.obj
  have hn := rows_len R.rows
  have few := R.few
  refine Calls.call_function_entry kind_sorted plain_sorted entry_sorted (args_sorted1 _) ?_
  unfold Builtin.«sorted»
  refine wpAny_bind (m := checkCount "sorted" 1 1 _) (wpAny_pure ?_)
  refine wpAny_bind (collect_set (A := A.in1) hh ⟨o, ho, hex.1, hd⟩ R.fit (by unfold scanBound; omega) R.tab.ris R.led fun s1 vs k1 hz g1 o1 pm => ?_)
  have hv : es.toList.map (·.2) = L.map fun q => Value.ref q.1 := by
    rw [R.rows, List.map_map]; rfl
  rw [hv] at pm
  -- the values' own list of rows
  obtain ⟨M, eM, pL⟩ : ∃ M : List (Addr × List Key), vs = M.map (fun q => Value.ref q.1) ∧ M.Perm L := by
    have z : ∀ {xs ys : List Value}, xs.Perm ys → ∀ L : List (Addr × List Key), ys = L.map (fun q => Value.ref q.1) → ∃ M : List (Addr × List Key), xs = M.map (fun q => Value.ref q.1) ∧ M.Perm L := by
      intro xs ys pm
      induction pm with
      | nil => intro L e; exact ⟨L, e, .refl _⟩
      | @cons x l1 l2 _ ih =>
        intro L e
        cases L with
        | nil => cases e
        | cons p L =>
          injection e with e1 e2
          obtain ⟨M, e3, p3⟩ := ih L e2
          exact ⟨p :: M, by rw [e1, e3]; rfl, p3.cons p⟩
      | swap x y l =>
        intro L e
        cases L with
        | nil => cases e
        | cons p L =>
          cases L with
          | nil => injection e with _ e2; cases e2
          | cons q L =>
            injection e with e1 e2
            injection e2 with e2 e3
            exact ⟨q :: p :: L, by rw [e1, e2, e3]; rfl, .swap _ _ _⟩
      | trans _ _ ih1 ih2 =>
        intro L e
        obtain ⟨M, e3, p3⟩ := ih2 L e
        obtain ⟨N, e4, p4⟩ := ih1 M e3
        exact ⟨N, e4, p4.trans p3⟩
    exact z pm L rfl
  subst eM
  have hml : M.length < 64 := by rw [pL.length_eq]; exact few
  have evM : Even M := ev.sub fun p hp => pL.mem_iff.mp hp
  refine wpAny_bind (wpAny_newList ?_ (by rw [List.length_map, sizeLine_eq]; omega))
  have hoL : (s1.heap.push (seqObj "list" (M.map fun q => Value.ref q.1).toArray 0)).get? s1.heap.objs.size = some (seqObj "list" (M.map fun q => Value.ref q.1).toArray 0) := Heap.get?_push_size _ rfl
  have stand : All (mixKind P w) (s1.heap.push (seqObj "list" (M.map fun q => Value.ref q.1).toArray 0)) M := fun p hp => tup_keep (R2 p (pL.mem_iff.mp hp)) fun b u e => Heap.get?_push_of_some _ (k1 b u e)
  refine wpAny_bind (wpAny_holding (PySem.W.list_sort_data (enc := encK) (s := { s1 with heap := s1.heap.push (seqObj "list" (M.map fun q => Value.ref q.1).toArray 0) }) hoL (each_refs M) (each_reads stand) (fun d hd' d' hd2 => ?_) (.inl fun d hd' => ?_) (by rw [sizeLine_eq]; omega) (fun p _ => ?_) fun out ho2 eo => ?_))
  · obtain ⟨p, hp, rfl⟩ := List.mem_map.mp hd'
    obtain ⟨p2, hp2, rfl⟩ := List.mem_map.mp hd2
    exact evM.alike p hp p2 hp2
  · obtain ⟨p, hp, rfl⟩ := List.mem_map.mp hd'
    have h2 := evM.some_ p hp
    unfold encK
    cases e : p.2 with
    | nil => exact absurd e h2
    | cons k r => exact ⟨_, _, rfl⟩
  · rw [depth_tup]
    have e : A.in1.units ≤ A.units + 1 := by first | exact Nat.le_refl _ | (show _ ≤ _; simp [Around.in1, Around.units])
    omega
  · obtain ⟨c, hc⟩ := sortedHeap_at (vs := M.map fun q => Value.ref q.1) (out := List.toArray out) hoL
    refine wpAny_pure ⟨_, rfl, q _ s1.heap.objs.size (List.toArray out) c M (fun b u e => ?_) g1 o1 hz pL hc (by simpa using of_each eo)⟩
    have e2 := k1 b u e
    have hlt := Heap.lt_size e2
    show (sortedHeap (s1.heap.push (seqObj "list" (M.map fun q => Value.ref q.1).toArray 0)) s1.heap.objs.size (M.map fun q => Value.ref q.1) (List.toArray out)).get? b = some u
    rw [sortedHeap_old (Nat.ne_of_lt hlt) (by rw [size_push']; exact Nat.lt_succ_of_lt hlt)]
    exact Heap.get?_push_of_some _ e2
end
section
variable {X : Cx}
/-- sorted(a set of tuples) -/
def rSortSetD (K : PySem.W.Frag) (P : Program) (w : World) : List V → Hp → VK → Prop := fun vs H Q => ∃ (a : Addr) (L : List (Addr × List Key)), vs = [V.ref a] ∧ H a = some (SetDO P w a L) ∧ Stand K H L ∧ Even L ∧
  ∀ (M : List (Addr × List Key)) (p : Addr), M.Perm L → H p = none → Q (.ref p) (upd H p (.lst ((M.mergeSort (PySem.W.dataLe false encK)).map fun q => V.ref q.1)))
theorem cr_sortSetD (hc : X.calm = true) (hu : X.A.units + 64 < cLine) : CallR X (.builtin "sorted") (rSortSetD X.K X.prog X.w) := by
  intro pins s σ H vs us Q I r h
  obtain ⟨a, L, rfl, ha, st, ev, q⟩ := h
  obtain ⟨es, ep, t, R⟩ : ∃ es ep t, Tb (mixKind X.prog X.w) s.heap a L es ep t := (I.hok a _ ha).1
  rw [Vals.ref1 r]
  refine sorted_set R (fun p hp => tup_inv I (st p hp)) (I.ok.hd hc) hu ev fun s' p out c M k g o hp pm hg hout => ?_
  have few := R.few
  have hlen : ((M.mergeSort (PySem.W.dataLe false encK)).map fun q => V.ref q.1).length ≤ sizeLine := by rw [List.length_map, List.length_mergeSort, pm.length_eq, sizeLine_eq]; omega
  have hn : H p = none := I.hok.fresh hp
  have hv : Vals ((M.mergeSort (PySem.W.dataLe false encK)).map fun q => V.ref q.1) out.toList := by rw [hout]; exact refs_vals _
  have J : Inv X pins σ (upd H p (.lst ((M.mergeSort (PySem.W.dataLe false encK)).map fun q => V.ref q.1))) { s with heap := s'.heap, gens := s'.gens, drawn := s'.drawn, toks := s'.toks } :=
    I.call (ch := []) (Un.laid k hp hn) (I.hok.laid k hp ⟨hlen, out.toList, c, hv, hg⟩) (by rw [g]; exact I.bare) (fun _ z => nomatch z)
  have e : s' = { s with heap := s'.heap, gens := s'.gens, drawn := s'.drawn, toks := s'.toks } := by
    cases s'; cases s; cases o; rfl
  rw [e]
  exact ⟨.ref p, _, J, rfl, q M p pm hn⟩
theorem setDK {K : PySem.W.Frag} {P : Program} {w : World} (hc : X.calm = true) (hu : X.A.units + 64 < cLine) (h : X.K = K := by rfl) (hp : X.prog = P := by rfl) (hw : X.w = w := by rfl) : CallR X (.type "set") (rSetD K P w) := by subst h hp hw; exact cr_setD hc hu
theorem sortSetDK {K : PySem.W.Frag} {P : Program} {w : World} (hc : X.calm = true) (hu : X.A.units + 64 < cLine) (h : X.K = K := by rfl) (hp : X.prog = P := by rfl) (hw : X.w = w := by rfl) : CallR X (.builtin "sorted") (rSortSetD K P w) := by subst h hp hw; exact cr_sortSetD hc hu
end
end SD
/-! == and != by an own class's __eq__ and __ne__, whatever they answer. -/
namespace DP
open PySem PySem.Spec PyProof.Rows L2
theorem rooms64 {A : Around} {k : Nat} (hr : Room k A) : A.units + 64 < cLine := by have := hr.un; omega
/-- what isinstance asks of an own class's instances -/
structure IsiC (K : PySem.W.Frag) (C : Addr) : Prop where
  ha : PySem.W.findIn K (.ref C) "__class__" = some (some (.builtin "object.__class__"))
  hn : PySem.W.specialIn K (.builtin "object.__class__") "__get__" = some (some (.builtin "getset_descriptor.__get__"))
  htk : PySem.W.takesIn K (.builtin "object.__class__") = some true
  hm : PySem.W.mroIn K C (.type "object") = some true
theorem kit_self (K : PySem.W.Frag) (C : Addr) : PySem.W.kitOne K (.ref C) (.ref C) = some true := if_pos (beq_self_eq_true _)
theorem kit_no {K : PySem.W.Frag} {S : Addr} {t : Value} (h0 : (t == .ref S) = false) (h2 : PySem.W.isClsIn K S = true) (h3 : PySem.W.typeIn K (.ref S) = some (.type "type")) {b : Option Bool} (h4 : PySem.W.subIn K t (.ref S) = b) : PySem.W.kitOne K t (.ref S) = b := by
  have e2 : ((PySem.W.clsIn K S).isSome && PySem.W.typeIn K (.ref S) == some (.type "type")) = true := by
    have h2' : (PySem.W.clsIn K S).isSome = true := h2
    rw [h2', h3] <;> rfl
  show (if (t == .ref S) = true then some true else if ((PySem.W.clsIn K S).isSome && PySem.W.typeIn K (.ref S) == some (.type "type")) = true then PySem.W.subIn K t (.ref S) else none) = b
  rw [h0, if_neg Bool.false_ne_true, if_pos e2]
  exact h4
section
variable {X : Cx} {CX : CXT} {C f : Addr} {fd : FuncData} {ps : List Str} {sp : Sp} {E : XK} {k : Nat} {op : CmpOp}
/-- the right side: of the same class, a list, a whole number -/
inductive Right (K : PySem.W.Frag) (C : Addr) (H : Hp) : V → Prop
  | ins {b dy gs} : H b = some (.ins C dy gs) → Right K C H (.ref b)
  | lst {b xs} : SqL K H b xs → PySem.W.notFirst K C (.type "list") = true → Right K C H (.ref b)
  | int {i} : PySem.W.notFirst K C (.type "int") = true → Right K C H (.int i)
  | any {v t} : TyX K H v (.type t) → PySem.W.notFirst K C (.type t) = true → Right K C H v
def rOwn (K : PySem.W.Frag) (C : Addr) (sp : Sp) (E : XK) : V → V → Hp → VK → Prop := fun x y H Q => ∃ a dx fs, x = .ref a ∧ H a = some (.ins C dx fs) ∧ Right K C H y ∧ sp [x, y] H (fun v H' => ∃ b, v = .bl b ∧ Q (.bl b) H') E
theorem own_run (F : FnOk X.prog X.w X.K X.mg X.base CX k f fd ps sp) (hs : PySem.W.findIn X.K (.ref C) (cmpInfo op).2.1 = some (some (.ref f))) (hf : PySem.W.isFn X.K (.ref f) = true) (hb : Binds X.K fd ps []) (hx : Passes CX X E) (hr : Room k X.A) : ∀ (pins : List (Addr × Obj)) (s : Shared) (σ : L2.St) (H : Hp) (x y : V) (v u : Value) (Q : VK), Inv X pins σ H s → RelV x v → RelV y u → rOwn X.K C sp E x y H Q → wpAny (model X.prog X.w) X.A (richCompare op v u) (EP X pins σ Q) X.xe s := by
  intro pins s σ H x y v u Q I rx ry hq
  obtain ⟨a, dx, fs, rfl, ha, hy, q⟩ := hq
  cases rx
  obtain ⟨mA, J, _⟩ := ins_get I.hok ha
  obtain ⟨od, J, _⟩ := J.look
  obtain ⟨m, hF⟩ := I.fr
  obtain ⟨tb, hl, hn⟩ : ∃ tb, PySem.W.Looks (model X.prog X.w) s.heap (typeOf u) tb ∧ PySem.W.notFirst X.K C tb = true := by
    cases hy with
    | ins h =>
      cases ry
      obtain ⟨mB, J', _⟩ := ins_get I.hok h
      obtain ⟨od', J', _⟩ := J'.look
      exact ⟨.ref C, J'.type, by simp [PySem.W.notFirst]⟩
    | lst h hn =>
      cases ry
      obtain ⟨its, rv, pl, hz⟩ := I.list h
      exact ⟨_, fun A Q E s1 k q => (by
        obtain ⟨o, ho, hc, r⟩ := pl.isList
        exact wpAny_typeOf_ref (k _ _ ho) (by rw [hc]; exact q)), hn⟩
    | int hn =>
      obtain ⟨t, rfl⟩ := ry
      exact ⟨_, fun A Q E s1 k q => wpAny_pure q, hn⟩
    | any h hn =>
      obtain ⟨Pk, kx, hp, _⟩ := kit_of I ry h
      exact ⟨_, kx.ty _ _ I.kIn hp, hn⟩
  refine PySem.W.cmp_K (op := op) (tb := tb) hr.units0 hF I.ok.mod.kin J hl hn hs hf ?_
  have r2 : Vals [V.ref a, y] [Value.ref a, u] := .cons rfl (.cons ry .nil)
  have hlen := F.len _ _ _ _ q
  refine wpAny_call (codeAny_mono (F.run X.A X.stack s H ⟨[.ref a, u], []⟩ [.ref a, u] [.ref a, y] _ E hr I.env0 (by
    have := hb s [.ref a, u] I.kIn (by simpa using hlen)
    simpa using this) r2 q) fun r s' hq => ?_)
  cases r with
  | error e => exact hx pins σ H s e s' I hq
  | ok fl =>
    cases fl with
    | ret w =>
      obtain ⟨z, H', I', rz, b, ez, q2⟩ := I.after hq
      subst ez
      cases rz
      exact ⟨.bl b, H', I', rfl, q2⟩
    | next => exact hq.elim
    | brk => exact hq.elim
    | cont => exact hq.elim
theorem op_ownEq (F : FnOk X.prog X.w X.K X.mg X.base CX k f fd ps sp) (hs : PySem.W.findIn X.K (.ref C) "__eq__" = some (some (.ref f))) (hf : PySem.W.isFn X.K (.ref f) = true) (hb : Binds X.K fd ps []) (hx : Passes CX X E) (hr : Room k X.A) : OpR X (compareOp .Eq) (rOwn X.K C sp E) := fun pins s σ H x y v u Q I rx ry hq =>
  own_run (op := .Eq) F hs hf hb hx hr pins s σ H x y v u Q I rx ry hq
theorem op_ownNe (F : FnOk X.prog X.w X.K X.mg X.base CX k f fd ps sp) (hs : PySem.W.findIn X.K (.ref C) "__ne__" = some (some (.ref f))) (hf : PySem.W.isFn X.K (.ref f) = true) (hb : Binds X.K fd ps []) (hx : Passes CX X E) (hr : Room k X.A) : OpR X (compareOp .NotEq) (rOwn X.K C sp E) := fun pins s σ H x y v u Q I rx ry hq =>
  own_run (op := .NotEq) F hs hf hb hx hr pins s σ H x y v u Q I rx ry hq
/-- in a comprehension: K named -/
theorem ownEqK {K : PySem.W.Frag} {P : Program} {w : World} {mg : Str → Option Value} {base : Heap} (F : FnOk P w K mg base CX k f fd ps sp) (hs : PySem.W.findIn K (.ref C) "__eq__" = some (some (.ref f))) (hf : PySem.W.isFn K (.ref f) = true) (hb : Binds K fd ps []) (hx : Passes CX X E) (hr : Room k X.A) (h1 : X.prog = P := by rfl) (h2 : X.w = w := by rfl) (h3 : X.K = K := by rfl) (h4 : X.mg = mg := by rfl) (h5 : X.base = base := by rfl) : OpR X (compareOp .Eq) (rOwn K C sp E) := by
  subst h1 h2 h3 h4 h5
  exact op_ownEq F hs hf hb hx hr
end
end DP
/-! Calls by keywords, in any order, with defaults: functions, methods, classes. -/
namespace KW
open PySem PySem.Spec PyProof.Rows L2 DP
/-- those of a list that stand at these places -/
def pick {α : Type} (is : List Nat) (l : List α) : List α := is.filterMap fun i => l[i]?
theorem vals_at : ∀ {vs : List V} {us : List Value} (r : Vals vs us) (i : Nat), (vs[i]? = none ∧ us[i]? = none) ∨ ∃ v u, vs[i]? = some v ∧ us[i]? = some u ∧ RelV v u
  | _, _, .nil, i => .inl ⟨by simp, by simp⟩
  | _, _, .cons h t, 0 => .inr ⟨_, _, rfl, rfl, h⟩
  | _, _, .cons h t, i + 1 => by simpa using vals_at t i
theorem pick_rel {vs : List V} {us : List Value} (r : Vals vs us) : ∀ is : List Nat, Vals (pick is vs) (pick is us)
  | [] => .nil
  | i :: is => by
    unfold pick
    rw [List.filterMap_cons, List.filterMap_cons]
    rcases vals_at r i with ⟨e1, e2⟩ | ⟨v, u, e1, e2, h⟩
    · rw [e1, e2]; exact pick_rel r is
    · rw [e1, e2]; exact .cons h (pick_rel r is)
/-- positional values, then the rest out of the keywords' values and the defaults -/
def gk {α : Type} (is : List Nat) (ds us ws : List α) : List α := us ++ pick is (ws ++ ds)
theorem gk_rel {is : List Nat} {dv vs zs : List V} {ds us ws : List Value} (rd : Vals dv ds) (r : Vals vs us) (rz : Vals zs ws) : Vals (gk is dv vs zs) (gk is ds us ws) := r.append (pick_rel (rz.append rd) is)
/-- all parameters are given -/
theorem kbn0 {K : PySem.W.Frag} {fd : FuncData} {ps ks : List Str} {n : Nat} (is : List Nat) (h : ∀ us ws : List Value, us.length = n → ws.length = ks.length → bindArgs fd ⟨us, ks.zip ws⟩ = pure (ps.zip (gk is [] us ws))) : KBn K fd ps n ks (gk is []) (gk is []) :=
  ⟨fun s us ws _ h1 h2 => .of_eq (h us ws h1 h2), fun r rz => gk_rel .nil r rz⟩
section
variable {K : PySem.W.Frag} {x qual : Str} {params : Arguments} {body : List Stmt} {scope : Scope} {dvs : List V} {f : Addr} {fd : FuncData} {ps : List Str}
/-- the lacking ones stand among the defaults -/
theorem kbnD (F : FunD K x qual params body scope dvs [] f fd) (n : Nat) (ks : List Str) (is : List Nat) (hd : dvs ≠ [])
    (h : ∀ (T : Addr) (kV doc pm : Value) (an : Option Addr) (cdv ct : Value) (us its ws : List Value), us.length = n → its.length = dvs.length → ws.length = ks.length →
      ∃ k, bindArgs (PySem.W.fnOf x qual params body scope (.ref T) kV doc pm an cdv ct) ⟨us, ks.zip ws⟩ = seqItems? (.ref T) >>= k ∧ k (some its.toArray) = pure (ps.zip (gk is its us ws))) : ∃ its : List Value, KBn K fd ps n ks (gk is its) (gk is dvs) := by
  obtain ⟨oc, od, dV, kV, doc, pm, an, cdv, ct, osl, rfl, lk, hcd, hD, hK⟩ := F.ex
  rcases hD with ⟨e, _⟩ | ⟨_, T, o, its, m, rfl, lT, oT, rT⟩
  · exact absurd e hd
  · refine ⟨its, fun s us ws X l1 l2 => ?_, fun r rz => gk_rel rT r rz⟩
    obtain ⟨k, e1, e2⟩ := h T kV doc pm an cdv ct us its ws l1 rT.length.symm l2
    refine BindsTo.of_looks fun M => ?_
    rw [e1]
    exact looks_items X lT oT (.of_pure e2)
end
section
variable {X : Cx} {CX : CXT} {k : Nat} {f C : Addr} {fd : FuncData} {ps ks : List Str} {sp : Sp} {E : XK} {x m : Str} {p pos apos : Pos} {o : Expr} {kws : List Keyword} {ta : TE} {tk : TA} {g : List Value → List Value → List Value} {gV : List V → List V → List V}
def tCallN0 (c : Nat) (sp : Sp) (gV : List V → List V → List V) (E : XK) (tk : TA) : TE := fun σ H Q => tk σ H fun zs H2 => zs.length = c ∧ sp (gV [] zs) H2 Q E
/-- f(k = v, ..) -/
theorem pe_callN0 (F : FnOk X.prog X.w X.K X.mg X.base CX k f fd ps sp) (hr : Room k X.A) (hg : Gl X x) (hm : X.mg x = some (.ref f)) (hk : PySem.W.keepIn X.K (.ref f) = true) (hb : KBn X.K fd ps 0 ks g gV) (hx : Passes CX X E) (hkw : PK X kws tk)
    (hall : (backToKw pos (keywordEach kws X.env)).all (·.1.isSome) = true := by rfl) (hks : (backToKw pos (keywordEach kws X.env)).filterMap (·.1) = ks := by rfl) (hdb : (x == ("__debug__" : Str)) = false := by decide)
    (hpl : ((backTo pos (starEach [] X.env)).any (·.1) || (backToKw pos (keywordEach kws X.env)).any (·.1.isNone)) = false := by rfl) :
    PE X (.Call (.Name x p) [] kws pos) (tCallN0 ks.length sp gV E tk) := by
  refine ⟨fun pins s σ H Q I h => ?_⟩
  refine wpAny_Call_Name_kw (ld_glob I hg hm ?_ hdb)
  refine PySem.W.callWith_KW0 (h₀ := X.base) I.ok.mod.kin hk hall ?_ hpl
  refine thn (hkw.run pos pins s σ H _ I h) fun ws s2 ⟨zs, H2, I2, rz, l2, q2⟩ => ⟨I2.kIn, ?_⟩
  rw [hks]
  exact run_fnN (us := []) (vs := []) F hr hb hx I2 .nil rz rfl l2 q2
def tMethN (C : Addr) (m : Str) (c : Nat) (sp : Sp) (gV : List V → List V → List V) (E : XK) (ta : TE) (tk : TA) : TE := fun σ H Q => ta σ H fun x H1 => ∃ a dx fs, x = .ref a ∧ H1 a = some (.ins C dx fs) ∧ fs.lookup m = none ∧ tk σ H1 fun zs H2 => zs.length = c ∧ sp (gV [.ref a] zs) H2 Q E
/-- o.m(k = v, ..) -/
theorem pe_methN {pl : Sem Bool} (he : PE X o ta) (c : Cls X.K C) (hm : Meth X.K C m f) (F : FnOk X.prog X.w X.K X.mg X.base CX k f fd ps sp) (hr : Room k X.A) (hb : KBn X.K fd ps 1 ks g gV) (hx : Passes CX X E) (hkw : PK X kws tk)
    (hall : (backToKw pos (keywordEach kws X.env)).all (·.1.isSome) = true := by rfl) (hks : (backToKw pos (keywordEach kws X.env)).filterMap (·.1) = ks := by rfl)
    (hpl : ((backTo pos (starEach [] X.env)).any (·.1) || (backToKw pos (keywordEach kws X.env)).any (·.1.isNone)) = false := by rfl)
    (ht : eval (.Call (.Attribute o m apos) [] kws pos) X.env = (do
      let ov ← eval o X.env
      standAt apos.atName
      let (f, first) ← holding [ov] (getMethod ov m pl)
      callWith pos f first (backTo pos (starEach [] X.env)) (backToKw pos (keywordEach kws X.env))) := by rfl) :
    PE X (.Call (.Attribute o m apos) [] kws pos) (tMethN C m ks.length sp gV E ta tk) := by
  refine ⟨fun pins s σ H Q I h => ?_⟩
  refine PySem.W.methodCall_KW (pl := pl) (thn (he.run pins s σ H _ I h) fun u s1 ⟨x, H1, I1, rx, a, dx, fs, ex, ea, l, q⟩ => ?_) ht
  subst ex
  obtain rfl : u = Value.ref a := rx
  refine getmeth_ok I1 ea c hm l ?_
  refine PySem.W.callWith_KW0 (first := [.ref a]) (h₀ := X.base) I.ok.mod.kin hm.kp hall ?_ hpl
  refine thn (hkw.run pos pins s1 σ H1 _ I1 q) fun ws s2 ⟨zs, H2, I2, rz, l2, q2⟩ => ⟨I2.kIn, ?_⟩
  rw [hks]
  exact run_fnN (us := [.ref a]) (vs := [.ref a]) F hr hb hx I2 (.cons rfl .nil) rz rfl l2 q2
end
section
variable {P : Program} {w : World} {K : PySem.W.Frag} {mg : Str → Option Value} {base : Heap} {x qual : Str} {st : Stmt} {dvs : List V} {f : Addr} {fd : FuncData}
/-- a def with defaults, by its body -/
theorem FunD.okN {N ps : List Str} {k : Nat} {sp : Sp} (F : FunD K x qual (defArgs st) (defBody st) (defScope st) dvs [] f fd) (S : FnScope N ps (defScope st)) (len : ∀ vs H Q E, sp vs H Q E → vs.length = ps.length)
    (hbody : ∀ (cdv : Value) (A : Around) (outer : List Env) (s : Shared) (H : Hp) (vs : List V) (Q : VK) (E : XK), Room k (A.deeper (envOfC qual (defScope st) s.heap.objs.size f cdv)) → sp vs H Q E →
      ∃ t, PSs (cxOf CX0 P w K mg base N qual (defScope st) f cdv A outer s H E).nox (defBody st) t ∧ t { nx := fun _ H' => Q .non H', rt := Q } (start N vs) H) : FnOk P w K mg base CX0 (k + 1) f fd ps sp :=
  F.ok S len fun cdv A outer s H vs Q E hr hsp => by
    obtain ⟨t, h, q⟩ := hbody cdv A outer s H vs Q E hr hsp
    exact ⟨t, h.nox, q⟩
end
end KW
/-! A method of a list in a comprehension: the rule with K named. -/
namespace DP
open PySem PySem.Spec PyProof.Rows L2
theorem pe_bmK {X : Cx} {K : PySem.W.Frag} {o e : PySem.Expr} {es : List PySem.Expr} {to : TE} {t : TA} {name : PySem.Str} {apos cpos : PySem.Pos} {T id : String} {r : V → List V → Hp → VK → Prop}
    (h1 : PySem.PlainAttrs T) (h2 : PySem.Slot T name id) (h3 : PySem.typeOf (PySem.Value.builtin id) = pure (PySem.Value.type "method_descriptor")) (h4 : MtR X id r) (h5 : PE X o to) (h6 : PA X (e :: es) t) (hK : X.K = K := by rfl)
    (a1 : PySem.attributeBase o name X.env (PySem.eval o X.env) = PySem.eval o X.env := by rfl)
    (a2 : ((((PySem.backTo cpos (PySem.starEach (e :: es) X.env)).all fun x => !x.fst) && (PySem.backToKw cpos (PySem.keywordEach [] X.env)).all fun x => x.fst.isSome) && decide (((e :: es).length + ([] : List PySem.Keyword).length + if ([] : List PySem.Keyword).isEmpty = true then 0 else 1) < 30)) = true := by rfl)
    (a3 : (apos.endLine == cpos.line) = true := by rfl)
    (a4 : PySem.starEach (e :: es) X.env = (false, PySem.eval e X.env) :: PySem.starEach es X.env := by rfl)
    (a5 : ((PySem.backTo cpos (PySem.starEach es X.env)).any fun x => x.fst) = false := by rfl) : PE X ((o.Attribute name apos).Call (e :: es) [] cpos) (tBM K T r to t) := by
  subst hK
  exact pe_bm h1 h2 h3 h4 h5 h6 a1 a2 a3 a4 a5
end DP
namespace KA
open PySem PySem.Spec PyProof.Rows L2 DP
def top (i : Nat) : Stmt := PySem.Challenge.pw_darkpace_k15_whole_more_looks.main.body.getD i (.Pass ⟨0, 0, 0, 0⟩)
abbrev slaw_deck : Stmt := top 29
abbrev N_law_deck : List Str := ["script", "great", "fold", "cell"]
abbrev P_law_deck : List Str := ["script"]
theorem sclaw_deck : FnScope N_law_deck P_law_deck (defScope slaw_deck) := ⟨rfl, rfl, rfl, by decide +kernel, rfl, by decide +kernel, by decide +kernel⟩
abbrev slaw_take : Stmt := top 30
abbrev N_law_take : List Str := ["deck", "many", "drawn", "k", "mixed"]
abbrev P_law_take : List Str := ["deck", "many"]
theorem sclaw_take : FnScope N_law_take P_law_take (defScope slaw_take) := ⟨rfl, rfl, rfl, by decide +kernel, rfl, by decide +kernel, by decide +kernel⟩
abbrev slaw_below : Stmt := top 31
abbrev N_law_below : List Str := ["deck", "many", "found", "left"]
abbrev P_law_below : List Str := ["deck", "many"]
theorem sclaw_below : FnScope N_law_below P_law_below (defScope slaw_below) := ⟨rfl, rfl, rfl, by decide +kernel, rfl, by decide +kernel, by decide +kernel⟩
abbrev slaw_wide : Stmt := top 32
abbrev N_law_wide : List Str := ["deck", "some"]
abbrev P_law_wide : List Str := ["deck"]
theorem sclaw_wide : FnScope N_law_wide P_law_wide (defScope slaw_wide) := ⟨rfl, rfl, rfl, by decide +kernel, rfl, by decide +kernel, by decide +kernel⟩
abbrev slaw_hidden : Stmt := top 33
abbrev N_law_hidden : List Str := ["deck", "wide", "many", "spots", "k", "begun", "ends", "spot"]
abbrev P_law_hidden : List Str := ["deck", "wide", "many"]
theorem sclaw_hidden : FnScope N_law_hidden P_law_hidden (defScope slaw_hidden) := ⟨rfl, rfl, rfl, by decide +kernel, rfl, by decide +kernel, by decide +kernel⟩
abbrev slaw_looks : Stmt := top 34
abbrev N_law_looks : List Str := ["deck", "wide", "pairs", "found", "spot", "there", "way", "short", "more", "turn"]
abbrev P_law_looks : List Str := ["deck", "wide", "pairs"]
theorem sclaw_looks : FnScope N_law_looks P_law_looks (defScope slaw_looks) := ⟨rfl, rfl, rfl, by decide +kernel, rfl, by decide +kernel, by decide +kernel⟩
abbrev slaw_told : Stmt := top 36
abbrev N_law_told : List Str := ["darks", "spots", "many", "spot"]
abbrev P_law_told : List Str := ["darks", "spots", "many"]
theorem sclaw_told : FnScope N_law_told P_law_told (defScope slaw_told) := ⟨rfl, rfl, rfl, by decide +kernel, rfl, by decide +kernel, by decide +kernel⟩
abbrev slaw_is_closer : Stmt := top 37
abbrev N_law_is_closer : List Str := ["ahead", "now", "k"]
abbrev P_law_is_closer : List Str := ["ahead", "now"]
theorem sclaw_is_closer : FnScope N_law_is_closer P_law_is_closer (defScope slaw_is_closer) := ⟨rfl, rfl, rfl, by decide +kernel, rfl, by decide +kernel, by decide +kernel⟩
abbrev slaw_mixed : Stmt := top 38
abbrev N_law_mixed : List Str := ["deck", "some", "left", "k"]
abbrev P_law_mixed : List Str := ["deck", "some"]
theorem sclaw_mixed : FnScope N_law_mixed P_law_mixed (defScope slaw_mixed) := ⟨rfl, rfl, rfl, by decide +kernel, rfl, by decide +kernel, by decide +kernel⟩
abbrev sside_looks : Stmt := top 13
abbrev N_side_looks : List Str := ["looks", "side", "words", "look"]
abbrev P_side_looks : List Str := ["looks", "side"]
theorem scside_looks : FnScope N_side_looks P_side_looks (defScope sside_looks) := ⟨rfl, rfl, rfl, by decide +kernel, rfl, by decide +kernel, by decide +kernel⟩
abbrev sround_looks : Stmt := top 14
abbrev N_round_looks : List Str := ["hands", "side", "hand"]
abbrev P_round_looks : List Str := ["hands", "side"]
theorem scround_looks : FnScope N_round_looks P_round_looks (defScope sround_looks) := ⟨rfl, rfl, rfl, by decide +kernel, rfl, by decide +kernel, by decide +kernel⟩
abbrev splace_by : Stmt := top 15
abbrev N_place_by : List Str := ["look", "side", "x", "length", "_", "start", "end"]
abbrev P_place_by : List Str := ["look", "side", "x", "length"]
theorem scplace_by : FnScope N_place_by P_place_by (defScope splace_by) := ⟨rfl, rfl, rfl, by decide +kernel, rfl, by decide +kernel, by decide +kernel⟩
abbrev sbest_step : Stmt := top 16
abbrev N_best_step : List Str := ["looks", "side", "x", "length", "steps", "look"]
abbrev P_best_step : List Str := ["looks", "side", "x", "length"]
theorem scbest_step : FnScope N_best_step P_best_step (defScope sbest_step) := ⟨rfl, rfl, rfl, by decide +kernel, rfl, by decide +kernel, by decide +kernel⟩
abbrev sWalk_init : Stmt := inClass (top 17) 0
abbrev N_Walk_init : List Str := ["self", "hands", "side", "x"]
abbrev P_Walk_init : List Str := ["self", "hands", "side", "x"]
theorem scWalk_init : FnScope N_Walk_init P_Walk_init (defScope sWalk_init) := ⟨rfl, rfl, rfl, by decide +kernel, rfl, by decide +kernel, by decide +kernel⟩
abbrev sWalkfollow : Stmt := inClass (top 17) 1
abbrev N_Walkfollow : List Str := ["self", "length", "known", "side", "seen", "uses", "number", "mark", "place", "look"]
abbrev P_Walkfollow : List Str := ["self", "length", "known", "side"]
theorem scWalkfollow : FnScope N_Walkfollow P_Walkfollow (defScope sWalkfollow) := ⟨rfl, rfl, rfl, by decide +kernel, rfl, by decide +kernel, by decide +kernel⟩
abbrev sWalk_period : Stmt := inClass (top 17) 2
abbrev N_Walk_period : List Str := ["self"]
abbrev P_Walk_period : List Str := ["self"]
theorem scWalk_period : FnScope N_Walk_period P_Walk_period (defScope sWalk_period) := ⟨rfl, rfl, rfl, by decide +kernel, rfl, by decide +kernel, by decide +kernel⟩
abbrev sWalk_climb : Stmt := inClass (top 17) 3
abbrev N_Walk_climb : List Str := ["self"]
abbrev P_Walk_climb : List Str := ["self"]
theorem scWalk_climb : FnScope N_Walk_climb P_Walk_climb (defScope sWalk_climb) := ⟨rfl, rfl, rfl, by decide +kernel, rfl, by decide +kernel, by decide +kernel⟩
abbrev sWalk_behind : Stmt := inClass (top 17) 4
abbrev N_Walk_behind : List Str := ["self", "uses", "times", "rest"]
abbrev P_Walk_behind : List Str := ["self", "uses"]
theorem scWalk_behind : FnScope N_Walk_behind P_Walk_behind (defScope sWalk_behind) := ⟨rfl, rfl, rfl, by decide +kernel, rfl, by decide +kernel, by decide +kernel⟩
abbrev scheck_round : Stmt := top 19
abbrev N_check_round : List Str := ["hands", "length", "number", "hand"]
abbrev P_check_round : List Str := ["hands"]
theorem sccheck_round : FnScope N_check_round P_check_round (defScope scheck_round) := ⟨rfl, rfl, rfl, by decide +kernel, rfl, by decide +kernel, by decide +kernel⟩
abbrev splace_behind : Stmt := top 20
abbrev N_place_behind : List Str := ["hands", "side", "x", "uses"]
abbrev P_place_behind : List Str := ["hands", "side", "x", "uses"]
theorem scplace_behind : FnScope N_place_behind P_place_behind (defScope splace_behind) := ⟨rfl, rfl, rfl, by decide +kernel, rfl, by decide +kernel, by decide +kernel⟩
abbrev sleast_behind : Stmt := top 21
abbrev N_least_behind : List Str := ["hands", "x", "uses"]
abbrev P_least_behind : List Str := ["hands", "x", "uses"]
theorem scleast_behind : FnScope N_least_behind P_least_behind (defScope sleast_behind) := ⟨rfl, rfl, rfl, by decide +kernel, rfl, by decide +kernel, by decide +kernel⟩
abbrev sgreatest_behind : Stmt := top 22
abbrev N_greatest_behind : List Str := ["hands", "x", "uses"]
abbrev P_greatest_behind : List Str := ["hands", "x", "uses"]
theorem scgreatest_behind : FnScope N_greatest_behind P_greatest_behind (defScope sgreatest_behind) := ⟨rfl, rfl, rfl, by decide +kernel, rfl, by decide +kernel, by decide +kernel⟩
abbrev stoo_far : Stmt := top 25
abbrev N_too_far : List Str := ["low", "high", "length"]
abbrev P_too_far : List Str := ["low", "high", "length"]
theorem sctoo_far : FnScope N_too_far P_too_far (defScope stoo_far) := ⟨rfl, rfl, rfl, by decide +kernel, rfl, by decide +kernel, by decide +kernel⟩
abbrev sclash : Stmt := top 26
abbrev N_clash : List Str := ["look", "other", "length"]
abbrev P_clash : List Str := ["look", "other", "length"]
theorem scclash : FnScope N_clash P_clash (defScope sclash) := ⟨rfl, rfl, rfl, by decide +kernel, rfl, by decide +kernel, by decide +kernel⟩
abbrev sDark_init : Stmt := inClass (top 27) 0
abbrev N_Dark_init : List Str := ["self", "length"]
abbrev P_Dark_init : List Str := ["self", "length"]
theorem scDark_init : FnScope N_Dark_init P_Dark_init (defScope sDark_init) := ⟨rfl, rfl, rfl, by decide +kernel, rfl, by decide +kernel, by decide +kernel⟩
abbrev sDark_length : Stmt := inClass (top 27) 3
abbrev N_Dark_length : List Str := ["self"]
abbrev P_Dark_length : List Str := ["self"]
theorem scDark_length : FnScope N_Dark_length P_Dark_length (defScope sDark_length) := ⟨rfl, rfl, rfl, by decide +kernel, rfl, by decide +kernel, by decide +kernel⟩
abbrev sDark_hear : Stmt := inClass (top 27) 4
abbrev N_Dark_hear : List Str := ["self", "word", "x", "y", "look", "other"]
abbrev P_Dark_hear : List Str := ["self", "word", "x", "y"]
theorem scDark_hear : FnScope N_Dark_hear P_Dark_hear (defScope sDark_hear) := ⟨rfl, rfl, rfl, by decide +kernel, rfl, by decide +kernel, by decide +kernel⟩
abbrev sDark_drop : Stmt := inClass (top 27) 5
abbrev N_Dark_drop : List Str := ["self", "word", "x", "y", "look", "other"]
abbrev P_Dark_drop : List Str := ["self", "word", "x", "y"]
theorem scDark_drop : FnScope N_Dark_drop P_Dark_drop (defScope sDark_drop) := ⟨rfl, rfl, rfl, by decide +kernel, rfl, by decide +kernel, by decide +kernel⟩
abbrev sDark_looks : Stmt := inClass (top 27) 6
abbrev N_Dark_looks : List Str := ["self"]
abbrev P_Dark_looks : List Str := ["self"]
theorem scDark_looks : FnScope N_Dark_looks P_Dark_looks (defScope sDark_looks) := ⟨rfl, rfl, rfl, by decide +kernel, rfl, by decide +kernel, by decide +kernel⟩
abbrev sDarkcheck_word : Stmt := inClass (top 27) 12
abbrev N_Darkcheck_word : List Str := ["self", "word"]
abbrev P_Darkcheck_word : List Str := ["self", "word"]
theorem scDarkcheck_word : FnScope N_Darkcheck_word P_Darkcheck_word (defScope sDarkcheck_word) := ⟨rfl, rfl, rfl, by decide +kernel, rfl, by decide +kernel, by decide +kernel⟩
abbrev sDarkhome : Stmt := inClass (top 27) 13
abbrev N_Darkhome : List Str := ["self", "word", "x", "y", "turns"]
abbrev P_Darkhome : List Str := ["self", "word", "x", "y"]
theorem scDarkhome : FnScope N_Darkhome P_Darkhome (defScope sDarkhome) := ⟨rfl, rfl, rfl, by decide +kernel, rfl, by decide +kernel, by decide +kernel⟩
abbrev sDarkclashing : Stmt := inClass (top 27) 14
abbrev N_Darkclashing : List Str := ["self", "look", "other"]
abbrev P_Darkclashing : List Str := ["self", "look"]
theorem scDarkclashing : FnScope N_Darkclashing P_Darkclashing (defScope sDarkclashing) := ⟨rfl, rfl, rfl, by decide +kernel, rfl, by decide +kernel, by decide +kernel⟩
abbrev slaw : Stmt := top 39
abbrev N_law : List Str := ["script", "deck", "lap", "wide", "darks", "k", "line", "spots", "many", "heard", "some", "word", "spot", "there", "told", "other", "dark", "at"]
abbrev P_law : List Str := ["script"]
theorem sclaw : FnScope N_law P_law (defScope slaw) := ⟨rfl, rfl, rfl, by decide +kernel, rfl, by decide +kernel, by decide +kernel⟩
structure Ad where
  C : Addr
  C_Walk : Addr
  a_law_deck : Addr
  d_law_deck : FuncData
  a_law_take : Addr
  d_law_take : FuncData
  a_law_below : Addr
  d_law_below : FuncData
  a_law_wide : Addr
  d_law_wide : FuncData
  a_law_hidden : Addr
  d_law_hidden : FuncData
  a_law_looks : Addr
  d_law_looks : FuncData
  a_law_told : Addr
  d_law_told : FuncData
  a_law_is_closer : Addr
  d_law_is_closer : FuncData
  a_law_mixed : Addr
  d_law_mixed : FuncData
  a_side_looks : Addr
  d_side_looks : FuncData
  a_round_looks : Addr
  d_round_looks : FuncData
  a_place_by : Addr
  d_place_by : FuncData
  a_best_step : Addr
  d_best_step : FuncData
  a_Walk_init : Addr
  d_Walk_init : FuncData
  a_Walkfollow : Addr
  d_Walkfollow : FuncData
  a_Walk_period : Addr
  d_Walk_period : FuncData
  a_Walk_climb : Addr
  d_Walk_climb : FuncData
  a_Walk_behind : Addr
  d_Walk_behind : FuncData
  a_check_round : Addr
  d_check_round : FuncData
  a_place_behind : Addr
  d_place_behind : FuncData
  a_least_behind : Addr
  d_least_behind : FuncData
  a_greatest_behind : Addr
  d_greatest_behind : FuncData
  a_too_far : Addr
  d_too_far : FuncData
  a_clash : Addr
  d_clash : FuncData
  a_Dark_init : Addr
  d_Dark_init : FuncData
  a_Dark_length : Addr
  d_Dark_length : FuncData
  a_Dark_hear : Addr
  d_Dark_hear : FuncData
  a_Dark_drop : Addr
  d_Dark_drop : FuncData
  a_Dark_looks : Addr
  d_Dark_looks : FuncData
  a_Darkcheck_word : Addr
  d_Darkcheck_word : FuncData
  a_Darkhome : Addr
  d_Darkhome : FuncData
  a_Darkclashing : Addr
  d_Darkclashing : FuncData
  a_law : Addr
  d_law : FuncData
  v_SLOW : Value
  v_FAST : Value
  a_WORDS : Addr
  a_LW : Addr
  t_slow : Addr
  t_fast : Addr
structure Tx (K : PySem.W.Frag) (w : World) (mg : Str → Option Value) (Z : Ad) : Prop where
  F_law_deck : Fun K "_law_deck" "_law_deck" slaw_deck Z.a_law_deck Z.d_law_deck
  bb_law_deck : Binds K Z.d_law_deck P_law_deck []
  g_law_deck : mg "_law_deck" = some (.ref Z.a_law_deck)
  F_law_take : Fun K "_law_take" "_law_take" slaw_take Z.a_law_take Z.d_law_take
  bb_law_take : Binds K Z.d_law_take P_law_take []
  g_law_take : mg "_law_take" = some (.ref Z.a_law_take)
  F_law_below : Fun K "_law_below" "_law_below" slaw_below Z.a_law_below Z.d_law_below
  bb_law_below : Binds K Z.d_law_below P_law_below []
  g_law_below : mg "_law_below" = some (.ref Z.a_law_below)
  F_law_wide : Fun K "_law_wide" "_law_wide" slaw_wide Z.a_law_wide Z.d_law_wide
  bb_law_wide : Binds K Z.d_law_wide P_law_wide []
  g_law_wide : mg "_law_wide" = some (.ref Z.a_law_wide)
  F_law_hidden : Fun K "_law_hidden" "_law_hidden" slaw_hidden Z.a_law_hidden Z.d_law_hidden
  bb_law_hidden : Binds K Z.d_law_hidden P_law_hidden []
  g_law_hidden : mg "_law_hidden" = some (.ref Z.a_law_hidden)
  F_law_looks : Fun K "_law_looks" "_law_looks" slaw_looks Z.a_law_looks Z.d_law_looks
  bb_law_looks : Binds K Z.d_law_looks P_law_looks []
  g_law_looks : mg "_law_looks" = some (.ref Z.a_law_looks)
  F_law_told : Fun K "_law_told" "_law_told" slaw_told Z.a_law_told Z.d_law_told
  bb_law_told : Binds K Z.d_law_told P_law_told []
  g_law_told : mg "_law_told" = some (.ref Z.a_law_told)
  F_law_is_closer : Fun K "_law_is_closer" "_law_is_closer" slaw_is_closer Z.a_law_is_closer Z.d_law_is_closer
  bb_law_is_closer : Binds K Z.d_law_is_closer P_law_is_closer []
  g_law_is_closer : mg "_law_is_closer" = some (.ref Z.a_law_is_closer)
  F_law_mixed : Fun K "_law_mixed" "_law_mixed" slaw_mixed Z.a_law_mixed Z.d_law_mixed
  bb_law_mixed : Binds K Z.d_law_mixed P_law_mixed []
  g_law_mixed : mg "_law_mixed" = some (.ref Z.a_law_mixed)
  F_side_looks : Fun K "side_looks" "side_looks" sside_looks Z.a_side_looks Z.d_side_looks
  bb_side_looks : Binds K Z.d_side_looks P_side_looks []
  g_side_looks : mg "side_looks" = some (.ref Z.a_side_looks)
  F_round_looks : Fun K "round_looks" "round_looks" sround_looks Z.a_round_looks Z.d_round_looks
  bb_round_looks : Binds K Z.d_round_looks P_round_looks []
  g_round_looks : mg "round_looks" = some (.ref Z.a_round_looks)
  F_place_by : Fun K "place_by" "place_by" splace_by Z.a_place_by Z.d_place_by
  bb_place_by : Binds K Z.d_place_by P_place_by []
  g_place_by : mg "place_by" = some (.ref Z.a_place_by)
  F_best_step : Fun K "best_step" "best_step" sbest_step Z.a_best_step Z.d_best_step
  bb_best_step : Binds K Z.d_best_step P_best_step []
  g_best_step : mg "best_step" = some (.ref Z.a_best_step)
  F_Walk_init : Fun K "__init__" "Walk.__init__" sWalk_init Z.a_Walk_init Z.d_Walk_init
  bb_Walk_init : Binds K Z.d_Walk_init P_Walk_init []
  F_Walkfollow : Fun K "_follow" "Walk._follow" sWalkfollow Z.a_Walkfollow Z.d_Walkfollow
  bb_Walkfollow : Binds K Z.d_Walkfollow P_Walkfollow []
  m_Walkfollow : Meth K Z.C_Walk "_follow" Z.a_Walkfollow
  F_Walk_period : Fun K "period" "Walk.period" sWalk_period Z.a_Walk_period Z.d_Walk_period
  bb_Walk_period : Binds K Z.d_Walk_period P_Walk_period []
  m_Walk_period : Meth K Z.C_Walk "period" Z.a_Walk_period
  F_Walk_climb : Fun K "climb" "Walk.climb" sWalk_climb Z.a_Walk_climb Z.d_Walk_climb
  bb_Walk_climb : Binds K Z.d_Walk_climb P_Walk_climb []
  m_Walk_climb : Meth K Z.C_Walk "climb" Z.a_Walk_climb
  F_Walk_behind : Fun K "behind" "Walk.behind" sWalk_behind Z.a_Walk_behind Z.d_Walk_behind
  bb_Walk_behind : Binds K Z.d_Walk_behind P_Walk_behind []
  m_Walk_behind : Meth K Z.C_Walk "behind" Z.a_Walk_behind
  F_check_round : Fun K "check_round" "check_round" scheck_round Z.a_check_round Z.d_check_round
  bb_check_round : Binds K Z.d_check_round P_check_round []
  g_check_round : mg "check_round" = some (.ref Z.a_check_round)
  F_place_behind : Fun K "place_behind" "place_behind" splace_behind Z.a_place_behind Z.d_place_behind
  bb_place_behind : Binds K Z.d_place_behind P_place_behind []
  g_place_behind : mg "place_behind" = some (.ref Z.a_place_behind)
  F_least_behind : Fun K "least_behind" "least_behind" sleast_behind Z.a_least_behind Z.d_least_behind
  bb_least_behind : Binds K Z.d_least_behind P_least_behind []
  g_least_behind : mg "least_behind" = some (.ref Z.a_least_behind)
  F_greatest_behind : Fun K "greatest_behind" "greatest_behind" sgreatest_behind Z.a_greatest_behind Z.d_greatest_behind
  bb_greatest_behind : Binds K Z.d_greatest_behind P_greatest_behind []
  g_greatest_behind : mg "greatest_behind" = some (.ref Z.a_greatest_behind)
  F_too_far : Fun K "too_far" "too_far" stoo_far Z.a_too_far Z.d_too_far
  bb_too_far : Binds K Z.d_too_far P_too_far []
  g_too_far : mg "too_far" = some (.ref Z.a_too_far)
  F_clash : Fun K "clash" "clash" sclash Z.a_clash Z.d_clash
  bb_clash : Binds K Z.d_clash P_clash []
  g_clash : mg "clash" = some (.ref Z.a_clash)
  F_Dark_init : Fun K "__init__" "Dark.__init__" sDark_init Z.a_Dark_init Z.d_Dark_init
  bb_Dark_init : Binds K Z.d_Dark_init P_Dark_init []
  F_Dark_length : Fun K "length" "Dark.length" sDark_length Z.a_Dark_length Z.d_Dark_length
  bb_Dark_length : Binds K Z.d_Dark_length P_Dark_length []
  m_Dark_length : Meth K Z.C "length" Z.a_Dark_length
  F_Dark_hear : Fun K "hear" "Dark.hear" sDark_hear Z.a_Dark_hear Z.d_Dark_hear
  bb_Dark_hear : Binds K Z.d_Dark_hear P_Dark_hear []
  m_Dark_hear : Meth K Z.C "hear" Z.a_Dark_hear
  F_Dark_drop : Fun K "drop" "Dark.drop" sDark_drop Z.a_Dark_drop Z.d_Dark_drop
  bb_Dark_drop : Binds K Z.d_Dark_drop P_Dark_drop []
  m_Dark_drop : Meth K Z.C "drop" Z.a_Dark_drop
  F_Dark_looks : Fun K "looks" "Dark.looks" sDark_looks Z.a_Dark_looks Z.d_Dark_looks
  bb_Dark_looks : Binds K Z.d_Dark_looks P_Dark_looks []
  m_Dark_looks : Meth K Z.C "looks" Z.a_Dark_looks
  F_Darkcheck_word : Fun K "_check_word" "Dark._check_word" sDarkcheck_word Z.a_Darkcheck_word Z.d_Darkcheck_word
  bb_Darkcheck_word : Binds K Z.d_Darkcheck_word P_Darkcheck_word []
  m_Darkcheck_word : Meth K Z.C "_check_word" Z.a_Darkcheck_word
  F_Darkhome : Fun K "_home" "Dark._home" sDarkhome Z.a_Darkhome Z.d_Darkhome
  bb_Darkhome : Binds K Z.d_Darkhome P_Darkhome []
  m_Darkhome : Meth K Z.C "_home" Z.a_Darkhome
  F_Darkclashing : Fun K "_clashing" "Dark._clashing" sDarkclashing Z.a_Darkclashing Z.d_Darkclashing
  bb_Darkclashing : Binds K Z.d_Darkclashing P_Darkclashing []
  m_Darkclashing : Meth K Z.C "_clashing" Z.a_Darkclashing
  F_law : Fun K "law" "law" slaw Z.a_law Z.d_law
  bb_law : Binds K Z.d_law P_law []
  g_law : mg "law" = some (.ref Z.a_law)
  cl : Cls K Z.C
  g_Dark : mg "Dark" = some (.ref Z.C)
  cl_Walk : Cls K Z.C_Walk
  g_Walk : mg "Walk" = some (.ref Z.C_Walk)
  mk_Walk : Mk K Z.C_Walk Z.a_Walk_init
  nWalk_places : NoAttr K Z.C_Walk "places"
  nWalk_told_by : NoAttr K Z.C_Walk "told_by"
  nWalk_start : NoAttr K Z.C_Walk "start"
  mk_Dark : Mk K Z.C Z.a_Dark_init
  n_length : NoAttr K Z.C "_length"
  n_looks : NoAttr K Z.C "_looks"
  b_max : mg "max" = none
  b_min : mg "min" = none
  b_len : mg "len" = none
  b_range : mg "range" = none
  b_sorted : mg "sorted" = none
  b_set : mg "set" = none
  b_abs : mg "abs" = none
  b_list : mg "list" = none
  b_int : mg "int" = none
  b_enumerate : mg "enumerate" = none
  b_divmod : mg "divmod" = none
  g_SLOW : mg "SLOW" = some Z.v_SLOW
  r_SLOW : RelV (.str "slow") Z.v_SLOW
  g_FAST : mg "FAST" = some Z.v_FAST
  r_FAST : RelV (.str "fast") Z.v_FAST
  g_WORDS : mg "WORDS" = some (.ref Z.a_WORDS)
  kd_WORDS : ∃ es n, KDict K w Z.a_WORDS es n
  w_slow : PySem.W.nsIn K Z.a_WORDS "slow" = some (some (.ref Z.t_slow))
  w_fast : PySem.W.nsIn K Z.a_WORDS "fast" = some (some (.ref Z.t_fast))
  q_slow : ∀ H, SqT K H Z.t_slow [.str "at", .str "from"]
  q_fast : ∀ H, SqT K H Z.t_fast [.str "at", .str "upto"]
  g_LOOK_WORDS : mg "LOOK_WORDS" = some (.ref Z.a_LW)
  q_LW : ∀ H, SqT K H Z.a_LW [.str "at", .str "from", .str "upto"]
end KA
/-! Looks in plain Lean. -/
namespace KA
open PySem PySem.Spec PyProof.Rows L2 DP
/-- a look: word, x, y -/
abbrev Lk := Str × Int × Int
def encL (l : Lk) : PyData := .tuple [.str l.1, .int l.2.1, .int l.2.2]
def WordOk (x : Str) : Prop := x = "at" ∨ x = "from" ∨ x = "upto"
def SideOk (x : Str) : Prop := x = "slow" ∨ x = "fast"
/-- the words of a side, by truth -/
def onSide (sd x : Str) : Bool := if sd = "slow" then (decide (x = "at") || decide (x = "from")) else (decide (x = "at") || decide (x = "upto"))
/-- where a look alone tells that x is led -/
def plc (sd : Str) (l : Lk) (x L : Int) : Int := if sd = "slow" then l.2.2 + (x - l.2.1) / L * L else l.2.2 - (l.2.1 - x) / L * L
def Sized (n : Nat) (l : Lk) : Prop := l.2.1.natAbs < 2 ^ n ∧ l.2.2.natAbs < 2 ^ n
theorem slow_ne : ¬ (("fast" : Str) = "slow") := by decide +kernel
theorem plc_slow (l : Lk) (x L : Int) : plc "slow" l x L = l.2.2 + (x - l.2.1) / L * L := if_pos rfl
theorem plc_fast (l : Lk) (x L : Int) : plc "fast" l x L = l.2.2 - (l.2.1 - x) / L * L := if_neg slow_ne
def tooFar (a b : Lk) (L : Int) : Bool := onSide "slow" a.1 && onSide "fast" b.1 && decide (b.2.2 < plc "slow" a b.2.1 L)
def clashB (a b : Lk) (L : Int) : Bool := tooFar a b L || tooFar b a L
/-- brought home -/
def home (L : Int) (l : Lk) : Lk := (l.1, l.2.1 - l.2.1 / L * L, l.2.2 - l.2.1 / L * L)
theorem nat_div {a L : Int} (h : 0 < L) : (a / L).natAbs ≤ a.natAbs + 1 := Nat.le_succ_of_le (Int.natAbs_ediv_le_natAbs a L)
theorem sub_lt {a b : Int} {n : Nat} (ha : a.natAbs < 2 ^ n) (hb : b.natAbs < 2 ^ n) : (a - b).natAbs < 2 ^ (n + 1) := by
  rw [Nat.pow_succ]; omega
theorem add_lt {a b : Int} {n : Nat} (ha : a.natAbs < 2 ^ n) (hb : b.natAbs < 2 ^ n) : (a + b).natAbs < 2 ^ (n + 1) := by
  rw [Nat.pow_succ]; omega
theorem div_lt {a L : Int} {n : Nat} (h : 0 < L) (ha : a.natAbs < 2 ^ n) : (a / L).natAbs < 2 ^ (n + 1) := by
  have := nat_div (a := a) h
  have h1 : 1 ≤ 2 ^ n := Nat.one_le_two_pow
  rw [Nat.pow_succ]; omega
theorem lt_up {a : Int} {m n : Nat} (ha : a.natAbs < 2 ^ m) (h : m ≤ n) : a.natAbs < 2 ^ n := Nat.lt_of_lt_of_le ha (Nat.pow_le_pow_right (by decide) h)
section
variable {K : PySem.W.Frag} {H : Hp}
theorem dp_look {v : V} {l : Lk} (h : Dp K H v (encL l)) : ∃ a, v = .ref a ∧ SqT K H a [.str l.1, .int l.2.1, .int l.2.2] := by
  have h' : Dp K H v (.tuple [.str l.1, .int l.2.1, .int l.2.2]) := h
  cases h' with
  | tup s a =>
    cases a with
    | cons a1 a =>
      cases a with
      | cons a2 a =>
        cases a with
        | cons a3 a =>
          cases a; cases a1; cases a2; cases a3
          exact ⟨_, rfl, s⟩
theorem dp_list {v : V} {ds : List PyData} (h : Dp K H v (.list ds)) : ∃ a xs, v = .ref a ∧ SqL K H a xs ∧ DpAll K H xs ds := by
  cases h with
  | lst s a => exact ⟨_, _, rfl, s, a⟩
end
theorem decl_words {x : Str} (h : WordOk x) : inV (.str x) [.str "at", .str "from"] = onSide "slow" x ∧ inV (.str x) [.str "at", .str "upto"] = onSide "fast" x ∧ inV (.str x) [.str "at", .str "from", .str "upto"] = true := by
  rcases h with e | e | e <;> subst e <;> decide +kernel
theorem yes_ite {σ : L2.St} {H : Hp} {A B : Hp → Prop} (h : A H) : tYes σ H (fun b H3 => if b = true then A H3 else B H3) := by
  show (if true = true then A H else B H)
  rw [if_pos rfl]
  exact h
/-- data without lists: tuples, numbers, texts -/
def noL : PyData → Bool
  | .list _ => false
  | .dict _ => false
  | .tuple xs => noLs xs
  | _ => true
where noLs : List PyData → Bool
  | [] => true
  | x :: xs => noL x && noLs xs
/-- tuples stand -/
def Tups (H H' : Hp) : Prop := ∀ b xs, Rd H b (.tup xs) → Rd H' b (.tup xs)
theorem Tups.of_same {H H' : Hp} (S : Same H H') : Tups H H' := fun _ _ h => DP.Same.rd S h
theorem Tups.upd_lst {H : Hp} {D : Addr} {ys : List V} {o : HO} (h : H D = some (.lst ys)) : Tups H (upd H D o) := fun b xs hb => by
  have hn : b ≠ D := by
    rintro rfl
    rcases hb with e | ⟨q, e⟩ <;> rw [h] at e <;> cases e
  rcases hb with e | ⟨q, e⟩
  · exact .inl ((upd_ne hn).trans e)
  · exact .inr ⟨q, (upd_ne hn).trans e⟩
theorem Tups.upd_ins {H : Hp} {D C dx : Addr} {fs : List (Str × V)} {o : HO} (h : H D = some (.ins C dx fs)) : Tups H (upd H D o) := fun b xs hb => by
  have hn : b ≠ D := by
    rintro rfl
    rcases hb with e | ⟨q, e⟩ <;> rw [h] at e <;> cases e
  rcases hb with e | ⟨q, e⟩
  · exact .inl ((upd_ne hn).trans e)
  · exact .inr ⟨q, (upd_ne hn).trans e⟩
theorem Tups.trans {H H1 H2 : Hp} (a : Tups H H1) (b : Tups H1 H2) : Tups H H2 := fun c xs h => b c xs (a c xs h)
section
variable {K : PySem.W.Frag} {H H' : Hp}
mutual
theorem dp_tups (S : Tups H H') : ∀ (d : PyData) (v : V), noL d = true → Dp K H v d → Dp K H' v d
  | .none, _, _, h => by cases h; exact .non
  | .bool _, _, _, h => by cases h; exact .bl _
  | .int _, _, _, h => by cases h; exact .int _
  | .str _, _, _, h => by cases h; exact .str _
  | .list _, _, n, _ => by simp [noL] at n
  | .dict _, _, n, _ => by simp [noL] at n
  | .tuple ds, _, n, h => by
    cases h with
    | tup s a =>
      refine .tup ?_ (dpAll_tups S ds _ (by simpa [noL] using n) a)
      rcases s with s | s
      · exact .inl (S _ _ s)
      · exact .inr s
theorem dpAll_tups (S : Tups H H') : ∀ (ds : List PyData) (vs : List V), noL.noLs ds = true → DpAll K H vs ds → DpAll K H' vs ds
  | [], _, _, h => by cases h; exact .nil
  | d :: ds, _, n, h => by
    rw [noL.noLs, Bool.and_eq_true] at n
    cases h with
    | cons a b => exact .cons (dp_tups S d _ n.1 a) (dpAll_tups S ds _ n.2 b)
end
theorem noLs_map {β : Type} {enc : β → PyData} (h : ∀ b, noL (enc b) = true) : ∀ bs : List β, noL.noLs (bs.map enc) = true
  | [] => rfl
  | b :: bs => by
    show noL.noLs (enc b :: bs.map enc) = true
    rw [noL.noLs, h b, noLs_map h bs]; rfl
theorem noL_encL (l : Lk) : noL (encL l) = true := rfl
/-- one more at the list that a comprehension makes -/
theorem acc_step {D : Addr} {ys : List V} {ds : List PyData} {y : V} {d : PyData} (hD : H D = some (.lst ys)) (hn : noL.noLs ds = true) (hd : noL d = true) (h : DpAll K H ys ds) (hy : Dp K H y d) :
    DpAll K (upd H D (.lst (ys ++ [y]))) (ys ++ [y]) (ds ++ [d]) :=
  dpAll_snoc (dpAll_tups (Tups.upd_lst hD) _ _ hn h) (dp_tups (Tups.upd_lst hD) _ _ hd hy)
end
theorem same_set {H : Hp} {p : Addr} {o : HO} {H1 : Hp} (S : Same H H1) (hn : H p = none) : Same H (upd H1 p o) := fun b u e => by rw [upd_ne (ne_of_none e hn)]; exact S b u e
theorem take_snoc {α : Type} : ∀ {l : List α} {i : Nat} {x : α}, l[i]? = some x → l.take (i + 1) = l.take i ++ [x]
  | [], i, x, h => by simp at h
  | a :: l, 0, x, h => by
    have e : a = x := Option.some.inj h
    subst e
    rfl
  | a :: l, i + 1, x, h => by
    have ih := take_snoc (l := l) (i := i) (x := x) h
    show a :: l.take (i + 1) = a :: l.take i ++ [x]
    rw [ih]; rfl
theorem map_at {α β : Type} {f : α → β} {l : List α} {i : Nat} {y : β} (h : (l.map f)[i]? = some y) : ∃ x, l[i]? = some x ∧ y = f x := by
  rw [List.getElem?_map] at h
  cases e : l[i]? with
  | none => rw [e] at h; cases h
  | some x => rw [e] at h; exact ⟨x, rfl, (Option.some.inj h).symm⟩
end KA
namespace KA
open PySem PySem.Spec PyProof.Rows L2 DP
def spPlace (K : PySem.W.Frag) : Sp := fun vs H Q _ => ∃ (v : V) (l : Lk) (sd : Str) (x L : Int), vs = [v, .str sd, .int x, .int L] ∧ Dp K H v (encL l) ∧ SideOk sd ∧ 0 < L ∧ L.natAbs < 2 ^ 200 ∧ x.natAbs < 2 ^ 400 ∧ Sized 400 l ∧ Q (.int (plc sd l x L)) H
def spFar (K : PySem.W.Frag) (f : Lk → Lk → Int → Bool) : Sp := fun vs H Q _ => ∃ (v u : V) (a b : Lk) (L : Int), vs = [v, u, .int L] ∧ Dp K H v (encL a) ∧ Dp K H u (encL b) ∧ WordOk a.1 ∧ WordOk b.1 ∧ 0 < L ∧ L.natAbs < 2 ^ 200 ∧ Sized 400 a ∧ Sized 400 b ∧ Q (.bl (f a b L)) H
section
variable {P : Program} {w : World} {K : PySem.W.Frag} {mg : Str → Option Value} {base : Heap} {Z : Ad}
theorem ok_place_by (T : Tx K w mg Z) : FnOk P w K mg base CX0 1 Z.a_place_by Z.d_place_by P_place_by (spPlace K) := by
  refine T.F_place_by.ok scplace_by (fun vs H Q E h => ?_) (fun cdv A outer s H vs Q E hr h => ?_)
  · obtain ⟨v, l, sd, x, L, rfl, _⟩ := h
    rfl
  · obtain ⟨v, l, sd, x, L, rfl, hv, hsd, hL, hLb, hx, hl, k⟩ := h
    obtain ⟨a, rfl, ha⟩ := dp_look hv
    refine ⟨_, (pss_cons (ps_asg (pv 0) (tupK (K := K) (by rfl) (pgs_cons (pg_name (i := 4) scplace_by.nd rfl (Or.inl rfl)) (pgs_cons (pg_name (i := 5) scplace_by.nd rfl (Or.inl rfl)) (pgs_cons (pg_name (i := 6) scplace_by.nd rfl (Or.inl rfl)) pgs_nil)))))
      (C8.pss_cut (ps_if (pt_cmpR op_eq (pv 1) (pe_glob rfl T.g_SLOW T.r_SLOW) (nomark _)) (pss_one (ps_ret (pe_op op_add (pv 6) (pe_op op_mulW (pe_op op_fdivW (pe_op op_sub (pv 2) (pv 5)) (pv 3)) (pv 3))))) pss_nil)
      (pss_one (ps_ret (pe_op op_sub (pv 6) (pe_op op_mulW (pe_op op_fdivW (pe_op op_sub (pv 5) (pv 2)) (pv 3)) (pv 3))))))), ?_⟩
    refine ⟨_, rfl, _, _, rfl, ha, rfl, _, _, rfl, _, _, rfl, _, _, rfl, rfl, ?_⟩
    have e1 : (x - l.2.1).natAbs < 2 ^ 401 := sub_lt hx hl.1
    have e2 : (l.2.1 - x).natAbs < 2 ^ 401 := sub_lt hl.1 hx
    rcases hsd with e | e
    · subst e
      rw [plc_slow] at k
      refine ⟨fun _ _ => False, ⟨_, rfl, rfl, _, rfl, iteT ⟨_, rfl, _, rfl, _, rfl, _, _, rfl, rfl, _, rfl, _, _, rfl, rfl, wide_div hL hLb (by decide) (by decide), _, rfl, _, _, rfl, rfl, wide_mul (div_lt hL e1) hLb (by decide) (by decide) (by decide), _, _, rfl, rfl, k⟩⟩, fun _ _ z => z.elim⟩
    · subst e
      rw [plc_fast] at k
      refine ⟨fun σ' H' => σ' = [some (.ref a), some (.str "fast"), some (.int x), some (.int L), some (.str l.1), some (.int l.2.1), some (.int l.2.2)] ∧ H' = H, ⟨_, rfl, rfl, _, rfl, ?_⟩, ?_⟩
      · have e3 : decide (V.str "fast" = V.str "slow") = false := by decide +kernel
        rw [e3]
        exact iteF ⟨rfl, rfl⟩
      · rintro σ1 H1 ⟨rfl, rfl⟩
        exact ⟨_, rfl, _, rfl, _, rfl, _, _, rfl, rfl, _, rfl, _, _, rfl, rfl, wide_div hL hLb (by decide) (by decide), _, rfl, _, _, rfl, rfl, wide_mul (div_lt hL e2) hLb (by decide) (by decide) (by decide), _, _, rfl, rfl, k⟩
theorem ok_too_far (T : Tx K w mg Z) : FnOk P w K mg base CX0 2 Z.a_too_far Z.d_too_far P_too_far (spFar K tooFar) := by
  refine T.F_too_far.ok sctoo_far (fun vs H Q E h => ?_) (fun cdv A outer s H vs Q E hr h => ?_)
  · obtain ⟨v, u, a, b, L, rfl, _⟩ := h
    rfl
  · obtain ⟨v, u, a, b, L, rfl, hv, hu, wa, wb, hL, hLb, sa, sb, k⟩ := h
    obtain ⟨p, rfl, hp⟩ := dp_look hv
    obtain ⟨q, rfl, hq⟩ := dp_look hu
    obtain ⟨es, n, DW⟩ := T.kd_WORDS
    obtain ⟨da1, da2, _⟩ := decl_words wa
    obtain ⟨db1, db2, _⟩ := decl_words wb
    refine ⟨_, (C8.pss_cut (ps_if (PW.pt (pw_or (pt_cmpR (notInS (K := K)) (pe_ix (ixT (K := K)) (pv 0) pe_int (fun _ _ => rfl)) (pe_ix (ix_kd DW) (pe_glob (v := .ref Z.a_WORDS) rfl T.g_WORDS rfl) (pe_glob rfl T.g_SLOW T.r_SLOW) (fun _ _ => rfl)) (by rfl)) (pw_or1 (pt_cmpR (notInS (K := K)) (pe_ix (ixT (K := K)) (pv 1) pe_int (fun _ _ => rfl)) (pe_ix (ix_kd DW) (pe_glob (v := .ref Z.a_WORDS) rfl T.g_WORDS rfl) (pe_glob rfl T.g_FAST T.r_FAST) (fun _ _ => rfl)) (by rfl))))) (pss_one (ps_ret pe_bl)) pss_nil)
      (pss_one (ps_ret (pe_cmpR op_gt (pe_call (ok_place_by T) (hr.mono (by decide)) (by rfl) T.g_place_by T.F_place_by.kp T.bb_place_by .nil pass0 (pa_cons (pv 0) (pa_cons (pe_glob rfl T.g_SLOW T.r_SLOW) (pa_cons (pe_ix (ixT (K := K)) (pv 1) pe_int (fun _ _ => rfl)) (pa_cons (pv 2) pa_nil))))) (pe_ix (ixT (K := K)) (pv 1) pe_int (fun _ _ => rfl)) (nomark _))))), ?_⟩
    unfold tooFar at k
    refine ⟨fun σ' H' => σ' = [some (.ref p), some (.ref q), some (.int L)] ∧ H' = H ∧ onSide "slow" a.1 = true ∧ onSide "fast" b.1 = true, ?_, ?_⟩
    · refine ⟨_, rfl, _, _, _, _, rfl, rfl, hp, rfl, _, _, .ref Z.t_slow, rfl, rfl, T.w_slow, rfl, _, _, rfl, .inr (T.q_slow _), rfl, rfl, _, rfl, ?_⟩
      cases c1 : onSide "slow" a.1 with
      | false =>
        rw [c1] at da1 k
        have : (if true = true then !inV (V.str a.1) [V.str "at", V.str "from"] else inV (V.str a.1) [V.str "at", V.str "from"]) = true := by rw [if_pos rfl, da1]; rfl
        rw [this]
        exact iteT (iteT k)
      | true =>
        rw [c1] at da1
        have : (if true = true then !inV (V.str a.1) [V.str "at", V.str "from"] else inV (V.str a.1) [V.str "at", V.str "from"]) = false := by rw [if_pos rfl, da1]; rfl
        rw [this]
        refine iteF ⟨_, rfl, _, _, _, _, rfl, rfl, hq, rfl, _, _, .ref Z.t_fast, rfl, rfl, T.w_fast, rfl, _, _, rfl, .inr (T.q_fast _), rfl, rfl, _, rfl, ?_⟩
        cases c2 : onSide "fast" b.1 with
        | false =>
          rw [c2] at db2
          rw [c1, c2] at k
          have : (if true = true then !inV (V.str b.1) [V.str "at", V.str "upto"] else inV (V.str b.1) [V.str "at", V.str "upto"]) = true := by rw [if_pos rfl, db2]; rfl
          rw [this]
          exact iteT k
        | true =>
          rw [c2] at db2
          have : (if true = true then !inV (V.str b.1) [V.str "at", V.str "upto"] else inV (V.str b.1) [V.str "at", V.str "upto"]) = false := by rw [if_pos rfl, db2]; rfl
          rw [this]
          exact iteF ⟨rfl, rfl, rfl, rfl⟩
    · rintro σ1 H1 ⟨rfl, rfl, c1, c2⟩
      rw [c1, c2] at k
      refine ⟨_, rfl, _, rfl, _, _, _, _, rfl, rfl, hq, rfl, _, rfl, ?_⟩
      exact ⟨_, a, "slow", b.2.1, L, rfl, hv, .inl rfl, hL, hLb, sb.1, sa, _, rfl, _, _, _, _, rfl, rfl, hq, rfl, _, _, rfl, rfl, k⟩
theorem ok_clash (T : Tx K w mg Z) : FnOk P w K mg base CX0 3 Z.a_clash Z.d_clash P_clash (spFar K clashB) := by
  refine T.F_clash.ok scclash (fun vs H Q E h => ?_) (fun cdv A outer s H vs Q E hr h => ?_)
  · obtain ⟨v, u, a, b, L, rfl, _⟩ := h
    rfl
  · obtain ⟨v, u, a, b, L, rfl, hv, hu, wa, wb, hL, hLb, sa, sb, k⟩ := h
    refine ⟨_, (pss_one (ps_ret (pe_or (pe_call (ok_too_far T) (hr.mono (by decide)) (by rfl) T.g_too_far T.F_too_far.kp T.bb_too_far .nil pass0 (pa_cons (pv 0) (pa_cons (pv 1) (pa_cons (pv 2) pa_nil)))) (pe_one (pe_call (ok_too_far T) (hr.mono (by decide)) (by rfl) T.g_too_far T.F_too_far.kp T.bb_too_far .nil pass0 (pa_cons (pv 1) (pa_cons (pv 0) (pa_cons (pv 2) pa_nil)))))))), ?_⟩
    unfold clashB at k
    refine ⟨_, rfl, _, rfl, _, rfl, v, u, a, b, L, rfl, hv, hu, wa, wb, hL, hLb, sa, sb, _, rfl, ?_⟩
    cases c : tooFar a b L with
    | true => rw [c] at k; exact iteT k
    | false =>
      rw [c] at k
      exact iteF ⟨_, rfl, _, rfl, _, rfl, u, v, b, a, L, rfl, hu, hv, wb, wa, hL, hLb, sb, sa, k⟩
end
end KA
namespace KA
open PySem PySem.Spec PyProof.Rows L2 DP
def sideOf (sd : Str) (ls : List Lk) : List Lk := ls.filter fun l => onSide sd l.1
def spSide (K : PySem.W.Frag) : Sp := fun vs H Q _ => ∃ (v : V) (ls : List Lk) (sd : Str), vs = [v, .str sd] ∧ Dp K H v (.list (ls.map encL)) ∧ SideOk sd ∧ (∀ l ∈ ls, WordOk l.1) ∧ ls.length ≤ 1000 ∧
  ∀ H' p, H p = none → Same H H' → (∃ vs, H' p = some (.lst vs) ∧ DpAll K H' vs ((sideOf sd ls).map encL)) → Q (.ref p) H'
/-- a step: where, by which look -/
def encS (sd : Str) (x L : Int) (l : Lk) : PyData := .tuple [.int (plc sd l x L), encL l]
/-- the best step's place -/
def IsBest (sd : Str) (ls : List Lk) (x L m : Int) : Prop := (∃ l ∈ ls, plc sd l x L = m) ∧ ∀ l ∈ ls, if sd = "slow" then plc sd l x L ≤ m else m ≤ plc sd l x L
def spBest (K : PySem.W.Frag) : Sp := fun vs H Q _ => ∃ (v : V) (ls : List Lk) (sd : Str) (x L : Int), vs = [v, .str sd, .int x, .int L] ∧ Dp K H v (.list (ls.map encL)) ∧ SideOk sd ∧ (∀ l ∈ ls, WordOk l.1 ∧ Sized 400 l) ∧ ls.length ≤ 1000 ∧ 0 < L ∧ L.natAbs < 2 ^ 200 ∧ x.natAbs < 2 ^ 400 ∧
  (ls = [] → Q .non H) ∧ ∀ H' r l, l ∈ ls → Same H H' → IsBest sd ls x L (plc sd l x L) → Dp K H' r (encS sd x L l) → Q r H'
/-! ### the best step -/
theorem alike_step (sd : Str) (x L : Int) (a b : Lk) : PySem.W.alike (encS sd x L a) (encS sd x L b) = true := by simp [encS, encL, PySem.W.alike, PySem.W.alikeAll]
theorem steps_alike (sd : Str) (x L : Int) (ls : List Lk) : PySem.W.AlikeAll (ls.map (encS sd x L)) := by
  refine ⟨fun a ha b hb => ?_, fun a ha => ?_⟩
  · obtain ⟨p, _, rfl⟩ := List.mem_map.mp ha
    obtain ⟨q, _, rfl⟩ := List.mem_map.mp hb
    exact alike_step _ _ _ _ _
  · obtain ⟨p, _, rfl⟩ := List.mem_map.mp ha
    exact fun e => by cases e
theorem lay_look {l : Lk} (h : WordOk l.1) : (encL l).canLay0 = true := by
  obtain ⟨a, b, c⟩ := l
  have h : WordOk a := h
  rcases h with e | e | e <;> subst e <;> simp [encL, PyData.canLay0, PyData.canLayAll0] <;> decide +kernel
theorem steps_lay (sd : Str) (x L : Int) : ∀ ls : List Lk, (∀ l ∈ ls, WordOk l.1) → PyData.canLayAll0 (ls.map (encS sd x L)) = true
  | [], _ => rfl
  | l :: ls, h => by
    have h1 := lay_look (h l List.mem_cons_self)
    have h2 := steps_lay sd x L ls fun q hq => h q (List.mem_cons_of_mem _ hq)
    show PyData.canLayAll0 (encS sd x L l :: ls.map (encS sd x L)) = true
    simp [PyData.canLayAll0, h2, encS, PyData.canLay0, h1]
theorem steps_depth (sd : Str) (x L : Int) : ∀ ls : List Lk, PyData.depthAll (ls.map (encS sd x L)) ≤ 60
  | [] => by simp [PyData.depthAll]
  | l :: ls => by
    have h2 := steps_depth sd x L ls
    show PyData.depthAll (encS sd x L l :: ls.map (encS sd x L)) ≤ 60
    have h3 : (encS sd x L l).depth = 2 := by simp [encS, encL, PyData.depth, PyData.depthAll]
    rw [PyData.depthAll, h3]
    omega
/-- a greater place is a greater step -/
theorem lt_step {sd : Str} {x L : Int} {a b : Lk} (h : plc sd a x L < plc sd b x L) : PySem.W.dataLt (encS sd x L a) (encS sd x L b) = true := by
  unfold encS
  rw [PySem.W.dataLt_tuple, PySem.W.dataLt_cons (by simp [PySem.W.alike])]
  have e : PyData.eqv (.int (plc sd a x L)) (.int (plc sd b x L)) = false := by simp [PyData.eqv]; omega
  rw [e, if_neg Bool.false_ne_true, PySem.W.dataLt_int]
  exact decide_eq_true h
theorem le_step {sd : Str} {x L : Int} {a b : Lk} (h : PySem.W.dataLt (encS sd x L a) (encS sd x L b) = true) : plc sd a x L ≤ plc sd b x L := by
  unfold encS at h
  rw [PySem.W.dataLt_tuple, PySem.W.dataLt_cons (by simp [PySem.W.alike])] at h
  by_cases e : plc sd a x L = plc sd b x L
  · omega
  · have e' : PyData.eqv (.int (plc sd a x L)) (.int (plc sd b x L)) = false := by simp [PyData.eqv]; omega
    rw [e', if_neg Bool.false_ne_true, PySem.W.dataLt_int] at h
    have := of_decide_eq_true h
    omega
theorem max_go (x L : Int) : ∀ (ls : List Lk) (l : Lk), ∃ q, (q = l ∨ q ∈ ls) ∧ (ls.map (encS "slow" x L)).foldl (fun a y => if PySem.W.dataLt a y then y else a) (encS "slow" x L l) = encS "slow" x L q ∧ plc "slow" l x L ≤ plc "slow" q x L ∧ ∀ p ∈ ls, plc "slow" p x L ≤ plc "slow" q x L
  | [], l => ⟨l, .inl rfl, rfl, Int.le_refl _, fun _ h => by cases h⟩
  | y :: ls, l => by
    rw [List.map_cons, List.foldl_cons]
    cases c : PySem.W.dataLt (encS "slow" x L l) (encS "slow" x L y) with
    | true =>
      rw [if_pos rfl]
      obtain ⟨q, hq, e, h1, h2⟩ := max_go x L ls y
      have := le_step c
      refine ⟨q, ?_, e, by omega, fun p hp => ?_⟩
      · rcases hq with e | e
        · subst e; exact .inr List.mem_cons_self
        · exact .inr (List.mem_cons_of_mem _ e)
      · rcases List.mem_cons.mp hp with e | e
        · subst e; exact h1
        · exact h2 p e
    | false =>
      rw [if_neg Bool.false_ne_true]
      obtain ⟨q, hq, e, h1, h2⟩ := max_go x L ls l
      refine ⟨q, ?_, e, h1, fun p hp => ?_⟩
      · rcases hq with e | e
        · exact .inl e
        · exact .inr (List.mem_cons_of_mem _ e)
      · rcases List.mem_cons.mp hp with e | e
        · subst e
          by_cases hlt : plc "slow" l x L < plc "slow" p x L
          · rw [lt_step hlt] at c; cases c
          · omega
        · exact h2 p e
theorem max_step (x L : Int) (l : Lk) (ls : List Lk) : ∃ q, q ∈ l :: ls ∧ PySem.W.maxD (encS "slow" x L l) (ls.map (encS "slow" x L)) = encS "slow" x L q ∧ IsBest "slow" (l :: ls) x L (plc "slow" q x L) := by
  obtain ⟨q, hq, e, h1, h2⟩ := max_go x L ls l
  have hm : q ∈ l :: ls := by
    rcases hq with e | e
    · subst e; exact List.mem_cons_self
    · exact List.mem_cons_of_mem _ e
  refine ⟨q, hm, e, ⟨q, hm, rfl⟩, fun p hp => ?_⟩
  rw [if_pos rfl]
  rcases List.mem_cons.mp hp with e | e
  · subst e; exact h1
  · exact h2 p e
theorem min_go (x L : Int) : ∀ (ls : List Lk) (l : Lk), ∃ q, (q = l ∨ q ∈ ls) ∧ (ls.map (encS "fast" x L)).foldl (fun a y => if PySem.W.dataLt y a then y else a) (encS "fast" x L l) = encS "fast" x L q ∧ plc "fast" q x L ≤ plc "fast" l x L ∧ ∀ p ∈ ls, plc "fast" q x L ≤ plc "fast" p x L
  | [], l => ⟨l, .inl rfl, rfl, Int.le_refl _, fun _ h => by cases h⟩
  | y :: ls, l => by
    rw [List.map_cons, List.foldl_cons]
    cases c : PySem.W.dataLt (encS "fast" x L y) (encS "fast" x L l) with
    | true =>
      rw [if_pos rfl]
      obtain ⟨q, hq, e, h1, h2⟩ := min_go x L ls y
      have := le_step c
      refine ⟨q, ?_, e, by omega, fun p hp => ?_⟩
      · rcases hq with e | e
        · subst e; exact .inr List.mem_cons_self
        · exact .inr (List.mem_cons_of_mem _ e)
      · rcases List.mem_cons.mp hp with e | e
        · subst e; exact h1
        · exact h2 p e
    | false =>
      rw [if_neg Bool.false_ne_true]
      obtain ⟨q, hq, e, h1, h2⟩ := min_go x L ls l
      refine ⟨q, ?_, e, h1, fun p hp => ?_⟩
      · rcases hq with e | e
        · exact .inl e
        · exact .inr (List.mem_cons_of_mem _ e)
      · rcases List.mem_cons.mp hp with e | e
        · subst e
          by_cases hlt : plc "fast" p x L < plc "fast" l x L
          · rw [lt_step hlt] at c; cases c
          · omega
        · exact h2 p e
theorem min_step (x L : Int) (l : Lk) (ls : List Lk) : ∃ q, q ∈ l :: ls ∧ PySem.W.minD (encS "fast" x L l) (ls.map (encS "fast" x L)) = encS "fast" x L q ∧ IsBest "fast" (l :: ls) x L (plc "fast" q x L) := by
  obtain ⟨q, hq, e, h1, h2⟩ := min_go x L ls l
  have hm : q ∈ l :: ls := by
    rcases hq with e | e
    · subst e; exact List.mem_cons_self
    · exact List.mem_cons_of_mem _ e
  refine ⟨q, hm, e, ⟨q, hm, rfl⟩, fun p hp => ?_⟩
  rw [if_neg slow_ne]
  rcases List.mem_cons.mp hp with e | e
  · subst e; exact h1
  · exact h2 p e
section
variable {P : Program} {w : World} {K : PySem.W.Frag} {mg : Str → Option Value} {base : Heap} {Z : Ad}
theorem words_side {sd x : Str} (hs : SideOk sd) (hx : WordOk x) : inV (.str x) (if sd = "slow" then [.str "at", .str "from"] else [.str "at", .str "upto"]) = onSide sd x := by
  obtain ⟨h1, h2, _⟩ := decl_words hx
  rcases hs with e | e
  · subst e; rw [if_pos rfl]; exact h1
  · subst e; rw [if_neg slow_ne]; exact h2
theorem ok_side_looks (T : Tx K w mg Z) : FnOk P w K mg base CX0 1 Z.a_side_looks Z.d_side_looks P_side_looks (spSide K) := by
  refine T.F_side_looks.ok scside_looks (fun vs H Q E h => ?_) (fun cdv A outer s H vs Q E hr h => ?_)
  · obtain ⟨v, ls, sd, rfl, _⟩ := h
    rfl
  · obtain ⟨v, ls, sd, rfl, hv, hsd, hw, hlen, k⟩ := h
    obtain ⟨a, xs, rfl, ha, hd⟩ := dp_list hv
    obtain ⟨es, n, DW⟩ := T.kd_WORDS
    have hxl : xs.length = ls.length := by rw [dpAll_len hd, List.length_map]
    obtain ⟨tw, htw, hqw⟩ : ∃ tw, PySem.W.nsIn K Z.a_WORDS sd = some (some (.ref tw)) ∧ ∀ H, SqT K H tw (if sd = "slow" then [.str "at", .str "from"] else [.str "at", .str "upto"]) := by
      rcases hsd with e | e
      · subst e; exact ⟨_, T.w_slow, fun H => by rw [if_pos rfl]; exact T.q_slow H⟩
      · subst e; exact ⟨_, T.w_fast, fun H => by rw [if_neg slow_ne]; exact T.q_fast H⟩
    refine ⟨_, (pss_cons (ps_set (i := 2) scside_looks.nd rfl (Or.inr rfl) (pe_ix (ix_kd DW) (pe_glob (v := .ref Z.a_WORDS) rfl T.g_WORDS rfl) (pv 1) (fun _ _ => rfl)))
      (pss_one (ps_ret (pe_lc (own := [("look", 3)]) (g := gName 3) (tt := _) rfl scside_looks.nd (pi_list (pv 0)) (blkOk_by (own := [("look", 3)]) (N := N_side_looks) (sc := defScope sside_looks) (by decide +kernel)) (fun _ _ _ _ _ => (pg_name (i := 3) scside_looks.nd rfl (Or.inl rfl))) (fun _ _ _ _ _ => (pts_one (pt_cmpR (inS (K := K)) (pe_ix (ixT (K := K)) (pv 3) pe_int (fun _ _ => rfl)) (pv 2) (by rfl)))) (fun _ _ _ _ _ => (pv 3)))))), ?_⟩
    refine ⟨_, rfl, sd, _, .ref tw, rfl, rfl, htw, rfl, _, rfl, a, rfl, ⟨_, ha⟩, fun D hD => ?_⟩
    refine lc_list (K := K) (a := a) (xs := xs) (fun i H' => Same H H' ∧ ∃ ys, H' D = some (.lst ys) ∧ ys.length ≤ i ∧ DpAll K H' ys ((sideOf sd (ls.take i)).map encL)) ⟨same_upd hD, [], upd_same, Nat.le_refl _, .nil⟩ (fun i H' _ ⟨S, _⟩ => Same.sqL S ha) ?_ ?_
    · rintro i y H' hi ⟨S, ys, hD', hyl, hds⟩
      obtain ⟨d, hdi, hdy⟩ := dpAll_get hd hi
      obtain ⟨l, hl, rfl⟩ := map_at hdi
      have hwl := hw l (List.mem_of_getElem? hl)
      have hdy' := dp_mono S _ _ hdy
      obtain ⟨p, rfl, hp⟩ := dp_look hdy'
      refine ⟨rfl, _, rfl, _, _, _, _, rfl, rfl, hp, rfl, _, rfl, _, _, rfl, .inr (hqw _), rfl, ?_, _, rfl, ?_⟩
      · split <;> rfl
      · have e1 : (if false = true then !inV (V.str l.1) (if sd = "slow" then [V.str "at", V.str "from"] else [V.str "at", V.str "upto"]) else inV (V.str l.1) (if sd = "slow" then [V.str "at", V.str "from"] else [V.str "at", V.str "upto"])) = onSide sd l.1 := by
          rw [if_neg Bool.false_ne_true]; exact words_side hsd hwl
        rw [e1]
        have e2 : sideOf sd (ls.take (i + 1)) = sideOf sd (ls.take i) ++ (if onSide sd l.1 = true then [l] else []) := by
          rw [take_snoc hl]; unfold sideOf; rw [List.filter_append]
          cases c : onSide sd l.1 <;> simp [c]
        cases c : onSide sd l.1 with
        | false =>
          refine iteF ⟨S, ys, hD', by omega, ?_⟩
          rw [e2, c]
          simpa using hds
        | true =>
          refine iteT ⟨_, rfl, ys, hD', ?_, ?_, _, upd_same, by simp; omega, ?_⟩
          · have : ys.length ≤ 1000 := by
              have := (List.getElem?_eq_some_iff.mp hl).1
              omega
            exact small1000 this
          · exact same_set S hD
          · rw [e2, c, if_pos rfl, List.map_append]
            exact acc_step hD' (noLs_map noL_encL _) rfl hds hdy'
    · rintro H' ⟨S, ys, hD', hyl, hds⟩
      rw [List.take_of_length_le (by rw [hxl]; exact Nat.le_refl _)] at hds
      exact k H' D hD S ⟨ys, hD', hds⟩
theorem ok_best_step (T : Tx K w mg Z) : FnOk P w K mg base CX0 2 Z.a_best_step Z.d_best_step P_best_step (spBest K) := by
  refine T.F_best_step.ok scbest_step (fun vs H Q E h => ?_) (fun cdv A outer s H vs Q E hr h => ?_)
  · obtain ⟨v, ls, sd, x, L, rfl, _⟩ := h
    rfl
  · obtain ⟨v, ls, sd, x, L, rfl, hv, hsd, hw, hlen, hL, hLb, hx, k0, k⟩ := h
    obtain ⟨a, xs, rfl, ha, hd⟩ := dp_list hv
    have hxl : xs.length = ls.length := by rw [dpAll_len hd, List.length_map]
    refine ⟨_, (C8.pss_cut (ps_if (pt_not (pt_truth (pv 0) (by intro _; rfl))) (pss_one (ps_ret pe_non)) pss_nil)
      (pss_cons (ps_setLc (i := 4) (own := [("look", 5)]) (g := gName 5) (tt := tYes) rfl scbest_step.nd rfl rfl (sw_true rfl rfl rfl (by decide +kernel)) (pi_list (pv 0)) (blkOk_by (own := [("look", 5)]) (N := N_best_step) (sc := defScope sbest_step) (by decide +kernel)) (fun _ _ _ _ _ => (pg_name (i := 5) scbest_step.nd rfl (Or.inl rfl))) (fun _ _ _ _ _ => pts_nil) (fun _ _ _ _ _ => (pe_tup (pa_cons (pe_call (ok_place_by T) (hr.mono (by decide)) (by rfl) T.g_place_by T.F_place_by.kp T.bb_place_by .nil pass0 (pa_cons (pv 5) (pa_cons (pv 1) (pa_cons (pv 2) (pa_cons (pv 3) pa_nil))))) (pa_cons (pv 5) pa_nil)))))
      (pss_one (ps_ret (pe_ifExp (pt_cmpR op_eq (pv 1) (pe_glob rfl T.g_SLOW T.r_SLOW) (nomark _)) (pe_callB (maxDK (K := K) rfl (rooms hr)) (by rfl) T.b_max (by decide +kernel) (pa_cons (pv 4) pa_nil)) (pe_callB (minDK (K := K) rfl (rooms hr)) (by rfl) T.b_min (by decide +kernel) (pa_cons (pv 4) pa_nil))))))), ?_⟩
    refine ⟨fun σ' H' => σ' = [some (.ref a), some (.str sd), some (.int x), some (.int L), none, none] ∧ H' = H ∧ ls ≠ [], ?_, ?_⟩
    · refine ⟨_, rfl, _, .inl ⟨xs, ha, rfl⟩, ?_⟩
      cases ls with
      | nil =>
        have e : xs = [] := List.eq_nil_of_length_eq_zero hxl
        subst e
        exact iteT (k0 rfl)
      | cons l ls =>
        cases xs with
        | nil => simp at hxl
        | cons y ys => exact iteF ⟨rfl, rfl, by simp⟩
    · rintro σ1 H1 ⟨rfl, rfl, hne⟩
      refine ⟨_, rfl, a, rfl, ⟨_, ha⟩, fun D hD => ?_⟩
      refine lc_list (K := K) (a := a) (xs := xs) (fun i H' => Same H1 H' ∧ ∃ ys, H' D = some (.lst ys) ∧ ys.length ≤ i ∧ DpAll K H' ys ((ls.take i).map (encS sd x L))) ⟨same_upd hD, [], upd_same, Nat.le_refl _, .nil⟩ (fun i H' _ ⟨S, _⟩ => Same.sqL S ha) ?_ ?_
      · rintro i y H' hi ⟨S, ys, hD', hyl, hds⟩
        obtain ⟨d, hdi, hdy⟩ := dpAll_get hd hi
        obtain ⟨l, hl, rfl⟩ := map_at hdi
        have hwl := hw l (List.mem_of_getElem? hl)
        have hdy' := dp_mono S _ _ hdy
        refine ⟨rfl, yes_ite ?_⟩
        refine ⟨_, rfl, _, rfl, _, rfl, _, rfl, y, l, sd, x, L, rfl, hdy', hsd, hL, hLb, hx, hwl.2, _, rfl, (by show 2 ≤ sizeLine; decide), fun p hp => ?_⟩
        have hD2 : (upd H' p (.tup [.int (plc sd l x L), y])) D = some (.lst ys) := (upd_ne (ne_of_none hD' hp)).trans hD'
        have S2 := same_upd (o := HO.tup [.int (plc sd l x L), y]) hp
        refine ⟨ys, hD2, ?_, same_set (S.trans S2) hD, _, upd_same, by simp; omega, ?_⟩
        · have := (List.getElem?_eq_some_iff.mp hl).1
          exact small1000 (by omega)
        · rw [take_snoc hl, List.map_append]
          exact acc_step hD2 (noLs_map (fun _ => rfl) _) rfl (dpAll_mono S2 _ _ hds) (.tup (SqT.of upd_same) (.cons (.int _) (.cons (dp_mono S2 _ _ hdy') .nil)))
      · rintro H' ⟨S, ys, hD', hyl, hds⟩
        rw [List.take_of_length_le (by rw [hxl]; exact Nat.le_refl _)] at hds
        refine ⟨_, rfl, rfl, _, rfl, ?_⟩
        have hd0 : ∃ l ls', ls = l :: ls' := by
          cases ls with
          | nil => exact absurd rfl hne
          | cons l ls' => exact ⟨l, ls', rfl⟩
        obtain ⟨l, ls', rfl⟩ := hd0
        have hal := steps_alike sd x L (l :: ls')
        have hlay := steps_lay sd x L (l :: ls') (fun q hq => (hw q hq).1)
        have hdep := steps_depth sd x L (l :: ls')
        rcases hsd with e | e
        · subst e
          refine iteT ⟨_, rfl, D, ys, _, _, rfl, SqL.of hD', hds, hal, hlay, hdep, fun r hr => ?_⟩
          obtain ⟨q, hq, e, hb⟩ := max_step x L l ls'
          rw [e] at hr
          exact k H' r q hq S hb hr
        · subst e
          have e3 : decide (V.str "fast" = V.str "slow") = false := by decide +kernel
          rw [e3]
          refine iteF ⟨_, rfl, D, ys, _, _, rfl, SqL.of hD', hds, hal, hlay, hdep, fun r hr => ?_⟩
          obtain ⟨q, hq, e, hb⟩ := min_step x L l ls'
          rw [e] at hr
          exact k H' r q hq S hb hr
end
end KA
namespace KA
open PySem PySem.Spec PyProof.Rows L2 DP
/-- a Dark's fields -/
def df (L : Int) (la : Addr) : List (Str × V) := [("_length", .int L), ("_looks", .ref la)]
theorem ne_ll : ¬ (("_looks" : Str) = "_length") := by decide +kernel
theorem ne_ll' : ¬ (("_length" : Str) = "_looks") := by decide +kernel
theorem df_length (L : Int) (la : Addr) : (df L la).lookup ("_length" : Str) = some (.int L) := by simp [df, List.lookup]
theorem df_looks (L : Int) (la : Addr) : (df L la).lookup ("_looks" : Str) = some (.ref la) := by
  have h : (("_looks" : Str) == ("_length" : Str)) = false := by decide +kernel
  simp [df, List.lookup, h]
theorem df_no (L : Int) (la : Addr) {m : Str} (h1 : (m == ("_length" : Str)) = false) (h2 : (m == ("_looks" : Str)) = false) : (df L la).lookup m = none := by simp [df, List.lookup, h1, h2]
theorem df_put1 (v : V) : putF "_length" v [] = [(("_length" : Str), v)] := rfl
theorem df_put2 (L : Int) (la : Addr) : putF "_looks" (.ref la) [("_length", .int L)] = df L la := by
  show (if ("_length" : Str) = "_looks" then _ else _) = _
  rw [if_neg ne_ll']; rfl
theorem df_put3 (L : Int) (la lb : Addr) : putF "_looks" (.ref lb) (df L la) = df L lb := by
  show (if ("_length" : Str) = "_looks" then _ else (("_length" : Str), V.int L) :: putF "_looks" (.ref lb) [("_looks", .ref la)]) = _
  rw [if_neg ne_ll']
  show (("_length" : Str), V.int L) :: (if ("_looks" : Str) = "_looks" then _ else _) = _
  rw [if_pos rfl]; rfl
/-- what is free there was free before -/
structure FreeIn (H H' : Hp) : Prop where
  free : ∀ {b : Addr}, H' b = none → H b = none
structure DarkAt (Z : Ad) (K : PySem.W.Frag) (H : Hp) (d : Addr) (L : Int) (ls : List Lk) : Prop where
  ex : ∃ dx la vs, H d = some (.ins Z.C dx (df L la)) ∧ H la = some (.lst vs) ∧ DpAll K H vs (ls.map encL)
  pos : 0 < L
  big : L.natAbs < 2 ^ 200
  ok : ∀ l ∈ ls, WordOk l.1 ∧ Sized 302 l
  len : ls.length ≤ 60
theorem DarkAt.same {Z : Ad} {K : PySem.W.Frag} {H H' : Hp} {d : Addr} {L : Int} {ls : List Lk} (D : DarkAt Z K H d L ls) (S : Same H H') : DarkAt Z K H' d L ls := by
  obtain ⟨dx, la, vs, h1, h2, h3⟩ := D.ex
  exact ⟨⟨dx, la, vs, S _ _ h1, S _ _ h2, dpAll_mono S _ _ h3⟩, D.pos, D.big, D.ok, D.len⟩
theorem Sized.up {m n : Nat} {l : Lk} (h : Sized m l) (hm : m ≤ n) : Sized n l := ⟨lt_up h.1 hm, lt_up h.2 hm⟩
theorem df_inj {C C' dx dx' : Addr} {L L' : Int} {la la' : Addr} (h : some (HO.ins C dx (df L la)) = some (HO.ins C' dx' (df L' la'))) : la = la' := by
  have h1 : df L la = df L' la' := by injection h with h; injection h
  simp [df] at h1
  exact h1.2
def spInit (Z : Ad) (K : PySem.W.Frag) : Sp := fun vs H Q _ => ∃ (d dx : Addr) (L : Int), vs = [.ref d, .int L] ∧ H d = some (.ins Z.C dx []) ∧ 0 < L ∧ L.natAbs < 2 ^ 200 ∧ ∀ H' : Hp, DarkAt Z K H' d L [] → (∀ la dx, H' d = some (.ins Z.C dx (df L la)) → H la = none) → (∀ b o, H b = some o → b ≠ d → H' b = some o) → Q .non H'
def spLooks (Z : Ad) (K : PySem.W.Frag) : Sp := fun vs H Q _ => ∃ (d : Addr) (L : Int) (ls : List Lk), vs = [.ref d] ∧ DarkAt Z K H d L ls ∧ ∀ (p : Addr) (xs : List V) (H' : Hp), H p = none → Same H H' → H' p = some (.lst xs) → DpAll K H' xs (ls.map encL) → Q (.ref p) H'
def spWord : Sp := fun vs H Q _ => ∃ (d : V) (x : Str), vs = [d, .str x] ∧ WordOk x ∧ Q .non H
def spHome (Z : Ad) (K : PySem.W.Frag) : Sp := fun vs H Q _ => ∃ (d : Addr) (L : Int) (ls : List Lk) (l : Lk), vs = [.ref d, .str l.1, .int l.2.1, .int l.2.2] ∧ DarkAt Z K H d L ls ∧ WordOk l.1 ∧ Sized 300 l ∧ ∀ H' r, Same H H' → Dp K H' r (encL (home L l)) → Q r H'
def spClashing (Z : Ad) (K : PySem.W.Frag) : Sp := fun vs H Q _ => ∃ (d : Addr) (v : V) (L : Int) (ls : List Lk) (l : Lk), vs = [.ref d, v] ∧ DarkAt Z K H d L ls ∧ Dp K H v (encL l) ∧ WordOk l.1 ∧ Sized 302 l ∧
  (ls.find? (fun o => clashB l o L) = none → Q .non H) ∧ ∀ o r, ls.find? (fun o => clashB l o L) = some o → Dp K H r (encL o) → Q r H
/-- what is heard -/
def heard (L : Int) (ls : List Lk) (l : Lk) : List Lk := if home L l ∈ ls then ls else (ls ++ [home L l]).mergeSort (PySem.W.dataLe false encL)
def spHear (Z : Ad) (K : PySem.W.Frag) : Sp := fun vs H Q _ => ∃ (d : Addr) (L : Int) (ls : List Lk) (l : Lk), vs = [.ref d, .str l.1, .int l.2.1, .int l.2.2] ∧ DarkAt Z K H d L ls ∧ WordOk l.1 ∧ Sized 300 l ∧ ls.length < 60 ∧ (∀ o ∈ ls, clashB (home L l) o L = false) ∧
  ∀ H', DarkAt Z K H' d L (heard L ls l) → (∀ la dx, H' d = some (.ins Z.C dx (df L la)) → (∃ dx', H d = some (.ins Z.C dx' (df L la))) ∨ H la = none) → (∀ b o, H b = some o → b ≠ d → H' b = some o) → Q .non H'
def spBound (Z : Ad) (K : PySem.W.Frag) : Sp := fun vs H Q _ => ∃ (d : Addr) (L : Int) (ls : List Lk) (sd : Str) (x : Int), vs = [.ref d, .str sd, .int x] ∧ DarkAt Z K H d L ls ∧ SideOk sd ∧ x.natAbs < 2 ^ 400 ∧
  (sideOf sd ls = [] → ∀ H', Same H H' → Q .non H') ∧ ∀ m H', Same H H' → IsBest sd (sideOf sd ls) x L m → Q (.int m) H'
/-- what a side tells of x: None, or the best place -/
def Tells (sd : Str) (ls : List Lk) (x L : Int) (v : V) : Prop := (sideOf sd ls = [] ∧ v = .non) ∨ ∃ m, v = .int m ∧ IsBest sd (sideOf sd ls) x L m
def spSideOf (Z : Ad) (K : PySem.W.Frag) (sd : Str) : Sp := fun vs H Q _ => ∃ (d : Addr) (L : Int) (ls : List Lk) (x : Int), vs = [.ref d, .int x] ∧ DarkAt Z K H d L ls ∧ x.natAbs < 2 ^ 400 ∧
  ∀ v H', Same H H' → Tells sd ls x L v → Q v H'
theorem same_put {H : Hp} {d C dx : Addr} {fs fs' : List (Str × V)} (h : H d = some (.ins C dx fs)) : FreeIn H (upd H d (.ins C dx fs')) := ⟨fun {b} hb => by
  by_cases e : b = d
  · subst e; rw [upd_same] at hb; cases hb
  · rw [upd_ne e] at hb; exact hb⟩
theorem emod_small {x L : Int} (h : 0 < L) (hb : L.natAbs < 2 ^ 200) : (x - x / L * L).natAbs < 2 ^ 200 := by
  have e : x - x / L * L = x % L := by
    have := Int.mul_ediv_add_emod x L
    rw [Int.mul_comm (x / L) L]; omega
  rw [e]
  have h1 := Int.emod_nonneg x (show L ≠ 0 by omega)
  have h2 := Int.emod_lt_of_pos x h
  have h3 : (x % L).natAbs ≤ L.natAbs := by clear hb; omega
  exact Nat.lt_of_le_of_lt h3 hb
theorem home_sized {L : Int} {l : Lk} (h : 0 < L) (hb : L.natAbs < 2 ^ 200) (hl : Sized 300 l) : Sized 302 (home L l) := by
  have h0 := emod_small (x := l.2.1) h hb
  refine ⟨lt_up h0 (by decide), ?_⟩
  show (l.2.2 - l.2.1 / L * L).natAbs < 2 ^ 302
  have e : l.2.2 - l.2.1 / L * L = l.2.2 + ((l.2.1 - l.2.1 / L * L) - l.2.1) := by omega
  rw [e]
  have h1 : ((l.2.1 - l.2.1 / L * L) - l.2.1).natAbs < 2 ^ 301 := sub_lt (lt_up h0 (by decide)) hl.1
  exact add_lt (lt_up hl.2 (by decide)) h1
section
variable {P : Program} {w : World} {K : PySem.W.Frag} {mg : Str → Option Value} {base : Heap} {Z : Ad}
theorem ok_Dark_init (T : Tx K w mg Z) : FnOk P w K mg base CX0 1 Z.a_Dark_init Z.d_Dark_init P_Dark_init (spInit Z K) := by
  refine T.F_Dark_init.ok scDark_init (fun vs H Q E h => ?_) (fun cdv A outer s H vs Q E hr h => ?_)
  · obtain ⟨d, dx, L, rfl, _⟩ := h
    rfl
  · obtain ⟨d, dx, L, rfl, hd, hL, hLb, k⟩ := h
    refine ⟨_, (C8.pss_cut (ps_if (pt_cmpR op_lt (pv 1) pe_int (nomark _)) (pss_one ps_never) pss_nil)
      (pss_cons (ps_fld (pv 0) (pv 1) rfl)
      (pss_one (ps_fld (pv 0) (pe_lst pa_nil) rfl)))), ?_⟩
    refine ⟨fun σ' H' => σ' = [some (.ref d), some (.int L)] ∧ H' = H, ?_, ?_⟩
    · refine ⟨_, rfl, _, _, rfl, rfl, _, rfl, ?_⟩
      exact ite2 (fun c => (by have c' := of_decide_eq_true c; omega : False)) (fun _ => ⟨rfl, rfl⟩)
    · rintro σ1 H1 ⟨rfl, rfl⟩
      refine ⟨_, rfl, _, rfl, d, Z.C, dx, [], rfl, hd, T.cl, T.n_length, (by show 0 < 1000; decide), ?_⟩
      refine ⟨(by show 0 ≤ sizeLine; decide), fun p hp => ?_⟩
      have h1 : (upd H1 d (.ins Z.C dx (putF "_length" (.int L) []))) d = some (.ins Z.C dx [("_length", .int L)]) := upd_same
      have hdp : d ≠ p := ne_of_none h1 hp
      refine ⟨_, rfl, d, Z.C, dx, [("_length", .int L)], rfl, (upd_ne hdp).trans h1, T.cl, T.n_looks, (by show 1 < 1000; decide), ?_⟩
      refine k _ ⟨⟨dx, p, [], Eq.trans upd_same (congrArg (fun q => some (HO.ins Z.C dx q)) (df_put2 L p)), (upd_ne (Ne.symm hdp)).trans upd_same, .nil⟩, hL, hLb, (fun _ z => absurd z (by simp)), Nat.zero_le _⟩ (fun la' dx' e => ?_) fun b o e hb => ?_
      · rw [upd_same, df_put2] at e
        rw [← df_inj e]
        exact (same_put hd).free hp
      have e1 : (upd H1 d (.ins Z.C dx (putF "_length" (.int L) []))) b = some o := (upd_ne hb).trans e
      exact (upd_ne hb).trans ((upd_ne (ne_of_none e1 hp)).trans e1)
theorem ok_Dark_looks (T : Tx K w mg Z) : FnOk P w K mg base CX0 1 Z.a_Dark_looks Z.d_Dark_looks P_Dark_looks (spLooks Z K) := by
  refine T.F_Dark_looks.ok scDark_looks (fun vs H Q E h => ?_) (fun cdv A outer s H vs Q E hr h => ?_)
  · obtain ⟨d, L, ls, rfl, _⟩ := h
    rfl
  · obtain ⟨d, L, ls, rfl, D, k⟩ := h
    obtain ⟨dx, la, xs, h1, h2, h3⟩ := D.ex
    refine ⟨_, (pss_one (ps_ret (pe_callTy (listK (K := K)) (by rfl) T.b_list (by decide +kernel) (pa_cons (fldK (K := K) (pv 0) rfl) pa_nil)))), ?_⟩
    refine ⟨_, rfl, d, Z.C, dx, _, _, rfl, h1, T.cl, T.n_looks, df_looks _ _, la, xs, rfl, .inl (SqL.of h2), fun p hp => ?_⟩
    exact k p xs _ hp (same_upd hp) upd_same (dpAll_mono (same_upd hp) _ _ h3)
theorem ok_Darkcheck_word (T : Tx K w mg Z) : FnOk P w K mg base CX0 1 Z.a_Darkcheck_word Z.d_Darkcheck_word P_Darkcheck_word (spWord) := by
  refine T.F_Darkcheck_word.ok scDarkcheck_word (fun vs H Q E h => ?_) (fun cdv A outer s H vs Q E hr h => ?_)
  · obtain ⟨d, x, rfl, _⟩ := h
    rfl
  · obtain ⟨d, x, rfl, hx, k⟩ := h
    refine ⟨_, (pss_one (ps_if (pt_cmpR (notInS (K := K)) (pv 1) (pe_glob (v := .ref Z.a_LW) rfl T.g_LOOK_WORDS rfl) (by rfl)) (pss_one ps_never) pss_nil)), ?_⟩
    obtain ⟨_, _, e⟩ := decl_words hx
    refine ⟨_, rfl, _, _, rfl, .inr (T.q_LW _), rfl, rfl, _, rfl, ?_⟩
    have e2 : (if true = true then !inV (V.str x) [V.str "at", V.str "from", V.str "upto"] else inV (V.str x) [V.str "at", V.str "from", V.str "upto"]) = false := by rw [if_pos rfl, e]; rfl
    rw [e2]
    exact iteF k
theorem ok_Darkhome (T : Tx K w mg Z) : FnOk P w K mg base CX0 2 Z.a_Darkhome Z.d_Darkhome P_Darkhome (spHome Z K) := by
  refine T.F_Darkhome.ok scDarkhome (fun vs H Q E h => ?_) (fun cdv A outer s H vs Q E hr h => ?_)
  · obtain ⟨d, L, ls, l, rfl, _⟩ := h
    rfl
  · obtain ⟨d, L, ls, l, rfl, D, hw, hl, k⟩ := h
    obtain ⟨dx, la, xs, h1, h2, h3⟩ := D.ex
    refine ⟨_, (pss_cons (ps_expr (pe_meth (pv 0) T.cl T.m_Darkcheck_word (ok_Darkcheck_word T) (hr.mono (by decide)) T.bb_Darkcheck_word .nil pass0 (pa_cons (pv 1) pa_nil)))
      (pss_cons (ps_set (i := 4) scDarkhome.nd rfl (Or.inl rfl) (pe_op op_fdivW (pv 2) (fldK (K := K) (pv 0) rfl)))
      (pss_one (ps_ret (pe_tup (pa_cons (pv 1) (pa_cons (pe_op op_sub (pv 2) (pe_op op_mulW (pv 4) (fldK (K := K) (pv 0) rfl))) (pa_cons (pe_op op_sub (pv 3) (pe_op op_mulW (pv 4) (fldK (K := K) (pv 0) rfl))) pa_nil)))))))), ?_⟩
    refine ⟨_, rfl, d, dx, _, rfl, h1, df_no _ _ (by decide +kernel) (by decide +kernel), _, rfl, _, _, rfl, hw, ?_⟩
    refine ⟨_, rfl, _, rfl, d, Z.C, dx, _, _, rfl, h1, T.cl, T.n_length, df_length _ _, _, _, rfl, rfl, wide_div D.pos D.big (by decide) (by decide), ?_⟩
    have b1 : (l.2.1 / L).natAbs < 2 ^ 301 := div_lt D.pos hl.1
    refine ⟨_, rfl, _, rfl, _, rfl, _, rfl, d, Z.C, dx, _, _, rfl, h1, T.cl, T.n_length, df_length _ _, _, _, rfl, rfl, wide_mul b1 D.big (by decide) (by decide) (by decide), _, _, rfl, rfl, ?_⟩
    refine ⟨_, rfl, _, rfl, _, rfl, d, Z.C, dx, _, _, rfl, h1, T.cl, T.n_length, df_length _ _, _, _, rfl, rfl, wide_mul b1 D.big (by decide) (by decide) (by decide), _, _, rfl, rfl, (by show 3 ≤ sizeLine; decide), fun p hp => ?_⟩
    exact k _ _ (same_upd hp) (.tup (SqT.of upd_same) (.cons (.str _) (.cons (.int _) (.cons (.int _) .nil))))
theorem ok_Darkclashing (T : Tx K w mg Z) : FnOk P w K mg base CX0 4 Z.a_Darkclashing Z.d_Darkclashing P_Darkclashing (spClashing Z K) := by
  refine T.F_Darkclashing.ok scDarkclashing (fun vs H Q E h => ?_) (fun cdv A outer s H vs Q E hr h => ?_)
  · obtain ⟨d, v, L, ls, l, rfl, _⟩ := h
    rfl
  · obtain ⟨d, v, L, ls, l, rfl, D, hv, hw, hl, k0, k⟩ := h
    obtain ⟨dx, la, xs, h1, h2, h3⟩ := D.ex
    have hxl : xs.length = ls.length := by rw [dpAll_len h3, List.length_map]
    refine ⟨_, (pss_cons (ps_for PassesOwn.never rfl (pi_list (fldK (K := K) (pv 0) rfl)) (pg_name (i := 2) scDarkclashing.nd rfl (Or.inl rfl)) (pss_one (ps_if (pt_val (pe_call (ok_clash T) (hr.mono (by decide)) (by rfl) T.g_clash T.F_clash.kp T.bb_clash .nil pass0 (pa_cons (pv 1) (pa_cons (pv 2) (pa_cons (fldK (K := K) (pv 0) rfl) pa_nil))))) (pss_one (ps_ret (pv 2))) pss_nil)))
      (pss_one (ps_ret pe_non))), ?_⟩
    refine ⟨_, rfl, d, Z.C, dx, _, _, rfl, h1, T.cl, T.n_looks, df_looks _ _, la, rfl, ⟨_, SqL.of h2⟩, ?_⟩
    refine for_list (K := K) (a := la) (xs := xs) (fun i σ' H' => ∃ u, σ' = [some (.ref d), some v, u] ∧ H' = H ∧ (ls.take i).find? (fun o => clashB l o L) = none) ⟨none, rfl, rfl, rfl⟩ (fun i σ' H' _ ⟨_, _, e, _⟩ => by rw [e]; exact SqL.of h2) ?_ ?_
    · rintro i y σ' H' hi ⟨u, rfl, rfl, hno⟩
      obtain ⟨e, hdi, hdy⟩ := dpAll_get h3 hi
      obtain ⟨o, ho, rfl⟩ := map_at hdi
      have hok := D.ok o (List.mem_of_getElem? ho)
      refine ⟨_, rfl, _, rfl, _, rfl, d, Z.C, dx, _, _, rfl, h1, T.cl, T.n_length, df_length _ _, v, y, l, o, L, rfl, hv, hdy, hw, hok.1, D.pos, D.big, hl.up (by decide), hok.2.up (by decide), _, rfl, ?_⟩
      have hsp : ls = ls.take i ++ o :: ls.drop (i + 1) := by
        have h4 := List.getElem?_eq_some_iff.mp ho
        obtain ⟨h5, h6⟩ := h4
        rw [← h6, List.getElem_cons_drop, List.take_append_drop]
      cases c : clashB l o L with
      | true =>
        refine iteT ⟨_, rfl, k o y ?_ hdy⟩
        rw [hsp, List.find?_append, hno, List.find?_cons, c]
        rfl
      | false =>
        refine iteF ⟨_, rfl, rfl, ?_⟩
        rw [take_snoc ho, List.find?_append, hno, List.find?_cons, c]
        rfl
    · rintro σ' H' ⟨u, rfl, rfl, hno⟩
      rw [List.take_of_length_le (by rw [hxl]; exact Nat.le_refl _)] at hno
      exact k0 hno
theorem alike_looks (ls : List Lk) : PySem.W.AllAlike (ls.map encL) := PySem.W.AllAlike.of fun _ _ => by simp [encL, PySem.W.alike, PySem.W.alikeAll]
theorem depth_look (l : Lk) : (encL l).depth = 1 := by simp [encL, PyData.depth, PyData.depthAll]
theorem shaped_look {l : Lk} (h : WordOk l.1) : SeqAt.shaped (encL l) = true := by
  unfold SeqAt.shaped
  rw [lay_look h, depth_look]; rfl
theorem lay_looks : ∀ ls : List Lk, (∀ l ∈ ls, WordOk l.1) → PyData.canLayAll0 (ls.map encL) = true
  | [], _ => rfl
  | l :: ls, h => by
    show PyData.canLayAll0 (encL l :: ls.map encL) = true
    rw [PyData.canLayAll0, lay_look (h l List.mem_cons_self), lay_looks ls fun q hq => h q (List.mem_cons_of_mem _ hq)]; rfl
theorem depth_looks : ∀ ls : List Lk, PyData.depthAll (ls.map encL) ≤ 1
  | [] => by simp [PyData.depthAll]
  | l :: ls => by
    show PyData.depthAll (encL l :: ls.map encL) ≤ 1
    rw [PyData.depthAll, depth_look]
    have := depth_looks ls
    omega
theorem shaped_looks {ls : List Lk} (h : ∀ l ∈ ls, WordOk l.1) : SeqAt.shaped (.list (ls.map encL)) = true := by
  unfold SeqAt.shaped
  rw [PyData.canLay0, lay_looks ls h, PyData.depth]
  have := depth_looks ls
  simp; omega
theorem eqv_look (a b : Lk) : PyData.eqv (encL a) (encL b) = decide (a = b) := by
  obtain ⟨a1, a2, a3⟩ := a
  obtain ⟨b1, b2, b3⟩ := b
  simp [encL, PyData.eqv, PyData.eqvAll]
  by_cases h1 : a1 = b1 <;> by_cases h2 : a2 = b2 <;> by_cases h3 : a3 = b3 <;> simp [h1, h2, h3]
theorem any_look (ls : List Lk) (l : Lk) : ((ls.map encL).any fun z => PyData.eqv z (encL l)) = decide (l ∈ ls) := by
  rw [List.any_map]
  rw [Bool.eq_iff_iff, List.any_eq_true, decide_eq_true_eq]
  constructor
  · rintro ⟨o, ho, e⟩
    have e' : decide (o = l) = true := by rw [← eqv_look]; exact e
    rw [← of_decide_eq_true e']; exact ho
  · intro h
    exact ⟨l, h, by show PyData.eqv (encL l) (encL l) = true; rw [eqv_look]; simp⟩
theorem heard_mem {L : Int} {ls : List Lk} {l o : Lk} : o ∈ heard L ls l ↔ o ∈ ls ∨ o = home L l := by
  unfold heard
  by_cases c : home L l ∈ ls
  · rw [if_pos c]
    exact ⟨.inl, fun h => h.elim id fun e => e ▸ c⟩
  · rw [if_neg c, (List.mergeSort_perm _ _).mem_iff, List.mem_append, List.mem_singleton]
theorem heard_len (L : Int) (ls : List Lk) (l : Lk) : (heard L ls l).length ≤ ls.length + 1 := by
  unfold heard
  split
  · omega
  · rw [(List.mergeSort_perm _ _).length_eq, List.length_append]; simp
theorem ok_Dark_hear (T : Tx K w mg Z) : FnOk P w K mg base CX0 5 Z.a_Dark_hear Z.d_Dark_hear P_Dark_hear (spHear Z K) := by
  refine T.F_Dark_hear.ok scDark_hear (fun vs H Q E h => ?_) (fun cdv A outer s H vs Q E hr h => ?_)
  · obtain ⟨d, L, ls, l, rfl, _⟩ := h
    rfl
  · obtain ⟨d, L, ls, l, rfl, D, hw, hl, hlen, hno, k⟩ := h
    obtain ⟨dx, la, xs, h1, h2, h3⟩ := D.ex
    have hfind : ls.find? (fun o => clashB (home L l) o L) = none := List.find?_eq_none.mpr fun o ho => by rw [hno o ho]; exact Bool.false_ne_true
    have hsz := home_sized D.pos D.big hl
    refine ⟨_, (pss_cons (ps_set (i := 4) scDark_hear.nd rfl (Or.inl rfl) (pe_meth (pv 0) T.cl T.m_Darkhome (ok_Darkhome T) (hr.mono (by decide)) T.bb_Darkhome .nil pass0 (pa_cons (pv 1) (pa_cons (pv 2) (pa_cons (pv 3) pa_nil)))))
      (pss_cons (ps_set (i := 5) scDark_hear.nd rfl (Or.inl rfl) (pe_meth (pv 0) T.cl T.m_Darkclashing (ok_Darkclashing T) (hr.mono (by decide)) T.bb_Darkclashing .nil pass0 (pa_cons (pv 4) pa_nil)))
      (C8.pss_cut (ps_if (pt_cmpR op_notN (pv 5) pe_non (nomark _)) (pss_one ps_never) pss_nil)
      (pss_one (ps_if (pt_cmpR (notInDK (K := K) (rooms hr)) (pv 4) (fldK (K := K) (pv 0) rfl) (by rfl)) (pss_one (ps_fld (pv 0) (pe_callB (sortDK (K := K) encL (rooms hr)) (by rfl) T.b_sorted (by decide +kernel) (pa_cons (pe_op op_cat (fldK (K := K) (pv 0) rfl) (pe_lst (pa_cons (pv 4) pa_nil))) pa_nil)) rfl)) pss_nil))))), ?_⟩
    refine ⟨_, rfl, d, dx, _, rfl, h1, df_no _ _ (by decide +kernel) (by decide +kernel), _, rfl, _, rfl, _, rfl, d, L, ls, l, rfl, D, hw, hl, fun H1 r S hr => ?_⟩
    have D1 := D.same S
    refine ⟨_, rfl, d, dx, _, rfl, S _ _ h1, df_no _ _ (by decide +kernel) (by decide +kernel), _, rfl, d, r, L, ls, home L l, rfl, D1, hr, hw, hsz, fun _ => ?_, fun o r ho => ?_⟩
    · refine ⟨fun σ' H' => σ' = [some (.ref d), some (.str l.1), some (.int l.2.1), some (.int l.2.2), some r, some .non] ∧ H' = H1, ?_, ?_⟩
      · exact ⟨_, rfl, rfl, _, rfl, iteF ⟨rfl, rfl⟩⟩
      · rintro σ2 H2 ⟨rfl, rfl⟩
        have hwords : ∀ o ∈ ls, WordOk o.1 := fun o ho => (D.ok o ho).1
        have hds := dpAll_mono S _ _ h3
        refine ⟨_, rfl, _, rfl, d, Z.C, dx, _, _, rfl, S _ _ h1, T.cl, T.n_looks, df_looks _ _, encL (home L l), ls.map encL, hr, .lst (SqL.of (S _ _ h2)) hds, shaped_look hw, shaped_looks hwords, _, rfl, ?_⟩
        rw [any_look]
        have fin : ∀ H', DarkAt Z K H' d L (heard L ls l) → (∀ la dx, H' d = some (.ins Z.C dx (df L la)) → (∃ dx', H d = some (.ins Z.C dx' (df L la))) ∨ H la = none) → (∀ b o, H2 b = some o → b ≠ d → H' b = some o) → Q .non H' := fun H' DD ff kk => k H' DD ff fun b o e hb => kk b o (S b o e) hb
        have okH : ∀ o ∈ heard L ls l, WordOk o.1 ∧ Sized 302 o := fun o ho => by
          rcases heard_mem.mp ho with h | h
          · exact D.ok o h
          · subst h; exact ⟨hw, hsz⟩
        have lenH : (heard L ls l).length ≤ 60 := Nat.le_trans (heard_len L ls l) hlen
        by_cases c : home L l ∈ ls
        · have e : (!decide (home L l ∈ ls)) = false := by simp [c]
          rw [e]
          refine iteF (fin H2 ?_ (fun la' dx' e => ?_) fun _ _ e _ => e)
          · have eh : heard L ls l = ls := if_pos c
            rw [eh]; exact D1
          · have e2 := e.symm.trans (S _ _ h1)
            rw [df_inj e2]
            exact .inl ⟨dx, h1⟩
        · have e : (!decide (home L l ∈ ls)) = true := by simp [c]
          rw [e]
          refine iteT ⟨_, rfl, d, Z.C, dx, _, _, rfl, S _ _ h1, T.cl, T.n_looks, df_looks _ _, _, rfl, (by show 1 ≤ sizeLine; decide), fun p hp => ?_⟩
          have S2 := same_upd (o := HO.lst [r]) hp
          have h2' := S2 _ _ (S _ _ h2)
          refine ⟨la, p, xs, [r], rfl, rfl, h2', upd_same, ?_, fun p2 hp2 => ?_⟩
          · have : xs.length = ls.length := by rw [dpAll_len h3, List.length_map]
            exact Nat.le_of_lt (small1000 (by simp; omega))
          have S3 := S2.trans (same_upd (o := HO.lst (xs ++ [r])) hp2)
          have hall : DpAll K (upd (upd H2 p (.lst [r])) p2 (.lst (xs ++ [r]))) (xs ++ [r]) ((ls ++ [home L l]).map encL) := by
            rw [List.map_append]
            exact dpAll_snoc (dpAll_mono S3 _ _ hds) (dp_mono S3 _ _ hr)
          refine ⟨p2, xs ++ [r], ls ++ [home L l], rfl, SqL.of upd_same, hall, alike_looks _, PySem.W.Sortable.tuples fun _ => ⟨_, _, rfl⟩, fun b _ => by rw [depth_look]; decide, fun p3 ys H3 hp3 S4 hy hys => ?_⟩
          have S5 := S3.trans S4
          have h1' := S5 _ _ (S _ _ h1)
          have hd3 : d ≠ p3 := fun e => by
            subst e
            rw [(S3 _ _ (S _ _ h1))] at hp3
            cases hp3
          refine ⟨_, rfl, d, Z.C, dx, df L la, rfl, h1', T.cl, T.n_looks, (by show 2 < 1000; decide), ?_⟩
          refine fin _ ⟨⟨dx, p3, ys, Eq.trans upd_same (congrArg (fun q => some (HO.ins Z.C dx q)) (df_put3 L la p3)), (upd_ne (Ne.symm hd3)).trans hy, ?_⟩, D.pos, D.big, okH, lenH⟩ (fun la' dx' e => ?_) fun b o e hb => (upd_ne hb).trans (S5 _ _ e)
          rotate_left
          · rw [upd_same, df_put3] at e
            rw [← df_inj e]
            exact .inr (S.free (S3.free hp3))
          have eh : heard L ls l = (ls ++ [home L l]).mergeSort (PySem.W.dataLe false encL) := if_neg c
          rw [eh]
          exact dpAll_tups (Tups.upd_ins h1') _ _ (noLs_map noL_encL _) hys
    · rw [hfind] at ho; cases ho
end
end KA
namespace KA
open PySem PySem.Spec PyProof.Rows L2 DP
/-! What the looks of a side tell, in plain Lean (laws that do without the tray's Law6). -/
theorem side_low {x : Str} (h : onSide "slow" x = true) : x = "at" ∨ x = "from" := by
  unfold onSide at h
  rw [if_pos rfl, Bool.or_eq_true, decide_eq_true_eq, decide_eq_true_eq] at h
  exact h
theorem side_high {x : Str} (h : onSide "fast" x = true) : x = "at" ∨ x = "upto" := by
  unfold onSide at h
  rw [if_neg slow_ne, Bool.or_eq_true, decide_eq_true_eq, decide_eq_true_eq] at h
  exact h
theorem plc_home {L : Int} (hL : 0 < L) (sd : Str) (l : Lk) (x : Int) : plc sd (home L l) x L = plc sd l x L := by
  unfold plc home
  split
  · show l.2.2 - l.2.1 / L * L + (x - (l.2.1 - l.2.1 / L * L)) / L * L = l.2.2 + (x - l.2.1) / L * L
    have e : x - (l.2.1 - l.2.1 / L * L) = (x - l.2.1) + l.2.1 / L * L := by omega
    rw [e, Int.add_mul_ediv_right _ _ (by omega), Int.add_mul]; omega
  · show l.2.2 - l.2.1 / L * L - (l.2.1 - l.2.1 / L * L - x) / L * L = l.2.2 - (l.2.1 - x) / L * L
    have e : l.2.1 - l.2.1 / L * L - x = (l.2.1 - x) + (-(l.2.1 / L)) * L := by rw [Int.neg_mul]; omega
    rw [e, Int.add_mul_ediv_right _ _ (by omega), Int.add_mul, Int.neg_mul]; omega
theorem fold_mem {L : Int} : ∀ (ls acc : List Lk) (o : Lk), o ∈ ls.foldl (heard L) acc ↔ o ∈ acc ∨ ∃ l ∈ ls, o = home L l
  | [], acc, o => by simp
  | l :: ls, acc, o => by
    rw [List.foldl_cons, fold_mem ls, heard_mem]
    constructor
    · rintro ((h | h) | ⟨q, hq, e⟩)
      · exact .inl h
      · exact .inr ⟨l, List.mem_cons_self, h⟩
      · exact .inr ⟨q, List.mem_cons_of_mem _ hq, e⟩
    · rintro (h | ⟨q, hq, e⟩)
      · exact .inl (.inl h)
      · rcases List.mem_cons.mp hq with h | h
        · subst h; exact .inl (.inr e)
        · exact .inr ⟨q, h, e⟩
theorem fold_len {L : Int} : ∀ (ls acc : List Lk), (ls.foldl (heard L) acc).length ≤ acc.length + ls.length
  | [], acc => by simp
  | l :: ls, acc => by
    have h1 := fold_len (L := L) ls (heard L acc l)
    have h2 := heard_len L acc l
    rw [List.foldl_cons, List.length_cons]; omega
theorem mem_side {sd : Str} {ls : List Lk} {l : Lk} : l ∈ sideOf sd ls ↔ l ∈ ls ∧ onSide sd l.1 = true := by
  unfold sideOf; rw [List.mem_filter]
/-- the best of the looks is the best of them brought home -/
theorem best_home {L : Int} (hL : 0 < L) {sd : Str} {ls hs : List Lk} {x m : Int} (hh : ∀ o, o ∈ hs ↔ ∃ l ∈ ls, o = home L l) (h : IsBest sd (sideOf sd hs) x L m) : IsBest sd (sideOf sd ls) x L m := by
  obtain ⟨⟨o, ho, e⟩, h2⟩ := h
  obtain ⟨ho1, ho2⟩ := mem_side.mp ho
  obtain ⟨l, hl, rfl⟩ := (hh o).mp ho1
  rw [plc_home hL] at e
  refine ⟨⟨l, mem_side.mpr ⟨hl, ho2⟩, e⟩, fun q hq => ?_⟩
  obtain ⟨hq1, hq2⟩ := mem_side.mp hq
  have := h2 (home L q) (mem_side.mpr ⟨(hh _).mpr ⟨q, hq1, rfl⟩, hq2⟩)
  rw [plc_home hL] at this
  exact this
theorem best_one {sd : Str} {ls : List Lk} {x L m m' : Int} (h : IsBest sd ls x L m) (h' : IsBest sd ls x L m') : m = m' := by
  obtain ⟨⟨a, ha, ea⟩, h2⟩ := h
  obtain ⟨⟨b, hb, eb⟩, h2'⟩ := h'
  have q1 := h2 b hb
  have q2 := h2' a ha
  rw [eb] at q1
  rw [ea] at q2
  split at q1 <;> split at q2 <;> first | omega | (exfalso; simp_all)
theorem side_nil {L : Int} {sd : Str} {ls hs : List Lk} (hh : ∀ o, o ∈ hs ↔ ∃ l ∈ ls, o = home L l) : sideOf sd hs = [] ↔ sideOf sd ls = [] := by
  constructor
  · intro h
    refine List.eq_nil_iff_forall_not_mem.mpr fun l hl => ?_
    obtain ⟨h1, h2⟩ := mem_side.mp hl
    have : home L l ∈ sideOf sd hs := mem_side.mpr ⟨(hh _).mpr ⟨l, h1, rfl⟩, h2⟩
    rw [h] at this; cases this
  · intro h
    refine List.eq_nil_iff_forall_not_mem.mpr fun o ho => ?_
    obtain ⟨h1, h2⟩ := mem_side.mp ho
    obtain ⟨l, hl, rfl⟩ := (hh o).mp h1
    have : l ∈ sideOf sd ls := mem_side.mpr ⟨hl, h2⟩
    rw [h] at this; cases this
theorem plc_shift {L : Int} (hL : 0 < L) (sd : Str) (l : Lk) (x k : Int) : plc sd l (x + k * L) L = plc sd l x L + k * L := by
  unfold plc
  split
  · have e : x + k * L - l.2.1 = (x - l.2.1) + k * L := by omega
    rw [e, Int.add_mul_ediv_right _ _ (by omega), Int.add_mul]; omega
  · have e : l.2.1 - (x + k * L) = (l.2.1 - x) + (-k) * L := by rw [Int.neg_mul]; omega
    rw [e, Int.add_mul_ediv_right _ _ (by omega), Int.add_mul, Int.neg_mul]; omega
theorem far_home {L : Int} (hL : 0 < L) (a b : Lk) : tooFar (home L a) (home L b) L = tooFar a b L := by
  unfold tooFar
  have e1 : (home L b).2.2 = b.2.2 - b.2.1 / L * L := rfl
  have e2 : (home L b).2.1 = b.2.1 + (-(b.2.1 / L)) * L := by show b.2.1 - b.2.1 / L * L = _; rw [Int.neg_mul]; omega
  rw [e1, e2, plc_home hL, plc_shift hL, Int.neg_mul]
  congr 1
  rw [decide_eq_decide]
  constructor <;> intro h <;> omega
theorem clash_home {L : Int} (hL : 0 < L) (a b : Lk) : clashB (home L a) (home L b) L = clashB a b L := by
  unfold clashB
  rw [far_home hL, far_home hL]
/-- the best place, as a number -/
noncomputable def bst (sd : Str) (ls : List Lk) (x L : Int) : Int := by
  classical exact if h : ∃ m, IsBest sd ls x L m then h.choose else 0
theorem bst_of {sd : Str} {ls : List Lk} {x L m : Int} (h : IsBest sd ls x L m) : bst sd ls x L = m := by
  have e : ∃ m, IsBest sd ls x L m := ⟨m, h⟩
  unfold bst
  rw [dif_pos e]
  exact best_one e.choose_spec h
theorem bst_slow {ls : List Lk} (h : ls ≠ []) (x L : Int) : IsBest "slow" ls x L (bst "slow" ls x L) := by
  cases ls with
  | nil => exact absurd rfl h
  | cons l r =>
    obtain ⟨q, _, _, b⟩ := max_step x L l r
    rw [bst_of b]; exact b
theorem bst_fast {ls : List Lk} (h : ls ≠ []) (x L : Int) : IsBest "fast" ls x L (bst "fast" ls x L) := by
  cases ls with
  | nil => exact absurd rfl h
  | cons l r =>
    obtain ⟨q, _, _, b⟩ := min_step x L l r
    rw [bst_of b]; exact b
theorem plc_mono {L : Int} (hL : 0 < L) (sd : Str) (l : Lk) {x y : Int} (h : x ≤ y) : plc sd l x L ≤ plc sd l y L := by
  unfold plc
  split
  · have h1 := Int.mul_le_mul_of_nonneg_right (Int.ediv_le_ediv hL (by omega : x - l.2.1 ≤ y - l.2.1)) (Int.le_of_lt hL)
    omega
  · have h1 := Int.mul_le_mul_of_nonneg_right (Int.ediv_le_ediv hL (by omega : l.2.1 - y ≤ l.2.1 - x)) (Int.le_of_lt hL)
    omega
theorem best_mono {L : Int} (hL : 0 < L) {sd : Str} {ls : List Lk} {x y m m' : Int} (h : IsBest sd ls x L m) (h' : IsBest sd ls y L m') (hxy : x ≤ y) : m ≤ m' := by
  obtain ⟨⟨l, hl, e⟩, h2⟩ := h
  obtain ⟨⟨l', hl', e'⟩, h2'⟩ := h'
  have q1 := h2' l hl
  have q2 := h2 l' hl'
  by_cases c : sd = "slow"
  · rw [if_pos c] at q1
    have := plc_mono hL sd l hxy
    omega
  · rw [if_neg c] at q2
    have := plc_mono hL sd l' hxy
    omega
theorem best_shift {L : Int} (hL : 0 < L) {sd : Str} {ls : List Lk} {x m : Int} (k : Int) (h : IsBest sd ls x L m) : IsBest sd ls (x + k * L) L (m + k * L) := by
  obtain ⟨⟨l, hl, e⟩, h2⟩ := h
  refine ⟨⟨l, hl, by rw [plc_shift hL, e]⟩, fun q hq => ?_⟩
  have := h2 q hq
  rw [plc_shift hL]
  split at this
  · rw [if_pos (by assumption)]; omega
  · rw [if_neg (by assumption)]; omega
theorem far_le {L : Int} {a b : Lk} (h : tooFar a b L = false) (ha : onSide "slow" a.1 = true) (hb : onSide "fast" b.1 = true) : plc "slow" a b.2.1 L ≤ b.2.2 := by
  unfold tooFar at h
  rw [ha, hb, Bool.true_and, Bool.true_and, decide_eq_false_iff_not] at h
  omega
theorem far_no {L : Int} {a b : Lk} (h : onSide "slow" a.1 = true → onSide "fast" b.1 = true → plc "slow" a b.2.1 L ≤ b.2.2) : tooFar a b L = false := by
  unfold tooFar
  cases c1 : onSide "slow" a.1 with
  | false => rfl
  | true =>
    cases c2 : onSide "fast" b.1 with
    | false => rfl
    | true =>
      rw [Bool.true_and, Bool.true_and, decide_eq_false_iff_not]
      have := h c1 c2
      omega
theorem no_far_of {L : Int} {a b : Lk} (h : clashB a b L = false) : tooFar a b L = false ∧ tooFar b a L = false := by
  unfold clashB at h
  rw [Bool.or_eq_false_iff] at h
  exact h
theorem cross {L : Int} (hL : 0 < L) {a b : Lk} (h : plc "slow" a b.2.1 L ≤ b.2.2) (x : Int) : plc "slow" a x L ≤ plc "fast" b x L := by
  rw [plc_fast]
  have hj : (b.2.1 - x) / L * L ≤ b.2.1 - x := by
    have := Int.mul_ediv_add_emod (b.2.1 - x) L
    have h0 := Int.emod_nonneg (b.2.1 - x) (show L ≠ 0 by omega)
    rw [Int.mul_comm] at this
    omega
  generalize (b.2.1 - x) / L = j at hj ⊢
  have h1 := plc_mono hL "slow" a (by omega : x + j * L ≤ b.2.1)
  rw [plc_shift hL] at h1
  omega
theorem low_high {L : Int} (hL : 0 < L) {hs : List Lk} (hnc : ∀ a ∈ hs, ∀ b ∈ hs, clashB a b L = false) {x m m' : Int} (h : IsBest "slow" (sideOf "slow" hs) x L m) (h' : IsBest "fast" (sideOf "fast" hs) x L m') : m ≤ m' := by
  obtain ⟨⟨l, hl, e⟩, _⟩ := h
  obtain ⟨⟨l', hl', e'⟩, _⟩ := h'
  obtain ⟨h1, h2⟩ := mem_side.mp hl
  obtain ⟨h1', h2'⟩ := mem_side.mp hl'
  rw [← e, ← e']
  exact cross hL (far_le (no_far_of (hnc l h1 l' h1')).1 h2 h2') x
end KA
namespace KA
open PySem PySem.Spec PyProof.Rows L2 DP
/-- the length of the list at g -/
def lenAt (H : Hp) (g : Addr) : Nat := match H g with | some (.lst xs) => xs.length | _ => 0
theorem lenAt_of {H : Hp} {g : Addr} {xs : List V} (h : H g = some (.lst xs)) : lenAt H g = xs.length := by unfold lenAt; rw [h]
theorem atI_last {α : Type} {xs : List α} (h : 0 < xs.length) : atI xs (-1) = xs[xs.length - 1]? := by
  unfold atI ixN
  rw [if_neg (by decide), if_pos (by omega)]
  show xs[_]? = _
  congr 1
  omega
theorem same_made {H : Hp} {d dx : Addr} {o : HO} (hdn : H d = none) (hdx : H dx = none) : Same H (upd (upd H dx (.own d)) d o) := fun b o e => by
  rw [upd_ne (ne_of_none e hdn), upd_ne (ne_of_none e hdx)]; exact e
/-- all stands but one object -/
def Out (d : Addr) (H H' : Hp) : Prop := ∀ c o, H c = some o → c ≠ d → H' c = some o
theorem Out.tups {d C dx : Addr} {fs : List (Str × V)} {H H' : Hp} (k : Out d H H') (h : H d = some (.ins C dx fs)) : Tups H H' := fun c zs hc => by
  have hcb : c ≠ d := by
    rintro rfl
    rcases hc with e | ⟨q, e⟩ <;> rw [h] at e <;> cases e
  rcases hc with e | ⟨q, e⟩
  · exact .inl (k _ _ e hcb)
  · exact .inr ⟨q, k _ _ e hcb⟩
theorem Out.dark {Z : Ad} {K : PySem.W.Frag} {H H' : Hp} {d e C dx : Addr} {fs : List (Str × V)} {L : Int} {ls : List Lk} (k : Out d H H') (D : DarkAt Z K H e L ls) (h : H d = some (.ins C dx fs)) (hne : e ≠ d) : DarkAt Z K H' e L ls := by
  obtain ⟨dx2, la, vs, h1, h2, h3⟩ := D.ex
  exact ⟨⟨dx2, la, vs, k _ _ h1 hne, k _ _ h2 (fun q => by rw [q, h] at h2; cases h2), dpAll_tups (k.tups h) _ _ (noLs_map noL_encL ls) h3⟩, D.pos, D.big, D.ok, D.len⟩
theorem Out.sqL {K : PySem.W.Frag} {H H' : Hp} {d C dx p : Addr} {fs : List (Str × V)} {xs : List V} (k : Out d H H') (h : H d = some (.ins C dx fs)) (q : SqL K H p xs) : SqL K H' p xs := by
  rcases q with q | q
  · have hp : p ≠ d := by
      rintro rfl
      rcases q with e | ⟨z, e⟩ <;> rw [h] at e <;> cases e
    rcases q with e | ⟨z, e⟩
    · exact .inl (.inl (k _ _ e hp))
    · exact .inl (.inr ⟨z, k _ _ e hp⟩)
  · exact .inr q
end KA
namespace KA
open PySem PySem.Spec PyProof.Rows L2 DP
/-! ### hands under which nobody overtakes, and looks that they fit -/
structure Hand (L : Int) (f : Int → Int) : Prop where
  mono : ∀ x y, x ≤ y → f x ≤ f y
  turn : ∀ x k, f (x + k * L) = f x + k * L
def Fits (f : Int → Int) (l : Lk) : Prop := (onSide "slow" l.1 = true → l.2.2 ≤ f l.2.1) ∧ (onSide "fast" l.1 = true → f l.2.1 ≤ l.2.2)
theorem fit_low {L : Int} (hL : 0 < L) {f : Int → Int} (F : Hand L f) {l : Lk} (h : Fits f l) (hs : onSide "slow" l.1 = true) (x : Int) : plc "slow" l x L ≤ f x := by
  have h1 := h.1 hs
  have h2 := Int.mul_ediv_add_emod (x - l.2.1) L
  have h3 := Int.emod_nonneg (x - l.2.1) (show L ≠ 0 by omega)
  rw [Int.mul_comm] at h2
  have h4 := F.mono (l.2.1 + (x - l.2.1) / L * L) x (by omega)
  rw [F.turn] at h4
  rw [plc_slow]; omega
theorem fit_high {L : Int} (hL : 0 < L) {f : Int → Int} (F : Hand L f) {l : Lk} (h : Fits f l) (hs : onSide "fast" l.1 = true) (x : Int) : f x ≤ plc "fast" l x L := by
  have h1 := h.2 hs
  have h2 := Int.mul_ediv_add_emod (l.2.1 - x) L
  have h3 := Int.emod_nonneg (l.2.1 - x) (show L ≠ 0 by omega)
  rw [Int.mul_comm] at h2
  have h4 := F.mono x (l.2.1 + (-((l.2.1 - x) / L)) * L) (by rw [Int.neg_mul]; omega)
  rw [F.turn, Int.neg_mul] at h4
  rw [plc_fast]; omega
theorem fit_far {L : Int} (hL : 0 < L) {f : Int → Int} (F : Hand L f) {a b : Lk} (ha : Fits f a) (hb : Fits f b) : tooFar a b L = false :=
  far_no fun h1 h2 => Int.le_trans (fit_low hL F ha h1 b.2.1) (hb.2 h2)
theorem fit_clash {L : Int} (hL : 0 < L) {f : Int → Int} (F : Hand L f) {a b : Lk} (ha : Fits f a) (hb : Fits f b) : clashB a b L = false := by
  unfold clashB
  rw [fit_far hL F ha hb, fit_far hL F hb ha]; rfl
theorem fit_home {L : Int} {f : Int → Int} (F : Hand L f) {l : Lk} (h : Fits f l) : Fits f (home L l) := by
  have e : f (home L l).2.1 = f l.2.1 - l.2.1 / L * L := by
    show f (l.2.1 - l.2.1 / L * L) = _
    have := F.turn l.2.1 (-(l.2.1 / L))
    rw [Int.neg_mul] at this
    rw [Int.sub_eq_add_neg, this]; omega
  refine ⟨fun hs => ?_, fun hs => ?_⟩
  · have := h.1 hs
    rw [e]
    show l.2.2 - l.2.1 / L * L ≤ _
    omega
  · have := h.2 hs
    rw [e]
    show _ ≤ l.2.2 - l.2.1 / L * L
    omega
/-- some places, and where they are led: rising, within a turn -/
structure Rises (L : Int) (prs : List (Int × Int)) : Prop where
  ne : prs ≠ []
  ord : prs.Pairwise fun a b => a.1 < b.1 ∧ a.2 ≤ b.2
  on : ∀ s ∈ prs, 0 ≤ s.1 ∧ s.1 < L
  turn : ∃ b : Int, b.natAbs < 2 ^ 104 ∧ ∀ s ∈ prs, b ≤ s.2 ∧ s.2 ≤ b + L
theorem pw_at {α : Type} {R : α → α → Prop} {l : List α} (h : l.Pairwise R) {a b : α} (ha : a ∈ l) (hb : b ∈ l) : a = b ∨ R a b ∨ R b a := by
  obtain ⟨i, hi, rfl⟩ := List.getElem_of_mem ha
  obtain ⟨j, hj, rfl⟩ := List.getElem_of_mem hb
  rw [List.pairwise_iff_getElem] at h
  rcases Nat.lt_trichotomy i j with e | e | e
  · exact .inr (.inl (h i j hi hj e))
  · subst e; exact .inl rfl
  · exact .inr (.inr (h j i hj hi e))
def atL (s : Int × Int) : Lk := ("at", s.1, s.2)
theorem Rises.lead {L : Int} (hL : 0 < L) {prs : List (Int × Int)} (R : Rises L prs) : ∃ f, Hand L f ∧ ∀ s ∈ prs, f s.1 = s.2 := by
  have hne : prs.map atL ≠ [] := fun e => R.ne (List.map_eq_nil_iff.mp e)
  refine ⟨fun x => bst "slow" (prs.map atL) x L, ⟨fun x y h => best_mono hL (bst_slow hne x L) (bst_slow hne y L) h, fun x k => bst_of (best_shift hL k (bst_slow hne x L))⟩, fun s hs => bst_of ⟨⟨atL s, List.mem_map.mpr ⟨s, hs, rfl⟩, ?_⟩, fun l hl => ?_⟩⟩
  · rw [plc_slow]
    show s.2 + (s.1 - s.1) / L * L = s.2
    rw [Int.sub_self, Int.zero_ediv, Int.zero_mul, Int.add_zero]
  · obtain ⟨q, hq, rfl⟩ := List.mem_map.mp hl
    rw [if_pos rfl, plc_slow]
    show q.2 + (s.1 - q.1) / L * L ≤ s.2
    have h1 := R.on s hs
    have h2 := R.on q hq
    obtain ⟨b, _, hb⟩ := R.turn
    have h3 := hb s hs
    have h4 := hb q hq
    rcases pw_at R.ord hq hs with e | e | e
    · rw [e, Int.sub_self, Int.zero_ediv, Int.zero_mul]; omega
    · rw [Int.ediv_eq_zero_of_lt (by omega) (by omega), Int.zero_mul]; omega
    · have e2 : (s.1 - q.1) / L = -1 := by
        have e1 : s.1 - q.1 = (s.1 - q.1 + L) + (-1) * L := by omega
        rw [e1, Int.add_mul_ediv_right _ _ (by omega), Int.ediv_eq_zero_of_lt (by omega) (by omega)]
        rfl
      rw [e2]; omega
/-- a look that is said of such places -/
def Said (L : Int) (prs : List (Int × Int)) (l : Lk) : Prop := WordOk l.1 ∧ ∃ s ∈ prs, l.2.1 = s.1 ∧ (l.1 = "at" → l.2.2 = s.2) ∧ (l.1 = "from" → l.2.2 ≤ s.2 ∧ s.2 ≤ l.2.2 + L) ∧ (l.1 = "upto" → s.2 ≤ l.2.2 ∧ l.2.2 ≤ s.2 + L)
theorem Said.fits {L : Int} {prs : List (Int × Int)} {f : Int → Int} (hf : ∀ s ∈ prs, f s.1 = s.2) {l : Lk} (h : Said L prs l) : Fits f l := by
  obtain ⟨_, s, hs, e, h1, h2, h3⟩ := h
  rw [Fits, e, hf s hs]
  refine ⟨fun c => ?_, fun c => ?_⟩
  · rcases side_low c with e | e
    · exact Int.le_of_eq (h1 e)
    · exact (h2 e).1
  · rcases side_high c with e | e
    · exact Int.le_of_eq (h1 e).symm
    · exact (h3 e).1
theorem Said.sized {L : Int} (hL : 0 < L) (hLb : L.natAbs < 2 ^ 100) {prs : List (Int × Int)} (R : Rises L prs) {l : Lk} (h : Said L prs l) : Sized 110 l := by
  obtain ⟨w, s, hs, e, h1, h2, h3⟩ := h
  have h4 := R.on s hs
  obtain ⟨b, hb, hb2⟩ := R.turn
  have h5 := hb2 s hs
  refine ⟨?_, ?_⟩
  · rw [e]; exact lt_up (Nat.lt_of_le_of_lt (by omega : s.1.natAbs ≤ L.natAbs) hLb) (by decide)
  · have e1 : (2 : Nat) ^ 110 = 2 ^ 104 * 64 := by decide
    have e2 : (2 : Nat) ^ 100 ≤ 2 ^ 104 := by decide
    rw [e1]
    generalize (2 : Nat) ^ 104 = B at hb e2 ⊢
    generalize (2 : Nat) ^ 100 = C at hLb e2
    rcases w with w | w | w
    · rw [h1 w]; omega
    · have := h2 w; omega
    · have := h3 w; omega
/-- heard some turns on -/
theorem home_turned {L : Int} (hL : 0 < L) (w : Str) (x y k : Int) : home L (w, x + k * L, y + k * L) = home L (w, x, y) := by
  have e : (x + k * L) / L = x / L + k := by rw [Int.add_mul_ediv_right _ _ (by omega)]
  show (w, x + k * L - (x + k * L) / L * L, y + k * L - (x + k * L) / L * L) = (w, x - x / L * L, y - x / L * L)
  rw [e, Int.add_mul]
  congr 1
  congr 1 <;> omega
theorem heard_turned {L : Int} (hL : 0 < L) (ls : List Lk) (w : Str) (x y k : Int) : heard L ls (w, x + k * L, y + k * L) = heard L ls (w, x, y) := by
  unfold heard
  rw [home_turned hL]
/-- all heard -/
def heardAll (L : Int) (ls : List Lk) : List Lk := ls.foldl (heard L) []
theorem heardAll_mem {L : Int} {ls : List Lk} (o : Lk) : o ∈ heardAll L ls ↔ ∃ l ∈ ls, o = home L l := by
  unfold heardAll
  rw [fold_mem]; simp
end KA
namespace KA
open PySem PySem.Spec PyProof.Rows L2 DP
/-! ### where hands, used by turns, lead a place -/
theorem bst_is {sd : Str} (hs : SideOk sd) {ls : List Lk} (h : ls ≠ []) (x L : Int) : IsBest sd ls x L (bst sd ls x L) := by
  rcases hs with e | e <;> subst e
  · exact bst_slow h x L
  · exact bst_fast h x L
/-- one use: none where there is no look of the side -/
noncomputable def stp (sd : Str) (L : Int) (ls : List Lk) (y : Int) : Option Int := by
  classical exact if ls = [] then none else some (bst sd ls y L)
theorem stp_nil {sd : Str} {L y : Int} : stp sd L [] y = none := by
  unfold stp; rw [if_pos rfl]
theorem stp_best {sd : Str} {L y m : Int} {ls : List Lk} (h : IsBest sd ls y L m) : stp sd L ls y = some m := by
  obtain ⟨⟨l, hl, _⟩, _⟩ := id h
  have hne : ls ≠ [] := fun e => by rw [e] at hl; cases hl
  unfold stp
  rw [if_neg hne, bst_of h]
theorem stp_some {sd : Str} (hs : SideOk sd) {L y : Int} {ls : List Lk} (h : ls ≠ []) : stp sd L ls y = some (bst sd ls y L) := stp_best (bst_is hs h y L)
theorem stp_shift {sd : Str} (hs : SideOk sd) {L : Int} (hL : 0 < L) (ls : List Lk) (y k : Int) : stp sd L ls (y + k * L) = (stp sd L ls y).map (· + k * L) := by
  by_cases h : ls = []
  · subst h; rw [stp_nil, stp_nil]; rfl
  · rw [stp_best (best_shift hL k (bst_is hs h y L)), stp_best (bst_is hs h y L)]; rfl
noncomputable def it (sd : Str) (L : Int) (kn : List (List Lk)) (x : Int) : Nat → Option Int
  | 0 => some x
  | n + 1 => (it sd L kn x n).bind (stp sd L (kn.getD (n % kn.length) []))
theorem it_succ {sd : Str} {L : Int} {kn : List (List Lk)} {x : Int} (n : Nat) : it sd L kn x (n + 1) = (it sd L kn x n).bind (stp sd L (kn.getD (n % kn.length) [])) := rfl
theorem it_none {sd : Str} {L : Int} {kn : List (List Lk)} {x : Int} {n : Nat} (h : it sd L kn x n = none) : ∀ k, it sd L kn x (n + k) = none
  | 0 => h
  | k + 1 => by
    show (it sd L kn x (n + k)).bind _ = none
    rw [it_none h k]; rfl
/-- where it stands at the same hand, whole turns on, it goes on alike -/
theorem it_turn {sd : Str} (hs : SideOk sd) {L : Int} (hL : 0 < L) {kn : List (List Lk)} {x k : Int} {s t : Nat} (hm : s % kn.length = t % kn.length) (h : it sd L kn x t = (it sd L kn x s).map (· + k * L)) : ∀ n, it sd L kn x (t + n) = (it sd L kn x (s + n)).map (· + k * L)
  | 0 => h
  | n + 1 => by
    show it sd L kn x (t + n + 1) = (it sd L kn x (s + n + 1)).map _
    rw [it_succ, it_succ, it_turn hs hL hm h n]
    have e : (t + n) % kn.length = (s + n) % kn.length := by rw [Nat.add_mod, ← hm, ← Nat.add_mod]
    rw [e]
    cases it sd L kn x (s + n) with
    | none => rfl
    | some y => exact stp_shift hs hL _ y k
theorem it_laps {sd : Str} (hs : SideOk sd) {L : Int} (hL : 0 < L) {kn : List (List Lk)} {x k : Int} {s p : Nat} (hm : s % kn.length = (s + p) % kn.length) (h : it sd L kn x (s + p) = (it sd L kn x s).map (· + k * L)) (r : Nat) : ∀ t : Nat, it sd L kn x (s + r + t * p) = (it sd L kn x (s + r)).map (· + t * (k * L))
  | 0 => by
    rw [Nat.zero_mul]
    cases it sd L kn x (s + r) with
    | none => simp
    | some y => simp
  | t + 1 => by
    have h1 := it_turn hs hL hm h (r + t * p)
    have e1 : s + p + (r + t * p) = s + r + (t + 1) * p := by rw [Nat.add_mul]; omega
    have e2 : s + (r + t * p) = s + r + t * p := by omega
    rw [e1, e2] at h1
    rw [h1, it_laps hs hL hm h r t]
    cases it sd L kn x (s + r) with
    | none => rfl
    | some y =>
      show some (y + (t : Int) * (k * L) + k * L) = some (y + ((t + 1 : Nat) : Int) * (k * L))
      rw [Int.natCast_add, Int.add_mul]
      congr 1
      omega
/-- two rounds that tell the same of each place lead alike -/
theorem it_alike {sd : Str} {L : Int} {kn kn' : List (List Lk)} {x : Int} (hl : kn.length = kn'.length) (h : ∀ i y, i < kn.length → stp sd L (kn.getD i []) y = stp sd L (kn'.getD i []) y) (hm : 0 < kn.length) : ∀ n, it sd L kn x n = it sd L kn' x n
  | 0 => rfl
  | n + 1 => by
    show (it sd L kn x n).bind _ = (it sd L kn' x n).bind _
    rw [it_alike hl h hm n]
    cases it sd L kn' x n with
    | none => rfl
    | some y =>
      show stp sd L (kn.getD (n % kn.length) []) y = stp sd L (kn'.getD (n % kn'.length) []) y
      rw [← hl]
      exact h _ y (Nat.mod_lt _ hm)
/-! ### the walk -/
structure WalkOk (sd : Str) (L : Int) (kn : List (List Lk)) (x : Int) (ps : List Int) (tl : List Lk) : Prop where
  len : ps.length = tl.length + 1
  zero : ps[0]? = some x
  step : ∀ i l, tl[i]? = some l → l ∈ kn.getD (i % kn.length) [] ∧ ∃ y z, ps[i]? = some y ∧ ps[i + 1]? = some z ∧ plc sd l y L = z ∧ IsBest sd (kn.getD (i % kn.length) []) y L z
/-- how it ends -/
def EndOk (L : Int) (kn : List (List Lk)) (ps : List Int) (tl : List Lk) : Option Nat → Prop
  | none => kn.getD (tl.length % kn.length) [] = []
  | some s => s < tl.length ∧ s % kn.length = tl.length % kn.length ∧ ∃ a b, ps[s]? = some a ∧ ps[tl.length]? = some b ∧ a % L = b % L
theorem WalkOk.it {sd : Str} {L : Int} {kn : List (List Lk)} {x : Int} {ps : List Int} {tl : List Lk} (W : WalkOk sd L kn x ps tl) : ∀ (i : Nat) (y : Int), ps[i]? = some y → it sd L kn x i = some y
  | 0, y, h => by
    rw [W.zero] at h
    exact h
  | i + 1, y, h => by
    have hi := (List.getElem?_eq_some_iff.mp h).1
    have hl := W.len
    obtain ⟨_, y0, z, h1, h2, _, h4⟩ := W.step i _ (List.getElem?_eq_getElem (by omega : i < tl.length))
    rw [h2] at h
    rw [← Option.some.inj h]
    show (KA.it sd L kn x i).bind _ = _
    rw [W.it i y0 h1]
    exact stp_best h4
/-- behind any uses: the walk's own answer -/
theorem behind_in {sd : Str} {L : Int} {kn : List (List Lk)} {x : Int} {ps : List Int} {tl : List Lk} (W : WalkOk sd L kn x ps tl) {n : Nat} (h : n < ps.length) : it sd L kn x n = some (ps.getD n 0) := by
  refine W.it n _ ?_
  rw [List.getD_eq_getElem?_getD, List.getElem?_eq_getElem h]; rfl
theorem behind_none {sd : Str} {L : Int} {kn : List (List Lk)} {x : Int} {ps : List Int} {tl : List Lk} (W : WalkOk sd L kn x ps tl) (h : EndOk L kn ps tl none) {n : Nat} (hn : ps.length ≤ n) : it sd L kn x n = none := by
  have hl := W.len
  have h1 : it sd L kn x (tl.length + 1) = none := by
    show (it sd L kn x tl.length).bind _ = none
    rw [show kn.getD (tl.length % kn.length) [] = [] from h]
    cases it sd L kn x tl.length with
    | none => rfl
    | some y => exact stp_nil
  have h2 := it_none h1 (n - (tl.length + 1))
  rwa [show tl.length + 1 + (n - (tl.length + 1)) = n by omega] at h2
theorem behind_laps {sd : Str} (hs : SideOk sd) {L : Int} (hL : 0 < L) {kn : List (List Lk)} {x : Int} {ps : List Int} {tl : List Lk} (W : WalkOk sd L kn x ps tl) {s : Nat} (h : EndOk L kn ps tl (some s)) (t r : Nat) (hr : s + r < ps.length) :
    it sd L kn x (s + r + t * (tl.length - s)) = some (ps.getD (s + r) 0 + t * (ps.getD tl.length 0 - ps.getD s 0)) := by
  obtain ⟨h1, h2, a, b, ha, hb, hab⟩ := h
  have ea := W.it s a ha
  have eb := W.it _ b hb
  have e1 : s + (tl.length - s) = tl.length := by omega
  obtain ⟨k, hk⟩ : ∃ k, b = a + k * L := by
    refine ⟨b / L - a / L, ?_⟩
    have q1 := Int.mul_ediv_add_emod a L
    have q2 := Int.mul_ediv_add_emod b L
    rw [Int.mul_comm] at q1 q2
    rw [Int.sub_mul]
    omega
  have hit : it sd L kn x (s + (tl.length - s)) = (it sd L kn x s).map (· + k * L) := by
    rw [e1, ea, eb, hk]; rfl
  rw [it_laps hs hL (by rw [e1]; exact h2) hit r t, behind_in W hr]
  have ga : ps.getD s 0 = a := by rw [List.getD_eq_getElem?_getD, ha]; rfl
  have gb : ps.getD tl.length 0 = b := by rw [List.getD_eq_getElem?_getD, hb]; rfl
  rw [ga, gb, hk]
  show some (ps.getD (s + r) 0 + (t : Int) * (k * L)) = some (ps.getD (s + r) 0 + (t : Int) * (a + k * L - a))
  rw [show a + k * L - a = k * L by omega]
/-! ### sizes -/
theorem plc_near {L : Int} (hL : 0 < L) (sd : Str) (l : Lk) (x : Int) : (plc sd l x L - x).natAbs ≤ (l.2.2 - l.2.1).natAbs + L.natAbs := by
  unfold plc
  split
  · have q := Int.mul_ediv_add_emod (x - l.2.1) L
    have q0 := Int.emod_nonneg (x - l.2.1) (show L ≠ 0 by omega)
    have q1 := Int.emod_lt_of_pos (x - l.2.1) hL
    rw [Int.mul_comm] at q
    omega
  · have q := Int.mul_ediv_add_emod (l.2.1 - x) L
    have q0 := Int.emod_nonneg (l.2.1 - x) (show L ≠ 0 by omega)
    have q1 := Int.emod_lt_of_pos (l.2.1 - x) hL
    rw [Int.mul_comm] at q
    omega
/-- a hand's looks are such as a Dark keeps -/
def KnOk (kn : List (List Lk)) : Prop := ∀ ls ∈ kn, ls.length ≤ 60 ∧ ∀ l ∈ ls, WordOk l.1 ∧ Sized 310 l
theorem KnOk.get {kn : List (List Lk)} (h : KnOk kn) (i : Nat) : (kn.getD i []).length ≤ 60 ∧ ∀ l ∈ kn.getD i [], WordOk l.1 ∧ Sized 310 l := by
  by_cases hi : i < kn.length
  · have e : kn.getD i [] = kn[i] := by rw [List.getD_eq_getElem?_getD, List.getElem?_eq_getElem hi]; rfl
    rw [e]
    exact h _ (List.getElem_mem hi)
  · have e : kn.getD i [] = [] := by rw [List.getD_eq_getElem?_getD, List.getElem?_eq_none (by omega)]; rfl
    rw [e]
    exact ⟨Nat.zero_le _, fun l hl => by cases hl⟩
theorem step_near {L : Int} (hL : 0 < L) (hLb : L.natAbs < 2 ^ 200) {l : Lk} (h : Sized 310 l) (sd : Str) (x : Int) : (plc sd l x L - x).natAbs ≤ 2 ^ 312 := by
  have h1 := plc_near hL sd l x
  have h2 : (l.2.2 - l.2.1).natAbs < 2 ^ 311 := sub_lt h.2 h.1
  have h3 : L.natAbs < 2 ^ 311 := lt_up hLb (by decide)
  have h4 : (2 : Nat) ^ 312 = 2 ^ 311 + 2 ^ 311 := by rw [Nat.pow_succ, Nat.mul_two]
  omega
theorem WalkOk.small {sd : Str} {L : Int} (hL : 0 < L) (hLb : L.natAbs < 2 ^ 200) {kn : List (List Lk)} (hk : KnOk kn) {x : Int} {ps : List Int} {tl : List Lk} (W : WalkOk sd L kn x ps tl) : ∀ (i : Nat) (y : Int), ps[i]? = some y → y.natAbs ≤ x.natAbs + i * 2 ^ 312
  | 0, y, h => by
    rw [W.zero] at h
    rw [← Option.some.inj h]; omega
  | i + 1, y, h => by
    have hi := (List.getElem?_eq_some_iff.mp h).1
    have hl := W.len
    obtain ⟨hm, y0, z, h1, h2, h3, _⟩ := W.step i _ (List.getElem?_eq_getElem (by omega : i < tl.length))
    rw [h2] at h
    rw [← Option.some.inj h, ← h3]
    have q1 := W.small hL hLb hk i y0 h1
    have q2 := step_near hL hLb ((hk.get _).2 _ hm).2 sd y0
    rw [Nat.add_mul, Nat.one_mul]
    generalize (2 : Nat) ^ 312 = B at q1 q2 ⊢
    generalize i * B = c at q1 ⊢
    omega
/-! ### the marks: hand and place within the turn -/
def mark (L : Int) (m : Nat) (ps : List Int) (i : Nat) : Nat × Int := (i % m, ps.getD i 0 % L)
def marks (L : Int) (m : Nat) (ps : List Int) (n : Nat) : List (Nat × Int) := (List.range n).map (mark L m ps)
def cand (L : Int) (kn : List (List Lk)) (x : Int) : List (Nat × Int) := (0, x % L) :: ((List.range kn.length).map fun j => (kn.getD j []).map fun l => ((j + 1) % kn.length, l.2.2 % L)).flatten
theorem nodup_le {α : Type} [DecidableEq α] : ∀ {l l' : List α}, l.Nodup → (∀ a ∈ l, a ∈ l') → l.length ≤ l'.length
  | [], l', _, _ => Nat.zero_le _
  | a :: l, l', hn, hs => by
    obtain ⟨h1, h2⟩ := List.nodup_cons.mp hn
    have ha := hs a List.mem_cons_self
    have h3 : ∀ b ∈ l, b ∈ l'.erase a := fun b hb => (List.mem_erase_of_ne (fun e => h1 (by rw [← e]; exact hb))).mpr (hs b (List.mem_cons_of_mem _ hb))
    have h4 := nodup_le h2 h3
    have h5 := List.length_erase_of_mem ha
    have h6 := List.length_pos_of_mem ha
    rw [List.length_cons]; omega
theorem flat_le {β γ : Type} {f : β → List γ} {c : Nat} : ∀ {l : List β}, (∀ b ∈ l, (f b).length ≤ c) → (l.map f).flatten.length ≤ l.length * c
  | [], _ => by simp
  | b :: l, h => by
    have h1 := flat_le (l := l) fun q hq => h q (List.mem_cons_of_mem _ hq)
    have h2 := h b List.mem_cons_self
    rw [List.map_cons, List.flatten_cons, List.length_append, List.length_cons, Nat.add_mul]
    omega
theorem cand_len {L : Int} {kn : List (List Lk)} (hk : KnOk kn) (x : Int) : (cand L kn x).length ≤ kn.length * 60 + 1 := by
  unfold cand
  rw [List.length_cons]
  have h := flat_le (f := fun j => (kn.getD j []).map fun l : Lk => ((j + 1) % kn.length, l.2.2 % L)) (c := 60) (l := List.range kn.length) fun j _ => by
    rw [List.length_map]; exact (hk.get j).1
  rw [List.length_range] at h
  omega
theorem plc_mod {L : Int} (sd : Str) (l : Lk) (x : Int) : plc sd l x L % L = l.2.2 % L := by
  unfold plc
  split
  · exact Int.add_mul_emod_self_right ..
  · rw [Int.sub_eq_add_neg, ← Int.neg_mul]
    exact Int.add_mul_emod_self_right ..
theorem mark_cand {sd : Str} {L : Int} {kn : List (List Lk)} (hm : 0 < kn.length) {x : Int} {ps : List Int} {tl : List Lk} (W : WalkOk sd L kn x ps tl) : ∀ i, i < ps.length → mark L kn.length ps i ∈ cand L kn x
  | 0, _ => by
    refine List.mem_cons.mpr (.inl ?_)
    unfold mark
    rw [List.getD_eq_getElem?_getD, W.zero, Nat.zero_mod]; rfl
  | i + 1, hi => by
    refine List.mem_cons.mpr (.inr ?_)
    have hl := W.len
    obtain ⟨h0, y0, z, h1, h2, h3, _⟩ := W.step i _ (List.getElem?_eq_getElem (by omega : i < tl.length))
    refine List.mem_flatten.mpr ⟨_, List.mem_map.mpr ⟨i % kn.length, List.mem_range.mpr (Nat.mod_lt _ hm), rfl⟩, List.mem_map.mpr ⟨_, h0, ?_⟩⟩
    unfold mark
    rw [List.getD_eq_getElem?_getD, h2]
    show (_, _) = (_, z % L)
    rw [← h3, plc_mod]
    congr 1
    rw [Nat.mod_add_mod]
theorem marks_le {sd : Str} {L : Int} {kn : List (List Lk)} (hm : 0 < kn.length) {x : Int} {ps : List Int} {tl : List Lk} (W : WalkOk sd L kn x ps tl) {n : Nat} (hn : n ≤ ps.length) (hd : (marks L kn.length ps n).Nodup) : n ≤ (cand L kn x).length := by
  have h := nodup_le hd (l' := cand L kn x) fun a ha => by
    obtain ⟨i, hi, rfl⟩ := List.mem_map.mp ha
    exact mark_cand hm W i (Nat.lt_of_lt_of_le (List.mem_range.mp hi) hn)
  unfold marks at h
  rwa [List.length_map, List.length_range] at h
theorem WalkOk.new {sd : Str} {L : Int} {kn : List (List Lk)} {x : Int} : WalkOk sd L kn x [x] [] := ⟨rfl, rfl, fun i l h => by simp at h⟩
theorem WalkOk.snoc {sd : Str} {L : Int} {kn : List (List Lk)} {x y z : Int} {ps : List Int} {tl : List Lk} {l : Lk} (W : WalkOk sd L kn x ps tl) (hy : ps[tl.length]? = some y) (hl : l ∈ kn.getD (tl.length % kn.length) []) (hz : plc sd l y L = z) (hb : IsBest sd (kn.getD (tl.length % kn.length) []) y L z) : WalkOk sd L kn x (ps ++ [z]) (tl ++ [l]) := by
  have hlen := W.len
  refine ⟨by simp [hlen], by rw [List.getElem?_append_left (by omega)]; exact W.zero, fun i l' h => ?_⟩
  by_cases hi : i < tl.length
  · rw [List.getElem?_append_left hi] at h
    obtain ⟨h0, y0, z0, h1, h2, h3⟩ := W.step i l' h
    exact ⟨h0, y0, z0, by rw [List.getElem?_append_left (by omega)]; exact h1, by rw [List.getElem?_append_left (by omega)]; exact h2, h3⟩
  · have hi2 := (List.getElem?_eq_some_iff.mp h).1
    have e : i = tl.length := by
      rw [List.length_append, List.length_singleton] at hi2; omega
    subst e
    rw [List.getElem?_append_right (Nat.le_refl _), Nat.sub_self] at h
    have e2 : l = l' := Option.some.inj h
    subst e2
    refine ⟨hl, y, z, by rw [List.getElem?_append_left (by omega)]; exact hy, ?_, hz, hb⟩
    rw [List.getElem?_append_right (by omega), hlen, Nat.sub_self]; rfl
theorem marks_keep {L : Int} {m : Nat} {ps : List Int} {z : Int} {n : Nat} (h : n ≤ ps.length) : marks L m (ps ++ [z]) n = marks L m ps n := by
  unfold marks
  refine List.map_congr_left fun i hi => ?_
  have := List.mem_range.mp hi
  unfold mark
  rw [List.getD_eq_getElem?_getD, List.getD_eq_getElem?_getD, List.getElem?_append_left (by omega)]
theorem marks_succ {L : Int} {m : Nat} {ps : List Int} {n : Nat} : marks L m ps (n + 1) = marks L m ps n ++ [mark L m ps n] := by
  unfold marks
  rw [List.range_succ, List.map_append]; rfl
theorem marks_nodup {L : Int} {m : Nat} {ps : List Int} {n : Nat} (h : (marks L m ps n).Nodup) (h2 : mark L m ps n ∉ marks L m ps n) : (marks L m ps (n + 1)).Nodup := by
  rw [marks_succ]
  refine List.nodup_append.mpr ⟨h, by simp, fun a ha b hb e => ?_⟩
  rw [List.mem_singleton] at hb
  subst hb; subst e
  exact h2 ha
end KA
namespace KA
open PySem PySem.Spec PyProof.Rows L2 DP
/-- hands in the dark, of one length -/
def Darks (Z : Ad) (K : PySem.W.Frag) (H : Hp) (ds : List Addr) (L : Int) (hs : List (List Lk)) : Prop := ds.length = hs.length ∧ ∀ (i : Nat) (d : Addr) (ls : List Lk), ds[i]? = some d → hs[i]? = some ls → DarkAt Z K H d L ls
theorem Darks.same {Z : Ad} {K : PySem.W.Frag} {H H' : Hp} {ds : List Addr} {L : Int} {hs : List (List Lk)} (D : Darks Z K H ds L hs) (S : Same H H') : Darks Z K H' ds L hs := ⟨D.1, fun i d ls h1 h2 => (D.2 i d ls h1 h2).same S⟩
theorem Darks.get {Z : Ad} {K : PySem.W.Frag} {H : Hp} {ds : List Addr} {L : Int} {hs : List (List Lk)} (D : Darks Z K H ds L hs) {i : Nat} {d : Addr} (h : ds[i]? = some d) : ∃ ls, hs[i]? = some ls ∧ DarkAt Z K H d L ls := by
  have hi := (List.getElem?_eq_some_iff.mp h).1
  have hl := D.1
  exact ⟨hs[i], List.getElem?_eq_getElem (by omega), D.2 i d _ h (List.getElem?_eq_getElem (by omega))⟩
/-- a list of looks that stands as itself -/
def LkAt (K : PySem.W.Frag) (H : Hp) (p : Addr) (ls : List Lk) : Prop := ∃ vs, H p = some (.lst vs) ∧ DpAll K H vs (ls.map encL)
theorem LkAt.dp {K : PySem.W.Frag} {H : Hp} {p : Addr} {ls : List Lk} (h : LkAt K H p ls) : Dp K H (.ref p) (.list (ls.map encL)) := by
  obtain ⟨vs, h1, h2⟩ := h
  exact .lst (SqL.of h1) h2
theorem LkAt.to {K : PySem.W.Frag} {H H' : Hp} {p : Addr} {ls : List Lk} (h : LkAt K H p ls) (ht : Tups H H') (hp : ∀ o, H p = some o → H' p = some o) : LkAt K H' p ls := by
  obtain ⟨vs, h1, h2⟩ := h
  exact ⟨vs, hp _ h1, dpAll_tups ht _ _ (noLs_map noL_encL ls) h2⟩
theorem LkAt.same {K : PySem.W.Frag} {H H' : Hp} {p : Addr} {ls : List Lk} (h : LkAt K H p ls) (S : Same H H') : LkAt K H' p ls := h.to (Tups.of_same S) fun o e => S _ _ e
/-- lists of looks -/
def Lots (K : PySem.W.Frag) (H : Hp) (as : List Addr) (kn : List (List Lk)) : Prop := as.length = kn.length ∧ ∀ (i : Nat) (a : Addr) (ls : List Lk), as[i]? = some a → kn[i]? = some ls → LkAt K H a ls
theorem Lots.same {K : PySem.W.Frag} {H H' : Hp} {as : List Addr} {kn : List (List Lk)} (D : Lots K H as kn) (S : Same H H') : Lots K H' as kn := ⟨D.1, fun i a ls h1 h2 => (D.2 i a ls h1 h2).same S⟩
theorem Lots.to {K : PySem.W.Frag} {H H' : Hp} {as : List Addr} {kn : List (List Lk)} (D : Lots K H as kn) (ht : Tups H H') (hp : ∀ a ∈ as, ∀ o, H a = some o → H' a = some o) : Lots K H' as kn := ⟨D.1, fun i a ls h1 h2 => (D.2 i a ls h1 h2).to ht (hp a (List.mem_of_getElem? h1))⟩
theorem Lots.get {K : PySem.W.Frag} {H : Hp} {as : List Addr} {kn : List (List Lk)} (D : Lots K H as kn) {i : Nat} {a : Addr} (h : as[i]? = some a) : ∃ ls, kn[i]? = some ls ∧ LkAt K H a ls := by
  have hi := (List.getElem?_eq_some_iff.mp h).1
  have hl := D.1
  exact ⟨kn[i], List.getElem?_eq_getElem (by omega), D.2 i a _ h (List.getElem?_eq_getElem (by omega))⟩
theorem Lots.snoc {K : PySem.W.Frag} {H : Hp} {as : List Addr} {kn : List (List Lk)} {a : Addr} {ls : List Lk} (D : Lots K H as kn) (h : LkAt K H a ls) : Lots K H (as ++ [a]) (kn ++ [ls]) := by
  have hl := D.1
  refine ⟨by simp [hl], fun i b l h1 h2 => ?_⟩
  by_cases hi : i < as.length
  · rw [List.getElem?_append_left hi] at h1
    rw [List.getElem?_append_left (by omega)] at h2
    exact D.2 i b l h1 h2
  · have h3 := (List.getElem?_eq_some_iff.mp h1).1
    rw [List.length_append, List.length_singleton] at h3
    have e : i = as.length := by omega
    subst e
    rw [List.getElem?_append_right (Nat.le_refl _), Nat.sub_self] at h1
    rw [List.getElem?_append_right (by omega), hl, Nat.sub_self] at h2
    have e1 : a = b := Option.some.inj h1
    have e2 : ls = l := Option.some.inj h2
    subst e1 e2
    exact h
/-- a list of objects, in place of them -/
abbrev refs (as : List Addr) : List V := as.map V.ref
def spRound (Z : Ad) (K : PySem.W.Frag) : Sp := fun vs H Q _ => ∃ (hp : Addr) (ds : List Addr) (sd : Str) (L : Int) (hs : List (List Lk)), vs = [.ref hp, .str sd] ∧ SqL K H hp (refs ds) ∧ Darks Z K H ds L hs ∧ SideOk sd ∧ ds.length ≤ 1000 ∧
  ∀ H' p as, H p = none → (∀ a ∈ as, H a = none ∧ a ≠ p) → Same H H' → H' p = some (.lst (refs as)) → Lots K H' as (hs.map (sideOf sd)) → Q (.ref p) H'
theorem same_acc {H H' : Hp} {D : Addr} {o : HO} (S : Same H H') (hD : H D = none) : Same H (upd H' D o) := same_set S hD
section
variable {P : Program} {w : World} {K : PySem.W.Frag} {mg : Str → Option Value} {base : Heap} {Z : Ad}
theorem ok_round_looks (T : Tx K w mg Z) : FnOk P w K mg base CX0 2 Z.a_round_looks Z.d_round_looks P_round_looks (spRound Z K) := by
  refine T.F_round_looks.ok scround_looks (fun vs H Q E h => ?_) (fun cdv A outer s H vs Q E hr h => ?_)
  · obtain ⟨hp, ds, sd, L, hs, rfl, _⟩ := h
    rfl
  · obtain ⟨hp, ds, sd, L, hs, rfl, hh, hD, hsd, hlen, k⟩ := h
    refine ⟨_, (pss_one (ps_ret (pe_lc (own := [("hand", 2)]) (g := gName 2) (tt := tYes) rfl scround_looks.nd (pi_list (pv 0)) (blkOk_by (own := [("hand", 2)]) (N := N_round_looks) (sc := defScope sround_looks) (by decide +kernel)) (fun _ _ _ _ _ => (pg_name (i := 2) scround_looks.nd rfl (Or.inl rfl))) (fun _ _ _ _ _ => pts_nil) (fun _ _ _ _ _ => (pe_call (ok_side_looks T) (hr.mono (by decide)) (by rfl) T.g_side_looks T.F_side_looks.kp T.bb_side_looks .nil pass0 (pa_cons (pe_meth0 (pv 2) T.cl T.m_Dark_looks (ok_Dark_looks T) (hr.mono (by decide)) T.bb_Dark_looks .nil pass0) (pa_cons (pv 1) pa_nil))))))), ?_⟩
    refine ⟨_, rfl, hp, rfl, ⟨_, hh⟩, fun D hDn => ?_⟩
    refine lc_list (K := K) (a := hp) (xs := refs ds) (fun i H' => Same H H' ∧ ∃ as, H' D = some (.lst (refs as)) ∧ as.length = i ∧ (∀ a ∈ as, H a = none ∧ a ≠ D) ∧ Lots K H' as ((hs.take i).map (sideOf sd))) ⟨same_upd hDn, [], upd_same, rfl, (fun _ z => by cases z), rfl, fun i a ls z => by simp at z⟩ (fun i H' _ ⟨S, _⟩ => Same.sqL S hh) ?_ ?_
    · rintro i y H' hi ⟨S, as, hD', hal, hfr, hlots⟩
      obtain ⟨d, hd, rfl⟩ : ∃ d, ds[i]? = some d ∧ y = .ref d := by
        obtain ⟨d, h1, h2⟩ := map_at hi
        exact ⟨d, h1, h2⟩
      obtain ⟨ls, hls, DD⟩ := hD.get hd
      refine ⟨rfl, yes_ite ?_⟩
      have DD1 := DD.same S
      obtain ⟨dx, la, vs, h1, h2, h3⟩ := DD1.ex
      refine ⟨_, rfl, d, dx, _, rfl, h1, df_no _ _ (by decide +kernel) (by decide +kernel), d, L, ls, rfl, DD1, fun p xs H1 hp1 S1 hx1 hx2 => ?_⟩
      refine ⟨_, rfl, .ref p, ls, sd, rfl, .lst (SqL.of hx1) hx2, hsd, fun l hl => (DD.ok l hl).1, Nat.le_trans DD.len (by decide), fun H2 q hq S2 hlk => ?_⟩
      have S12 := S1.trans S2
      have hD2 := S12 _ _ hD'
      have hqD : q ≠ D := fun e => by rw [e, S1 _ _ hD'] at hq; cases hq
      refine ⟨refs as, hD2, ?_, same_set (S.trans S12) hDn, as ++ [q], ?_, by simp [hal], fun a ha => ?_, ?_⟩
      · have := (List.getElem?_eq_some_iff.mp hd).1
        exact small1000 (by simp; omega)
      · rw [upd_same]; simp [refs]
      · rcases List.mem_append.mp ha with h | h
        · exact hfr a h
        · rw [List.mem_singleton] at h
          subst h
          exact ⟨S.free (S1.free hq), hqD⟩
      · rw [take_snoc hls, List.map_append]
        have hn : ∀ a ∈ as ++ [q], a ≠ D := fun a ha => by
          rcases List.mem_append.mp ha with h | h
          · exact (hfr a h).2
          · rw [List.mem_singleton] at h; subst h; exact hqD
        exact ((hlots.same S12).snoc hlk).to (Tups.upd_lst hD2) fun a ha o e => (upd_ne (hn a ha)).trans e
    · rintro H' ⟨S, as, hD', hal, hfr, hlots⟩
      have hl := hD.1
      have e : hs.take (refs ds).length = hs := List.take_of_length_le (by simp; omega)
      rw [e] at hlots
      exact k H' D as hDn hfr S hD' hlots
end
end KA
namespace KA
open PySem PySem.Spec PyProof.Rows L2 DP
/-- a Walk's fields -/
def wf (pl tb : Addr) (st : V) : List (Str × V) := [("places", .ref pl), ("told_by", .ref tb), ("start", st)]
def stV : Option Nat → V
  | none => .non
  | some s => .int s
theorem wf_places (pl tb : Addr) (st : V) : (wf pl tb st).lookup ("places" : Str) = some (.ref pl) := by simp [wf, List.lookup]
theorem wf_told (pl tb : Addr) (st : V) : (wf pl tb st).lookup ("told_by" : Str) = some (.ref tb) := by
  have h : (("told_by" : Str) == ("places" : Str)) = false := by decide +kernel
  simp [wf, List.lookup, h]
theorem wf_start (pl tb : Addr) (st : V) : (wf pl tb st).lookup ("start" : Str) = some st := by
  have h : (("start" : Str) == ("places" : Str)) = false := by decide +kernel
  have h2 : (("start" : Str) == ("told_by" : Str)) = false := by decide +kernel
  simp [wf, List.lookup, h, h2]
theorem wf_no (pl tb : Addr) (st : V) {m : Str} (h1 : (m == ("places" : Str)) = false) (h2 : (m == ("told_by" : Str)) = false) (h3 : (m == ("start" : Str)) = false) : (wf pl tb st).lookup m = none := by simp [wf, List.lookup, h1, h2, h3]
theorem wf_put (pl tb : Addr) (st v : V) : putF "start" v (wf pl tb st) = wf pl tb v := by
  show (if ("places" : Str) = "start" then _ else (("places" : Str), V.ref pl) :: (if ("told_by" : Str) = "start" then _ else (("told_by" : Str), V.ref tb) :: (if ("start" : Str) = "start" then _ else _))) = _
  rw [if_neg (by decide +kernel), if_neg (by decide +kernel), if_pos rfl]; rfl
/-- what is walked: its places, the looks that told them, where it comes round to -/
structure WalkAt (Z : Ad) (K : PySem.W.Frag) (H : Hp) (w : Addr) (pl tb : Addr) (ps : List Int) (tl : List Lk) (st : Option Nat) : Prop where
  ex : ∃ dx tvs, H w = some (.ins Z.C_Walk dx (wf pl tb (stV st))) ∧ H pl = some (.lst (ps.map V.int)) ∧ H tb = some (.lst tvs) ∧ DpAll K H tvs (tl.map encL)
/-- the dict of the marks seen -/
def seenK (L : Int) (m : Nat) (ps : List Int) (n : Nat) : List (List Key × V) := (List.range n).map fun i => ([.inl (((i % m : Nat)) : Int), .inl (ps.getD i 0 % L)], V.int i)
theorem seen_some {L : Int} {m : Nat} {ps : List Int} {n : Nat} {a b : Int} {v : V} (h : valV (seenK L m ps n) [.inl a, .inl b] = some v) : ∃ i : Nat, i < n ∧ v = .int i ∧ (((i % m : Nat)) : Int) = a ∧ ps.getD i 0 % L = b := by
  unfold valV at h
  cases e : (seenK L m ps n).find? fun kv => decide (kv.1 = [.inl a, .inl b]) with
  | none => rw [e] at h; cases h
  | some p =>
    rw [e] at h
    have e1 := List.find?_some e
    obtain ⟨i, hi, rfl⟩ := List.mem_map.mp (List.mem_of_find?_eq_some e)
    have e2 := of_decide_eq_true e1
    injection e2 with e3 e4
    injection e4 with e5 _
    exact ⟨i, List.mem_range.mp hi, (Option.some.inj h).symm, Sum.inl.inj e3, Sum.inl.inj e5⟩
theorem seen_none {L : Int} {m : Nat} {ps : List Int} {n j : Nat} (h : valV (seenK L m ps n) [.inl ((j % m : Nat) : Int), .inl (ps.getD j 0 % L)] = none) : mark L m ps j ∉ marks L m ps n := by
  intro hm
  obtain ⟨i, hi, e⟩ := List.mem_map.mp hm
  unfold valV at h
  rw [Option.map_eq_none_iff] at h
  have h2 := List.find?_eq_none.mp h _ (List.mem_map.mpr ⟨i, hi, rfl⟩)
  refine h2 (decide_eq_true ?_)
  have e1 : i % m = j % m := congrArg Prod.fst e
  have e2 : ps.getD i 0 % L = ps.getD j 0 % L := congrArg Prod.snd e
  show [Sum.inl _, Sum.inl _] = _
  rw [e1, e2]
theorem putK_new {κ : Type} [DecidableEq κ] {kvs : List (κ × V)} {k : κ} {v : V} (h : valV kvs k = none) : putK kvs k v = kvs ++ [(k, v)] := by
  unfold putK
  have e : (kvs.any fun kv => decide (kv.1 = k)) = false := by rw [valV_any, h]; rfl
  rw [e, if_neg Bool.false_ne_true]
theorem seenK_len (L : Int) (m : Nat) (ps : List Int) (n : Nat) : (seenK L m ps n).length = n := by unfold seenK; simp
theorem seenK_next {L : Int} {m : Nat} {ps : List Int} {z : Int} {n : Nat} (h : n < ps.length) : seenK L m (ps ++ [z]) (n + 1) = seenK L m ps n ++ [([.inl ((n % m : Nat) : Int), .inl (ps.getD n 0 % L)], V.int n)] := by
  unfold seenK
  rw [List.range_succ, List.map_append]
  have e : ∀ i, i < ps.length → (ps ++ [z]).getD i 0 = ps.getD i 0 := fun i hi => by rw [List.getD_eq_getElem?_getD, List.getD_eq_getElem?_getD, List.getElem?_append_left hi]
  congr 1
  · refine List.map_congr_left fun i hi => ?_
    have := List.mem_range.mp hi
    rw [e i (by omega)]
  · show [([Sum.inl ((n % m : Nat) : Int), Sum.inl ((ps ++ [z]).getD n 0 % L)], V.int n)] = _
    rw [e n h]
def spFollow (Z : Ad) (K : PySem.W.Frag) : Sp := fun vs H Q _ => ∃ (w kp pl tb dx : Addr) (as : List Addr) (L x : Int) (sd : Str) (kn : List (List Lk)), vs = [.ref w, .int L, .ref kp, .str sd] ∧ H w = some (.ins Z.C_Walk dx (wf pl tb .non)) ∧ H pl = some (.lst [.int x]) ∧ H tb = some (.lst []) ∧
  H kp = some (.lst (refs as)) ∧ Lots K H as kn ∧ pl ≠ tb ∧ (∀ a ∈ kp :: as, a ≠ w ∧ a ≠ pl ∧ a ≠ tb) ∧ SideOk sd ∧ 0 < L ∧ L.natAbs < 2 ^ 200 ∧ x.natAbs < 2 ^ 390 ∧ 0 < kn.length ∧ kn.length ≤ 60 ∧ KnOk kn ∧
  ∀ H' ps tl st, WalkOk sd L kn x ps tl → EndOk L kn ps tl st → (marks L kn.length ps tl.length).Nodup → WalkAt Z K H' w pl tb ps tl st → (∀ b o, H b = some o → b ≠ w → b ≠ pl → b ≠ tb → H' b = some o) → Q .non H'
section
variable {P : Program} {w : World} {K : PySem.W.Frag} {mg : Str → Option Value} {base : Heap} {Z : Ad}
theorem ok_Walkfollow (T : Tx K w mg Z) : FnOk P w K mg base CX0 3 Z.a_Walkfollow Z.d_Walkfollow P_Walkfollow (spFollow Z K) := by
  refine T.F_Walkfollow.ok scWalkfollow (fun vs H Q E h => ?_) (fun cdv A outer s H vs Q E hr h => ?_)
  · obtain ⟨w, kp, pl, tb, dx, as, L, x, sd, kn, rfl, _⟩ := h
    rfl
  · obtain ⟨w, kp, pl, tb, dx, as, L, x, sd, kn, rfl, hw, hpl, htb, hkp, hlots, hpt, hne, hsd, hL, hLb, hx, hm0, hm1, hk, k⟩ := h
    refine ⟨_, (pss_cons (ps_set (i := 4) scWalkfollow.nd rfl (Or.inl rfl) pe_dnewT)
      (pss_one (ps_while PassesOwn.never (pt_val pe_bl) (pss_cons (ps_set (i := 5) scWalkfollow.nd rfl (Or.inl rfl) (pe_callB (lenK (K := K)) (by rfl) T.b_len (by decide +kernel) (pa_cons (fldK (K := K) (pv 0) rfl) pa_nil)))
      (pss_cons (ps_set (i := 6) scWalkfollow.nd rfl (Or.inl rfl) (pe_op op_mod (pv 5) (pe_callB (lenK (K := K)) (by rfl) T.b_len (by decide +kernel) (pa_cons (pv 2) pa_nil))))
      (pss_cons (ps_set (i := 7) scWalkfollow.nd rfl (Or.inl rfl) (pe_tup (pa_cons (pv 6) (pa_cons (pe_op op_mod (pe_ix (ixL (K := K)) (fldK (K := K) (pv 0) rfl) (pe_un un_neg pe_int) (fun _ _ => rfl)) (pv 1)) pa_nil))))
      (C8.pss_cut (ps_if (pt_cmp (pc_din (hu_of hr) (pv 7) (pv 4))) (pss_cons (ps_fld (pv 0) (pe_dget (hu_of hr) (pv 4) (pv 7) (fun _ _ => rfl)) rfl)
      (pss_one ps_retN)) pss_nil)
      (C8.pss_cut (ps_if (pt_not (pt_truth (pe_ix (ixL (K := K)) (pv 2) (pv 6) (fun _ _ => rfl)) (by intro _; rfl))) (pss_one ps_retN) pss_nil)
      (pss_cons (ps_dput (hu_of hr) (pv 4) (pv 7) (pv 5) rfl)
      (pss_cons (ps_asg (pe_call (ok_best_step T) (hr.mono (by decide)) (by rfl) T.g_best_step T.F_best_step.kp T.bb_best_step .nil pass0 (pa_cons (pe_ix (ixL (K := K)) (pv 2) (pv 6) (fun _ _ => rfl)) (pa_cons (pv 3) (pa_cons (pe_ix (ixL (K := K)) (fldK (K := K) (pv 0) rfl) (pe_un un_neg pe_int) (fun _ _ => rfl)) (pa_cons (pv 1) pa_nil))))) (tupK (K := K) (by rfl) (pgs_cons (pg_name (i := 8) scWalkfollow.nd rfl (Or.inl rfl)) (pgs_cons (pg_name (i := 9) scWalkfollow.nd rfl (Or.inl rfl)) pgs_nil))))
      (pss_cons (ps_expr (pe_bm PySem.F.plainAttrs_list PySem.F.slot_list_append PySem.F.type_list_append mt_append (fldK (K := K) (pv 0) rfl) (pa_cons (pv 8) pa_nil)))
      (pss_one (ps_expr (pe_bm PySem.F.plainAttrs_list PySem.F.slot_list_append PySem.F.type_list_append mt_append (fldK (K := K) (pv 0) rfl) (pa_cons (pv 9) pa_nil))))))))))))))), ?_⟩
    refine fun sa hsa => ?_
    have hwp : w ≠ pl := fun e => by rw [e, hpl] at hw; cases hw
    have hwt : w ≠ tb := fun e => by rw [e, htb] at hw; cases hw
    refine while_by (fun σ' H' => ∃ u5 u6 u7 u8 u9 ps tl tvs, σ' = [some (.ref w), some (.int L), some (.ref kp), some (.str sd), some (.ref sa), u5, u6, u7, u8, u9] ∧ WalkOk sd L kn x ps tl ∧ (marks L kn.length ps tl.length).Nodup ∧
      H' w = some (.ins Z.C_Walk dx (wf pl tb .non)) ∧ H' pl = some (.lst (ps.map V.int)) ∧ H' tb = some (.lst tvs) ∧ DpAll K H' tvs (tl.map encL) ∧ H' sa = some (.dT (seenK L kn.length ps tl.length)) ∧ ∀ b o, H b = some o → b ≠ w → b ≠ pl → b ≠ tb → H' b = some o)
      (fun _ H' => (cand L kn x).length - lenAt H' tb) ?_ ?_ ?_
    · refine ⟨none, none, none, none, none, [x], [], [], rfl, .new, List.nodup_nil, (upd_ne (ne_of_none hw hsa)).trans hw, (upd_ne (ne_of_none hpl hsa)).trans hpl, (upd_ne (ne_of_none htb hsa)).trans htb, .nil, upd_same, fun b o e _ _ _ => (upd_ne (ne_of_none e hsa)).trans e⟩
    · rintro σ1 H1 ⟨u5, u6, u7, u8, u9, ps, tl, tvs, rfl, W, hmk, gw, gpl, gtb, gtv, gsa, keep⟩
      have hwl := W.len
      have htl : tvs.length = tl.length := by rw [dpAll_len gtv, List.length_map]
      have hkw : kp ≠ w ∧ kp ≠ pl ∧ kp ≠ tb := hne kp List.mem_cons_self
      have gkp := keep _ _ hkp hkw.1 hkw.2.1 hkw.2.2
      have hal := hlots.1
      have hmI : (0 : Int) < ((refs as).length : Int) := by simp; omega
      obtain ⟨y, hy⟩ : ∃ y, ps[tl.length]? = some y := ⟨ps[tl.length], List.getElem?_eq_getElem (by omega)⟩
      have hlast : atI (ps.map V.int) (-1) = some (.int y) := by
        rw [atI_last (by rw [List.length_map]; omega : 0 < (ps.map V.int).length), List.length_map, show ps.length - 1 = tl.length by omega, List.getElem?_map, hy]; rfl
      refine ⟨_, rfl, iteT ?_⟩
      refine ⟨_, rfl, w, Z.C_Walk, dx, _, _, rfl, gw, T.cl_Walk, T.nWalk_told_by, wf_told _ _ _, tb, tvs, rfl, .inl (SqL.of gtb), ?_⟩
      refine ⟨_, rfl, _, rfl, kp, refs as, rfl, .inl (SqL.of gkp), _, _, rfl, rfl, hmI, ?_⟩
      refine ⟨_, rfl, _, rfl, w, Z.C_Walk, dx, _, _, rfl, gw, T.cl_Walk, T.nWalk_places, wf_places _ _ _, _, rfl, _, _, _, _, rfl, rfl, SqL.of gpl, hlast, _, rfl, _, _, rfl, rfl, hL, (by show 2 ≤ sizeLine; decide), fun q hq => ?_⟩
      have hn1 : ((tvs.length : Nat) : Int) % ((refs as).length : Int) = ((tl.length % kn.length : Nat) : Int) := by rw [htl]; simp [hal]
      have hy0 : ps.getD tl.length 0 = y := by rw [List.getD_eq_getElem?_getD, hy]; rfl
      dsimp only
      rw [hn1, htl]
      have Sq := same_upd (o := HO.tup [V.int ((tl.length % kn.length : Nat) : Int), .int (y % L)]) hq
      have fq : (upd H1 q (.tup [V.int ((tl.length % kn.length : Nat) : Int), .int (y % L)])) q = some (.tup (([.inl ((tl.length % kn.length : Nat) : Int), .inl (ps.getD tl.length 0 % L)] : List Key).map kV)) := by rw [hy0]; exact upd_same
      generalize upd H1 q (.tup [V.int ((tl.length % kn.length : Nat) : Int), .int (y % L)]) = H2 at Sq fq ⊢
      have keep2 : ∀ b o, H b = some o → b ≠ w → b ≠ pl → b ≠ tb → H2 b = some o := fun b o e n1 n2 n3 => Sq _ _ (keep b o e n1 n2 n3)
      have gtv2 := dpAll_mono Sq _ _ gtv
      have WA2 : ∀ st, H2 w = some (.ins Z.C_Walk dx (wf pl tb (stV st))) → WalkAt Z K H2 w pl tb ps tl st := fun st e => ⟨dx, tvs, e, Sq _ _ gpl, Sq _ _ gtb, gtv2⟩
      refine ⟨fun σ' H' => σ' = [some (.ref w), some (.int L), some (.ref kp), some (.str sd), some (.ref sa), some (.int tl.length), some (.int ((tl.length % kn.length : Nat) : Int)), some (.ref q), u8, u9] ∧ H' = H2 ∧ valV (seenK L kn.length ps tl.length) [.inl ((tl.length % kn.length : Nat) : Int), .inl (ps.getD tl.length 0 % L)] = none, ?_, ?_⟩
      · refine ⟨_, rfl, _, rfl, sa, _, rfl, DGet.t (Sq _ _ gsa) fq, _, rfl, ?_⟩
        cases c : valV (seenK L kn.length ps tl.length) [.inl ((tl.length % kn.length : Nat) : Int), .inl (ps.getD tl.length 0 % L)] with
        | none => exact iteF ⟨rfl, rfl, rfl⟩
        | some v =>
          refine iteT ?_
          obtain ⟨i, hi, rfl, hi1, hi2⟩ := seen_some c
          have g := DGet.t (Sq _ _ gsa) fq
          rw [c] at g
          refine ⟨_, rfl, _, rfl, sa, _, rfl, g, _, rfl, w, Z.C_Walk, dx, _, rfl, Sq _ _ gw, T.cl_Walk, T.nWalk_start, (by show 3 < 1000; decide), ?_⟩
          have hwl2 : i < ps.length := by omega
          have hup : Tups H2 (upd H2 w (.ins Z.C_Walk dx (putF "start" (.int i) (wf pl tb .non)))) := Tups.upd_ins (Sq _ _ gw)
          refine k _ ps tl (some i) W ⟨hi, by omega, ps.getD i 0, y, ?_, hy, by rw [hi2, hy0]⟩ hmk ⟨dx, tvs, ?_, (upd_ne (Ne.symm hwp)).trans (Sq _ _ gpl), (upd_ne (Ne.symm hwt)).trans (Sq _ _ gtb), dpAll_tups hup _ _ (noLs_map noL_encL tl) gtv2⟩ fun b o e n1 n2 n3 => (upd_ne n1).trans (keep2 b o e n1 n2 n3)
          · rw [List.getD_eq_getElem?_getD, List.getElem?_eq_getElem hwl2]; rfl
          · rw [upd_same, wf_put]; rfl
      · rintro σ2 H3 ⟨rfl, rfl, hnew⟩
        have hnum : tl.length % kn.length < kn.length := Nat.mod_lt _ hm0
        obtain ⟨a, ha⟩ : ∃ a, as[tl.length % kn.length]? = some a := ⟨as[tl.length % kn.length], List.getElem?_eq_getElem (by omega)⟩
        have gl2 : Lots K H3 as kn := hlots.to (fun b xs e => ?tups) fun a' ha' o e => keep2 _ _ e (hne a' (List.mem_cons_of_mem _ ha')).1 (hne a' (List.mem_cons_of_mem _ ha')).2.1 (hne a' (List.mem_cons_of_mem _ ha')).2.2
        case tups =>
          have hb1 : b ≠ w := fun q => by subst q; rcases e with e | ⟨_, e⟩ <;> rw [hw] at e <;> cases e
          have hb2 : b ≠ pl := fun q => by subst q; rcases e with e | ⟨_, e⟩ <;> rw [hpl] at e <;> cases e
          have hb3 : b ≠ tb := fun q => by subst q; rcases e with e | ⟨_, e⟩ <;> rw [htb] at e <;> cases e
          rcases e with e | ⟨z, e⟩
          · exact .inl (keep2 _ _ e hb1 hb2 hb3)
          · exact .inr ⟨z, keep2 _ _ e hb1 hb2 hb3⟩
        obtain ⟨ls, hls, hlk⟩ := gl2.get ha
        have hlsD : kn.getD (tl.length % kn.length) [] = ls := by rw [List.getD_eq_getElem?_getD, hls]; rfl
        have hix : atI (refs as) ((tl.length % kn.length : Nat) : Int) = some (.ref a) := by
          refine at_of (j := tl.length % kn.length) (by simp) ?_
          show (as.map V.ref)[_]? = _
          rw [List.getElem?_map, ha]; rfl
        obtain ⟨lvs, hl1, hl2⟩ := hlk
        have hlen2 : lvs.length = ls.length := by rw [dpAll_len hl2, List.length_map]
        have gkp3 := keep2 _ _ hkp hkw.1 hkw.2.1 hkw.2.2
        refine ⟨fun σ' H' => σ' = [some (.ref w), some (.int L), some (.ref kp), some (.str sd), some (.ref sa), some (.int tl.length), some (.int ((tl.length % kn.length : Nat) : Int)), some (.ref q), u8, u9] ∧ H' = H3 ∧ ls ≠ [], ?_, ?_⟩
        · refine ⟨_, rfl, _, rfl, _, _, _, _, rfl, rfl, SqL.of gkp3, hix, _, .inl ⟨lvs, SqL.of hl1, rfl⟩, ?_⟩
          cases hc : ls with
          | nil =>
            rw [hc] at hlen2
            have e : lvs = [] := List.eq_nil_of_length_eq_zero hlen2
            subst e
            refine iteT (k _ ps tl none W (hlsD.trans hc) hmk (WA2 none (Sq _ _ gw)) keep2)
          | cons l ls' =>
            rw [hc] at hlen2
            cases lvs with
            | nil => simp at hlen2
            | cons y' ys' => exact iteF ⟨rfl, rfl, by simp⟩
        · rintro σ3 H4 ⟨rfl, rfl, hnil⟩
          have hN : tl.length < 4000 := by
            have h1 := marks_le hm0 W (n := tl.length) (by omega) hmk
            have h2 := cand_len hk (L := L) x
            have h3 : kn.length * 60 ≤ 60 * 60 := Nat.mul_le_mul_right 60 hm1
            omega
          have hyb : y.natAbs < 2 ^ 400 := by
            have h1 := W.small hL hLb hk _ y hy
            have h2 : tl.length * 2 ^ 312 ≤ 2 ^ 390 := Nat.le_trans (Nat.mul_le_mul_right _ (Nat.le_of_lt hN)) (by decide)
            have h3 : (2 : Nat) ^ 390 + 2 ^ 390 ≤ 2 ^ 400 := by decide
            omega
          refine ⟨_, rfl, _, rfl, _, rfl, sa, _, rfl, DPut.t (Sq _ _ gsa) fq (by rw [seenK_len]; exact Nat.lt_trans hN (by decide)), ?_⟩
          rw [putK_new hnew]
          have gs4 := Sq _ _ gsa
          have nsa : ∀ b o, H4 b = some o → (∀ kvs, o ≠ .dT kvs) → b ≠ sa := fun b o e hno q => by
            subst q
            rw [e] at gs4
            exact hno _ (Option.some.inj gs4)
          have t5 : Tups H4 (upd H4 sa (.dT (seenK L kn.length ps tl.length ++ [([.inl ((tl.length % kn.length : Nat) : Int), .inl (ps.getD tl.length 0 % L)], V.int tl.length)]))) := fun b xs e => by
            have hb : b ≠ sa := by
              rintro rfl
              rcases e with e | ⟨_, e⟩ <;> rw [gs4] at e <;> cases e
            rcases e with e | ⟨z, e⟩
            · exact .inl ((upd_ne hb).trans e)
            · exact .inr ⟨z, (upd_ne hb).trans e⟩
          have up5 : ∀ b o, H4 b = some o → (∀ kvs, o ≠ .dT kvs) → (upd H4 sa (.dT (seenK L kn.length ps tl.length ++ [([.inl ((tl.length % kn.length : Nat) : Int), .inl (ps.getD tl.length 0 % L)], V.int tl.length)]))) b = some o := fun b o e hno => (upd_ne (nsa b o e hno)).trans e
          have gs5 : (upd H4 sa (.dT (seenK L kn.length ps tl.length ++ [([.inl ((tl.length % kn.length : Nat) : Int), .inl (ps.getD tl.length 0 % L)], V.int tl.length)]))) sa = some _ := upd_same
          have keep5 : ∀ b o, H b = some o → b ≠ w → b ≠ pl → b ≠ tb → (upd H4 sa (.dT (seenK L kn.length ps tl.length ++ [([.inl ((tl.length % kn.length : Nat) : Int), .inl (ps.getD tl.length 0 % L)], V.int tl.length)]))) b = some o := fun b o e n1 n2 n3 => (upd_ne (ne_of_none e hsa)).trans (keep2 b o e n1 n2 n3)
          generalize upd H4 sa (.dT (seenK L kn.length ps tl.length ++ [([.inl ((tl.length % kn.length : Nat) : Int), .inl (ps.getD tl.length 0 % L)], V.int tl.length)])) = H5 at t5 up5 gs5 keep5 ⊢
          have gw5 := up5 _ _ (Sq _ _ gw) (fun _ e => by cases e)
          have gpl5 := up5 _ _ (Sq _ _ gpl) (fun _ e => by cases e)
          have gtb5 := up5 _ _ (Sq _ _ gtb) (fun _ e => by cases e)
          have gtv5 := dpAll_tups t5 _ _ (noLs_map noL_encL tl) gtv2
          have gl5 := dpAll_tups t5 _ _ (noLs_map noL_encL ls) hl2
          have hkl := hk.get (tl.length % kn.length)
          rw [hlsD] at hkl
          refine ⟨_, rfl, _, rfl, _, _, _, _, rfl, rfl, SqL.of (keep5 _ _ hkp hkw.1 hkw.2.1 hkw.2.2), hix, _, rfl, _, rfl, w, Z.C_Walk, dx, _, _, rfl, gw5, T.cl_Walk, T.nWalk_places, wf_places _ _ _, _, rfl, _, _, _, _, rfl, rfl, SqL.of gpl5, hlast, _, rfl, ?_⟩
          refine ⟨_, ls, sd, y, L, rfl, .lst (SqL.of (up5 _ _ hl1 (fun _ e => by cases e))) gl5, hsd, fun l hl => ⟨(hkl.2 l hl).1, (hkl.2 l hl).2.up (by decide)⟩, Nat.le_trans hkl.1 (by decide), hL, hLb, hyb, fun e => absurd e hnil, fun H6 r l hl S6 hb hr => ?_⟩
          have hr' : Dp K H6 r (.tuple [.int (plc sd l y L), encL l]) := hr
          cases hr' with
          | tup sq da =>
            cases da with
            | cons a1 da =>
              cases a1
              cases da with
              | cons a2 da =>
              cases da
              have gw6 := S6 _ _ gw5
              have gpl6 := S6 _ _ gpl5
              have gtb6 := S6 _ _ gtb5
              have gs6 := S6 _ _ gs5
              have gtv6 := dpAll_mono S6 _ _ gtv5
              refine ⟨_, _, rfl, sq, rfl, _, _, rfl, _, _, rfl, rfl, ?_⟩
              refine ⟨_, rfl, w, Z.C_Walk, dx, _, _, rfl, gw6, T.cl_Walk, T.nWalk_places, wf_places _ _ _, .inl ⟨rfl, _, SqL.of gpl6⟩, _, rfl, pl, ps.map V.int, _, rfl, rfl, gpl6, ?_, ?_⟩
              · exact Nat.lt_of_le_of_lt (by rw [List.length_map]; omega : (ps.map V.int).length ≤ 4000) (by decide)
              have t7 : Tups H6 (upd H6 pl (.lst (ps.map V.int ++ [V.int (plc sd l y L)]))) := Tups.upd_lst gpl6
              have gw7 : (upd H6 pl (.lst (ps.map V.int ++ [V.int (plc sd l y L)]))) w = some (.ins Z.C_Walk dx (wf pl tb .non)) := (upd_ne hwp).trans gw6
              have gtb7 : (upd H6 pl (.lst (ps.map V.int ++ [V.int (plc sd l y L)]))) tb = some (.lst tvs) := (upd_ne (Ne.symm hpt)).trans gtb6
              have gtv7 := dpAll_tups t7 _ _ (noLs_map noL_encL tl) gtv6
              have ga7 := dp_tups t7 _ _ (noL_encL l) a2
              refine ⟨_, rfl, w, Z.C_Walk, dx, _, _, rfl, gw7, T.cl_Walk, T.nWalk_told_by, wf_told _ _ _, .inl ⟨rfl, _, SqL.of gtb7⟩, _, rfl, tb, tvs, _, rfl, rfl, gtb7, ?_, ?_⟩
              · exact Nat.lt_of_le_of_lt (by omega : tvs.length ≤ 4000) (by decide)
              have hps : sa ≠ pl := fun e => by rw [e, gpl6] at gs6; cases gs6
              have hts : sa ≠ tb := fun e => by rw [e, gtb6] at gs6; cases gs6
              have hmem : l ∈ kn.getD (tl.length % kn.length) [] := by rw [hlsD]; exact hl
              have hbest : IsBest sd (kn.getD (tl.length % kn.length) []) y L (plc sd l y L) := by rw [hlsD]; exact hb
              have W2 := W.snoc hy hmem rfl hbest
              have hnd : (marks L kn.length (ps ++ [plc sd l y L]) (tl ++ [l]).length).Nodup := by
                rw [List.length_append, List.length_singleton, marks_keep (by omega)]
                exact marks_nodup hmk (seen_none hnew)
              refine ⟨⟨_, _, _, _, _, ps ++ [plc sd l y L], tl ++ [l], _, rfl, W2, hnd, (upd_ne hwt).trans gw7, ?_, upd_same, ?_, ?_, fun b o e n1 n2 n3 => (upd_ne n3).trans ((upd_ne n2).trans (S6 _ _ (keep5 b o e n1 n2 n3)))⟩, ?_⟩
              · rw [upd_ne hpt, upd_same, List.map_append]; rfl
              · rw [List.map_append]
                exact acc_step gtb7 (noLs_map noL_encL _) rfl gtv7 ga7
              · rw [upd_ne hts, upd_ne hps, gs6, List.length_append, List.length_singleton, seenK_next (by omega)]
              · have h1 := marks_le hm0 W2 (n := (tl ++ [l]).length) (by simp; omega) hnd
                rw [lenAt_of upd_same, lenAt_of gtb]
                simp at h1 ⊢
                omega
    · rintro σ1 H1 Q1 Q2 hQ ⟨b, eb, hc⟩
      exact ⟨b, eb, hQ _ _ hc⟩
end
end KA
namespace KA
open PySem PySem.Spec PyProof.Rows L2 DP
/-- for k, x in enumerate(xs) -/
theorem for_enum {K : PySem.W.Frag} {a : Addr} {xs : List V} {g : TG} {tb : TS} {D : Ends} {σ : L2.St} {H : Hp} (Pv : Nat → L2.St → Hp → Prop) (h0 : Pv 0 σ H) (hl : ∀ i σ H, i ≤ xs.length → Pv i σ H → SqL K H a xs)
    (hs : ∀ i x T σ H, xs[i]? = some x → Pv i σ H → H T = none → g (.ref T) σ (upd H T (.tup [.int (i : Nat), x])) fun σ2 H2 => tb { D with nx := Pv (i + 1), ct := Pv (i + 1), bk := D.nx } σ2 H2) (hd : ∀ σ H, Pv xs.length σ H → D.nx σ H) :
    ∃ W : Nat → Nat → L2.St → Hp → Prop, (∃ m, W 0 m σ H) ∧ ∀ i m σ H, W i m σ H →
      ((Ite K a).stop i H ∧ D.nx σ H) ∨ ((Ite K a).go i H ∧ ∃ N : L2.St → Hp → Prop, (∀ σ' H', N σ' H' → ∃ m', m' < m ∧ W (i + 1) m' σ' H') ∧ ∀ x H', (Ite K a).yld i H x H' → g x σ H' fun σ2 H2 => tb { D with nx := N, ct := N, bk := D.nx } σ2 H2) := by
  refine ⟨fun i m σ H => m = xs.length - i ∧ i ≤ xs.length ∧ Pv i σ H, ⟨xs.length, by simp, Nat.zero_le _, h0⟩, ?_⟩
  rintro i m σ H ⟨rfl, hi, p⟩
  have q := hl i σ H hi p
  by_cases hlt : i < xs.length
  · refine .inr ⟨⟨xs, xs[i], q, by simp [hlt]⟩, Pv (i + 1), fun σ' H' p' => ⟨xs.length - (i + 1), by omega, rfl, hlt, p'⟩, fun v H' y => ?_⟩
    obtain ⟨T, x, rfl, hT, rfl, f⟩ := y
    exact hs i x T σ H (f xs q) p hT
  · have e : i = xs.length := by omega
    subst e
    exact .inl ⟨⟨xs, q, Nat.le_refl _⟩, hd σ H p⟩
/-- the sides' looks of hands are such as the walk asks -/
theorem knOk {Z : Ad} {K : PySem.W.Frag} {H : Hp} {ds : List Addr} {L : Int} {hs : List (List Lk)} (D : Darks Z K H ds L hs) (sd : Str) : KnOk (hs.map (sideOf sd)) := by
  intro ls hm
  obtain ⟨l0, hl0, rfl⟩ := List.mem_map.mp hm
  obtain ⟨i, hi, e⟩ := List.getElem_of_mem hl0
  have hl := D.1
  have DD := D.2 i ds[i] l0 (List.getElem?_eq_getElem (by omega)) (by rw [List.getElem?_eq_getElem hi, e])
  refine ⟨Nat.le_trans (List.length_filter_le _ _) DD.len, fun l hl => ?_⟩
  have h1 := DD.ok l (List.mem_filter.mp hl).1
  exact ⟨h1.1, h1.2.up (by decide)⟩
/-- an answer of a walk -/
def oV : Option Int → V
  | none => .non
  | some i => .int i
def spLen (Z : Ad) (K : PySem.W.Frag) : Sp := fun vs H Q _ => ∃ (d : Addr) (L : Int) (ls : List Lk), vs = [.ref d] ∧ DarkAt Z K H d L ls ∧ Q (.int L) H
def spWalk (Z : Ad) (K : PySem.W.Frag) : Sp := fun vs H Q _ => ∃ (w hp dx : Addr) (ds : List Addr) (sd : Str) (L x : Int) (hs : List (List Lk)), vs = [.ref w, .ref hp, .str sd, .int x] ∧ H w = some (.ins Z.C_Walk dx []) ∧ SqL K H hp (refs ds) ∧ Darks Z K H ds L hs ∧ 0 < ds.length ∧ ds.length ≤ 60 ∧ SideOk sd ∧ x.natAbs < 2 ^ 390 ∧ (∀ d ∈ ds, d ≠ w) ∧
  ∀ H' pl tb ps tl st, WalkOk sd L (hs.map (sideOf sd)) x ps tl → EndOk L (hs.map (sideOf sd)) ps tl st → (marks L (hs.map (sideOf sd)).length ps tl.length).Nodup → WalkAt Z K H' w pl tb ps tl st → Out w H H' → Q .non H'
def spPeriod (Z : Ad) (K : PySem.W.Frag) : Sp := fun vs H Q _ => ∃ (w pl tb : Addr) (ps : List Int) (tl : List Lk) (s : Nat), vs = [.ref w] ∧ WalkAt Z K H w pl tb ps tl (some s) ∧ Q (.int ((tl.length : Int) - s)) H
def spClimb (Z : Ad) (K : PySem.W.Frag) : Sp := fun vs H Q _ => ∃ (w pl tb : Addr) (ps : List Int) (tl : List Lk) (s : Nat), vs = [.ref w] ∧ WalkAt Z K H w pl tb ps tl (some s) ∧ ps.length = tl.length + 1 ∧ s < tl.length ∧ Q (.int (ps.getD tl.length 0 - ps.getD s 0)) H
def spBehind (Z : Ad) (K : PySem.W.Frag) : Sp := fun vs H Q _ => ∃ (w pl tb : Addr) (sd : Str) (L x n : Int) (kn : List (List Lk)) (ps : List Int) (tl : List Lk) (st : Option Nat), vs = [.ref w, .int n] ∧ WalkAt Z K H w pl tb ps tl st ∧ WalkOk sd L kn x ps tl ∧ EndOk L kn ps tl st ∧ SideOk sd ∧ 0 < L ∧ L.natAbs < 2 ^ 200 ∧ KnOk kn ∧ x.natAbs < 2 ^ 390 ∧ tl.length < 4000 ∧ 0 ≤ n ∧ n.natAbs < 2 ^ 300 ∧
  ∀ H', Same H H' → Q (oV (it sd L kn x n.toNat)) H'
def spCheck (Z : Ad) (K : PySem.W.Frag) : Sp := fun vs H Q _ => ∃ (hp : Addr) (ds : List Addr) (L : Int) (hs : List (List Lk)), vs = [.ref hp] ∧ SqL K H hp (refs ds) ∧ Darks Z K H ds L hs ∧ 0 < ds.length ∧ ∀ H', Same H H' → Q .non H'
def spPlaceB (Z : Ad) (K : PySem.W.Frag) : Sp := fun vs H Q _ => ∃ (hp : Addr) (ds : List Addr) (sd : Str) (L x n : Int) (hs : List (List Lk)), vs = [.ref hp, .str sd, .int x, .int n] ∧ SqL K H hp (refs ds) ∧ Darks Z K H ds L hs ∧ 0 < ds.length ∧ ds.length ≤ 60 ∧ SideOk sd ∧ x.natAbs < 2 ^ 390 ∧ 0 ≤ n ∧ n.natAbs < 2 ^ 300 ∧
  ∀ H', Same H H' → Q (oV (it sd L (hs.map (sideOf sd)) x n.toNat)) H'
def spOneB (Z : Ad) (K : PySem.W.Frag) (sd : Str) : Sp := fun vs H Q _ => ∃ (hp : Addr) (ds : List Addr) (L x n : Int) (hs : List (List Lk)), vs = [.ref hp, .int x, .int n] ∧ SqL K H hp (refs ds) ∧ Darks Z K H ds L hs ∧ 0 < ds.length ∧ ds.length ≤ 60 ∧ x.natAbs < 2 ^ 390 ∧ 0 ≤ n ∧ n.natAbs < 2 ^ 300 ∧
  ∀ H', Same H H' → Q (oV (it sd L (hs.map (sideOf sd)) x n.toNat)) H'
theorem wf_new (pl tb : Addr) : putF "start" .non (putF "told_by" (.ref tb) (putF "places" (.ref pl) [])) = wf pl tb .non := by
  have e1 : ¬ (("places" : Str) = "told_by") := by decide +kernel
  have e2 : ¬ (("places" : Str) = "start") := by decide +kernel
  have e3 : ¬ (("told_by" : Str) = "start") := by decide +kernel
  show putF "start" .non (if ("places" : Str) = "told_by" then _ else (("places" : Str), V.ref pl) :: putF "told_by" (.ref tb) []) = _
  rw [if_neg e1]
  show (if ("places" : Str) = "start" then _ else (("places" : Str), V.ref pl) :: putF "start" .non (putF "told_by" (.ref tb) [])) = _
  rw [if_neg e2]
  show (("places" : Str), V.ref pl) :: (if ("told_by" : Str) = "start" then _ else (("told_by" : Str), V.ref tb) :: putF "start" .non []) = _
  rw [if_neg e3]; rfl
section
variable {P : Program} {w : World} {K : PySem.W.Frag} {mg : Str → Option Value} {base : Heap} {Z : Ad}
theorem ok_Dark_length (T : Tx K w mg Z) : FnOk P w K mg base CX0 1 Z.a_Dark_length Z.d_Dark_length P_Dark_length (spLen Z K) := by
  refine T.F_Dark_length.ok scDark_length (fun vs H Q E h => ?_) (fun cdv A outer s H vs Q E hr h => ?_)
  · obtain ⟨d, L, ls, rfl, _⟩ := h
    rfl
  · obtain ⟨d, L, ls, rfl, D, k⟩ := h
    obtain ⟨dx, la, xs, h1, h2, h3⟩ := id D.ex
    refine ⟨_, (pss_one (ps_ret (fldK (K := K) (pv 0) rfl))), ?_⟩
    exact ⟨_, rfl, d, Z.C, dx, _, _, rfl, h1, T.cl, T.n_length, df_length _ _, k⟩
theorem ok_Walk_init (T : Tx K w mg Z) : FnOk P w K mg base CX0 4 Z.a_Walk_init Z.d_Walk_init P_Walk_init (spWalk Z K) := by
  refine T.F_Walk_init.ok scWalk_init (fun vs H Q E h => ?_) (fun cdv A outer s H vs Q E hr h => ?_)
  · obtain ⟨w, hp, dx, ds, sd, L, x, hs, rfl, _⟩ := h
    rfl
  · obtain ⟨w, hp, dx, ds, sd, L, x, hs, rfl, hw, hh, hD, hd0, hd1, hsd, hx, hdw, k⟩ := h
    refine ⟨_, (pss_cons (ps_fld (pv 0) (pe_lst (pa_cons (pv 3) pa_nil)) rfl)
      (pss_cons (ps_fld (pv 0) (pe_lst pa_nil) rfl)
      (pss_cons (ps_fld (pv 0) pe_non rfl)
      (pss_one (ps_expr (pe_meth (pv 0) T.cl_Walk T.m_Walkfollow (ok_Walkfollow T) (hr.mono (by decide)) T.bb_Walkfollow .nil pass0 (pa_cons (pe_meth0 (pe_ix (ixL (K := K)) (pv 1) pe_int (fun _ _ => rfl)) T.cl T.m_Dark_length (ok_Dark_length T) (hr.mono (by decide)) T.bb_Dark_length .nil pass0) (pa_cons (pe_call (ok_round_looks T) (hr.mono (by decide)) (by rfl) T.g_round_looks T.F_round_looks.kp T.bb_round_looks .nil pass0 (pa_cons (pv 1) (pa_cons (pv 2) pa_nil))) (pa_cons (pv 2) pa_nil))))))))), ?_⟩
    refine ⟨_, rfl, (by show 1 ≤ sizeLine; decide), fun pl hpl => ?_⟩
    have hwp : w ≠ pl := ne_of_none hw hpl
    refine ⟨_, rfl, w, Z.C_Walk, dx, [], rfl, (upd_ne hwp).trans hw, T.cl_Walk, T.nWalk_places, (by show 0 < 1000; decide), ?_⟩
    refine ⟨(by show 0 ≤ sizeLine; decide), fun tb htb => ?_⟩
    have g1 : (upd (upd H pl (.lst [V.int x])) w (.ins Z.C_Walk dx (putF "places" (.ref pl) []))) w = some (.ins Z.C_Walk dx (putF "places" (.ref pl) [])) := upd_same
    have g1p : (upd (upd H pl (.lst [V.int x])) w (.ins Z.C_Walk dx (putF "places" (.ref pl) []))) pl = some (.lst [V.int x]) := (upd_ne (Ne.symm hwp)).trans upd_same
    have k1 : ∀ b o, H b = some o → b ≠ w → (upd (upd H pl (.lst [V.int x])) w (.ins Z.C_Walk dx (putF "places" (.ref pl) []))) b = some o := fun b o e n => (upd_ne n).trans ((upd_ne (ne_of_none e hpl)).trans e)
    generalize upd (upd H pl (.lst [V.int x])) w (.ins Z.C_Walk dx (putF "places" (.ref pl) [])) = H1 at htb g1 g1p k1 ⊢
    have hwt : w ≠ tb := ne_of_none g1 htb
    have hpt : pl ≠ tb := ne_of_none g1p htb
    refine ⟨_, rfl, w, Z.C_Walk, dx, _, rfl, (upd_ne hwt).trans g1, T.cl_Walk, T.nWalk_told_by, (by show 1 < 1000; decide), ?_⟩
    have g2 : (upd (upd H1 tb (.lst [])) w (.ins Z.C_Walk dx (putF "told_by" (.ref tb) (putF "places" (.ref pl) [])))) w = some (.ins Z.C_Walk dx (putF "told_by" (.ref tb) (putF "places" (.ref pl) []))) := upd_same
    have g2p : (upd (upd H1 tb (.lst [])) w (.ins Z.C_Walk dx (putF "told_by" (.ref tb) (putF "places" (.ref pl) [])))) pl = some (.lst [V.int x]) := (upd_ne (Ne.symm hwp)).trans ((upd_ne hpt).trans g1p)
    have g2t : (upd (upd H1 tb (.lst [])) w (.ins Z.C_Walk dx (putF "told_by" (.ref tb) (putF "places" (.ref pl) [])))) tb = some (.lst []) := (upd_ne (Ne.symm hwt)).trans upd_same
    have k2 : ∀ b o, H b = some o → b ≠ w → (upd (upd H1 tb (.lst [])) w (.ins Z.C_Walk dx (putF "told_by" (.ref tb) (putF "places" (.ref pl) [])))) b = some o := fun b o e n => (upd_ne n).trans ((upd_ne (ne_of_none (k1 b o e n) htb)).trans (k1 b o e n))
    generalize upd (upd H1 tb (.lst [])) w (.ins Z.C_Walk dx (putF "told_by" (.ref tb) (putF "places" (.ref pl) []))) = H2 at g2 g2p g2t k2 ⊢
    refine ⟨_, rfl, w, Z.C_Walk, dx, _, rfl, g2, T.cl_Walk, T.nWalk_start, (by show 2 < 1000; decide), ?_⟩
    rw [wf_new]
    have g3 : (upd H2 w (.ins Z.C_Walk dx (wf pl tb .non))) w = some (.ins Z.C_Walk dx (wf pl tb .non)) := upd_same
    have g3p : (upd H2 w (.ins Z.C_Walk dx (wf pl tb .non))) pl = some (.lst [V.int x]) := (upd_ne (Ne.symm hwp)).trans g2p
    have g3t : (upd H2 w (.ins Z.C_Walk dx (wf pl tb .non))) tb = some (.lst []) := (upd_ne (Ne.symm hwt)).trans g2t
    have k3 : Out w H (upd H2 w (.ins Z.C_Walk dx (wf pl tb .non))) := fun b o e n => (upd_ne n).trans (k2 b o e n)
    generalize upd H2 w (.ins Z.C_Walk dx (wf pl tb .non)) = H3 at g3 g3p g3t k3 ⊢
    have hh3 := k3.sqL hw hh
    have hD3 : Darks Z K H3 ds L hs := ⟨hD.1, fun i d ls e1 e2 => k3.dark (hD.2 i d ls e1 e2) hw (hdw d (List.mem_of_getElem? e1))⟩
    obtain ⟨d0, hd00⟩ : ∃ d0, ds[0]? = some d0 := ⟨ds[0], List.getElem?_eq_getElem hd0⟩
    obtain ⟨ls0, hls0, D0⟩ := hD3.get hd00
    have hix : atI (refs ds) 0 = some (.ref d0) := by
      refine at_of (j := 0) rfl ?_
      show (ds.map V.ref)[0]? = _
      rw [List.getElem?_map, hd00]; rfl
    obtain ⟨dx0, la0, vs0, e1, e2, e3⟩ := id D0.ex
    refine ⟨_, rfl, w, dx, _, rfl, g3, wf_no _ _ _ (by decide +kernel) (by decide +kernel) (by decide +kernel), ?_⟩
    refine ⟨_, rfl, _, _, _, _, rfl, rfl, hh3, hix, d0, dx0, _, rfl, e1, df_no _ _ (by decide +kernel) (by decide +kernel), d0, L, ls0, rfl, D0, ?_⟩
    refine ⟨_, rfl, _, rfl, hp, ds, sd, L, hs, rfl, hh3, hD3, hsd, Nat.le_trans hd1 (by decide), fun H4 p as hp4 hfr S4 gp4 gl4 => ?_⟩
    have hn : ∀ a ∈ p :: as, a ≠ w ∧ a ≠ pl ∧ a ≠ tb := fun a ha => by
      have : H3 a = none := by
        rcases List.mem_cons.mp ha with e | e
        · subst e; exact hp4
        · exact (hfr a e).1
      exact ⟨fun e => (by rw [e, g3] at this; cases this), fun e => (by rw [e, g3p] at this; cases this), fun e => (by rw [e, g3t] at this; cases this)⟩
    have hlen := hD.1
    refine ⟨_, rfl, w, p, pl, tb, dx, as, L, x, sd, hs.map (sideOf sd), rfl, S4 _ _ g3, S4 _ _ g3p, S4 _ _ g3t, gp4, gl4, hpt, hn, hsd, D0.pos, D0.big, hx, by rw [List.length_map]; omega, by rw [List.length_map]; omega, knOk hD sd, fun H5 ps tl st W E hm WA k5 => ?_⟩
    refine k H5 pl tb ps tl st W E hm WA fun b o e n => k5 b o (S4 _ _ (k3 b o e n)) n ?_ ?_
    · intro e'; subst e'; rw [hpl] at e; cases e
    · intro e'; subst e'; exact absurd e (by
        intro e
        rw [k1 _ _ e n] at htb; cases htb)
theorem ok_Walk_period (T : Tx K w mg Z) : FnOk P w K mg base CX0 1 Z.a_Walk_period Z.d_Walk_period P_Walk_period (spPeriod Z K) := by
  refine T.F_Walk_period.ok scWalk_period (fun vs H Q E h => ?_) (fun cdv A outer s H vs Q E hr h => ?_)
  · obtain ⟨w, pl, tb, ps, tl, s, rfl, _⟩ := h
    rfl
  · obtain ⟨w, pl, tb, ps, tl, s, rfl, ⟨dx, tvs, h1, h2, h3, h4⟩, k⟩ := h
    have hl : tvs.length = tl.length := by rw [dpAll_len h4, List.length_map]
    rw [← hl] at k
    refine ⟨_, (pss_one (ps_ret (pe_op op_sub (pe_callB (lenK (K := K)) (by rfl) T.b_len (by decide +kernel) (pa_cons (fldK (K := K) (pv 0) rfl) pa_nil)) (fldK (K := K) (pv 0) rfl)))), ?_⟩
    exact ⟨_, rfl, w, Z.C_Walk, dx, _, _, rfl, h1, T.cl_Walk, T.nWalk_told_by, wf_told _ _ _, tb, tvs, rfl, .inl (SqL.of h3), _, rfl, w, Z.C_Walk, dx, _, _, rfl, h1, T.cl_Walk, T.nWalk_start, wf_start _ _ _, _, _, rfl, rfl, k⟩
theorem ok_Walk_climb (T : Tx K w mg Z) : FnOk P w K mg base CX0 1 Z.a_Walk_climb Z.d_Walk_climb P_Walk_climb (spClimb Z K) := by
  refine T.F_Walk_climb.ok scWalk_climb (fun vs H Q E h => ?_) (fun cdv A outer s H vs Q E hr h => ?_)
  · obtain ⟨w, pl, tb, ps, tl, s, rfl, _⟩ := h
    rfl
  · obtain ⟨w, pl, tb, ps, tl, s, rfl, ⟨dx, tvs, h1, h2, h3, h4⟩, hl, hs, k⟩ := h
    have q1 : atI (ps.map V.int) (-1) = some (.int (ps.getD tl.length 0)) := by
      rw [atI_last (by rw [List.length_map]; omega : 0 < (ps.map V.int).length), List.length_map, show ps.length - 1 = tl.length by omega, List.getElem?_map, List.getD_eq_getElem?_getD, List.getElem?_eq_getElem (by omega)]; rfl
    have q2 : atI (ps.map V.int) (s : Int) = some (.int (ps.getD s 0)) := by
      refine at_of (j := s) (by simp) ?_
      rw [List.getElem?_map, List.getD_eq_getElem?_getD, List.getElem?_eq_getElem (by omega)]; rfl
    refine ⟨_, (pss_one (ps_ret (pe_op op_sub (pe_ix (ixL (K := K)) (fldK (K := K) (pv 0) rfl) (pe_un un_neg pe_int) (fun _ _ => rfl)) (pe_ix (ixL (K := K)) (fldK (K := K) (pv 0) rfl) (fldK (K := K) (pv 0) rfl) (fun _ _ => rfl))))), ?_⟩
    exact ⟨_, rfl, w, Z.C_Walk, dx, _, _, rfl, h1, T.cl_Walk, T.nWalk_places, wf_places _ _ _, _, rfl, _, _, _, _, rfl, rfl, SqL.of h2, q1, _, rfl, w, Z.C_Walk, dx, _, _, rfl, h1, T.cl_Walk, T.nWalk_places, wf_places _ _ _, _, rfl, w, Z.C_Walk, dx, _, _, rfl, h1, T.cl_Walk, T.nWalk_start, wf_start _ _ _, _, _, _, _, rfl, rfl, SqL.of h2, q2, _, _, rfl, rfl, k⟩
theorem getI (ps : List Int) {i : Nat} {j : Int} (h : i < ps.length) (e : j = (i : Int)) : atI (ps.map V.int) j = some (.int (ps.getD i 0)) := by
  refine at_of (j := i) e ?_
  rw [List.getElem?_map, List.getD_eq_getElem?_getD, List.getElem?_eq_getElem h]; rfl
theorem ok_Walk_behind (T : Tx K w mg Z) : FnOk P w K mg base CX0 2 Z.a_Walk_behind Z.d_Walk_behind P_Walk_behind (spBehind Z K) := by
  refine T.F_Walk_behind.ok scWalk_behind (fun vs H Q E h => ?_) (fun cdv A outer s H vs Q E hr h => ?_)
  · obtain ⟨w, pl, tb, sd, L, x, n, kn, ps, tl, st, rfl, _⟩ := h
    rfl
  · obtain ⟨w, pl, tb, sd, L, x, n, kn, ps, tl, st, rfl, WA, W, E0', hsd, hL, hLb, hkn, hx, hN, hn0, hnb, k⟩ := h
    obtain ⟨dx, tvs, h1, h2, h3, h4⟩ := id WA.ex
    have hwl := W.len
    refine ⟨_, (C8.pss_cut (ps_if (pt_cmpR op_lt (pv 1) (pe_callB (lenK (K := K)) (by rfl) T.b_len (by decide +kernel) (pa_cons (fldK (K := K) (pv 0) rfl) pa_nil)) (nomark _)) (pss_one (ps_ret (pe_ix (ixL (K := K)) (fldK (K := K) (pv 0) rfl) (pv 1) (fun _ _ => rfl)))) pss_nil)
      (C8.pss_cut (ps_if (pt_cmpR op_isN (fldK (K := K) (pv 0) rfl) pe_non (nomark _)) (pss_one (ps_ret pe_non)) pss_nil)
      (pss_cons (ps_asg (pe_callB call_divmodW (by rfl) T.b_divmod (by decide +kernel) (pa_cons (pe_op op_sub (pv 1) (fldK (K := K) (pv 0) rfl)) (pa_cons (pe_meth0 (pv 0) T.cl_Walk T.m_Walk_period (ok_Walk_period T) (hr.mono (by decide)) T.bb_Walk_period .nil pass0) pa_nil))) (tupK (K := K) (by rfl) (pgs_cons (pg_name (i := 2) scWalk_behind.nd rfl (Or.inl rfl)) (pgs_cons (pg_name (i := 3) scWalk_behind.nd rfl (Or.inl rfl)) pgs_nil))))
      (pss_one (ps_ret (pe_op op_add (pe_ix (ixL (K := K)) (fldK (K := K) (pv 0) rfl) (pe_op op_add (fldK (K := K) (pv 0) rfl) (pv 3)) (fun _ _ => rfl)) (pe_op op_mulW (pv 2) (pe_meth0 (pv 0) T.cl_Walk T.m_Walk_climb (ok_Walk_climb T) (hr.mono (by decide)) T.bb_Walk_climb .nil pass0)))))))), ?_⟩
    refine ⟨fun σ' H' => σ' = [some (.ref w), some (.int n), none, none] ∧ H' = H ∧ ps.length ≤ n.toNat, ?_, ?_⟩
    · refine ⟨_, rfl, _, rfl, w, Z.C_Walk, dx, _, _, rfl, h1, T.cl_Walk, T.nWalk_places, wf_places _ _ _, pl, ps.map V.int, rfl, .inl (SqL.of h2), _, _, rfl, rfl, _, rfl, ite2 (fun c => ?_) (fun c => ⟨rfl, rfl, ?_⟩)⟩
      · have hlt : n.toNat < ps.length := by
          have c' := of_decide_eq_true c
          rw [List.length_map] at c'; omega
        refine ⟨_, rfl, w, Z.C_Walk, dx, _, _, rfl, h1, T.cl_Walk, T.nWalk_places, wf_places _ _ _, _, rfl, _, _, _, _, rfl, rfl, SqL.of h2, getI ps hlt (by omega), ?_⟩
        have kk := k H (fun _ _ e => e)
        rw [behind_in W hlt] at kk
        exact kk
      · have c' : ¬ (n < ((ps.map V.int).length : Int)) := fun h => c (decide_eq_true h)
        rw [List.length_map] at c'; omega
    · rintro σ1 H1 ⟨rfl, rfl, hge⟩
      cases st with
      | none =>
        refine ⟨fun _ _ => False, ?_, fun _ _ z => z.elim⟩
        refine ⟨_, rfl, w, Z.C_Walk, dx, _, _, rfl, h1, T.cl_Walk, T.nWalk_start, wf_start _ _ _, rfl, _, rfl, iteT ?_⟩
        have kk := k H1 (fun _ _ e => e)
        rw [behind_none W E0' hge] at kk
        exact kk
      | some s =>
        refine ⟨fun σ' H' => σ' = [some (.ref w), some (.int n), none, none] ∧ H' = H1, ?_, ?_⟩
        · exact ⟨_, rfl, w, Z.C_Walk, dx, _, _, rfl, h1, T.cl_Walk, T.nWalk_start, wf_start _ _ _, rfl, _, rfl, iteF ⟨rfl, rfl⟩⟩
        · rintro σ2 H2 ⟨rfl, rfl⟩
          obtain ⟨hs1, hs2, a, b, ha, hb, hab⟩ := id E0'
          have hp0 : (0 : Int) < (tl.length : Int) - s := by omega
          refine ⟨_, rfl, _, rfl, w, Z.C_Walk, dx, _, _, rfl, h1, T.cl_Walk, T.nWalk_start, wf_start _ _ _, _, _, rfl, rfl, _, rfl, w, dx, _, rfl, h1, wf_no _ _ _ (by decide +kernel) (by decide +kernel) (by decide +kernel), w, pl, tb, ps, tl, s, rfl, WA, ?_⟩
          refine ⟨_, _, rfl, ⟨hp0, PyProof.noPylong_small (by omega)⟩, fun q hq => ?_⟩
          have S2 := same_upd (o := HO.tup [V.int ((n - s) / ((tl.length : Int) - s)), .int ((n - s) % ((tl.length : Int) - s))]) hq
          have hr0 := Int.emod_nonneg (n - s) (show (tl.length : Int) - s ≠ 0 by omega)
          have hr1 := Int.emod_lt_of_pos (n - s) hp0
          have ht0 : 0 ≤ (n - s) / ((tl.length : Int) - s) := Int.ediv_nonneg (by omega) (by omega)
          have hqr := Int.mul_ediv_add_emod (n - s) ((tl.length : Int) - s)
          have htb : ((n - s) / ((tl.length : Int) - s)).natAbs < 2 ^ 302 := div_lt hp0 (sub_lt hnb (Nat.lt_of_lt_of_le (by omega : (s : Int).natAbs < 4000) (by decide)))
          have WA2 : WalkAt Z K (upd H2 q (.tup [V.int ((n - s) / ((tl.length : Int) - s)), .int ((n - s) % ((tl.length : Int) - s))])) w pl tb ps tl (some s) := ⟨dx, tvs, S2 _ _ h1, S2 _ _ h2, S2 _ _ h3, dpAll_mono S2 _ _ h4⟩
          have hsq : SqT K (upd H2 q (.tup [V.int ((n - s) / ((tl.length : Int) - s)), .int ((n - s) % ((tl.length : Int) - s))])) q [V.int ((n - s) / ((tl.length : Int) - s)), .int ((n - s) % ((tl.length : Int) - s))] := SqT.of upd_same
          generalize upd H2 q (.tup [V.int ((n - s) / ((tl.length : Int) - s)), .int ((n - s) % ((tl.length : Int) - s))]) = H3 at S2 WA2 hsq ⊢
          generalize (n - s) / ((tl.length : Int) - s) = t at ht0 htb hqr hsq ⊢
          generalize (n - s) % ((tl.length : Int) - s) = r at hr0 hr1 hqr hsq ⊢
          have hsr : s + r.toNat < ps.length := by omega
          refine ⟨_, _, rfl, hsq, rfl, _, _, rfl, _, _, rfl, rfl, ?_⟩
          refine ⟨_, rfl, w, Z.C_Walk, dx, _, _, rfl, S2 _ _ h1, T.cl_Walk, T.nWalk_places, wf_places _ _ _, _, rfl, w, Z.C_Walk, dx, _, _, rfl, S2 _ _ h1, T.cl_Walk, T.nWalk_start, wf_start _ _ _, _, rfl, _, _, rfl, rfl, _, _, _, _, rfl, rfl, SqL.of (S2 _ _ h2), getI ps hsr (by omega), ?_⟩
          have hsm : ∀ i, i < ps.length → (ps.getD i 0).natAbs < 2 ^ 391 := fun i hi => by
            have q1 := W.small hL hLb hkn i (ps.getD i 0) (by rw [List.getD_eq_getElem?_getD, List.getElem?_eq_getElem hi]; rfl)
            have q2 : i * 2 ^ 312 ≤ 2 ^ 390 := Nat.le_trans (Nat.mul_le_mul_right _ (by omega : i ≤ 4000)) (by decide)
            have q3 : (2 : Nat) ^ 391 = 2 ^ 390 + 2 ^ 390 := by rw [Nat.pow_succ, Nat.mul_two]
            omega
          have hcl : (ps.getD tl.length 0 - ps.getD s 0).natAbs < 2 ^ 392 := sub_lt (hsm _ (by omega)) (hsm _ (by omega))
          refine ⟨_, rfl, _, rfl, w, dx, _, rfl, S2 _ _ h1, wf_no _ _ _ (by decide +kernel) (by decide +kernel) (by decide +kernel), w, pl, tb, ps, tl, s, rfl, WA2, hwl, hs1, _, _, rfl, rfl, wide_mul htb hcl (by decide) (by decide) (by decide), _, _, rfl, rfl, ?_⟩
          have kk := k H3 S2
          have e : n.toNat = s + r.toNat + t.toNat * (tl.length - s) := by
            obtain ⟨tn, rfl⟩ := Int.eq_ofNat_of_zero_le ht0
            obtain ⟨rn, rfl⟩ := Int.eq_ofNat_of_zero_le hr0
            obtain ⟨pn, hpn⟩ : ∃ pn : Nat, tl.length = s + pn := ⟨tl.length - s, by omega⟩
            have e2 : (tl.length : Int) - s = (pn : Int) := by omega
            rw [e2] at hqr
            have e3 : tl.length - s = pn := by omega
            rw [e3]
            have e4 : ((pn * tn : Nat) : Int) = (pn : Int) * (tn : Int) := by simp
            have e5 : tn * pn = pn * tn := Nat.mul_comm _ _
            show n.toNat = s + rn + tn * pn
            rw [e5]
            omega
          rw [e, behind_laps hsd hL W E0' t.toNat r.toNat hsr] at kk
          have e6 : ((t.toNat : Nat) : Int) = t := by omega
          rw [e6] at kk
          exact kk
theorem ok_check_round (T : Tx K w mg Z) : FnOk P w K mg base CX0 2 Z.a_check_round Z.d_check_round P_check_round (spCheck Z K) := by
  refine T.F_check_round.ok sccheck_round (fun vs H Q E h => ?_) (fun cdv A outer s H vs Q E hr h => ?_)
  · obtain ⟨hp, ds, L, hs, rfl, _⟩ := h
    rfl
  · obtain ⟨hp, ds, L, hs, rfl, hh, hD, hd0, k⟩ := h
    obtain ⟨d0, hd00⟩ : ∃ d0, ds[0]? = some d0 := ⟨ds[0], List.getElem?_eq_getElem hd0⟩
    obtain ⟨ls0, hls0, D0⟩ := hD.get hd00
    have hix : atI (refs ds) 0 = some (.ref d0) := by
      refine at_of (j := 0) rfl ?_
      show (ds.map V.ref)[0]? = _
      rw [List.getElem?_map, hd00]; rfl
    obtain ⟨dx0, la0, vs0, e1, e2, e3⟩ := id D0.ex
    refine ⟨_, (C8.pss_cut (ps_if (pt_not (pt_truth (pv 0) (by intro _; rfl))) (pss_one ps_never) pss_nil)
      (pss_cons (ps_set (i := 1) sccheck_round.nd rfl (Or.inl rfl) (pe_meth0 (pe_ix (ixL (K := K)) (pv 0) pe_int (fun _ _ => rfl)) T.cl T.m_Dark_length (ok_Dark_length T) (hr.mono (by decide)) T.bb_Dark_length .nil pass0))
      (pss_one (ps_for PassesOwn.never rfl (pi_enum (by rfl) T.b_enumerate (pa_cons (pv 0) pa_nil)) (tupK (K := K) (by rfl) (pgs_cons (pg_name (i := 2) sccheck_round.nd rfl (Or.inl rfl)) (pgs_cons (pg_name (i := 3) sccheck_round.nd rfl (Or.inl rfl)) pgs_nil))) (pss_one (ps_if (pt_cmpR op_ne (pe_meth0 (pv 3) T.cl T.m_Dark_length (ok_Dark_length T) (hr.mono (by decide)) T.bb_Dark_length .nil pass0) (pv 1) (nomark _)) (pss_one ps_never) pss_nil)))))), ?_⟩
    refine ⟨fun σ' H' => σ' = [some (.ref hp), none, none, none] ∧ H' = H, ?_, ?_⟩
    · refine ⟨_, rfl, _, .inl ⟨refs ds, hh, rfl⟩, ?_⟩
      cases ds with
      | nil => simp at hd0
      | cons d ds => exact iteF ⟨rfl, rfl⟩
    · rintro σ1 H1 ⟨rfl, rfl⟩
      refine ⟨_, rfl, _, _, _, _, rfl, rfl, hh, hix, d0, dx0, _, rfl, e1, df_no _ _ (by decide +kernel) (by decide +kernel), d0, L, ls0, rfl, D0, ?_⟩
      refine ⟨_, rfl, hp, refs ds, rfl, hh, ?_⟩
      refine for_enum (K := K) (a := hp) (xs := refs ds) (fun i σ' H' => ∃ u2 u3, σ' = [some (.ref hp), some (.int L), u2, u3] ∧ Same H1 H') ⟨_, _, rfl, fun _ _ e => e⟩ (fun i σ' H' _ ⟨_, _, _, S⟩ => Same.sqL S hh) ?_ (fun σ' H' ⟨_, _, _, S⟩ => k H' S)
      rintro i y T' σ' H' hi ⟨u2, u3, rfl, S⟩ hT'
      obtain ⟨d, hd, rfl⟩ : ∃ d, ds[i]? = some d ∧ y = .ref d := by
        obtain ⟨d, h1, h2⟩ := map_at hi
        exact ⟨d, h1, h2⟩
      obtain ⟨ls, hls, DD⟩ := hD.get hd
      have S2 := S.trans (same_upd (o := HO.tup [V.int (i : Nat), .ref d]) hT')
      have DD2 := DD.same S2
      obtain ⟨dx, la, vs, q1, q2, q3⟩ := id DD2.ex
      refine ⟨_, _, rfl, SqT.of upd_same, rfl, _, _, rfl, _, _, rfl, rfl, ?_⟩
      refine ⟨_, rfl, d, dx, _, rfl, q1, df_no _ _ (by decide +kernel) (by decide +kernel), d, L, ls, rfl, DD2, _, rfl, rfl, _, rfl, ?_⟩
      exact ite2 (fun c => (by simp at c : False).elim) (fun _ => ⟨_, _, rfl, S2⟩)
theorem ok_place_behind (T : Tx K w mg Z) : FnOk P w K mg base CX0 6 Z.a_place_behind Z.d_place_behind P_place_behind (spPlaceB Z K) := by
  refine T.F_place_behind.ok scplace_behind (fun vs H Q E h => ?_) (fun cdv A outer s H vs Q E hr h => ?_)
  · obtain ⟨hp, ds, sd, L, x, n, hs, rfl, _⟩ := h
    rfl
  · obtain ⟨hp, ds, sd, L, x, n, hs, rfl, hh, hD, hd0, hd1, hsd, hx, hn0, hnb, k⟩ := h
    refine ⟨_, (pss_cons (ps_expr (pe_call (ok_check_round T) (hr.mono (by decide)) (by rfl) T.g_check_round T.F_check_round.kp T.bb_check_round .nil pass0 (pa_cons (pv 0) pa_nil)))
      (C8.pss_cut (ps_if (pt_cmpR op_lt (pv 3) pe_int (nomark _)) (pss_one ps_never) pss_nil)
      (pss_one (ps_ret (pe_meth (pe_make T.mk_Walk (ok_Walk_init T) (hr.mono (by decide)) (by rfl) T.g_Walk T.bb_Walk_init .nil pass0 (pa_cons (pv 0) (pa_cons (pv 1) (pa_cons (pv 2) pa_nil)))) T.cl_Walk T.m_Walk_behind (ok_Walk_behind T) (hr.mono (by decide)) T.bb_Walk_behind .nil pass0 (pa_cons (pv 3) pa_nil)))))), ?_⟩
    refine ⟨_, rfl, hp, ds, L, hs, rfl, hh, hD, hd0, fun H1 S1 => ?_⟩
    refine ⟨fun σ' H' => σ' = [some (.ref hp), some (.str sd), some (.int x), some (.int n)] ∧ H' = H1, ?_, ?_⟩
    · exact ⟨_, rfl, _, _, rfl, rfl, _, rfl, ite2 (fun c => (by have c' := of_decide_eq_true c; omega : False)) (fun _ => ⟨rfl, rfl⟩)⟩
    · rintro σ2 H2 ⟨rfl, rfl⟩
      refine ⟨_, rfl, _, rfl, _, rfl, fun w dx hwn hdx hne => ?_⟩
      have S2 := S1.trans (same_made (o := HO.ins Z.C_Walk dx []) hwn hdx)
      have hD2 := hD.same S2
      have hdw : ∀ d ∈ ds, d ≠ w := fun d hd e => by
        obtain ⟨i, hi, e1⟩ := List.getElem_of_mem hd
        have hi' : ds[i]? = some d := by rw [List.getElem?_eq_getElem hi, e1]
        obtain ⟨ls, _, DD⟩ := (hD.same S1).get hi'
        obtain ⟨dx', la, vs, q1, _⟩ := DD.ex
        rw [e, hwn] at q1; cases q1
      refine ⟨w, hp, dx, ds, sd, L, x, hs, rfl, upd_same, Same.sqL S2 hh, hD2, hd0, hd1, hsd, hx, hdw, fun H3 pl tb ps tl st W E hm WA k3 => ⟨rfl, ?_⟩⟩
      have S3 : Same H H3 := fun b o e => k3 b o (S2 b o e) (fun e' => by
        subst e'
        rw [S1 _ _ e] at hwn; cases hwn)
      obtain ⟨dxw, tvs, q1, q2, q3, q4⟩ := id WA.ex
      have hl := hD.1
      have hkn := knOk hD sd
      have hN : tl.length < 4000 := by
        have h1 := marks_le (by rw [List.length_map]; omega) W (n := tl.length) (by have := W.len; omega) hm
        have h2 := cand_len hkn (L := L) x
        have h3 : (hs.map (sideOf sd)).length * 60 ≤ 60 * 60 := Nat.mul_le_mul_right 60 (by rw [List.length_map]; omega)
        omega
      obtain ⟨d0, hd00⟩ : ∃ d0, ds[0]? = some d0 := ⟨ds[0], List.getElem?_eq_getElem hd0⟩
      obtain ⟨ls0, hls0, D0⟩ := hD.get hd00
      refine ⟨w, dxw, _, rfl, q1, wf_no _ _ _ (by decide +kernel) (by decide +kernel) (by decide +kernel), _, rfl, w, pl, tb, sd, L, x, n, hs.map (sideOf sd), ps, tl, st, rfl, WA, W, E, hsd, D0.pos, D0.big, hkn, hx, hN, hn0, hnb, fun H4 S4 => ?_⟩
      exact k H4 (S3.trans S4)
theorem ok_least_behind (T : Tx K w mg Z) : FnOk P w K mg base CX0 7 Z.a_least_behind Z.d_least_behind P_least_behind (spOneB Z K "slow") := by
  refine T.F_least_behind.ok scleast_behind (fun vs H Q E h => ?_) (fun cdv A outer s H vs Q E hr h => ?_)
  · obtain ⟨hp, ds, L, x, n, hs, rfl, _⟩ := h
    rfl
  · obtain ⟨hp, ds, L, x, n, hs, rfl, hh, hD, hd0, hd1, hx, hn0, hnb, k⟩ := h
    refine ⟨_, (pss_one (ps_ret (pe_call (ok_place_behind T) (hr.mono (by decide)) (by rfl) T.g_place_behind T.F_place_behind.kp T.bb_place_behind .nil pass0 (pa_cons (pv 0) (pa_cons (pe_glob rfl T.g_SLOW T.r_SLOW) (pa_cons (pv 1) (pa_cons (pv 2) pa_nil))))))), ?_⟩
    exact ⟨_, rfl, _, rfl, _, rfl, hp, ds, "slow", L, x, n, hs, rfl, hh, hD, hd0, hd1, .inl rfl, hx, hn0, hnb, k⟩
theorem ok_greatest_behind (T : Tx K w mg Z) : FnOk P w K mg base CX0 7 Z.a_greatest_behind Z.d_greatest_behind P_greatest_behind (spOneB Z K "fast") := by
  refine T.F_greatest_behind.ok scgreatest_behind (fun vs H Q E h => ?_) (fun cdv A outer s H vs Q E hr h => ?_)
  · obtain ⟨hp, ds, L, x, n, hs, rfl, _⟩ := h
    rfl
  · obtain ⟨hp, ds, L, x, n, hs, rfl, hh, hD, hd0, hd1, hx, hn0, hnb, k⟩ := h
    refine ⟨_, (pss_one (ps_ret (pe_call (ok_place_behind T) (hr.mono (by decide)) (by rfl) T.g_place_behind T.F_place_behind.kp T.bb_place_behind .nil pass0 (pa_cons (pv 0) (pa_cons (pe_glob rfl T.g_FAST T.r_FAST) (pa_cons (pv 1) (pa_cons (pv 2) pa_nil))))))), ?_⟩
    exact ⟨_, rfl, _, rfl, _, rfl, hp, ds, "fast", L, x, n, hs, rfl, hh, hD, hd0, hd1, .inr rfl, hx, hn0, hnb, k⟩
end
end KA
namespace KA
open PySem PySem.Spec PyProof.Rows L2 DP
/-- what stood stands, but at t and g -/
def Keep (t g : Addr) (H H' : Hp) : Prop := ∀ b o, H b = some o → b ≠ t → b ≠ g → H' b = some o
theorem Keep.refl (t g : Addr) (H : Hp) : Keep t g H H := fun _ _ h _ _ => h
theorem Keep.trans {t g : Addr} {H H1 H2 : Hp} (a : Keep t g H H1) (b : Keep t g H1 H2) : Keep t g H H2 := fun c o h x y => b c o (a c o h x y) x y
/-- the deck: at t, its great numbers at g; no more than n draws so far went by the fold -/
structure Tray (H : Hp) (t g : Addr) (n : Nat) : Prop where
  ex : ∃ (gs : List Int) (f c : Int), H t = some (.lst [.ref g, .int f, .int c]) ∧ H g = some (.lst (gs.map V.int)) ∧ gs.length ≤ 63 ∧ (∀ x ∈ gs, 0 ≤ x) ∧ 0 ≤ f ∧ f < 2 ^ 61 ∧ 0 ≤ c ∧ c ≤ (n : Int)
  ne : t ≠ g
theorem Tray.same {H H' : Hp} {t g : Addr} {n : Nat} (T : Tray H t g n) (S : Same H H') : Tray H' t g n := by
  obtain ⟨⟨gs, f, c, h1, h2, r⟩, hne⟩ := T
  exact ⟨⟨gs, f, c, S _ _ h1, S _ _ h2, r⟩, hne⟩
theorem Keep.of_same {t g : Addr} {H H' : Hp} (S : Same H H') : Keep t g H H' := fun b o e _ _ => S b o e
theorem shaped_ints (ns : List Int) : SeqAt.shaped (.list (ns.map .int)) = true := by
  have h1 : ∀ ns : List Int, PyData.canLayAll0 (ns.map .int) = true := by
    intro ns
    induction ns with
    | nil => rfl
    | cons a r ih => simp [PyData.canLayAll0, PyData.canLay0, ih]
  have h2 : ∀ ns : List Int, PyData.depthAll (ns.map .int) = 0 := PySem.W.depth_ints
  unfold SeqAt.shaped
  simp [PyData.canLay0, PyData.depth, h1, h2]
theorem pow_lt {i : Int} {a n : Nat} (h : i.natAbs < 2 ^ a) (h0 : n ≠ 0) : (i ^ n).natAbs < 2 ^ (a * n) := by
  rw [Int.natAbs_pow, Nat.pow_mul]
  exact Nat.pow_lt_pow_left h h0
theorem while_post {c : TT} {tb : TS} {D : Ends} {σ : L2.St} {H : Hp} (Pv : L2.St → Hp → Prop) (μ : L2.St → Hp → Nat) (Po : L2.St → Hp → Prop) (h0 : Pv σ H)
    (hs : ∀ σ H, Pv σ H → c σ H fun b H1 => if b = true then tb { D with nx := fun σ' H' => Pv σ' H' ∧ μ σ' H' < μ σ H, ct := fun σ' H' => Pv σ' H' ∧ μ σ' H' < μ σ H, bk := D.nx } σ H1 else Po σ H1)
    (hd : ∀ σ H, Po σ H → D.nx σ H) (mono : ∀ σ H Q Q', (∀ b H1, Q b H1 → Q' b H1) → c σ H Q → c σ H Q') : tWhile c tb D σ H :=
  while_by Pv μ h0 (fun σ1 H1 p => mono σ1 H1 _ _ (fun b H2 q => by
    cases b with
    | true => exact q
    | false => exact hd _ _ q) (hs σ1 H1 p)) mono
theorem Tray.up {H : Hp} {t g : Addr} {m n : Nat} (T : Tray H t g m) (h : m ≤ n) : Tray H t g n := by
  obtain ⟨⟨gs, f, c, h1, h2, hl, hge, hf0, hf1, hc0, hc1⟩, hne⟩ := T
  exact ⟨⟨gs, f, c, h1, h2, hl, hge, hf0, hf1, hc0, by omega⟩, hne⟩
def spDeck (K : PySem.W.Frag) : Sp := fun vs H Q _ => ∃ (a : Addr) (ns : List Int), vs = [.ref a] ∧ SqL K H a (ns.map V.int) ∧ ns.length ≤ 63 ∧ ∀ (H' : Hp) (t g : Addr), Tray H' t g 0 → Same H H' → H t = none → H g = none → Q (.ref t) H'
def spTake : Sp := fun vs H Q _ => ∃ (t g : Addr) (n : Nat) (m : Int), vs = [.ref t, .int m] ∧ Tray H t g n ∧ 0 < m ∧ m.natAbs < 2 ^ 1000 ∧ n < 2 ^ 60 ∧
  ∀ (H' : Hp) (r : Int), 0 ≤ r → r < m → Tray H' t g (n + 1) → Keep t g H H' → Q (.int r) H'
theorem neg1 {gs : List Int} {y : Int} : atI ((gs ++ [y]).map V.int) (-1) = some (.int y) := by
  rw [atI_last (by simp), List.length_map, List.length_append, List.length_singleton, Nat.add_sub_cancel, List.getElem?_map, List.getElem?_append_right (Nat.le_refl _), Nat.sub_self]; rfl
theorem snoc_of {α : Type} : ∀ {l : List α}, l ≠ [] → ∃ a b, l = a ++ [b] := fun {l} h => ⟨l.dropLast, l.getLast h, (List.dropLast_concat_getLast h).symm⟩
section
variable {P : Program} {w : World} {K : PySem.W.Frag} {mg : Str → Option Value} {base : Heap} {Z : Ad}
theorem ok_law_deck (T : Tx K w mg Z) : FnOk P w K mg base CX0 1 Z.a_law_deck Z.d_law_deck P_law_deck (spDeck K) := by
  refine T.F_law_deck.ok sclaw_deck (fun vs H Q E h => ?_) (fun cdv A outer s H vs Q E hr h => ?_)
  · obtain ⟨a, ns, rfl, _⟩ := h
    rfl
  · obtain ⟨a, ns, rfl, hS, hlen, k⟩ := h
    refine ⟨_, (pss_cons (ps_set (i := 1) sclaw_deck.nd rfl (Or.inl rfl) (pe_lst pa_nil))
      (pss_cons (ps_set (i := 2) sclaw_deck.nd rfl (Or.inl rfl) pe_int)
      (pss_cons (ps_for PassesOwn.never rfl (pi_list (pv 0)) (pg_name (i := 3) sclaw_deck.nd rfl (Or.inl rfl)) (pss_cons (ps_set (i := 2) sclaw_deck.nd rfl (Or.inl rfl) (pe_op op_mod (pe_op op_add (pe_op op_mulW (pv 2) pe_int) (pv 3)) pe_int))
      (pss_one (ps_if (pt_cmpR op_ge (pe_callB call_abs (by rfl) T.b_abs (by decide +kernel) (pa_cons (pv 3) pa_nil)) (pe_op op_pow pe_int pe_int) (nomark _)) (pss_one (ps_expr (pe_bm PySem.F.plainAttrs_list PySem.F.slot_list_insert PySem.F.type_list_insert mt_insert (pv 1) (pa_cons pe_int (pa_cons (pe_op op_sub (pe_callB call_abs (by rfl) T.b_abs (by decide +kernel) (pa_cons (pv 3) pa_nil)) (pe_op op_pow pe_int pe_int)) pa_nil))))) pss_nil))))
      (pss_one (ps_ret (pe_lst (pa_cons (pv 1) (pa_cons (pv 2) (pa_cons pe_int pa_nil))))))))), ?_⟩
    refine ⟨(by show 0 ≤ sizeLine; decide), fun G hG => ?_⟩
    refine ⟨_, rfl, a, rfl, ⟨_, Same.sqL (same_upd hG) hS⟩, ?_⟩
    refine for_list (K := K) (a := a) (xs := ns.map V.int) (fun i σ' H' => ∃ (gs : List Int) (f : Int) (u : Option V), σ' = [some (.ref a), some (.ref G), some (.int f), u] ∧ Same H H' ∧ H' G = some (.lst (gs.map V.int)) ∧ gs.length ≤ i ∧ (∀ x ∈ gs, 0 ≤ x) ∧ 0 ≤ f ∧ f < 2 ^ 61)
      ⟨[], 11, none, rfl, same_upd hG, upd_same, Nat.le_refl _, (fun _ z => absurd z (by simp)), by decide, by decide⟩ (fun i σ' H' _ ⟨_, _, _, _, S, _⟩ => Same.sqL S hS) ?_ ?_
    · rintro i y σ' H' hi ⟨gs, f, u, rfl, S, hg, hgl, hge, hf0, hf1⟩
      obtain ⟨z, hz, rfl⟩ := map_at hi
      have hi63 : i < 63 := by
        have := (List.getElem?_eq_some_iff.mp hz).1
        omega
      have bf : f.natAbs < 2 ^ 61 := by omega
      refine ⟨_, rfl, _, _, rfl, rfl, wide_mul (b := 30) bf (by decide) (by decide) (by decide) (by decide), _, rfl, _, _, rfl, rfl, _, _, rfl, rfl, (by show (0 : Int) < _; decide), ?_⟩
      have hx0 := Int.emod_nonneg (f * 1000003 + z) (show (2305843009213693951 : Int) ≠ 0 by decide)
      have hx1 := Int.emod_lt_of_pos (f * 1000003 + z) (show (0 : Int) < 2305843009213693951 by decide)
      refine ⟨_, rfl, _, rfl, _, _, rfl, rfl, ⟨by decide, by decide, by decide⟩, _, _, rfl, rfl, _, rfl, ?_⟩
      refine ite2 (fun c => ?_) (fun _ => ?_)
      · have c' := of_decide_eq_true c
        refine ⟨_, rfl, .inl ⟨rfl, _, SqL.of hg⟩, _, rfl, _, rfl, _, _, rfl, rfl, ⟨by decide, by decide, by decide⟩, _, _, rfl, rfl, G, _, 0, _, rfl, rfl, hg, ?_, by decide, by decide, ?_⟩
        · exact small1000 (by simp; omega)
        · refine ⟨((if z < 0 then -z else z) - 10 ^ (18 : Int).toNat) :: gs, _, _, rfl, same_set S hG, ?_, ?_, ?_, hx0, by omega⟩
          · exact upd_same
          · simp; omega
          · intro x hx
            rcases List.mem_cons.mp hx with h | h
            · subst h
              omega
            · exact hge x h
      · exact ⟨gs, _, _, rfl, S, hg, by omega, hge, hx0, by omega⟩
    · rintro σ' H' ⟨gs, f, u, rfl, S, hg, hgl, hge, hf0, hf1⟩
      refine ⟨_, rfl, _, rfl, (by show 3 ≤ sizeLine; decide), fun t ht => ?_⟩
      have hgt : G ≠ t := ne_of_none hg ht
      refine k _ t G ⟨⟨gs, f, 0, upd_same, (upd_ne hgt).trans hg, ?_, hge, hf0, hf1, Int.le_refl _, Int.le_refl _⟩, Ne.symm hgt⟩ (same_set S (S.free ht)) (S.free ht) hG
      rw [List.length_map] at hgl
      omega
theorem ok_law_take (T : Tx K w mg Z) : FnOk P w K mg base CX0 1 Z.a_law_take Z.d_law_take P_law_take (spTake) := by
  refine T.F_law_take.ok sclaw_take (fun vs H Q E h => ?_) (fun cdv A outer s H vs Q E hr h => ?_)
  · obtain ⟨t, g, n, m, rfl, _⟩ := h
    rfl
  · obtain ⟨t, g, n, m, rfl, ⟨ht, hne⟩, hm, hmb, hn, k⟩ := h
    refine ⟨_, (C8.pss_cut (ps_while PassesOwn.never (PW.pt (pw_and (pt_cmpR (neDK (K := K) hr.units) (pe_ix (ixL (K := K)) (pv 0) pe_int (fun _ _ => rfl)) (pe_lst pa_nil) (nomark _)) (pw_and1 (pt_cmpR op_lt (pe_ix (ixL (K := K)) (pe_ix (ixL (K := K)) (pv 0) pe_int (fun _ _ => rfl)) (pe_un un_neg pe_int) (fun _ _ => rfl)) pe_int (nomark _))))) (pss_one (ps_expr (pe_bm0 PySem.F.plainAttrs_list PySem.F.slot_list_pop PySem.F.type_list_pop mt_pop (pe_ix (ixL (K := K)) (pv 0) pe_int (fun _ _ => rfl))))))
      (C8.pss_cut (ps_if (pt_cmpR (neDK (K := K) hr.units) (pe_ix (ixL (K := K)) (pv 0) pe_int (fun _ _ => rfl)) (pe_lst pa_nil) (nomark _)) (pss_cons (ps_set (i := 2) sclaw_take.nd rfl (Or.inl rfl) (pe_op op_mod (pe_ix (ixL (K := K)) (pe_ix (ixL (K := K)) (pv 0) pe_int (fun _ _ => rfl)) (pe_un un_neg pe_int) (fun _ _ => rfl)) (pv 1)))
      (pss_cons (ps_asg (pe_op op_fdivW (pe_ix (ixL (K := K)) (pe_ix (ixL (K := K)) (pv 0) pe_int (fun _ _ => rfl)) (pe_un un_neg pe_int) (fun _ _ => rfl)) (pv 1)) (pg_sub (pe_ix (ixL (K := K)) (pv 0) pe_int (fun _ _ => rfl)) (pe_un un_neg pe_int) set_list))
      (pss_one (ps_ret (pv 2))))) pss_nil)
      (pss_cons (ps_asg (pe_op op_add (pe_ix (ixL (K := K)) (pv 0) pe_int (fun _ _ => rfl)) pe_int) (pg_sub (pv 0) pe_int set_list))
      (pss_cons (ps_set (i := 3) sclaw_take.nd rfl (Or.inl rfl) (pe_ix (ixL (K := K)) (pv 0) pe_int (fun _ _ => rfl)))
      (pss_cons (ps_set (i := 4) sclaw_take.nd rfl (Or.inl rfl) (pe_op op_add (pe_op op_mulW (pe_op op_add (pe_ix (ixL (K := K)) (pv 0) pe_int (fun _ _ => rfl)) pe_int) (pe_op op_pow (pe_op op_add (pv 3) pe_int) pe_int)) (pe_op op_mulW pe_int (pv 3))))
      (pss_one (ps_ret (pe_op op_mod (pe_op op_fdivW (pe_op op_mod (pe_op op_pow (pe_op op_mod (pv 4) pe_int) pe_int) pe_int) pe_int) (pv 1))))))))), ?_⟩
    -- while deck[0] != [] and deck[0][-1] < 2
    refine ⟨fun σ' H' => σ' = [some (.ref t), some (.int m), none, none, none] ∧ Tray H' t g n ∧ Keep t g H H', ?_, ?_⟩
    · refine while_post (fun σ' H' => σ' = [some (.ref t), some (.int m), none, none, none] ∧ Tray H' t g n ∧ Keep t g H H') (fun _ H' => lenAt H' g) (fun σ' H' => σ' = [some (.ref t), some (.int m), none, none, none] ∧ Tray H' t g n ∧ Keep t g H H') ⟨rfl, ⟨ht, hne⟩, Keep.refl _ _ _⟩ ?_ (fun _ _ q => q) ?_
      · rintro σ1 H1 ⟨rfl, ⟨⟨gs, f, c, h1, h2, hl, hge, hf0, hf1, hc0, hc1⟩, _⟩, kp⟩
        refine ⟨_, rfl, _, _, _, _, rfl, rfl, SqL.of h1, rfl, (by show 0 ≤ sizeLine; decide), fun p hp => ?_⟩
        have g2 : (upd H1 p (.lst [])) g = some (.lst (gs.map V.int)) := (upd_ne (ne_of_none h2 hp)).trans h2
        have g1 : (upd H1 p (.lst [])) t = some (.lst [.ref g, .int f, .int c]) := (upd_ne (ne_of_none h1 hp)).trans h1
        have kp1 : Keep t g H (upd H1 p (.lst [])) := fun b o e n1 n2 => (upd_ne (ne_of_none (kp b o e n1 n2) hp)).trans (kp b o e n1 n2)
        refine ⟨_, _, .lst (SqL.of g2) (dpAll_ints gs), .lst (SqL.of upd_same) .nil, shaped_ints gs, rfl, _, rfl, ?_⟩
        by_cases hnil : gs = []
        · subst hnil
          exact iteF ⟨rfl, ⟨⟨[], f, c, g1, g2, hl, hge, hf0, hf1, hc0, hc1⟩, hne⟩, kp1⟩
        · obtain ⟨ys, y, rfl⟩ := snoc_of hnil
          have e : (!PyData.eqv (.list ((ys ++ [y]).map PyData.int)) (.list [])) = true := by
            cases ys <;> rfl
          refine ite2 (fun _ => ?_) (fun c => absurd e c)
          refine ⟨_, rfl, _, _, _, _, rfl, rfl, SqL.of g1, rfl, _, rfl, _, _, _, _, rfl, rfl, SqL.of g2, neg1, _, _, rfl, rfl, _, rfl, ?_⟩
          refine ite2 (fun _ => ?_) (fun c => ?_)
          · refine ⟨_, rfl, _, _, _, _, rfl, rfl, SqL.of g1, rfl, .inl ⟨rfl, _, SqL.of g2⟩, g, _, V.int y, rfl, rfl, g2, by simp, ?_⟩
            have ed : ((ys ++ [y]).map V.int).dropLast = ys.map V.int := by simp
            rw [ed]
            refine ⟨⟨rfl, ⟨⟨ys, f, c, (upd_ne hne).trans g1, upd_same, ?_, fun x hx => hge x (List.mem_append_left _ hx), hf0, hf1, hc0, hc1⟩, hne⟩, fun b o e' n1 n2 => (upd_ne n2).trans (kp1 b o e' n1 n2)⟩, ?_⟩
            · simp at hl; omega
            · rw [lenAt_of upd_same, lenAt_of h2]; simp
          · exact ⟨rfl, ⟨⟨ys ++ [y], f, _, g1, g2, hl, hge, hf0, hf1, hc0, hc1⟩, hne⟩, kp1⟩
      · intro σ1 H1 Q1 Q2 hQ hc
        obtain ⟨v, hv, p, xs, i, x, e1, e2, hs, ha, hz, hp⟩ := hc
        refine ⟨v, hv, p, xs, i, x, e1, e2, hs, ha, hz, fun p' np => ?_⟩
        obtain ⟨d, e, d1, d2, s1, s2, b, eb, q⟩ := hp p' np
        refine ⟨d, e, d1, d2, s1, s2, b, eb, ?_⟩
        cases b with
        | false => exact hQ _ _ q
        | true =>
          obtain ⟨a1, a2, a3, a4, a5, a6, a7, a8, a9, a10, a11, a12, a13, a14, a15, a16, a17, a18, a19, a20, a21, a22, a23, a24, a25, a26, q⟩ := q
          exact ⟨a1, a2, a3, a4, a5, a6, a7, a8, a9, a10, a11, a12, a13, a14, a15, a16, a17, a18, a19, a20, a21, a22, a23, a24, a25, a26, hQ _ _ q⟩
    · rintro σ1 H1 ⟨rfl, ⟨⟨gs, f, c, h1, h2, hl, hge, hf0, hf1, hc0, hc1⟩, _⟩, kp⟩
      refine ⟨fun σ' H' => σ' = [some (.ref t), some (.int m), none, none, none] ∧ Tray H' t g n ∧ Keep t g H H', ?_, ?_⟩
      · refine ⟨_, rfl, _, _, _, _, rfl, rfl, SqL.of h1, rfl, (by show 0 ≤ sizeLine; decide), fun p hp => ?_⟩
        have g2 : (upd H1 p (.lst [])) g = some (.lst (gs.map V.int)) := (upd_ne (ne_of_none h2 hp)).trans h2
        have g1 : (upd H1 p (.lst [])) t = some (.lst [.ref g, .int f, .int c]) := (upd_ne (ne_of_none h1 hp)).trans h1
        have kp1 : Keep t g H (upd H1 p (.lst [])) := fun b o e n1 n2 => (upd_ne (ne_of_none (kp b o e n1 n2) hp)).trans (kp b o e n1 n2)
        refine ⟨_, _, .lst (SqL.of g2) (dpAll_ints gs), .lst (SqL.of upd_same) .nil, shaped_ints gs, rfl, _, rfl, ?_⟩
        by_cases hnil : gs = []
        · subst hnil
          exact iteF ⟨rfl, ⟨⟨[], f, c, g1, g2, hl, hge, hf0, hf1, hc0, hc1⟩, hne⟩, kp1⟩
        · obtain ⟨ys, y, rfl⟩ := snoc_of hnil
          have e : (!PyData.eqv (.list ((ys ++ [y]).map PyData.int)) (.list [])) = true := by
            cases ys <;> rfl
          refine ite2 (fun _ => ?_) (fun c => absurd e c)
          generalize upd H1 p (.lst []) = H2 at g1 g2 kp1 ⊢
          refine ⟨_, rfl, _, _, _, _, rfl, rfl, SqL.of g1, rfl, _, rfl, _, _, _, _, rfl, rfl, SqL.of g2, neg1, _, rfl, _, _, rfl, rfl, hm, ?_⟩
          refine ⟨_, rfl, _, _, _, _, rfl, rfl, SqL.of g1, rfl, _, rfl, _, _, _, _, rfl, rfl, SqL.of g2, neg1, _, rfl, _, _, rfl, rfl, wide_div hm hmb (by decide) (by decide), _, rfl, _, _, _, _, rfl, rfl, SqL.of g1, rfl, _, rfl, _, _, _, ys.length, rfl, rfl, g2, ?_, _, rfl, ?_⟩
          · unfold ixN
            have hlen : ((ys ++ [y]).map V.int).length = ys.length + 1 := by simp
            rw [hlen, if_neg (by decide), if_pos (by omega)]
            congr 1
            omega
          have es : ((ys ++ [y]).map V.int).set ys.length (V.int (y / m)) = (ys ++ [y / m]).map V.int := by
            rw [List.map_append, List.set_append_right (h := by simp)]; simp
          rw [es]
          refine k _ _ (Int.emod_nonneg _ (by omega)) (Int.emod_lt_of_pos _ hm) ⟨⟨ys ++ [y / m], f, c, (upd_ne hne).trans g1, upd_same, ?_, ?_, hf0, hf1, hc0, by push_cast; omega⟩, hne⟩ fun b o e n1 n2 => (upd_ne n2).trans (kp1 b o e n1 n2)
          · simp at hl ⊢; omega
          · intro x hx
            rcases List.mem_append.mp hx with h | h
            · exact hge x (List.mem_append_left _ h)
            · rw [List.mem_singleton] at h
              subst h
              exact Int.ediv_nonneg (hge y (by simp)) (by omega)
      · rintro σ2 H2 ⟨rfl, ⟨⟨gs, f, c, h1, h2, hl, hge, hf0, hf1, hc0, hc1⟩, _⟩, kp⟩
        refine ⟨_, rfl, _, _, _, _, rfl, rfl, SqL.of h1, rfl, _, _, rfl, rfl, _, rfl, _, _, _, 2, rfl, rfl, h1, rfl, ?_⟩
        have g1 : (upd H2 t (.lst (List.set [.ref g, .int f, .int c] 2 (.int (c + 1))))) t = some (.lst [.ref g, .int f, .int (c + 1)]) := upd_same
        have bf : (f + 40503).natAbs < 2 ^ 63 := by omega
        have bc : (c + 1 + 5).natAbs < 2 ^ 61 := by omega
        have b3 : ((c + 1 + 5) ^ (3 : Int).toNat).natAbs < 2 ^ (61 * 3) := pow_lt bc (by decide)
        refine ⟨_, rfl, _, _, _, _, rfl, rfl, SqL.of g1, rfl, ?_⟩
        refine ⟨_, rfl, _, _, _, _, rfl, rfl, SqL.of g1, rfl, _, _, rfl, rfl, _, rfl, _, _, rfl, rfl, _, _, rfl, rfl, ⟨by decide, by decide, Nat.lt_trans bc (by decide)⟩, _, _, rfl, rfl, wide_mul bf b3 (by decide) (by decide) (by decide), ?_⟩
        refine ⟨_, rfl, _, _, rfl, rfl, wide_mul (a := 30) (b := 61) (by decide) (by omega) (by decide) (by decide) (by decide), _, _, rfl, rfl, ?_⟩
        have hx0 := Int.emod_nonneg ((f + 40503) * (c + 1 + 5) ^ (3 : Int).toNat + 69621 * (c + 1)) (show (2305843009213693951 : Int) ≠ 0 by decide)
        have hx1 := Int.emod_lt_of_pos ((f + 40503) * (c + 1 + 5) ^ (3 : Int).toNat + 69621 * (c + 1)) (show (0 : Int) < 2305843009213693951 by decide)
        refine ⟨_, rfl, _, _, rfl, rfl, (by show (0 : Int) < _; decide), _, _, rfl, rfl, ⟨by decide, by decide, ?_⟩, _, _, rfl, rfl, (by show (0 : Int) < _; decide), _, _, rfl, rfl, wide_div (b := 10) (by decide) (by decide) (by decide) (by decide), _, rfl, _, _, rfl, rfl, hm, ?_⟩
        · show (((f + 40503) * (c + 1 + 5) ^ (3 : Int).toNat + 69621 * (c + 1)) % 2305843009213693951).natAbs < 2 ^ 64
          omega
        · refine k _ _ (Int.emod_nonneg _ (by omega)) (Int.emod_lt_of_pos _ hm) ⟨⟨gs, f, c + 1, g1, (upd_ne (Ne.symm hne)).trans h2, hl, hge, hf0, hf1, by omega, by push_cast; omega⟩, hne⟩ fun b o e n1 n2 => (upd_ne n1).trans (kp b o e n1 n2)
end
end KA
namespace KA
open PySem PySem.Spec PyProof.Rows L2 DP
abbrev Pr := Int × Int
def encP (p : Pr) : PyData := .tuple [.int p.1, .int p.2]
theorem noL_encP (p : Pr) : noL (encP p) = true := rfl
/-- a list of data at p, tracked -/
def LAt (K : PySem.W.Frag) (H : Hp) (p : Addr) (ds : List PyData) : Prop := ∃ vs, H p = some (.lst vs) ∧ DpAll K H vs ds
theorem LAt.dp {K : PySem.W.Frag} {H : Hp} {p : Addr} {ds : List PyData} (h : LAt K H p ds) : Dp K H (.ref p) (.list ds) := by
  obtain ⟨vs, h1, h2⟩ := h
  exact .lst (SqL.of h1) h2
theorem LAt.same {K : PySem.W.Frag} {H H' : Hp} {p : Addr} {ds : List PyData} (h : LAt K H p ds) (S : Same H H') : LAt K H' p ds := by
  obtain ⟨vs, h1, h2⟩ := h
  exact ⟨vs, S _ _ h1, dpAll_mono S _ _ h2⟩
theorem Keep.tups {H H' : Hp} {t g : Addr} {n : Nat} (T : Tray H t g n) (k : Keep t g H H') : Tups H H' := fun b xs hb => by
  obtain ⟨⟨gs, f, c, h1, h2, r⟩, hne⟩ := T
  rcases hb with e | ⟨q, e⟩
  · refine .inl (k b _ e ?_ ?_) <;> rintro rfl
    · rw [h1] at e; cases e
    · rw [h2] at e; cases e
  · refine .inr ⟨q, k b _ e ?_ ?_⟩ <;> rintro rfl
    · rw [h1] at e; cases e
    · rw [h2] at e; cases e
theorem LAt.keep {K : PySem.W.Frag} {H H' : Hp} {t g p : Addr} {n : Nat} {ds : List PyData} (h : LAt K H p ds) (T : Tray H t g n) (k : Keep t g H H') (h1 : p ≠ t) (h2 : p ≠ g) (hn : noL.noLs ds = true) : LAt K H' p ds := by
  obtain ⟨vs, a, b⟩ := h
  exact ⟨vs, k _ _ a h1 h2, dpAll_tups (Keep.tups T k) _ _ hn b⟩
theorem Tray.at_ne {H : Hp} {t g p : Addr} {n : Nat} (T : Tray H t g n) (hp : H p = none) : p ≠ t ∧ p ≠ g := by
  obtain ⟨⟨gs, f, c, h1, h2, r⟩, hne⟩ := T
  exact ⟨Ne.symm (ne_of_none h1 hp), Ne.symm (ne_of_none h2 hp)⟩
theorem dp_pair {K : PySem.W.Frag} {H : Hp} {v : V} {p : Pr} (h : Dp K H v (encP p)) : ∃ a, v = .ref a ∧ SqT K H a [.int p.1, .int p.2] := by
  have h' : Dp K H v (.tuple [.int p.1, .int p.2]) := h
  cases h' with
  | tup s a =>
    cases a with
    | cons a1 a =>
      cases a with
      | cons a2 a =>
        cases a; cases a1; cases a2
        exact ⟨_, rfl, s⟩
theorem dp_two {K : PySem.W.Frag} {H : Hp} {q : Addr} {a b : Int} (h : H q = some (.tup [.int a, .int b])) : Dp K H (.ref q) (encP (a, b)) := .tup (SqT.of h) (.cons (.int _) (.cons (.int _) .nil))
theorem small_nat {L : Int} {a : Int} {n : Nat} (h0 : 0 ≤ a) (h1 : a ≤ L) (hL : L.natAbs < 2 ^ n) : a.natAbs < 2 ^ n := Nat.lt_of_le_of_lt (by omega : a.natAbs ≤ L.natAbs) hL
theorem bigL {L : Int} (h0 : 0 < L) (h : L ≤ 10 ^ 30) : L.natAbs < 2 ^ 100 := by
  have e : (10 : Int) ^ 30 = 1000000000000000000000000000000 := by decide
  have e2 : (2 : Nat) ^ 100 = 1267650600228229401496703205376 := by decide
  rw [e] at h; rw [e2]; omega
/-- what the deck's calls keep of the frame: the deck, all else, so far m draws -/
structure At (H Hc : Hp) (t g : Addr) (m : Nat) : Prop where
  T : Tray Hc t g m
  k : Keep t g H Hc
theorem At.step {H H1 H2 : Hp} {t g : Addr} {m m' : Nat} (a : At H H1 t g m) (T : Tray H2 t g m') (k : Keep t g H1 H2) : At H H2 t g m' := ⟨T, a.k.trans k⟩
theorem At.up {H Hc : Hp} {t g : Addr} {m m' : Nat} (a : At H Hc t g m) (h : m ≤ m') : At H Hc t g m' := ⟨a.T.up h, a.k⟩
theorem At.new {H H1 : Hp} {t g p : Addr} {m : Nat} {o : HO} (a : At H H1 t g m) (hp : H1 p = none) : At H (upd H1 p o) t g m := ⟨a.T.same (same_upd hp), a.k.trans (Keep.of_same (same_upd hp))⟩
theorem At.sm {H H1 H2 : Hp} {t g : Addr} {m : Nat} (a : At H H1 t g m) (S : Same H1 H2) : At H H2 t g m := ⟨a.T.same S, a.k.trans (Keep.of_same S)⟩
theorem At.free {H H1 : Hp} {t g p : Addr} {m : Nat} (a : At H H1 t g m) (hp : H1 p = none) : H p = none := by
  obtain ⟨h1, h2⟩ := a.T.at_ne hp
  cases e : H p with
  | none => rfl
  | some o =>
    rw [a.k p o e h1 h2] at hp
    cases hp
/-- a list that a comprehension makes is changed: it is new -/
theorem At.acc {H H1 : Hp} {t g D : Addr} {m : Nat} {o : HO} (a : At H H1 t g m) (hD : H D = none) (h1 : D ≠ t) (h2 : D ≠ g) : At H (upd H1 D o) t g m := by
  obtain ⟨⟨⟨gs, f, c, e1, e2, r⟩, hne⟩, k⟩ := a
  exact ⟨⟨⟨gs, f, c, (upd_ne (Ne.symm h1)).trans e1, (upd_ne (Ne.symm h2)).trans e2, r⟩, hne⟩, fun b o e n1 n2 => (upd_ne (ne_of_none e hD)).trans (k b o e n1 n2)⟩
def spBelow : Sp := fun vs H Q _ => ∃ (t g : Addr) (n : Nat) (m : Int), vs = [.ref t, .int m] ∧ Tray H t g n ∧ 0 < m ∧ m.natAbs < 2 ^ 1000 ∧ n < 2 ^ 59 ∧
  ∀ (H' : Hp) (r : Int), 0 ≤ r → r < m → Tray H' t g (n + 60) → Keep t g H H' → Q (.int r) H'
def spWide : Sp := fun vs H Q _ => ∃ (t g : Addr) (n : Nat), vs = [.ref t] ∧ Tray H t g n ∧ n < 2 ^ 58 ∧
  ∀ (H' : Hp) (r : Int), 0 < r → r ≤ 10 ^ 30 → Tray H' t g (n + 70) → Keep t g H H' → Q (.int r) H'
section
variable {P : Program} {w : World} {K : PySem.W.Frag} {mg : Str → Option Value} {base : Heap} {Z : Ad}
theorem ok_law_below (T : Tx K w mg Z) : FnOk P w K mg base CX0 2 Z.a_law_below Z.d_law_below P_law_below (spBelow) := by
  refine T.F_law_below.ok sclaw_below (fun vs H Q E h => ?_) (fun cdv A outer s H vs Q E hr h => ?_)
  · obtain ⟨t, g, n, m, rfl, _⟩ := h
    rfl
  · obtain ⟨t, g, n, m, rfl, hT, hm, hmb, hn, k⟩ := h
    refine ⟨_, (pss_cons (ps_set (i := 2) sclaw_below.nd rfl (Or.inl rfl) pe_int)
      (pss_cons (ps_set (i := 3) sclaw_below.nd rfl (Or.inl rfl) (pv 1))
      (C8.pss_cut (ps_while PassesOwn.never (pt_cmpR op_gt (pv 3) pe_int (nomark _)) (pss_cons (ps_set (i := 2) sclaw_below.nd rfl (Or.inl rfl) (pe_op op_add (pe_op op_mulW (pv 2) (pe_op op_pow pe_int pe_int)) (pe_call (ok_law_take T) (hr.mono (by decide)) (by rfl) T.g_law_take T.F_law_take.kp T.bb_law_take .nil pass0 (pa_cons (pv 0) (pa_cons (pe_op op_pow pe_int pe_int) pa_nil)))))
      (pss_one (ps_set (i := 3) sclaw_below.nd rfl (Or.inl rfl) (pe_op op_fdivW (pv 3) (pe_op op_pow pe_int pe_int))))))
      (pss_one (ps_ret (pe_op op_mod (pv 2) (pv 1))))))), ?_⟩
    refine ⟨_, rfl, ?_⟩
    refine ⟨fun σ' H' => ∃ f l, σ' = [some (.ref t), some (.int m), some (.int f), some (.int l)] ∧ Tray H' t g (n + 60) ∧ Keep t g H H', ?_, ?_⟩
    · refine while_post (fun σ' H' => ∃ (i : Nat) (f l : Int), σ' = [some (.ref t), some (.int m), some (.int f), some (.int l)] ∧ 0 ≤ f ∧ 0 ≤ l ∧ (f + 1) * l ≤ m ∧ 2 ^ (19 * i) * l ≤ m ∧ i ≤ 53 ∧ Tray H' t g (n + i) ∧ Keep t g H H') (fun σ' _ => match σ'.getD 3 none with | some (.int l) => l.toNat | _ => 0) (fun σ' H' => ∃ f l, σ' = [some (.ref t), some (.int m), some (.int f), some (.int l)] ∧ Tray H' t g (n + 60) ∧ Keep t g H H')
        ⟨0, 0, m, rfl, Int.le_refl _, by omega, by omega, by simp, by omega, hT, Keep.refl _ _ _⟩ ?_ (fun _ _ q => q) ?_
      · rintro σ1 H1 ⟨i, f, l, rfl, hf0, hl0, hfl, hil, hi, T1, k1⟩
        refine ⟨_, rfl, _, _, rfl, rfl, _, rfl, ?_⟩
        refine ite2 (fun c => ?_) (fun _ => ⟨f, l, rfl, T1.up (by omega), k1⟩)
        have hl : 0 < l := of_decide_eq_true c
        have hfb : f.natAbs < 2 ^ 1000 := by
          have h1 : (f + 1) * 1 ≤ (f + 1) * l := Int.mul_le_mul_of_nonneg_left (by omega) (by omega)
          clear hil
          omega
        have hi52 : i ≤ 52 := by
          have h1 : (2 : Int) ^ (19 * i) * 1 ≤ 2 ^ (19 * i) * l := Int.mul_le_mul_of_nonneg_left (by omega) (Int.pow_nonneg (by decide))
          have h2 : ((2 ^ (19 * i) : Nat) : Int) < ((2 ^ 1000 : Nat) : Int) := by
            have e : ((2 ^ (19 * i) : Nat) : Int) = (2 : Int) ^ (19 * i) := by push_cast; rfl
            rw [e]
            generalize (2 : Int) ^ (19 * i) = A at h1 hil ⊢
            generalize (2 : Nat) ^ 1000 = B at hmb ⊢
            omega
          have h3 : 2 ^ (19 * i) < 2 ^ 1000 := Int.ofNat_lt.mp h2
          have h4 := (Nat.pow_lt_pow_iff_right (by decide : 1 < 2)).mp h3
          omega
        refine ⟨_, rfl, _, _, rfl, rfl, ⟨by decide, by decide, by decide⟩, _, _, rfl, rfl, wide_mul (b := 60) hfb (by decide) (by decide) (by decide) (by decide), _, rfl, _, _, rfl, rfl, ⟨by decide, by decide, by decide⟩, t, g, n + i, _, rfl, T1, by decide, by decide, by omega, fun H2 r r0 r1 T2 k2 => ?_⟩
        have e6 : (10 : Int) ^ (6 : Int).toNat = 1000000 := by decide
        rw [e6] at r1
        refine ⟨_, _, rfl, rfl, _, rfl, _, _, rfl, rfl, ⟨by decide, by decide, by decide⟩, _, _, rfl, rfl, wide_div (b := 60) (by decide) (by decide) (by decide) (by decide), ?_⟩
        have hd := Int.mul_ediv_add_emod l 1000000
        have hd0 := Int.emod_nonneg l (show (1000000 : Int) ≠ 0 by decide)
        have hq0 : 0 ≤ l / 1000000 := Int.ediv_nonneg hl0 (by decide)
        refine ⟨⟨i + 1, f * 1000000 + r, l / 1000000, ?_, by omega, hq0, ?_, ?_, by omega, T2, k1.trans k2⟩, ?_⟩
        · rw [e6]; rfl
        · have h1 : (f * 1000000 + r + 1) * (l / 1000000) ≤ ((f + 1) * 1000000) * (l / 1000000) := Int.mul_le_mul_of_nonneg_right (by omega) hq0
          have h2 : (f + 1) * (1000000 * (l / 1000000)) ≤ (f + 1) * l := Int.mul_le_mul_of_nonneg_left (by omega) (by omega)
          rw [Int.mul_assoc] at h1
          omega
        · have h1 : 2 ^ (19 * (i + 1)) * (l / 1000000) ≤ 2 ^ (19 * i) * l := by
            rw [show 19 * (i + 1) = 19 * i + 19 by omega, Int.pow_add, Int.mul_assoc]
            refine Int.mul_le_mul_of_nonneg_left ?_ (Int.pow_nonneg (by decide))
            have e : (2 : Int) ^ 19 = 524288 := by decide
            rw [e]; omega
          exact Int.le_trans h1 hil
        · show (l / (10 : Int) ^ (6 : Int).toNat).toNat < l.toNat
          rw [e6]; omega
      · rintro σ1 H1 Q1 Q2 hQ ⟨v, hv, i, j, e1, e2, b, eb, q⟩
        exact ⟨v, hv, i, j, e1, e2, b, eb, hQ _ _ q⟩
    · rintro σ1 H1 ⟨f, l, rfl, T1, k1⟩
      refine ⟨_, rfl, _, rfl, _, _, rfl, rfl, hm, ?_⟩
      exact k _ _ (Int.emod_nonneg _ (by omega)) (Int.emod_lt_of_pos _ hm) T1 k1
theorem ok_law_wide (T : Tx K w mg Z) : FnOk P w K mg base CX0 3 Z.a_law_wide Z.d_law_wide P_law_wide (spWide) := by
  refine T.F_law_wide.ok sclaw_wide (fun vs H Q E h => ?_) (fun cdv A outer s H vs Q E hr h => ?_)
  · obtain ⟨t, g, n, rfl, _⟩ := h
    rfl
  · obtain ⟨t, g, n, rfl, hT, hn, k⟩ := h
    refine ⟨_, (pss_cons (ps_set (i := 1) sclaw_wide.nd rfl (Or.inl rfl) (pe_lst (pa_cons (pe_op op_add pe_int (pe_call (ok_law_take T) (hr.mono (by decide)) (by rfl) T.g_law_take T.F_law_take.kp T.bb_law_take .nil pass0 (pa_cons (pv 0) (pa_cons pe_int pa_nil)))) (pa_cons (pe_op op_add pe_int (pe_call (ok_law_take T) (hr.mono (by decide)) (by rfl) T.g_law_take T.F_law_take.kp T.bb_law_take .nil pass0 (pa_cons (pv 0) (pa_cons pe_int pa_nil)))) (pa_cons (pe_op op_add pe_int (pe_call (ok_law_below T) (hr.mono (by decide)) (by rfl) T.g_law_below T.F_law_below.kp T.bb_law_below .nil pass0 (pa_cons (pv 0) (pa_cons (pe_op op_sub (pe_op op_pow pe_int pe_int) pe_int) pa_nil)))) pa_nil)))))
      (pss_one (ps_ret (pe_ix (ixL (K := K)) (pv 1) (pe_call (ok_law_take T) (hr.mono (by decide)) (by rfl) T.g_law_take T.F_law_take.kp T.bb_law_take .nil pass0 (pa_cons (pv 0) (pa_cons pe_int pa_nil))) (fun _ _ => rfl))))), ?_⟩
    refine ⟨_, rfl, t, g, n, 6, rfl, hT, by decide, by decide, by omega, fun H1 a a0 a1 T1 k1 => ?_⟩
    refine ⟨_, _, rfl, rfl, _, rfl, t, g, n + 1, 40, rfl, T1, by decide, by decide, by omega, fun H2 b b0 b1 T2 k2 => ?_⟩
    refine ⟨_, _, rfl, rfl, _, rfl, _, _, rfl, rfl, ⟨by decide, by decide, by decide⟩, _, _, rfl, rfl, t, g, n + 2, _, rfl, T2, by decide, by decide, by omega, fun H3 c c0 c1 T3 k3 => ?_⟩
    refine ⟨_, _, rfl, rfl, (by show 3 ≤ sizeLine; decide), fun p hp => ?_⟩
    obtain ⟨pt, pg⟩ := T3.at_ne hp
    have T4 := T3.same (same_upd (o := HO.lst [V.int (1 + a), .int (1 + b), .int (1 + c)]) hp)
    have k4 := Keep.of_same (t := t) (g := g) (same_upd (o := HO.lst [V.int (1 + a), .int (1 + b), .int (1 + c)]) hp)
    refine ⟨_, rfl, _, rfl, t, g, n + 62, 3, rfl, T4, by decide, by decide, by omega, fun H5 i i0 i1 T5 k5 => ?_⟩
    have e30 : (10 : Int) ^ 30 = 1000000000000000000000000000000 := by decide
    have e30' : (10 : Int) ^ (30 : Int).toNat - 2 = 999999999999999999999999999998 := by decide
    rw [e30'] at c1
    obtain ⟨x, hx, hx0, hx1⟩ : ∃ x : Int, atI [V.int (1 + a), .int (1 + b), .int (1 + c)] i = some (.int x) ∧ 0 < x ∧ x ≤ 10 ^ 30 := by
      rw [e30]
      have : i = 0 ∨ i = 1 ∨ i = 2 := by omega
      rcases this with e | e | e <;> subst e
      · exact ⟨1 + a, rfl, by omega, by omega⟩
      · exact ⟨1 + b, rfl, by omega, by omega⟩
      · exact ⟨1 + c, rfl, by omega, by omega⟩
    refine ⟨p, _, _, _, rfl, rfl, SqL.of (k5 _ _ upd_same pt pg), hx, ?_⟩
    exact k _ _ hx0 hx1 (T5.up (by omega)) (((k1.trans k2).trans k3).trans (k4.trans k5))
end
end KA
namespace KA
open PySem PySem.Spec PyProof.Rows L2 DP
/-- a Dark's list of looks is not the deck -/
def Off (Z : Ad) (H : Hp) (d : Addr) (L : Int) (t g : Addr) : Prop := ∀ la dx, H d = some (.ins Z.C dx (df L la)) → la ≠ t ∧ la ≠ g
theorem DarkAt.keep {Z : Ad} {K : PySem.W.Frag} {H H' : Hp} {t g d : Addr} {n : Nat} {L : Int} {ls : List Lk} (D : DarkAt Z K H d L ls) (T : Tray H t g n) (k : Keep t g H H') (hla : Off Z H d L t g) : DarkAt Z K H' d L ls ∧ Off Z H' d L t g := by
  obtain ⟨dx, la, vs, h1, h2, h3⟩ := D.ex
  obtain ⟨a1, a2⟩ := hla la dx h1
  have hd : d ≠ t ∧ d ≠ g := by
    obtain ⟨⟨gs, f, c, e1, e2, r⟩, hne⟩ := T
    refine ⟨?_, ?_⟩ <;> rintro rfl
    · rw [h1] at e1; cases e1
    · rw [h1] at e2; cases e2
  have h1' := k _ _ h1 hd.1 hd.2
  refine ⟨⟨⟨dx, la, vs, h1', k _ _ h2 a1 a2, dpAll_tups (Keep.tups T k) _ _ (noLs_map noL_encL ls) h3⟩, D.pos, D.big, D.ok, D.len⟩, fun la' dx' e => ?_⟩
  rw [h1'] at e
  rw [← df_inj e]
  exact ⟨a1, a2⟩
theorem Off.same {Z : Ad} {K : PySem.W.Frag} {H H' : Hp} {d t g : Addr} {L : Int} {ls : List Lk} (O : Off Z H d L t g) (D : DarkAt Z K H d L ls) (S : Same H H') : Off Z H' d L t g := fun la dx e => by
  obtain ⟨dx', la', _, h1, _⟩ := D.ex
  have e2 := S _ _ h1
  rw [e] at e2
  rw [df_inj e2]
  exact O la' dx' h1
end KA
namespace KA
open PySem PySem.Spec PyProof.Rows L2 DP
def spHidden (K : PySem.W.Frag) : Sp := fun vs H Q _ => ∃ (t g : Addr) (n : Nat) (L m : Int), vs = [.ref t, .int L, .int m] ∧ Tray H t g n ∧ n < 2 ^ 50 ∧ 0 < L ∧ L ≤ 10 ^ 30 ∧ 0 < m ∧ m ≤ 60 ∧
  ∀ (H' : Hp) (p : Addr) (prs : List Pr), H p = none → At H H' t g (n + 8000) → LAt K H' p (prs.map encP) → Rises L prs → (prs.length : Int) ≤ m → Q (.ref p) H'
section
variable {P : Program} {w : World} {K : PySem.W.Frag} {mg : Str → Option Value} {base : Heap} {Z : Ad}
theorem ok_law_hidden (T : Tx K w mg Z) : FnOk P w K mg base CX0 3 Z.a_law_hidden Z.d_law_hidden P_law_hidden (spHidden K) := by
  refine T.F_law_hidden.ok sclaw_hidden (fun vs H Q E h => ?_) (fun cdv A outer s H vs Q E hr h => ?_)
  · obtain ⟨t, g, n, L, m, rfl, _⟩ := h
    rfl
  · obtain ⟨t, g, n, L, m, rfl, hT, hn, hL, hL30, hm0, hm60, k⟩ := h
    have hLb := bigL hL hL30
    have hb : ∀ m, m ≤ n + 8000 → m < 2 ^ 59 := fun m hm => Nat.lt_of_le_of_lt hm (Nat.lt_of_lt_of_le (Nat.add_lt_add_right hn 8000) (by decide))
    have A0 : At H H t g n := ⟨hT, Keep.refl _ _ _⟩
    refine ⟨_, (pss_cons (ps_set (i := 3) sclaw_hidden.nd rfl (Or.inr rfl) (pe_callB (sortedSetK (w := w) rfl) (by rfl) T.b_sorted (by decide +kernel) (pa_cons (pe_callTy (setIK (K := K) (w := w) rfl) (by rfl) T.b_set (by decide +kernel) (pa_cons (pe_lc (own := [("k", 4)]) (g := gName 4) (tt := tYes) rfl sclaw_hidden.nd (pi_range1 (by rfl) T.b_range (pa_cons (pv 2) pa_nil)) (blkOk_by (own := [("k", 4)]) (N := N_law_hidden) (sc := defScope slaw_hidden) (by decide +kernel)) (fun _ _ _ _ _ => (pg_name (i := 4) sclaw_hidden.nd rfl (Or.inl rfl))) (fun _ _ _ _ _ => pts_nil) (fun _ _ _ _ _ => (pe_call (ok_law_below T) (hr.mono (by decide)) (by rfl) T.g_law_below T.F_law_below.kp T.bb_law_below .nil pass0 (pa_cons (pv 0) (pa_cons (pv 1) pa_nil))))) pa_nil)) pa_nil)))
      (pss_cons (ps_set (i := 5) sclaw_hidden.nd rfl (Or.inr rfl) (pe_op op_sub (pe_call (ok_law_below T) (hr.mono (by decide)) (by rfl) T.g_law_below T.F_law_below.kp T.bb_law_below .nil pass0 (pa_cons (pv 0) (pa_cons (pe_op op_mulW pe_int (pv 1)) pa_nil))) (pe_ix (ixL (K := K)) (pe_lst (pa_cons pe_int (pa_cons (pv 1) (pa_cons (pe_op op_mulW pe_int (pv 1)) pa_nil)))) (pe_call (ok_law_take T) (hr.mono (by decide)) (by rfl) T.g_law_take T.F_law_take.kp T.bb_law_take .nil pass0 (pa_cons (pv 0) (pa_cons pe_int pa_nil))) (fun _ _ => rfl))))
      (pss_cons (ps_set (i := 6) sclaw_hidden.nd rfl (Or.inr rfl) (pe_callB (sortK (K := K)) (by rfl) T.b_sorted (by decide +kernel) (pa_cons (pe_lc (own := [("spot", 7)]) (g := gName 7) (tt := tYes) rfl sclaw_hidden.nd (pi_list (pv 3)) (blkOk_by (own := [("spot", 7)]) (N := N_law_hidden) (sc := defScope slaw_hidden) (by decide +kernel)) (fun _ _ _ _ _ => (pg_name (i := 7) sclaw_hidden.nd rfl (Or.inl rfl))) (fun _ _ _ _ _ => pts_nil) (fun _ _ _ _ _ => (pe_call (ok_law_below T) (hr.mono (by decide)) (by rfl) T.g_law_below T.F_law_below.kp T.bb_law_below .nil pass0 (pa_cons (pv 0) (pa_cons (pe_op op_add (pv 1) pe_int) pa_nil))))) pa_nil)))
      (pss_one (ps_ret (pe_lc (own := [("k", 4)]) (g := gName 4) (tt := tYes) rfl sclaw_hidden.nd (pi_range1 (by rfl) T.b_range (pa_cons (pe_callB (lenK (K := K)) (by rfl) T.b_len (by decide +kernel) (pa_cons (pv 3) pa_nil)) pa_nil)) (blkOk_by (own := [("k", 4)]) (N := N_law_hidden) (sc := defScope slaw_hidden) (by decide +kernel)) (fun _ _ _ _ _ => (pg_name (i := 4) sclaw_hidden.nd rfl (Or.inl rfl))) (fun _ _ _ _ _ => pts_nil) (fun _ _ _ _ _ => (pe_tup (pa_cons (pe_ix (ixL (K := K)) (pv 3) (pv 4) (fun _ _ => rfl)) (pa_cons (pe_op op_add (pv 5) (pe_ix (ixL (K := K)) (pv 6) (pv 4) (fun _ _ => rfl))) pa_nil)))))))))), ?_⟩
    -- spots
    refine ⟨_, rfl, m, rfl, by omega, by omega, fun D hD => ?_⟩
    obtain ⟨Dt, Dg⟩ := hT.at_ne hD
    refine lc_range (lo := 0) (n := m.toNat) (fun i H' => At H H' t g (n + 60 * i) ∧ ∃ ns : List Int, H' D = some (.lst (ns.map V.int)) ∧ ns.length = i ∧ ∀ x ∈ ns, 0 ≤ x ∧ x < L) ⟨A0.new hD, [], upd_same, rfl, fun _ z => absurd z (by simp)⟩ ?_ ?_
    · rintro i H' hi ⟨A, ns, hd, hl, hx⟩
      have hi6 : i < 60 := by omega
      refine ⟨rfl, yes_ite ?_⟩
      refine ⟨_, rfl, _, rfl, t, g, n + 60 * i, L, rfl, A.T, hL, lt_up hLb (by decide), hb _ (by omega), fun H2 r r0 r1 T2 k2 => ?_⟩
      have hd2 := k2 _ _ hd Dt Dg
      refine ⟨_, hd2, small1000 (by simp; omega), ((A.step T2 k2).acc hD Dt Dg).up (by omega), ns ++ [r], ?_, by simp [hl], fun x hx' => ?_⟩
      · rw [List.map_append]; exact upd_same
      · rcases List.mem_append.mp hx' with h | h
        · exact hx x h
        · rw [List.mem_singleton] at h; subst h; exact ⟨r0, r1⟩
    rintro H2 ⟨A2, ns, hd, hnl, hx⟩
    refine ⟨D, ns, rfl, SqL.of hd, by omega, fun q c hc hq => ?_⟩
    refine ⟨q, _, c, rfl, upd_same, by omega, fun ss p hpw hmem hsl hp => ?_⟩
    have A3 := (A2.new (o := SetO w q (fun j => decide (j ∈ ns)) c) hq).new (o := HO.lst (ss.map V.int)) hp
    have hpH : H p = none := (A2.new (o := SetO w q (fun j => decide (j ∈ ns)) c) hq).free hp
    obtain ⟨pt, pg⟩ := (A2.new (o := SetO w q (fun j => decide (j ∈ ns)) c) hq).T.at_ne hp
    generalize eH3 : upd (upd H2 q (SetO w q (fun j => decide (j ∈ ns)) c)) p (.lst (ss.map V.int)) = H3 at A3 ⊢
    have hp3 : H3 p = some (.lst (ss.map V.int)) := by rw [← eH3]; exact upd_same
    have hss : ∀ x ∈ ss, 0 ≤ x ∧ x < L := fun x hx' => hx x (of_decide_eq_true ((hmem x).mp hx'))
    have hss6 : ss.length ≤ m.toNat := by rw [hsl]; omega
    have hssne : ss ≠ [] := by
      cases ns with
      | nil => simp at hnl; omega
      | cons y r =>
        intro e
        have : y ∈ ss := (hmem y).mpr (by simp)
        rw [e] at this; cases this
    have A3' : At H H3 t g (n + 3600) := A3.up (by omega)
    -- begun
    have b3 : (3 * L).natAbs < 2 ^ 102 := by rw [Int.natAbs_mul]; exact Nat.lt_of_lt_of_le (Nat.mul_lt_mul_of_le_of_lt (Nat.le_refl 3) hLb (by decide)) (by decide)
    refine ⟨_, rfl, _, rfl, _, _, rfl, rfl, wide_mul (a := 10) (by decide) hLb (by decide) (by decide) (by decide), t, g, n + 3600, 3 * L, rfl, A3'.T, by omega, lt_up b3 (by decide), hb _ (by omega), fun H4 r r0 r1 T4 k4 => ?_⟩
    have A4 := A3'.step T4 k4
    have hp4 := k4 _ _ hp3 pt pg
    refine ⟨_, rfl, _, rfl, _, _, rfl, rfl, wide_mul (a := 10) (by decide) hLb (by decide) (by decide) (by decide), (by show 3 ≤ sizeLine; decide), fun p3 hp3' => ?_⟩
    obtain ⟨p3t, p3g⟩ := A4.T.at_ne hp3'
    have A5 := A4.new (o := HO.lst [V.int 0, .int L, .int (2 * L)]) hp3'
    have hp5 := (same_upd (o := HO.lst [V.int 0, .int L, .int (2 * L)]) hp3') _ _ hp4
    refine ⟨_, rfl, t, g, n + 3660, 3, rfl, A5.T, by decide, by decide, Nat.lt_trans (hb _ (by omega)) (by decide), fun H6 j j0 j1 T6 k6 => ?_⟩
    have A6 := A5.step T6 k6
    have hp6 := k6 _ _ hp5 pt pg
    obtain ⟨z, hz, hz0, hz1⟩ : ∃ z : Int, atI [V.int 0, .int L, .int (2 * L)] j = some (.int z) ∧ 0 ≤ z ∧ z ≤ 2 * L := by
      have : j = 0 ∨ j = 1 ∨ j = 2 := by omega
      rcases this with e | e | e <;> subst e
      · exact ⟨0, rfl, by omega, by omega⟩
      · exact ⟨L, rfl, by omega, by omega⟩
      · exact ⟨2 * L, rfl, by omega, by omega⟩
    refine ⟨p3, _, _, _, rfl, rfl, SqL.of (k6 _ _ upd_same p3t p3g), hz, _, _, rfl, rfl, ?_⟩
    have hbb : (r - z).natAbs < 2 ^ 104 := by
      have e1 : (2 : Nat) ^ 104 = 2 ^ 100 * 16 := by decide
      rw [e1]; clear b3; omega
    -- ends
    refine ⟨_, rfl, p, rfl, ⟨_, SqL.of hp6⟩, fun D2 hD2 => ?_⟩
    obtain ⟨D2t, D2g⟩ := A6.T.at_ne hD2
    have hD2H := A6.free hD2
    have hD2p : p ≠ D2 := ne_of_none hp6 hD2
    refine lc_list (K := K) (a := p) (xs := ss.map V.int) (fun i H' => At H H' t g (n + 3661 + 60 * i) ∧ H' p = some (.lst (ss.map V.int)) ∧ ∃ ns : List Int, H' D2 = some (.lst (ns.map V.int)) ∧ ns.length = i ∧ ∀ x ∈ ns, 0 ≤ x ∧ x ≤ L)
      ⟨(A6.new hD2).up (by omega), (upd_ne hD2p).trans hp6, [], upd_same, rfl, fun _ z => absurd z (by simp)⟩ (fun i H' _ ⟨_, h, _⟩ => SqL.of h) ?_ ?_
    · rintro i y H' hi ⟨A, hpk, ns2, hd, hl, hx2⟩
      have hi6 : i < 60 := by
        have := (List.getElem?_eq_some_iff.mp hi).1
        rw [List.length_map] at this; omega
      refine ⟨rfl, yes_ite ?_⟩
      refine ⟨_, rfl, _, rfl, _, _, rfl, rfl, t, g, n + 3661 + 60 * i, L + 1, rfl, A.T, by omega, lt_up (add_lt hLb (show (1 : Int).natAbs < 2 ^ 100 by decide)) (by decide), hb _ (by omega), fun H4 r r0 r1 T4 k4 => ?_⟩
      have hd2 := k4 _ _ hd D2t D2g
      refine ⟨_, hd2, small1000 (by simp; omega), ((A.step T4 k4).acc hD2H D2t D2g).up (by omega), (upd_ne hD2p).trans (k4 _ _ hpk pt pg), ns2 ++ [r], ?_, by simp [hl], fun x hx' => ?_⟩
      · rw [List.map_append]; exact upd_same
      · rcases List.mem_append.mp hx' with h | h
        · exact hx2 x h
        · rw [List.mem_singleton] at h; subst h; exact ⟨r0, by omega⟩
    rintro H7 ⟨A7, hp7, ns2, hd2, hnl2, hx2⟩
    rw [List.length_map] at A7 hnl2
    refine ⟨D2, ns2, rfl, SqL.of hd2, by omega, fun rs p2 hperm hsrt hp2 => ?_⟩
    have hrl : rs.length = ss.length := by rw [hperm.length_eq, hnl2]
    have hrs : ∀ x ∈ rs, 0 ≤ x ∧ x ≤ L := fun x hx' => hx2 x (hperm.mem_iff.mp hx')
    obtain ⟨p2t, p2g⟩ := A7.T.at_ne hp2
    have hp2p : p ≠ p2 := ne_of_none hp7 hp2
    have A8 : At H (upd H7 p2 (.lst (rs.map V.int))) t g (n + 8000) := (A7.new hp2).up (by omega)
    have hp8 : (upd H7 p2 (.lst (rs.map V.int))) p = some (.lst (ss.map V.int)) := (upd_ne hp2p).trans hp7
    have hq8 : (upd H7 p2 (.lst (rs.map V.int))) p2 = some (.lst (rs.map V.int)) := upd_same
    generalize upd H7 p2 (.lst (rs.map V.int)) = H8 at A8 hp8 hq8 ⊢
    refine ⟨_, rfl, p, _, rfl, .inl (SqL.of hp8), _, rfl, ?_, ?_, fun D3 hD3 => ?_⟩
    · exact Int.le_trans (by decide) (Int.natCast_nonneg _)
    · have : ((ss.map V.int).length : Int) ≤ 60 := by rw [List.length_map]; omega
      exact Int.lt_of_le_of_lt this (by decide)
    obtain ⟨D3t, D3g⟩ := A8.T.at_ne hD3
    have hD3H := A8.free hD3
    have hD3p : p ≠ D3 := ne_of_none hp8 hD3
    have hD3q : p2 ≠ D3 := ne_of_none hq8 hD3
    have hzl : (List.zipWith (fun s u => ((s, r - z + u) : Pr)) ss rs).length = ss.length := by rw [List.length_zipWith, hrl]; omega
    refine lc_range (lo := 0) (n := ((ss.map V.int).length : Int).toNat) (fun i H' => At H H' t g (n + 8000) ∧ H' p = some (.lst (ss.map V.int)) ∧ H' p2 = some (.lst (rs.map V.int)) ∧ ∃ vs, H' D3 = some (.lst vs) ∧ vs.length = i ∧ DpAll K H' vs (((List.zipWith (fun s u => ((s, r - z + u) : Pr)) ss rs).take i).map encP))
      ⟨A8.new hD3, (upd_ne hD3p).trans hp8, (upd_ne hD3q).trans hq8, [], upd_same, rfl, .nil⟩ ?_ ?_
    · rintro i H' hi ⟨A, hpk, hqk, vs, hd, hvl, hds⟩
      have hi' : i < ss.length := by simpa using hi
      have hss' : ss[i]? = some ss[i] := List.getElem?_eq_getElem hi'
      have hrs' : rs[i]? = some (rs[i]'(by omega)) := List.getElem?_eq_getElem (by omega)
      refine ⟨rfl, yes_ite ?_⟩
      refine ⟨_, rfl, _, rfl, p, _, _, .int ss[i], rfl, rfl, SqL.of hpk, at_of (j := i) (by simp) (by rw [List.getElem?_map, hss']; rfl), _, rfl, _, rfl, _, rfl, p2, _, _, .int (rs[i]'(by omega)), rfl, rfl, SqL.of hqk, at_of (j := i) (by simp) (by rw [List.getElem?_map, hrs']; rfl), _, _, rfl, rfl, (by show 2 ≤ sizeLine; decide), fun p4 hp4 => ?_⟩
      have S4 := same_upd (o := HO.tup [V.int ss[i], .int (r - z + rs[i]'(by omega))]) hp4
      have hd4 := S4 _ _ hd
      refine ⟨vs, hd4, small1000 (by omega), (A.new hp4).acc hD3H D3t D3g, (upd_ne hD3p).trans (S4 _ _ hpk), (upd_ne hD3q).trans (S4 _ _ hqk), _, upd_same, by simp [hvl], ?_⟩
      have hz : (List.zipWith (fun s u => ((s, r - z + u) : Pr)) ss rs)[i]? = some (ss[i], r - z + rs[i]'(by omega)) := by
        simp [List.getElem?_zipWith, hss', hrs']
      rw [take_snoc hz, List.map_append]
      exact acc_step hd4 (noLs_map noL_encP _) rfl (dpAll_mono S4 _ _ hds) (.tup (SqT.of upd_same) (.cons (.int _) (.cons (.int _) .nil)))
    · rintro H' ⟨A, hpk, hqk, vs, hd, hvl, hds⟩
      have e : ((ss.map V.int).length : Int).toNat = ss.length := by simp
      rw [e, List.take_of_length_le (by rw [hzl]; exact Nat.le_refl _)] at hds
      have hof : ∀ s ∈ List.zipWith (fun s u => ((s, r - z + u) : Pr)) ss rs, ∃ (i : Nat) (h1 : i < ss.length) (h2 : i < rs.length), s = (ss[i], r - z + rs[i]) := fun s hs => by
        obtain ⟨i, hi, e⟩ := List.getElem_of_mem hs
        rw [List.getElem_zipWith] at e
        rw [hzl] at hi
        exact ⟨i, hi, by omega, e.symm⟩
      refine k H' D3 _ hD3H A ⟨vs, hd, hds⟩ ⟨fun e => ?_, ?_, fun s hs => ?_, r - z, hbb, fun s hs => ?_⟩ (by rw [hzl]; omega)
      · have := congrArg List.length e
        rw [hzl] at this
        exact hssne (List.eq_nil_of_length_eq_zero this)
      · rw [List.pairwise_iff_getElem]
        intro i j hi hj hij
        rw [List.getElem_zipWith, List.getElem_zipWith]
        rw [hzl] at hi hj
        have h1 := (List.pairwise_iff_getElem.mp hpw) i j hi hj hij
        have h2 := (List.pairwise_iff_getElem.mp hsrt) i j (by omega) (by omega) hij
        exact ⟨h1, by show r - z + rs[i]'(by omega) ≤ r - z + rs[j]'(by omega); omega⟩
      · obtain ⟨i, h1, h2, rfl⟩ := hof s hs
        exact hss _ (List.getElem_mem h1)
      · obtain ⟨i, h1, h2, rfl⟩ := hof s hs
        have h3 := hrs _ (List.getElem_mem h2)
        exact ⟨by show r - z ≤ r - z + rs[i]; omega, by show r - z + rs[i] ≤ r - z + L; omega⟩
end
end KA
namespace KA
open PySem PySem.Spec PyProof.Rows L2 DP
theorem unlK {X : Cx} {K : PySem.W.Frag} {es : List Expr} {k : Nat} {t : TGs} {n : Nat} {pos : Pos} (hc : X.calm = true) (h1 : PGs X es t) (hn : (assignEach es X.env).length = n := by rfl) (hst : (assignEach es X.env).findIdx? (·.1) = none := by rfl) (h : X.K = K := by rfl) :
    PG X (.Tuple es k pos) (gUnl K n t) := by subst h; exact pg_unl hc h1 hn hst
theorem LAt.acc {K : PySem.W.Frag} {H : Hp} {p D : Addr} {ds : List PyData} {xs : List V} {o : HO} (h : LAt K H p ds) (hD : H D = some (.lst xs)) (hne : p ≠ D) (hn : noL.noLs ds = true) : LAt K (upd H D o) p ds := by
  obtain ⟨vs, a, b⟩ := h
  exact ⟨vs, (upd_ne hne).trans a, dpAll_tups (Tups.upd_lst hD) _ _ hn b⟩
/-- a look more, or none, behind a list of looks -/
theorem ext_step {K : PySem.W.Frag} {H H1 : Hp} {t g F p q : Addr} {n : Nat} {ls : List Lk} {prs : List Pr} {l : Lk} {xs zs pvs : List V} (c : Bool) (A : At H H1 t g n) (hF : H F = none) (Ft : F ≠ t) (Fg : F ≠ g) (hFp : p ≠ F)
    (h1 : H1 F = some (.lst xs)) (h2 : DpAll K H1 xs (ls.map encL)) (hp : LAt K H1 p (prs.map encP)) (hq : SqT K H1 q [.str l.1, .int l.2.1, .int l.2.2]) (hz : zs = if c = true then [V.ref q] else []) (hpp : H1 p = some (.lst pvs)) :
    At H (upd H1 F (.lst (xs ++ zs))) t g n ∧ (∃ vs, (upd H1 F (.lst (xs ++ zs))) F = some (.lst vs) ∧ DpAll K (upd H1 F (.lst (xs ++ zs))) vs ((ls ++ if c = true then [l] else []).map encL)) ∧ LAt K (upd H1 F (.lst (xs ++ zs))) p (prs.map encP) ∧ (upd H1 F (.lst (xs ++ zs))) p = some (.lst pvs) := by
  refine ⟨A.acc hF Ft Fg, ⟨xs ++ zs, upd_same, ?_⟩, hp.acc h1 hFp (noLs_map noL_encP prs), (upd_ne hFp).trans hpp⟩
  have h3 := dpAll_tups (Tups.upd_lst (o := .lst (xs ++ zs)) h1) _ _ (noLs_map noL_encL ls) h2
  rw [List.map_append]
  refine dpAll_app h3 ?_
  subst hz
  cases c with
  | false => exact .nil
  | true =>
    have h4 : Dp K H1 (.ref q) (encL l) := .tup hq (.cons (.str _) (.cons (.int _) (.cons (.int _) .nil)))
    exact .cons (dp_tups (Tups.upd_lst h1) _ _ (noL_encL l) h4) .nil
def spLooksOf (K : PySem.W.Frag) : Sp := fun vs H Q _ => ∃ (t g p : Addr) (n : Nat) (L : Int) (prs : List Pr), vs = [.ref t, .int L, .ref p] ∧ Tray H t g n ∧ n < 2 ^ 52 ∧ 0 < L ∧ L ≤ 10 ^ 30 ∧ LAt K H p (prs.map encP) ∧ p ≠ t ∧ p ≠ g ∧ prs.length ≤ 60 ∧
  ∀ (H' : Hp) (F : Addr) (ls : List Lk), H F = none → At H H' t g (n + 8000) → LAt K H' F (ls.map encL) → (∀ l ∈ ls, Said L prs l) → ls.length ≤ 3 * prs.length → Q (.ref F) H'
theorem len_if {l : Lk} (c : Prop) [Decidable c] : (if c then [l] else []).length ≤ 1 := by split <;> simp
theorem mem_if {a b : Lk} {c : Prop} [Decidable c] (h : a ∈ if c then [b] else []) : a = b := by
  split at h
  · exact List.mem_singleton.mp h
  · cases h
theorem w_af : ¬ (("at" : Str) = "from") := by decide +kernel
theorem w_au : ¬ (("at" : Str) = "upto") := by decide +kernel
theorem w_fa : ¬ (("from" : Str) = "at") := by decide +kernel
theorem w_fu : ¬ (("from" : Str) = "upto") := by decide +kernel
theorem w_ua : ¬ (("upto" : Str) = "at") := by decide +kernel
theorem w_uf : ¬ (("upto" : Str) = "from") := by decide +kernel
theorem rep_one {x : V} (c : Bool) : (List.replicate (if c = true then (1 : Int) else 0).toNat [x]).flatten = if c = true then [x] else [] := by cases c <;> rfl
theorem one_lo (c : Prop) [Decidable c] : -(2 ^ 63) ≤ (if c then (1 : Int) else 0) := by split <;> decide
theorem one_hi (c : Prop) [Decidable c] : (if c then (1 : Int) else 0) < 2 ^ 63 := by split <;> decide
theorem one_sz (c : Prop) [Decidable c] : 1 * (if c then (1 : Int) else 0).toNat ≤ sizeLine := by split <;> decide
theorem rep_len {x : V} (c : Prop) [Decidable c] : (List.replicate (if c then (1 : Int) else 0).toNat [x]).flatten.length ≤ 1 := by split <;> simp
section
variable {P : Program} {w : World} {K : PySem.W.Frag} {mg : Str → Option Value} {base : Heap} {Z : Ad}
theorem ok_law_looks (T : Tx K w mg Z) : FnOk P w K mg base CX0 3 Z.a_law_looks Z.d_law_looks P_law_looks (spLooksOf K) := by
  refine T.F_law_looks.ok sclaw_looks (fun vs H Q E h => ?_) (fun cdv A outer s H vs Q E hr h => ?_)
  · obtain ⟨t, g, p, n, L, prs, rfl, _⟩ := h
    rfl
  · obtain ⟨t, g, p, n, L, prs, rfl, hT, hn, hL, hL30, hp, hpt, hpg, hlen, k⟩ := h
    have hLb := bigL hL hL30
    have hb : ∀ m, m ≤ n + 8000 → m < 2 ^ 59 := fun m hm => Nat.lt_of_le_of_lt hm (Nat.lt_of_lt_of_le (Nat.add_lt_add_right hn 8000) (by decide))
    have hb' : ∀ m, m ≤ n + 8000 → m < 2 ^ 60 := fun m hm => Nat.lt_trans (hb m hm) (by decide)
    have A0 : At H H t g n := ⟨hT, Keep.refl _ _ _⟩
    have nl := noLs_map noL_encP prs
    refine ⟨_, (pss_cons (ps_set (i := 3) sclaw_looks.nd rfl (Or.inl rfl) (pe_lst pa_nil))
      (pss_cons (ps_for PassesOwn.never rfl (pi_list (pv 2)) (tupK (K := K) (by rfl) (pgs_cons (pg_name (i := 4) sclaw_looks.nd rfl (Or.inl rfl)) (pgs_cons (pg_name (i := 5) sclaw_looks.nd rfl (Or.inl rfl)) pgs_nil))) (pss_cons (ps_set (i := 6) sclaw_looks.nd rfl (Or.inl rfl) (pe_call (ok_law_take T) (hr.mono (by decide)) (by rfl) T.g_law_take T.F_law_take.kp T.bb_law_take .nil pass0 (pa_cons (pv 0) (pa_cons pe_int pa_nil))))
      (pss_cons (ps_asg (pe_lc (own := [("turn", 9)]) (g := gName 9) (tt := tYes) rfl sclaw_looks.nd (pi_range1 (by rfl) T.b_range (pa_cons pe_int pa_nil)) (blkOk_by (own := [("turn", 9)]) (N := N_law_looks) (sc := defScope slaw_looks) (by decide +kernel)) (fun _ _ _ _ _ => (pg_name (i := 9) sclaw_looks.nd rfl (Or.inl rfl))) (fun _ _ _ _ _ => pts_nil) (fun _ _ _ _ _ => (pe_ix (ixL (K := K)) (pe_lst (pa_cons pe_int (pa_cons pe_int (pa_cons (pe_call (ok_law_below T) (hr.mono (by decide)) (by rfl) T.g_law_below T.F_law_below.kp T.bb_law_below .nil pass0 (pa_cons (pv 0) (pa_cons (pv 1) pa_nil))) pa_nil)))) (pe_call (ok_law_take T) (hr.mono (by decide)) (by rfl) T.g_law_take T.F_law_take.kp T.bb_law_take .nil pass0 (pa_cons (pv 0) (pa_cons pe_int pa_nil))) (fun _ _ => rfl)))) (unlK (K := K) (by rfl) (pgs_cons (pg_name (i := 7) sclaw_looks.nd rfl (Or.inl rfl)) (pgs_cons (pg_name (i := 8) sclaw_looks.nd rfl (Or.inl rfl)) pgs_nil))))
      (pss_cons (ps_expr (pe_bm PySem.F.plainAttrs_list PySem.F.slot_list_extend PySem.F.type_list_extend mt_extend (pv 3) (pa_cons (pe_op op_rep (pe_lst (pa_cons (pe_tup (pa_cons pe_str (pa_cons (pv 4) (pa_cons (pv 5) pa_nil)))) pa_nil)) (pe_callTy call_int1 (by rfl) T.b_int (by decide +kernel) (pa_cons (pe_cmpR op_lt (pv 6) pe_int (nomark _)) pa_nil))) pa_nil)))
      (pss_cons (ps_expr (pe_bm PySem.F.plainAttrs_list PySem.F.slot_list_extend PySem.F.type_list_extend mt_extend (pv 3) (pa_cons (pe_op op_rep (pe_lst (pa_cons (pe_tup (pa_cons pe_str (pa_cons (pv 4) (pa_cons (pe_op op_sub (pv 5) (pv 7)) pa_nil)))) pa_nil)) (pe_callTy call_int1 (by rfl) T.b_int (by decide +kernel) (pa_cons (pe_cmpR (inS (K := K)) (pv 6) (pe_lst (pa_cons pe_int (pa_cons pe_int pa_nil))) (by rfl)) pa_nil))) pa_nil)))
      (pss_one (ps_expr (pe_bm PySem.F.plainAttrs_list PySem.F.slot_list_extend PySem.F.type_list_extend mt_extend (pv 3) (pa_cons (pe_op op_rep (pe_lst (pa_cons (pe_tup (pa_cons pe_str (pa_cons (pv 4) (pa_cons (pe_op op_add (pv 5) (pv 8)) pa_nil)))) pa_nil)) (pe_callTy call_int1 (by rfl) T.b_int (by decide +kernel) (pa_cons (pe_cmpR (inS (K := K)) (pv 6) (pe_lst (pa_cons pe_int (pa_cons pe_int pa_nil))) (by rfl)) pa_nil))) pa_nil)))))))))
      (pss_one (ps_ret (pv 3))))), ?_⟩
    refine ⟨(by show 0 ≤ sizeLine; decide), fun F hF => ?_⟩
    obtain ⟨Ft, Fg⟩ := hT.at_ne hF
    have A1 := A0.new (o := HO.lst []) hF
    have hp1 := hp.same (same_upd (o := HO.lst []) hF)
    have hpF : p ≠ F := by
      obtain ⟨vs, e, _⟩ := hp
      exact ne_of_none e hF
    have hpx : ∃ pvs, H p = some (.lst pvs) ∧ DpAll K H pvs (prs.map encP) := hp
    obtain ⟨pvs, hpv1, hpv2⟩ := hpx
    have hpl : pvs.length = prs.length := by rw [dpAll_len hpv2, List.length_map]
    refine ⟨_, rfl, p, rfl, ⟨pvs, SqL.of ((upd_ne hpF).trans hpv1)⟩, ?_⟩
    refine for_list (K := K) (a := p) (xs := pvs) (fun i σ' H' => ∃ (u4 u5 u6 u7 u8 u9 : Option V) (ls : List Lk), σ' = [some (.ref t), some (.int L), some (.ref p), some (.ref F), u4, u5, u6, u7, u8, u9] ∧ At H H' t g (n + 130 * i) ∧ (∃ vs, H' F = some (.lst vs) ∧ DpAll K H' vs (ls.map encL)) ∧ LAt K H' p (prs.map encP) ∧ H' p = some (.lst pvs) ∧ (∀ l ∈ ls, Said L prs l) ∧ ls.length ≤ 3 * i)
      ⟨_, _, _, _, _, _, [], rfl, A1, ⟨[], upd_same, .nil⟩, hp1, (upd_ne hpF).trans hpv1, (fun _ z => absurd z (by simp)), Nat.zero_le _⟩ (fun i σ' H' _ ⟨_, _, _, _, _, _, _, _, _, _, _, e, _⟩ => SqL.of e) ?_ ?_
    · rintro i y σ' H2 hi ⟨u4, u5, u6, u7, u8, u9, ls, rfl, A2, ⟨vs2, hf2, hd2⟩, hp2, hpp2, hsaid, hlsl⟩
      have hi' : i < prs.length := by
        have := (List.getElem?_eq_some_iff.mp hi).1
        omega
      obtain ⟨pv2, hq1, hq2⟩ := id hp2
      rw [hpp2] at hq1
      obtain rfl : pvs = pv2 := by
        injection hq1 with e
        injection e
      obtain ⟨d, hdi, hdy⟩ := dpAll_get hq2 hi
      obtain ⟨s, hs, rfl⟩ := map_at hdi
      have hsm := List.mem_of_getElem? hs
      obtain ⟨a, rfl, hsq⟩ := dp_pair hdy
      refine ⟨_, _, rfl, hsq, rfl, _, _, rfl, _, _, rfl, rfl, ?_⟩
      refine ⟨_, rfl, t, g, n + 130 * i, 6, rfl, A2.T, by decide, by decide, hb' _ (by omega), fun H3 way w0 w1 T3 k3 => ?_⟩
      have A3 := A2.step T3 k3
      have hf3 := k3 _ _ hf2 Ft Fg
      have hd3 := dpAll_tups (Keep.tups A2.T k3) _ _ (noLs_map noL_encL ls) hd2
      have hp3 := hp2.keep A2.T k3 hpt hpg nl
      have hpp3 := k3 _ _ hpp2 hpt hpg
      refine ⟨2, rfl, by decide, by decide, fun D hD => ?_⟩
      obtain ⟨Dt, Dg⟩ := A3.T.at_ne hD
      have hDH := A3.free hD
      have hDF : F ≠ D := ne_of_none hf3 hD
      have hDp : p ≠ D := ne_of_none hpp3 hD
      have hDa : ∀ b zs, (Rd H3 b (.tup zs)) → Rd (upd H3 D (.lst [])) b (.tup zs) := Tups.of_same (same_upd hD)
      refine lc_range (lo := 0) (n := 2) (fun i' H' => At H H' t g (n + 130 * i + 1 + 61 * i') ∧ H' F = some (.lst vs2) ∧ DpAll K H' vs2 (ls.map encL) ∧ LAt K H' p (prs.map encP) ∧ H' p = some (.lst pvs) ∧ ∃ ns : List Int, H' D = some (.lst (ns.map V.int)) ∧ ns.length = i' ∧ ∀ x ∈ ns, 0 ≤ x ∧ x ≤ L)
        ⟨(A3.new hD).up (by omega), (upd_ne hDF).trans hf3, dpAll_mono (same_upd hD) _ _ hd3, hp3.same (same_upd hD), (upd_ne hDp).trans hpp3, [], upd_same, rfl, fun _ z => absurd z (by simp)⟩ ?_ ?_
      · rintro i' H4 hi2 ⟨A4, hf4, hd4, hp4, hpp4, ns, hn4, hnl, hnx⟩
        refine ⟨rfl, yes_ite ?_⟩
        refine ⟨_, rfl, _, rfl, t, g, n + 130 * i + 1 + 61 * i', L, rfl, A4.T, hL, lt_up hLb (by decide), hb _ (by omega), fun H5 r r0 r1 T5 k5 => ?_⟩
        have A5 := A4.step T5 k5
        refine ⟨(by show 3 ≤ sizeLine; decide), fun q hq => ?_⟩
        obtain ⟨qt, qg⟩ := A5.T.at_ne hq
        have A6 := A5.new (o := HO.lst [V.int 0, .int 1, .int r]) hq
        have Sq := same_upd (o := HO.lst [V.int 0, .int 1, .int r]) hq
        refine ⟨_, rfl, t, g, n + 130 * i + 61 + 61 * i', 3, rfl, A6.T.up (by omega), by decide, by decide, hb' _ (by omega), fun H7 j j0 j1 T7 k7 => ?_⟩
        have A7 := A6.step T7 k7
        obtain ⟨z, hz, hz0, hz1⟩ : ∃ z : Int, atI [V.int 0, .int 1, .int r] j = some (.int z) ∧ 0 ≤ z ∧ z ≤ L := by
          have : j = 0 ∨ j = 1 ∨ j = 2 := by omega
          rcases this with e | e | e <;> subst e
          · exact ⟨0, rfl, by omega, by omega⟩
          · exact ⟨1, rfl, by omega, by omega⟩
          · exact ⟨r, rfl, r0, by omega⟩
        refine ⟨q, _, _, _, rfl, rfl, SqL.of (k7 _ _ upd_same qt qg), hz, ?_⟩
        have up7 : ∀ b o, H4 b = some o → b ≠ t → b ≠ g → H7 b = some o := fun b o e n1 n2 => k7 _ _ (Sq _ _ (k5 _ _ e n1 n2)) n1 n2
        have t7 : Tups H4 H7 := (Keep.tups A4.T k5).trans ((Tups.of_same Sq).trans (Keep.tups A6.T k7))
        have hn7 := up7 _ _ hn4 Dt Dg
        have hp7 := ((hp4.keep A4.T k5 hpt hpg nl).same Sq).keep A6.T k7 hpt hpg nl
        refine ⟨_, hn7, small1000 (by simp; omega), (A7.acc hDH Dt Dg).up (by omega), (upd_ne hDF).trans (up7 _ _ hf4 Ft Fg), dpAll_tups (Tups.upd_lst hn7) _ _ (noLs_map noL_encL ls) (dpAll_tups t7 _ _ (noLs_map noL_encL ls) hd4), hp7.acc hn7 hDp nl, (upd_ne hDp).trans (up7 _ _ hpp4 hpt hpg), ns ++ [z], ?_, by simp [hnl], fun x hx' => ?_⟩
        · rw [List.map_append]; exact upd_same
        · rcases List.mem_append.mp hx' with h | h
          · exact hnx x h
          · rw [List.mem_singleton] at h; subst h; exact ⟨hz0, hz1⟩
      rintro H4 ⟨A4, hf4, hd4, hp4, hpp4, ns, hn4, hnl, hnx⟩
      obtain ⟨sh, mo, rfl⟩ : ∃ a b, ns = [a, b] := by
        cases ns with
        | nil => simp at hnl
        | cons a r =>
          cases r with
          | nil => simp at hnl
          | cons b r =>
            cases r with
            | nil => exact ⟨a, b, rfl⟩
            | cons _ _ => simp at hnl
      have hsh := hnx sh (by simp)
      have hmo := hnx mo (by simp)
      refine ⟨D, _, rfl, SqL.of hn4, rfl, _, _, rfl, _, _, rfl, rfl, ?_⟩
      have A4' : At H H4 t g (n + 130 * (i + 1)) := A4.up (by omega)
      have hlen4 : ls.length ≤ 3 * i := hlsl
      -- at
      refine ⟨_, rfl, .inl ⟨rfl, _, SqL.of hf4⟩, _, rfl, _, rfl, (by show 3 ≤ sizeLine; decide), fun q hq => ?_⟩
      have S5 := same_upd (o := HO.tup [V.str "at", .int s.1, .int (s.2)]) hq
      have gq : (upd H4 q (HO.tup [V.str "at", .int s.1, .int (s.2)])) q = some (HO.tup [V.str "at", .int s.1, .int (s.2)]) := upd_same
      generalize upd H4 q (HO.tup [V.str "at", .int s.1, .int (s.2)]) = Hq at S5 gq ⊢
      refine ⟨(by show 1 ≤ sizeLine; decide), fun l hl => ?_⟩
      have S6 := S5.trans (same_upd (o := HO.lst [V.ref q]) hl)
      have gq2 := (same_upd (o := HO.lst [V.ref q]) hl) _ _ gq
      have gl : (upd Hq l (HO.lst [V.ref q])) l = some (HO.lst [V.ref q]) := upd_same
      generalize upd Hq l (HO.lst [V.ref q]) = Hl at S6 gq2 gl ⊢
      refine ⟨_, rfl, _, _, rfl, rfl, .inr ⟨_, rfl, ?_⟩⟩
      refine ⟨l, _, [.ref q], rfl, rfl, gl, one_lo _, one_hi _, one_sz _, fun r hr => ?_⟩
      have S8 := S6.trans (same_upd (o := HO.lst (List.replicate (if decide (way < 3) = true then (1 : Int) else 0).toNat [V.ref q]).flatten) hr)
      have gq4 := (same_upd (o := HO.lst (List.replicate (if decide (way < 3) = true then (1 : Int) else 0).toNat [V.ref q]).flatten) hr) _ _ gq2
      have gr : (upd Hl r (HO.lst (List.replicate (if decide (way < 3) = true then (1 : Int) else 0).toNat [V.ref q]).flatten)) r = some (HO.lst (List.replicate (if decide (way < 3) = true then (1 : Int) else 0).toNat [V.ref q]).flatten) := upd_same
      generalize upd Hl r (HO.lst (List.replicate (if decide (way < 3) = true then (1 : Int) else 0).toNat [V.ref q]).flatten) = Hr at S8 gq4 gr ⊢
      have A5 := A4'.sm S8
      have hf5 := S8 _ _ hf4
      have hd5 := dpAll_mono S8 _ _ hd4
      have hp5 := hp4.same S8
      have hpp5 := S8 _ _ hpp4
      refine ⟨F, r, _, _, rfl, rfl, hf5, gr, ?_, ?_⟩
      · have e1 := dpAll_len hd5
        have e2 : ((List.replicate (if decide (way < 3) = true then (1 : Int) else 0).toNat [V.ref q]).flatten).length ≤ 1 := rep_len _
        rw [List.length_map] at e1
        have e3 := hlen4
        exact Nat.le_of_lt (small1000 (by omega))
      have E6 := ext_step (l := ("at", s.1, s.2)) (decide (way < 3)) A5 hF Ft Fg hpF hf5 hd5 hp5 (SqT.of gq4) (rep_one _) hpp5
      have A6 := E6.1
      have hfd := E6.2.1
      have hp6 := E6.2.2.1
      have hpp6 := E6.2.2.2
      generalize upd Hr F (HO.lst (vs2 ++ (List.replicate (if decide (way < 3) = true then (1 : Int) else 0).toNat [V.ref q]).flatten)) = H6 at E6 A6 hfd hp6 hpp6 ⊢
      obtain ⟨vs6, hf6, hd6⟩ := hfd
      have hlen6 : (ls ++ (if decide (way < 3) = true then [(("at", s.1, s.2) : Lk)] else [])).length ≤ 3 * i + 1 := by
        rw [List.length_append]
        have e3 := hlen4
        have e4 := len_if (l := ("at", s.1, s.2)) (decide (way < 3) = true)
        omega
      -- from
      refine ⟨_, rfl, .inl ⟨rfl, _, SqL.of hf6⟩, _, rfl, _, rfl, _, rfl, _, _, rfl, rfl, (by show 3 ≤ sizeLine; decide), fun q hq => ?_⟩
      dsimp only
      have S5 := same_upd (o := HO.tup [V.str "from", .int s.1, .int (s.2 - sh)]) hq
      have gq : (upd H6 q (HO.tup [V.str "from", .int s.1, .int (s.2 - sh)])) q = some (HO.tup [V.str "from", .int s.1, .int (s.2 - sh)]) := upd_same
      generalize upd H6 q (HO.tup [V.str "from", .int s.1, .int (s.2 - sh)]) = Hq at S5 gq ⊢
      refine ⟨(by show 1 ≤ sizeLine; decide), fun l hl => ?_⟩
      have S6 := S5.trans (same_upd (o := HO.lst [V.ref q]) hl)
      have gq2 := (same_upd (o := HO.lst [V.ref q]) hl) _ _ gq
      have gl : (upd Hq l (HO.lst [V.ref q])) l = some (HO.lst [V.ref q]) := upd_same
      generalize upd Hq l (HO.lst [V.ref q]) = Hl at S6 gq2 gl ⊢
      refine ⟨_, rfl, (by show 2 ≤ sizeLine; decide), fun w2 hw2 => ?_⟩
      have S7 := S6.trans (same_upd (o := HO.lst [V.int 3, .int 5]) hw2)
      have gq3 := (same_upd (o := HO.lst [V.int 3, .int 5]) hw2) _ _ gq2
      have gl3 := (same_upd (o := HO.lst [V.int 3, .int 5]) hw2) _ _ gl
      have gw : (upd Hl w2 (HO.lst [V.int 3, .int 5])) w2 = some (HO.lst [V.int 3, .int 5]) := upd_same
      generalize upd Hl w2 (HO.lst [V.int 3, .int 5]) = Hw at S7 gq3 gl3 gw ⊢
      refine ⟨w2, _, rfl, .inl (SqL.of gw), rfl, rfl, .inr ⟨_, rfl, ?_⟩⟩
      refine ⟨l, _, [.ref q], rfl, rfl, gl3, one_lo _, one_hi _, one_sz _, fun r hr => ?_⟩
      have S8 := S7.trans (same_upd (o := HO.lst (List.replicate (if (if false = true then !inV (V.int way) [V.int 3, V.int 5] else inV (V.int way) [V.int 3, V.int 5]) = true then (1 : Int) else 0).toNat [V.ref q]).flatten) hr)
      have gq4 := (same_upd (o := HO.lst (List.replicate (if (if false = true then !inV (V.int way) [V.int 3, V.int 5] else inV (V.int way) [V.int 3, V.int 5]) = true then (1 : Int) else 0).toNat [V.ref q]).flatten) hr) _ _ gq3
      have gr : (upd Hw r (HO.lst (List.replicate (if (if false = true then !inV (V.int way) [V.int 3, V.int 5] else inV (V.int way) [V.int 3, V.int 5]) = true then (1 : Int) else 0).toNat [V.ref q]).flatten)) r = some (HO.lst (List.replicate (if (if false = true then !inV (V.int way) [V.int 3, V.int 5] else inV (V.int way) [V.int 3, V.int 5]) = true then (1 : Int) else 0).toNat [V.ref q]).flatten) := upd_same
      generalize upd Hw r (HO.lst (List.replicate (if (if false = true then !inV (V.int way) [V.int 3, V.int 5] else inV (V.int way) [V.int 3, V.int 5]) = true then (1 : Int) else 0).toNat [V.ref q]).flatten) = Hr at S8 gq4 gr ⊢
      have A5 := A6.sm S8
      have hf5 := S8 _ _ hf6
      have hd5 := dpAll_mono S8 _ _ hd6
      have hp5 := hp6.same S8
      have hpp5 := S8 _ _ hpp6
      refine ⟨F, r, _, _, rfl, rfl, hf5, gr, ?_, ?_⟩
      · have e1 := dpAll_len hd5
        have e2 : ((List.replicate (if (if false = true then !inV (V.int way) [V.int 3, V.int 5] else inV (V.int way) [V.int 3, V.int 5]) = true then (1 : Int) else 0).toNat [V.ref q]).flatten).length ≤ 1 := rep_len _
        rw [List.length_map] at e1
        have e3 := hlen6
        exact Nat.le_of_lt (small1000 (by omega))
      have E8 := ext_step (l := ("from", s.1, s.2 - sh)) ((if false = true then !inV (V.int way) [V.int 3, V.int 5] else inV (V.int way) [V.int 3, V.int 5])) A5 hF Ft Fg hpF hf5 hd5 hp5 (SqT.of gq4) (rep_one _) hpp5
      have A8 := E8.1
      have hfd := E8.2.1
      have hp8 := E8.2.2.1
      have hpp8 := E8.2.2.2
      generalize upd Hr F (HO.lst (vs6 ++ (List.replicate (if (if false = true then !inV (V.int way) [V.int 3, V.int 5] else inV (V.int way) [V.int 3, V.int 5]) = true then (1 : Int) else 0).toNat [V.ref q]).flatten)) = H8 at E8 A8 hfd hp8 hpp8 ⊢
      obtain ⟨vs8, hf8, hd8⟩ := hfd
      have hlen8 : ((ls ++ (if decide (way < 3) = true then [(("at", s.1, s.2) : Lk)] else [])) ++ (if (if false = true then !inV (V.int way) [V.int 3, V.int 5] else inV (V.int way) [V.int 3, V.int 5]) = true then [(("from", s.1, s.2 - sh) : Lk)] else [])).length ≤ 3 * i + 2 := by
        rw [List.length_append]
        have e3 := hlen6
        have e4 := len_if (l := ("from", s.1, s.2 - sh)) ((if false = true then !inV (V.int way) [V.int 3, V.int 5] else inV (V.int way) [V.int 3, V.int 5]) = true)
        omega
      -- upto
      refine ⟨_, rfl, .inl ⟨rfl, _, SqL.of hf8⟩, _, rfl, _, rfl, _, rfl, _, _, rfl, rfl, (by show 3 ≤ sizeLine; decide), fun q hq => ?_⟩
      dsimp only
      have S5 := same_upd (o := HO.tup [V.str "upto", .int s.1, .int (s.2 + mo)]) hq
      have gq : (upd H8 q (HO.tup [V.str "upto", .int s.1, .int (s.2 + mo)])) q = some (HO.tup [V.str "upto", .int s.1, .int (s.2 + mo)]) := upd_same
      generalize upd H8 q (HO.tup [V.str "upto", .int s.1, .int (s.2 + mo)]) = Hq at S5 gq ⊢
      refine ⟨(by show 1 ≤ sizeLine; decide), fun l hl => ?_⟩
      have S6 := S5.trans (same_upd (o := HO.lst [V.ref q]) hl)
      have gq2 := (same_upd (o := HO.lst [V.ref q]) hl) _ _ gq
      have gl : (upd Hq l (HO.lst [V.ref q])) l = some (HO.lst [V.ref q]) := upd_same
      generalize upd Hq l (HO.lst [V.ref q]) = Hl at S6 gq2 gl ⊢
      refine ⟨_, rfl, (by show 2 ≤ sizeLine; decide), fun w2 hw2 => ?_⟩
      have S7 := S6.trans (same_upd (o := HO.lst [V.int 4, .int 5]) hw2)
      have gq3 := (same_upd (o := HO.lst [V.int 4, .int 5]) hw2) _ _ gq2
      have gl3 := (same_upd (o := HO.lst [V.int 4, .int 5]) hw2) _ _ gl
      have gw : (upd Hl w2 (HO.lst [V.int 4, .int 5])) w2 = some (HO.lst [V.int 4, .int 5]) := upd_same
      generalize upd Hl w2 (HO.lst [V.int 4, .int 5]) = Hw at S7 gq3 gl3 gw ⊢
      refine ⟨w2, _, rfl, .inl (SqL.of gw), rfl, rfl, .inr ⟨_, rfl, ?_⟩⟩
      refine ⟨l, _, [.ref q], rfl, rfl, gl3, one_lo _, one_hi _, one_sz _, fun r hr => ?_⟩
      have S8 := S7.trans (same_upd (o := HO.lst (List.replicate (if (if false = true then !inV (V.int way) [V.int 4, V.int 5] else inV (V.int way) [V.int 4, V.int 5]) = true then (1 : Int) else 0).toNat [V.ref q]).flatten) hr)
      have gq4 := (same_upd (o := HO.lst (List.replicate (if (if false = true then !inV (V.int way) [V.int 4, V.int 5] else inV (V.int way) [V.int 4, V.int 5]) = true then (1 : Int) else 0).toNat [V.ref q]).flatten) hr) _ _ gq3
      have gr : (upd Hw r (HO.lst (List.replicate (if (if false = true then !inV (V.int way) [V.int 4, V.int 5] else inV (V.int way) [V.int 4, V.int 5]) = true then (1 : Int) else 0).toNat [V.ref q]).flatten)) r = some (HO.lst (List.replicate (if (if false = true then !inV (V.int way) [V.int 4, V.int 5] else inV (V.int way) [V.int 4, V.int 5]) = true then (1 : Int) else 0).toNat [V.ref q]).flatten) := upd_same
      generalize upd Hw r (HO.lst (List.replicate (if (if false = true then !inV (V.int way) [V.int 4, V.int 5] else inV (V.int way) [V.int 4, V.int 5]) = true then (1 : Int) else 0).toNat [V.ref q]).flatten) = Hr at S8 gq4 gr ⊢
      have A5 := A8.sm S8
      have hf5 := S8 _ _ hf8
      have hd5 := dpAll_mono S8 _ _ hd8
      have hp5 := hp8.same S8
      have hpp5 := S8 _ _ hpp8
      refine ⟨F, r, _, _, rfl, rfl, hf5, gr, ?_, ?_⟩
      · have e1 := dpAll_len hd5
        have e2 : ((List.replicate (if (if false = true then !inV (V.int way) [V.int 4, V.int 5] else inV (V.int way) [V.int 4, V.int 5]) = true then (1 : Int) else 0).toNat [V.ref q]).flatten).length ≤ 1 := rep_len _
        rw [List.length_map] at e1
        have e3 := hlen8
        exact Nat.le_of_lt (small1000 (by omega))
      have E10 := ext_step (l := ("upto", s.1, s.2 + mo)) ((if false = true then !inV (V.int way) [V.int 4, V.int 5] else inV (V.int way) [V.int 4, V.int 5])) A5 hF Ft Fg hpF hf5 hd5 hp5 (SqT.of gq4) (rep_one _) hpp5
      have A10 := E10.1
      have hfd := E10.2.1
      have hp10 := E10.2.2.1
      have hpp10 := E10.2.2.2
      generalize upd Hr F (HO.lst (vs8 ++ (List.replicate (if (if false = true then !inV (V.int way) [V.int 4, V.int 5] else inV (V.int way) [V.int 4, V.int 5]) = true then (1 : Int) else 0).toNat [V.ref q]).flatten)) = H10 at E10 A10 hfd hp10 hpp10 ⊢
      obtain ⟨vs10, hf10, hd10⟩ := hfd
      have hlen10 : (((ls ++ (if decide (way < 3) = true then [(("at", s.1, s.2) : Lk)] else [])) ++ (if (if false = true then !inV (V.int way) [V.int 3, V.int 5] else inV (V.int way) [V.int 3, V.int 5]) = true then [(("from", s.1, s.2 - sh) : Lk)] else [])) ++ (if (if false = true then !inV (V.int way) [V.int 4, V.int 5] else inV (V.int way) [V.int 4, V.int 5]) = true then [(("upto", s.1, s.2 + mo) : Lk)] else [])).length ≤ 3 * i + 3 := by
        rw [List.length_append]
        have e3 := hlen8
        have e4 := len_if (l := ("upto", s.1, s.2 + mo)) ((if false = true then !inV (V.int way) [V.int 4, V.int 5] else inV (V.int way) [V.int 4, V.int 5]) = true)
        omega
      refine ⟨_, _, _, _, _, _, _, rfl, A10, ⟨vs10, hf10, hd10⟩, hp10, hpp10, fun l hl => ?_, by omega⟩
      rcases List.mem_append.mp hl with hl | hl
      · rcases List.mem_append.mp hl with hl | hl
        · rcases List.mem_append.mp hl with hl | hl
          · exact hsaid l hl
          · rw [mem_if hl]
            exact ⟨.inl rfl, s, hsm, rfl, fun _ => rfl, fun e => absurd e w_af, fun e => absurd e w_au⟩
        · rw [mem_if hl]
          exact ⟨.inr (.inl rfl), s, hsm, rfl, fun e => absurd e w_fa, fun _ => ⟨by show s.2 - sh ≤ s.2; omega, by show s.2 ≤ s.2 - sh + L; omega⟩, fun e => absurd e w_fu⟩
      · rw [mem_if hl]
        exact ⟨.inr (.inr rfl), s, hsm, rfl, fun e => absurd e w_ua, fun e => absurd e w_uf, fun _ => ⟨by show s.2 ≤ s.2 + mo; omega, by show s.2 + mo ≤ s.2 + L; omega⟩⟩
    · rintro σ' H' ⟨u4, u5, u6, u7, u8, u9, ls, rfl, A2, ⟨vs2, hf2, hd2⟩, hp2, hpp2, hsaid, hlsl⟩
      refine ⟨_, rfl, k H' F ls hF (A2.up (by omega)) ⟨vs2, hf2, hd2⟩ hsaid (by omega)⟩
end
end KA
namespace KA
open PySem PySem.Spec PyProof.Rows L2 DP
/-- several Darks -/
def DarksAt (Z : Ad) (K : PySem.W.Frag) (H : Hp) (ds : List Addr) (L : Int) (hs : List (List Lk)) (t g : Addr) : Prop := Darks Z K H ds L hs ∧ ∀ d ∈ ds, Off Z H d L t g
theorem DarksAt.keep {Z : Ad} {K : PySem.W.Frag} {H H' : Hp} {t g : Addr} {ds : List Addr} {n : Nat} {L : Int} {hs : List (List Lk)} (D : DarksAt Z K H ds L hs t g) (T : Tray H t g n) (k : Keep t g H H') : DarksAt Z K H' ds L hs t g :=
  ⟨⟨D.1.1, fun i d ls h1 h2 => ((D.1.2 i d ls h1 h2).keep T k (D.2 d (List.mem_of_getElem? h1))).1⟩, fun d hd => by
    obtain ⟨i, hi, rfl⟩ := List.getElem_of_mem hd
    obtain ⟨ls, _, DD⟩ := D.1.get (List.getElem?_eq_getElem hi)
    exact (DD.keep T k (D.2 _ hd)).2⟩
theorem DarksAt.same {Z : Ad} {K : PySem.W.Frag} {H H' : Hp} {t g : Addr} {ds : List Addr} {L : Int} {hs : List (List Lk)} (D : DarksAt Z K H ds L hs t g) (S : Same H H') : DarksAt Z K H' ds L hs t g :=
  ⟨D.1.same S, fun d hd => by
    obtain ⟨i, hi, rfl⟩ := List.getElem_of_mem hd
    obtain ⟨ls, _, DD⟩ := D.1.get (List.getElem?_eq_getElem hi)
    exact (D.2 _ hd).same DD S⟩
theorem DarksAt.acc {Z : Ad} {K : PySem.W.Frag} {H : Hp} {t g D : Addr} {ds : List Addr} {L : Int} {hs : List (List Lk)} {xs : List V} {o : HO} (h : DarksAt Z K H ds L hs t g) (hD : H D = some (.lst xs)) (hne : ∀ d ∈ ds, ∀ la dx, H d = some (.ins Z.C dx (df L la)) → la ≠ D) : DarksAt Z K (upd H D o) ds L hs t g ∧ ∀ d ∈ ds, ∀ la dx, (upd H D o) d = some (.ins Z.C dx (df L la)) → la ≠ D := by
  have hdD : ∀ d ∈ ds, d ≠ D := fun d hd e => by
    obtain ⟨i, hi, e1⟩ := List.getElem_of_mem hd
    obtain ⟨ls, _, DD⟩ := h.1.get (show ds[i]? = some d by rw [List.getElem?_eq_getElem hi, e1])
    obtain ⟨dx', la', _, h1, _⟩ := DD.ex
    rw [e, hD] at h1; cases h1
  refine ⟨⟨⟨h.1.1, fun i d ls h1 h2 => ?_⟩, fun d hd la dx e => ?_⟩, fun d hd la dx e => ?_⟩
  · have DD := h.1.2 i d ls h1 h2
    have hm := List.mem_of_getElem? h1
    obtain ⟨dx, la, vs, e1, e2, e3⟩ := DD.ex
    exact ⟨⟨dx, la, vs, (upd_ne (hdD d hm)).trans e1, (upd_ne (hne d hm la dx e1)).trans e2, dpAll_tups (Tups.upd_lst hD) _ _ (noLs_map noL_encL ls) e3⟩, DD.pos, DD.big, DD.ok, DD.len⟩
  · rw [upd_ne (hdD d hd)] at e
    exact h.2 d hd la dx e
  · rw [upd_ne (hdD d hd)] at e
    exact hne d hd la dx e
def spDarkOf (Z : Ad) (K : PySem.W.Frag) : Sp := fun vs H Q _ => ∃ (t g : Addr) (v : V) (n : Nat) (L : Int) (ls : List Lk), vs = [.ref t, .int L, v] ∧ Tray H t g n ∧ n < 2 ^ 55 ∧ Dp K H v (.list (ls.map encL)) ∧ v ≠ .ref t ∧ v ≠ .ref g ∧ 0 < L ∧ L.natAbs < 2 ^ 100 ∧ (∀ l ∈ ls, WordOk l.1 ∧ Sized 270 l) ∧ (∀ a ∈ ls, ∀ b ∈ ls, clashB a b L = false) ∧ ls.length ≤ 58 ∧
  ∀ (H' : Hp) (d : Addr), H d = none → At H H' t g (n + ls.length) → DarkAt Z K H' d L (ls.foldl (heard L) []) → (∀ la dx, H' d = some (.ins Z.C dx (df L la)) → H la = none) → Q (.ref d) H'
/-- a list, not the deck, under the deck's draws -/
theorem sqL_keep {K : PySem.W.Frag} {H H' : Hp} {t g a : Addr} {n : Nat} {xs : List V} (h : SqL K H a xs) (k : Keep t g H H') (h1 : a ≠ t) (h2 : a ≠ g) : SqL K H' a xs := by
  rcases h with h | h
  · rcases h with e | ⟨z, e⟩
    · exact .inl (.inl (k _ _ e h1 h2))
    · exact .inl (.inr ⟨z, k _ _ e h1 h2⟩)
  · exact .inr h
section
variable {P : Program} {w : World} {K : PySem.W.Frag} {mg : Str → Option Value} {base : Heap} {Z : Ad}
end
end KA
namespace KA
open PySem PySem.Spec PyProof.Rows L2 DP
/-! ### looks in order, each once -/
def leL (a b : Lk) : Bool := PySem.W.dataLe false encL a b
theorem leL_iff {a b : Lk} : leL a b = true ↔ (listOrd itemOrd).kle (PySem.W.keyToks (encL a)) (PySem.W.keyToks (encL b)) := by
  show (!PyProof.Rows.lexLt itemOrd (PySem.W.keyToks (encL b)) (PySem.W.keyToks (encL a))) = true ↔ PyProof.Rows.lexLt itemOrd (PySem.W.keyToks (encL b)) (PySem.W.keyToks (encL a)) = false
  cases PyProof.Rows.lexLt itemOrd (PySem.W.keyToks (encL b)) (PySem.W.keyToks (encL a)) <;> simp
theorem leL_trans (a b c : Lk) (h1 : leL a b = true) (h2 : leL b c = true) : leL a c = true := leL_iff.mpr (KeyOrd.kle_trans (leL_iff.mp h1) (leL_iff.mp h2))
theorem leL_total (a b : Lk) : (leL a b || leL b a) = true := by
  rw [Bool.or_eq_true]
  cases e : (listOrd itemOrd).blt (PySem.W.keyToks (encL b)) (PySem.W.keyToks (encL a)) with
  | false => exact .inl (leL_iff.mpr e)
  | true => exact .inr (leL_iff.mpr (KeyOrd.kle_of_klt (O := listOrd itemOrd) e))
theorem toks_inj {a b : Lk} (h : PySem.W.keyToks (encL a) = PySem.W.keyToks (encL b)) : a = b := by
  obtain ⟨⟨a1⟩, a2, a3⟩ := a
  obtain ⟨⟨b1⟩, b2, b3⟩ := b
  simp [encL, PySem.W.keyToks, PySem.W.keyToksAll] at h
  obtain ⟨h1, h2, h3⟩ := h
  rw [h1, h2, h3]
theorem leL_anti (a b : Lk) (h1 : leL a b = true) (h2 : leL b a = true) : a = b := toks_inj (KeyOrd.kle_antisymm (leL_iff.mp h1) (leL_iff.mp h2))
structure Canon (ms : List Lk) (S : Lk → Prop) : Prop where
  nd : ms.Nodup
  srt : ms.Pairwise (fun a b => leL a b = true)
  mem : ∀ o, o ∈ ms ↔ S o
theorem Canon.eq {ms ns : List Lk} {S S' : Lk → Prop} (a : Canon ms S) (b : Canon ns S') (h : ∀ o, S o ↔ S' o) : ms = ns :=
  List.Perm.eq_of_pairwise (fun x y _ _ h1 h2 => leL_anti x y h1 h2) a.srt b.srt ((List.perm_ext_iff_of_nodup a.nd b.nd).mpr fun o => (a.mem o).trans ((h o).trans (b.mem o).symm))
theorem Canon.iff {ms : List Lk} {S S' : Lk → Prop} (a : Canon ms S) (h : ∀ o, S o ↔ S' o) : Canon ms S' := ⟨a.nd, a.srt, fun o => (a.mem o).trans (h o)⟩
theorem canon_nil : Canon [] (fun _ => False) := ⟨.nil, .nil, fun o => by simp⟩
theorem canon_sort {ms : List Lk} (nd : ms.Nodup) : Canon (ms.mergeSort leL) (fun o => o ∈ ms) := ⟨(List.mergeSort_perm _ _).nodup_iff.mpr nd, List.pairwise_mergeSort leL_trans leL_total _, fun o => (List.mergeSort_perm _ _).mem_iff⟩
theorem heard_canon {L : Int} {hs : List Lk} {S : Lk → Prop} (c : Canon hs S) (l : Lk) : Canon (heard L hs l) (fun o => S o ∨ o = home L l) := by
  refine ⟨?_, ?_, fun o => ?_⟩
  · unfold heard
    split
    · exact c.nd
    · rename_i h
      exact (List.mergeSort_perm _ _).nodup_iff.mpr (List.nodup_append.mpr ⟨c.nd, List.pairwise_singleton _ _, fun a ha b hb e => h (by rw [List.mem_singleton] at hb; rw [← hb, ← e]; exact ha)⟩)
  · unfold heard
    split
    · exact c.srt
    · exact List.pairwise_mergeSort leL_trans leL_total _
  · rw [heard_mem, c.mem]
theorem fold_canon {L : Int} : ∀ (ls hs : List Lk) {S : Lk → Prop}, Canon hs S → Canon (ls.foldl (heard L) hs) (fun o => S o ∨ ∃ l ∈ ls, o = home L l)
  | [], hs, S, c => c.iff fun o => by simp
  | l :: ls, hs, S, c => (fold_canon ls _ (heard_canon c l)).iff fun o => by
    constructor
    · rintro ((h | h) | ⟨q, hq, h⟩)
      · exact .inl h
      · exact .inr ⟨l, List.mem_cons_self, h⟩
      · exact .inr ⟨q, List.mem_cons_of_mem _ hq, h⟩
    · rintro (h | ⟨q, hq, h⟩)
      · exact .inl (.inl h)
      · rcases List.mem_cons.mp hq with e | e
        · exact .inl (.inr (e ▸ h))
        · exact .inr ⟨q, e, h⟩
theorem fold0_canon (L : Int) (ls : List Lk) : Canon (ls.foldl (heard L) []) (fun o => ∃ l ∈ ls, o = home L l) := (fold_canon ls [] canon_nil).iff fun o => by simp
theorem filter_canon {hs : List Lk} {S : Lk → Prop} (c : Canon hs S) (q : Lk → Bool) : Canon (hs.filter q) (fun o => S o ∧ q o = true) := ⟨c.nd.filter _, c.srt.filter _, fun o => by rw [List.mem_filter, c.mem]⟩
/-! ### a set of looks, sorted -/
def keyL (l : Lk) : List Key := [.inr l.1, .inl l.2.1, .inl l.2.2]
theorem keyL_inj {a b : Lk} (h : keyL a = keyL b) : a = b := by
  obtain ⟨a1, a2, a3⟩ := a
  obtain ⟨b1, b2, b3⟩ := b
  simp [keyL] at h
  obtain ⟨h1, h2, h3⟩ := h
  rw [h1, h2, h3]
section
variable {K : PySem.W.Frag} {H : Hp}
theorem look_rows : ∀ {ls : List Lk} {xs : List V}, DpAll K H xs (ls.map encL) → ∃ ks : List (Addr × List Key), xs = ks.map (fun p => V.ref p.1) ∧ ks.map Prod.snd = ls.map keyL ∧ SD.Stand K H ks
  | [], xs, h => by
    have h' : DpAll K H xs [] := h
    cases h'
    exact ⟨[], rfl, rfl, fun p hp => by cases hp⟩
  | l :: ls, xs, h => by
    have h' : DpAll K H xs (encL l :: ls.map encL) := h
    cases h' with
    | cons h1 h2 =>
      obtain ⟨ks, e1, e2, st⟩ := look_rows h2
      obtain ⟨a, rfl, ha⟩ := dp_look h1
      refine ⟨(a, keyL l) :: ks, by rw [e1]; rfl, by rw [List.map_cons, e2]; rfl, fun p hp => ?_⟩
      rcases List.mem_cons.mp hp with e | e
      · rw [e]; exact ha
      · exact st p e
theorem rows_look : ∀ {ms : List Lk} {M : List (Addr × List Key)}, M.map Prod.snd = ms.map keyL → SD.Stand K H M → DpAll K H (M.map fun p => V.ref p.1) (ms.map encL)
  | [], [], _, _ => .nil
  | [], _ :: _, e, _ => by cases e
  | _ :: _, [], e, _ => by cases e
  | l :: ms, p :: M, e, st => by
    injection e with e1 e2
    have h1 := st p List.mem_cons_self
    rw [e1] at h1
    exact .cons (.tup h1 (.cons (.str _) (.cons (.int _) (.cons (.int _) .nil)))) (rows_look e2 fun q hq => st q (List.mem_cons_of_mem _ hq))
theorem keys_back : ∀ {ks : List (List Key)} {ls : List Lk}, (∀ k ∈ ks, ∃ l ∈ ls, k = keyL l) → ∃ ms : List Lk, ks = ms.map keyL ∧ ∀ m ∈ ms, m ∈ ls
  | [], _, _ => ⟨[], rfl, fun _ h => by cases h⟩
  | k :: ks, ls, h => by
    obtain ⟨l, hl, e⟩ := h k List.mem_cons_self
    obtain ⟨ms, e2, h2⟩ := keys_back (ks := ks) (ls := ls) fun q hq => h q (List.mem_cons_of_mem _ hq)
    refine ⟨l :: ms, by rw [e, e2]; rfl, fun m hm => ?_⟩
    rcases List.mem_cons.mp hm with z | z
    · rw [z]; exact hl
    · exact h2 m z
/-- sorted(set(looks)) -/
theorem set_sorted {P : Program} {w : World} {l : Addr} {xs : List V} {ls : List Lk} (hl : SqL K H l xs) (hd : DpAll K H xs (ls.map encL)) (hlen : ls.length < 64) {Q : VK}
    (q : ∀ p ys H' ms, Same H H' → H p = none → H' p = some (.lst ys) → DpAll K H' ys (ms.map encL) → Canon ms (fun o => o ∈ ls) → Q (.ref p) H') :
    SD.rSetD K P w [.ref l] H (fun v H' => SD.rSortSetD K P w [v] H' Q) := by
  obtain ⟨ks, e1, e2, st⟩ := look_rows hd
  have hkl : ks.length = ls.length := by rw [← List.length_map (f := Prod.snd), e2, List.length_map]
  subst e1
  refine ⟨l, ks, rfl, hl, st, by rw [hkl]; exact hlen, fun a M ha hM hall hone => ?_⟩
  have S1 := same_upd (o := SD.SetDO P w a M) ha
  have stM : SD.Stand K (upd H a (SD.SetDO P w a M)) M := SD.Stand.same (fun p hp => st p (hM p hp)) S1
  have inl : ∀ p ∈ M, ∃ l ∈ ls, p.2 = keyL l := fun p hp => by
    have h1 : p.2 ∈ ks.map Prod.snd := List.mem_map.mpr ⟨p, hM p hp, rfl⟩
    rw [e2] at h1
    obtain ⟨l, hl, e⟩ := List.mem_map.mp h1
    exact ⟨l, hl, e.symm⟩
  refine ⟨a, M, rfl, upd_same, stM, ⟨fun p hp p2 hp2 => ?_, fun p hp => ?_⟩, fun N p pm hp => ?_⟩
  · obtain ⟨l1, _, e1⟩ := inl p hp
    obtain ⟨l2, _, e2⟩ := inl p2 hp2
    unfold SD.encK
    rw [e1, e2]
    simp [keyL, SD.kD, PySem.W.alike, PySem.W.alikeAll]
  · obtain ⟨l1, _, e1⟩ := inl p hp
    rw [e1]; simp [keyL]
  · obtain ⟨ms, em, hms⟩ := keys_back (ks := N.map Prod.snd) (ls := ls) fun k hk => by
      obtain ⟨p, hp, e⟩ := List.mem_map.mp hk
      obtain ⟨l, hl, e2⟩ := inl p (pm.mem_iff.mp hp)
      exact ⟨l, hl, by rw [← e, e2]⟩
    have ndk : (ms.map keyL).Nodup := by rw [← em]; exact (pm.map Prod.snd).nodup_iff.mpr hone
    have nd : ms.Nodup := List.Pairwise.of_map keyL (fun _ _ hne e => hne (congrArg keyL e)) ndk
    have hsort : (N.mergeSort (PySem.W.dataLe false SD.encK)).map Prod.snd = (ms.mergeSort leL).map keyL := by
      rw [List.map_mergeSort (f := Prod.snd) (r := PySem.W.dataLe false SD.encK) (s := fun a b => PySem.W.dataLe false SD.encK (0, a) (0, b)) (fun a _ b _ => rfl), em]
      rw [List.map_mergeSort (f := keyL) (r := leL) (s := fun a b => PySem.W.dataLe false SD.encK (0, a) (0, b)) (fun a _ b _ => rfl)]
    have S2 := same_upd (o := HO.lst ((N.mergeSort (PySem.W.dataLe false SD.encK)).map fun q => V.ref q.1)) hp
    refine q p _ _ (ms.mergeSort leL) (S1.trans S2) (S1.free hp) upd_same (rows_look hsort (SD.Stand.same (fun r hr => stM r (pm.mem_iff.mp ((List.mergeSort_perm _ _).mem_iff.mp hr))) S2)) ((canon_sort nd).iff fun o => ⟨hms o, fun ho => ?_⟩)
    have h1 : keyL o ∈ ks.map Prod.snd := by rw [e2]; exact List.mem_map.mpr ⟨o, ho, rfl⟩
    obtain ⟨p2, hp2, e3⟩ := List.mem_map.mp h1
    have h2 := hall p2 hp2
    rw [e3, ← (pm.map Prod.snd).mem_iff, em] at h2
    obtain ⟨m, hm, e4⟩ := List.mem_map.mp h2
    rw [← keyL_inj e4]; exact hm
end
end KA
namespace KA
open PySem PySem.Spec PyProof.Rows L2 DP
/-! ### rounds of a law's own making -/
theorem cut_take {xs : List V} {k : Nat} : cutV xs none (some (k : Int)) = xs.take k := by
  unfold cutV
  rw [HT.sIx_none, HT.sIx_nat, List.drop_zero, Nat.sub_zero, List.take_eq_take_iff]
  omega
theorem dpAll_take {K : PySem.W.Frag} {H : Hp} : ∀ {vs : List V} {ds : List PyData} (k : Nat), DpAll K H vs ds → DpAll K H (vs.take k) (ds.take k)
  | _, _, 0, _ => by rw [List.take_zero, List.take_zero]; exact .nil
  | _, _, k + 1, .nil => by rw [List.take_nil, List.take_nil]; exact .nil
  | _, _, k + 1, .cons a b => .cons a (dpAll_take k b)
/-- looks that some hand under which nobody overtakes fits -/
structure Good (L : Int) (ls : List Lk) : Prop where
  ex : ∃ f, Hand L f ∧ ∀ l ∈ ls, Fits f l
  ok : ∀ l ∈ ls, WordOk l.1 ∧ Sized 110 l
  len : ls.length ≤ 24
theorem Good.clash {L : Int} (hL : 0 < L) {ls : List Lk} (G : Good L ls) : ∀ a ∈ ls, ∀ b ∈ ls, clashB a b L = false := fun a ha b hb => by
  obtain ⟨f, F, h⟩ := G.ex
  exact fit_clash hL F (h a ha) (h b hb)
theorem said_good {L : Int} (hL : 0 < L) (hLb : L.natAbs < 2 ^ 100) {prs : List (Int × Int)} (R : Rises L prs) {ls : List Lk} (h : ∀ l ∈ ls, Said L prs l) (k : Nat) (hk : k ≤ 24) : Good L (ls.take k) := by
  obtain ⟨f, F, hf⟩ := R.lead hL
  exact ⟨⟨f, F, fun l hl => (h l (List.mem_of_mem_take hl)).fits hf⟩, fun l hl => ⟨(h l (List.mem_of_mem_take hl)).1, (h l (List.mem_of_mem_take hl)).sized hL hLb R⟩, Nat.le_trans (List.length_take_le _ _) hk⟩
/-- what is heard tells what the looks tell -/
theorem stp_heard {sd : Str} (hs : SideOk sd) {L : Int} (hL : 0 < L) (ls : List Lk) (y : Int) : stp sd L (sideOf sd (heardAll L ls)) y = stp sd L (sideOf sd ls) y := by
  by_cases h : sideOf sd (heardAll L ls) = []
  · rw [h, (side_nil heardAll_mem).mp h]
  · have b := bst_is hs h y L
    rw [stp_best b, stp_best (best_home hL heardAll_mem b)]
theorem it_heard {sd : Str} (hs : SideOk sd) {L : Int} (hL : 0 < L) {lots : List (List Lk)} (h0 : 0 < lots.length) (x : Int) (n : Nat) : it sd L ((lots.map (heardAll L)).map (sideOf sd)) x n = it sd L (lots.map (sideOf sd)) x n := by
  refine it_alike (by simp) (fun i y hi => ?_) (by simpa using h0) n
  rw [List.length_map, List.length_map] at hi
  have e1 : ((lots.map (heardAll L)).map (sideOf sd)).getD i [] = sideOf sd (heardAll L lots[i]) := by
    rw [List.getD_eq_getElem?_getD, List.getElem?_map, List.getElem?_map, List.getElem?_eq_getElem hi]; rfl
  have e2 : (lots.map (sideOf sd)).getD i [] = sideOf sd lots[i] := by
    rw [List.getD_eq_getElem?_getD, List.getElem?_map, List.getElem?_eq_getElem hi]; rfl
  rw [e1, e2, stp_heard hs hL]
def dO : Option Int → PyData
  | none => .none
  | some i => .int i
theorem dp_oV {K : PySem.W.Frag} {H : Hp} : ∀ o, Dp K H (oV o) (dO o)
  | none => .non
  | some i => .int i
theorem shaped_dO : ∀ o, SeqAt.shaped (dO o) = true
  | none => rfl
  | some i => rfl
theorem eqv_dO (o : Option Int) : PyData.eqv (dO o) (dO o) = true := by
  cases o <;> simp [dO, PyData.eqv]
/-- lists of looks, not the deck -/
def LotsAt (K : PySem.W.Frag) (H : Hp) (as : List Addr) (lots : List (List Lk)) (t g : Addr) : Prop := Lots K H as lots ∧ ∀ a ∈ as, a ≠ t ∧ a ≠ g
theorem LotsAt.keep {K : PySem.W.Frag} {H H' : Hp} {t g : Addr} {as : List Addr} {n : Nat} {lots : List (List Lk)} (D : LotsAt K H as lots t g) (T : Tray H t g n) (k : Keep t g H H') : LotsAt K H' as lots t g :=
  ⟨D.1.to (Keep.tups T k) fun a ha o e => k _ _ e (D.2 a ha).1 (D.2 a ha).2, D.2⟩
theorem LotsAt.same {K : PySem.W.Frag} {H H' : Hp} {t g : Addr} {as : List Addr} {lots : List (List Lk)} (D : LotsAt K H as lots t g) (S : Same H H') : LotsAt K H' as lots t g := ⟨D.1.same S, D.2⟩
theorem LotsAt.acc {K : PySem.W.Frag} {H : Hp} {t g F : Addr} {as : List Addr} {lots : List (List Lk)} {xs : List V} {o : HO} (D : LotsAt K H as lots t g) (hF : H F = some (.lst xs)) (hne : ∀ a ∈ as, a ≠ F) : LotsAt K (upd H F o) as lots t g :=
  ⟨D.1.to (Tups.upd_lst hF) fun a ha o e => (upd_ne (hne a ha)).trans e, D.2⟩
theorem at_set {α : Type} {l : List α} {i j : Nat} {a x : α} (h : (l.set j a)[i]? = some x) : (i = j ∧ x = a ∧ j < l.length) ∨ (i ≠ j ∧ l[i]? = some x) := by
  rw [List.getElem?_set] at h
  by_cases e : j = i
  · rw [if_pos e] at h
    split at h
    · refine .inl ⟨e.symm, (Option.some.inj h).symm, by assumption⟩
    · cases h
  · rw [if_neg e] at h
    exact .inr ⟨fun q => e q.symm, h⟩
theorem LotsAt.set {K : PySem.W.Frag} {H : Hp} {t g a : Addr} {as : List Addr} {lots : List (List Lk)} {ls : List Lk} (D : LotsAt K H as lots t g) {i j : Nat} (h1 : as[i]? = some a) (h2 : lots[i]? = some ls) : LotsAt K H (as.set j a) (lots.set j ls) t g := by
  refine ⟨⟨by rw [List.length_set, List.length_set]; exact D.1.1, fun i' b l e1 e2 => ?_⟩, fun b hb => ?_⟩
  · rcases at_set e1 with ⟨q1, q2, _⟩ | ⟨q1, q2⟩
    · rcases at_set e2 with ⟨p1, p2, _⟩ | ⟨p1, p2⟩
      · rw [q2, p2]; exact D.1.2 i a ls h1 h2
      · exact absurd q1 p1
    · rcases at_set e2 with ⟨p1, p2, _⟩ | ⟨p1, p2⟩
      · exact absurd p1 q1
      · exact D.1.2 i' b l q2 p2
  · rcases List.mem_or_eq_of_mem_set hb with h | h
    · exact D.2 b h
    · rw [h]; exact D.2 a (List.mem_of_getElem? h1)
theorem DarksAt.set {Z : Ad} {K : PySem.W.Frag} {H : Hp} {t g d : Addr} {ds : List Addr} {L : Int} {hs : List (List Lk)} {ls : List Lk} (D : DarksAt Z K H ds L hs t g) {i j : Nat} (h1 : ds[i]? = some d) (h2 : hs[i]? = some ls) : DarksAt Z K H (ds.set j d) L (hs.set j ls) t g := by
  refine ⟨⟨by rw [List.length_set, List.length_set]; exact D.1.1, fun i' b l e1 e2 => ?_⟩, fun b hb => ?_⟩
  · rcases at_set e1 with ⟨q1, q2, _⟩ | ⟨q1, q2⟩
    · rcases at_set e2 with ⟨p1, p2, _⟩ | ⟨p1, p2⟩
      · rw [q2, p2]; exact D.1.2 i d ls h1 h2
      · exact absurd q1 p1
    · rcases at_set e2 with ⟨p1, p2, _⟩ | ⟨p1, p2⟩
      · exact absurd p1 q1
      · exact D.1.2 i' b l q2 p2
  · rcases List.mem_or_eq_of_mem_set hb with h | h
    · exact D.2 b h
    · rw [h]; exact D.2 d (List.mem_of_getElem? h1)
theorem DarksAt.snoc {Z : Ad} {K : PySem.W.Frag} {H : Hp} {t g d : Addr} {ds : List Addr} {L : Int} {hs : List (List Lk)} {ls : List Lk} (D : DarksAt Z K H ds L hs t g) (h : DarkAt Z K H d L ls) (o : Off Z H d L t g) : DarksAt Z K H (ds ++ [d]) L (hs ++ [ls]) t g := by
  have hl := D.1.1
  refine ⟨⟨by simp [hl], fun i b l h1 h2 => ?_⟩, fun b hb => ?_⟩
  · by_cases hi : i < ds.length
    · rw [List.getElem?_append_left hi] at h1
      rw [List.getElem?_append_left (by omega)] at h2
      exact D.1.2 i b l h1 h2
    · have h3 := (List.getElem?_eq_some_iff.mp h1).1
      rw [List.length_append, List.length_singleton] at h3
      have e : i = ds.length := by omega
      subst e
      rw [List.getElem?_append_right (Nat.le_refl _), Nat.sub_self] at h1
      rw [List.getElem?_append_right (by omega), hl, Nat.sub_self] at h2
      have e1 : d = b := Option.some.inj h1
      have e2 : ls = l := Option.some.inj h2
      subst e1 e2
      exact h
  · rcases List.mem_append.mp hb with h' | h'
    · exact D.2 b h'
    · rw [List.mem_singleton] at h'; subst h'; exact o
theorem LotsAt.snoc {K : PySem.W.Frag} {H : Hp} {t g a : Addr} {as : List Addr} {lots : List (List Lk)} {ls : List Lk} (D : LotsAt K H as lots t g) (h : LkAt K H a ls) (o : a ≠ t ∧ a ≠ g) : LotsAt K H (as ++ [a]) (lots ++ [ls]) t g := ⟨D.1.snoc h, fun b hb => by
  rcases List.mem_append.mp hb with h' | h'
  · exact D.2 b h'
  · rw [List.mem_singleton] at h'; subst h'; exact o⟩
theorem refs_set (as : List Addr) (j : Nat) (a : Addr) : (refs as).set j (.ref a) = refs (as.set j a) := by
  unfold refs; rw [List.map_set]
theorem atI_refs {as : List Addr} {i : Nat} {j : Int} {a : Addr} (e : j = (i : Int)) (h : as[i]? = some a) : atI (refs as) j = some (.ref a) := by
  refine at_of (j := i) e ?_
  show (as.map V.ref)[i]? = _
  rw [List.getElem?_map, h]; rfl
theorem ixN_last {n : Nat} (h : 0 < n) : ixN n (-1) = some (n - 1) := by
  unfold ixN
  rw [if_neg (by decide), if_pos (by omega)]
  congr 1
  omega
end KA
namespace KA
open PySem PySem.Spec PyProof.Rows L2 DP
/-! ### rounds drawn out, moved, mirrored -/
theorem Off.none {Z : Ad} {K : PySem.W.Frag} {H : Hp} {d x : Addr} {L : Int} {ls : List Lk} (D : DarkAt Z K H d L ls) (hx : H x = none) : Off Z H d L x x := fun la dx e => by
  obtain ⟨dx', la', vs, h1, h2, _⟩ := D.ex
  rw [h1] at e
  rw [← df_inj e]
  exact ⟨ne_of_none h2 hx, ne_of_none h2 hx⟩
/-- a list of Darks at D, D none of their parts -/
structure Row (Z : Ad) (K : PySem.W.Frag) (H : Hp) (t g D : Addr) (ds : List Addr) (L : Int) (hs : List (List Lk)) : Prop where
  l : H D = some (.lst (refs ds))
  dk : DarksAt Z K H ds L hs t g
  off : ∀ d ∈ ds, Off Z H d L D D
section
variable {Z : Ad} {K : PySem.W.Frag} {H H' H1 : Hp} {t g D d : Addr} {ds : List Addr} {L : Int} {hs : List (List Lk)} {ls : List Lk} {n : Nat}
theorem Row.new (L : Int) (hD : H D = none) : Row Z K (upd H D (.lst [])) t g D [] L [] := ⟨upd_same, ⟨⟨rfl, fun _ _ _ z => by simp at z⟩, fun _ z => by cases z⟩, fun _ z => by cases z⟩
theorem Darks.mem (D : Darks Z K H ds L hs) (h : d ∈ ds) : ∃ ls, DarkAt Z K H d L ls := by
  obtain ⟨i, hi, e⟩ := List.getElem_of_mem h
  obtain ⟨ls, _, DD⟩ := D.get (show ds[i]? = some d by rw [List.getElem?_eq_getElem hi, e])
  exact ⟨ls, DD⟩
theorem Row.same (R : Row Z K H t g D ds L hs) (S : Same H H') : Row Z K H' t g D ds L hs := ⟨S _ _ R.l, R.dk.same S, fun d hd => by
  obtain ⟨ls, DD⟩ := R.dk.1.mem hd
  exact (R.off d hd).same DD S⟩
theorem Off.keep {x : Addr} (O : Off Z H d L x x) (DD : DarkAt Z K H d L ls) (T : Tray H t g n) (k : Keep t g H H') : Off Z H' d L x x := fun la dx e => by
  obtain ⟨dx', la', vs, h1, _⟩ := DD.ex
  have hd : d ≠ t ∧ d ≠ g := by
    obtain ⟨⟨gs, f, c, e1, e2, r⟩, hne⟩ := T
    refine ⟨?_, ?_⟩ <;> rintro rfl
    · rw [h1] at e1; cases e1
    · rw [h1] at e2; cases e2
  rw [k _ _ h1 hd.1 hd.2] at e
  rw [← df_inj e]
  exact O la' dx' h1
theorem Row.keep (R : Row Z K H t g D ds L hs) (T : Tray H t g n) (k : Keep t g H H') (h1 : D ≠ t) (h2 : D ≠ g) : Row Z K H' t g D ds L hs := ⟨k _ _ R.l h1 h2, R.dk.keep T k, fun d hd => by
  obtain ⟨ls, DD⟩ := R.dk.1.mem hd
  exact (R.off d hd).keep DD T k⟩
theorem Row.step (R : Row Z K H t g D ds L hs) (T : Tray H t g n) (S : Same H H1) (DD : DarkAt Z K H1 d L ls) (F : ∀ la dx, H1 d = some (.ins Z.C dx (df L la)) → H la = none) : Row Z K (upd H1 D (.lst (refs ds ++ [V.ref d]))) t g D (ds ++ [d]) L (hs ++ [ls]) := by
  have R1 := R.same S
  have o1 : Off Z H1 d L t g := fun la dx e => T.at_ne (F la dx e)
  have o2 : Off Z H1 d L D D := fun la dx e => by
    have := ne_of_none R.l (F la dx e)
    exact ⟨Ne.symm this, Ne.symm this⟩
  have dk := R1.dk.snoc DD o1
  have off : ∀ d' ∈ ds ++ [d], Off Z H1 d' L D D := fun d' hd => by
    rcases List.mem_append.mp hd with h | h
    · exact R1.off d' h
    · rw [List.mem_singleton] at h; subst h; exact o2
  refine ⟨by rw [upd_same]; simp [refs], (dk.acc R1.l fun d' hd la dx e => (off d' hd la dx e).1).1, fun d' hd la dx e => ?_⟩
  have hne : d' ≠ D := fun q => by rw [q, upd_same] at e; cases e
  rw [upd_ne hne] at e
  exact off d' hd la dx e
end
end KA
namespace KA
open PySem PySem.Spec PyProof.Rows L2 DP
/-! ### a number and a look, each once -/
abbrev Q4 := Int × Lk
def encQ (q : Q4) : PyData := .tuple [.int q.1, .str q.2.1, .int q.2.2.1, .int q.2.2.2]
theorem noL_encQ (q : Q4) : noL (encQ q) = true := rfl
theorem dp_quad {K : PySem.W.Frag} {H : Hp} {v : V} {q : Q4} (h : Dp K H v (encQ q)) : ∃ a, v = .ref a ∧ SqT K H a [.int q.1, .str q.2.1, .int q.2.2.1, .int q.2.2.2] := by
  have h' : Dp K H v (.tuple [.int q.1, .str q.2.1, .int q.2.2.1, .int q.2.2.2]) := h
  cases h' with
  | tup s a =>
    cases a with
    | cons a1 a =>
      cases a with
      | cons a2 a =>
        cases a with
        | cons a3 a =>
          cases a with
          | cons a4 a =>
            cases a; cases a1; cases a2; cases a3; cases a4
            exact ⟨_, rfl, s⟩
theorem dp_quad_of {K : PySem.W.Frag} {H : Hp} {a : Addr} {q : Q4} (h : SqT K H a [.int q.1, .str q.2.1, .int q.2.2.1, .int q.2.2.2]) : Dp K H (.ref a) (encQ q) := .tup h (.cons (.int _) (.cons (.str _) (.cons (.int _) (.cons (.int _) .nil))))
def keyQ (q : Q4) : List Key := [.inl q.1, .inr q.2.1, .inl q.2.2.1, .inl q.2.2.2]
theorem keyQ_inj {a b : Q4} (h : keyQ a = keyQ b) : a = b := by
  obtain ⟨a1, a2, a3, a4⟩ := a
  obtain ⟨b1, b2, b3, b4⟩ := b
  simp [keyQ] at h
  obtain ⟨h1, h2, h3, h4⟩ := h
  rw [h1, h2, h3, h4]
section
variable {K : PySem.W.Frag} {H : Hp}
theorem quad_rows : ∀ {ls : List Q4} {xs : List V}, DpAll K H xs (ls.map encQ) → ∃ ks : List (Addr × List Key), xs = ks.map (fun p => V.ref p.1) ∧ ks.map Prod.snd = ls.map keyQ ∧ SD.Stand K H ks
  | [], xs, h => by
    have h' : DpAll K H xs [] := h
    cases h'
    exact ⟨[], rfl, rfl, fun p hp => by cases hp⟩
  | l :: ls, xs, h => by
    have h' : DpAll K H xs (encQ l :: ls.map encQ) := h
    cases h' with
    | cons h1 h2 =>
      obtain ⟨ks, e1, e2, st⟩ := quad_rows h2
      obtain ⟨a, rfl, ha⟩ := dp_quad h1
      refine ⟨(a, keyQ l) :: ks, by rw [e1]; rfl, by rw [List.map_cons, e2]; rfl, fun p hp => ?_⟩
      rcases List.mem_cons.mp hp with e | e
      · rw [e]; exact ha
      · exact st p e
theorem rows_quad : ∀ {ms : List Q4} {M : List (Addr × List Key)}, M.map Prod.snd = ms.map keyQ → SD.Stand K H M → DpAll K H (M.map fun p => V.ref p.1) (ms.map encQ)
  | [], [], _, _ => .nil
  | [], _ :: _, e, _ => by cases e
  | _ :: _, [], e, _ => by cases e
  | l :: ms, p :: M, e, st => by
    injection e with e1 e2
    have h1 := st p List.mem_cons_self
    rw [e1] at h1
    exact .cons (dp_quad_of h1) (rows_quad e2 fun q hq => st q (List.mem_cons_of_mem _ hq))
theorem keysQ_back : ∀ {ks : List (List Key)} {ls : List Q4}, (∀ k ∈ ks, ∃ l ∈ ls, k = keyQ l) → ∃ ms : List Q4, ks = ms.map keyQ ∧ ∀ m ∈ ms, m ∈ ls
  | [], _, _ => ⟨[], rfl, fun _ h => by cases h⟩
  | k :: ks, ls, h => by
    obtain ⟨l, hl, e⟩ := h k List.mem_cons_self
    obtain ⟨ms, e2, h2⟩ := keysQ_back (ks := ks) (ls := ls) fun q hq => h q (List.mem_cons_of_mem _ hq)
    refine ⟨l :: ms, by rw [e, e2]; rfl, fun m hm => ?_⟩
    rcases List.mem_cons.mp hm with z | z
    · rw [z]; exact hl
    · exact h2 m z
/-- sorted(set(..)): each once -/
theorem set_sortedQ {P : Program} {w : World} {l : Addr} {xs : List V} {ls : List Q4} (hl : SqL K H l xs) (hd : DpAll K H xs (ls.map encQ)) (hlen : ls.length < 64) {Q : VK}
    (q : ∀ p ys H' (ms : List Q4), Same H H' → H p = none → H' p = some (.lst ys) → DpAll K H' ys (ms.map encQ) → ms.Nodup → (∀ o, o ∈ ms ↔ o ∈ ls) → Q (.ref p) H') :
    SD.rSetD K P w [.ref l] H (fun v H' => SD.rSortSetD K P w [v] H' Q) := by
  obtain ⟨ks, e1, e2, st⟩ := quad_rows hd
  have hkl : ks.length = ls.length := by rw [← List.length_map (f := Prod.snd), e2, List.length_map]
  subst e1
  refine ⟨l, ks, rfl, hl, st, by rw [hkl]; exact hlen, fun a M ha hM hall hone => ?_⟩
  have S1 := same_upd (o := SD.SetDO P w a M) ha
  have stM : SD.Stand K (upd H a (SD.SetDO P w a M)) M := SD.Stand.same (fun p hp => st p (hM p hp)) S1
  have inl : ∀ p ∈ M, ∃ l ∈ ls, p.2 = keyQ l := fun p hp => by
    have h1 : p.2 ∈ ks.map Prod.snd := List.mem_map.mpr ⟨p, hM p hp, rfl⟩
    rw [e2] at h1
    obtain ⟨l, hl, e⟩ := List.mem_map.mp h1
    exact ⟨l, hl, e.symm⟩
  refine ⟨a, M, rfl, upd_same, stM, ⟨fun p hp p2 hp2 => ?_, fun p hp => ?_⟩, fun N p pm hp => ?_⟩
  · obtain ⟨l1, _, e1⟩ := inl p hp
    obtain ⟨l2, _, e2⟩ := inl p2 hp2
    unfold SD.encK
    rw [e1, e2]
    simp [keyQ, SD.kD, PySem.W.alike, PySem.W.alikeAll]
  · obtain ⟨l1, _, e1⟩ := inl p hp
    rw [e1]; simp [keyQ]
  · obtain ⟨N', eN⟩ : ∃ N', N' = N.mergeSort (PySem.W.dataLe false SD.encK) := ⟨_, rfl⟩
    have pm' : N'.Perm M := by rw [eN]; exact (List.mergeSort_perm _ _).trans pm
    obtain ⟨ms, em, hms⟩ := keysQ_back (ks := N'.map Prod.snd) (ls := ls) fun k hk => by
      obtain ⟨p, hp, e⟩ := List.mem_map.mp hk
      obtain ⟨l, hl, e2⟩ := inl p (pm'.mem_iff.mp hp)
      exact ⟨l, hl, by rw [← e, e2]⟩
    have ndk : (ms.map keyQ).Nodup := by rw [← em]; exact (pm'.map Prod.snd).nodup_iff.mpr hone
    have nd : ms.Nodup := List.Pairwise.of_map keyQ (fun _ _ hne e => hne (congrArg keyQ e)) ndk
    have S2 := same_upd (o := HO.lst (N'.map fun q => V.ref q.1)) hp
    rw [← eN]
    refine q p _ _ ms (S1.trans S2) (S1.free hp) upd_same (rows_quad em (SD.Stand.same (fun r hr => stM r (pm'.mem_iff.mp hr)) S2)) nd fun o => ⟨hms o, fun ho => ?_⟩
    have h1 : keyQ o ∈ ks.map Prod.snd := by rw [e2]; exact List.mem_map.mpr ⟨o, ho, rfl⟩
    obtain ⟨p2, hp2, e3⟩ := List.mem_map.mp h1
    have h2 := hall p2 hp2
    rw [e3, ← (pm'.map Prod.snd).mem_iff, em] at h2
    obtain ⟨m, hm, e4⟩ := List.mem_map.mp h2
    rw [← keyQ_inj e4]; exact hm
end
end KA
namespace KA
open PySem PySem.Spec PyProof.Rows L2 DP
theorem seqIx_nat {n k : Nat} (h : k < n) : seqIndex? (k : Int) n = some k := by
  unfold seqIndex?
  simp
  omega
theorem perm_pop {α : Type} : ∀ {l : List α} {k : Nat} {a : α}, l[k]? = some a → (a :: l.eraseIdx k).Perm l
  | [], k, a, h => by simp at h
  | x :: l, 0, a, h => by
    rw [List.getElem?_cons_zero] at h
    obtain rfl := Option.some.inj h
    exact .refl _
  | x :: l, k + 1, a, h => by
    rw [List.getElem?_cons_succ] at h
    exact (List.Perm.swap x a _).trans ((perm_pop h).cons x)
theorem map_erase {α β : Type} (f : α → β) : ∀ (l : List α) (k : Nat), (l.map f).eraseIdx k = (l.eraseIdx k).map f
  | [], _ => rfl
  | _ :: _, 0 => rfl
  | x :: l, k + 1 => by
    show f x :: (l.map f).eraseIdx k = f x :: (l.eraseIdx k).map f
    rw [map_erase f l k]
theorem dpAll_erase {K : PySem.W.Frag} {H : Hp} : ∀ {vs : List V} {ds : List PyData} (k : Nat), DpAll K H vs ds → DpAll K H (vs.eraseIdx k) (ds.eraseIdx k)
  | _, _, _, .nil => by rw [List.eraseIdx_nil, List.eraseIdx_nil]; exact .nil
  | _, _, 0, .cons a b => b
  | _, _, k + 1, .cons a b => .cons a (dpAll_erase k b)
def spMixed (K : PySem.W.Frag) : Sp := fun vs H Q _ => ∃ (t g p : Addr) (n : Nat) (ls : List Q4), vs = [.ref t, .ref p] ∧ Tray H t g n ∧ n < 2 ^ 46 ∧ LAt K H p (ls.map encQ) ∧ p ≠ t ∧ p ≠ g ∧ ls.length ≤ 60 ∧
  ∀ (H' : Hp) (r : Addr) (ms : List Q4), H r = none → At H H' t g (n + 70) → LAt K H' r (ms.map encQ) → ms.Perm ls → Q (.ref r) H'
section
variable {P : Program} {w : World} {K : PySem.W.Frag} {mg : Str → Option Value} {base : Heap} {Z : Ad}
theorem ok_law_mixed (T : Tx K w mg Z) : FnOk P w K mg base CX0 4 Z.a_law_mixed Z.d_law_mixed P_law_mixed (spMixed K) := by
  refine T.F_law_mixed.ok sclaw_mixed (fun vs H Q E h => ?_) (fun cdv A outer s H vs Q E hr h => ?_)
  · obtain ⟨t, g, p, n, ls, rfl, _⟩ := h
    rfl
  · obtain ⟨t, g, p, n, ls, rfl, hT, hn, lp, pt, pg, hlen, k⟩ := h
    have hb6 : ∀ m, m ≤ n + 100 → m < 2 ^ 60 := fun m hm => Nat.lt_of_le_of_lt hm (Nat.lt_of_lt_of_le (Nat.add_lt_add_right hn 100) (by decide))
    have A0 : At H H t g n := ⟨hT, Keep.refl _ _ _⟩
    obtain ⟨vs, v1, v2⟩ := id lp
    have hvl : vs.length = ls.length := by rw [dpAll_len v2, List.length_map]
    refine ⟨_, (pss_cons (ps_set (i := 2) sclaw_mixed.nd rfl (Or.inr rfl) (pe_callTy (listK (K := K)) (by rfl) T.b_list (by decide +kernel) (pa_cons (pv 1) pa_nil)))
      (pss_one (ps_ret (pe_lc (own := [("k", 3)]) (g := gName 3) (tt := tYes) rfl sclaw_mixed.nd (pi_range1 (by rfl) T.b_range (pa_cons (pe_callB (lenK (K := K)) (by rfl) T.b_len (by decide +kernel) (pa_cons (pv 1) pa_nil)) pa_nil)) (blkOk_by (own := [("k", 3)]) (N := N_law_mixed) (sc := defScope slaw_mixed) (by decide +kernel)) (fun _ _ _ _ _ => (pg_name (i := 3) sclaw_mixed.nd rfl (Or.inl rfl))) (fun _ _ _ _ _ => pts_nil) (fun _ _ _ _ _ => (pe_bmK (K := K) PySem.F.plainAttrs_list PySem.F.slot_list_pop PySem.F.type_list_pop mt_popAt (pv 2) (pa_cons (pe_call (ok_law_take T) (hr.mono (by decide)) (by rfl) T.g_law_take T.F_law_take.kp T.bb_law_take .nil pass0 (pa_cons (pv 0) (pa_cons (pe_callB (lenK (K := K)) (by rfl) T.b_len (by decide +kernel) (pa_cons (pv 2) pa_nil)) pa_nil))) pa_nil))))))), ?_⟩
    refine ⟨_, rfl, p, _, rfl, .inl (SqL.of v1), fun F hF => ?_⟩
    obtain ⟨Ft, Fg⟩ := hT.at_ne hF
    have SF := same_upd (o := HO.lst vs) hF
    have A1 := (A0.new hF : At H (upd H F (.lst vs)) t g n)
    have lF : LAt K (upd H F (.lst vs)) F (ls.map encQ) := ⟨vs, upd_same, dpAll_mono SF _ _ v2⟩
    refine ⟨_, rfl, p, _, rfl, .inl (SqL.of (SF _ _ v1)), _, rfl, by omega, by omega, fun D hD => ?_⟩
    have SD' := same_upd (o := HO.lst []) hD
    obtain ⟨Dt, Dg⟩ := A1.T.at_ne hD
    have hDH := A1.free hD
    have hDF : D ≠ F := fun e => by rw [e, upd_same] at hD; cases hD
    refine lc_range (lo := 0) (n := (vs.length : Int).toNat) (fun i H' => At H H' t g (n + i) ∧ ∃ (done rest : List Q4), LAt K H' F (rest.map encQ) ∧ LAt K H' D (done.map encQ) ∧ (done ++ rest).Perm ls ∧ done.length = i)
      ⟨A1.new hD, [], ls, lF.same SD', ⟨[], upd_same, .nil⟩, .refl _, rfl⟩ ?_ ?_
    · rintro i H3 hi ⟨A3, done, rest, lF3, lD3, hperm, hdl⟩
      have hpl := hperm.length_eq
      rw [List.length_append] at hpl
      obtain ⟨fv, g1, g2⟩ := id lF3
      obtain ⟨dv, d1, d2⟩ := id lD3
      have hfl : fv.length = rest.length := by rw [dpAll_len g2, List.length_map]
      have hdvl : dv.length = done.length := by rw [dpAll_len d2, List.length_map]
      refine ⟨rfl, yes_ite ?_⟩
      refine ⟨_, rfl, .inl ⟨rfl, _, SqL.of g1⟩, _, rfl, _, rfl, F, _, rfl, .inl (SqL.of g1), t, g, n + i, (fv.length : Int), rfl, A3.T, by omega, Nat.lt_of_le_of_lt (by omega : ((fv.length : Int)).natAbs ≤ 60) (by decide), hb6 _ (by omega), fun H4 c c0 c1 T4 k4 => ?_⟩
      have A4 := A3.step T4 k4
      have g1' := k4 _ _ g1 Ft Fg
      have g2' := dpAll_tups (Keep.tups A3.T k4) _ _ (noLs_map noL_encQ rest) g2
      have d1' := k4 _ _ d1 Dt Dg
      have d2' := dpAll_tups (Keep.tups A3.T k4) _ _ (noLs_map noL_encQ done) d2
      obtain ⟨j, rfl⟩ := Int.eq_ofNat_of_zero_le c0
      have hj : j < fv.length := by omega
      have hfj : fv[j]? = some fv[j] := List.getElem?_eq_getElem hj
      obtain ⟨dd, hdj, hdy⟩ := dpAll_get g2' hfj
      obtain ⟨l, hl, rfl⟩ := map_at hdj
      refine ⟨F, fv, _, j, _, rfl, rfl, g1', by omega, by omega, seqIx_nat hj, hfj, ?_⟩
      have tupF : Tups H4 (upd H4 F (.lst (fv.eraseIdx j))) := Tups.upd_lst g1'
      have A5 : At H (upd H4 F (.lst (fv.eraseIdx j))) t g (n + i + 1) := A4.acc (A0.free hF) Ft Fg
      have hlq5 := dp_tups tupF _ _ (noL_encQ l) hdy
      have d1'' : (upd H4 F (.lst (fv.eraseIdx j))) D = some (.lst dv) := (upd_ne hDF).trans d1'
      have d2'' := dpAll_tups tupF _ _ (noLs_map noL_encQ done) d2'
      have lF5 : LAt K (upd H4 F (.lst (fv.eraseIdx j))) F ((rest.eraseIdx j).map encQ) := by
        refine ⟨_, upd_same, ?_⟩
        have : (rest.eraseIdx j).map encQ = (rest.map encQ).eraseIdx j := (map_erase encQ rest j).symm
        rw [this]
        exact dpAll_tups tupF _ _ (by rw [← this]; exact noLs_map noL_encQ _) (dpAll_erase j g2')
      generalize upd H4 F (.lst (fv.eraseIdx j)) = H5 at A5 hlq5 d1'' d2'' lF5 ⊢
      obtain ⟨fv5, f1, f2⟩ := id lF5
      refine ⟨dv, d1'', small1000 (by omega), A5.acc hDH Dt Dg, done ++ [l], rest.eraseIdx j, ⟨fv5, (upd_ne (Ne.symm hDF)).trans f1, dpAll_tups (Tups.upd_lst d1'') _ _ (noLs_map noL_encQ _) f2⟩, ?_, ?_, by simp [hdl]⟩
      · rw [List.map_append]
        exact ⟨_, upd_same, acc_step d1'' (noLs_map noL_encQ _) rfl d2'' hlq5⟩
      · refine List.Perm.trans ?_ hperm
        rw [List.append_assoc]
        exact List.Perm.append_left done (perm_pop hl)
    · rintro H3 ⟨A3, done, rest, lF3, lD3, hperm, hdl⟩
      have hpl := hperm.length_eq
      rw [List.length_append] at hpl
      have hr0 : rest = [] := List.eq_nil_of_length_eq_zero (by omega)
      subst hr0
      rw [List.append_nil] at hperm
      exact k H3 D done hDH (A3.up (by omega)) lD3 hperm
end
end KA
namespace KA
open PySem PySem.Spec PyProof.Rows L2 DP
/-! ### what a round tells of some places -/
def oD : Option Int → PyData
  | none => .none
  | some i => .int i
theorem dp_oD {K : PySem.W.Frag} {H : Hp} : ∀ o, Dp K H (oV o) (oD o)
  | none => .non
  | some i => .int i
abbrev Rw := Option Int × Option Int
def rwV (r : Rw) : List V := [oV r.1, oV r.2]
def rwD (r : Rw) : PyData := .list [oD r.1, oD r.2]
/-- rows that stand in a list, each in a list of its own, at places that are so -/
def TRow (H : Hp) (ok : Addr → Prop) (a : Addr) (rs : List Rw) : Prop := ok a ∧ ∃ bs : List Addr, H a = some (.lst (refs bs)) ∧ bs.length = rs.length ∧ ∀ (i : Nat) (b : Addr) (r : Rw), bs[i]? = some b → rs[i]? = some r → ok b ∧ H b = some (.lst (rwV r))
theorem TRow.to {H H' : Hp} {ok ok' : Addr → Prop} {a : Addr} {rs : List Rw} (h : TRow H ok a rs) (k : ∀ b vs, H b = some (.lst vs) → ok b → ok' b ∧ H' b = some (.lst vs)) : TRow H' ok' a rs := by
  obtain ⟨oa, bs, e, hl, hb⟩ := h
  exact ⟨(k a _ e oa).1, bs, (k a _ e oa).2, hl, fun i b r h1 h2 => k b _ (hb i b r h1 h2).2 (hb i b r h1 h2).1⟩
theorem rows_dp {K : PySem.W.Frag} {H : Hp} : ∀ {bs : List Addr} {rs : List Rw}, bs.length = rs.length → (∀ (i : Nat) (b : Addr) (r : Rw), bs[i]? = some b → rs[i]? = some r → H b = some (.lst (rwV r))) → DpAll K H (refs bs) (rs.map rwD)
  | [], [], _, _ => .nil
  | [], _ :: _, h, _ => by cases h
  | _ :: _, [], h, _ => by cases h
  | b :: bs, r :: rs, h, k => .cons (.lst (SqL.of (k 0 b r rfl rfl)) (.cons (dp_oD _) (.cons (dp_oD _) .nil))) (rows_dp (Nat.succ.inj h) fun i c q h1 h2 => k (i + 1) c q h1 h2)
theorem TRow.dp {K : PySem.W.Frag} {H : Hp} {ok : Addr → Prop} {a : Addr} {rs : List Rw} (h : TRow H ok a rs) : Dp K H (.ref a) (.list (rs.map rwD)) := by
  obtain ⟨_, bs, e, hl, hb⟩ := h
  exact .lst (SqL.of e) (rows_dp hl fun i b r h1 h2 => (hb i b r h1 h2).2)
theorem shaped_rows (rs : List Rw) : SeqAt.shaped (.list (rs.map rwD)) = true := by
  have q : ∀ o : Option Int, (oD o).canLay0 = true ∧ (oD o).depth = 0 := fun o => by cases o <;> exact ⟨rfl, rfl⟩
  have q2 : ∀ r : Rw, (rwD r).canLay0 = true ∧ (rwD r).depth ≤ 1 := fun r => by
    refine ⟨?_, ?_⟩
    · show PyData.canLay0 (.list [oD r.1, oD r.2]) = true
      rw [PyData.canLay0, PyData.canLayAll0, PyData.canLayAll0, PyData.canLayAll0, (q r.1).1, (q r.2).1]; rfl
    · show PyData.depth (.list [oD r.1, oD r.2]) ≤ 1
      simp [PyData.depth, PyData.depthAll, (q r.1).2, (q r.2).2]
  have h1 : ∀ rs : List Rw, PyData.canLayAll0 (rs.map rwD) = true := fun rs => by
    induction rs with
    | nil => rfl
    | cons r rs ih => rw [List.map_cons, PyData.canLayAll0, ih, (q2 r).1]; rfl
  have h2 : ∀ rs : List Rw, PyData.depthAll (rs.map rwD) ≤ 2 := fun rs => by
    induction rs with
    | nil => simp [PyData.depthAll]
    | cons r rs ih =>
      rw [List.map_cons, PyData.depthAll]
      have := (q2 r).2
      omega
  unfold SeqAt.shaped
  rw [PyData.canLay0, h1, PyData.depth]
  have := h2 rs
  simp; omega
theorem eqv_rows (rs : List Rw) : PyData.eqv (.list (rs.map rwD)) (.list (rs.map rwD)) = true := SeqAt.eqv_refl _ (SeqAt.canLay_of_shaped (shaped_rows rs))
noncomputable def rowOf (L : Int) (kn : List (List Lk)) (n : Nat) (x : Int) : Rw := (it "slow" L (kn.map (sideOf "slow")) x n, it "fast" L (kn.map (sideOf "fast")) x n)
/-- nothing is less known -/
def Closer (rs rs' : List Rw) : Prop := rs.length = rs'.length ∧ ∀ (i : Nat) (r r' : Rw), rs[i]? = some r → rs'[i]? = some r' → (∀ m, r.1 = some m → ∃ m', r'.1 = some m' ∧ m ≤ m') ∧ ∀ m, r.2 = some m → ∃ m', r'.2 = some m' ∧ m' ≤ m
theorem plc_rise {L : Int} (hL : 0 < L) (l : Lk) {x y : Int} (h : x ≤ y) : plc "slow" l x L ≤ plc "slow" l y L := by
  rw [plc_slow, plc_slow]
  have h1 : (x - l.2.1) / L ≤ (y - l.2.1) / L := Int.ediv_le_ediv hL (by omega)
  have h2 := Int.mul_le_mul_of_nonneg_right h1 (by omega : 0 ≤ L)
  omega
theorem plc_riseF {L : Int} (hL : 0 < L) (l : Lk) {x y : Int} (h : x ≤ y) : plc "fast" l x L ≤ plc "fast" l y L := by
  rw [plc_fast, plc_fast]
  have h1 : (l.2.1 - y) / L ≤ (l.2.1 - x) / L := Int.ediv_le_ediv hL (by omega)
  have h2 := Int.mul_le_mul_of_nonneg_right h1 (by omega : 0 ≤ L)
  omega
theorem it_more_slow {L : Int} (hL : 0 < L) {kn kn' : List (List Lk)} (hl : kn.length = kn'.length) (h : ∀ i, ∀ l ∈ kn.getD i [], l ∈ kn'.getD i []) (x : Int) : ∀ (n : Nat) (a : Int), it "slow" L kn x n = some a → ∃ b, it "slow" L kn' x n = some b ∧ a ≤ b
  | 0, a, e => ⟨x, rfl, by have : x = a := Option.some.inj e; omega⟩
  | n + 1, a, e => by
    rw [it_succ] at e
    cases e0 : it "slow" L kn x n with
    | none => rw [e0] at e; cases e
    | some a0 =>
      rw [e0] at e
      have e' : stp "slow" L (kn.getD (n % kn.length) []) a0 = some a := e
      obtain ⟨b0, hb0, hle⟩ := it_more_slow hL hl h x n a0 e0
      have hne : kn.getD (n % kn.length) [] ≠ [] := fun z => by rw [z, stp_nil] at e'; cases e'
      rw [stp_some (.inl rfl) hne] at e'
      have ea := Option.some.inj e'
      have b1 := bst_is (.inl rfl) hne a0 L
      rw [ea] at b1
      obtain ⟨⟨l, hlm, el⟩, _⟩ := b1
      have hm := h _ l hlm
      have hne' : kn'.getD (n % kn.length) [] ≠ [] := fun z => by rw [z] at hm; cases hm
      refine ⟨_, by rw [it_succ, hb0, ← hl]; exact stp_some (.inl rfl) hne', ?_⟩
      have b2 := (bst_is (.inl rfl) hne' b0 L).2 l hm
      rw [if_pos rfl] at b2
      have := plc_rise hL l hle
      omega
theorem slow_no : ¬ ("fast" : Str) = "slow" := by decide +kernel
theorem it_more_fast {L : Int} (hL : 0 < L) {kn kn' : List (List Lk)} (hl : kn.length = kn'.length) (h : ∀ i, ∀ l ∈ kn.getD i [], l ∈ kn'.getD i []) (x : Int) : ∀ (n : Nat) (a : Int), it "fast" L kn x n = some a → ∃ b, it "fast" L kn' x n = some b ∧ b ≤ a
  | 0, a, e => ⟨x, rfl, by have : x = a := Option.some.inj e; omega⟩
  | n + 1, a, e => by
    rw [it_succ] at e
    cases e0 : it "fast" L kn x n with
    | none => rw [e0] at e; cases e
    | some a0 =>
      rw [e0] at e
      have e' : stp "fast" L (kn.getD (n % kn.length) []) a0 = some a := e
      obtain ⟨b0, hb0, hle⟩ := it_more_fast hL hl h x n a0 e0
      have hne : kn.getD (n % kn.length) [] ≠ [] := fun z => by rw [z, stp_nil] at e'; cases e'
      rw [stp_some (.inr rfl) hne] at e'
      have ea := Option.some.inj e'
      have b1 := bst_is (.inr rfl) hne a0 L
      rw [ea] at b1
      obtain ⟨⟨l, hlm, el⟩, _⟩ := b1
      have hm := h _ l hlm
      have hne' : kn'.getD (n % kn.length) [] ≠ [] := fun z => by rw [z] at hm; cases hm
      refine ⟨_, by rw [it_succ, hb0, ← hl]; exact stp_some (.inr rfl) hne', ?_⟩
      have b2 := (bst_is (.inr rfl) hne' b0 L).2 l hm
      rw [if_neg slow_no] at b2
      have := plc_riseF hL l hle
      omega
theorem getD_sides (sd : Str) (lots : List (List Lk)) (i : Nat) : (lots.map (sideOf sd)).getD i [] = sideOf sd (lots.getD i []) := by
  rw [List.getD_eq_getElem?_getD, List.getD_eq_getElem?_getD, List.getElem?_map]
  cases lots[i]? <;> rfl
/-- with more looks nothing is less known -/
theorem closer_more {L : Int} (hL : 0 < L) {kn kn' : List (List Lk)} (hl : kn.length = kn'.length) (h : ∀ i, ∀ l ∈ kn.getD i [], l ∈ kn'.getD i []) (n : Nat) (xs : List Int) : Closer (xs.map (rowOf L kn n)) (xs.map (rowOf L kn' n)) := by
  refine ⟨by simp, fun i r r' h1 h2 => ?_⟩
  rw [List.getElem?_map] at h1 h2
  cases hx : xs[i]? with
  | none => rw [hx] at h1; cases h1
  | some x =>
    rw [hx] at h1 h2
    have e1 : rowOf L kn n x = r := Option.some.inj h1
    have e2 : rowOf L kn' n x = r' := Option.some.inj h2
    subst e1 e2
    have hs : ∀ sd i, ∀ l ∈ (kn.map (sideOf sd)).getD i [], l ∈ (kn'.map (sideOf sd)).getD i [] := fun sd i l hm => by
      rw [getD_sides] at hm ⊢
      exact mem_side.mpr ⟨h i l (mem_side.mp hm).1, (mem_side.mp hm).2⟩
    exact ⟨fun m e => it_more_slow hL (by simp [hl]) (hs _) x n m e, fun m e => it_more_fast hL (by simp [hl]) (hs _) x n m e⟩
def spTold (Z : Ad) (K : PySem.W.Frag) : Sp := fun vs H Q _ => ∃ (lp sp : Addr) (ds : List Addr) (L m : Int) (hs : List (List Lk)) (xs : List Int), vs = [.ref lp, .ref sp, .int m] ∧ SqL K H lp (refs ds) ∧ Darks Z K H ds L hs ∧ 0 < ds.length ∧ ds.length ≤ 60 ∧ H sp = some (.lst (xs.map V.int)) ∧ xs.length ≤ 60 ∧ (∀ x ∈ xs, x.natAbs < 2 ^ 390) ∧ 0 ≤ m ∧ m.natAbs < 2 ^ 300 ∧
  ∀ (H' : Hp) (a : Addr), Same H H' → TRow H' (fun b => H b = none) a (xs.map (rowOf L hs m.toNat)) → Q (.ref a) H'
def spClose (K : PySem.W.Frag) : Sp := fun vs H Q _ => ∃ (a b : Addr) (ok ok' : Addr → Prop) (rs rs' : List Rw), vs = [.ref a, .ref b] ∧ TRow H ok a rs ∧ TRow H ok' b rs' ∧ Closer rs rs' ∧ rs.length ≤ 60 ∧ Q (.bl true) H
section
variable {P : Program} {w : World} {K : PySem.W.Frag} {mg : Str → Option Value} {base : Heap} {Z : Ad}
theorem ok_law_told (T : Tx K w mg Z) : FnOk P w K mg base CX0 8 Z.a_law_told Z.d_law_told P_law_told (spTold Z K) := by
  refine T.F_law_told.ok sclaw_told (fun vs H Q E h => ?_) (fun cdv A outer s H vs Q E hr h => ?_)
  · obtain ⟨lp, sp, ds, L, m, hs, xs, rfl, _⟩ := h
    rfl
  · obtain ⟨lp, sp, ds, L, m, hs, xs, rfl, gl, dk, hd0, hd6, gs, hx6, hxs, hm0, hm, k⟩ := h
    refine ⟨_, (pss_one (ps_ret (pe_lc (own := [("spot", 3)]) (g := gName 3) (tt := tYes) rfl sclaw_told.nd (pi_list (pv 1)) (blkOk_by (own := [("spot", 3)]) (N := N_law_told) (sc := defScope slaw_told) (by decide +kernel)) (fun _ _ _ _ _ => (pg_name (i := 3) sclaw_told.nd rfl (Or.inl rfl))) (fun _ _ _ _ _ => pts_nil) (fun _ _ _ _ _ => (pe_lst (pa_cons (pe_call (ok_least_behind T) (hr.mono (by decide)) (by rfl) T.g_least_behind T.F_least_behind.kp T.bb_least_behind .nil pass0 (pa_cons (pv 0) (pa_cons (pv 3) (pa_cons (pv 2) pa_nil)))) (pa_cons (pe_call (ok_greatest_behind T) (hr.mono (by decide)) (by rfl) T.g_greatest_behind T.F_greatest_behind.kp T.bb_greatest_behind .nil pass0 (pa_cons (pv 0) (pa_cons (pv 3) (pa_cons (pv 2) pa_nil)))) pa_nil))))))), ?_⟩
    refine ⟨_, rfl, sp, rfl, ⟨_, SqL.of gs⟩, fun D hD => ?_⟩
    refine lc_list (K := K) (a := sp) (xs := xs.map V.int) (fun i H' => Same H H' ∧ ∃ bs : List Addr, H' D = some (.lst (refs bs)) ∧ bs.length = i ∧ ∀ (j : Nat) (b : Addr) (r : Rw), bs[j]? = some b → ((xs.take i).map (rowOf L hs m.toNat))[j]? = some r → H b = none ∧ b ≠ D ∧ H' b = some (.lst (rwV r))) ⟨same_upd hD, [], upd_same, rfl, fun j b r z => by simp at z⟩ (fun i H' _ ⟨S, _⟩ => SqL.of (S _ _ gs)) ?_ ?_
    · rintro i y H1 hi ⟨S1, bs, gD, hbl, hbs⟩
      obtain ⟨x, hx, rfl⟩ := map_at hi
      have hxm := hxs x (List.mem_of_getElem? hx)
      have hi6 := (List.getElem?_eq_some_iff.mp hx).1
      refine ⟨rfl, yes_ite ?_⟩
      refine ⟨_, rfl, _, rfl, _, rfl, lp, ds, L, x, m, hs, rfl, Same.sqL S1 gl, dk.same S1, hd0, hd6, hxm, hm0, hm, fun H2 S2 => ?_⟩
      refine ⟨_, rfl, _, rfl, _, rfl, lp, ds, L, x, m, hs, rfl, Same.sqL (S1.trans S2) gl, dk.same (S1.trans S2), hd0, hd6, hxm, hm0, hm, fun H3 S3 => ?_⟩
      refine ⟨(by show 2 ≤ sizeLine; decide), fun q hq => ?_⟩
      have S13 := S2.trans S3
      have Sq := same_upd (o := HO.lst (rwV (rowOf L hs m.toNat x))) hq
      have gq : (upd H3 q (.lst (rwV (rowOf L hs m.toNat x)))) q = some (.lst (rwV (rowOf L hs m.toNat x))) := upd_same
      have hqD : q ≠ D := Ne.symm (ne_of_none (S13 _ _ gD) hq)
      have hqH : H q = none := (S1.trans S13).free hq
      have gD2 := Sq _ _ (S13 _ _ gD)
      refine ⟨_, gD2, small1000 (by simp [refs]; omega), same_set ((S1.trans S13).trans Sq) hD, bs ++ [q], by rw [upd_same]; simp [refs], by simp [hbl], fun j b r e1 e2 => ?_⟩
      rw [take_snoc hx, List.map_append] at e2
      have hl1 : ((xs.take i).map (rowOf L hs m.toNat)).length = i := by rw [List.length_map, List.length_take]; omega
      by_cases c : j < i
      · rw [List.getElem?_append_left (by omega)] at e1 e2
        obtain ⟨q1, q2, q3⟩ := hbs j b r e1 e2
        exact ⟨q1, q2, (upd_ne q2).trans (Sq _ _ (S13 _ _ q3))⟩
      · rw [List.getElem?_append_right (by omega)] at e1
        rw [List.getElem?_append_right (by omega), hl1] at e2
        have hj : j - i = 0 := by
          have := (List.getElem?_eq_some_iff.mp e1).1
          simp at this; omega
        rw [hbl, hj] at e1
        rw [hj] at e2
        have a1 : q = b := Option.some.inj e1
        have a2 : rowOf L hs m.toNat x = r := Option.some.inj e2
        subst a1 a2
        exact ⟨hqH, hqD, (upd_ne hqD).trans gq⟩
    · rintro H1 ⟨S1, bs, gD, hbl, hbs⟩
      rw [List.length_map] at hbl
      rw [List.take_of_length_le (by rw [List.length_map]; exact Nat.le_refl _)] at hbs
      exact k H1 D S1 ⟨hD, bs, gD, by rw [hbl, List.length_map], fun i b r h1 h2 => ⟨(hbs i b r h1 h2).1, (hbs i b r h1 h2).2.2⟩⟩
theorem oV_non {o : Option Int} : decide (oV o ≠ V.non) = o.isSome := by cases o <;> simp [oV]
theorem ok_law_is_closer (T : Tx K w mg Z) : FnOk P w K mg base CX0 3 Z.a_law_is_closer Z.d_law_is_closer P_law_is_closer (spClose K) := by
  refine T.F_law_is_closer.ok sclaw_is_closer (fun vs H Q E h => ?_) (fun cdv A outer s H vs Q E hr h => ?_)
  · obtain ⟨a, b, ok, ok', rs, rs', rfl, _⟩ := h
    rfl
  · obtain ⟨a, b, ok, ok', rs, rs', rfl, ⟨_, bs, ea, hbl, hb⟩, ⟨_, cs, eb, hcl, hc⟩, ⟨hl, cl⟩, h60, k⟩ := h
    refine ⟨_, (pss_cons (ps_for PassesOwn.never rfl (pi_range1 (by rfl) T.b_range (pa_cons (pe_callB (lenK (K := K)) (by rfl) T.b_len (by decide +kernel) (pa_cons (pv 1) pa_nil)) pa_nil)) (pg_name (i := 2) sclaw_is_closer.nd rfl (Or.inl rfl)) (C8.pss_cut (ps_if (PW.pt (pw_and (pt_cmpR op_notN (pe_ix (ixL (K := K)) (pe_ix (ixL (K := K)) (pv 0) (pv 2) (fun _ _ => rfl)) pe_int (fun _ _ => rfl)) pe_non (nomark _)) (pw_and1 (PW.pt (pw_or (pt_cmpR op_isN (pe_ix (ixL (K := K)) (pe_ix (ixL (K := K)) (pv 1) (pv 2) (fun _ _ => rfl)) pe_int (fun _ _ => rfl)) pe_non (nomark _)) (pw_or1 (pt_cmpR op_lt (pe_ix (ixL (K := K)) (pe_ix (ixL (K := K)) (pv 1) (pv 2) (fun _ _ => rfl)) pe_int (fun _ _ => rfl)) (pe_ix (ixL (K := K)) (pe_ix (ixL (K := K)) (pv 0) (pv 2) (fun _ _ => rfl)) pe_int (fun _ _ => rfl)) (nomark _)))))))) (pss_one (ps_ret pe_bl)) pss_nil)
      (pss_one (ps_if (PW.pt (pw_and (pt_cmpR op_notN (pe_ix (ixL (K := K)) (pe_ix (ixL (K := K)) (pv 0) (pv 2) (fun _ _ => rfl)) pe_int (fun _ _ => rfl)) pe_non (nomark _)) (pw_and1 (PW.pt (pw_or (pt_cmpR op_isN (pe_ix (ixL (K := K)) (pe_ix (ixL (K := K)) (pv 1) (pv 2) (fun _ _ => rfl)) pe_int (fun _ _ => rfl)) pe_non (nomark _)) (pw_or1 (pt_cmpR op_gt (pe_ix (ixL (K := K)) (pe_ix (ixL (K := K)) (pv 1) (pv 2) (fun _ _ => rfl)) pe_int (fun _ _ => rfl)) (pe_ix (ixL (K := K)) (pe_ix (ixL (K := K)) (pv 0) (pv 2) (fun _ _ => rfl)) pe_int (fun _ _ => rfl)) (nomark _)))))))) (pss_one (ps_ret pe_bl)) pss_nil))))
      (pss_one (ps_ret pe_bl))), ?_⟩
    refine ⟨_, rfl, b, _, rfl, .inl (SqL.of eb), _, rfl, by omega, by rw [refs, List.length_map]; omega, ?_⟩
    refine for_range (lo := 0) (n := ((refs cs).length : Int).toNat) (fun i σ' H' => ∃ u, σ' = [some (.ref a), some (.ref b), u] ∧ H' = H) ⟨_, rfl, rfl⟩ ?_ ?_
    rotate_left
    · rintro σ' H' ⟨_, rfl, rfl⟩
      exact k
    rintro i σ' H1 hi ⟨u, rfl, rfl⟩
    have hi6 : i < cs.length := by simp [refs] at hi; omega
    obtain ⟨b1, hb1⟩ : ∃ x, bs[i]? = some x := ⟨bs[i], List.getElem?_eq_getElem (by omega)⟩
    obtain ⟨c1, hc1⟩ : ∃ x, cs[i]? = some x := ⟨cs[i], List.getElem?_eq_getElem (by omega)⟩
    obtain ⟨r, hr⟩ : ∃ x, rs[i]? = some x := ⟨rs[i], List.getElem?_eq_getElem (by omega)⟩
    obtain ⟨r', hr'⟩ : ∃ x, rs'[i]? = some x := ⟨rs'[i], List.getElem?_eq_getElem (by omega)⟩
    have gb := (hb i b1 r hb1 hr).2
    have gc := (hc i c1 r' hc1 hr').2
    obtain ⟨cl1, cl2⟩ := cl i r r' hr hr'
    have ib : atI (refs bs) (0 + (i : Nat)) = some (.ref b1) := at_of (j := i) (by omega) (by show (bs.map V.ref)[i]? = _; rw [List.getElem?_map, hb1]; rfl)
    have ic : atI (refs cs) (0 + (i : Nat)) = some (.ref c1) := at_of (j := i) (by omega) (by show (cs.map V.ref)[i]? = _; rw [List.getElem?_map, hc1]; rfl)
    obtain ⟨r1, r2⟩ := r
    obtain ⟨p1, p2⟩ := r'
    refine ⟨fun σ' H' => σ' = [some (.ref a), some (.ref b), some (.int (0 + (i : Nat)))] ∧ H' = H1, ?_, ?_⟩
    · refine ⟨_, rfl, _, rfl, a, refs bs, _, .ref b1, rfl, rfl, SqL.of ea, ib, b1, _, _, oV r1, rfl, rfl, SqL.of gb, rfl, rfl, _, rfl, ?_⟩
      cases r1 with
      | none => exact iteF (iteF ⟨rfl, rfl⟩)
      | some m =>
        obtain ⟨m', e', hm⟩ := cl1 m rfl
        have e'' : p1 = some m' := e'
        subst e''
        refine iteT ⟨_, rfl, _, rfl, b, refs cs, _, .ref c1, rfl, rfl, SqL.of eb, ic, c1, _, _, .int m', rfl, rfl, SqL.of gc, rfl, rfl, _, rfl, iteF ⟨_, rfl, _, rfl, b, refs cs, _, .ref c1, rfl, rfl, SqL.of eb, ic, c1, _, _, .int m', rfl, rfl, SqL.of gc, rfl, _, rfl, _, rfl, a, refs bs, _, .ref b1, rfl, rfl, SqL.of ea, ib, b1, _, _, .int m, rfl, rfl, SqL.of gb, rfl, _, _, rfl, rfl, _, rfl, ?_⟩⟩
        rw [decide_eq_false (by omega : ¬ m' < m)]
        exact iteF ⟨rfl, rfl⟩
    · rintro σ' H' ⟨rfl, rfl⟩
      refine ⟨_, rfl, _, rfl, a, refs bs, _, .ref b1, rfl, rfl, SqL.of ea, ib, b1, _, _, oV r2, rfl, rfl, SqL.of gb, rfl, rfl, _, rfl, ?_⟩
      cases r2 with
      | none => exact iteF (iteF ⟨_, rfl, rfl⟩)
      | some m =>
        obtain ⟨m', e', hm⟩ := cl2 m rfl
        have e'' : p2 = some m' := e'
        subst e''
        refine iteT ⟨_, rfl, _, rfl, b, refs cs, _, .ref c1, rfl, rfl, SqL.of eb, ic, c1, _, _, .int m', rfl, rfl, SqL.of gc, rfl, rfl, _, rfl, iteF ⟨_, rfl, _, rfl, b, refs cs, _, .ref c1, rfl, rfl, SqL.of eb, ic, c1, _, _, .int m', rfl, rfl, SqL.of gc, rfl, _, rfl, _, rfl, a, refs bs, _, .ref b1, rfl, rfl, SqL.of ea, ib, b1, _, _, .int m, rfl, rfl, SqL.of gb, rfl, _, _, rfl, rfl, _, rfl, ?_⟩⟩
        rw [decide_eq_false (by omega : ¬ m' > m)]
        exact iteF ⟨_, rfl, rfl⟩
end
end KA
namespace KA
open PySem PySem.Spec PyProof.Rows L2 DP
def spDrop (Z : Ad) (K : PySem.W.Frag) : Sp := fun vs H Q _ => ∃ (d : Addr) (L : Int) (ls : List Lk) (l : Lk), vs = [.ref d, .str l.1, .int l.2.1, .int l.2.2] ∧ DarkAt Z K H d L ls ∧ WordOk l.1 ∧ Sized 300 l ∧ home L l ∈ ls ∧
  ∀ H', DarkAt Z K H' d L (ls.filter fun o => !decide (o = home L l)) → (∀ la dx, H' d = some (.ins Z.C dx (df L la)) → H la = none) → (∀ b o, H b = some o → b ≠ d → H' b = some o) → Q .non H'
section
variable {P : Program} {w : World} {K : PySem.W.Frag} {mg : Str → Option Value} {base : Heap} {Z : Ad}
theorem ok_Dark_drop (T : Tx K w mg Z) : FnOk P w K mg base CX0 5 Z.a_Dark_drop Z.d_Dark_drop P_Dark_drop (spDrop Z K) := by
  refine T.F_Dark_drop.ok scDark_drop (fun vs H Q E h => ?_) (fun cdv A outer s H vs Q E hr h => ?_)
  · obtain ⟨d, L, ls, l, rfl, _⟩ := h
    rfl
  · obtain ⟨d, L, ls, l, rfl, D, hw, hl, hin, k⟩ := h
    obtain ⟨dx, la, xs, h1, h2, h3⟩ := id D.ex
    have hxl : xs.length = ls.length := by rw [dpAll_len h3, List.length_map]
    have hwd : ∀ l ∈ ls, WordOk l.1 := fun l hl => (D.ok l hl).1
    refine ⟨_, (pss_cons (ps_set (i := 4) scDark_drop.nd rfl (Or.inr rfl) (pe_meth (pv 0) T.cl T.m_Darkhome (ok_Darkhome T) (hr.mono (by decide)) T.bb_Darkhome .nil pass0 (pa_cons (pv 1) (pa_cons (pv 2) (pa_cons (pv 3) pa_nil)))))
      (C8.pss_cut (ps_if (pt_cmpR (notInDK (K := K) (rooms hr)) (pv 4) (fldK (K := K) (pv 0) rfl) (by rfl)) (pss_one ps_never) pss_nil)
      (pss_one (ps_fld (pv 0) (pe_lc (own := [("other", 5)]) (g := gName 5) (tt := _) rfl scDark_drop.nd (pi_list (fldK (K := K) (pv 0) rfl)) (blkOk_by (own := [("other", 5)]) (N := N_Dark_drop) (sc := defScope sDark_drop) (by decide +kernel)) (fun _ _ _ _ _ => (pg_name (i := 5) scDark_drop.nd rfl (Or.inl rfl))) (fun _ _ _ _ _ => (pts_one (pt_cmpR (neDK (K := K) hr.units) (pv 5) (pv 4) (nomark _)))) (fun _ _ _ _ _ => (pv 5))) rfl)))), ?_⟩
    refine ⟨_, rfl, d, dx, _, rfl, h1, df_no _ _ (by decide +kernel) (by decide +kernel), _, rfl, _, rfl, _, rfl, d, L, ls, l, rfl, D, hw, hl, fun H1 r S hr => ?_⟩
    refine ⟨fun σ' H' => σ' = [some (.ref d), some (.str l.1), some (.int l.2.1), some (.int l.2.2), some r, none] ∧ H' = H1, ?_, ?_⟩
    · refine ⟨_, rfl, _, rfl, d, Z.C, dx, _, _, rfl, S _ _ h1, T.cl, T.n_looks, df_looks _ _, encL (home L l), ls.map encL, hr, .lst (SqL.of (S _ _ h2)) (dpAll_mono S _ _ h3), shaped_look hw, shaped_looks hwd, _, rfl, ?_⟩
      rw [any_look]
      have e : (!decide (home L l ∈ ls)) = false := by simp [hin]
      rw [e]
      exact iteF ⟨rfl, rfl⟩
    · rintro σ' H' ⟨rfl, rfl⟩
      have h1' := S _ _ h1
      have h2' := S _ _ h2
      have h3' := dpAll_mono S _ _ h3
      refine ⟨_, rfl, d, Z.C, dx, _, _, rfl, h1', T.cl, T.n_looks, df_looks _ _, la, rfl, ⟨_, SqL.of h2'⟩, fun D1 hD => ?_⟩
      refine lc_list (K := K) (a := la) (xs := xs) (fun i H2 => Same H' H2 ∧ ∃ ys, H2 D1 = some (.lst ys) ∧ ys.length ≤ i ∧ DpAll K H2 ys (((ls.take i).filter fun o => !decide (o = home L l)).map encL)) ⟨same_upd hD, [], upd_same, Nat.le_refl _, .nil⟩ (fun i H2 _ ⟨S2, _⟩ => SqL.of (S2 _ _ h2')) ?_ ?_
      · rintro i y H2 hi ⟨S2, ys, hd, hyl, hds⟩
        obtain ⟨e, hdi, hdy⟩ := dpAll_get h3' hi
        obtain ⟨o, ho, rfl⟩ := map_at hdi
        have hok := D.ok o (List.mem_of_getElem? ho)
        have hdy2 := dp_mono S2 _ _ hdy
        have hi' : i < ls.length := (List.getElem?_eq_some_iff.mp ho).1
        refine ⟨rfl, _, rfl, _, rfl, encL o, encL (home L l), hdy2, dp_mono S2 _ _ hr, shaped_look hok.1, shaped_look hw, _, rfl, ?_⟩
        rw [eqv_look]
        have e2 : (ls.take (i + 1)).filter (fun o => !decide (o = home L l)) = (ls.take i).filter (fun o => !decide (o = home L l)) ++ (if (!decide (o = home L l)) = true then [o] else []) := by
          rw [take_snoc ho, List.filter_append]
          cases c : (!decide (o = home L l)) <;> simp [c]
        cases c : (!decide (o = home L l)) with
        | false =>
          refine iteF ⟨S2, ys, hd, by omega, ?_⟩
          rw [e2, c]
          simpa using hds
        | true =>
          refine iteT ⟨_, rfl, ys, hd, small1000 (by have := D.len; omega), same_set S2 hD, _, upd_same, by simp; omega, ?_⟩
          rw [e2, c, if_pos rfl, List.map_append]
          exact acc_step hd (noLs_map noL_encL _) rfl hds hdy2
      · rintro H2 ⟨S2, ys, hd, hyl, hds⟩
        rw [List.take_of_length_le (by rw [hxl]; exact Nat.le_refl _)] at hds
        have h1'' := S2 _ _ h1'
        have hdD : d ≠ D1 := ne_of_none h1' hD
        refine ⟨_, rfl, d, Z.C, dx, df L la, rfl, h1'', T.cl, T.n_looks, (by show 2 < 1000; decide), ?_⟩
        refine k _ ⟨⟨dx, D1, ys, Eq.trans upd_same (congrArg (fun q => some (HO.ins Z.C dx q)) (df_put3 L la D1)), (upd_ne (Ne.symm hdD)).trans hd, dpAll_tups (Tups.upd_ins h1'') _ _ (noLs_map noL_encL _) hds⟩, D.pos, D.big, fun o ho => D.ok o (List.mem_filter.mp ho).1, Nat.le_trans (List.length_filter_le _ _) D.len⟩ (fun la' dx' e => ?_) fun b o e hb => (upd_ne hb).trans (S2 _ _ (S _ _ e))
        rw [upd_same, df_put3] at e
        rw [← df_inj e]
        exact S.free hD
end
end KA
namespace KA
open PySem PySem.Spec PyProof.Rows L2 DP
/-! ### a row of Darks that hear and drop in place; a told list beside it -/
structure RW (Z : Ad) (K : PySem.W.Frag) (H : Hp) (t g : Addr) (n : Nat) (L : Int) (dl tl : Addr) (ds : List Addr) (hs : List (List Lk)) : Prop where
  tr : Tray H t g n
  row : Row Z K H t g dl ds L hs
  offT : ∀ d ∈ ds, Off Z H d L tl tl
  ne : dl ≠ t ∧ dl ≠ g ∧ dl ≠ tl
  nd : ds.Nodup
/-- lists stand, but the deck and a told one; tuples stand -/
structure Stp (t g tl : Addr) (H H' : Hp) : Prop where
  fr : ∀ b vs, H b = some (.lst vs) → b ≠ t → b ≠ g → b ≠ tl → H' b = some (.lst vs)
  tu : Tups H H'
theorem Stp.refl (t g tl : Addr) (H : Hp) : Stp t g tl H H := ⟨fun _ _ e _ _ _ => e, fun _ _ h => h⟩
theorem Stp.trans {t g tl : Addr} {H H1 H2 : Hp} (a : Stp t g tl H H1) (b : Stp t g tl H1 H2) : Stp t g tl H H2 := ⟨fun c vs e n1 n2 n3 => b.fr c vs (a.fr c vs e n1 n2 n3) n1 n2 n3, a.tu.trans b.tu⟩
theorem Stp.same {t g tl : Addr} {H H1 : Hp} (S : Same H H1) : Stp t g tl H H1 := ⟨fun c vs e _ _ _ => S c _ e, Tups.of_same S⟩
theorem Stp.keep {t g tl : Addr} {n : Nat} {H H1 : Hp} (T : Tray H t g n) (k : Keep t g H H1) : Stp t g tl H H1 := ⟨fun c vs e n1 n2 _ => k c _ e n1 n2, Keep.tups T k⟩
theorem tups_but {H H' : Hp} {d C dx : Addr} {fs : List (Str × V)} (hd : H d = some (.ins C dx fs)) (k : ∀ b o, H b = some o → b ≠ d → H' b = some o) : Tups H H' := fun b xs hb => by
  have hbd : b ≠ d := by
    rintro rfl
    rcases hb with e | ⟨q, e⟩ <;> rw [hd] at e <;> cases e
  rcases hb with e | ⟨q, e⟩
  · exact .inl (k _ _ e hbd)
  · exact .inr ⟨q, k _ _ e hbd⟩
theorem Stp.but {t g tl : Addr} {H H1 : Hp} {d C dx : Addr} {fs : List (Str × V)} (hd : H d = some (.ins C dx fs)) (k : ∀ b o, H b = some o → b ≠ d → H1 b = some o) : Stp t g tl H H1 :=
  ⟨fun c vs e _ _ _ => k c _ e (fun z => by rw [z, hd] at e; cases e), tups_but hd k⟩
theorem Stp.push {t g tl : Addr} {H : Hp} {xs : List V} {o : HO} (h : H tl = some (.lst xs)) : Stp t g tl H (upd H tl o) := ⟨fun c vs e _ _ n3 => (upd_ne n3).trans e, Tups.upd_lst h⟩
theorem nodup_at {α : Type} {ds : List α} (nd : ds.Nodup) {i j : Nat} {d : α} (h1 : ds[i]? = some d) (h2 : ds[j]? = some d) : i = j := by
  obtain ⟨hi, e1⟩ := List.getElem?_eq_some_iff.mp h1
  obtain ⟨hj, e2⟩ := List.getElem?_eq_some_iff.mp h2
  have h := List.pairwise_iff_getElem.mp nd
  rcases Nat.lt_trichotomy i j with q | q | q
  · exact absurd (e1.trans e2.symm) (h i j hi hj q)
  · exact q
  · exact absurd (e2.trans e1.symm) (h j i hj hi q)
section
variable {Z : Ad} {K : PySem.W.Frag} {H H1 H2 : Hp} {t g dl tl d : Addr} {ds : List Addr} {L : Int} {hs : List (List Lk)} {ls ls' : List Lk} {n m i : Nat}
theorem RW.up (R : RW Z K H t g n L dl tl ds hs) (h : n ≤ m) : RW Z K H t g m L dl tl ds hs := ⟨R.tr.up h, R.row, R.offT, R.ne, R.nd⟩
theorem RW.same (R : RW Z K H t g n L dl tl ds hs) (S : Same H H1) : RW Z K H1 t g n L dl tl ds hs := ⟨R.tr.same S, R.row.same S, fun d hd => by
  obtain ⟨ls, DD⟩ := R.row.dk.1.mem hd
  exact (R.offT d hd).same DD S, R.ne, R.nd⟩
theorem RW.keep (R : RW Z K H t g n L dl tl ds hs) (T : Tray H1 t g m) (k : Keep t g H H1) : RW Z K H1 t g m L dl tl ds hs := ⟨T, R.row.keep R.tr k R.ne.1 R.ne.2.1, fun d hd => by
  obtain ⟨ls, DD⟩ := R.row.dk.1.mem hd
  exact (R.offT d hd).keep DD R.tr k, R.ne, R.nd⟩
theorem RW.at_ (R : RW Z K H t g n L dl tl ds hs) (h1 : ds[i]? = some d) : ∃ ls, hs[i]? = some ls ∧ DarkAt Z K H d L ls := R.row.dk.1.get h1
/-- another told list, made later -/
theorem RW.new (R : RW Z K H t g n L dl t ds hs) (hT : ∀ d ∈ ds, ∀ la dx, H d = some (.ins Z.C dx (df L la)) → la ≠ tl) (hd : dl ≠ tl) : RW Z K H t g n L dl tl ds hs := ⟨R.tr, R.row, fun d h la dx e => ⟨hT d h la dx e, hT d h la dx e⟩, ⟨R.ne.1, R.ne.2.1, hd⟩, R.nd⟩
theorem tray_but {C dx : Addr} {fs : List (Str × V)} (T : Tray H t g n) (hd : H d = some (.ins C dx fs)) (k : ∀ b o, H b = some o → b ≠ d → H1 b = some o) : Tray H1 t g n := by
  obtain ⟨⟨gs, f, c, e1, e2, r⟩, hne⟩ := T
  exact ⟨⟨gs, f, c, k _ _ e1 (fun e => by rw [e, hd] at e1; cases e1), k _ _ e2 (fun e => by rw [e, hd] at e2; cases e2), r⟩, hne⟩
/-- one of them has other looks now -/
theorem RW.hear (R : RW Z K H1 t g n L dl tl ds hs) (hi : ds[i]? = some d) (D2 : DarkAt Z K H2 d L ls') (f3 : ∀ la dx, H2 d = some (.ins Z.C dx (df L la)) → (∃ dx', H1 d = some (.ins Z.C dx' (df L la))) ∨ H1 la = none) (htl : H1 tl ≠ none) (k3 : ∀ b o, H1 b = some o → b ≠ d → H2 b = some o) : RW Z K H2 t g n L dl tl ds (hs.set i ls') ∧ Stp t g tl H1 H2 := by
  obtain ⟨ls, hl, DD⟩ := R.at_ hi
  obtain ⟨dx, la, vs, g1, g2, g3⟩ := id DD.ex
  have hm := List.mem_of_getElem? hi
  have rl := R.row.l
  have dD : dl ≠ d := fun e => by rw [e, g1] at rl; cases rl
  have tu := tups_but g1 k3
  have T2 := tray_but R.tr g1 k3
  have hlen := R.row.dk.1.1
  have at_ : ∀ d' ∈ ds, d' ≠ d → ∀ la' dx', H2 d' = some (.ins Z.C dx' (df L la')) → H1 d' = some (.ins Z.C dx' (df L la')) := fun d' h' n' la' dx' e => by
    obtain ⟨ls', DD'⟩ := R.row.dk.1.mem h'
    obtain ⟨dx2, la2, vs2, q1, _⟩ := DD'.ex
    have q2 := k3 _ _ q1 n'
    rw [e] at q2
    rw [q1, q2]
  have tne := R.tr
  have off : ∀ {p : Addr}, H1 p ≠ none → (∀ d' ∈ ds, ∀ la' dx', H1 d' = some (.ins Z.C dx' (df L la')) → la' ≠ p) → ∀ d' ∈ ds, ∀ la' dx', H2 d' = some (.ins Z.C dx' (df L la')) → la' ≠ p := fun {p} hp h d' h' la' dx' e => by
    by_cases c : d' = d
    · subst c
      rcases f3 la' dx' e with ⟨dx0, e0⟩ | e0
      · exact h d' h' la' dx0 e0
      · exact fun z => hp (by rw [← z]; exact e0)
    · exact h d' h' la' dx' (at_ d' h' c la' dx' e)
  have ht : H1 t ≠ none := by
    obtain ⟨⟨gs, f, c, e1, e2, r⟩, hne⟩ := R.tr
    rw [e1]; exact Option.some_ne_none _
  have hg : H1 g ≠ none := by
    obtain ⟨⟨gs, f, c, e1, e2, r⟩, hne⟩ := R.tr
    rw [e2]; exact Option.some_ne_none _
  have hdl : H1 dl ≠ none := by rw [rl]; exact Option.some_ne_none _
  have o1 := off ht fun d' h' la' dx' e => (R.row.dk.2 d' h' la' dx' e).1
  have o2 := off hg fun d' h' la' dx' e => (R.row.dk.2 d' h' la' dx' e).2
  have o3 := off hdl fun d' h' la' dx' e => (R.row.off d' h' la' dx' e).1
  have o4 := off htl fun d' h' la' dx' e => (R.offT d' h' la' dx' e).1
  refine ⟨⟨T2, ⟨k3 _ _ rl dD, ⟨⟨by rw [List.length_set]; exact hlen, fun j d' ls2 e1 e2 => ?_⟩, fun d' h' la' dx' e => ⟨o1 d' h' la' dx' e, o2 d' h' la' dx' e⟩⟩, fun d' h' la' dx' e => ⟨o3 d' h' la' dx' e, o3 d' h' la' dx' e⟩⟩, fun d' h' la' dx' e => ⟨o4 d' h' la' dx' e, o4 d' h' la' dx' e⟩, R.ne, R.nd⟩, Stp.but g1 k3⟩
  by_cases c : i = j
  · subst c
    rw [List.getElem?_set_self (List.getElem?_eq_some_iff.mp hl).1] at e2
    rw [hi] at e1
    have a1 : d = d' := Option.some.inj e1
    have a2 : ls' = ls2 := Option.some.inj e2
    subst a1 a2
    exact D2
  · rw [List.getElem?_set_ne c] at e2
    have n' : d' ≠ d := fun e => by
      subst e
      exact c (nodup_at R.nd hi e1)
    have DD' := R.row.dk.1.2 j d' ls2 e1 e2
    obtain ⟨dx2, la2, vs2, q1, q2, q3⟩ := DD'.ex
    have nla : la2 ≠ d := fun e => by rw [e, g1] at q2; cases q2
    exact ⟨⟨dx2, la2, vs2, k3 _ _ q1 n', k3 _ _ q2 nla, dpAll_tups tu _ _ (noLs_map noL_encL ls2) q3⟩, DD'.pos, DD'.big, DD'.ok, DD'.len⟩
/-- one that is none of them has other looks now -/
theorem RW.but {C dx : Addr} {fs : List (Str × V)} (R : RW Z K H1 t g n L dl tl ds hs) (hd : H1 d = some (.ins C dx fs)) (hn : d ∉ ds) (k3 : ∀ b o, H1 b = some o → b ≠ d → H2 b = some o) : RW Z K H2 t g n L dl tl ds hs := by
  have rl := R.row.l
  have at_ : ∀ d' ∈ ds, ∀ la' dx', H2 d' = some (.ins Z.C dx' (df L la')) → H1 d' = some (.ins Z.C dx' (df L la')) := fun d' h' la' dx' e => by
    obtain ⟨ls', DD'⟩ := R.row.dk.1.mem h'
    obtain ⟨dx2, la2, vs2, q1, _⟩ := DD'.ex
    have q2 := k3 _ _ q1 (fun z => hn (z ▸ h'))
    rw [e] at q2
    rw [q1, q2]
  refine ⟨tray_but R.tr hd k3, ⟨k3 _ _ rl (fun e => by rw [e, hd] at rl; cases rl), ⟨⟨R.row.dk.1.1, fun j d' ls2 e1 e2 => ?_⟩, fun d' h' la' dx' e => R.row.dk.2 d' h' la' dx' (at_ d' h' la' dx' e)⟩, fun d' h' la' dx' e => R.row.off d' h' la' dx' (at_ d' h' la' dx' e)⟩, fun d' h' la' dx' e => R.offT d' h' la' dx' (at_ d' h' la' dx' e), R.ne, R.nd⟩
  have DD' := R.row.dk.1.2 j d' ls2 e1 e2
  obtain ⟨dx2, la2, vs2, q1, q2, q3⟩ := DD'.ex
  exact ⟨⟨dx2, la2, vs2, k3 _ _ q1 (fun z => hn (z ▸ List.mem_of_getElem? e1)), k3 _ _ q2 (fun e => by rw [e, hd] at q2; cases q2), dpAll_tups (tups_but hd k3) _ _ (noLs_map noL_encL ls2) q3⟩, DD'.pos, DD'.big, DD'.ok, DD'.len⟩
/-- the told list has more -/
theorem RW.push {xs : List V} {o : HO} (R : RW Z K H t g n L dl tl ds hs) (h : H tl = some (.lst xs)) (ht : tl ≠ t) (hg : tl ≠ g) : RW Z K (upd H tl o) t g n L dl tl ds hs := by
  have T2 : Tray (upd H tl o) t g n := by
    obtain ⟨⟨gs, f, c, e1, e2, r⟩, hne⟩ := R.tr
    exact ⟨⟨gs, f, c, (upd_ne (Ne.symm ht)).trans e1, (upd_ne (Ne.symm hg)).trans e2, r⟩, hne⟩
  obtain ⟨a, b⟩ := R.row.dk.acc (o := o) h fun d hd la dx e => (R.offT d hd la dx e).1
  have hdt : ∀ d ∈ ds, d ≠ tl := fun d hd e => by
    obtain ⟨ls, DD⟩ := R.row.dk.1.mem hd
    obtain ⟨dx2, la2, vs2, q1, _⟩ := DD.ex
    rw [e, h] at q1; cases q1
  exact ⟨T2, ⟨(upd_ne R.ne.2.2).trans R.row.l, a, fun d hd la dx e => R.row.off d hd la dx (by rw [upd_ne (hdt d hd)] at e; exact e)⟩, fun d hd la dx e => ⟨b d hd la dx e, b d hd la dx e⟩, R.ne, R.nd⟩
end
/-! ### what was told, row by row -/
def TAt (H : Hp) (t g tl : Addr) (rws : List (List Rw)) : Prop := (tl ≠ t ∧ tl ≠ g) ∧ ∃ as : List Addr, H tl = some (.lst (refs as)) ∧ as.length = rws.length ∧ ∀ (i : Nat) (a : Addr) (rs : List Rw), as[i]? = some a → rws[i]? = some rs → TRow H (fun b => b ≠ t ∧ b ≠ g ∧ b ≠ tl) a rs
theorem TAt.stp {H H' : Hp} {t g tl : Addr} {rws : List (List Rw)} (h : TAt H t g tl rws) (S : Stp t g tl H H') (hk : ∀ vs, H tl = some (.lst vs) → H' tl = some (.lst vs)) : TAt H' t g tl rws := by
  obtain ⟨ne, as, e, hl, ha⟩ := h
  exact ⟨ne, as, hk _ e, hl, fun i a rs h1 h2 => (ha i a rs h1 h2).to fun b vs hb ⟨n1, n2, n3⟩ => ⟨⟨n1, n2, n3⟩, S.fr b vs hb n1 n2 n3⟩⟩
theorem TAt.push {H : Hp} {t g tl a : Addr} {rws : List (List Rw)} {rs : List Rw} (h : TAt H t g tl rws) (ha : TRow H (fun b => b ≠ t ∧ b ≠ g ∧ b ≠ tl) a rs) : ∃ xs, H tl = some (.lst xs) ∧ xs.length = rws.length ∧ TAt (upd H tl (.lst (xs ++ [V.ref a]))) t g tl (rws ++ [rs]) := by
  obtain ⟨ne, as, e, hl, hs⟩ := h
  have mv : ∀ {b rs}, TRow H (fun b => b ≠ t ∧ b ≠ g ∧ b ≠ tl) b rs → TRow (upd H tl (.lst (refs as ++ [V.ref a]))) (fun b => b ≠ t ∧ b ≠ g ∧ b ≠ tl) b rs := fun {b rs} h => h.to fun c vs hc ⟨n1, n2, n3⟩ => ⟨⟨n1, n2, n3⟩, (upd_ne n3).trans hc⟩
  refine ⟨_, e, by simp [refs, hl], ne, as ++ [a], by rw [upd_same]; simp [refs], by simp [hl], fun i b r h1 h2 => ?_⟩
  by_cases c : i < as.length
  · rw [List.getElem?_append_left c] at h1
    rw [List.getElem?_append_left (by omega)] at h2
    exact mv (hs i b r h1 h2)
  · rw [List.getElem?_append_right (by omega)] at h1
    rw [List.getElem?_append_right (by omega), ← hl] at h2
    have hj : i - as.length = 0 := by
      have := (List.getElem?_eq_some_iff.mp h1).1
      simp at this; omega
    rw [hj] at h1 h2
    have a1 : a = b := Option.some.inj h1
    have a2 : rs = r := Option.some.inj h2
    subst a1 a2
    exact mv ha
/-! ### the looks that each of them heard so far -/
def part (qs : List Q4) (k : Nat) : List Lk := (qs.filter fun q => decide (q.1 = (k : Int))).map Prod.snd
def hsAt (L : Int) (nd : Nat) (qs : List Q4) : List (List Lk) := (List.range nd).map fun k => heardAll L (part qs k)
theorem part_mem {qs : List Q4} {k : Nat} {l : Lk} : l ∈ part qs k ↔ ((k : Int), l) ∈ qs := by
  unfold part
  rw [List.mem_map]
  constructor
  · rintro ⟨q, hq, rfl⟩
    rw [List.mem_filter] at hq
    have e : q.1 = (k : Int) := of_decide_eq_true hq.2
    rw [← e]; exact hq.1
  · intro h
    exact ⟨_, List.mem_filter.mpr ⟨h, by simp⟩, rfl⟩
theorem hsAt_len {L : Int} {nd : Nat} {qs : List Q4} : (hsAt L nd qs).length = nd := by simp [hsAt]
theorem hsAt_get {L : Int} {nd : Nat} {qs : List Q4} {k : Nat} (h : k < nd) : (hsAt L nd qs)[k]? = some (heardAll L (part qs k)) := by
  unfold hsAt
  rw [List.getElem?_map, List.getElem?_range h]; rfl
theorem part_snoc (qs : List Q4) (k j : Nat) (l : Lk) : part (qs ++ [((k : Int), l)]) j = if j = k then part qs j ++ [l] else part qs j := by
  unfold part
  rw [List.filter_append]
  by_cases c : j = k
  · subst c
    rw [if_pos rfl]; simp
  · rw [if_neg c]
    have : ¬ (k : Int) = (j : Int) := fun e => c (by omega)
    simp [this]
theorem hsAt_snoc {L : Int} {nd : Nat} {qs : List Q4} {k : Nat} {l : Lk} (h : k < nd) : (hsAt L nd qs).set k (heard L (heardAll L (part qs k)) l) = hsAt L nd (qs ++ [((k : Int), l)]) := by
  refine List.ext_getElem? fun j => ?_
  by_cases c : j < nd
  · rw [hsAt_get c, part_snoc]
    by_cases e : j = k
    · subst e
      rw [List.getElem?_set_self (by rw [hsAt_len]; exact c), if_pos rfl]
      unfold heardAll
      rw [List.foldl_append]; rfl
    · rw [List.getElem?_set_ne (fun z => e z.symm), hsAt_get c, if_neg e]
  · rw [List.getElem?_eq_none (by rw [List.length_set, hsAt_len]; omega), List.getElem?_eq_none (by rw [hsAt_len]; omega)]
theorem hsAt_alike {L : Int} {nd : Nat} {qs ps : List Q4} (h : ∀ o, o ∈ qs ↔ o ∈ ps) : hsAt L nd qs = hsAt L nd ps := by
  refine List.ext_getElem? fun j => ?_
  by_cases c : j < nd
  · rw [hsAt_get c, hsAt_get c]
    congr 1
    refine (fold0_canon L (part qs j)).eq (fold0_canon L (part ps j)) fun o => ?_
    constructor <;> rintro ⟨l, hl, e⟩ <;> refine ⟨l, ?_, e⟩ <;> rw [part_mem] at hl ⊢
    · exact (h _).mp hl
    · exact (h _).mpr hl
  · rw [List.getElem?_eq_none (by rw [hsAt_len]; omega), List.getElem?_eq_none (by rw [hsAt_len]; omega)]
/-- dropped again -/
theorem drop_back {L : Int} {ls : List Lk} {l : Lk} (hh : ∀ o ∈ ls ++ [l], home L o = o) (hn : l ∉ ls) : (heardAll L (ls ++ [l])).filter (fun o => !decide (o = l)) = heardAll L ls := by
  refine (filter_canon (fold0_canon L (ls ++ [l])) _).eq (fold0_canon L ls) fun o => ?_
  constructor
  · rintro ⟨⟨q, hq, e⟩, h2⟩
    have ho : ¬ o = l := by simpa using h2
    rcases List.mem_append.mp hq with h | h
    · exact ⟨q, h, e⟩
    · rw [List.mem_singleton] at h
      subst h
      rw [hh q (by simp)] at e
      exact absurd e ho
  · rintro ⟨q, hq, e⟩
    have hqq := hh q (List.mem_append_left _ hq)
    refine ⟨⟨q, List.mem_append_left _ hq, e⟩, ?_⟩
    rw [hqq] at e
    have : ¬ o = l := fun z => hn (by rw [← z, e]; exact hq)
    simp [this]
/-- what was heard: each of a group fits one hand -/
structure Fit4 (L : Int) (nd : Nat) (qs : List Q4) : Prop where
  ix : ∀ q ∈ qs, ∃ k : Nat, q.1 = (k : Int) ∧ k < nd
  ok : ∀ q ∈ qs, WordOk q.2.1 ∧ Sized 110 q.2 ∧ home L q.2 = q.2
  fit : ∀ k, k < nd → ∃ f, Hand L f ∧ ∀ q ∈ qs, q.1 = ((k : Nat) : Int) → Fits f q.2
theorem Fit4.sub {L : Int} {nd : Nat} {qs ps : List Q4} (h : Fit4 L nd qs) (hs : ∀ q ∈ ps, q ∈ qs) : Fit4 L nd ps :=
  ⟨fun q hq => h.ix q (hs q hq), fun q hq => h.ok q (hs q hq), fun k hk => by
    obtain ⟨f, F, hf⟩ := h.fit k hk
    exact ⟨f, F, fun q hq e => hf q (hs q hq) e⟩⟩
theorem Fit4.clash {L : Int} (hL : 0 < L) {nd : Nat} {qs : List Q4} (h : Fit4 L nd qs) {k : Nat} (hk : k < nd) {ps : List Q4} (hs : ∀ q ∈ ps, q ∈ qs) {l : Lk} (hl : ((k : Int), l) ∈ qs) : ∀ o ∈ heardAll L (part ps k), clashB (home L l) o L = false := fun o ho => by
  obtain ⟨f, F, hf⟩ := h.fit k hk
  obtain ⟨q, hq, rfl⟩ := (heardAll_mem o).mp ho
  rw [clash_home hL]
  exact fit_clash hL F (hf _ hl rfl) (hf _ (hs _ (part_mem.mp hq)) rfl)
theorem heardAll_len {L : Int} (ls : List Lk) : (heardAll L ls).length ≤ ls.length := by
  have := fold_len (L := L) ls []
  simpa [heardAll] using this
theorem part_len (qs : List Q4) (k : Nat) : (part qs k).length ≤ qs.length := by
  unfold part
  rw [List.length_map]
  exact List.length_filter_le _ _
theorem hsAt_more {L : Int} {nd : Nat} {qs : List Q4} {q : Q4} (i : Nat) : ∀ l ∈ (hsAt L nd qs).getD i [], l ∈ (hsAt L nd (qs ++ [q])).getD i [] := fun l hl => by
  by_cases c : i < nd
  · rw [List.getD_eq_getElem?_getD, hsAt_get c] at hl ⊢
    have hl' : l ∈ heardAll L (part qs i) := hl
    obtain ⟨o, ho, e⟩ := (heardAll_mem l).mp hl'
    refine (heardAll_mem l).mpr ⟨o, ?_, e⟩
    rw [part_mem] at ho ⊢
    exact List.mem_append_left _ ho
  · rw [List.getD_eq_getElem?_getD, List.getElem?_eq_none (by rw [hsAt_len]; omega)] at hl
    cases hl
/-- a round: all of them, at times the first one again -/
theorem line_more {L : Int} {nd e : Nat} {qs : List Q4} {q : Q4} (i : Nat) : ∀ l ∈ (hsAt L nd qs ++ (hsAt L nd qs).take e).getD i [], l ∈ (hsAt L nd (qs ++ [q]) ++ (hsAt L nd (qs ++ [q])).take e).getD i [] := fun l hl => by
  have l1 : (hsAt L nd qs).length = nd := hsAt_len
  have l2 : (hsAt L nd (qs ++ [q])).length = nd := hsAt_len
  rw [List.getD_eq_getElem?_getD] at hl ⊢
  by_cases c : i < nd
  · rw [List.getElem?_append_left (by omega)] at hl ⊢
    have := hsAt_more (L := L) (nd := nd) (qs := qs) (q := q) i l (by rw [List.getD_eq_getElem?_getD]; exact hl)
    rwa [List.getD_eq_getElem?_getD] at this
  · rw [List.getElem?_append_right (by omega), l1] at hl
    rw [List.getElem?_append_right (by omega), l2]
    by_cases c2 : i - nd < e
    · rw [List.getElem?_take_of_lt c2] at hl ⊢
      have := hsAt_more (L := L) (nd := nd) (qs := qs) (q := q) (i - nd) l (by rw [List.getD_eq_getElem?_getD]; exact hl)
      rwa [List.getD_eq_getElem?_getD] at this
    · rw [List.getElem?_eq_none (by rw [List.length_take]; omega)] at hl
      cases hl
theorem Darks.line {Z : Ad} {K : PySem.W.Frag} {H : Hp} {ds : List Addr} {L : Int} {hs : List (List Lk)} (a : Darks Z K H ds L hs) (e : Nat) : Darks Z K H (ds ++ ds.take e) L (hs ++ hs.take e) := by
  have h1 := a.1
  refine ⟨by simp [h1], fun i x l e1 e2 => ?_⟩
  by_cases hi : i < ds.length
  · rw [List.getElem?_append_left hi] at e1
    rw [List.getElem?_append_left (by omega)] at e2
    exact a.2 i x l e1 e2
  · rw [List.getElem?_append_right (by omega)] at e1
    rw [List.getElem?_append_right (by omega), ← h1] at e2
    by_cases c2 : i - ds.length < e
    · rw [List.getElem?_take_of_lt c2] at e1 e2
      exact a.2 _ x l e1 e2
    · rw [List.getElem?_eq_none (by rw [List.length_take]; omega)] at e1
      cases e1
end KA
namespace KA
open PySem PySem.Spec PyProof.Rows L2 DP
noncomputable def rowsOf (L : Int) (nd e : Nat) (xs : List Int) (m : Nat) (qs : List Q4) : List Rw := xs.map (rowOf L (hsAt L nd qs ++ (hsAt L nd qs).take e) m)
noncomputable def toldAll (L : Int) (nd e : Nat) (xs : List Int) (m : Nat) (ms : List Q4) (i : Nat) : List (List Rw) := (List.range (i + 1)).map fun j => rowsOf L nd e xs m (ms.take j)
theorem toldAll_succ (L : Int) (nd e : Nat) (xs : List Int) (m : Nat) (ms : List Q4) (i : Nat) : toldAll L nd e xs m ms (i + 1) = toldAll L nd e xs m ms i ++ [rowsOf L nd e xs m (ms.take (i + 1))] := by
  unfold toldAll
  rw [List.range_succ, List.map_append]; rfl
theorem toldAll_get (L : Int) (nd e : Nat) (xs : List Int) (m : Nat) (ms : List Q4) {i j : Nat} (h : j ≤ i) : (toldAll L nd e xs m ms i)[j]? = some (rowsOf L nd e xs m (ms.take j)) := by
  unfold toldAll
  rw [List.getElem?_map, List.getElem?_range (by omega)]; rfl
theorem toldAll_len (L : Int) (nd e : Nat) (xs : List Int) (m : Nat) (ms : List Q4) (i : Nat) : (toldAll L nd e xs m ms i).length = i + 1 := by simp [toldAll]
theorem rows_closer {L : Int} (hL : 0 < L) {nd e : Nat} {xs : List Int} {m : Nat} {qs : List Q4} {q : Q4} : Closer (rowsOf L nd e xs m qs) (rowsOf L nd e xs m (qs ++ [q])) :=
  closer_more hL (by simp [hsAt_len]) (fun i l hl => line_more i l hl) m xs
theorem TAt.get {H : Hp} {t g tl : Addr} {rws : List (List Rw)} (h : TAt H t g tl rws) : ∃ as : List Addr, H tl = some (.lst (refs as)) ∧ as.length = rws.length ∧ ∀ (i : Nat) (rs : List Rw), rws[i]? = some rs → ∃ a, as[i]? = some a ∧ TRow H (fun b => b ≠ t ∧ b ≠ g ∧ b ≠ tl) a rs := by
  obtain ⟨ne, as, e, hl, ha⟩ := h
  refine ⟨as, e, hl, fun i rs hi => ?_⟩
  have hlt := (List.getElem?_eq_some_iff.mp hi).1
  exact ⟨as[i], List.getElem?_eq_getElem (by omega), ha i _ rs (List.getElem?_eq_getElem (by omega)) hi⟩
theorem atI_ref {as : List Addr} {i : Nat} {j : Int} {a : Addr} (e : j = (i : Int)) (h : as[i]? = some a) : atI (refs as) j = some (.ref a) := atI_refs e h
theorem atI_back {as : List Addr} {k i : Nat} {a : Addr} (hk : 0 < k) (h : as[i]? = some a) (e : i + k = as.length) : atI (refs as) (-(k : Int)) = some (.ref a) := by
  unfold atI
  have : ixN (refs as).length (-(k : Int)) = some i := by
    unfold ixN
    rw [if_neg (by omega), if_pos (by simp [refs]; omega)]
    congr 1
    simp [refs]; omega
  rw [this]
  show (as.map V.ref)[i]? = _
  rw [List.getElem?_map, h]; rfl
theorem said_home {L : Int} (hL : 0 < L) {prs : List (Int × Int)} (R : Rises L prs) {l : Lk} (h : Said L prs l) : home L l = l := by
  obtain ⟨_, s, hs, e, _⟩ := h
  obtain ⟨h0, h1⟩ := R.on s hs
  have : l.2.1 / L = 0 := by rw [e]; exact Int.ediv_eq_zero_of_lt h0 h1
  show (l.1, l.2.1 - l.2.1 / L * L, l.2.2 - l.2.1 / L * L) = l
  rw [this, Int.zero_mul, Int.sub_zero, Int.sub_zero]
theorem dp_quad_at {K : PySem.W.Frag} {H : Hp} {a : Addr} {k k' : Int} {l : Lk} (e : k' = k) (h : SqT K H a [.int k', .str l.1, .int l.2.1, .int l.2.2]) : Dp K H (.ref a) (encQ (k, l)) := by subst e; exact dp_quad_of (q := (k', l)) h
theorem hsAt_nil {L : Int} {nd : Nat} : hsAt L nd [] = List.replicate nd [] := by
  refine List.ext_getElem? fun j => ?_
  by_cases c : j < nd
  · rw [hsAt_get c, List.getElem?_replicate, if_pos c]; rfl
  · rw [List.getElem?_eq_none (by rw [hsAt_len]; omega), List.getElem?_eq_none (by simp; omega)]
theorem hsAt_back {L : Int} {nd : Nat} {qs : List Q4} {k : Nat} {l : Lk} (h : k < nd) : (hsAt L nd (qs ++ [((k : Int), l)])).set k (heardAll L (part qs k)) = hsAt L nd qs := by
  refine List.ext_getElem? fun j => ?_
  by_cases c : j < nd
  · rw [hsAt_get c]
    by_cases e : j = k
    · subst e
      rw [List.getElem?_set_self (by rw [hsAt_len]; exact c)]
    · rw [List.getElem?_set_ne (fun z => e z.symm), hsAt_get c, part_snoc, if_neg e]
  · rw [List.getElem?_eq_none (by rw [List.length_set, hsAt_len]; omega), List.getElem?_eq_none (by rw [hsAt_len]; omega)]
theorem Fit4.nil {L : Int} : Fit4 L 0 [] := ⟨(fun _ z => by cases z), (fun _ z => by cases z), fun k z => by omega⟩
theorem Fit4.add {L : Int} (hL : 0 < L) (hLb : L.natAbs < 2 ^ 100) {i : Nat} {qs : List Q4} (h : Fit4 L i qs) {prs : List (Int × Int)} (R : Rises L prs) {ls : List Lk} (hs : ∀ l ∈ ls, Said L prs l) : Fit4 L (i + 1) (qs ++ ls.map fun l => ((i : Int), l)) := by
  obtain ⟨f, F, hf⟩ := R.lead hL
  refine ⟨fun q hq => ?_, fun q hq => ?_, fun k hk => ?_⟩
  · rcases List.mem_append.mp hq with h1 | h1
    · obtain ⟨k, e, hk⟩ := h.ix q h1
      exact ⟨k, e, by omega⟩
    · obtain ⟨l, hl, rfl⟩ := List.mem_map.mp h1
      exact ⟨i, rfl, by omega⟩
  · rcases List.mem_append.mp hq with h1 | h1
    · exact h.ok q h1
    · obtain ⟨l, hl, rfl⟩ := List.mem_map.mp h1
      exact ⟨(hs l hl).1, (hs l hl).sized hL hLb R, said_home hL R (hs l hl)⟩
  · by_cases c : k < i
    · obtain ⟨f2, F2, hf2⟩ := h.fit k c
      refine ⟨f2, F2, fun q hq e => ?_⟩
      rcases List.mem_append.mp hq with h1 | h1
      · exact hf2 q h1 e
      · obtain ⟨l, hl, rfl⟩ := List.mem_map.mp h1
        have e' : (i : Int) = (k : Int) := e
        omega
    · have ek : k = i := by omega
      subst ek
      refine ⟨f, F, fun q hq e => ?_⟩
      rcases List.mem_append.mp hq with h1 | h1
      · obtain ⟨k2, e2, hk2⟩ := h.ix q h1
        rw [e] at e2
        omega
      · obtain ⟨l, hl, rfl⟩ := List.mem_map.mp h1
        exact (hs l hl).fits hf
def spLaw (K : PySem.W.Frag) : Sp := fun vs H Q _ => ∃ (a : Addr) (ns : List Int), vs = [.ref a] ∧ SqL K H a (ns.map V.int) ∧ ns.length ≤ 63 ∧ ∀ H', Q (.bl true) H'
theorem rep_take {ds : List Addr} {c : Int} (c0 : 0 ≤ c) (c1 : c < 2) : ∃ e : Nat, e ≤ 1 ∧ (List.replicate c.toNat ((refs ds).take 1)).flatten = refs (ds.take e) := by
  have : c = 0 ∨ c = 1 := by omega
  rcases this with rfl | rfl
  · exact ⟨0, by omega, by simp [refs]⟩
  · refine ⟨1, by omega, ?_⟩
    show ([(refs ds).take 1]).flatten = _
    simp [refs, List.map_take]
section
variable {P : Program} {w : World} {K : PySem.W.Frag} {mg : Str → Option Value} {base : Heap} {Z : Ad}
theorem ok_law (T : Tx K w mg Z) : FnOk P w K mg base CX0 12 Z.a_law Z.d_law P_law (spLaw K) := by
  refine T.F_law.ok sclaw (fun vs H Q E h => ?_) (fun cdv A outer s H vs Q E hr h => ?_)
  · obtain ⟨a, ns, rfl, _⟩ := h
    rfl
  · obtain ⟨a, ns, rfl, hS, hlen, k⟩ := h
    refine ⟨_, (pss_cons (ps_set (i := 1) sclaw.nd rfl (Or.inr rfl) (pe_call (ok_law_deck T) (hr.mono (by decide)) (by rfl) T.g_law_deck T.F_law_deck.kp T.bb_law_deck .nil pass0 (pa_cons (pv 0) pa_nil)))
      (pss_cons (ps_for PassesOwn.never rfl (pi_range1 (by rfl) T.b_range (pa_cons (pe_op op_add pe_int (pe_callB (call_min2 rfl) (by rfl) T.b_min (by decide +kernel) (pa_cons pe_int (pa_cons (pe_callB (lenK (K := K)) (by rfl) T.b_len (by decide +kernel) (pa_cons (pv 0) pa_nil)) pa_nil)))) pa_nil)) (pg_name (i := 2) sclaw.nd rfl (Or.inl rfl)) (C8.pss_cut (ps_set (i := 3) sclaw.nd rfl (Or.inr rfl) (pe_call (ok_law_wide T) (hr.mono (by decide)) (by rfl) T.g_law_wide T.F_law_wide.kp T.bb_law_wide .nil pass0 (pa_cons (pv 1) pa_nil)))
      (C8.pss_cut (ps_setLc (i := 4) (own := [("k", 5)]) (g := gName 5) (tt := tYes) rfl sclaw.nd rfl rfl (sw_true rfl rfl rfl (by decide +kernel)) (pi_range1 (by rfl) T.b_range (pa_cons (pe_op op_add pe_int (pe_call (ok_law_take T) (hr.mono (by decide)) (by rfl) T.g_law_take T.F_law_take.kp T.bb_law_take .nil pass0 (pa_cons (pv 1) (pa_cons pe_int pa_nil)))) pa_nil)) (blkOk_by (own := [("k", 5)]) (N := N_law) (sc := defScope slaw) (by decide +kernel)) (fun _ _ _ _ _ => (pg_name (i := 5) sclaw.nd rfl (Or.inl rfl))) (fun _ _ _ _ _ => pts_nil) (fun _ _ _ _ _ => (pe_make T.mk_Dark (ok_Dark_init T) (hr.mono (by decide)) (by rfl) T.g_Dark T.bb_Dark_init .nil pass0 (pa_cons (pv 3) pa_nil))))
      (C8.pss_cut (ps_set (i := 6) sclaw.nd rfl (Or.inl rfl) (pe_op op_cat (pv 4) (pe_op op_rep (pe_slice (slL (K := K)) (pv 4) po_none (po_some pe_int)) (pe_call (ok_law_take T) (hr.mono (by decide)) (by rfl) T.g_law_take T.F_law_take.kp T.bb_law_take .nil pass0 (pa_cons (pv 1) (pa_cons pe_int pa_nil))))))
      (C8.pss_cut (ps_setLc (i := 7) (own := [("k", 5)]) (g := gName 5) (tt := tYes) rfl sclaw.nd rfl rfl (sw_true rfl rfl rfl (by decide +kernel)) (pi_range1 (by rfl) T.b_range (pa_cons pe_int pa_nil)) (blkOk_by (own := [("k", 5)]) (N := N_law) (sc := defScope slaw) (by decide +kernel)) (fun _ _ _ _ _ => (pg_name (i := 5) sclaw.nd rfl (Or.inl rfl))) (fun _ _ _ _ _ => pts_nil) (fun _ _ _ _ _ => (pe_op op_sub (pe_call (ok_law_below T) (hr.mono (by decide)) (by rfl) T.g_law_below T.F_law_below.kp T.bb_law_below .nil pass0 (pa_cons (pv 1) (pa_cons (pe_op op_mulW pe_int (pv 3)) pa_nil))) (pe_op op_mulW pe_int (pv 3)))))
      (C8.pss_cut (ps_set (i := 8) sclaw.nd rfl (Or.inl rfl) (pe_ix (ixL (K := K)) (pe_lst (pa_cons (pe_call (ok_law_take T) (hr.mono (by decide)) (by rfl) T.g_law_take T.F_law_take.kp T.bb_law_take .nil pass0 (pa_cons (pv 1) (pa_cons pe_int pa_nil))) (pa_cons (pe_call (ok_law_below T) (hr.mono (by decide)) (by rfl) T.g_law_below T.F_law_below.kp T.bb_law_below .nil pass0 (pa_cons (pv 1) (pa_cons (pe_op op_pow pe_int pe_int) pa_nil))) pa_nil))) (pe_call (ok_law_take T) (hr.mono (by decide)) (by rfl) T.g_law_take T.F_law_take.kp T.bb_law_take .nil pass0 (pa_cons (pv 1) (pa_cons pe_int pa_nil))) (fun _ _ => rfl)))
      (C8.pss_cut (ps_set (i := 9) sclaw.nd rfl (Or.inl rfl) (pe_lst pa_nil))
      (pss_cons (ps_for PassesOwn.never rfl (pi_range1 (by rfl) T.b_range (pa_cons (pe_callB (lenK (K := K)) (by rfl) T.b_len (by decide +kernel) (pa_cons (pv 4) pa_nil)) pa_nil)) (pg_name (i := 5) sclaw.nd rfl (Or.inr rfl)) (C8.pss_cut (ps_set (i := 10) sclaw.nd rfl (Or.inl rfl) (pe_call (ok_law_looks T) (hr.mono (by decide)) (by rfl) T.g_law_looks T.F_law_looks.kp T.bb_law_looks .nil pass0 (pa_cons (pv 1) (pa_cons (pv 3) (pa_cons (pe_call (ok_law_hidden T) (hr.mono (by decide)) (by rfl) T.g_law_hidden T.F_law_hidden.kp T.bb_law_hidden .nil pass0 (pa_cons (pv 1) (pa_cons (pv 3) (pa_cons (pe_op op_add pe_int (pe_call (ok_law_take T) (hr.mono (by decide)) (by rfl) T.g_law_take T.F_law_take.kp T.bb_law_take .nil pass0 (pa_cons (pv 1) (pa_cons pe_int pa_nil)))) pa_nil)))) pa_nil)))))
      (pss_one (ps_expr (pe_bm PySem.F.plainAttrs_list PySem.F.slot_list_extend PySem.F.type_list_extend mt_extend (pv 9) (pa_cons (pe_lc (own := [("word", 11), ("spot", 12), ("there", 13)]) (g := gTup K 3 (gCons (gName 11) (gCons (gName 12) (gCons (gName 13) gNil)))) (tt := tYes) rfl sclaw.nd (pi_list (pv 10)) (blkOk_by (own := [("word", 11), ("spot", 12), ("there", 13)]) (N := N_law) (sc := defScope slaw) (by decide +kernel)) (fun _ _ _ _ _ => (tupK (K := K) (by rfl) (pgs_cons (pg_name (i := 11) sclaw.nd rfl (Or.inl rfl)) (pgs_cons (pg_name (i := 12) sclaw.nd rfl (Or.inl rfl)) (pgs_cons (pg_name (i := 13) sclaw.nd rfl (Or.inl rfl)) pgs_nil))))) (fun _ _ _ _ _ => pts_nil) (fun _ _ _ _ _ => (pe_tup (pa_cons (pv 5) (pa_cons (pv 11) (pa_cons (pv 12) (pa_cons (pv 13) pa_nil))))))) pa_nil))))))
      (C8.pss_cut (ps_set (i := 14) sclaw.nd rfl (Or.inl rfl) (pe_lst (pa_cons (pe_call (ok_law_told T) (hr.mono (by decide)) (by rfl) T.g_law_told T.F_law_told.kp T.bb_law_told .nil pass0 (pa_cons (pv 6) (pa_cons (pv 7) (pa_cons (pv 8) pa_nil)))) pa_nil)))
      (C8.pss_cut (ps_set (i := 9) sclaw.nd rfl (Or.inl rfl) (pe_call (ok_law_mixed T) (hr.mono (by decide)) (by rfl) T.g_law_mixed T.F_law_mixed.kp T.bb_law_mixed .nil pass0 (pa_cons (pv 1) (pa_cons (pe_callB (SD.sortSetDK (K := K) (P := P) (w := w) rfl (rooms64 hr)) (by rfl) T.b_sorted (by decide +kernel) (pa_cons (pe_callTy (SD.setDK (K := K) (P := P) (w := w) rfl (rooms64 hr)) (by rfl) T.b_set (by decide +kernel) (pa_cons (pv 9) pa_nil)) pa_nil)) pa_nil))))
      (pss_cons (ps_for PassesOwn.never rfl (pi_list (pv 9)) (tupK (K := K) (by rfl) (pgs_cons (pg_name (i := 5) sclaw.nd rfl (Or.inr rfl)) (pgs_cons (pg_name (i := 11) sclaw.nd rfl (Or.inl rfl)) (pgs_cons (pg_name (i := 12) sclaw.nd rfl (Or.inl rfl)) (pgs_cons (pg_name (i := 13) sclaw.nd rfl (Or.inl rfl)) pgs_nil))))) (pss_cons (ps_expr (pe_meth (pe_ix (ixL (K := K)) (pv 4) (pv 5) (fun _ _ => rfl)) T.cl T.m_Dark_hear (ok_Dark_hear T) (hr.mono (by decide)) T.bb_Dark_hear .nil pass0 (pa_cons (pv 11) (pa_cons (pv 12) (pa_cons (pv 13) pa_nil)))))
      (pss_cons (ps_expr (pe_bm PySem.F.plainAttrs_list PySem.F.slot_list_append PySem.F.type_list_append mt_append (pv 14) (pa_cons (pe_call (ok_law_told T) (hr.mono (by decide)) (by rfl) T.g_law_told T.F_law_told.kp T.bb_law_told .nil pass0 (pa_cons (pv 6) (pa_cons (pv 7) (pa_cons (pv 8) pa_nil)))) pa_nil)))
      (pss_one (ps_if (pt_not (pt_val (pe_call (ok_law_is_closer T) (hr.mono (by decide)) (by rfl) T.g_law_is_closer T.F_law_is_closer.kp T.bb_law_is_closer .nil pass0 (pa_cons (pe_ix (ixL (K := K)) (pv 14) (pe_un un_neg pe_int) (fun _ _ => rfl)) (pa_cons (pe_ix (ixL (K := K)) (pv 14) (pe_un un_neg pe_int) (fun _ _ => rfl)) pa_nil))))) (pss_one (ps_ret pe_bl)) pss_nil)))))
      (C8.pss_cut (ps_setLc (i := 15) (own := [("dark", 16)]) (g := gName 16) (tt := tYes) rfl sclaw.nd rfl rfl (sw_true rfl rfl rfl (by decide +kernel)) (pi_list (pv 4)) (blkOk_by (own := [("dark", 16)]) (N := N_law) (sc := defScope slaw) (by decide +kernel)) (fun _ _ _ _ _ => (pg_name (i := 16) sclaw.nd rfl (Or.inl rfl))) (fun _ _ _ _ _ => pts_nil) (fun _ _ _ _ _ => (pe_make T.mk_Dark (ok_Dark_init T) (hr.mono (by decide)) (by rfl) T.g_Dark T.bb_Dark_init .nil pass0 (pa_cons (pv 3) pa_nil))))
      (pss_cons (ps_for PassesOwn.never rfl (pi_list (pe_call (ok_law_mixed T) (hr.mono (by decide)) (by rfl) T.g_law_mixed T.F_law_mixed.kp T.bb_law_mixed .nil pass0 (pa_cons (pv 1) (pa_cons (pv 9) pa_nil)))) (tupK (K := K) (by rfl) (pgs_cons (pg_name (i := 5) sclaw.nd rfl (Or.inr rfl)) (pgs_cons (pg_name (i := 11) sclaw.nd rfl (Or.inl rfl)) (pgs_cons (pg_name (i := 12) sclaw.nd rfl (Or.inl rfl)) (pgs_cons (pg_name (i := 13) sclaw.nd rfl (Or.inl rfl)) pgs_nil))))) (pss_one (ps_expr (pe_meth (pe_ix (ixL (K := K)) (pv 15) (pv 5) (fun _ _ => rfl)) T.cl T.m_Dark_hear (ok_Dark_hear T) (hr.mono (by decide)) T.bb_Dark_hear .nil pass0 (pa_cons (pv 11) (pa_cons (pe_op op_add (pv 12) (pv 3)) (pa_cons (pe_op op_add (pv 13) (pv 3)) pa_nil)))))))
      (C8.pss_cut (ps_if (pt_cmpR (neDK (K := K) hr.units) (pe_call (ok_law_told T) (hr.mono (by decide)) (by rfl) T.g_law_told T.F_law_told.kp T.bb_law_told .nil pass0 (pa_cons (pe_op op_cat (pv 15) (pe_slice (slL (K := K)) (pv 15) po_none (po_some (pe_op op_sub (pe_callB (lenK (K := K)) (by rfl) T.b_len (by decide +kernel) (pa_cons (pv 6) pa_nil)) (pe_callB (lenK (K := K)) (by rfl) T.b_len (by decide +kernel) (pa_cons (pv 4) pa_nil)))))) (pa_cons (pv 7) (pa_cons (pv 8) pa_nil)))) (pe_ix (ixL (K := K)) (pv 14) (pe_un un_neg pe_int) (fun _ _ => rfl)) (nomark _)) (pss_one (ps_ret pe_bl)) pss_nil)
      (pss_one (ps_for PassesOwn.never rfl (pi_range3 (by rfl) T.b_range (pa_cons (pe_op op_sub (pe_callB (lenK (K := K)) (by rfl) T.b_len (by decide +kernel) (pa_cons (pv 9) pa_nil)) pe_int) (pa_cons (pe_callB (call_max2 rfl) (by rfl) T.b_max (by decide +kernel) (pa_cons (pe_un un_neg pe_int) (pa_cons (pe_op op_sub (pe_callB (lenK (K := K)) (by rfl) T.b_len (by decide +kernel) (pa_cons (pv 9) pa_nil)) pe_int) pa_nil))) (pa_cons (pe_un un_neg pe_int) pa_nil)))) (pg_name (i := 17) sclaw.nd rfl (Or.inl rfl)) (pss_cons (ps_asg (pe_ix (ixL (K := K)) (pv 9) (pv 17) (fun _ _ => rfl)) (tupK (K := K) (by rfl) (pgs_cons (pg_name (i := 5) sclaw.nd rfl (Or.inr rfl)) (pgs_cons (pg_name (i := 11) sclaw.nd rfl (Or.inl rfl)) (pgs_cons (pg_name (i := 12) sclaw.nd rfl (Or.inl rfl)) (pgs_cons (pg_name (i := 13) sclaw.nd rfl (Or.inl rfl)) pgs_nil))))))
      (pss_cons (ps_expr (pe_meth (pe_ix (ixL (K := K)) (pv 4) (pv 5) (fun _ _ => rfl)) T.cl T.m_Dark_drop (ok_Dark_drop T) (hr.mono (by decide)) T.bb_Dark_drop .nil pass0 (pa_cons (pv 11) (pa_cons (pe_op op_sub (pv 12) (pv 3)) (pa_cons (pe_op op_sub (pv 13) (pv 3)) pa_nil)))))
      (pss_one (ps_if (pt_cmpR (neDK (K := K) hr.units) (pe_call (ok_law_told T) (hr.mono (by decide)) (by rfl) T.g_law_told T.F_law_told.kp T.bb_law_told .nil pass0 (pa_cons (pv 6) (pa_cons (pv 7) (pa_cons (pv 8) pa_nil)))) (pe_ix (ixL (K := K)) (pv 14) (pv 17) (fun _ _ => rfl)) (nomark _)) (pss_one (ps_ret pe_bl)) pss_nil))))))))))))))))))))
      (pss_one (ps_ret pe_bl)))), ?_⟩
    refine ⟨_, rfl, a, ns, rfl, hS, hlen, fun H0 t g T0 S0 ht hg => ?_⟩
    refine ⟨_, rfl, a, _, rfl, .inl (Same.sqL S0 hS), _, _, rfl, _, _, rfl, rfl, ?_⟩
    obtain ⟨cut, hcut⟩ : ∃ cut, cut = (if ((ns.map V.int).length : Int) < 3 then ((ns.map V.int).length : Int) else 3) := ⟨_, rfl⟩
    have hc0 : 0 ≤ cut := by rw [hcut]; split <;> omega
    have hc4 : cut ≤ 3 := by rw [hcut]; split <;> omega
    refine ⟨1 + cut, by rw [hcut], by omega, by omega, ?_⟩
    refine for_range (n := (1 + cut).toNat) (fun i σ' H' => ∃ (u2 u3 u4 u5 u6 u7 u8 u9 u10 u11 u12 u13 u14 u15 u16 u17 : Option V), σ' = [some (.ref a), some (.ref t), u2, u3, u4, u5, u6, u7, u8, u9, u10, u11, u12, u13, u14, u15, u16, u17] ∧ Tray H' t g (80000 * i)) ⟨_, _, _, _, _, _, _, _, _, _, _, _, _, _, _, _, rfl, T0⟩ ?_ ?_
    rotate_left
    · rintro σ' H' ⟨_, _, _, _, _, _, _, _, _, _, _, _, _, _, _, _, rfl, _⟩
      exact k H'
    rintro i σ' H1 hi ⟨u2, u3, u4, u5, u6, u7, u8, u9, u10, u11, u12, u13, u14, u15, u16, u17, rfl, T1⟩
    have hi4 : i < 4 := by omega
    have hn : ∀ m, m ≤ 80000 * i + 80000 → m < 2 ^ 40 := fun m hm => Nat.lt_of_le_of_lt (by omega : m ≤ 2000000) (by decide)
    obtain ⟨N, eN⟩ : ∃ N, N = 80000 * i := ⟨_, rfl⟩
    have eN2 : 80000 * (i + 1) = N + 80000 := by omega
    rw [eN2]
    rw [← eN] at T1 hn
    have h60 : ∀ m, m ≤ N + 80000 → m < 2 ^ 60 := fun m hm => Nat.lt_trans (hn m hm) (by decide)
    have h59 : ∀ m, m ≤ N + 80000 → m < 2 ^ 59 := fun m hm => Nat.lt_trans (hn m hm) (by decide)
    have h46 : ∀ m, m ≤ N + 80000 → m < 2 ^ 46 := fun m hm => Nat.lt_trans (hn m hm) (by decide)
    clear eN eN2
    -- wide
    refine ⟨fun σ' H' => ∃ L : Int, σ' = [some (.ref a), some (.ref t), some (.int (0 + (i : Nat))), some (.int L), u4, u5, u6, u7, u8, u9, u10, u11, u12, u13, u14, u15, u16, u17] ∧ 0 < L ∧ L ≤ 10 ^ 30 ∧ Tray H' t g (N + 70), ?_, ?_⟩
    · exact ⟨_, rfl, t, g, N, rfl, T1, Nat.lt_trans (hn _ (by omega)) (by decide), fun H2 L hL hL30 T2 k2 => ⟨L, rfl, hL, hL30, T2⟩⟩
    rintro σ1 H2 ⟨L, rfl, hL, hL30, T2⟩
    have hLb := bigL hL hL30
    -- darks
    refine ⟨fun σ' H' => ∃ (dl : Addr) (ds : List Addr), σ' = [some (.ref a), some (.ref t), some (.int (0 + (i : Nat))), some (.int L), some (.ref dl), u5, u6, u7, u8, u9, u10, u11, u12, u13, u14, u15, u16, u17] ∧ RW Z K H' t g (N + 71) L dl t ds (List.replicate ds.length []) ∧ 0 < ds.length ∧ ds.length ≤ 4, ?_, ?_⟩
    · refine ⟨_, rfl, t, g, N + 70, 4, rfl, T2, by decide, by decide, h60 _ (by omega), fun H3 m m0 m1 T3 k3 => ⟨_, _, rfl, rfl, ?_⟩⟩
      refine ⟨1 + m, rfl, by omega, Int.lt_of_le_of_lt (show 1 + m ≤ 7 by omega) (by decide), fun D hD => ?_⟩
      obtain ⟨Dt, Dg⟩ := T3.at_ne hD
      refine lc_range (lo := 0) (n := (1 + m).toNat) (fun j H' => Tray H' t g (N + 71) ∧ ∃ ds : List Addr, ds.length = j ∧ ds.Nodup ∧ Row Z K H' t g D ds L (List.replicate j []))
        ⟨T3.same (same_upd hD), [], rfl, .nil, Row.new L hD⟩ ?_ ?_
      · rintro j H4 hj ⟨T4, ds, hdl, nd, R4⟩
        refine ⟨rfl, yes_ite ?_⟩
        refine ⟨_, rfl, fun d dx hdn hdx hne => ?_⟩
        have S4 : Same H4 (upd (upd H4 dx (.own d)) d (.ins Z.C dx [])) := same_made hdn hdx
        refine ⟨d, dx, L, rfl, upd_same, hL, lt_up hLb (by decide), fun H5 D5 f5 k5 => ⟨rfl, ?_⟩⟩
        have S5 : Same H4 H5 := fun b o e => k5 b o (S4 b o e) (ne_of_none e hdn)
        have hdD : d ≠ D := fun e => by have := R4.l; rw [← e, hdn] at this; cases this
        have hnew : d ∉ ds := fun z => by
          obtain ⟨ls, DD⟩ := R4.dk.1.mem z
          obtain ⟨dx2, la2, vs2, q1, _⟩ := DD.ex
          rw [hdn] at q1; cases q1
        have R5 := R4.step T4 S5 D5 (fun la dx e => S4.free (f5 la dx e))
        refine ⟨_, S5 _ _ R4.l, small1000 (by simp [refs]; omega), ?_, ds ++ [d], by simp [hdl], List.nodup_append.mpr ⟨nd, List.pairwise_singleton _ _, fun x hx y hy e => hnew (by rw [List.mem_singleton] at hy; rw [← hy, ← e]; exact hx)⟩, ?_⟩
        · obtain ⟨⟨gs, f, c, e1, e2, r⟩, hne⟩ := T4.same S5
          exact ⟨⟨gs, f, c, (upd_ne (Ne.symm Dt)).trans e1, (upd_ne (Ne.symm Dg)).trans e2, r⟩, hne⟩
        · rw [List.replicate_succ']; exact R5
      rintro H4 ⟨T4, ds, hdl, nd, R4⟩
      refine ⟨D, ds, rfl, ⟨T4, by rw [hdl]; exact R4, fun d hd la dx e => ⟨(R4.dk.2 d hd la dx e).1, (R4.dk.2 d hd la dx e).1⟩, ⟨Dt, Dg, Dt⟩, nd⟩, by omega, by omega⟩
    rintro σ2 H3 ⟨dl, ds, rfl, R3, hd0, hd4⟩
    obtain ⟨nd, end_⟩ : ∃ nd, nd = ds.length := ⟨_, rfl⟩
    rw [← end_] at hd0 hd4
    have R3' : RW Z K H3 t g (N + 71) L dl t ds (hsAt L nd []) := by
      have e : hsAt L nd [] = List.replicate ds.length [] := by
        rw [← end_]
        refine List.ext_getElem? fun j => ?_
        by_cases c : j < nd
        · rw [hsAt_get c, List.getElem?_replicate, if_pos c]; rfl
        · rw [List.getElem?_eq_none (by rw [hsAt_len]; omega), List.getElem?_eq_none (by simp; omega)]
      rw [e]; exact R3
    clear R3
    -- line
    refine ⟨fun σ' H' => ∃ (lp : Addr) (e : Nat), σ' = [some (.ref a), some (.ref t), some (.int (0 + (i : Nat))), some (.int L), some (.ref dl), u5, some (.ref lp), u7, u8, u9, u10, u11, u12, u13, u14, u15, u16, u17] ∧ RW Z K H' t g (N + 72) L dl t ds (hsAt L nd []) ∧ e ≤ 1 ∧ H' lp = some (.lst (refs (ds ++ ds.take e))) ∧ lp ≠ t ∧ lp ≠ g, ?_, ?_⟩
    · refine ⟨_, rfl, _, rfl, 1, rfl, dl, refs ds, rfl, SqL.of R3'.row.l, fun r hr => ?_⟩
      have ec : cutV (refs ds) none (some (1 : Int)) = (refs ds).take 1 := cut_take (k := 1)
      rw [ec]
      have Sr := same_upd (o := HO.lst ((refs ds).take 1)) hr
      have R4 := R3'.same Sr
      have gr : (upd H3 r (.lst ((refs ds).take 1))) r = some (.lst ((refs ds).take 1)) := upd_same
      obtain ⟨rt, rg⟩ := R3'.tr.at_ne hr
      generalize upd H3 r (.lst ((refs ds).take 1)) = H4 at Sr R4 gr ⊢
      refine ⟨_, rfl, t, g, N + 71, 2, rfl, R4.tr, by decide, by decide, h60 _ (by omega), fun H5 c c0 c1 T5 k5 => ?_⟩
      have R5 := R4.keep T5 k5
      have gr5 := k5 _ _ gr rt rg
      obtain ⟨e, he, ee⟩ := rep_take (ds := ds) c0 c1
      refine ⟨r, c, _, rfl, rfl, gr5, by omega, by omega, ?_, fun p hp => ?_⟩
      · have h1 : ((refs ds).take 1).length ≤ 1 := by rw [List.length_take]; omega
        have h2 : c.toNat ≤ 1 := by omega
        exact Nat.le_trans (Nat.mul_le_mul h1 h2) (by decide)
      rw [ee]
      have Sp := same_upd (o := HO.lst (refs (ds.take e))) hp
      have R6 := R5.same Sp
      have gp : (upd H5 p (.lst (refs (ds.take e)))) p = some (.lst (refs (ds.take e))) := upd_same
      generalize upd H5 p (.lst (refs (ds.take e))) = H6 at Sp R6 gp ⊢
      refine ⟨dl, p, _, _, rfl, rfl, R6.row.l, gp, Nat.le_of_lt (small1000 (by simp [refs]; omega)), fun q hq => ?_⟩
      have ea : refs ds ++ refs (ds.take e) = refs (ds ++ ds.take e) := by simp [refs]
      rw [ea]
      obtain ⟨qt, qg⟩ := R6.tr.at_ne hq
      exact ⟨q, e, rfl, R6.same (same_upd hq), he, upd_same, qt, qg⟩
    rintro σ3 H4 ⟨lp, e, rfl, R4, he, gln, lpt, lpg⟩
    -- spots
    have b4 : (4 * L).natAbs < 2 ^ 103 := by rw [Int.natAbs_mul]; exact Nat.lt_of_lt_of_le (Nat.mul_lt_mul_of_le_of_lt (Nat.le_refl 4) hLb (by decide)) (by decide)
    refine ⟨fun σ' H' => ∃ (sp : Addr) (xs : List Int), σ' = [some (.ref a), some (.ref t), some (.int (0 + (i : Nat))), some (.int L), some (.ref dl), u5, some (.ref lp), some (.ref sp), u8, u9, u10, u11, u12, u13, u14, u15, u16, u17] ∧ RW Z K H' t g (N + 200) L dl t ds (hsAt L nd []) ∧ H' lp = some (.lst (refs (ds ++ ds.take e))) ∧ H' sp = some (.lst (xs.map V.int)) ∧ sp ≠ t ∧ sp ≠ g ∧ xs.length ≤ 60 ∧ ∀ x ∈ xs, x.natAbs < 2 ^ 390, ?_, ?_⟩
    · refine ⟨2, rfl, by decide, by decide, fun D2 hD2 => ?_⟩
      obtain ⟨D2t, D2g⟩ := R4.tr.at_ne hD2
      refine lc_range (lo := 0) (n := 2) (fun j H' => At H4 H' t g (N + 72 + 60 * j) ∧ ∃ xs : List Int, H' D2 = some (.lst (xs.map V.int)) ∧ xs.length = j ∧ ∀ x ∈ xs, x.natAbs < 2 ^ 390)
        ⟨(⟨R4.tr, Keep.refl _ _ _⟩ : At H4 H4 t g (N + 72)).new hD2, [], upd_same, rfl, fun _ z => by cases z⟩ ?_ ?_
      · rintro j H5 hj ⟨A5, xs, gD, hxl, hxs⟩
        refine ⟨rfl, yes_ite ?_⟩
        refine ⟨_, rfl, _, rfl, _, _, rfl, rfl, wide_mul (a := 10) (by decide) hLb (by decide) (by decide) (by decide), t, g, N + 72 + 60 * j, 4 * L, rfl, A5.T, by omega, lt_up b4 (by decide), h59 _ (by omega), fun H6 r r0 r1 T6 k6 => ?_⟩
        refine ⟨_, rfl, _, _, rfl, rfl, wide_mul (a := 10) (by decide) hLb (by decide) (by decide) (by decide), _, _, rfl, rfl, ?_⟩
        refine ⟨_, k6 _ _ gD D2t D2g, small1000 (by simp; omega), ((A5.step T6 k6).acc hD2 D2t D2g).up (by omega), xs ++ [r - 2 * L], by rw [List.map_append]; exact upd_same, by simp [hxl], fun x hx => ?_⟩
        rcases List.mem_append.mp hx with h | h
        · exact hxs x h
        · rw [List.mem_singleton] at h
          subst h
          refine lt_up (m := 103) (Nat.lt_of_le_of_lt ?_ b4) (by decide)
          clear b4 hLb; omega
      rintro H5 ⟨A5, xs, gD, hxl, hxs⟩
      refine ⟨D2, xs, rfl, (R4.keep A5.T A5.k).up (by omega), A5.k _ _ gln lpt lpg, gD, D2t, D2g, by omega, hxs⟩
    rintro σ4 H5 ⟨sp, xs, rfl, R5, gln5, gsp5, spt, spg, hx6, hxs⟩
    clear gln R4 R3'
    -- many
    have e60 : (10 : Int) ^ (60 : Int).toNat = 10 ^ 60 := rfl
    refine ⟨fun σ' H' => ∃ mm : Int, σ' = [some (.ref a), some (.ref t), some (.int (0 + (i : Nat))), some (.int L), some (.ref dl), u5, some (.ref lp), some (.ref sp), some (.int mm), u9, u10, u11, u12, u13, u14, u15, u16, u17] ∧ RW Z K H' t g (N + 300) L dl t ds (hsAt L nd []) ∧ H' lp = some (.lst (refs (ds ++ ds.take e))) ∧ H' sp = some (.lst (xs.map V.int)) ∧ 0 ≤ mm ∧ mm.natAbs < 2 ^ 300, ?_, ?_⟩
    · refine ⟨_, rfl, t, g, N + 200, 9, rfl, R5.tr, by decide, by decide, h60 _ (by omega), fun H6 p p0 p1 T6 k6 => ?_⟩
      refine ⟨_, rfl, _, _, rfl, rfl, ⟨by decide, by decide, by decide⟩, t, g, N + 201, _, rfl, T6, by decide, by decide, h59 _ (by omega), fun H7 s0 s1 s2 T7 k7 => ⟨(by show 2 ≤ sizeLine; decide), fun q hq => ?_⟩⟩
      obtain ⟨qt, qg⟩ := T7.at_ne hq
      have Sq := same_upd (o := HO.lst [V.int p, .int s0]) hq
      have T8 := T7.same Sq
      refine ⟨_, rfl, t, g, N + 261, 2, rfl, T8, by decide, by decide, h60 _ (by omega), fun H9 c c0 c1 T9 k9 => ?_⟩
      have k59 : Keep t g H5 H9 := ((k6.trans k7).trans (Keep.of_same Sq)).trans k9
      obtain ⟨mm, hmm, hmm0, hmm1⟩ : ∃ x : Int, atI [V.int p, .int s0] c = some (.int x) ∧ 0 ≤ x ∧ x.natAbs < 2 ^ 300 := by
        have : c = 0 ∨ c = 1 := by omega
        rcases this with e | e <;> subst e
        · exact ⟨_, rfl, p0, Nat.lt_of_le_of_lt (by omega : p.natAbs ≤ 9) (by decide)⟩
        · refine ⟨_, rfl, s1, Nat.lt_of_le_of_lt (?_ : _ ≤ 10 ^ 60) (by decide)⟩
          rw [e60] at s2
          omega
      exact ⟨q, _, _, _, rfl, rfl, SqL.of (k9 _ _ upd_same qt qg), hmm, mm, rfl, (R5.keep T9 k59).up (by omega), k59 _ _ gln5 lpt lpg, k59 _ _ gsp5 spt spg, hmm0, hmm1⟩
    rintro σ5 H6 ⟨mm, rfl, R6, gln6, gsp6, hmm0, hmm1⟩
    clear gln5 gsp5 R5
    -- heard
    refine ⟨fun σ' H' => ∃ F : Addr, σ' = [some (.ref a), some (.ref t), some (.int (0 + (i : Nat))), some (.int L), some (.ref dl), u5, some (.ref lp), some (.ref sp), some (.int mm), some (.ref F), u10, u11, u12, u13, u14, u15, u16, u17] ∧ H6 F = none ∧ H' = upd H6 F (.lst []), ?_, ?_⟩
    · exact ⟨(by show 0 ≤ sizeLine; decide), fun F hF => ⟨F, rfl, hF, rfl⟩⟩
    rintro σ6 H7 ⟨F, rfl, hF, rfl⟩
    obtain ⟨Ft, Fg⟩ := R6.tr.at_ne hF
    have R7 := R6.same (same_upd (o := HO.lst []) hF)
    have A6 : At H6 H6 t g (N + 300) := ⟨R6.tr, Keep.refl _ _ _⟩
    -- for k
    refine ⟨_, rfl, dl, _, rfl, .inl (SqL.of R7.row.l), _, rfl, by omega, by rw [refs, List.length_map]; omega, ?_⟩
    refine for_range (lo := 0) (n := ((refs ds).length : Int).toNat) (fun j σ' H' => ∃ (u5 u10 u11 u12 u13 : Option V) (qs : List Q4), σ' = [some (.ref a), some (.ref t), some (.int (0 + (i : Nat))), some (.int L), some (.ref dl), u5, some (.ref lp), some (.ref sp), some (.int mm), some (.ref F), u10, u11, u12, u13, u14, u15, u16, u17] ∧ At H6 H' t g (N + 300 + 16010 * j) ∧ LAt K H' F (qs.map encQ) ∧ Fit4 L j qs ∧ qs.length ≤ 15 * j)
      ⟨_, _, _, _, _, [], rfl, A6.new hF, ⟨[], upd_same, .nil⟩, Fit4.nil, Nat.zero_le _⟩ ?_ ?_
    · rintro j σ' H8 hj ⟨u5, u10, u11, u12, u13, qs, rfl, A8, lF8, fit8, hql⟩
      have hj4 : j < 4 := by simp [refs] at hj; omega
      -- some
      refine ⟨fun σ' H' => ∃ (so : Addr) (prs : List Pr) (ls : List Lk), σ' = [some (.ref a), some (.ref t), some (.int (0 + (i : Nat))), some (.int L), some (.ref dl), some (.int (0 + (j : Nat))), some (.ref lp), some (.ref sp), some (.int mm), some (.ref F), some (.ref so), u11, u12, u13, u14, u15, u16, u17] ∧ At H6 H' t g (N + 300 + 16010 * j + 16001) ∧ LAt K H' F (qs.map encQ) ∧ LAt K H' so (ls.map encL) ∧ so ≠ F ∧ Rises L prs ∧ (∀ l ∈ ls, Said L prs l) ∧ ls.length ≤ 15, ?_, ?_⟩
      · refine ⟨_, rfl, _, rfl, _, rfl, _, rfl, _, rfl, t, g, N + 300 + 16010 * j, 5, rfl, A8.T, by decide, by decide, h60 _ (by omega), fun H9 c c0 c1 T9 k9 => ⟨_, _, rfl, rfl, ?_⟩⟩
        have A9 := A8.step T9 k9
        have lF9 := lF8.keep A8.T k9 Ft Fg (noLs_map noL_encQ qs)
        refine ⟨t, g, N + 300 + 16010 * j + 1, L, 1 + c, rfl, T9, Nat.lt_trans (h46 _ (by omega)) (by decide), hL, hL30, by omega, by omega, fun H10 p prs hp B10 lp10 rs hpl => ?_⟩
        have A10 := A9.step B10.T B10.k
        have lF10 := lF9.keep A9.T B10.k Ft Fg (noLs_map noL_encQ qs)
        obtain ⟨pt, pg⟩ := A9.T.at_ne hp
        refine ⟨t, g, p, N + 300 + 16010 * j + 1 + 8000, L, prs, rfl, A10.T, Nat.lt_trans (h46 _ (by omega)) (by decide), hL, hL30, lp10, pt, pg, by omega, fun H11 so ls hso B11 lso said hll => ?_⟩
        have A11 := A10.step B11.T B11.k
        refine ⟨so, prs, ls, rfl, A11.up (by omega), lF10.keep A10.T B11.k Ft Fg (noLs_map noL_encQ qs), lso, fun e => ?_, rs, said, by omega⟩
        obtain ⟨vs, e1, _⟩ := lF10
        rw [e, e1] at hso; cases hso
      rintro σ7 H9 ⟨so, prs, ls, rfl, A9, lF9, lso, hsoF, rs, said, hll⟩
      obtain ⟨sv, gso, dso⟩ := id lso
      obtain ⟨fv, gF, dF⟩ := id lF9
      have hsv : sv.length = ls.length := by rw [dpAll_len dso, List.length_map]
      have hfv : fv.length = qs.length := by rw [dpAll_len dF, List.length_map]
      refine ⟨_, rfl, .inl ⟨rfl, _, SqL.of gF⟩, _, rfl, so, rfl, ⟨_, SqL.of gso⟩, fun D3 hD3 => ?_⟩
      refine lc_list (K := K) (a := so) (xs := sv) (fun i' H' => Same H9 H' ∧ ∃ ys, H' D3 = some (.lst ys) ∧ ys.length = i' ∧ DpAll K H' ys ((ls.take i').map fun l => encQ ((j : Int), l))) ⟨same_upd hD3, [], upd_same, rfl, .nil⟩ (fun i' H' _ ⟨S, _⟩ => SqL.of (S _ _ gso)) ?_ ?_
      · rintro i' y H10 hi' ⟨S10, ys, gD, hyl, dys⟩
        obtain ⟨dd, hdi, hdy⟩ := dpAll_get dso hi'
        obtain ⟨l, hl, rfl⟩ := map_at hdi
        obtain ⟨p, rfl, hp⟩ := dp_look (dp_mono S10 _ _ hdy)
        have hi6 : i' < ls.length := (List.getElem?_eq_some_iff.mp hl).1
        refine ⟨_, _, rfl, hp, rfl, _, _, rfl, _, _, rfl, _, _, rfl, rfl, rfl, yes_ite ?_⟩
        refine ⟨_, rfl, _, rfl, _, rfl, _, rfl, (by show 4 ≤ sizeLine; decide), fun q hq => ?_⟩
        have Sq := same_upd (o := HO.tup [V.int (0 + (j : Nat)), .str l.1, .int l.2.1, .int l.2.2]) hq
        have gq : (upd H10 q (.tup [V.int (0 + (j : Nat)), .str l.1, .int l.2.1, .int l.2.2])) q = some (.tup [V.int (0 + (j : Nat)), .str l.1, .int l.2.1, .int l.2.2]) := upd_same
        have gD2 := Sq _ _ gD
        have dys2 := dpAll_mono Sq _ _ dys
        have dq : Dp K (upd H10 q (.tup [V.int (0 + (j : Nat)), .str l.1, .int l.2.1, .int l.2.2])) (.ref q) (encQ ((j : Int), l)) := dp_quad_at (by omega) (SqT.of gq)
        refine ⟨ys, gD2, small1000 (by omega), same_set (S10.trans Sq) hD3, _, upd_same, by simp [hyl], ?_⟩
        rw [take_snoc hl, List.map_append]
        exact acc_step gD2 (noLs_map (fun l => noL_encQ ((j : Int), l)) _) rfl dys2 dq
      rintro H10 ⟨S10, ys, gD, hyl, dys⟩
      rw [List.take_of_length_le (by omega)] at dys
      have gF10 := S10 _ _ gF
      refine ⟨F, D3, _, _, rfl, rfl, gF10, gD, Nat.le_of_lt (small1000 (by omega)), ?_⟩
      have A10 := A9.sm S10
      have eq2 : (qs ++ ls.map fun l => ((j : Int), l)).map encQ = qs.map encQ ++ ls.map fun l => encQ ((j : Int), l) := by
        rw [List.map_append, List.map_map]; rfl
      refine ⟨_, _, _, _, _, qs ++ ls.map fun l => ((j : Int), l), rfl, (A10.acc hF Ft Fg).up (by omega), ⟨_, upd_same, ?_⟩, fit8.add hL hLb rs said, by simp; omega⟩
      rw [eq2]
      exact dpAll_app (dpAll_tups (Tups.upd_lst gF10) _ _ (noLs_map noL_encQ _) (dpAll_mono S10 _ _ dF)) (dpAll_tups (Tups.upd_lst gF10) _ _ (noLs_map (fun l => noL_encQ ((j : Int), l)) _) dys)
    rintro σ' H8 ⟨u5, u10, u11, u12, u13, qs, rfl, A8, lF8, fit8, hql⟩
    have ern : ((refs ds).length : Int).toNat = nd := by rw [end_, refs, List.length_map]; omega
    rw [ern] at A8 fit8 hql
    replace A8 : At H6 H8 t g (N + 70000) := A8.up (by omega)
    have hq60 : qs.length ≤ 60 := by omega
    have R8 := (R6.keep A8.T A8.k)
    have gln8 := A8.k _ _ gln6 lpt lpg
    have gsp8 := A8.k _ _ gsp6 spt spg
    clear R7 R6 gln6 gsp6
    have dkl : ∀ {H' : Hp} {n : Nat} {tl : Addr} {qs : List Q4}, RW Z K H' t g n L dl tl ds (hsAt L nd qs) → Darks Z K H' (ds ++ ds.take e) L (hsAt L nd qs ++ (hsAt L nd qs).take e) := fun {H' n tl qs} R => Darks.line R.row.dk.1 e
    have hd0' : 0 < (ds ++ ds.take e).length := by rw [List.length_append]; omega
    have hd6' : (ds ++ ds.take e).length ≤ 60 := by rw [List.length_append, List.length_take]; omega
    -- told
    refine ⟨fun σ' H' => ∃ tl : Addr, σ' = [some (.ref a), some (.ref t), some (.int (0 + (i : Nat))), some (.int L), some (.ref dl), u5, some (.ref lp), some (.ref sp), some (.int mm), some (.ref F), u10, u11, u12, u13, some (.ref tl), u15, u16, u17] ∧ Same H8 H' ∧ RW Z K H' t g (N + 70000) L dl tl ds (hsAt L nd []) ∧ TAt H' t g tl [rowsOf L nd e xs mm.toNat []] ∧ lp ≠ tl ∧ sp ≠ tl ∧ F ≠ tl, ?_, ?_⟩
    · refine ⟨_, rfl, _, rfl, _, rfl, lp, sp, _, L, mm, _, xs, rfl, SqL.of gln8, dkl R8, hd0', hd6', gsp8, hx6, hxs, hmm0, hmm1, fun H9 a9 S9 tr => ⟨(by show 1 ≤ sizeLine; decide), fun tl htl => ?_⟩⟩
      have St := same_upd (o := HO.lst [V.ref a9]) htl
      have S9t := S9.trans St
      have R9 := R8.same S9
      have R10 := R9.same St
      obtain ⟨tlt, tlg⟩ := R9.tr.at_ne htl
      have nla : ∀ d ∈ ds, ∀ la dx, (upd H9 tl (.lst [V.ref a9])) d = some (.ins Z.C dx (df L la)) → la ≠ tl := fun d hd la dx ed z => by
        obtain ⟨ls, DD⟩ := R9.row.dk.1.mem hd
        obtain ⟨dx2, la2, vs2, q1, q2, _⟩ := DD.ex
        have q1' := St _ _ q1
        rw [ed] at q1'
        have := df_inj q1'
        rw [← this, z, htl] at q2
        cases q2
      refine ⟨tl, rfl, S9t, R10.new nla (ne_of_none R9.row.l htl), ⟨⟨tlt, tlg⟩, [a9], upd_same, rfl, fun i' b rs h1 h2 => ?_⟩, ne_of_none (S9 _ _ gln8) htl, ne_of_none (S9 _ _ gsp8) htl, ?_⟩
      · obtain ⟨rfl, rfl⟩ : a9 = b ∧ rowsOf L nd e xs mm.toNat [] = rs := by
          cases i' with
          | zero => exact ⟨Option.some.inj h1, Option.some.inj h2⟩
          | succ m => simp at h1
        refine tr.to fun b vs hb hn => ⟨?_, St _ _ hb⟩
        have h8 := R8.tr.at_ne hn
        exact ⟨h8.1, h8.2, ne_of_none hb htl⟩
      · obtain ⟨vs, e1, _⟩ := lF8
        exact ne_of_none (S9 _ _ e1) htl
    rintro σ8 H9 ⟨tl, rfl, S89, R9, TA9, lptl, sptl, Ftl⟩
    have gln9 := S89 _ _ gln8
    have gsp9 := S89 _ _ gsp8
    have lF9 := lF8.same S89
    obtain ⟨fv9, gF9, dF9⟩ := id lF9
    clear gln8 gsp8 lF8 R8
    -- mixed
    refine ⟨fun σ' H' => ∃ (hm : Addr) (ms : List Q4), σ' = [some (.ref a), some (.ref t), some (.int (0 + (i : Nat))), some (.int L), some (.ref dl), u5, some (.ref lp), some (.ref sp), some (.int mm), some (.ref hm), u10, u11, u12, u13, some (.ref tl), u15, u16, u17] ∧ RW Z K H' t g (N + 70100) L dl tl ds (hsAt L nd []) ∧ TAt H' t g tl [rowsOf L nd e xs mm.toNat []] ∧ Stp t g tl H9 H' ∧ LAt K H' hm (ms.map encQ) ∧ hm ≠ t ∧ hm ≠ g ∧ hm ≠ tl ∧ ms.Nodup ∧ Fit4 L nd ms ∧ ms.length ≤ 60, ?_, ?_⟩
    · refine ⟨_, rfl, _, rfl, ?_⟩
      dsimp only [tNil]
      refine set_sortedQ (SqL.of gF9) dF9 (by omega) fun p ys H10 ms1 S10 hp gp dp nd1 mem1 => ?_
      have R10 := R9.same S10
      have hl1 : ms1.length ≤ qs.length := nodup_le nd1 fun o ho => (mem1 o).mp ho
      obtain ⟨pt, pg⟩ := R9.tr.at_ne hp
      refine ⟨t, g, p, N + 70000, ms1, rfl, R10.tr, h46 _ (by omega), ⟨ys, gp, dp⟩, pt, pg, by omega, fun H11 hm ms hhm A11 lhm perm => ?_⟩
      have stp : Stp t g tl H9 H11 := (Stp.same S10).trans (Stp.keep R10.tr A11.k)
      obtain ⟨hmt, hmg⟩ := R10.tr.at_ne hhm
      obtain ⟨net, as, gtl, _⟩ := id TA9
      have gtl11 : ∀ vs, H9 tl = some (.lst vs) → H11 tl = some (.lst vs) := fun vs ev => A11.k _ _ (S10 _ _ ev) net.1 net.2
      refine ⟨hm, ms, rfl, (R10.keep A11.T A11.k).up (by omega), TA9.stp stp gtl11, stp, lhm, hmt, hmg, Ne.symm (ne_of_none (S10 _ _ gtl) hhm), perm.nodup_iff.mpr nd1, fit8.sub fun q hq => (mem1 q).mp (perm.mem_iff.mp hq), by have := perm.length_eq; omega⟩
    rintro σ9 H10 ⟨hm, ms, rfl, R10, TA10, St10, lhm10, hmt, hmg, hmtl, ndm, fitm, hml⟩
    have gln10 := St10.fr _ _ gln9 lpt lpg lptl
    have gsp10 := St10.fr _ _ gsp9 spt spg sptl
    obtain ⟨hv, ghm10, dhm10⟩ := id lhm10
    have hhv : hv.length = ms.length := by rw [dpAll_len dhm10, List.length_map]
    obtain ⟨net, _⟩ := id TA10
    have wk : ∀ {q : Q4} {j : Nat}, ms[j]? = some q → ∃ k : Nat, q = ((k : Int), q.2) ∧ k < nd ∧ ∃ d, ds[k]? = some d := fun {q j} hq => by
      obtain ⟨k, ek, hk⟩ := fitm.ix q (List.mem_of_getElem? hq)
      exact ⟨k, by rw [← ek], hk, ds[k], List.getElem?_eq_getElem (by omega)⟩
    -- hear
    refine ⟨_, rfl, hm, rfl, ⟨_, SqL.of ghm10⟩, ?_⟩
    refine for_list (K := K) (a := hm) (xs := hv) (fun j σ' H' => ∃ (u5 u11 u12 u13 : Option V), σ' = [some (.ref a), some (.ref t), some (.int (0 + (i : Nat))), some (.int L), some (.ref dl), u5, some (.ref lp), some (.ref sp), some (.int mm), some (.ref hm), u10, u11, u12, u13, some (.ref tl), u15, u16, u17] ∧ RW Z K H' t g (N + 70100) L dl tl ds (hsAt L nd (ms.take j)) ∧ TAt H' t g tl (toldAll L nd e xs mm.toNat ms j) ∧ Stp t g tl H10 H')
      ⟨_, _, _, _, rfl, R10, TA10, Stp.refl _ _ _ _⟩ (fun j σ' H' _ ⟨_, _, _, _, _, _, _, S⟩ => SqL.of (S.fr _ _ ghm10 hmt hmg hmtl)) ?_ ?_
    · rintro j y σ' H11 hj ⟨u5, u11, u12, u13, rfl, R11, TA11, St11⟩
      obtain ⟨dd, hdi, hdy⟩ := dpAll_get dhm10 hj
      obtain ⟨q, hq, rfl⟩ := map_at hdi
      have hjm : j < ms.length := (List.getElem?_eq_some_iff.mp hq).1
      obtain ⟨kk, eq, hkk, d, hd⟩ := wk hq
      obtain ⟨l, el⟩ : ∃ l, l = q.2 := ⟨_, rfl⟩
      rw [← el] at eq
      subst eq
      obtain ⟨p, rfl, hp⟩ := dp_quad (dp_tups St11.tu _ _ (noL_encQ _) hdy)
      refine ⟨_, _, rfl, hp, rfl, _, _, rfl, _, _, rfl, _, _, rfl, _, _, rfl, rfl, ?_⟩
      obtain ⟨lk, hlk, DD⟩ := R11.at_ hd
      rw [hsAt_get hkk] at hlk
      have elk := Option.some.inj hlk
      subst elk
      obtain ⟨dx, la, vs, g1, _, _⟩ := id DD.ex
      have hok := fitm.ok _ (List.mem_of_getElem? hq)
      have hsub : ∀ q ∈ ms.take j, q ∈ ms := fun q h => List.mem_of_mem_take h
      have hlen6 : (heardAll L (part (ms.take j) kk)).length < 60 := by
        have h1 := heardAll_len (L := L) (part (ms.take j) kk)
        have h2 := part_len (ms.take j) kk
        rw [List.length_take] at h2
        omega
      obtain ⟨_, as11, gtl11, hal11, has11⟩ := id TA11
      have htl11 : H11 tl ≠ none := by rw [gtl11]; exact Option.some_ne_none _
      refine ⟨_, rfl, _, rfl, dl, refs ds, _, .ref d, rfl, rfl, SqL.of R11.row.l, atI_ref rfl hd, d, dx, _, rfl, g1, df_no _ _ (by decide +kernel) (by decide +kernel), _, rfl, _, rfl, _, rfl, d, L, _, l, rfl, DD, hok.1, hok.2.1.up (by decide), hlen6, fitm.clash hL hkk hsub (List.mem_of_getElem? hq), fun H12 D12 f12 k12 => ?_⟩
      obtain ⟨R12, St12⟩ := R11.hear hd D12 f12 htl11 k12
      rw [hsAt_snoc hkk, ← take_snoc hq] at R12
      have TA12 := TA11.stp St12 fun vs ev => k12 _ _ ev fun z => by rw [z, g1] at ev; cases ev
      have StA := St11.trans St12
      have gln12 := StA.fr _ _ gln10 lpt lpg lptl
      have gsp12 := StA.fr _ _ gsp10 spt spg sptl
      obtain ⟨_, as12, gtl12, hal12, _⟩ := id TA12
      refine ⟨_, rfl, .inl ⟨rfl, _, SqL.of gtl12⟩, _, rfl, _, rfl, _, rfl, lp, sp, _, L, mm, _, xs, rfl, SqL.of gln12, dkl R12, hd0', hd6', gsp12, hx6, hxs, hmm0, hmm1, fun H13 a13 S13 tr => ?_⟩
      have R13 := R12.same S13
      have gtl13 := S13 _ _ gtl12
      have TA13 := TA12.stp (Stp.same S13) fun vs ev => S13 _ _ ev
      have tr13 : TRow H13 (fun b => b ≠ t ∧ b ≠ g ∧ b ≠ tl) a13 (rowsOf L nd e xs mm.toNat (ms.take (j + 1))) := tr.to fun b vs hb hn => by
        have h8 := R12.tr.at_ne hn
        exact ⟨⟨h8.1, h8.2, Ne.symm (ne_of_none gtl12 hn)⟩, hb⟩
      obtain ⟨xs13, gx13, hxl13, TA14⟩ := TA13.push tr13
      rw [toldAll_len] at hxl13
      rw [← toldAll_succ] at TA14
      refine ⟨tl, xs13, _, rfl, rfl, gx13, small1000 (by omega), ?_⟩
      have R14 := R13.push (o := HO.lst (xs13 ++ [V.ref a13])) gx13 net.1 net.2
      have StB := StA.trans ((Stp.same S13).trans (Stp.push (t := t) (g := g) (o := HO.lst (xs13 ++ [V.ref a13])) gx13))
      generalize upd H13 tl (.lst (xs13 ++ [V.ref a13])) = H14 at TA14 R14 StB ⊢
      obtain ⟨as, gtl14, hal, has⟩ := TA14.get
      rw [toldAll_len] at hal
      obtain ⟨b1, hb1, tb1⟩ := has j _ (toldAll_get L nd e xs mm.toNat ms (by omega : j ≤ j + 1))
      obtain ⟨b2, hb2, tb2⟩ := has (j + 1) _ (toldAll_get L nd e xs mm.toNat ms (by omega : j + 1 ≤ j + 1))
      refine ⟨_, rfl, _, rfl, tl, refs as, _, .ref b1, rfl, rfl, SqL.of gtl14, atI_back (k := 2) (by omega) hb1 (by omega), _, rfl, _, rfl, tl, refs as, _, .ref b2, rfl, rfl, SqL.of gtl14, atI_back (k := 1) (by omega) hb2 (by omega), b1, b2, _, _, _, _, rfl, tb1, tb2, by rw [take_snoc hq]; exact rows_closer hL, by rw [rowsOf, List.length_map]; exact hx6, ?_⟩
      exact ⟨_, rfl, iteF ⟨_, _, _, _, rfl, R14, TA14, StB⟩⟩
    rintro σ' H11 ⟨u5, u11, u12, u13, rfl, R11, TA11, St11⟩
    rw [hhv] at R11 TA11
    have etk : ms.take ms.length = ms := List.take_length
    rw [etk] at R11
    have ghm11 := St11.fr _ _ ghm10 hmt hmg hmtl
    have lhm11 : LAt K H11 hm (ms.map encQ) := ⟨hv, ghm11, dpAll_tups St11.tu _ _ (noLs_map noL_encQ _) dhm10⟩
    have gln11 := St11.fr _ _ gln10 lpt lpg lptl
    have gsp11 := St11.fr _ _ gsp10 spt spg sptl
    clear R10 TA10 R9 TA9 gln9 gsp9 lF9
    -- other
    refine ⟨fun σ' H' => ∃ (ol : Addr) (os : List Addr), σ' = [some (.ref a), some (.ref t), some (.int (0 + (i : Nat))), some (.int L), some (.ref dl), u5, some (.ref lp), some (.ref sp), some (.int mm), some (.ref hm), u10, u11, u12, u13, some (.ref tl), some (.ref ol), u16, u17] ∧ Same H11 H' ∧ RW Z K H' t g (N + 70100) L ol tl os (hsAt L nd []) ∧ os.length = nd ∧ ∀ d ∈ os, d ∉ ds, ?_, ?_⟩
    · obtain ⟨_, as11, gtl11, _⟩ := id TA11
      refine ⟨_, rfl, dl, rfl, ⟨_, SqL.of R11.row.l⟩, fun D hD => ?_⟩
      obtain ⟨Dt, Dg⟩ := R11.tr.at_ne hD
      refine lc_list (K := K) (a := dl) (xs := refs ds) (fun j H' => Same H11 H' ∧ ∃ os : List Addr, os.length = j ∧ os.Nodup ∧ (∀ d ∈ os, H11 d = none) ∧ Row Z K H' t g D os L (List.replicate j []) ∧ ∀ d ∈ os, ∀ la dx, H' d = some (.ins Z.C dx (df L la)) → la ≠ tl)
        ⟨same_upd hD, [], rfl, .nil, (fun _ z => by cases z), Row.new L hD, fun _ z => by cases z⟩ (fun j H' _ ⟨S, _⟩ => SqL.of (S _ _ R11.row.l)) ?_ ?_
      · rintro j y H4 hj ⟨S4', os, hol, nd4, hof, R4, f4⟩
        have hj4 : j < 60 := by
          have := (List.getElem?_eq_some_iff.mp hj).1
          simp [refs] at this; omega
        have T4 := R11.tr.same S4'
        refine ⟨rfl, yes_ite ?_⟩
        refine ⟨_, rfl, fun d dx hdn hdx hne => ?_⟩
        have S4 : Same H4 (upd (upd H4 dx (.own d)) d (.ins Z.C dx [])) := same_made hdn hdx
        refine ⟨d, dx, L, rfl, upd_same, hL, lt_up hLb (by decide), fun H5 D5 f5 k5 => ⟨rfl, ?_⟩⟩
        have S5 : Same H4 H5 := fun b o e => k5 b o (S4 b o e) (ne_of_none e hdn)
        have hdD : d ≠ D := fun e => by have := R4.l; rw [← e, hdn] at this; cases this
        have hnew : d ∉ os := fun z => by
          obtain ⟨ls, DD⟩ := R4.dk.1.mem z
          obtain ⟨dx2, la2, vs2, q1, _⟩ := DD.ex
          rw [hdn] at q1; cases q1
        have R5 := R4.step T4 S5 D5 (fun la dx e => S4.free (f5 la dx e))
        refine ⟨_, S5 _ _ R4.l, small1000 (by simp [refs]; omega), same_set (S4'.trans S5) hD, os ++ [d], by simp [hol], List.nodup_append.mpr ⟨nd4, List.pairwise_singleton _ _, fun x hx y hy e => hnew (by rw [List.mem_singleton] at hy; rw [← hy, ← e]; exact hx)⟩, fun x hx => ?_, by rw [List.replicate_succ']; exact R5, fun x hx la dx2 ex => ?_⟩
        · rcases List.mem_append.mp hx with h | h
          · exact hof x h
          · rw [List.mem_singleton] at h; subst h; exact S4'.free hdn
        · have hxD : x ≠ D := fun z => by rw [z, upd_same] at ex; cases ex
          rw [upd_ne hxD] at ex
          rcases List.mem_append.mp hx with h | h
          · obtain ⟨ls, DD⟩ := R4.dk.1.mem h
            obtain ⟨dx3, la3, vs3, q1, _⟩ := DD.ex
            have q2 := S5 _ _ q1
            rw [ex] at q2
            have q3 := f4 x h la3 dx3 q1
            rw [df_inj q2]; exact q3
          · rw [List.mem_singleton] at h
            subst h
            exact Ne.symm (ne_of_none (S4' _ _ gtl11) (S4.free (f5 la dx2 ex)))
      rintro H4 ⟨S4, os, hol, nd4, hof, R4, f4⟩
      have hon : os.length = nd := by rw [hol, refs, List.length_map, end_]
      have er : List.replicate (refs ds).length ([] : List Lk) = hsAt L nd [] := by
        rw [show (refs ds).length = nd by rw [refs, List.length_map, end_]]; exact hsAt_nil.symm
      rw [er] at R4
      refine ⟨D, os, rfl, S4, ⟨R11.tr.same S4, R4, fun d hd la dx e => ⟨f4 d hd la dx e, f4 d hd la dx e⟩, ⟨Dt, Dg, Ne.symm (ne_of_none gtl11 hD)⟩, nd4⟩, hon, fun d hd hd2 => ?_⟩
      obtain ⟨ls, DD⟩ := R11.row.dk.1.mem hd2
      obtain ⟨dx2, la2, vs2, q1, _⟩ := DD.ex
      rw [hof d hd] at q1; cases q1
    rintro σ10 H12 ⟨ol, os, rfl, S12, O12, hol, hoff⟩
    have R12 := R11.same S12
    have TA12 := TA11.stp (Stp.same S12) fun vs ev => S12 _ _ ev
    have lhm12 := lhm11.same S12
    have gln12 := S12 _ _ gln11
    have gsp12 := S12 _ _ gsp11
    obtain ⟨_, as12, gtl12, _⟩ := id TA12
    -- mixed again
    refine ⟨_, rfl, _, rfl, t, g, hm, N + 70100, ms, rfl, O12.tr, h46 _ (by omega), lhm12, hmt, hmg, hml, fun H13 r ms2 hr A13 lr perm => ?_⟩
    obtain ⟨rv, gr, dr⟩ := lr
    obtain ⟨rt, rg⟩ := O12.tr.at_ne hr
    have rtl : r ≠ tl := Ne.symm (ne_of_none gtl12 hr)
    have R13 := R12.keep A13.T A13.k
    have O13 := O12.keep A13.T A13.k
    have TA13 := TA12.stp (Stp.keep R12.tr A13.k) fun vs ev => A13.k _ _ ev net.1 net.2
    have lhm13 := lhm12.keep R12.tr A13.k hmt hmg (noLs_map noL_encQ ms)
    have gln13 := A13.k _ _ gln12 lpt lpg
    have gsp13 := A13.k _ _ gsp12 spt spg
    have gtl13 := A13.k _ _ gtl12 net.1 net.2
    have hrv : rv.length = ms2.length := by rw [dpAll_len dr, List.length_map]
    have hml2 : ms2.length ≤ 60 := by have := perm.length_eq; omega
    refine ⟨r, rfl, ⟨_, SqL.of gr⟩, ?_⟩
    refine for_list (K := K) (a := r) (xs := rv) (fun j σ' H' => ∃ (u5 u11 u12 u13 : Option V), σ' = [some (.ref a), some (.ref t), some (.int (0 + (i : Nat))), some (.int L), some (.ref dl), u5, some (.ref lp), some (.ref sp), some (.int mm), some (.ref hm), u10, u11, u12, u13, some (.ref tl), some (.ref ol), u16, u17] ∧ RW Z K H' t g (N + 70100 + 70) L dl tl ds (hsAt L nd ms) ∧ RW Z K H' t g (N + 70100 + 70) L ol tl os (hsAt L nd (ms2.take j)) ∧ Stp t g tl H13 H' ∧ ∀ vs, H13 tl = some (.lst vs) → H' tl = some (.lst vs))
      ⟨_, _, _, _, rfl, R13, O13, Stp.refl _ _ _ _, fun _ e => e⟩ (fun j σ' H' _ ⟨_, _, _, _, _, _, _, S, _⟩ => SqL.of (S.fr _ _ gr rt rg rtl)) ?_ ?_
    · rintro j y σ' H14 hj ⟨u5, u11, u12, u13, rfl, R14, O14, St14, kt14⟩
      obtain ⟨dd, hdi, hdy⟩ := dpAll_get dr hj
      obtain ⟨q, hq, rfl⟩ := map_at hdi
      have hqm : q ∈ ms := perm.mem_iff.mp (List.mem_of_getElem? hq)
      obtain ⟨kk, ek, hkk⟩ := fitm.ix q hqm
      obtain ⟨l, el⟩ : ∃ l, l = q.2 := ⟨_, rfl⟩
      have eq : q = ((kk : Int), l) := by rw [← ek, el]
      subst eq
      obtain ⟨p, rfl, hp⟩ := dp_quad (dp_tups St14.tu _ _ (noL_encQ _) hdy)
      refine ⟨_, _, rfl, hp, rfl, _, _, rfl, _, _, rfl, _, _, rfl, _, _, rfl, rfl, ?_⟩
      obtain ⟨d, hd⟩ : ∃ d, os[kk]? = some d := ⟨os[kk], List.getElem?_eq_getElem (by omega)⟩
      obtain ⟨lk, hlk, DD⟩ := O14.at_ hd
      rw [hsAt_get hkk] at hlk
      have elk := Option.some.inj hlk
      subst elk
      obtain ⟨dx, la, vs, g1, _, _⟩ := id DD.ex
      have hok := fitm.ok _ hqm
      have hsub : ∀ q ∈ ms2.take j, q ∈ ms := fun q h => perm.mem_iff.mp (List.mem_of_mem_take h)
      have hjm : j < ms2.length := (List.getElem?_eq_some_iff.mp hq).1
      have hlen6 : (heardAll L (part (ms2.take j) kk)).length < 60 := by
        have h1 := heardAll_len (L := L) (part (ms2.take j) kk)
        have h2 := part_len (ms2.take j) kk
        rw [List.length_take] at h2
        omega
      have eh : home L (l.1, l.2.1 + L, l.2.2 + L) = home L l := by
        have := home_turned hL l.1 l.2.1 l.2.2 1
        rwa [Int.one_mul] at this
      have eh2 : heard L (heardAll L (part (ms2.take j) kk)) (l.1, l.2.1 + L, l.2.2 + L) = heard L (heardAll L (part (ms2.take j) kk)) l := by
        unfold heard
        rw [eh]
      have hL110 : L.natAbs < 2 ^ 110 := lt_up hLb (by decide)
      have hsz : Sized 300 ((l.1, l.2.1 + L, l.2.2 + L) : Lk) := ⟨lt_up (add_lt hok.2.1.1 hL110) (by decide), lt_up (add_lt hok.2.1.2 hL110) (by decide)⟩
      have htl14 : H14 tl ≠ none := by rw [kt14 _ gtl13]; exact Option.some_ne_none _
      refine ⟨_, rfl, _, rfl, ol, refs os, _, .ref d, rfl, rfl, SqL.of O14.row.l, atI_ref rfl hd, d, dx, _, rfl, g1, df_no _ _ (by decide +kernel) (by decide +kernel), _, rfl, _, rfl, _, rfl, _, _, rfl, rfl, _, rfl, _, rfl, _, _, rfl, rfl, d, L, _, (l.1, l.2.1 + L, l.2.2 + L), rfl, DD, hok.1, hsz, hlen6, by rw [eh]; exact fitm.clash hL hkk hsub hqm, fun H15 D15 f15 k15 => ?_⟩
      rw [eh2] at D15
      obtain ⟨O15, St15⟩ := O14.hear hd D15 f15 htl14 k15
      rw [hsAt_snoc hkk, ← take_snoc hq] at O15
      exact ⟨_, _, _, _, rfl, R14.but g1 (hoff d (List.mem_of_getElem? hd)) k15, O15, St14.trans St15, fun vs ev => k15 _ _ (kt14 vs ev) fun z => by have := kt14 vs ev; rw [z, g1] at this; cases this⟩
    rintro σ' H14 ⟨u5, u11, u12, u13, rfl, R14, O14, St14, kt14⟩
    rw [hrv, List.take_length] at O14
    have eal : hsAt L nd ms2 = hsAt L nd ms := hsAt_alike fun o => perm.mem_iff
    rw [eal] at O14
    have TA14 := TA13.stp St14 kt14
    have lhm14 : LAt K H14 hm (ms.map encQ) := by
      obtain ⟨v1, g1, d1⟩ := lhm13
      exact ⟨v1, St14.fr _ _ g1 hmt hmg hmtl, dpAll_tups St14.tu _ _ (noLs_map noL_encQ _) d1⟩
    have gln14 := St14.fr _ _ gln13 lpt lpg lptl
    have gsp14 := St14.fr _ _ gsp13 spt spg sptl
    have hos0 : 0 < (os ++ os.take e).length := by rw [List.length_append]; omega
    have hos6 : (os ++ os.take e).length ≤ 60 := by rw [List.length_append, List.length_take]; omega
    clear R11 TA11 R12 TA12 O12 R13 O13 TA13 lhm11 lhm12 lhm13 gln11 gln12 gln13 gsp11 gsp12 gsp13 St11 A13 A8
    -- the others tell the same
    refine ⟨fun σ' H' => σ' = [some (.ref a), some (.ref t), some (.int (0 + (i : Nat))), some (.int L), some (.ref dl), u5, some (.ref lp), some (.ref sp), some (.int mm), some (.ref hm), u10, u11, u12, u13, some (.ref tl), some (.ref ol), u16, u17] ∧ Same H14 H', ?_, ?_⟩
    · refine ⟨_, rfl, _, rfl, _, rfl, lp, _, rfl, .inl (SqL.of gln14), _, rfl, dl, _, rfl, .inl (SqL.of R14.row.l), _, _, rfl, rfl, _, rfl, ol, refs os, rfl, SqL.of O14.row.l, fun p hp => ?_⟩
      have ec : cutV (refs os) none (some (((refs (ds ++ ds.take e)).length : Int) - ((refs ds).length : Int))) = refs (os.take e) := by
        have ev : (((refs (ds ++ ds.take e)).length : Int) - ((refs ds).length : Int)) = ((e : Nat) : Int) := by
          simp [refs]; omega
        rw [ev, cut_take]
        simp [refs, List.map_take]
      rw [ec]
      have Sp := same_upd (o := HO.lst (refs (os.take e))) hp
      have O15 := O14.same Sp
      have gp : (upd H14 p (.lst (refs (os.take e)))) p = some (.lst (refs (os.take e))) := upd_same
      generalize upd H14 p (.lst (refs (os.take e))) = H15 at Sp O15 gp ⊢
      refine ⟨ol, p, _, _, rfl, rfl, O15.row.l, gp, Nat.le_of_lt (small1000 (by simp [refs]; omega)), fun q hq => ?_⟩
      have ea : refs os ++ refs (os.take e) = refs (os ++ os.take e) := by simp [refs]
      rw [ea]
      have Sq := same_upd (o := HO.lst (refs (os ++ os.take e))) hq
      have O16 := O15.same Sq
      have gq : (upd H15 q (.lst (refs (os ++ os.take e)))) q = some (.lst (refs (os ++ os.take e))) := upd_same
      have Sx := Sp.trans Sq
      generalize upd H15 q (.lst (refs (os ++ os.take e))) = H16 at Sq O16 gq Sx ⊢
      refine ⟨_, rfl, _, rfl, q, sp, _, L, mm, _, xs, rfl, SqL.of gq, Darks.line O16.row.dk.1 e, hos0, hos6, Sx _ _ gsp14, hx6, hxs, hmm0, hmm1, fun H17 a17 S17 tr => ?_⟩
      have TA17 := TA14.stp (Stp.same (Sx.trans S17)) fun vs ev => (Sx.trans S17) _ _ ev
      obtain ⟨as, gtl17, hal, has⟩ := TA17.get
      rw [toldAll_len] at hal
      obtain ⟨b1, hb1, tb1⟩ := has ms.length _ (toldAll_get L nd e xs mm.toNat ms (Nat.le_refl _))
      rw [List.take_length] at tb1
      refine ⟨_, rfl, _, rfl, tl, refs as, _, .ref b1, rfl, rfl, SqL.of gtl17, atI_back (k := 1) (by omega) hb1 (by omega), .list ((rowsOf L nd e xs mm.toNat ms).map rwD), .list ((rowsOf L nd e xs mm.toNat ms).map rwD), tr.dp, tb1.dp, shaped_rows _, shaped_rows _, _, rfl, ?_⟩
      rw [eqv_rows]
      exact iteF ⟨rfl, Sx.trans S17⟩
    rintro σ11 H15 ⟨rfl, S15⟩
    have R15 := R14.same S15
    have TA15 := TA14.stp (Stp.same S15) fun vs ev => S15 _ _ ev
    obtain ⟨hv5, ghm15, dhm15⟩ := lhm14.same S15
    have hhv5 : hv5.length = ms.length := by rw [dpAll_len dhm15, List.length_map]
    have gln15 := S15 _ _ gln14
    have gsp15 := S15 _ _ gsp14
    clear R14 O14 TA14 gln14 gsp14
    -- dropped again
    obtain ⟨i0, ei0⟩ : ∃ i0, i0 = ((hv5.length : Nat) : Int) - 1 := ⟨_, rfl⟩
    obtain ⟨j0, ej0⟩ : ∃ j0, j0 = (if ((hv5.length : Nat) : Int) - 6 > -1 then ((hv5.length : Nat) : Int) - 6 else -1) := ⟨_, rfl⟩
    have j1 : -1 ≤ j0 := by rw [ej0]; split <;> omega
    have j2 : j0 ≤ 60 := by rw [ej0]; split <;> omega
    refine ⟨_, rfl, hm, _, rfl, .inl (SqL.of ghm15), _, _, rfl, rfl, _, rfl, _, rfl, hm, _, rfl, .inl (SqL.of ghm15), _, _, rfl, rfl, _, _, rfl, _, rfl, i0, j0, -1, (i0 - j0).toNat, by rw [ei0, ej0], RgC.neg (Int.le_trans (by decide : -(2 ^ 62) ≤ (-1 : Int)) (by omega)) (Int.lt_of_le_of_lt (by omega : i0 ≤ 60) (by decide)) (Int.le_trans (by decide : -(2 ^ 62) ≤ (-1 : Int)) j1) (Int.lt_of_le_of_lt j2 (by decide)), ?_⟩
    refine for_rangeC (lo := i0) (c := -1) (n := (i0 - j0).toNat) (fun j σ' H' => ∃ (u5 u11 u12 u13 u17 : Option V), σ' = [some (.ref a), some (.ref t), some (.int (0 + (i : Nat))), some (.int L), some (.ref dl), u5, some (.ref lp), some (.ref sp), some (.int mm), some (.ref hm), u10, u11, u12, u13, some (.ref tl), some (.ref ol), u16, u17] ∧ RW Z K H' t g (N + 70100 + 70) L dl tl ds (hsAt L nd (ms.take (ms.length - j))) ∧ TAt H' t g tl (toldAll L nd e xs mm.toNat ms ms.length) ∧ Stp t g tl H15 H')
      ⟨_, _, _, _, _, rfl, by rw [Nat.sub_zero, List.take_length]; exact R15, TA15, Stp.refl _ _ _ _⟩ ?_ ?_
    rotate_left
    · rintro σ' H16 ⟨u5, u11, u12, u13, u17, rfl, R16, _, _⟩
      exact ⟨_, _, _, _, _, _, _, _, _, _, _, _, _, _, _, _, rfl, R16.tr.up (by omega)⟩
    rintro j σ' H16 hj ⟨u5, u11, u12, u13, u17, rfl, R16, TA16, St16⟩
    have hjm : j < ms.length := by omega
    obtain ⟨m, em⟩ : ∃ m, m = ms.length - 1 - j := ⟨_, rfl⟩
    have em1 : ms.length - j = m + 1 := by omega
    have em2 : ms.length - (j + 1) = m := by omega
    rw [em1] at R16
    rw [em2]
    have eat : i0 + ((j : Nat) : Int) * (-1) = (m : Int) := by omega
    rw [eat]
    have hm5 : hv5[m]? = some (hv5[m]'(by omega)) := List.getElem?_eq_getElem _
    generalize hv5[m]'(by omega) = y at hm5
    obtain ⟨dd, hdi, hdy⟩ := dpAll_get dhm15 hm5
    obtain ⟨q, hq, rfl⟩ := map_at hdi
    have hqm := List.mem_of_getElem? hq
    obtain ⟨kk, eq, hkk, d, hd⟩ := wk hq
    obtain ⟨l, el⟩ : ∃ l, l = q.2 := ⟨_, rfl⟩
    rw [← el] at eq
    subst eq
    obtain ⟨p, rfl, hp⟩ := dp_quad (dp_tups St16.tu _ _ (noL_encQ _) hdy)
    have ghm16 := St16.fr _ _ ghm15 hmt hmg hmtl
    refine ⟨_, rfl, _, rfl, hm, hv5, _, .ref p, rfl, rfl, SqL.of ghm16, at_of (j := m) rfl hm5, _, _, rfl, hp, rfl, _, _, rfl, _, _, rfl, _, _, rfl, _, _, rfl, rfl, ?_⟩
    obtain ⟨lk, hlk, DD⟩ := R16.at_ hd
    have etk : ms.take (m + 1) = ms.take m ++ [((kk : Int), l)] := take_snoc hq
    rw [etk, hsAt_get hkk, part_snoc, if_pos rfl] at hlk
    have elk := Option.some.inj hlk
    subst elk
    obtain ⟨dx, la, vs, g1, _, _⟩ := id DD.ex
    have hok := fitm.ok _ hqm
    have eh : home L (l.1, l.2.1 - L, l.2.2 - L) = l := by
      have := home_turned hL l.1 l.2.1 l.2.2 (-1)
      rw [Int.neg_mul, Int.one_mul, ← Int.sub_eq_add_neg, ← Int.sub_eq_add_neg] at this
      rw [this]; exact hok.2.2
    have hL110 : L.natAbs < 2 ^ 110 := lt_up hLb (by decide)
    have hsz : Sized 300 ((l.1, l.2.1 - L, l.2.2 - L) : Lk) := ⟨lt_up (sub_lt hok.2.1.1 hL110) (by decide), lt_up (sub_lt hok.2.1.2 hL110) (by decide)⟩
    have hnl : l ∉ part (ms.take m) kk := fun z => by
      rw [part_mem] at z
      have n1 : (ms.take (m + 1)).Nodup := ndm.sublist (List.take_sublist _ _)
      rw [etk] at n1
      exact (List.nodup_append.mp n1).2.2 _ z _ (List.mem_singleton.mpr rfl) rfl
    have hhm : ∀ o ∈ part (ms.take m) kk ++ [l], home L o = o := fun o ho => by
      rcases List.mem_append.mp ho with h | h
      · exact (fitm.ok _ (List.mem_of_mem_take (part_mem.mp h))).2.2
      · rw [List.mem_singleton] at h; rw [h]; exact hok.2.2
    have htl16 : H16 tl ≠ none := by
      obtain ⟨_, as16, gtl16, _⟩ := id TA16
      rw [gtl16]; exact Option.some_ne_none _
    refine ⟨_, rfl, _, rfl, dl, refs ds, _, .ref d, rfl, rfl, SqL.of R16.row.l, atI_ref rfl hd, d, dx, _, rfl, g1, df_no _ _ (by decide +kernel) (by decide +kernel), _, rfl, _, rfl, _, rfl, _, _, rfl, rfl, _, rfl, _, rfl, _, _, rfl, rfl, d, L, _, (l.1, l.2.1 - L, l.2.2 - L), rfl, DD, hok.1, hsz, by rw [eh]; exact (heardAll_mem l).mpr ⟨l, by simp, hok.2.2.symm⟩, fun H17 D17 f17 k17 => ?_⟩
    rw [eh, drop_back hhm hnl] at D17
    obtain ⟨R17, St17⟩ := R16.hear hd D17 (fun la dx e => .inr (f17 la dx e)) htl16 k17
    rw [etk, hsAt_back hkk] at R17
    have TA17 := TA16.stp St17 fun vs ev => k17 _ _ ev fun z => by rw [z, g1] at ev; cases ev
    have StA := St16.trans St17
    have gln17 := StA.fr _ _ gln15 lpt lpg lptl
    have gsp17 := StA.fr _ _ gsp15 spt spg sptl
    refine ⟨_, rfl, _, rfl, _, rfl, lp, sp, _, L, mm, _, xs, rfl, SqL.of gln17, dkl R17, hd0', hd6', gsp17, hx6, hxs, hmm0, hmm1, fun H18 a18 S18 tr => ?_⟩
    have TA18 := TA17.stp (Stp.same S18) fun vs ev => S18 _ _ ev
    obtain ⟨as, gtl18, hal, has⟩ := TA18.get
    obtain ⟨b1, hb1, tb1⟩ := has m _ (toldAll_get L nd e xs mm.toNat ms (by omega))
    refine ⟨_, rfl, _, rfl, tl, refs as, _, .ref b1, rfl, rfl, SqL.of gtl18, atI_ref rfl hb1, .list ((rowsOf L nd e xs mm.toNat (ms.take m)).map rwD), .list ((rowsOf L nd e xs mm.toNat (ms.take m)).map rwD), tr.dp, tb1.dp, shaped_rows _, shaped_rows _, _, rfl, ?_⟩
    rw [eqv_rows]
    exact iteF ⟨_, _, _, _, _, rfl, R17.same S18, TA18, StA.trans (Stp.same S18)⟩
end
end KA
namespace KA
open PySem PySem.Spec PyProof.Rows L2 DP
theorem g11_of {α : Type} : ∀ {us ws : List α}, (g11 us ws).length = 2 → ∃ a b, us = [a] ∧ ws = [b]
  | [a], [b], _ => ⟨a, b, rfl, rfl⟩
  | [], _, h => nomatch (show (0 : Nat) = 2 from h)
  | [_], [], h => nomatch (show (0 : Nat) = 2 from h)
  | [_], _ :: _ :: _, h => nomatch (show (0 : Nat) = 2 from h)
  | _ :: _ :: _, _, h => nomatch (show (0 : Nat) = 2 from h)
theorem sqt2 {K : PySem.W.Frag} {H : Hp} {t : Addr} {x y : Str} {o : Option Addr} {u v : Tok} {n : Nat} {s : Array (Option Value)} (l : K.lookup t = some ⟨.type "tuple", o, .seq #[.str x u, .str y v] n, s⟩) : SqT K H t [.str x, .str y] :=
  .inr ⟨_, _, n, l, rfl, rfl, (by show 2 ≤ sizeLine; decide), .cons ⟨u, rfl⟩ (.cons ⟨v, rfl⟩ .nil)⟩
theorem sqt3 {K : PySem.W.Frag} {H : Hp} {t : Addr} {x y z : Str} {o : Option Addr} {u v q : Tok} {n : Nat} {s : Array (Option Value)} (l : K.lookup t = some ⟨.type "tuple", o, .seq #[.str x u, .str y v, .str z q] n, s⟩) : SqT K H t [.str x, .str y, .str z] :=
  .inr ⟨_, _, n, l, rfl, rfl, (by show 3 ≤ sizeLine; decide), .cons ⟨u, rfl⟩ (.cons ⟨v, rfl⟩ (.cons ⟨q, rfl⟩ .nil))⟩
theorem all_mk {l : PySem.W.OpenLaw} {w : World} {K : PySem.W.Frag} {h : Heap} {mg : Str → Option Value} {fa : Addr} (X : K.In h) (G : h.Ns mainGlobals mg) (hfa : mg "law" = some (.ref fa))
    {C : Addr}
    {C_Walk : Addr}
    {f0 : Addr} {od0 an0 : Option Addr} {sl0 : Array (Option Value)} {oc0 kV0 dc0 pm0 cd0 ct0 : Value}
    {f1 : Addr} {od1 an1 : Option Addr} {sl1 : Array (Option Value)} {oc1 kV1 dc1 pm1 cd1 ct1 : Value}
    {f2 : Addr} {od2 an2 : Option Addr} {sl2 : Array (Option Value)} {oc2 kV2 dc2 pm2 cd2 ct2 : Value}
    {f3 : Addr} {od3 an3 : Option Addr} {sl3 : Array (Option Value)} {oc3 kV3 dc3 pm3 cd3 ct3 : Value}
    {f4 : Addr} {od4 an4 : Option Addr} {sl4 : Array (Option Value)} {oc4 kV4 dc4 pm4 cd4 ct4 : Value}
    {f5 : Addr} {od5 an5 : Option Addr} {sl5 : Array (Option Value)} {oc5 kV5 dc5 pm5 cd5 ct5 : Value}
    {f6 : Addr} {od6 an6 : Option Addr} {sl6 : Array (Option Value)} {oc6 kV6 dc6 pm6 cd6 ct6 : Value}
    {f7 : Addr} {od7 an7 : Option Addr} {sl7 : Array (Option Value)} {oc7 kV7 dc7 pm7 cd7 ct7 : Value}
    {f8 : Addr} {od8 an8 : Option Addr} {sl8 : Array (Option Value)} {oc8 kV8 dc8 pm8 cd8 ct8 : Value}
    {f9 : Addr} {od9 an9 : Option Addr} {sl9 : Array (Option Value)} {oc9 kV9 dc9 pm9 cd9 ct9 : Value}
    {f10 : Addr} {od10 an10 : Option Addr} {sl10 : Array (Option Value)} {oc10 kV10 dc10 pm10 cd10 ct10 : Value}
    {f11 : Addr} {od11 an11 : Option Addr} {sl11 : Array (Option Value)} {oc11 kV11 dc11 pm11 cd11 ct11 : Value}
    {f12 : Addr} {od12 an12 : Option Addr} {sl12 : Array (Option Value)} {oc12 kV12 dc12 pm12 cd12 ct12 : Value}
    {f13 : Addr} {od13 an13 : Option Addr} {sl13 : Array (Option Value)} {oc13 kV13 dc13 pm13 cd13 ct13 : Value}
    {f14 : Addr} {od14 an14 : Option Addr} {sl14 : Array (Option Value)} {oc14 kV14 dc14 pm14 cd14 ct14 : Value}
    {f15 : Addr} {od15 an15 : Option Addr} {sl15 : Array (Option Value)} {oc15 kV15 dc15 pm15 cd15 ct15 : Value}
    {f16 : Addr} {od16 an16 : Option Addr} {sl16 : Array (Option Value)} {oc16 kV16 dc16 pm16 cd16 ct16 : Value}
    {f17 : Addr} {od17 an17 : Option Addr} {sl17 : Array (Option Value)} {oc17 kV17 dc17 pm17 cd17 ct17 : Value}
    {f18 : Addr} {od18 an18 : Option Addr} {sl18 : Array (Option Value)} {oc18 kV18 dc18 pm18 cd18 ct18 : Value}
    {f19 : Addr} {od19 an19 : Option Addr} {sl19 : Array (Option Value)} {oc19 kV19 dc19 pm19 cd19 ct19 : Value}
    {f20 : Addr} {od20 an20 : Option Addr} {sl20 : Array (Option Value)} {oc20 kV20 dc20 pm20 cd20 ct20 : Value}
    {f21 : Addr} {od21 an21 : Option Addr} {sl21 : Array (Option Value)} {oc21 kV21 dc21 pm21 cd21 ct21 : Value}
    {f22 : Addr} {od22 an22 : Option Addr} {sl22 : Array (Option Value)} {oc22 kV22 dc22 pm22 cd22 ct22 : Value}
    {f23 : Addr} {od23 an23 : Option Addr} {sl23 : Array (Option Value)} {oc23 kV23 dc23 pm23 cd23 ct23 : Value}
    {f24 : Addr} {od24 an24 : Option Addr} {sl24 : Array (Option Value)} {oc24 kV24 dc24 pm24 cd24 ct24 : Value}
    {f25 : Addr} {od25 an25 : Option Addr} {sl25 : Array (Option Value)} {oc25 kV25 dc25 pm25 cd25 ct25 : Value}
    {f26 : Addr} {od26 an26 : Option Addr} {sl26 : Array (Option Value)} {oc26 kV26 dc26 pm26 cd26 ct26 : Value}
    {f27 : Addr} {od27 an27 : Option Addr} {sl27 : Array (Option Value)} {oc27 kV27 dc27 pm27 cd27 ct27 : Value}
    {f28 : Addr} {od28 an28 : Option Addr} {sl28 : Array (Option Value)} {oc28 kV28 dc28 pm28 cd28 ct28 : Value}
    {f29 : Addr} {od29 an29 : Option Addr} {sl29 : Array (Option Value)} {oc29 kV29 dc29 pm29 cd29 ct29 : Value}
    {f30 : Addr} {od30 an30 : Option Addr} {sl30 : Array (Option Value)} {oc30 kV30 dc30 pm30 cd30 ct30 : Value}
    {f31 : Addr} {od31 an31 : Option Addr} {sl31 : Array (Option Value)} {oc31 kV31 dc31 pm31 cd31 ct31 : Value}
    {f32 : Addr} {od32 an32 : Option Addr} {sl32 : Array (Option Value)} {oc32 kV32 dc32 pm32 cd32 ct32 : Value}
    {tSLOW : Tok}
    {tFAST : Tok}
    {aW aL tS tF : Addr} {es : Array DictEntry} {nW n1 n2 n3 : Nat} {o1 o2 o3 : Option Addr} {s1 s2 s3 : Array (Option Value)} {u1 u2 u3 u4 u5 u6 u7 : Tok}
    (aC : PySem.W.nsIn K mainGlobals "Dark" = some (some (.ref C)))
    (aC_Walk : PySem.W.nsIn K mainGlobals "Walk" = some (some (.ref C_Walk)))
    (a0 : PySem.W.nsIn K mainGlobals "_law_deck" = some (some (.ref f0)))
    (l0 : K.lookup f0 = some ⟨oc0, od0, .func (PySem.W.fnOf "_law_deck" "_law_deck" (defArgs slaw_deck) (defBody slaw_deck) (defScope slaw_deck) .none kV0 dc0 pm0 an0 cd0 ct0), sl0⟩)
    (c0 : PySem.W.codeIn K cd0 "_law_deck" = true)
    (k0 : PySem.W.keepIn K (.ref f0) = true)
    (a1 : PySem.W.nsIn K mainGlobals "_law_take" = some (some (.ref f1)))
    (l1 : K.lookup f1 = some ⟨oc1, od1, .func (PySem.W.fnOf "_law_take" "_law_take" (defArgs slaw_take) (defBody slaw_take) (defScope slaw_take) .none kV1 dc1 pm1 an1 cd1 ct1), sl1⟩)
    (c1 : PySem.W.codeIn K cd1 "_law_take" = true)
    (k1 : PySem.W.keepIn K (.ref f1) = true)
    (a2 : PySem.W.nsIn K mainGlobals "_law_below" = some (some (.ref f2)))
    (l2 : K.lookup f2 = some ⟨oc2, od2, .func (PySem.W.fnOf "_law_below" "_law_below" (defArgs slaw_below) (defBody slaw_below) (defScope slaw_below) .none kV2 dc2 pm2 an2 cd2 ct2), sl2⟩)
    (c2 : PySem.W.codeIn K cd2 "_law_below" = true)
    (k2 : PySem.W.keepIn K (.ref f2) = true)
    (a3 : PySem.W.nsIn K mainGlobals "_law_wide" = some (some (.ref f3)))
    (l3 : K.lookup f3 = some ⟨oc3, od3, .func (PySem.W.fnOf "_law_wide" "_law_wide" (defArgs slaw_wide) (defBody slaw_wide) (defScope slaw_wide) .none kV3 dc3 pm3 an3 cd3 ct3), sl3⟩)
    (c3 : PySem.W.codeIn K cd3 "_law_wide" = true)
    (k3 : PySem.W.keepIn K (.ref f3) = true)
    (a4 : PySem.W.nsIn K mainGlobals "_law_hidden" = some (some (.ref f4)))
    (l4 : K.lookup f4 = some ⟨oc4, od4, .func (PySem.W.fnOf "_law_hidden" "_law_hidden" (defArgs slaw_hidden) (defBody slaw_hidden) (defScope slaw_hidden) .none kV4 dc4 pm4 an4 cd4 ct4), sl4⟩)
    (c4 : PySem.W.codeIn K cd4 "_law_hidden" = true)
    (k4 : PySem.W.keepIn K (.ref f4) = true)
    (a5 : PySem.W.nsIn K mainGlobals "_law_looks" = some (some (.ref f5)))
    (l5 : K.lookup f5 = some ⟨oc5, od5, .func (PySem.W.fnOf "_law_looks" "_law_looks" (defArgs slaw_looks) (defBody slaw_looks) (defScope slaw_looks) .none kV5 dc5 pm5 an5 cd5 ct5), sl5⟩)
    (c5 : PySem.W.codeIn K cd5 "_law_looks" = true)
    (k5 : PySem.W.keepIn K (.ref f5) = true)
    (a6 : PySem.W.nsIn K mainGlobals "_law_told" = some (some (.ref f6)))
    (l6 : K.lookup f6 = some ⟨oc6, od6, .func (PySem.W.fnOf "_law_told" "_law_told" (defArgs slaw_told) (defBody slaw_told) (defScope slaw_told) .none kV6 dc6 pm6 an6 cd6 ct6), sl6⟩)
    (c6 : PySem.W.codeIn K cd6 "_law_told" = true)
    (k6 : PySem.W.keepIn K (.ref f6) = true)
    (a7 : PySem.W.nsIn K mainGlobals "_law_is_closer" = some (some (.ref f7)))
    (l7 : K.lookup f7 = some ⟨oc7, od7, .func (PySem.W.fnOf "_law_is_closer" "_law_is_closer" (defArgs slaw_is_closer) (defBody slaw_is_closer) (defScope slaw_is_closer) .none kV7 dc7 pm7 an7 cd7 ct7), sl7⟩)
    (c7 : PySem.W.codeIn K cd7 "_law_is_closer" = true)
    (k7 : PySem.W.keepIn K (.ref f7) = true)
    (a8 : PySem.W.nsIn K mainGlobals "_law_mixed" = some (some (.ref f8)))
    (l8 : K.lookup f8 = some ⟨oc8, od8, .func (PySem.W.fnOf "_law_mixed" "_law_mixed" (defArgs slaw_mixed) (defBody slaw_mixed) (defScope slaw_mixed) .none kV8 dc8 pm8 an8 cd8 ct8), sl8⟩)
    (c8 : PySem.W.codeIn K cd8 "_law_mixed" = true)
    (k8 : PySem.W.keepIn K (.ref f8) = true)
    (a9 : PySem.W.nsIn K mainGlobals "side_looks" = some (some (.ref f9)))
    (l9 : K.lookup f9 = some ⟨oc9, od9, .func (PySem.W.fnOf "side_looks" "side_looks" (defArgs sside_looks) (defBody sside_looks) (defScope sside_looks) .none kV9 dc9 pm9 an9 cd9 ct9), sl9⟩)
    (c9 : PySem.W.codeIn K cd9 "side_looks" = true)
    (k9 : PySem.W.keepIn K (.ref f9) = true)
    (a10 : PySem.W.nsIn K mainGlobals "round_looks" = some (some (.ref f10)))
    (l10 : K.lookup f10 = some ⟨oc10, od10, .func (PySem.W.fnOf "round_looks" "round_looks" (defArgs sround_looks) (defBody sround_looks) (defScope sround_looks) .none kV10 dc10 pm10 an10 cd10 ct10), sl10⟩)
    (c10 : PySem.W.codeIn K cd10 "round_looks" = true)
    (k10 : PySem.W.keepIn K (.ref f10) = true)
    (a11 : PySem.W.nsIn K mainGlobals "place_by" = some (some (.ref f11)))
    (l11 : K.lookup f11 = some ⟨oc11, od11, .func (PySem.W.fnOf "place_by" "place_by" (defArgs splace_by) (defBody splace_by) (defScope splace_by) .none kV11 dc11 pm11 an11 cd11 ct11), sl11⟩)
    (c11 : PySem.W.codeIn K cd11 "place_by" = true)
    (k11 : PySem.W.keepIn K (.ref f11) = true)
    (a12 : PySem.W.nsIn K mainGlobals "best_step" = some (some (.ref f12)))
    (l12 : K.lookup f12 = some ⟨oc12, od12, .func (PySem.W.fnOf "best_step" "best_step" (defArgs sbest_step) (defBody sbest_step) (defScope sbest_step) .none kV12 dc12 pm12 an12 cd12 ct12), sl12⟩)
    (c12 : PySem.W.codeIn K cd12 "best_step" = true)
    (k12 : PySem.W.keepIn K (.ref f12) = true)
    (a13 : PySem.W.findIn K (.ref C_Walk) "__init__" = some (some (.ref f13)))
    (i13 : PySem.W.isFn K (.ref f13) = true)
    (l13 : K.lookup f13 = some ⟨oc13, od13, .func (PySem.W.fnOf "__init__" "Walk.__init__" (defArgs sWalk_init) (defBody sWalk_init) (defScope sWalk_init) .none kV13 dc13 pm13 an13 cd13 ct13), sl13⟩)
    (c13 : PySem.W.codeIn K cd13 "Walk.__init__" = true)
    (k13 : PySem.W.keepIn K (.ref f13) = true)
    (a14 : PySem.W.findIn K (.ref C_Walk) "_follow" = some (some (.ref f14)))
    (i14 : PySem.W.isFn K (.ref f14) = true)
    (l14 : K.lookup f14 = some ⟨oc14, od14, .func (PySem.W.fnOf "_follow" "Walk._follow" (defArgs sWalkfollow) (defBody sWalkfollow) (defScope sWalkfollow) .none kV14 dc14 pm14 an14 cd14 ct14), sl14⟩)
    (c14 : PySem.W.codeIn K cd14 "Walk._follow" = true)
    (k14 : PySem.W.keepIn K (.ref f14) = true)
    (a15 : PySem.W.findIn K (.ref C_Walk) "period" = some (some (.ref f15)))
    (i15 : PySem.W.isFn K (.ref f15) = true)
    (l15 : K.lookup f15 = some ⟨oc15, od15, .func (PySem.W.fnOf "period" "Walk.period" (defArgs sWalk_period) (defBody sWalk_period) (defScope sWalk_period) .none kV15 dc15 pm15 an15 cd15 ct15), sl15⟩)
    (c15 : PySem.W.codeIn K cd15 "Walk.period" = true)
    (k15 : PySem.W.keepIn K (.ref f15) = true)
    (a16 : PySem.W.findIn K (.ref C_Walk) "climb" = some (some (.ref f16)))
    (i16 : PySem.W.isFn K (.ref f16) = true)
    (l16 : K.lookup f16 = some ⟨oc16, od16, .func (PySem.W.fnOf "climb" "Walk.climb" (defArgs sWalk_climb) (defBody sWalk_climb) (defScope sWalk_climb) .none kV16 dc16 pm16 an16 cd16 ct16), sl16⟩)
    (c16 : PySem.W.codeIn K cd16 "Walk.climb" = true)
    (k16 : PySem.W.keepIn K (.ref f16) = true)
    (a17 : PySem.W.findIn K (.ref C_Walk) "behind" = some (some (.ref f17)))
    (i17 : PySem.W.isFn K (.ref f17) = true)
    (l17 : K.lookup f17 = some ⟨oc17, od17, .func (PySem.W.fnOf "behind" "Walk.behind" (defArgs sWalk_behind) (defBody sWalk_behind) (defScope sWalk_behind) .none kV17 dc17 pm17 an17 cd17 ct17), sl17⟩)
    (c17 : PySem.W.codeIn K cd17 "Walk.behind" = true)
    (k17 : PySem.W.keepIn K (.ref f17) = true)
    (a18 : PySem.W.nsIn K mainGlobals "check_round" = some (some (.ref f18)))
    (l18 : K.lookup f18 = some ⟨oc18, od18, .func (PySem.W.fnOf "check_round" "check_round" (defArgs scheck_round) (defBody scheck_round) (defScope scheck_round) .none kV18 dc18 pm18 an18 cd18 ct18), sl18⟩)
    (c18 : PySem.W.codeIn K cd18 "check_round" = true)
    (k18 : PySem.W.keepIn K (.ref f18) = true)
    (a19 : PySem.W.nsIn K mainGlobals "place_behind" = some (some (.ref f19)))
    (l19 : K.lookup f19 = some ⟨oc19, od19, .func (PySem.W.fnOf "place_behind" "place_behind" (defArgs splace_behind) (defBody splace_behind) (defScope splace_behind) .none kV19 dc19 pm19 an19 cd19 ct19), sl19⟩)
    (c19 : PySem.W.codeIn K cd19 "place_behind" = true)
    (k19 : PySem.W.keepIn K (.ref f19) = true)
    (a20 : PySem.W.nsIn K mainGlobals "least_behind" = some (some (.ref f20)))
    (l20 : K.lookup f20 = some ⟨oc20, od20, .func (PySem.W.fnOf "least_behind" "least_behind" (defArgs sleast_behind) (defBody sleast_behind) (defScope sleast_behind) .none kV20 dc20 pm20 an20 cd20 ct20), sl20⟩)
    (c20 : PySem.W.codeIn K cd20 "least_behind" = true)
    (k20 : PySem.W.keepIn K (.ref f20) = true)
    (a21 : PySem.W.nsIn K mainGlobals "greatest_behind" = some (some (.ref f21)))
    (l21 : K.lookup f21 = some ⟨oc21, od21, .func (PySem.W.fnOf "greatest_behind" "greatest_behind" (defArgs sgreatest_behind) (defBody sgreatest_behind) (defScope sgreatest_behind) .none kV21 dc21 pm21 an21 cd21 ct21), sl21⟩)
    (c21 : PySem.W.codeIn K cd21 "greatest_behind" = true)
    (k21 : PySem.W.keepIn K (.ref f21) = true)
    (a22 : PySem.W.nsIn K mainGlobals "too_far" = some (some (.ref f22)))
    (l22 : K.lookup f22 = some ⟨oc22, od22, .func (PySem.W.fnOf "too_far" "too_far" (defArgs stoo_far) (defBody stoo_far) (defScope stoo_far) .none kV22 dc22 pm22 an22 cd22 ct22), sl22⟩)
    (c22 : PySem.W.codeIn K cd22 "too_far" = true)
    (k22 : PySem.W.keepIn K (.ref f22) = true)
    (a23 : PySem.W.nsIn K mainGlobals "clash" = some (some (.ref f23)))
    (l23 : K.lookup f23 = some ⟨oc23, od23, .func (PySem.W.fnOf "clash" "clash" (defArgs sclash) (defBody sclash) (defScope sclash) .none kV23 dc23 pm23 an23 cd23 ct23), sl23⟩)
    (c23 : PySem.W.codeIn K cd23 "clash" = true)
    (k23 : PySem.W.keepIn K (.ref f23) = true)
    (a24 : PySem.W.findIn K (.ref C) "__init__" = some (some (.ref f24)))
    (i24 : PySem.W.isFn K (.ref f24) = true)
    (l24 : K.lookup f24 = some ⟨oc24, od24, .func (PySem.W.fnOf "__init__" "Dark.__init__" (defArgs sDark_init) (defBody sDark_init) (defScope sDark_init) .none kV24 dc24 pm24 an24 cd24 ct24), sl24⟩)
    (c24 : PySem.W.codeIn K cd24 "Dark.__init__" = true)
    (k24 : PySem.W.keepIn K (.ref f24) = true)
    (a25 : PySem.W.findIn K (.ref C) "length" = some (some (.ref f25)))
    (i25 : PySem.W.isFn K (.ref f25) = true)
    (l25 : K.lookup f25 = some ⟨oc25, od25, .func (PySem.W.fnOf "length" "Dark.length" (defArgs sDark_length) (defBody sDark_length) (defScope sDark_length) .none kV25 dc25 pm25 an25 cd25 ct25), sl25⟩)
    (c25 : PySem.W.codeIn K cd25 "Dark.length" = true)
    (k25 : PySem.W.keepIn K (.ref f25) = true)
    (a26 : PySem.W.findIn K (.ref C) "hear" = some (some (.ref f26)))
    (i26 : PySem.W.isFn K (.ref f26) = true)
    (l26 : K.lookup f26 = some ⟨oc26, od26, .func (PySem.W.fnOf "hear" "Dark.hear" (defArgs sDark_hear) (defBody sDark_hear) (defScope sDark_hear) .none kV26 dc26 pm26 an26 cd26 ct26), sl26⟩)
    (c26 : PySem.W.codeIn K cd26 "Dark.hear" = true)
    (k26 : PySem.W.keepIn K (.ref f26) = true)
    (a27 : PySem.W.findIn K (.ref C) "drop" = some (some (.ref f27)))
    (i27 : PySem.W.isFn K (.ref f27) = true)
    (l27 : K.lookup f27 = some ⟨oc27, od27, .func (PySem.W.fnOf "drop" "Dark.drop" (defArgs sDark_drop) (defBody sDark_drop) (defScope sDark_drop) .none kV27 dc27 pm27 an27 cd27 ct27), sl27⟩)
    (c27 : PySem.W.codeIn K cd27 "Dark.drop" = true)
    (k27 : PySem.W.keepIn K (.ref f27) = true)
    (a28 : PySem.W.findIn K (.ref C) "looks" = some (some (.ref f28)))
    (i28 : PySem.W.isFn K (.ref f28) = true)
    (l28 : K.lookup f28 = some ⟨oc28, od28, .func (PySem.W.fnOf "looks" "Dark.looks" (defArgs sDark_looks) (defBody sDark_looks) (defScope sDark_looks) .none kV28 dc28 pm28 an28 cd28 ct28), sl28⟩)
    (c28 : PySem.W.codeIn K cd28 "Dark.looks" = true)
    (k28 : PySem.W.keepIn K (.ref f28) = true)
    (a29 : PySem.W.findIn K (.ref C) "_check_word" = some (some (.ref f29)))
    (i29 : PySem.W.isFn K (.ref f29) = true)
    (l29 : K.lookup f29 = some ⟨oc29, od29, .func (PySem.W.fnOf "_check_word" "Dark._check_word" (defArgs sDarkcheck_word) (defBody sDarkcheck_word) (defScope sDarkcheck_word) .none kV29 dc29 pm29 an29 cd29 ct29), sl29⟩)
    (c29 : PySem.W.codeIn K cd29 "Dark._check_word" = true)
    (k29 : PySem.W.keepIn K (.ref f29) = true)
    (a30 : PySem.W.findIn K (.ref C) "_home" = some (some (.ref f30)))
    (i30 : PySem.W.isFn K (.ref f30) = true)
    (l30 : K.lookup f30 = some ⟨oc30, od30, .func (PySem.W.fnOf "_home" "Dark._home" (defArgs sDarkhome) (defBody sDarkhome) (defScope sDarkhome) .none kV30 dc30 pm30 an30 cd30 ct30), sl30⟩)
    (c30 : PySem.W.codeIn K cd30 "Dark._home" = true)
    (k30 : PySem.W.keepIn K (.ref f30) = true)
    (a31 : PySem.W.findIn K (.ref C) "_clashing" = some (some (.ref f31)))
    (i31 : PySem.W.isFn K (.ref f31) = true)
    (l31 : K.lookup f31 = some ⟨oc31, od31, .func (PySem.W.fnOf "_clashing" "Dark._clashing" (defArgs sDarkclashing) (defBody sDarkclashing) (defScope sDarkclashing) .none kV31 dc31 pm31 an31 cd31 ct31), sl31⟩)
    (c31 : PySem.W.codeIn K cd31 "Dark._clashing" = true)
    (k31 : PySem.W.keepIn K (.ref f31) = true)
    (a32 : PySem.W.nsIn K mainGlobals "law" = some (some (.ref f32)))
    (l32 : K.lookup f32 = some ⟨oc32, od32, .func (PySem.W.fnOf "law" "law" (defArgs slaw) (defBody slaw) (defScope slaw) .none kV32 dc32 pm32 an32 cd32 ct32), sl32⟩)
    (c32 : PySem.W.codeIn K cd32 "law" = true)
    (k32 : PySem.W.keepIn K (.ref f32) = true)
    (pg : PySem.W.plainGet K C Str.empty = true)
    (hd : PySem.W.hasDictIn K C = true)
    (po : PySem.W.plainOver K C = true)
    (sa : PySem.W.findIn K (.ref C) "__setattr__" = some (some (.builtin "object.__setattr__")))
    (mk : PySem.W.makesIn K C = true)
    (kc : PySem.W.keepIn K (.ref C) = true)
    (n_length : PySem.W.findIn K (.ref C) "_length" = some none)
    (n_looks : PySem.W.findIn K (.ref C) "_looks" = some none)
    (pg_Walk : PySem.W.plainGet K C_Walk Str.empty = true)
    (hd_Walk : PySem.W.hasDictIn K C_Walk = true)
    (po_Walk : PySem.W.plainOver K C_Walk = true)
    (sa_Walk : PySem.W.findIn K (.ref C_Walk) "__setattr__" = some (some (.builtin "object.__setattr__")))
    (mk_Walk : PySem.W.makesIn K C_Walk = true)
    (kc_Walk : PySem.W.keepIn K (.ref C_Walk) = true)
    (nWalk_places : PySem.W.findIn K (.ref C_Walk) "places" = some none)
    (nWalk_told_by : PySem.W.findIn K (.ref C_Walk) "told_by" = some none)
    (nWalk_start : PySem.W.findIn K (.ref C_Walk) "start" = some none)
    (b_max : PySem.W.nsIn K mainGlobals "max" = some none)
    (b_min : PySem.W.nsIn K mainGlobals "min" = some none)
    (b_len : PySem.W.nsIn K mainGlobals "len" = some none)
    (b_range : PySem.W.nsIn K mainGlobals "range" = some none)
    (b_sorted : PySem.W.nsIn K mainGlobals "sorted" = some none)
    (b_set : PySem.W.nsIn K mainGlobals "set" = some none)
    (b_abs : PySem.W.nsIn K mainGlobals "abs" = some none)
    (b_list : PySem.W.nsIn K mainGlobals "list" = some none)
    (b_int : PySem.W.nsIn K mainGlobals "int" = some none)
    (b_enumerate : PySem.W.nsIn K mainGlobals "enumerate" = some none)
    (b_divmod : PySem.W.nsIn K mainGlobals "divmod" = some none)
    (gSLOW : PySem.W.nsIn K mainGlobals "SLOW" = some (some (.str "slow" tSLOW)))
    (gFAST : PySem.W.nsIn K mainGlobals "FAST" = some (some (.str "fast" tFAST)))
    (gW : PySem.W.nsIn K mainGlobals "WORDS" = some (some (.ref aW)))
    (lW : K.lookup aW = some ⟨.type "dict", none, .dict es nW, #[]⟩)
    (keys : PySem.W.KeysLit w.params es.toList)
    (low : (aW == sysModules) = false)
    (wS : PySem.W.nsIn K aW "slow" = some (some (.ref tS)))
    (wF : PySem.W.nsIn K aW "fast" = some (some (.ref tF)))
    (lS : K.lookup tS = some ⟨.type "tuple", o1, .seq #[.str "at" u1, .str "from" u2] n1, s1⟩)
    (lF : K.lookup tF = some ⟨.type "tuple", o2, .seq #[.str "at" u3, .str "upto" u4] n2, s2⟩)
    (gL : PySem.W.nsIn K mainGlobals "LOOK_WORDS" = some (some (.ref aL)))
    (lL : K.lookup aL = some ⟨.type "tuple", o3, .seq #[.str "at" u5, .str "from" u6, .str "upto" u7] n3, s3⟩) :
    ∃ fd : FuncData, (∀ (s : Shared) (v : Value), BindsTo s fd ⟨[v], []⟩ [("script", v)]) ∧ ∀ base : Heap, K.In base → base.Ns mainGlobals mg → FnOk l.prog w K mg base CX0 12 fa fd ["script"] (spLaw K) := by
  have e := hfa.symm.trans (PySem.W.mg_of X G a32)
  cases e
  have F0 := fun_mk (st := slaw_deck) l0 c0 k0
  have F1 := fun_mk (st := slaw_take) l1 c1 k1
  have F2 := fun_mk (st := slaw_below) l2 c2 k2
  have F3 := fun_mk (st := slaw_wide) l3 c3 k3
  have F4 := fun_mk (st := slaw_hidden) l4 c4 k4
  have F5 := fun_mk (st := slaw_looks) l5 c5 k5
  have F6 := fun_mk (st := slaw_told) l6 c6 k6
  have F7 := fun_mk (st := slaw_is_closer) l7 c7 k7
  have F8 := fun_mk (st := slaw_mixed) l8 c8 k8
  have F9 := fun_mk (st := sside_looks) l9 c9 k9
  have F10 := fun_mk (st := sround_looks) l10 c10 k10
  have F11 := fun_mk (st := splace_by) l11 c11 k11
  have F12 := fun_mk (st := sbest_step) l12 c12 k12
  have F13 := fun_mk (st := sWalk_init) l13 c13 k13
  have F14 := fun_mk (st := sWalkfollow) l14 c14 k14
  have F15 := fun_mk (st := sWalk_period) l15 c15 k15
  have F16 := fun_mk (st := sWalk_climb) l16 c16 k16
  have F17 := fun_mk (st := sWalk_behind) l17 c17 k17
  have F18 := fun_mk (st := scheck_round) l18 c18 k18
  have F19 := fun_mk (st := splace_behind) l19 c19 k19
  have F20 := fun_mk (st := sleast_behind) l20 c20 k20
  have F21 := fun_mk (st := sgreatest_behind) l21 c21 k21
  have F22 := fun_mk (st := stoo_far) l22 c22 k22
  have F23 := fun_mk (st := sclash) l23 c23 k23
  have F24 := fun_mk (st := sDark_init) l24 c24 k24
  have F25 := fun_mk (st := sDark_length) l25 c25 k25
  have F26 := fun_mk (st := sDark_hear) l26 c26 k26
  have F27 := fun_mk (st := sDark_drop) l27 c27 k27
  have F28 := fun_mk (st := sDark_looks) l28 c28 k28
  have F29 := fun_mk (st := sDarkcheck_word) l29 c29 k29
  have F30 := fun_mk (st := sDarkhome) l30 c30 k30
  have F31 := fun_mk (st := sDarkclashing) l31 c31 k31
  have F32 := fun_mk (st := slaw) l32 c32 k32
  let Z : Ad := {
    a_law_deck := f0,
    d_law_deck := PySem.W.fnOf "_law_deck" "_law_deck" (defArgs slaw_deck) (defBody slaw_deck) (defScope slaw_deck) .none kV0 dc0 pm0 an0 cd0 ct0,
    a_law_take := f1,
    d_law_take := PySem.W.fnOf "_law_take" "_law_take" (defArgs slaw_take) (defBody slaw_take) (defScope slaw_take) .none kV1 dc1 pm1 an1 cd1 ct1,
    a_law_below := f2,
    d_law_below := PySem.W.fnOf "_law_below" "_law_below" (defArgs slaw_below) (defBody slaw_below) (defScope slaw_below) .none kV2 dc2 pm2 an2 cd2 ct2,
    a_law_wide := f3,
    d_law_wide := PySem.W.fnOf "_law_wide" "_law_wide" (defArgs slaw_wide) (defBody slaw_wide) (defScope slaw_wide) .none kV3 dc3 pm3 an3 cd3 ct3,
    a_law_hidden := f4,
    d_law_hidden := PySem.W.fnOf "_law_hidden" "_law_hidden" (defArgs slaw_hidden) (defBody slaw_hidden) (defScope slaw_hidden) .none kV4 dc4 pm4 an4 cd4 ct4,
    a_law_looks := f5,
    d_law_looks := PySem.W.fnOf "_law_looks" "_law_looks" (defArgs slaw_looks) (defBody slaw_looks) (defScope slaw_looks) .none kV5 dc5 pm5 an5 cd5 ct5,
    a_law_told := f6,
    d_law_told := PySem.W.fnOf "_law_told" "_law_told" (defArgs slaw_told) (defBody slaw_told) (defScope slaw_told) .none kV6 dc6 pm6 an6 cd6 ct6,
    a_law_is_closer := f7,
    d_law_is_closer := PySem.W.fnOf "_law_is_closer" "_law_is_closer" (defArgs slaw_is_closer) (defBody slaw_is_closer) (defScope slaw_is_closer) .none kV7 dc7 pm7 an7 cd7 ct7,
    a_law_mixed := f8,
    d_law_mixed := PySem.W.fnOf "_law_mixed" "_law_mixed" (defArgs slaw_mixed) (defBody slaw_mixed) (defScope slaw_mixed) .none kV8 dc8 pm8 an8 cd8 ct8,
    a_side_looks := f9,
    d_side_looks := PySem.W.fnOf "side_looks" "side_looks" (defArgs sside_looks) (defBody sside_looks) (defScope sside_looks) .none kV9 dc9 pm9 an9 cd9 ct9,
    a_round_looks := f10,
    d_round_looks := PySem.W.fnOf "round_looks" "round_looks" (defArgs sround_looks) (defBody sround_looks) (defScope sround_looks) .none kV10 dc10 pm10 an10 cd10 ct10,
    a_place_by := f11,
    d_place_by := PySem.W.fnOf "place_by" "place_by" (defArgs splace_by) (defBody splace_by) (defScope splace_by) .none kV11 dc11 pm11 an11 cd11 ct11,
    a_best_step := f12,
    d_best_step := PySem.W.fnOf "best_step" "best_step" (defArgs sbest_step) (defBody sbest_step) (defScope sbest_step) .none kV12 dc12 pm12 an12 cd12 ct12,
    a_Walk_init := f13,
    d_Walk_init := PySem.W.fnOf "__init__" "Walk.__init__" (defArgs sWalk_init) (defBody sWalk_init) (defScope sWalk_init) .none kV13 dc13 pm13 an13 cd13 ct13,
    a_Walkfollow := f14,
    d_Walkfollow := PySem.W.fnOf "_follow" "Walk._follow" (defArgs sWalkfollow) (defBody sWalkfollow) (defScope sWalkfollow) .none kV14 dc14 pm14 an14 cd14 ct14,
    a_Walk_period := f15,
    d_Walk_period := PySem.W.fnOf "period" "Walk.period" (defArgs sWalk_period) (defBody sWalk_period) (defScope sWalk_period) .none kV15 dc15 pm15 an15 cd15 ct15,
    a_Walk_climb := f16,
    d_Walk_climb := PySem.W.fnOf "climb" "Walk.climb" (defArgs sWalk_climb) (defBody sWalk_climb) (defScope sWalk_climb) .none kV16 dc16 pm16 an16 cd16 ct16,
    a_Walk_behind := f17,
    d_Walk_behind := PySem.W.fnOf "behind" "Walk.behind" (defArgs sWalk_behind) (defBody sWalk_behind) (defScope sWalk_behind) .none kV17 dc17 pm17 an17 cd17 ct17,
    a_check_round := f18,
    d_check_round := PySem.W.fnOf "check_round" "check_round" (defArgs scheck_round) (defBody scheck_round) (defScope scheck_round) .none kV18 dc18 pm18 an18 cd18 ct18,
    a_place_behind := f19,
    d_place_behind := PySem.W.fnOf "place_behind" "place_behind" (defArgs splace_behind) (defBody splace_behind) (defScope splace_behind) .none kV19 dc19 pm19 an19 cd19 ct19,
    a_least_behind := f20,
    d_least_behind := PySem.W.fnOf "least_behind" "least_behind" (defArgs sleast_behind) (defBody sleast_behind) (defScope sleast_behind) .none kV20 dc20 pm20 an20 cd20 ct20,
    a_greatest_behind := f21,
    d_greatest_behind := PySem.W.fnOf "greatest_behind" "greatest_behind" (defArgs sgreatest_behind) (defBody sgreatest_behind) (defScope sgreatest_behind) .none kV21 dc21 pm21 an21 cd21 ct21,
    a_too_far := f22,
    d_too_far := PySem.W.fnOf "too_far" "too_far" (defArgs stoo_far) (defBody stoo_far) (defScope stoo_far) .none kV22 dc22 pm22 an22 cd22 ct22,
    a_clash := f23,
    d_clash := PySem.W.fnOf "clash" "clash" (defArgs sclash) (defBody sclash) (defScope sclash) .none kV23 dc23 pm23 an23 cd23 ct23,
    a_Dark_init := f24,
    d_Dark_init := PySem.W.fnOf "__init__" "Dark.__init__" (defArgs sDark_init) (defBody sDark_init) (defScope sDark_init) .none kV24 dc24 pm24 an24 cd24 ct24,
    a_Dark_length := f25,
    d_Dark_length := PySem.W.fnOf "length" "Dark.length" (defArgs sDark_length) (defBody sDark_length) (defScope sDark_length) .none kV25 dc25 pm25 an25 cd25 ct25,
    a_Dark_hear := f26,
    d_Dark_hear := PySem.W.fnOf "hear" "Dark.hear" (defArgs sDark_hear) (defBody sDark_hear) (defScope sDark_hear) .none kV26 dc26 pm26 an26 cd26 ct26,
    a_Dark_drop := f27,
    d_Dark_drop := PySem.W.fnOf "drop" "Dark.drop" (defArgs sDark_drop) (defBody sDark_drop) (defScope sDark_drop) .none kV27 dc27 pm27 an27 cd27 ct27,
    a_Dark_looks := f28,
    d_Dark_looks := PySem.W.fnOf "looks" "Dark.looks" (defArgs sDark_looks) (defBody sDark_looks) (defScope sDark_looks) .none kV28 dc28 pm28 an28 cd28 ct28,
    a_Darkcheck_word := f29,
    d_Darkcheck_word := PySem.W.fnOf "_check_word" "Dark._check_word" (defArgs sDarkcheck_word) (defBody sDarkcheck_word) (defScope sDarkcheck_word) .none kV29 dc29 pm29 an29 cd29 ct29,
    a_Darkhome := f30,
    d_Darkhome := PySem.W.fnOf "_home" "Dark._home" (defArgs sDarkhome) (defBody sDarkhome) (defScope sDarkhome) .none kV30 dc30 pm30 an30 cd30 ct30,
    a_Darkclashing := f31,
    d_Darkclashing := PySem.W.fnOf "_clashing" "Dark._clashing" (defArgs sDarkclashing) (defBody sDarkclashing) (defScope sDarkclashing) .none kV31 dc31 pm31 an31 cd31 ct31,
    a_law := fa,
    d_law := PySem.W.fnOf "law" "law" (defArgs slaw) (defBody slaw) (defScope slaw) .none kV32 dc32 pm32 an32 cd32 ct32,
    C := C,
    C_Walk := C_Walk,
    v_SLOW := .str "slow" tSLOW,
    v_FAST := .str "fast" tFAST,
    a_WORDS := aW,
    a_LW := aL,
    t_slow := tS,
    t_fast := tF }
  have T : Tx K w mg Z := {
    F_law_deck := F0,
    bb_law_deck := F0.binds (ps := P_law_deck) fun _ _ _ _ _ _ us hl => match us, hl with | [_], _ => rfl,
    g_law_deck := PySem.W.mg_of X G a0,
    F_law_take := F1,
    bb_law_take := F1.binds (ps := P_law_take) fun _ _ _ _ _ _ us hl => match us, hl with | [_, _], _ => rfl,
    g_law_take := PySem.W.mg_of X G a1,
    F_law_below := F2,
    bb_law_below := F2.binds (ps := P_law_below) fun _ _ _ _ _ _ us hl => match us, hl with | [_, _], _ => rfl,
    g_law_below := PySem.W.mg_of X G a2,
    F_law_wide := F3,
    bb_law_wide := F3.binds (ps := P_law_wide) fun _ _ _ _ _ _ us hl => match us, hl with | [_], _ => rfl,
    g_law_wide := PySem.W.mg_of X G a3,
    F_law_hidden := F4,
    bb_law_hidden := F4.binds (ps := P_law_hidden) fun _ _ _ _ _ _ us hl => match us, hl with | [_, _, _], _ => rfl,
    g_law_hidden := PySem.W.mg_of X G a4,
    F_law_looks := F5,
    bb_law_looks := F5.binds (ps := P_law_looks) fun _ _ _ _ _ _ us hl => match us, hl with | [_, _, _], _ => rfl,
    g_law_looks := PySem.W.mg_of X G a5,
    F_law_told := F6,
    bb_law_told := F6.binds (ps := P_law_told) fun _ _ _ _ _ _ us hl => match us, hl with | [_, _, _], _ => rfl,
    g_law_told := PySem.W.mg_of X G a6,
    F_law_is_closer := F7,
    bb_law_is_closer := F7.binds (ps := P_law_is_closer) fun _ _ _ _ _ _ us hl => match us, hl with | [_, _], _ => rfl,
    g_law_is_closer := PySem.W.mg_of X G a7,
    F_law_mixed := F8,
    bb_law_mixed := F8.binds (ps := P_law_mixed) fun _ _ _ _ _ _ us hl => match us, hl with | [_, _], _ => rfl,
    g_law_mixed := PySem.W.mg_of X G a8,
    F_side_looks := F9,
    bb_side_looks := F9.binds (ps := P_side_looks) fun _ _ _ _ _ _ us hl => match us, hl with | [_, _], _ => rfl,
    g_side_looks := PySem.W.mg_of X G a9,
    F_round_looks := F10,
    bb_round_looks := F10.binds (ps := P_round_looks) fun _ _ _ _ _ _ us hl => match us, hl with | [_, _], _ => rfl,
    g_round_looks := PySem.W.mg_of X G a10,
    F_place_by := F11,
    bb_place_by := F11.binds (ps := P_place_by) fun _ _ _ _ _ _ us hl => match us, hl with | [_, _, _, _], _ => rfl,
    g_place_by := PySem.W.mg_of X G a11,
    F_best_step := F12,
    bb_best_step := F12.binds (ps := P_best_step) fun _ _ _ _ _ _ us hl => match us, hl with | [_, _, _, _], _ => rfl,
    g_best_step := PySem.W.mg_of X G a12,
    F_Walk_init := F13,
    bb_Walk_init := F13.binds (ps := P_Walk_init) fun _ _ _ _ _ _ us hl => match us, hl with | [_, _, _, _], _ => rfl,
    F_Walkfollow := F14,
    bb_Walkfollow := F14.binds (ps := P_Walkfollow) fun _ _ _ _ _ _ us hl => match us, hl with | [_, _, _, _], _ => rfl,
    m_Walkfollow := ⟨a14, i14, k14⟩,
    F_Walk_period := F15,
    bb_Walk_period := F15.binds (ps := P_Walk_period) fun _ _ _ _ _ _ us hl => match us, hl with | [_], _ => rfl,
    m_Walk_period := ⟨a15, i15, k15⟩,
    F_Walk_climb := F16,
    bb_Walk_climb := F16.binds (ps := P_Walk_climb) fun _ _ _ _ _ _ us hl => match us, hl with | [_], _ => rfl,
    m_Walk_climb := ⟨a16, i16, k16⟩,
    F_Walk_behind := F17,
    bb_Walk_behind := F17.binds (ps := P_Walk_behind) fun _ _ _ _ _ _ us hl => match us, hl with | [_, _], _ => rfl,
    m_Walk_behind := ⟨a17, i17, k17⟩,
    F_check_round := F18,
    bb_check_round := F18.binds (ps := P_check_round) fun _ _ _ _ _ _ us hl => match us, hl with | [_], _ => rfl,
    g_check_round := PySem.W.mg_of X G a18,
    F_place_behind := F19,
    bb_place_behind := F19.binds (ps := P_place_behind) fun _ _ _ _ _ _ us hl => match us, hl with | [_, _, _, _], _ => rfl,
    g_place_behind := PySem.W.mg_of X G a19,
    F_least_behind := F20,
    bb_least_behind := F20.binds (ps := P_least_behind) fun _ _ _ _ _ _ us hl => match us, hl with | [_, _, _], _ => rfl,
    g_least_behind := PySem.W.mg_of X G a20,
    F_greatest_behind := F21,
    bb_greatest_behind := F21.binds (ps := P_greatest_behind) fun _ _ _ _ _ _ us hl => match us, hl with | [_, _, _], _ => rfl,
    g_greatest_behind := PySem.W.mg_of X G a21,
    F_too_far := F22,
    bb_too_far := F22.binds (ps := P_too_far) fun _ _ _ _ _ _ us hl => match us, hl with | [_, _, _], _ => rfl,
    g_too_far := PySem.W.mg_of X G a22,
    F_clash := F23,
    bb_clash := F23.binds (ps := P_clash) fun _ _ _ _ _ _ us hl => match us, hl with | [_, _, _], _ => rfl,
    g_clash := PySem.W.mg_of X G a23,
    F_Dark_init := F24,
    bb_Dark_init := F24.binds (ps := P_Dark_init) fun _ _ _ _ _ _ us hl => match us, hl with | [_, _], _ => rfl,
    F_Dark_length := F25,
    bb_Dark_length := F25.binds (ps := P_Dark_length) fun _ _ _ _ _ _ us hl => match us, hl with | [_], _ => rfl,
    m_Dark_length := ⟨a25, i25, k25⟩,
    F_Dark_hear := F26,
    bb_Dark_hear := F26.binds (ps := P_Dark_hear) fun _ _ _ _ _ _ us hl => match us, hl with | [_, _, _, _], _ => rfl,
    m_Dark_hear := ⟨a26, i26, k26⟩,
    F_Dark_drop := F27,
    bb_Dark_drop := F27.binds (ps := P_Dark_drop) fun _ _ _ _ _ _ us hl => match us, hl with | [_, _, _, _], _ => rfl,
    m_Dark_drop := ⟨a27, i27, k27⟩,
    F_Dark_looks := F28,
    bb_Dark_looks := F28.binds (ps := P_Dark_looks) fun _ _ _ _ _ _ us hl => match us, hl with | [_], _ => rfl,
    m_Dark_looks := ⟨a28, i28, k28⟩,
    F_Darkcheck_word := F29,
    bb_Darkcheck_word := F29.binds (ps := P_Darkcheck_word) fun _ _ _ _ _ _ us hl => match us, hl with | [_, _], _ => rfl,
    m_Darkcheck_word := ⟨a29, i29, k29⟩,
    F_Darkhome := F30,
    bb_Darkhome := F30.binds (ps := P_Darkhome) fun _ _ _ _ _ _ us hl => match us, hl with | [_, _, _, _], _ => rfl,
    m_Darkhome := ⟨a30, i30, k30⟩,
    F_Darkclashing := F31,
    bb_Darkclashing := F31.binds (ps := P_Darkclashing) fun _ _ _ _ _ _ us hl => match us, hl with | [_, _], _ => rfl,
    m_Darkclashing := ⟨a31, i31, k31⟩,
    F_law := F32,
    bb_law := F32.binds (ps := P_law) fun _ _ _ _ _ _ us hl => match us, hl with | [_], _ => rfl,
    g_law := PySem.W.mg_of X G a32,
    cl := ⟨pg, hd, po, sa⟩,
    g_Dark := PySem.W.mg_of X G aC,
    mk_Dark := ⟨mk, a24, i24, kc⟩,
    n_length := n_length,
    n_looks := n_looks,
    cl_Walk := ⟨pg_Walk, hd_Walk, po_Walk, sa_Walk⟩,
    g_Walk := PySem.W.mg_of X G aC_Walk,
    mk_Walk := ⟨mk_Walk, a13, i13, kc_Walk⟩,
    nWalk_places := nWalk_places,
    nWalk_told_by := nWalk_told_by,
    nWalk_start := nWalk_start,
    b_max := PySem.W.mg_none_of X G b_max,
    b_min := PySem.W.mg_none_of X G b_min,
    b_len := PySem.W.mg_none_of X G b_len,
    b_range := PySem.W.mg_none_of X G b_range,
    b_sorted := PySem.W.mg_none_of X G b_sorted,
    b_set := PySem.W.mg_none_of X G b_set,
    b_abs := PySem.W.mg_none_of X G b_abs,
    b_list := PySem.W.mg_none_of X G b_list,
    b_int := PySem.W.mg_none_of X G b_int,
    b_enumerate := PySem.W.mg_none_of X G b_enumerate,
    b_divmod := PySem.W.mg_none_of X G b_divmod,
    g_SLOW := PySem.W.mg_of X G gSLOW,
    r_SLOW := ⟨tSLOW, rfl⟩,
    g_FAST := PySem.W.mg_of X G gFAST,
    r_FAST := ⟨tFAST, rfl⟩,
    g_WORDS := PySem.W.mg_of X G gW,
    kd_WORDS := ⟨es, nW, lW, keys, low⟩,
    w_slow := wS,
    w_fast := wF,
    q_slow := fun _ => sqt2 lS,
    q_fast := fun _ => sqt2 lF,
    g_LOOK_WORDS := PySem.W.mg_of X G gL,
    q_LW := fun _ => sqt3 lL }
  exact ⟨PySem.W.fnOf "law" "law" (defArgs slaw) (defBody slaw) (defScope slaw) .none kV32 dc32 pm32 an32 cd32 ct32, fun s v => .of_eq rfl, fun base _ _ => ok_law T⟩
theorem walk {l : PySem.W.OpenLaw} {q : Program} {loose : List Str} {XP : (Str → Option Value) → Heap → Prop} {YP : World → Heap → Prop} {d : DefRec} {K : Params → PySem.W.Frag} (hn : l.most = some 63) (hdf : d.params.defaults = [])
    (hY : ∀ (w : World) (h : Heap), YP w h → (K w.params).In h)
    (F : ∀ (w : World) (mg : Str → Option Value) (fa : Addr) (h : Heap), (K w.params).In h → h.Ns mainGlobals mg → mg d.name = some (.ref fa) →
      ∃ fd : FuncData, (∀ (s : Shared) (u : Value), BindsTo s fd ⟨[u], []⟩ [("script", u)]) ∧ ∀ base : Heap, (K w.params).In base → base.Ns mainGlobals mg → FnOk l.prog w (K w.params) mg base CX0 12 fa fd ["script"] (spLaw (K w.params))) :
    PySem.W.WalkO q loose XP YP l.row.toRowW d [] (fun f vs => PySem.call f vs) :=
  L2.walk_of (n := 63) (k := 12) (x := "script") (CX := fun _ => CX0) (sp := fun w => spLaw (K w.params)) hn (by decide) hdf ⟨rfl, by decide, by decide⟩ hY F (fun _ _ a ns hl _ hS => ⟨a, ns, rfl, hS, hl, fun _ => rfl⟩) fun _ _ _ _ _ z => z
end KA
open PySem PySem.W PyProof.Rows
set_option maxRecDepth 100000 in
set_option maxHeartbeats 0 in
theorem PySem.Challenge.cw_darkpace_k15_whole_more_looks_holds : PySem.Challenge.rw_darkpace_k15_whole_more_looks.Holds := by
  w_on; o_law; k_head; (case hw => w_witness2)
  k_fill
  refine KA.walk (l := PySem.Challenge.rw_darkpace_k15_whole_more_looks) rfl rfl (fun w h Y => PySem.W.kIn_of Y) ?F
  case F =>
    intro w mg fa h KX G hmg
    refine' KA.all_mk KX G hmg ?aC ?aC_Walk ?a0 ?l0 ?c0 ?k0 ?a1 ?l1 ?c1 ?k1 ?a2 ?l2 ?c2 ?k2 ?a3 ?l3 ?c3 ?k3 ?a4 ?l4 ?c4 ?k4 ?a5 ?l5 ?c5 ?k5 ?a6 ?l6 ?c6 ?k6 ?a7 ?l7 ?c7 ?k7 ?a8 ?l8 ?c8 ?k8 ?a9 ?l9 ?c9 ?k9 ?a10 ?l10 ?c10 ?k10 ?a11 ?l11 ?c11 ?k11 ?a12 ?l12 ?c12 ?k12 ?a13 ?i13 ?l13 ?c13 ?k13 ?a14 ?i14 ?l14 ?c14 ?k14 ?a15 ?i15 ?l15 ?c15 ?k15 ?a16 ?i16 ?l16 ?c16 ?k16 ?a17 ?i17 ?l17 ?c17 ?k17 ?a18 ?l18 ?c18 ?k18 ?a19 ?l19 ?c19 ?k19 ?a20 ?l20 ?c20 ?k20 ?a21 ?l21 ?c21 ?k21 ?a22 ?l22 ?c22 ?k22 ?a23 ?l23 ?c23 ?k23 ?a24 ?i24 ?l24 ?c24 ?k24 ?a25 ?i25 ?l25 ?c25 ?k25 ?a26 ?i26 ?l26 ?c26 ?k26 ?a27 ?i27 ?l27 ?c27 ?k27 ?a28 ?i28 ?l28 ?c28 ?k28 ?a29 ?i29 ?l29 ?c29 ?k29 ?a30 ?i30 ?l30 ?c30 ?k30 ?a31 ?i31 ?l31 ?c31 ?k31 ?a32 ?l32 ?c32 ?k32 ?pg ?hd ?po ?sa ?mk ?kc ?n_length ?n_looks ?pg_Walk ?hd_Walk ?po_Walk ?sa_Walk ?mk_Walk ?kc_Walk ?nWalk_places ?nWalk_told_by ?nWalk_start ?b_max ?b_min ?b_len ?b_range ?b_sorted ?b_set ?b_abs ?b_list ?b_int ?b_enumerate ?b_divmod ?gSLOW ?gFAST ?gW ?lW ?keys ?low ?wS ?wF ?lS ?lF ?gL ?lL
    (case aC => k_is)
    (case aC_Walk => k_is)
    (case a0 => k_is)
    (case l0 => k_is)
    (case c0 => k_is)
    (case k0 => k_is)
    (case a1 => k_is)
    (case l1 => k_is)
    (case c1 => k_is)
    (case k1 => k_is)
    (case a2 => k_is)
    (case l2 => k_is)
    (case c2 => k_is)
    (case k2 => k_is)
    (case a3 => k_is)
    (case l3 => k_is)
    (case c3 => k_is)
    (case k3 => k_is)
    (case a4 => k_is)
    (case l4 => k_is)
    (case c4 => k_is)
    (case k4 => k_is)
    (case a5 => k_is)
    (case l5 => k_is)
    (case c5 => k_is)
    (case k5 => k_is)
    (case a6 => k_is)
    (case l6 => k_is)
    (case c6 => k_is)
    (case k6 => k_is)
    (case a7 => k_is)
    (case l7 => k_is)
    (case c7 => k_is)
    (case k7 => k_is)
    (case a8 => k_is)
    (case l8 => k_is)
    (case c8 => k_is)
    (case k8 => k_is)
    (case a9 => k_is)
    (case l9 => k_is)
    (case c9 => k_is)
    (case k9 => k_is)
    (case a10 => k_is)
    (case l10 => k_is)
    (case c10 => k_is)
    (case k10 => k_is)
    (case a11 => k_is)
    (case l11 => k_is)
    (case c11 => k_is)
    (case k11 => k_is)
    (case a12 => k_is)
    (case l12 => k_is)
    (case c12 => k_is)
    (case k12 => k_is)
    (case a13 => k_is)
    (case i13 => k_is)
    (case l13 => k_is)
    (case c13 => k_is)
    (case k13 => k_is)
    (case a14 => k_is)
    (case i14 => k_is)
    (case l14 => k_is)
    (case c14 => k_is)
    (case k14 => k_is)
    (case a15 => k_is)
    (case i15 => k_is)
    (case l15 => k_is)
    (case c15 => k_is)
    (case k15 => k_is)
    (case a16 => k_is)
    (case i16 => k_is)
    (case l16 => k_is)
    (case c16 => k_is)
    (case k16 => k_is)
    (case a17 => k_is)
    (case i17 => k_is)
    (case l17 => k_is)
    (case c17 => k_is)
    (case k17 => k_is)
    (case a18 => k_is)
    (case l18 => k_is)
    (case c18 => k_is)
    (case k18 => k_is)
    (case a19 => k_is)
    (case l19 => k_is)
    (case c19 => k_is)
    (case k19 => k_is)
    (case a20 => k_is)
    (case l20 => k_is)
    (case c20 => k_is)
    (case k20 => k_is)
    (case a21 => k_is)
    (case l21 => k_is)
    (case c21 => k_is)
    (case k21 => k_is)
    (case a22 => k_is)
    (case l22 => k_is)
    (case c22 => k_is)
    (case k22 => k_is)
    (case a23 => k_is)
    (case l23 => k_is)
    (case c23 => k_is)
    (case k23 => k_is)
    (case a24 => k_is)
    (case i24 => k_is)
    (case l24 => k_is)
    (case c24 => k_is)
    (case k24 => k_is)
    (case a25 => k_is)
    (case i25 => k_is)
    (case l25 => k_is)
    (case c25 => k_is)
    (case k25 => k_is)
    (case a26 => k_is)
    (case i26 => k_is)
    (case l26 => k_is)
    (case c26 => k_is)
    (case k26 => k_is)
    (case a27 => k_is)
    (case i27 => k_is)
    (case l27 => k_is)
    (case c27 => k_is)
    (case k27 => k_is)
    (case a28 => k_is)
    (case i28 => k_is)
    (case l28 => k_is)
    (case c28 => k_is)
    (case k28 => k_is)
    (case a29 => k_is)
    (case i29 => k_is)
    (case l29 => k_is)
    (case c29 => k_is)
    (case k29 => k_is)
    (case a30 => k_is)
    (case i30 => k_is)
    (case l30 => k_is)
    (case c30 => k_is)
    (case k30 => k_is)
    (case a31 => k_is)
    (case i31 => k_is)
    (case l31 => k_is)
    (case c31 => k_is)
    (case k31 => k_is)
    (case a32 => k_is)
    (case l32 => k_is)
    (case c32 => k_is)
    (case k32 => k_is)
    (case pg => k_is)
    (case hd => k_is)
    (case po => k_is)
    (case sa => k_is)
    (case mk => k_is)
    (case kc => k_is)
    (case n_length => k_is)
    (case n_looks => k_is)
    (case pg_Walk => k_is)
    (case hd_Walk => k_is)
    (case po_Walk => k_is)
    (case sa_Walk => k_is)
    (case mk_Walk => k_is)
    (case kc_Walk => k_is)
    (case nWalk_places => k_is)
    (case nWalk_told_by => k_is)
    (case nWalk_start => k_is)
    (case b_max => k_is)
    (case b_min => k_is)
    (case b_len => k_is)
    (case b_range => k_is)
    (case b_sorted => k_is)
    (case b_set => k_is)
    (case b_abs => k_is)
    (case b_list => k_is)
    (case b_int => k_is)
    (case b_enumerate => k_is)
    (case b_divmod => k_is)
    (case gSLOW => k_is)
    (case gFAST => k_is)
    (case gW => k_is)
    (case lW => k_is)
    (case keys => k_keys)
    (case low => decide +kernel)
    (case wS => k_is)
    (case wF => k_is)
    (case lS => k_is)
    (case lF => k_is)
    (case gL => k_is)
    (case lL => k_is)
