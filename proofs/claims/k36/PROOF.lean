import PyProof.Rows.All
import Wide.All
import OpenK.AllK
import Wide.FinOn
import HandS.ForMost
import HandS.Wide
import HandS.Deep
import HandS.IsInst
import HandS.Strs
import HandS.Codes
import HandS.Gcd
import KE.SortData
import KE.DataMinMax
import HandS.SetFor
import HandS.Defaults
import HandS.MakeKwOnly
import HandS.SetBool
import HandS.WideBits
import HandS.DictComp
import PySem.Challenge.RW_darkpace_k36_whole_dials_widened
set_option Elab.async false
set_option linter.all false
set_option maxRecDepth 100000
set_option exponentiation.threshold 3000
set_option maxHeartbeats 16000000
/-! Rules of our own: data under a growing heap, sorted and max and min of data, set of ints, a written dict's item, a method called with a keyword. -/
namespace DP
open PySem PySem.Spec PyProof.Rows L2

theorem rooms {A : Around} {k : Nat} (hr : Room k A) : A.units + 65 < cLine := by have := hr.un; omega

theorem Same.rd {H H' : Hp} {a : Addr} {u : HO} (S : Same H H') (h : Rd H a u) : Rd H' a u := by
  rcases h with h | ⟨o, h⟩
  · exact Or.inl (S _ _ h)
  · exact Or.inr ⟨o, S _ _ h⟩
theorem Same.sqT {K : PySem.W.Frag} {H H' : Hp} {a : Addr} {xs : List V} (S : Same H H') (h : SqT K H a xs) : SqT K H' a xs := by
  rcases h with h | h
  · exact Or.inl (Same.rd S h)
  · exact Or.inr h
theorem Same.sqL {K : PySem.W.Frag} {H H' : Hp} {a : Addr} {xs : List V} (S : Same H H') (h : SqL K H a xs) : SqL K H' a xs := by
  rcases h with h | h
  · exact Or.inl (Same.rd S h)
  · exact Or.inr h
mutual
theorem dp_mono {K : PySem.W.Frag} {H H' : Hp} (S : Same H H') : ∀ (d : PyData) (v : V), Dp K H v d → Dp K H' v d
  | .none, _, h => by cases h; exact .non
  | .bool b, _, h => by cases h; exact .bl _
  | .int b, _, h => by cases h; exact .int _
  | .str b, _, h => by cases h; exact .str _
  | .list ds, _, h => by
    cases h with
    | lst s a => exact .lst (Same.sqL S s) (dpAll_mono S ds _ a)
  | .tuple ds, _, h => by
    cases h with
    | tup s a => exact .tup (Same.sqT S s) (dpAll_mono S ds _ a)
  | .dict _, _, h => by cases h
theorem dpAll_mono {K : PySem.W.Frag} {H H' : Hp} (S : Same H H') : ∀ (ds : List PyData) (vs : List V), DpAll K H vs ds → DpAll K H' vs ds
  | [], _, h => by cases h; exact .nil
  | d :: ds, _, h => by
    cases h with
    | cons a b => exact .cons (dp_mono S d _ a) (dpAll_mono S ds _ b)
end
section
variable {K : PySem.W.Frag} {H : Hp}
theorem dpAll_len : ∀ {vs : List V} {ds : List PyData}, DpAll K H vs ds → vs.length = ds.length
  | _, _, .nil => rfl
  | _, _, .cons _ t => by rw [List.length_cons, List.length_cons, dpAll_len t]
theorem dpAll_get : ∀ {vs : List V} {ds : List PyData} {i : Nat} {v : V}, DpAll K H vs ds → vs[i]? = some v → ∃ d, ds[i]? = some d ∧ Dp K H v d
  | _, _, _, _, .nil, e => by simp at e
  | _, _, 0, _, .cons r _, e => by simp at e; subst e; exact ⟨_, rfl, r⟩
  | _, _, i + 1, v, .cons _ t, e => by
    obtain ⟨d, h1, h2⟩ := dpAll_get (i := i) (v := v) t (by simpa using e)
    exact ⟨d, by simpa using h1, h2⟩
theorem dpAll_get' : ∀ {vs : List V} {ds : List PyData} {i : Nat} {d : PyData}, DpAll K H vs ds → ds[i]? = some d → ∃ v, vs[i]? = some v ∧ Dp K H v d
  | _, _, _, _, .nil, e => by simp at e
  | _, _, 0, _, .cons r _, e => by simp at e; subst e; exact ⟨_, rfl, r⟩
  | _, _, i + 1, v, .cons _ t, e => by
    obtain ⟨d, h1, h2⟩ := dpAll_get' (i := i) (d := v) t (by simpa using e)
    exact ⟨d, by simpa using h1, h2⟩
theorem dpAll_snoc : ∀ {vs : List V} {ds : List PyData} {v : V} {d : PyData}, DpAll K H vs ds → Dp K H v d → DpAll K H (vs ++ [v]) (ds ++ [d])
  | _, _, _, _, .nil, r => .cons r .nil
  | _, _, _, _, .cons q t, r => .cons q (dpAll_snoc t r)
theorem dpAll_app : ∀ {vs ws : List V} {ds es : List PyData}, DpAll K H vs ds → DpAll K H ws es → DpAll K H (vs ++ ws) (ds ++ es)
  | _, _, _, _, .nil, r => r
  | _, _, _, _, .cons q t, r => .cons q (dpAll_app t r)
theorem dpAll_ints : ∀ ns : List Int, DpAll K H (ns.map V.int) (ns.map PyData.int)
  | [] => .nil
  | n :: ns => .cons (.int n) (dpAll_ints ns)
theorem dpAll_int : ∀ {vs : List V} {ns : List Int}, DpAll K H vs (ns.map PyData.int) → vs = ns.map V.int
  | _, [], h => by cases h; rfl
  | _, n :: ns, h => by
    have h' : DpAll K H _ (PyData.int n :: ns.map PyData.int) := h
    cases h' with
    | cons a b =>
      cases a
      rw [dpAll_int b]; rfl
theorem same_upd {H : Hp} {p : Addr} {o : HO} (h : H p = none) : Same H (upd H p o) := fun b u e => by rw [upd_ne (ne_of_none e h)]; exact e
end

section
variable {X : Cx}
/-- sorted(xs): xs a list of alike data, of any length; P is what is known of each -/
def rSortD (K : PySem.W.Frag) {β : Type} (enc : β → PyData) : List V → Hp → VK → Prop := fun vs H Q => ∃ (a : Addr) (xs : List V) (bs : List β), vs = [V.ref a] ∧ SqL K H a xs ∧ DpAll K H xs (bs.map enc) ∧
  PySem.W.AllAlike (bs.map enc) ∧ PySem.W.Sortable (bs.map enc) ∧ (∀ b ∈ bs, (enc b).depth ≤ 60) ∧
  ∀ (p : Addr) (ys : List V) H', H p = none → Same H H' → H' p = some (.lst ys) → DpAll K H' ys ((bs.mergeSort (PySem.W.dataLe false enc)).map enc) → Q (.ref p) H'
theorem each_vals {K : PySem.W.Frag} {H : Hp} {β : Type} {enc : β → PyData} : ∀ {xs : List V} {us : List Value} {bs : List β}, Vals xs us → DpAll K H xs (bs.map enc) → PySem.W.EachIs (fun u b => ∃ x, RelV x u ∧ Dp K H x (enc b)) us bs
  | _, _, [], r, d => by
    have d' : DpAll K H _ [] := d
    cases d'
    cases r
    exact .nil
  | _, _, b :: bs, r, d => by
    have d' : DpAll K H _ (enc b :: bs.map enc) := d
    cases d' with
    | cons d1 d2 =>
      cases r with
      | cons r1 r2 => exact .cons ⟨_, r1, d1⟩ (each_vals r2 d2)
theorem vals_each {K : PySem.W.Frag} {H : Hp} {β : Type} {enc : β → PyData} : ∀ {us : List Value} {bs : List β}, PySem.W.EachIs (fun u b => ∃ x, RelV x u ∧ Dp K H x (enc b)) us bs → ∃ xs, Vals xs us ∧ DpAll K H xs (bs.map enc)
  | _, _, .nil => ⟨[], .nil, .nil⟩
  | _, _, .cons ⟨x, r, d⟩ t => by
    obtain ⟨xs, h1, h2⟩ := vals_each t
    exact ⟨x :: xs, .cons r h1, .cons d h2⟩
theorem cr_sortD {β : Type} (enc : β → PyData) (hu : X.A.units + 65 < cLine) : CallR X (.builtin "sorted") (rSortD X.K enc) := by
  intro pins s σ H vs us Q I r h
  obtain ⟨a, xs, bs, rfl, hs, hd, hal, hk, hdep, q⟩ := h
  obtain ⟨its, rv, hl, hz⟩ := I.list hs
  rw [Vals.ref1 r]
  have hlen : its.length = bs.length := by rw [← rv.length, dpAll_len hd, List.length_map]
  have e := each_vals rv hd
  obtain ⟨as, ra⟩ := Dp.readsAll I _ _ _ hd rv
  refine PySem.W.sorted_data (enc := enc) (bs := bs) (vs := its) hl.isList e (PySem.W.readsAll_each enc ra) hal hk (by rw [← hlen, ← rv.length]; exact hz) (fun b hb => ?_) fun out ho eo => ?_
  · have := hdep b hb
    omega
  · obtain ⟨ys, h1, h2⟩ := vals_each eo
    obtain ⟨ep, he'⟩ := PyProof.Rows.sortedAll_at s.heap its (List.toArray out)
    have hn : H (s.heap.objs.size + 1) = none := I.hok.fresh (Nat.le_succ _)
    have hyl : ys.length ≤ sizeLine := by
      rw [h1.length, ho, ← hlen, ← rv.length]; exact hz
    refine ⟨.ref _, upd H (s.heap.objs.size + 1) (.lst ys), I.laid (t' := s.toks) (fun _ _ => PyProof.Rows.sortedAll_old) (Nat.le_succ _) ⟨hyl, out, ep, h1, he'⟩, rfl, q _ ys _ hn (same_upd hn) upd_same ?_⟩
    exact dpAll_mono (same_upd hn) _ _ h2

/-- max(xs), min(xs): xs a list of alike data -/
def rBestD (K : PySem.W.Frag) (best : PyData → List PyData → PyData) : List V → Hp → VK → Prop := fun vs H Q => ∃ (a : Addr) (xs : List V) (d : PyData) (ds : List PyData), vs = [V.ref a] ∧ SqL K H a xs ∧ DpAll K H xs (d :: ds) ∧
  PySem.W.AlikeAll (d :: ds) ∧ PyData.canLayAll0 (d :: ds) = true ∧ PyData.depthAll (d :: ds) ≤ 60 ∧
  ∀ (x : V), Dp K H x (best d ds) → Q x H
theorem best_end {pins : List (Addr × Obj)} {s : Shared} {σ : L2.St} {H : Hp} {Q : VK} (I : Inv X pins σ H s) {xs : List V} {its : List Value} {as : List Addr} {ds : List PyData} (rv : Vals xs its) (hd : DpAll X.K H xs ds) (ra : ReadsAll s.heap its ds as) (hc : PyData.canLayAll0 ds = true) {i : Nat} {v : Value} {h' : Heap} {tk : Nat} {bs : List Addr} {e : PyData} (hi : its.toArray[i]? = some v)
    (hr : Reads h' v e bs) (he : e.canLay0 = true) (hk : ∀ b o, s.heap.get? b = some o → h'.get? b = some o) (q : ∀ x, Dp X.K H x e → Q x H) : EP X pins σ Q v { heap := h', gens := s.gens, drawn := s.drawn, toks := tk, os := s.os } := by
  have hi' : its[i]? = some v := by simpa using hi
  have hlt : i < its.length := by
    rcases Nat.lt_or_ge i its.length with h | h
    · exact h
    · rw [List.getElem?_eq_none h] at hi'; cases hi'
  obtain ⟨x, hx⟩ : ∃ x, xs[i]? = some x := ⟨xs[i]'(by rw [rv.length]; exact hlt), List.getElem?_eq_getElem _⟩
  obtain ⟨u, hu, ru⟩ := rv.get hx
  have euv : u = v := Option.some.inj (hu.symm.trans hi')
  subst euv
  obtain ⟨d, hdi, hdx⟩ := dpAll_get hd hx
  obtain ⟨as', rx⟩ := Dp.reads I d x u hdx ru
  have rx' : Reads h' u d as' := PyProof.Rows.Reads.keeps hk rx
  have hcd : d.canLay0 = true := by
    have : ∀ (ds : List PyData) (i : Nat), PyData.canLayAll0 ds = true → ds[i]? = some d → d.canLay0 = true := by
      intro ds
      induction ds with
      | nil => intro i _ h; simp at h
      | cons a r ih =>
        intro i h1 h2
        rw [PyData.canLayAll0, Bool.and_eq_true] at h1
        cases i with
        | zero => simp at h2; rw [← h2]; exact h1.1
        | succ i => exact ih i h1.2 (by simpa using h2)
    exact this ds i hc hdi
  have e1 := SeqAt.readOf_eq hcd rx'
  have e2 := SeqAt.readOf_eq he hr
  have ed : d = e := e1.symm.trans e2
  subst ed
  exact ⟨x, H, I.kept hk, ru, q x hdx⟩
theorem canLay_fold (f : PyData → PyData → Bool) : ∀ (ds : List PyData) (d : PyData), PyData.canLayAll0 (d :: ds) = true → (ds.foldl (fun a y => if f a y then y else a) d).canLay0 = true
  | [], d, h => by
    rw [PyData.canLayAll0, Bool.and_eq_true] at h
    exact h.1
  | e :: ds, d, h => by
    rw [PyData.canLayAll0, PyData.canLayAll0, Bool.and_eq_true, Bool.and_eq_true] at h
    rw [List.foldl_cons]
    refine canLay_fold f ds _ ?_
    rw [PyData.canLayAll0, Bool.and_eq_true]
    refine ⟨?_, h.2.2⟩
    split
    · exact h.2.1
    · exact h.1
theorem cr_maxD (hc : X.calm = true) (hu : X.A.units + 65 < cLine) : CallR X (.builtin "max") (rBestD X.K PySem.W.maxD) := by
  intro pins s σ H vs us Q I r h
  obtain ⟨a, xs, d, ds, rfl, hs, hd, hal, hl0, hdep, q⟩ := h
  obtain ⟨its, rv, hl, hz⟩ := I.list hs
  rw [Vals.ref1 r]
  obtain ⟨as, ra⟩ := Dp.readsAll I _ _ _ hd rv
  exact PySem.W.max_list_data (I.ok.hd hc) hl.isList (by simpa using ra) hal (by omega) fun i v h' tk bs hi hr hk => best_end I rv hd ra hl0 hi hr (canLay_fold _ ds d hl0) hk q
theorem cr_minD (hc : X.calm = true) (hu : X.A.units + 65 < cLine) : CallR X (.builtin "min") (rBestD X.K PySem.W.minD) := by
  intro pins s σ H vs us Q I r h
  obtain ⟨a, xs, d, ds, rfl, hs, hd, hal, hl0, hdep, q⟩ := h
  obtain ⟨its, rv, hl, hz⟩ := I.list hs
  rw [Vals.ref1 r]
  obtain ⟨as, ra⟩ := Dp.readsAll I _ _ _ hd rv
  exact PySem.W.min_list_data (I.ok.hd hc) hl.isList (by simpa using ra) hal (by omega) fun i v h' tk bs hi hr hk => best_end I rv hd ra hl0 hi hr (canLay_fold (fun a y => PySem.W.dataLt y a) ds d hl0) hk q
end
end DP
/-! set(xs) of a list of whole numbers, sorted then. -/
namespace DP
open PySem PySem.Spec PyProof.Rows L2
/-- a fresh set -/
abbrev newSet (w : World) : Obj := { cls := .type "set", dict := none, data := .set #[] 0 (.fresh 0 0 (!w.params.followText "set-order")) }
theorem set_of_ints {P : Program} {w : World} {A : Around} {E : Value → Shared → Prop} {s : Shared} {l : Addr} {items : Array Value} (ns : List Int) {Q : Value → Shared → Prop} (hh : A.handled = none) (hl : s.heap.IsList l items) (hit : IntsAre items.toList ns) (hb : ns.length + 1 < scanBound)
    (h : ∀ (h' : Heap) (tk c : Nat), SetR w h' s.heap.objs.size (fun j => decide (j ∈ ns)) c → c ≤ ns.length → (∀ b o, s.heap.get? b = some o → h'.get? b = some o) → Q (.ref s.heap.objs.size) { s with heap := h', toks := tk }) :
    wpAny (model P w) A (call (.type "set") [.ref l]) Q E s := by
  have hisz : items.size = ns.length := (Array.length_toList (xs := items)).symm.trans (IntsAre.length hit)
  have C := F.called_set
  obtain ⟨c, tl, hmro⟩ := C.mro
  have hmade := C.made; have hsub := C.sub
  refine wpAny_call (codeAny_of_tree ?_)
  show wpAny _ _ (callAny (.type "set") _) _ _ _
  refine wpAny_pure ⟨Code.quiet_builtin _ (by decide +kernel), codeAny_builtin F.entry_type_call ?_⟩
  rw [Around.under_plain (weight_type_call_type "set" [.ref l] []) rfl]
  have h1 := C.notType; have h2 := C.canCreate
  have hct := F.typeCall_set_1 (.ref l)
  repeat (any_goals (first | assumption | wp_step))
  refine codeAny_mono (code_set_led1 (.ref l) (E := E) (Q₁ := fun obj s₁ => obj = .ref s.heap.objs.size ∧ s₁ = { s with heap := s.heap.push (newSet w) }) ⟨rfl, rfl⟩) fun r s₁ hr => ?_
  cases r with
  | error e => exact hr
  | ok fl =>
  cases fl with
  | ret obj =>
    obtain ⟨rfl, rfl⟩ := hr
    have hS : (s.heap.push (newSet w)).get? s.heap.objs.size = some (newSet w) := Heap.get?_push_size _ rfl
    have hT : Shared.TypeIs { s with heap := s.heap.push (newSet w) } (.ref s.heap.objs.size) "set" := ⟨_, hS, rfl⟩
    have hli := C.init.lookup; have hbi := C.init.bind (.ref s.heap.objs.size)
    repeat (any_goals (first | assumption | wp_step))
    refine codeAny_mono (codeAny_call_builtin (R := wants (fun r s₂ => r = .none ∧ ∃ h' tk c, s₂ = { s with heap := h', toks := tk } ∧ SetR w h' s.heap.objs.size (fun j => decide (j ∈ ns)) c ∧ c ≤ ns.length ∧ ∀ b o, s.heap.get? b = some o → h'.get? b = some o) E) C.init.plain F.entry_set_init (check_set_init_1 hT ?_)) fun r₂ s₂ hr₂ => ?_
    · obtain ⟨⟨ocls, odict, odata, oslots⟩, hol, hcl, nl, hdl⟩ := hl
      simp only at hcl hdl
      subst hcl hdl
      have hol' : (s.heap.push (newSet w)).get? l = some { cls := .type "list", dict := odict, data := .seq items nl, slots := oslots } := Heap.get?_push_of_some _ hol
      have hsls := F.sub_list_set; have hslf := F.sub_list_frozenset
      have hne : (Value.type "list" == Value.type "dict") = false := by decide
      have hl1 : (s.heap.push (newSet w)).IsList l items := ⟨_, hol', rfl, nl, rfl⟩
      unfold Builtin.«set.__init__» noKeywords Builtin.Frozenset.updateFrom
      generalize hPI : pyIter = PI
      wp_walk
      subst hPI
      refine wpAny_pyIter_list hl1 (wpAny_bind (wpAny_runValue ?_))
      have hlS : l < s.heap.objs.size := Heap.lt_size hol
      have hh3 : A.in1.in1.in1.handled = none := by simp [hh]
      have hz : (s.heap.push (newSet w)).objs.size = s.heap.objs.size + 1 := Heap.size_push ..
      have hneI : l ≠ (s.heap.push (newSet w)).objs.size := by rw [hz]; exact Nat.ne_of_lt (Nat.lt_succ_of_lt hlS)
      have hSf : s.heap.objs.size ∉ [(s.heap.push (newSet w)).objs.size, l] := by
        rw [hz]; simp only [List.mem_cons, List.not_mem_nil, or_false, not_or]; exact ⟨Nat.ne_of_lt (Nat.lt_succ_self _), Nat.ne_of_gt hlS⟩
      have hval : ∀ (i : Nat) (v : Value), items[i]? = some v → ∃ k t, ns[i]? = some k ∧ v = .int k t := fun i v hv => by
        have hi : i < ns.length := hisz ▸ (Array.getElem?_eq_some_iff.mp hv).1
        obtain ⟨t, e⟩ := PyProof.Rows.IntsAre.int_at hit i v (by rw [Array.getElem?_toList]; exact hv)
        exact ⟨ns[i], t, List.getElem?_eq_getElem hi, by rw [e, List.getD_eq_getElem?_getD, List.getElem?_eq_getElem hi]; rfl⟩
      refine set_update_ints ((Walks.list hh3 _ l hneI items).toS) s.heap.objs.size hSf ns hisz hb hval (items.size - 0) 0 _ (by omega) (Nat.zero_le _) ⟨⟨_, Heap.get?_push_size _ rfl, rfl, rfl⟩, (hl1.push _)⟩ ?z0 ?zR
      case z0 => exact ⟨0, Nat.le_refl 0, setR_new_at (Heap.get?_push_of_some _ hS)⟩
      case zR =>
        intro s' c' hm hc' hS'
        obtain ⟨h', g2, d', tk', os'⟩ := s'
        have eg : g2 = s.gens := hm.gens
        have ed : d' = s.drawn := hm.drawn
        have eo : os' = s.os := hm.os
        subst eg ed eo
        rw [hisz] at hc'
        refine wpAny_pure (?_ : wpAny _ _ (ret Value.none) _ _ _)
        refine wpAny_pure ⟨rfl, h', tk', c', rfl, hS', hc', fun b o e => ?_⟩
        have hb0 : b < s.heap.objs.size := Heap.lt_size e
        refine hm.heap b o ?_ (Heap.get?_push_of_some _ (Heap.get?_push_of_some _ e))
        simp only [List.mem_cons, List.not_mem_nil, or_false, not_or]
        exact ⟨Nat.ne_of_lt hb0, by rw [hz]; exact Nat.ne_of_lt (Nat.lt_succ_of_lt hb0)⟩
    · cases r₂ with
      | error e => exact hr₂
      | ok fl₂ =>
      cases fl₂ with
      | ret r =>
        obtain ⟨rfl, h', tk, c', rfl, hS', hc', hk'⟩ := hr₂
        repeat (any_goals (first | assumption | wp_step))
        exact h _ _ _ hS' hc' hk'
      | _ => exact hr₂.elim
  | _ => exact hr.elim
section
variable {X : Cx}
/-- set(xs), xs a list of whole numbers -/
def rSetI (K : PySem.W.Frag) (w : World) : List V → Hp → VK → Prop := fun vs H Q => ∃ (l : Addr) (ns : List Int), vs = [V.ref l] ∧ SqL K H l (ns.map V.int) ∧ ns.length ≤ 60 ∧
  ∀ (a : Addr) (c : Nat), c ≤ ns.length → H a = none → Q (.ref a) (upd H a (SetO w a (fun j => decide (j ∈ ns)) c))
theorem cr_setI (hc : X.calm = true) : CallR X (.type "set") (rSetI X.K X.w) := by
  intro pins s σ H vs us Q I r h
  obtain ⟨l, ns, rfl, hs, hlen, q⟩ := h
  obtain ⟨its, rv, pl, hz⟩ := I.list hs
  rw [Vals.ref1 r]
  have hi : IntsAre its.toArray.toList ns := by simpa using rv.ints
  refine set_of_ints ns (I.ok.hd hc) pl.isList hi (by unfold scanBound; omega) fun h' tk c R hcl hk => ?_
  exact ⟨.ref _, upd H s.heap.objs.size (SetO X.w s.heap.objs.size (fun j => decide (j ∈ ns)) c), I.laid (t' := tk) hk (Nat.le_refl _) (setO_new R), rfl, q _ c hcl (I.hok.fresh (Nat.le_refl _))⟩
/-- d[k], d a written dict -/
theorem ix_kd {d : Addr} {es : Array DictEntry} {n : Nat} (D : KDict X.K X.w d es n) : IxR X (fun x y H Q => ∃ (z : Str) (u0 : Value) (v0 : V), x = .ref d ∧ y = .str z ∧ PySem.W.nsIn X.K d z = some (some u0) ∧ RelV v0 u0 ∧ Q v0 H) := by
  intro value slice pins s σ H x y v u Q I rx ry h hs
  obtain ⟨z, u0, v0, ex, ey, e, r, q⟩ := h
  subst ex ey
  cases rx
  obtain ⟨t, rfl⟩ := ry
  have fin : EP X pins σ Q u0 s := ⟨v0, H, I, r, q⟩
  exact subscriptTail_builtinR (x := u0) (kd_type D I) PySem.F.slot_dict_getitem.lookup
    (wpAny_getItem_of (PySem.strKind_is X.prog X.w z t) (PySem.W.mapOf_K (prog := X.prog) I.kIn D.at_ D.lit) (PySem.W.find_K D.at_ e) ⟨rfl, ⟨v0, H, I.tok _, r, q⟩⟩) hs
end
end DP
/-! The rules with the written part named, for comprehensions; a method called with keywords. -/
namespace DP
open PySem PySem.Spec PyProof.Rows L2
section
variable {X : Cx} {K : PySem.W.Frag}
theorem ixT (h : X.K = K := by rfl) : IxR X (rIxT K) := by subst h; exact ix_tup
theorem ixL (h : X.K = K := by rfl) : IxR X (rIxL K) := by subst h; exact ix_list
theorem inS (h : X.K = K := by rfl) : OpR X (compareOp .In) (rIn K false) := by subst h; exact op_in_seq
theorem notInS (h : X.K = K := by rfl) : OpR X (compareOp .NotIn) (rIn K true) := by subst h; exact op_notIn_seq
theorem eqDK (hu : X.A.units + 64 < cLine) (h : X.K = K := by rfl) : OpR X (compareOp .Eq) (rEqD K) := by subst h; exact op_eqD hu
theorem neDK (hu : X.A.units + 64 < cLine) (h : X.K = K := by rfl) : OpR X (compareOp .NotEq) (rNeD K) := by subst h; exact op_neD hu
theorem inDK (hu : X.A.units + 65 < cLine) (h : X.K = K := by rfl) : OpR X (compareOp .In) (rInD K) := by subst h; exact op_inD hu
theorem notInDK (hu : X.A.units + 65 < cLine) (h : X.K = K := by rfl) : OpR X (compareOp .NotIn) (rNotInD K) := by subst h; exact op_notInD hu
def rLenK (K : PySem.W.Frag) : List V → Hp → VK → Prop := fun xs H Q => ∃ p ys, xs = [V.ref p] ∧ (SqL K H p ys ∨ SqT K H p ys) ∧ Q (.int ys.length) H
theorem lenK (h : X.K = K := by rfl) : CallR X (.builtin "len") (rLenK K) := by subst h; exact call_len_seq
def rListK (K : PySem.W.Frag) : List V → Hp → VK → Prop := fun xs H Q => ∃ p ys, xs = [V.ref p] ∧ (SqL K H p ys ∨ SqT K H p ys) ∧ ∀ l, H l = none → Q (.ref l) (upd H l (.lst ys))
theorem listK (h : X.K = K := by rfl) : CallR X (.type "list") (rListK K) := by subst h; exact call_list_of
theorem maxK (hc : X.calm = true) (h : X.K = K := by rfl) : CallR X (.builtin "max") (rMax K) := by subst h; exact cr_max hc
theorem minK (hc : X.calm = true) (h : X.K = K := by rfl) : CallR X (.builtin "min") (rMin K) := by subst h; exact cr_min hc
theorem maxDK (hc : X.calm = true) (hu : X.A.units + 65 < cLine) (h : X.K = K := by rfl) : CallR X (.builtin "max") (rBestD K PySem.W.maxD) := by subst h; exact cr_maxD hc hu
theorem minDK (hc : X.calm = true) (hu : X.A.units + 65 < cLine) (h : X.K = K := by rfl) : CallR X (.builtin "min") (rBestD K PySem.W.minD) := by subst h; exact cr_minD hc hu
theorem sortK (h : X.K = K := by rfl) : CallR X (.builtin "sorted") (rSorted K) := by subst h; exact cr_sorted
theorem sortDK {β : Type} (enc : β → PyData) (hu : X.A.units + 65 < cLine) (h : X.K = K := by rfl) : CallR X (.builtin "sorted") (rSortD K enc) := by subst h; exact cr_sortD enc hu
theorem setIK {w : World} (hc : X.calm = true) (h : X.K = K := by rfl) (hw : X.w = w := by rfl) : CallR X (.type "set") (rSetI K w) := by subst h hw; exact cr_setI hc
theorem sortedSetK {w : World} (hc : X.calm = true) (hw : X.w = w := by rfl) : CallR X (.builtin "sorted") (rSortedSet w) := by subst hw; exact cr_sortedSet hc
theorem slL (h : X.K = K := by rfl) : SlR X (rSlL K) := by subst h; exact sl_list
theorem isiK (h : X.K = K := by rfl) : CallR X (.builtin "isinstance") (rIsi K) := by subst h; exact call_isi
theorem fldK {o : Expr} {ta : TE} {f : Str} {pos : Pos} (he : PE X o ta) (hb : attributeBase o f X.env (eval o X.env) = eval o X.env := by rfl) (h : X.K = K := by rfl) : PE X (.Attribute o f pos) (tFld K ta f) := by subst h; exact pe_fld he hb
theorem tupK {es : List Expr} {k : Nat} {t : TGs} {n : Nat} {pos : Pos} (hc : X.calm = true) (h1 : PGs X es t) (hn : (assignEach es X.env).length = n := by rfl) (hst : (assignEach es X.env).findIdx? (·.1) = none := by rfl) (h : X.K = K := by rfl) :
    PG X (.Tuple es k pos) (gTup K n t) := by subst h; exact pg_tup hc h1 hn hst
end
section
variable {X : Cx} {CX : CXT} {k : Nat} {f C : Addr} {fd : FuncData} {ps ks : List Str} {sp : Sp} {E : XK} {m : Str} {pos apos : Pos} {o : Expr} {kws : List Keyword} {ta : TE} {tk : TA} {g : List Value → List Value → List Value} {gV : List V → List V → List V}
/-- o.m(k = v, ..) -/
def tMethK (C : Addr) (m : Str) (sp : Sp) (gV : List V → List V → List V) (E : XK) (ta : TE) (tk : TA) : TE := fun σ H Q => ta σ H fun x H1 => ∃ a dx fs, x = .ref a ∧ H1 a = some (.ins C dx fs) ∧ fs.lookup m = none ∧ tk σ H1 fun zs H2 => sp (gV [.ref a] zs) H2 Q E
theorem pe_methK0 {pl : Sem Bool} (he : PE X o ta) (c : Cls X.K C) (hm : Meth X.K C m f) (F : FnOk X.prog X.w X.K X.mg X.base CX k f fd ps sp) (hr : Room k X.A) (hb : KBinds X.K fd ps ks g gV) (hx : Passes CX X E) (hkw : PK X kws tk)
    (hall : (backToKw pos (keywordEach kws X.env)).all (·.1.isSome) = true := by rfl) (hks : (backToKw pos (keywordEach kws X.env)).filterMap (·.1) = ks := by rfl)
    (hpl : ((backTo pos (starEach [] X.env)).any (·.1) || (backToKw pos (keywordEach kws X.env)).any (·.1.isNone)) = false := by rfl)
    (ht : eval (.Call (.Attribute o m apos) [] kws pos) X.env = (do
      let ov ← eval o X.env
      standAt apos.atName
      let (f, first) ← holding [ov] (getMethod ov m pl)
      callWith pos f first (backTo pos (starEach [] X.env)) (backToKw pos (keywordEach kws X.env))) := by rfl) :
    PE X (.Call (.Attribute o m apos) [] kws pos) (tMethK C m sp gV E ta tk) := by
  refine ⟨fun pins s σ H Q I h => ?_⟩
  refine PySem.W.methodCall_KW (pl := pl) (thn (he.run pins s σ H _ I h) fun u s1 ⟨x, H1, I1, rx, a, dx, fs, ex, ea, l, q⟩ => ?_) ht
  subst ex
  obtain rfl : u = Value.ref a := rx
  refine getmeth_ok I1 ea c hm l ?_
  refine PySem.W.callWith_KW0 (first := [.ref a]) (h₀ := X.base) I.ok.mod.kin hm.kp hall ?_ hpl
  refine thn (hkw.run pos pins s1 σ H1 _ I1 q) fun ws s2 ⟨zs, H2, I2, rz, q2⟩ => ⟨I2.kIn, ?_⟩
  rw [hks]
  exact run_fnk (us := [.ref a]) (vs := [.ref a]) F hr hb hx I2 (.cons rfl .nil) rz q2
end
/-- one positional value, one keyword -/
def g11 {α : Type} : List α → List α → List α
  | [a], [b] => [a, b]
  | _, _ => []
theorem g11_rel {vs : List V} {us : List Value} {zs : List V} {ws : List Value} (r : Vals vs us) (q : Vals zs ws) : Vals (g11 vs zs) (g11 us ws) := by
  cases r with
  | nil => exact .nil
  | cons a t =>
    cases t with
    | cons _ _ => exact .nil
    | nil =>
      cases q with
      | nil => exact .nil
      | cons b t =>
        cases t with
        | cons _ _ => exact .nil
        | nil => exact .cons a (.cons b .nil)
end DP
/-! Calls by keywords, in any order, with defaults: functions, methods, classes. -/
namespace KW
open PySem PySem.Spec PyProof.Rows L2 DP
/-- those of a list that stand at these places -/
def pick {α : Type} (is : List Nat) (l : List α) : List α := is.filterMap fun i => l[i]?
theorem vals_at : ∀ {vs : List V} {us : List Value} (r : Vals vs us) (i : Nat), (vs[i]? = none ∧ us[i]? = none) ∨ ∃ v u, vs[i]? = some v ∧ us[i]? = some u ∧ RelV v u
  | _, _, .nil, i => .inl ⟨by simp, by simp⟩
  | _, _, .cons h t, 0 => .inr ⟨_, _, rfl, rfl, h⟩
  | _, _, .cons h t, i + 1 => by simpa using vals_at t i
theorem pick_rel {vs : List V} {us : List Value} (r : Vals vs us) : ∀ is : List Nat, Vals (pick is vs) (pick is us)
  | [] => .nil
  | i :: is => by
    unfold pick
    rw [List.filterMap_cons, List.filterMap_cons]
    rcases vals_at r i with ⟨e1, e2⟩ | ⟨v, u, e1, e2, h⟩
    · rw [e1, e2]; exact pick_rel r is
    · rw [e1, e2]; exact .cons h (pick_rel r is)
/-- positional values, then the rest out of the keywords' values and the defaults -/
def gk {α : Type} (is : List Nat) (ds us ws : List α) : List α := us ++ pick is (ws ++ ds)
theorem gk_rel {is : List Nat} {dv vs zs : List V} {ds us ws : List Value} (rd : Vals dv ds) (r : Vals vs us) (rz : Vals zs ws) : Vals (gk is dv vs zs) (gk is ds us ws) := r.append (pick_rel (rz.append rd) is)
/-- all parameters are given -/
theorem kbn0 {K : PySem.W.Frag} {fd : FuncData} {ps ks : List Str} {n : Nat} (is : List Nat) (h : ∀ us ws : List Value, us.length = n → ws.length = ks.length → bindArgs fd ⟨us, ks.zip ws⟩ = pure (ps.zip (gk is [] us ws))) : KBn K fd ps n ks (gk is []) (gk is []) :=
  ⟨fun s us ws _ h1 h2 => .of_eq (h us ws h1 h2), fun r rz => gk_rel .nil r rz⟩
section
variable {K : PySem.W.Frag} {x qual : Str} {params : Arguments} {body : List Stmt} {scope : Scope} {dvs : List V} {f : Addr} {fd : FuncData} {ps : List Str}
/-- the lacking ones stand among the defaults -/
theorem kbnD (F : FunD K x qual params body scope dvs [] f fd) (n : Nat) (ks : List Str) (is : List Nat) (hd : dvs ≠ [])
    (h : ∀ (T : Addr) (kV doc pm : Value) (an : Option Addr) (cdv ct : Value) (us its ws : List Value), us.length = n → its.length = dvs.length → ws.length = ks.length →
      ∃ k, bindArgs (PySem.W.fnOf x qual params body scope (.ref T) kV doc pm an cdv ct) ⟨us, ks.zip ws⟩ = seqItems? (.ref T) >>= k ∧ k (some its.toArray) = pure (ps.zip (gk is its us ws))) : ∃ its : List Value, KBn K fd ps n ks (gk is its) (gk is dvs) := by
  obtain ⟨oc, od, dV, kV, doc, pm, an, cdv, ct, osl, rfl, lk, hcd, hD, hK⟩ := F.ex
  rcases hD with ⟨e, _⟩ | ⟨_, T, o, its, m, rfl, lT, oT, rT⟩
  · exact absurd e hd
  · refine ⟨its, fun s us ws X l1 l2 => ?_, fun r rz => gk_rel rT r rz⟩
    obtain ⟨k, e1, e2⟩ := h T kV doc pm an cdv ct us its ws l1 rT.length.symm l2
    refine BindsTo.of_looks fun M => ?_
    rw [e1]
    exact looks_items X lT oT (.of_pure e2)
end
section
variable {X : Cx} {CX : CXT} {k : Nat} {f C : Addr} {fd : FuncData} {ps ks : List Str} {sp : Sp} {E : XK} {x m : Str} {p pos apos : Pos} {o : Expr} {kws : List Keyword} {ta : TE} {tk : TA} {g : List Value → List Value → List Value} {gV : List V → List V → List V}
def tCallN0 (c : Nat) (sp : Sp) (gV : List V → List V → List V) (E : XK) (tk : TA) : TE := fun σ H Q => tk σ H fun zs H2 => zs.length = c ∧ sp (gV [] zs) H2 Q E
/-- f(k = v, ..) -/
theorem pe_callN0 (F : FnOk X.prog X.w X.K X.mg X.base CX k f fd ps sp) (hr : Room k X.A) (hg : Gl X x) (hm : X.mg x = some (.ref f)) (hk : PySem.W.keepIn X.K (.ref f) = true) (hb : KBn X.K fd ps 0 ks g gV) (hx : Passes CX X E) (hkw : PK X kws tk)
    (hall : (backToKw pos (keywordEach kws X.env)).all (·.1.isSome) = true := by rfl) (hks : (backToKw pos (keywordEach kws X.env)).filterMap (·.1) = ks := by rfl) (hdb : (x == ("__debug__" : Str)) = false := by decide)
    (hpl : ((backTo pos (starEach [] X.env)).any (·.1) || (backToKw pos (keywordEach kws X.env)).any (·.1.isNone)) = false := by rfl) :
    PE X (.Call (.Name x p) [] kws pos) (tCallN0 ks.length sp gV E tk) := by
  refine ⟨fun pins s σ H Q I h => ?_⟩
  refine wpAny_Call_Name_kw (ld_glob I hg hm ?_ hdb)
  refine PySem.W.callWith_KW0 (h₀ := X.base) I.ok.mod.kin hk hall ?_ hpl
  refine thn (hkw.run pos pins s σ H _ I h) fun ws s2 ⟨zs, H2, I2, rz, l2, q2⟩ => ⟨I2.kIn, ?_⟩
  rw [hks]
  exact run_fnN (us := []) (vs := []) F hr hb hx I2 .nil rz rfl l2 q2
def tMethN (C : Addr) (m : Str) (c : Nat) (sp : Sp) (gV : List V → List V → List V) (E : XK) (ta : TE) (tk : TA) : TE := fun σ H Q => ta σ H fun x H1 => ∃ a dx fs, x = .ref a ∧ H1 a = some (.ins C dx fs) ∧ fs.lookup m = none ∧ tk σ H1 fun zs H2 => zs.length = c ∧ sp (gV [.ref a] zs) H2 Q E
/-- o.m(k = v, ..) -/
theorem pe_methN {pl : Sem Bool} (he : PE X o ta) (c : Cls X.K C) (hm : Meth X.K C m f) (F : FnOk X.prog X.w X.K X.mg X.base CX k f fd ps sp) (hr : Room k X.A) (hb : KBn X.K fd ps 1 ks g gV) (hx : Passes CX X E) (hkw : PK X kws tk)
    (hall : (backToKw pos (keywordEach kws X.env)).all (·.1.isSome) = true := by rfl) (hks : (backToKw pos (keywordEach kws X.env)).filterMap (·.1) = ks := by rfl)
    (hpl : ((backTo pos (starEach [] X.env)).any (·.1) || (backToKw pos (keywordEach kws X.env)).any (·.1.isNone)) = false := by rfl)
    (ht : eval (.Call (.Attribute o m apos) [] kws pos) X.env = (do
      let ov ← eval o X.env
      standAt apos.atName
      let (f, first) ← holding [ov] (getMethod ov m pl)
      callWith pos f first (backTo pos (starEach [] X.env)) (backToKw pos (keywordEach kws X.env))) := by rfl) :
    PE X (.Call (.Attribute o m apos) [] kws pos) (tMethN C m ks.length sp gV E ta tk) := by
  refine ⟨fun pins s σ H Q I h => ?_⟩
  refine PySem.W.methodCall_KW (pl := pl) (thn (he.run pins s σ H _ I h) fun u s1 ⟨x, H1, I1, rx, a, dx, fs, ex, ea, l, q⟩ => ?_) ht
  subst ex
  obtain rfl : u = Value.ref a := rx
  refine getmeth_ok I1 ea c hm l ?_
  refine PySem.W.callWith_KW0 (first := [.ref a]) (h₀ := X.base) I.ok.mod.kin hm.kp hall ?_ hpl
  refine thn (hkw.run pos pins s1 σ H1 _ I1 q) fun ws s2 ⟨zs, H2, I2, rz, l2, q2⟩ => ⟨I2.kIn, ?_⟩
  rw [hks]
  exact run_fnN (us := [.ref a]) (vs := [.ref a]) F hr hb hx I2 (.cons rfl .nil) rz rfl l2 q2
end
section
variable {P : Program} {w : World} {K : PySem.W.Frag} {mg : Str → Option Value} {base : Heap} {x qual : Str} {st : Stmt} {dvs : List V} {f : Addr} {fd : FuncData}
/-- a def with defaults, by its body -/
theorem FunD.okN {N ps : List Str} {k : Nat} {sp : Sp} (F : FunD K x qual (defArgs st) (defBody st) (defScope st) dvs [] f fd) (S : FnScope N ps (defScope st)) (len : ∀ vs H Q E, sp vs H Q E → vs.length = ps.length)
    (hbody : ∀ (cdv : Value) (A : Around) (outer : List Env) (s : Shared) (H : Hp) (vs : List V) (Q : VK) (E : XK), Room k (A.deeper (envOfC qual (defScope st) s.heap.objs.size f cdv)) → sp vs H Q E →
      ∃ t, PSs (cxOf CX0 P w K mg base N qual (defScope st) f cdv A outer s H E).nox (defBody st) t ∧ t { nx := fun _ H' => Q .non H', rt := Q } (start N vs) H) : FnOk P w K mg base CX0 (k + 1) f fd ps sp :=
  F.ok S len fun cdv A outer s H vs Q E hr hsp => by
    obtain ⟨t, h, q⟩ := hbody cdv A outer s H vs Q E hr hsp
    exact ⟨t, h.nox, q⟩
end
end KW
/-! A set of whole numbers gathered by a comprehension without tests: {elt for tg in iter}. -/
namespace NS
open PySem PySem.Spec PyProof.Rows L2 PpSet
/-- what the item's value must be: a number, that goes into the set at D -/
def Put (w : World) (D : Addr) (N : Hp → Prop) : VK := fun y H => ∃ (k : Int) (S : Int → Bool) (m : Nat), y = .int k ∧ H D = some (SetO w D S m) ∧ m + 1 < scanBound ∧
  N (upd H D (SetO w D (fun j => S j || decide (j = k)) (if S k = true then m else m + 1)))
/-- n items; P i holds ahead of item i -/
def tNums (w : World) (wi : TI) (g : TG) (te : TE) (vs : List Nat) : TE := fun σ H Q => wi σ H fun J H1 => ∀ D, H1 D = none → ∃ (n : Nat) (P : Nat → Hp → Prop),
  P 0 (upd H1 D (SetO w D (fun _ => false) 0)) ∧ (∀ G, P n G → J.stop n G ∧ Q (.ref D) G) ∧
    ∀ i G, i < n → P i G → J.go i G ∧ ∀ x G', J.yld i G x G' → g x (wipe σ vs) G' fun σ2 G2 => wipe σ2 vs = wipe σ vs ∧ te σ2 G2 (Put w D (P (i + 1)))
section
variable {X : Cx} {elt tg iter : Expr} {scope : Scope} {pos : Pos} {g : TG} {te : TE}
/-- the block's turns, from item i on -/
theorem turns {s0 : Shared} {H0 : Hp} {ce : Env} {fp : List Addr} {it D : Addr} {tn : Nat → Heap → Prop} {J : It} {σ : L2.St} {vs : List Nat} {n : Nat} {P : Nat → Hp → Prop} {R : Result → Shared → Prop} {s : Shared}
    (hc : X.calm = true) (T : Turn X.prog X.w X.K tg J fp it tn)
    (foot : ∀ {σ' : L2.St} {H' : Hp} {s' : Shared}, Inv (X.blk s0 H0 scope ce fp) [] σ' H' s' → (∀ b ∈ fp, H' b = none) → ∀ b ∈ fp, FpOk (X.blk s0 H0 scope ce fp) [] H' b)
    (hg : PG (X.blk s0 H0 scope ce fp) tg g) (he : PE (X.blk s0 H0 scope ce fp) elt te)
    (each : ∀ i G, i < n → P i G → J.go i G ∧ ∀ x G', J.yld i G x G' → g x (wipe σ vs) G' fun σ2 G2 => wipe σ2 vs = wipe σ vs ∧ te σ2 G2 (Put X.w D (P (i + 1))))
    (stop : ∀ G, P n G → J.stop n G) (fin : ∀ s' G, Inv (X.blk s0 H0 scope ce fp) [] (wipe σ vs) G s' → P n G → R (.ok .next) s')
    (i : Nat) (hi : i ≤ n) (G : Hp) (I : Inv (X.blk s0 H0 scope ce fp) [] (wipe σ vs) G s) (t : tn i s.heap) (z : ∀ b ∈ fp, G b = none) (p : P i G) :
    codeAny (model X.prog X.w) X.A (.compLoop (.SetComp elt [⟨tg, iter, [], 0⟩] scope pos) 0 (.ref it) (.ref D) ce) R s := by
  refine compLoopS_any (fun left s' => ∃ i G, left = n - i ∧ i ≤ n ∧ Inv (X.blk s0 H0 scope ce fp) [] (wipe σ vs) G s' ∧ tn i s'.heap ∧ (∀ b ∈ fp, G b = none) ∧ P i G) ?_ (n - i) ⟨i, G, rfl, hi, I, t, z, p⟩
  rintro left s1 ⟨i, G, rfl, hi, I, t, z, p⟩
  rcases Nat.lt_or_ge i n with lt | ge
  · obtain ⟨go, next⟩ := each i G lt p
    refine thnF (T.item (X.blk s0 H0 scope ce fp) rfl rfl rfl hc i [] s1 _ G (fun _ _ => False) I (foot I z) t go) fun r s2 ⟨u, er, got⟩ => ?_
    subst er
    refine thnF got fun _ s3 ⟨x, G3, I3, rx, y, t3, z3⟩ => ?_
    refine thnF (hg.run _ s3 _ G3 x u _ (I3.pinned (foot I3 z3) (T.obj _ _ t3)) rx (next x G3 y)) fun _ s4 ⟨σ4, G4, I4, back, q4⟩ => ?_
    rw [List.forIn_nil]
    refine wpAny_pure ?_
    rw [if_pos rfl]
    refine thnF (he.run _ s4 σ4 G4 _ I4 q4) fun v s5 ⟨yv, G5, I5, rv, k, S, m, ey, hS, room, q5⟩ => ?_
    subst ey
    refine thnF (mt_sadd (X := X.blk s0 H0 scope ce fp) _ s5 σ4 G5 (.ref D) [.int k] (.ref D) [v] (fun _ G6 => P (i + 1) G6) I5 rfl (.cons rv .nil) ⟨D, k, S, m, rfl, rfl, hS, room, q5⟩) fun _ s6 ⟨_, G6, I6, _, q6⟩ => ?_
    have kept : ∀ b ∈ fp, ∀ o, s3.heap.get? b = some o → s6.heap.get? b = some o ∧ G6 b = none := fun b hb o e =>
      have w := I6.pin (b, o) (List.mem_append_right _ (List.mem_append_right _ (mem_pinsAt hb e)))
      ⟨w.1, w.2.1⟩
    refine ⟨n - (i + 1), by omega, i + 1, G6, rfl, lt, (I6.unpinned (pins := [])).weak ?_ ?_, T.keep _ _ _ t3 fun b hb o e => (kept b hb o e).1, fun b hb => ?_, q6⟩
    · rw [← back, wipe_length]
    · intro j v e
      rw [← back] at e
      exact (wipe_some e).1
    · obtain ⟨o, e, _⟩ := T.obj _ _ t3 b hb
      exact (kept b hb o e).2
  · have e : i = n := Nat.le_antisymm hi ge
    subst e
    refine thnF (T.done (X.blk s0 H0 scope ce fp) rfl rfl rfl hc i [] s1 _ G (fun _ _ => False) I (foot I z) t (stop G p)) fun r s2 ⟨er, I2⟩ => ?_
    subst er
    exact fin s2 G I2 p
theorem pe_nums {own : List (PySem.Str × Nat)} {wi : TI} (hc : X.calm = true) (hN : X.N.Nodup) (hi : PI X tg iter wi) (ok : BlkOk X.N X.env.scope scope own)
    (hg : ∀ (s : Shared) (H : Hp) (C : Addr) (cl : List (PySem.Str × Addr)) (fp : List Addr), PG (X.blk s H scope (compEnvC scope cl C X.env) fp) tg g)
    (he : ∀ (s : Shared) (H : Hp) (C : Addr) (cl : List (PySem.Str × Addr)) (fp : List Addr), PE (X.blk s H scope (compEnvC scope cl C X.env) fp) elt te) (hs : ∀ x, foldedSetIterable iter X.env x = pure x := by intro _; rfl) :
    PE X (.SetComp elt [⟨tg, iter, [], 0⟩] scope pos) (tNums X.w wi g te (own.map (·.2))) := by
  refine ⟨fun pins s σ H Q I h => ?_⟩
  rw [eval_SetComp]
  have outer : ∀ y ∈ scope.names, y.2 = .free → ∃ c, X.env.cells.lookup y.1 = some c := fun y hy e => I.ok.has _ (ok.free y hy e)
  refine wpAny_comprehension_free (use := none) rfl hs (closure_ok outer) ok.kind (fun y hy e => by rw [ok.uniq y hy, e]) (thn (hi.run pins s σ H _ I h) fun _ s1 h1 => thn h1 fun _ s2 h2 => ?_)
  obtain ⟨it, fp, tn, J, H2, rfl, I2, T, t2, f2, q⟩ := h2
  refine newSet_ok (newEnv_comp ?_)
  obtain ⟨D, hD⟩ : ∃ D, D = s2.heap.objs.size := ⟨_, rfl⟩
  have new := setR_fresh (h := s2.heap) X.w
  have grow : ∀ b o, s2.heap.get? b = some o → (s2.heap.push { cls := .type "set", dict := none, data := .set #[] 0 (.fresh 0 0 (!X.w.params.followText "set-order")) }).get? b = some o := fun b o e => Heap.get?_push_of_some _ e
  have wide := Heap.size_push s2.heap { cls := .type "set", dict := none, data := .set #[] 0 (.fresh 0 0 (!X.w.params.followText "set-order")) }
  rw [← hD] at new wide ⊢
  generalize s2.heap.push { cls := .type "set", dict := none, data := .set #[] 0 (.fresh 0 0 (!X.w.params.followText "set-order")) } = h3 at new grow wide ⊢
  obtain ⟨n, P, p0, last, each⟩ := q D (I2.hok.fresh (Nat.le_of_eq hD.symm))
  have I3 : Inv X pins σ (upd H2 D (SetO X.w D (fun _ => false) 0)) { s2 with heap := h3 } := I2.laid (t' := s2.toks) grow (Nat.le_of_eq hD.symm) (setO_new new)
  have f3 : ∀ b ∈ fp, FpOk X pins (upd H2 D (SetO X.w D (fun _ => false) 0)) b ∧ b < h3.objs.size := fun b hb => by
    obtain ⟨o, e, _⟩ := T.obj _ _ t2 b hb
    have lt := Heap.lt_size e
    refine ⟨⟨?_, (f2 b hb).2⟩, by rw [wide, hD]; exact Nat.lt_succ_of_lt lt⟩
    rw [upd_ne (by rw [hD]; exact Nat.ne_of_lt lt)]
    exact (f2 b hb).1
  generalize upd H2 D (SetO X.w D (fun _ => false) 0) = H3 at p0 I3 f3
  have I4 := block_start I3 ok hN f3
  have t4 : tn 0 (pushCells (h3.push { cls := .type "dict", data := .dict #[] }) scope.names) := T.keep _ _ _ t2 fun b _ o e => pushCells_keeps _ _ _ _ (Heap.get?_push_of_some _ (grow b o e))
  change codeAny _ _ (.compStart _ 0 _ _ (compEnvC scope (cellsFrom (h3.objs.size + 1) scope.names (cloFrom X.env.cells scope.names [])) h3.objs.size X.env)) (compPost (model X.prog X.w) X.A X.xe none _ (.ref D) h3.objs.size) { s2 with heap := pushCells (h3.push { cls := .type "dict", data := .dict #[] }) scope.names }
  refine codeAny_compStart_set ?_ (T.self X.A 0 _ _ _ t4 ?_)
  all_goals
    refine turns (X := X) (s0 := { s2 with heap := h3 }) (H0 := H3) (fp := fp) (σ := σ) (vs := own.map (·.2)) (n := n) (P := P) hc T (fun {σ' H' s'} I' z b hb => ?_) (hg _ _ _ _ _) (he _ _ _ _ _) each (fun G p => (last G p).1) (fun s' G I' p => ?_) 0 (Nat.zero_le n) H3 I4 t4 (fun b hb => (f3 b hb).1.1) p0
    · exact ⟨z b hb, (I'.ok.exf b hb).1, I'.ok.exfs b hb, .inl hb, fun x c e => (I'.ok.exf b hb).2 x c e, fun p hp => absurd (show p ∈ ([] : List (Addr × Obj)) ++ [] from hp) (by simp)⟩
    · have I5 : Inv X pins σ G s' := I3.call' (ch := fp) I'.os I'.base I'.hok I'.bare fun b hb => ⟨(f3 b hb).1.2.2.2.1, (f3 b hb).1.2.1, (f3 b hb).1.2.2.2.2.1, (f3 b hb).1.2.2.2.2.2⟩
      have free : G h3.objs.size = none := I'.free
      obtain ⟨m, hn, _⟩ := I'.loc
      refine ⟨m, hn, fun h' sb => ?_⟩
      obtain ⟨e0, e1, e2, e3, e4, e5⟩ := I3.fpOk (H' := G) (Nat.le_refl _) free
      exact ⟨.ref D, G, I5.turned (t' := s'.toks) (fun b o hb e => (sb.2 b hb).trans e) e0 e1 e3 e4 e5, rfl, (last G p).2⟩
end
end NS
namespace KA
open PySem PySem.Spec PyProof.Rows L2 DP
def top (i : Nat) : Stmt := PySem.Challenge.pw_darkpace_k36_whole_dials_widened.main.body.getD i (.Pass ⟨0, 0, 0, 0⟩)
abbrev slaw_deck : Stmt := top 35
abbrev N_law_deck : List Str := ["script", "great", "fold", "cell"]
abbrev P_law_deck : List Str := ["script"]
theorem sclaw_deck : FnScope N_law_deck P_law_deck (defScope slaw_deck) := ⟨rfl, rfl, rfl, by decide +kernel, rfl, by decide +kernel, by decide +kernel⟩
abbrev slaw_take : Stmt := top 36
abbrev N_law_take : List Str := ["deck", "many", "drawn", "k", "mixed"]
abbrev P_law_take : List Str := ["deck", "many"]
theorem sclaw_take : FnScope N_law_take P_law_take (defScope slaw_take) := ⟨rfl, rfl, rfl, by decide +kernel, rfl, by decide +kernel, by decide +kernel⟩
abbrev slaw_below : Stmt := top 37
abbrev N_law_below : List Str := ["deck", "many", "found", "left"]
abbrev P_law_below : List Str := ["deck", "many"]
theorem sclaw_below : FnScope N_law_below P_law_below (defScope slaw_below) := ⟨rfl, rfl, rfl, by decide +kernel, rfl, by decide +kernel, by decide +kernel⟩
abbrev slaw_hidden : Stmt := top 39
abbrev N_law_hidden : List Str := ["deck", "wide", "many", "spots", "k", "begun", "ends", "spot"]
abbrev P_law_hidden : List Str := ["deck", "wide", "many"]
theorem sclaw_hidden : FnScope N_law_hidden P_law_hidden (defScope slaw_hidden) := ⟨rfl, rfl, rfl, by decide +kernel, rfl, by decide +kernel, by decide +kernel⟩
abbrev slaw_steps_of : Stmt := top 40
abbrev N_law_steps_of : List Str := ["deck", "wide", "many", "k"]
abbrev P_law_steps_of : List Str := ["deck", "wide"]
theorem sclaw_steps_of : FnScope N_law_steps_of P_law_steps_of (defScope slaw_steps_of) := ⟨rfl, rfl, rfl, by decide +kernel, rfl, by decide +kernel, by decide +kernel⟩
abbrev slaw_planted : Stmt := top 42
abbrev N_law_planted : List Str := ["deck", "wide", "most", "spots", "k", "many", "on", "turns", "found", "one", "other"]
abbrev P_law_planted : List Str := ["deck", "wide", "most"]
theorem sclaw_planted : FnScope N_law_planted P_law_planted (defScope slaw_planted) := ⟨rfl, rfl, rfl, by decide +kernel, rfl, by decide +kernel, by decide +kernel⟩
abbrev slaw_broad_right : Stmt := top 43
abbrev N_law_broad_right : List Str := ["deck", "wide", "hand", "broad", "times", "home", "begun", "turn", "spot", "goal", "rest", "many"]
abbrev P_law_broad_right : List Str := ["deck", "wide", "hand", "broad", "times"]
theorem sclaw_broad_right : FnScope N_law_broad_right P_law_broad_right (defScope slaw_broad_right) := ⟨rfl, rfl, rfl, by decide +kernel, rfl, by decide +kernel, by decide +kernel⟩
abbrev slaw_moved_right : Stmt := top 44
abbrev N_law_moved_right : List Str := ["deck", "wide", "hand", "moved", "by", "homes", "home", "spot", "goal", "gates", "begun", "some"]
abbrev P_law_moved_right : List Str := ["deck", "wide", "hand", "moved", "by"]
theorem sclaw_moved_right : FnScope N_law_moved_right P_law_moved_right (defScope slaw_moved_right) := ⟨rfl, rfl, rfl, by decide +kernel, rfl, by decide +kernel, by decide +kernel⟩
abbrev sside_looks : Stmt := top 14
abbrev N_side_looks : List Str := ["looks", "side", "words", "look"]
abbrev P_side_looks : List Str := ["looks", "side"]
theorem scside_looks : FnScope N_side_looks P_side_looks (defScope sside_looks) := ⟨rfl, rfl, rfl, by decide +kernel, rfl, by decide +kernel, by decide +kernel⟩
abbrev sround_looks : Stmt := top 15
abbrev N_round_looks : List Str := ["hands", "side", "hand"]
abbrev P_round_looks : List Str := ["hands", "side"]
theorem scround_looks : FnScope N_round_looks P_round_looks (defScope sround_looks) := ⟨rfl, rfl, rfl, by decide +kernel, rfl, by decide +kernel, by decide +kernel⟩
abbrev splace_by : Stmt := top 16
abbrev N_place_by : List Str := ["look", "side", "x", "length", "_", "start", "end"]
abbrev P_place_by : List Str := ["look", "side", "x", "length"]
theorem scplace_by : FnScope N_place_by P_place_by (defScope splace_by) := ⟨rfl, rfl, rfl, by decide +kernel, rfl, by decide +kernel, by decide +kernel⟩
abbrev sbest_step : Stmt := top 17
abbrev N_best_step : List Str := ["looks", "side", "x", "length", "steps", "look"]
abbrev P_best_step : List Str := ["looks", "side", "x", "length"]
theorem scbest_step : FnScope N_best_step P_best_step (defScope sbest_step) := ⟨rfl, rfl, rfl, by decide +kernel, rfl, by decide +kernel, by decide +kernel⟩
abbrev sWalk_init : Stmt := inClass (top 18) 0
abbrev N_Walk_init : List Str := ["self", "hands", "side", "x"]
abbrev P_Walk_init : List Str := ["self", "hands", "side", "x"]
theorem scWalk_init : FnScope N_Walk_init P_Walk_init (defScope sWalk_init) := ⟨rfl, rfl, rfl, by decide +kernel, rfl, by decide +kernel, by decide +kernel⟩
abbrev sWalkfollow : Stmt := inClass (top 18) 1
abbrev N_Walkfollow : List Str := ["self", "length", "known", "side", "seen", "uses", "number", "mark", "place", "look"]
abbrev P_Walkfollow : List Str := ["self", "length", "known", "side"]
theorem scWalkfollow : FnScope N_Walkfollow P_Walkfollow (defScope sWalkfollow) := ⟨rfl, rfl, rfl, by decide +kernel, rfl, by decide +kernel, by decide +kernel⟩
abbrev sWalk_period : Stmt := inClass (top 18) 2
abbrev N_Walk_period : List Str := ["self"]
abbrev P_Walk_period : List Str := ["self"]
theorem scWalk_period : FnScope N_Walk_period P_Walk_period (defScope sWalk_period) := ⟨rfl, rfl, rfl, by decide +kernel, rfl, by decide +kernel, by decide +kernel⟩
abbrev sWalk_climb : Stmt := inClass (top 18) 3
abbrev N_Walk_climb : List Str := ["self"]
abbrev P_Walk_climb : List Str := ["self"]
theorem scWalk_climb : FnScope N_Walk_climb P_Walk_climb (defScope sWalk_climb) := ⟨rfl, rfl, rfl, by decide +kernel, rfl, by decide +kernel, by decide +kernel⟩
abbrev sWalk_behind : Stmt := inClass (top 18) 4
abbrev N_Walk_behind : List Str := ["self", "uses", "times", "rest"]
abbrev P_Walk_behind : List Str := ["self", "uses"]
theorem scWalk_behind : FnScope N_Walk_behind P_Walk_behind (defScope sWalk_behind) := ⟨rfl, rfl, rfl, by decide +kernel, rfl, by decide +kernel, by decide +kernel⟩
abbrev sWalk_reach : Stmt := inClass (top 18) 5
abbrev N_Walk_reach : List Str := ["self", "y", "uses", "place", "lap", "times", "goal", "far_enough", "at"]
abbrev P_Walk_reach : List Str := ["self", "y"]
theorem scWalk_reach : FnScope N_Walk_reach P_Walk_reach (defScope sWalk_reach) := ⟨rfl, rfl, rfl, by decide +kernel, rfl, by decide +kernel, by decide +kernel⟩
abbrev scheck_round : Stmt := top 25
abbrev N_check_round : List Str := ["hands", "length", "number", "hand"]
abbrev P_check_round : List Str := ["hands"]
theorem sccheck_round : FnScope N_check_round P_check_round (defScope scheck_round) := ⟨rfl, rfl, rfl, by decide +kernel, rfl, by decide +kernel, by decide +kernel⟩
abbrev splace_behind : Stmt := top 26
abbrev N_place_behind : List Str := ["hands", "side", "x", "uses"]
abbrev P_place_behind : List Str := ["hands", "side", "x", "uses"]
theorem scplace_behind : FnScope N_place_behind P_place_behind (defScope splace_behind) := ⟨rfl, rfl, rfl, by decide +kernel, rfl, by decide +kernel, by decide +kernel⟩
abbrev sleast_behind : Stmt := top 27
abbrev N_least_behind : List Str := ["hands", "x", "uses"]
abbrev P_least_behind : List Str := ["hands", "x", "uses"]
theorem scleast_behind : FnScope N_least_behind P_least_behind (defScope sleast_behind) := ⟨rfl, rfl, rfl, by decide +kernel, rfl, by decide +kernel, by decide +kernel⟩
abbrev smost_uses : Stmt := top 28
abbrev N_most_uses : List Str := ["hands", "x", "y"]
abbrev P_most_uses : List Str := ["hands", "x", "y"]
theorem scmost_uses : FnScope N_most_uses P_most_uses (defScope smost_uses) := ⟨rfl, rfl, rfl, by decide +kernel, rfl, by decide +kernel, by decide +kernel⟩
abbrev slowest : Stmt := top 30
abbrev N_lowest : List Str := ["top", "bottom", "shared"]
abbrev P_lowest : List Str := ["top", "bottom"]
theorem sclowest : FnScope N_lowest P_lowest (defScope slowest) := ⟨rfl, rfl, rfl, by decide +kernel, rfl, by decide +kernel, by decide +kernel⟩
abbrev sside_pace : Stmt := top 31
abbrev N_side_pace : List Str := ["hands", "side", "walk"]
abbrev P_side_pace : List Str := ["hands", "side"]
theorem scside_pace : FnScope N_side_pace P_side_pace (defScope sside_pace) := ⟨rfl, rfl, rfl, by decide +kernel, rfl, by decide +kernel, by decide +kernel⟩
abbrev stoo_far : Stmt := top 21
abbrev N_too_far : List Str := ["low", "high", "length"]
abbrev P_too_far : List Str := ["low", "high", "length"]
theorem sctoo_far : FnScope N_too_far P_too_far (defScope stoo_far) := ⟨rfl, rfl, rfl, by decide +kernel, rfl, by decide +kernel, by decide +kernel⟩
abbrev sclash : Stmt := top 22
abbrev N_clash : List Str := ["look", "other", "length"]
abbrev P_clash : List Str := ["look", "other", "length"]
theorem scclash : FnScope N_clash P_clash (defScope sclash) := ⟨rfl, rfl, rfl, by decide +kernel, rfl, by decide +kernel, by decide +kernel⟩
abbrev sDark_init : Stmt := inClass (top 23) 0
abbrev N_Dark_init : List Str := ["self", "length"]
abbrev P_Dark_init : List Str := ["self", "length"]
theorem scDark_init : FnScope N_Dark_init P_Dark_init (defScope sDark_init) := ⟨rfl, rfl, rfl, by decide +kernel, rfl, by decide +kernel, by decide +kernel⟩
abbrev sDark_length : Stmt := inClass (top 23) 3
abbrev N_Dark_length : List Str := ["self"]
abbrev P_Dark_length : List Str := ["self"]
theorem scDark_length : FnScope N_Dark_length P_Dark_length (defScope sDark_length) := ⟨rfl, rfl, rfl, by decide +kernel, rfl, by decide +kernel, by decide +kernel⟩
abbrev sDark_hear : Stmt := inClass (top 23) 4
abbrev N_Dark_hear : List Str := ["self", "word", "x", "y", "look", "other"]
abbrev P_Dark_hear : List Str := ["self", "word", "x", "y"]
theorem scDark_hear : FnScope N_Dark_hear P_Dark_hear (defScope sDark_hear) := ⟨rfl, rfl, rfl, by decide +kernel, rfl, by decide +kernel, by decide +kernel⟩
abbrev sDark_looks : Stmt := inClass (top 23) 6
abbrev N_Dark_looks : List Str := ["self"]
abbrev P_Dark_looks : List Str := ["self"]
theorem scDark_looks : FnScope N_Dark_looks P_Dark_looks (defScope sDark_looks) := ⟨rfl, rfl, rfl, by decide +kernel, rfl, by decide +kernel, by decide +kernel⟩
abbrev sDark_least : Stmt := inClass (top 23) 7
abbrev N_Dark_least : List Str := ["self", "x"]
abbrev P_Dark_least : List Str := ["self", "x"]
theorem scDark_least : FnScope N_Dark_least P_Dark_least (defScope sDark_least) := ⟨rfl, rfl, rfl, by decide +kernel, rfl, by decide +kernel, by decide +kernel⟩
abbrev sDark_greatest : Stmt := inClass (top 23) 8
abbrev N_Dark_greatest : List Str := ["self", "x"]
abbrev P_Dark_greatest : List Str := ["self", "x"]
theorem scDark_greatest : FnScope N_Dark_greatest P_Dark_greatest (defScope sDark_greatest) := ⟨rfl, rfl, rfl, by decide +kernel, rfl, by decide +kernel, by decide +kernel⟩
abbrev sDarkbound : Stmt := inClass (top 23) 15
abbrev N_Darkbound : List Str := ["self", "side", "x", "step"]
abbrev P_Darkbound : List Str := ["self", "side", "x"]
theorem scDarkbound : FnScope N_Darkbound P_Darkbound (defScope sDarkbound) := ⟨rfl, rfl, rfl, by decide +kernel, rfl, by decide +kernel, by decide +kernel⟩
abbrev sDark_led_back : Stmt := inClass (top 23) 11
abbrev N_Dark_led_back : List Str := ["self", "back", "word", "x", "y"]
abbrev P_Dark_led_back : List Str := ["self"]
theorem scDark_led_back : FnScope N_Dark_led_back P_Dark_led_back (defScope sDark_led_back) := ⟨rfl, rfl, rfl, by decide +kernel, rfl, by decide +kernel, by decide +kernel⟩
abbrev sDarkcheck_word : Stmt := inClass (top 23) 12
abbrev N_Darkcheck_word : List Str := ["self", "word"]
abbrev P_Darkcheck_word : List Str := ["self", "word"]
theorem scDarkcheck_word : FnScope N_Darkcheck_word P_Darkcheck_word (defScope sDarkcheck_word) := ⟨rfl, rfl, rfl, by decide +kernel, rfl, by decide +kernel, by decide +kernel⟩
abbrev sDarkhome : Stmt := inClass (top 23) 13
abbrev N_Darkhome : List Str := ["self", "word", "x", "y", "turns"]
abbrev P_Darkhome : List Str := ["self", "word", "x", "y"]
theorem scDarkhome : FnScope N_Darkhome P_Darkhome (defScope sDarkhome) := ⟨rfl, rfl, rfl, by decide +kernel, rfl, by decide +kernel, by decide +kernel⟩
abbrev sDarkclashing : Stmt := inClass (top 23) 14
abbrev N_Darkclashing : List Str := ["self", "look", "other"]
abbrev P_Darkclashing : List Str := ["self", "look"]
theorem scDarkclashing : FnScope N_Darkclashing P_Darkclashing (defScope sDarkclashing) := ⟨rfl, rfl, rfl, by decide +kernel, rfl, by decide +kernel, by decide +kernel⟩
abbrev sHand_init : Stmt := inClass (top 33) 0
abbrev N_Hand_init : List Str := ["self", "length", "steps", "x", "y"]
abbrev P_Hand_init : List Str := ["self", "length", "steps"]
theorem scHand_init : FnScope N_Hand_init P_Hand_init (defScope sHand_init) := ⟨rfl, rfl, rfl, by decide +kernel, rfl, by decide +kernel, by decide +kernel⟩
abbrev sHand_length : Stmt := inClass (top 33) 3
abbrev N_Hand_length : List Str := ["self"]
abbrev P_Hand_length : List Str := ["self"]
theorem scHand_length : FnScope N_Hand_length P_Hand_length (defScope sHand_length) := ⟨rfl, rfl, rfl, by decide +kernel, rfl, by decide +kernel, by decide +kernel⟩
abbrev sHand_steps : Stmt := inClass (top 33) 4
abbrev N_Hand_steps : List Str := ["self", "_", "x", "y"]
abbrev P_Hand_steps : List Str := ["self"]
theorem scHand_steps : FnScope N_Hand_steps P_Hand_steps (defScope sHand_steps) := ⟨rfl, rfl, rfl, by decide +kernel, rfl, by decide +kernel, by decide +kernel⟩
abbrev sHand_lead : Stmt := inClass (top 33) 5
abbrev N_Hand_lead : List Str := ["self", "x", "uses"]
abbrev P_Hand_lead : List Str := ["self", "x", "uses"]
theorem scHand_lead : FnScope N_Hand_lead P_Hand_lead (defScope sHand_lead) := ⟨rfl, rfl, rfl, by decide +kernel, rfl, by decide +kernel, by decide +kernel⟩
abbrev sHand_pace : Stmt := inClass (top 33) 6
abbrev N_Hand_pace : List Str := ["self"]
abbrev P_Hand_pace : List Str := ["self"]
theorem scHand_pace : FnScope N_Hand_pace P_Hand_pace (defScope sHand_pace) := ⟨rfl, rfl, rfl, by decide +kernel, rfl, by decide +kernel, by decide +kernel⟩
abbrev sHand_uses : Stmt := inClass (top 33) 8
abbrev N_Hand_uses : List Str := ["self", "x", "y"]
abbrev P_Hand_uses : List Str := ["self", "x", "y"]
theorem scHand_uses : FnScope N_Hand_uses P_Hand_uses (defScope sHand_uses) := ⟨rfl, rfl, rfl, by decide +kernel, rfl, by decide +kernel, by decide +kernel⟩
abbrev sHand_homes : Stmt := inClass (top 33) 9
abbrev N_Hand_homes : List Str := ["self", "length", "led", "_", "y", "homes", "kept", "place"]
abbrev P_Hand_homes : List Str := ["self"]
theorem scHand_homes : FnScope N_Hand_homes P_Hand_homes (defScope sHand_homes) := ⟨rfl, rfl, rfl, by decide +kernel, rfl, by decide +kernel, by decide +kernel⟩
abbrev sHand_back : Stmt := inClass (top 33) 7
abbrev N_Hand_back : List Str := ["self", "y"]
abbrev P_Hand_back : List Str := ["self", "y"]
theorem scHand_back : FnScope N_Hand_back P_Hand_back (defScope sHand_back) := ⟨rfl, rfl, rfl, by decide +kernel, rfl, by decide +kernel, by decide +kernel⟩
abbrev sHand_led_back : Stmt := inClass (top 33) 11
abbrev N_Hand_led_back : List Str := ["self", "_", "y"]
abbrev P_Hand_led_back : List Str := ["self"]
theorem scHand_led_back : FnScope N_Hand_led_back P_Hand_led_back (defScope sHand_led_back) := ⟨rfl, rfl, rfl, by decide +kernel, rfl, by decide +kernel, by decide +kernel⟩
abbrev sHand_gates : Stmt := inClass (top 33) 10
abbrev N_Hand_gates : List Str := ["self", "begins", "before", "a", "home"]
abbrev P_Hand_gates : List Str := ["self"]
theorem scHand_gates : FnScope N_Hand_gates P_Hand_gates (defScope sHand_gates) := ⟨rfl, rfl, rfl, by decide +kernel, rfl, by decide +kernel, by decide +kernel⟩
abbrev slaw : Stmt := top 45
abbrev N_law : List Str := ["script", "deck", "lap", "wide", "pairs", "hand", "times", "by", "turns", "broad", "spot", "there", "moved", "more"]
abbrev P_law : List Str := ["script"]
theorem sclaw : FnScope N_law P_law (defScope slaw) := ⟨rfl, rfl, rfl, by decide +kernel, rfl, by decide +kernel, by decide +kernel⟩
structure Ad where
  C : Addr
  C_Hand : Addr
  C_Walk : Addr
  a_law_deck : Addr
  d_law_deck : FuncData
  a_law_take : Addr
  d_law_take : FuncData
  a_law_below : Addr
  d_law_below : FuncData
  a_law_hidden : Addr
  d_law_hidden : FuncData
  a_law_steps_of : Addr
  d_law_steps_of : FuncData
  a_law_planted : Addr
  d_law_planted : FuncData
  a_law_broad_right : Addr
  d_law_broad_right : FuncData
  a_law_moved_right : Addr
  d_law_moved_right : FuncData
  a_side_looks : Addr
  d_side_looks : FuncData
  a_round_looks : Addr
  d_round_looks : FuncData
  a_place_by : Addr
  d_place_by : FuncData
  a_best_step : Addr
  d_best_step : FuncData
  a_Walk_init : Addr
  d_Walk_init : FuncData
  a_Walkfollow : Addr
  d_Walkfollow : FuncData
  a_Walk_period : Addr
  d_Walk_period : FuncData
  a_Walk_climb : Addr
  d_Walk_climb : FuncData
  a_Walk_behind : Addr
  d_Walk_behind : FuncData
  a_Walk_reach : Addr
  d_Walk_reach : FuncData
  a_check_round : Addr
  d_check_round : FuncData
  a_place_behind : Addr
  d_place_behind : FuncData
  a_least_behind : Addr
  d_least_behind : FuncData
  a_most_uses : Addr
  d_most_uses : FuncData
  a_lowest : Addr
  d_lowest : FuncData
  a_side_pace : Addr
  d_side_pace : FuncData
  a_too_far : Addr
  d_too_far : FuncData
  a_clash : Addr
  d_clash : FuncData
  a_Dark_init : Addr
  d_Dark_init : FuncData
  a_Dark_length : Addr
  d_Dark_length : FuncData
  a_Dark_hear : Addr
  d_Dark_hear : FuncData
  a_Dark_looks : Addr
  d_Dark_looks : FuncData
  a_Dark_least : Addr
  d_Dark_least : FuncData
  a_Dark_greatest : Addr
  d_Dark_greatest : FuncData
  a_Darkbound : Addr
  d_Darkbound : FuncData
  a_Dark_led_back : Addr
  d_Dark_led_back : FuncData
  a_Darkcheck_word : Addr
  d_Darkcheck_word : FuncData
  a_Darkhome : Addr
  d_Darkhome : FuncData
  a_Darkclashing : Addr
  d_Darkclashing : FuncData
  a_Hand_init : Addr
  d_Hand_init : FuncData
  a_Hand_length : Addr
  d_Hand_length : FuncData
  a_Hand_steps : Addr
  d_Hand_steps : FuncData
  a_Hand_lead : Addr
  d_Hand_lead : FuncData
  a_Hand_pace : Addr
  d_Hand_pace : FuncData
  a_Hand_uses : Addr
  d_Hand_uses : FuncData
  a_Hand_homes : Addr
  d_Hand_homes : FuncData
  a_Hand_back : Addr
  d_Hand_back : FuncData
  a_Hand_led_back : Addr
  d_Hand_led_back : FuncData
  a_Hand_gates : Addr
  d_Hand_gates : FuncData
  a_law : Addr
  d_law : FuncData
  v_SLOW : Value
  v_FAST : Value
  a_WORDS : Addr
  a_LW : Addr
  t_slow : Addr
  t_fast : Addr
structure Tx (K : PySem.W.Frag) (w : World) (mg : Str → Option Value) (Z : Ad) : Prop where
  F_law_deck : Fun K "_law_deck" "_law_deck" slaw_deck Z.a_law_deck Z.d_law_deck
  bb_law_deck : Binds K Z.d_law_deck P_law_deck []
  g_law_deck : mg "_law_deck" = some (.ref Z.a_law_deck)
  F_law_take : Fun K "_law_take" "_law_take" slaw_take Z.a_law_take Z.d_law_take
  bb_law_take : Binds K Z.d_law_take P_law_take []
  g_law_take : mg "_law_take" = some (.ref Z.a_law_take)
  F_law_below : Fun K "_law_below" "_law_below" slaw_below Z.a_law_below Z.d_law_below
  bb_law_below : Binds K Z.d_law_below P_law_below []
  g_law_below : mg "_law_below" = some (.ref Z.a_law_below)
  F_law_hidden : Fun K "_law_hidden" "_law_hidden" slaw_hidden Z.a_law_hidden Z.d_law_hidden
  bb_law_hidden : Binds K Z.d_law_hidden P_law_hidden []
  g_law_hidden : mg "_law_hidden" = some (.ref Z.a_law_hidden)
  F_law_steps_of : Fun K "_law_steps_of" "_law_steps_of" slaw_steps_of Z.a_law_steps_of Z.d_law_steps_of
  bb_law_steps_of : Binds K Z.d_law_steps_of P_law_steps_of []
  g_law_steps_of : mg "_law_steps_of" = some (.ref Z.a_law_steps_of)
  F_law_planted : Fun K "_law_planted" "_law_planted" slaw_planted Z.a_law_planted Z.d_law_planted
  bb_law_planted : Binds K Z.d_law_planted P_law_planted []
  g_law_planted : mg "_law_planted" = some (.ref Z.a_law_planted)
  F_law_broad_right : Fun K "_law_broad_right" "_law_broad_right" slaw_broad_right Z.a_law_broad_right Z.d_law_broad_right
  bb_law_broad_right : Binds K Z.d_law_broad_right P_law_broad_right []
  g_law_broad_right : mg "_law_broad_right" = some (.ref Z.a_law_broad_right)
  F_law_moved_right : Fun K "_law_moved_right" "_law_moved_right" slaw_moved_right Z.a_law_moved_right Z.d_law_moved_right
  bb_law_moved_right : Binds K Z.d_law_moved_right P_law_moved_right []
  g_law_moved_right : mg "_law_moved_right" = some (.ref Z.a_law_moved_right)
  F_side_looks : Fun K "side_looks" "side_looks" sside_looks Z.a_side_looks Z.d_side_looks
  bb_side_looks : Binds K Z.d_side_looks P_side_looks []
  g_side_looks : mg "side_looks" = some (.ref Z.a_side_looks)
  F_round_looks : Fun K "round_looks" "round_looks" sround_looks Z.a_round_looks Z.d_round_looks
  bb_round_looks : Binds K Z.d_round_looks P_round_looks []
  g_round_looks : mg "round_looks" = some (.ref Z.a_round_looks)
  F_place_by : Fun K "place_by" "place_by" splace_by Z.a_place_by Z.d_place_by
  bb_place_by : Binds K Z.d_place_by P_place_by []
  g_place_by : mg "place_by" = some (.ref Z.a_place_by)
  F_best_step : Fun K "best_step" "best_step" sbest_step Z.a_best_step Z.d_best_step
  bb_best_step : Binds K Z.d_best_step P_best_step []
  g_best_step : mg "best_step" = some (.ref Z.a_best_step)
  F_Walk_init : Fun K "__init__" "Walk.__init__" sWalk_init Z.a_Walk_init Z.d_Walk_init
  bb_Walk_init : Binds K Z.d_Walk_init P_Walk_init []
  F_Walkfollow : Fun K "_follow" "Walk._follow" sWalkfollow Z.a_Walkfollow Z.d_Walkfollow
  bb_Walkfollow : Binds K Z.d_Walkfollow P_Walkfollow []
  m_Walkfollow : Meth K Z.C_Walk "_follow" Z.a_Walkfollow
  F_Walk_period : Fun K "period" "Walk.period" sWalk_period Z.a_Walk_period Z.d_Walk_period
  bb_Walk_period : Binds K Z.d_Walk_period P_Walk_period []
  m_Walk_period : Meth K Z.C_Walk "period" Z.a_Walk_period
  F_Walk_climb : Fun K "climb" "Walk.climb" sWalk_climb Z.a_Walk_climb Z.d_Walk_climb
  bb_Walk_climb : Binds K Z.d_Walk_climb P_Walk_climb []
  m_Walk_climb : Meth K Z.C_Walk "climb" Z.a_Walk_climb
  F_Walk_behind : Fun K "behind" "Walk.behind" sWalk_behind Z.a_Walk_behind Z.d_Walk_behind
  bb_Walk_behind : Binds K Z.d_Walk_behind P_Walk_behind []
  m_Walk_behind : Meth K Z.C_Walk "behind" Z.a_Walk_behind
  F_Walk_reach : Fun K "reach" "Walk.reach" sWalk_reach Z.a_Walk_reach Z.d_Walk_reach
  bb_Walk_reach : Binds K Z.d_Walk_reach P_Walk_reach []
  m_Walk_reach : Meth K Z.C_Walk "reach" Z.a_Walk_reach
  F_check_round : Fun K "check_round" "check_round" scheck_round Z.a_check_round Z.d_check_round
  bb_check_round : Binds K Z.d_check_round P_check_round []
  g_check_round : mg "check_round" = some (.ref Z.a_check_round)
  F_place_behind : Fun K "place_behind" "place_behind" splace_behind Z.a_place_behind Z.d_place_behind
  bb_place_behind : Binds K Z.d_place_behind P_place_behind []
  g_place_behind : mg "place_behind" = some (.ref Z.a_place_behind)
  F_least_behind : Fun K "least_behind" "least_behind" sleast_behind Z.a_least_behind Z.d_least_behind
  bb_least_behind : Binds K Z.d_least_behind P_least_behind []
  g_least_behind : mg "least_behind" = some (.ref Z.a_least_behind)
  F_most_uses : Fun K "most_uses" "most_uses" smost_uses Z.a_most_uses Z.d_most_uses
  bb_most_uses : Binds K Z.d_most_uses P_most_uses []
  g_most_uses : mg "most_uses" = some (.ref Z.a_most_uses)
  F_lowest : Fun K "lowest" "lowest" slowest Z.a_lowest Z.d_lowest
  bb_lowest : Binds K Z.d_lowest P_lowest []
  g_lowest : mg "lowest" = some (.ref Z.a_lowest)
  F_side_pace : Fun K "side_pace" "side_pace" sside_pace Z.a_side_pace Z.d_side_pace
  bb_side_pace : Binds K Z.d_side_pace P_side_pace []
  g_side_pace : mg "side_pace" = some (.ref Z.a_side_pace)
  F_too_far : Fun K "too_far" "too_far" stoo_far Z.a_too_far Z.d_too_far
  bb_too_far : Binds K Z.d_too_far P_too_far []
  g_too_far : mg "too_far" = some (.ref Z.a_too_far)
  F_clash : Fun K "clash" "clash" sclash Z.a_clash Z.d_clash
  bb_clash : Binds K Z.d_clash P_clash []
  g_clash : mg "clash" = some (.ref Z.a_clash)
  F_Dark_init : Fun K "__init__" "Dark.__init__" sDark_init Z.a_Dark_init Z.d_Dark_init
  bb_Dark_init : Binds K Z.d_Dark_init P_Dark_init []
  F_Dark_length : Fun K "length" "Dark.length" sDark_length Z.a_Dark_length Z.d_Dark_length
  bb_Dark_length : Binds K Z.d_Dark_length P_Dark_length []
  m_Dark_length : Meth K Z.C "length" Z.a_Dark_length
  F_Dark_hear : Fun K "hear" "Dark.hear" sDark_hear Z.a_Dark_hear Z.d_Dark_hear
  bb_Dark_hear : Binds K Z.d_Dark_hear P_Dark_hear []
  m_Dark_hear : Meth K Z.C "hear" Z.a_Dark_hear
  F_Dark_looks : Fun K "looks" "Dark.looks" sDark_looks Z.a_Dark_looks Z.d_Dark_looks
  bb_Dark_looks : Binds K Z.d_Dark_looks P_Dark_looks []
  m_Dark_looks : Meth K Z.C "looks" Z.a_Dark_looks
  F_Dark_least : Fun K "least" "Dark.least" sDark_least Z.a_Dark_least Z.d_Dark_least
  bb_Dark_least : Binds K Z.d_Dark_least P_Dark_least []
  m_Dark_least : Meth K Z.C "least" Z.a_Dark_least
  F_Dark_greatest : Fun K "greatest" "Dark.greatest" sDark_greatest Z.a_Dark_greatest Z.d_Dark_greatest
  bb_Dark_greatest : Binds K Z.d_Dark_greatest P_Dark_greatest []
  m_Dark_greatest : Meth K Z.C "greatest" Z.a_Dark_greatest
  F_Darkbound : Fun K "_bound" "Dark._bound" sDarkbound Z.a_Darkbound Z.d_Darkbound
  bb_Darkbound : Binds K Z.d_Darkbound P_Darkbound []
  m_Darkbound : Meth K Z.C "_bound" Z.a_Darkbound
  F_Dark_led_back : Fun K "led_back" "Dark.led_back" sDark_led_back Z.a_Dark_led_back Z.d_Dark_led_back
  bb_Dark_led_back : Binds K Z.d_Dark_led_back P_Dark_led_back []
  m_Dark_led_back : Meth K Z.C "led_back" Z.a_Dark_led_back
  F_Darkcheck_word : Fun K "_check_word" "Dark._check_word" sDarkcheck_word Z.a_Darkcheck_word Z.d_Darkcheck_word
  bb_Darkcheck_word : Binds K Z.d_Darkcheck_word P_Darkcheck_word []
  m_Darkcheck_word : Meth K Z.C "_check_word" Z.a_Darkcheck_word
  F_Darkhome : Fun K "_home" "Dark._home" sDarkhome Z.a_Darkhome Z.d_Darkhome
  bb_Darkhome : Binds K Z.d_Darkhome P_Darkhome []
  m_Darkhome : Meth K Z.C "_home" Z.a_Darkhome
  F_Darkclashing : Fun K "_clashing" "Dark._clashing" sDarkclashing Z.a_Darkclashing Z.d_Darkclashing
  bb_Darkclashing : Binds K Z.d_Darkclashing P_Darkclashing []
  m_Darkclashing : Meth K Z.C "_clashing" Z.a_Darkclashing
  F_Hand_init : Fun K "__init__" "Hand.__init__" sHand_init Z.a_Hand_init Z.d_Hand_init
  bb_Hand_init : Binds K Z.d_Hand_init P_Hand_init []
  F_Hand_length : Fun K "length" "Hand.length" sHand_length Z.a_Hand_length Z.d_Hand_length
  bb_Hand_length : Binds K Z.d_Hand_length P_Hand_length []
  m_Hand_length : Meth K Z.C_Hand "length" Z.a_Hand_length
  F_Hand_steps : Fun K "steps" "Hand.steps" sHand_steps Z.a_Hand_steps Z.d_Hand_steps
  bb_Hand_steps : Binds K Z.d_Hand_steps P_Hand_steps []
  m_Hand_steps : Meth K Z.C_Hand "steps" Z.a_Hand_steps
  F_Hand_lead : FunD K "lead" "Hand.lead" (defArgs sHand_lead) (defBody sHand_lead) (defScope sHand_lead) [.int 1] [] Z.a_Hand_lead Z.d_Hand_lead
  bd_Hand_lead : ∃ ds, Vals ([.int 1] : List V) ds ∧ Binds K Z.d_Hand_lead P_Hand_lead ds
  bb_Hand_lead : Binds K Z.d_Hand_lead P_Hand_lead []
  m_Hand_lead : Meth K Z.C_Hand "lead" Z.a_Hand_lead
  F_Hand_pace : Fun K "pace" "Hand.pace" sHand_pace Z.a_Hand_pace Z.d_Hand_pace
  bb_Hand_pace : Binds K Z.d_Hand_pace P_Hand_pace []
  m_Hand_pace : Meth K Z.C_Hand "pace" Z.a_Hand_pace
  F_Hand_uses : Fun K "uses" "Hand.uses" sHand_uses Z.a_Hand_uses Z.d_Hand_uses
  bb_Hand_uses : Binds K Z.d_Hand_uses P_Hand_uses []
  m_Hand_uses : Meth K Z.C_Hand "uses" Z.a_Hand_uses
  F_Hand_homes : Fun K "homes" "Hand.homes" sHand_homes Z.a_Hand_homes Z.d_Hand_homes
  bb_Hand_homes : Binds K Z.d_Hand_homes P_Hand_homes []
  m_Hand_homes : Meth K Z.C_Hand "homes" Z.a_Hand_homes
  F_Hand_back : Fun K "back" "Hand.back" sHand_back Z.a_Hand_back Z.d_Hand_back
  bb_Hand_back : Binds K Z.d_Hand_back P_Hand_back []
  m_Hand_back : Meth K Z.C_Hand "back" Z.a_Hand_back
  F_Hand_led_back : Fun K "led_back" "Hand.led_back" sHand_led_back Z.a_Hand_led_back Z.d_Hand_led_back
  bb_Hand_led_back : Binds K Z.d_Hand_led_back P_Hand_led_back []
  m_Hand_led_back : Meth K Z.C_Hand "led_back" Z.a_Hand_led_back
  F_Hand_gates : Fun K "gates" "Hand.gates" sHand_gates Z.a_Hand_gates Z.d_Hand_gates
  bb_Hand_gates : Binds K Z.d_Hand_gates P_Hand_gates []
  m_Hand_gates : Meth K Z.C_Hand "gates" Z.a_Hand_gates
  F_law : Fun K "law" "law" slaw Z.a_law Z.d_law
  bb_law : Binds K Z.d_law P_law []
  g_law : mg "law" = some (.ref Z.a_law)
  cl : Cls K Z.C
  g_Dark : mg "Dark" = some (.ref Z.C)
  cl_Hand : Cls K Z.C_Hand
  g_Hand : mg "Hand" = some (.ref Z.C_Hand)
  mk_Hand : Mk K Z.C_Hand Z.a_Hand_init
  nHand__dark : NoAttr K Z.C_Hand "_dark"
  nHand__back : NoAttr K Z.C_Hand "_back"
  cl_Walk : Cls K Z.C_Walk
  g_Walk : mg "Walk" = some (.ref Z.C_Walk)
  mk_Walk : Mk K Z.C_Walk Z.a_Walk_init
  nWalk_places : NoAttr K Z.C_Walk "places"
  nWalk_told_by : NoAttr K Z.C_Walk "told_by"
  nWalk_start : NoAttr K Z.C_Walk "start"
  mk_Dark : Mk K Z.C Z.a_Dark_init
  n_length : NoAttr K Z.C "_length"
  n_looks : NoAttr K Z.C "_looks"
  b_max : mg "max" = none
  b_min : mg "min" = none
  b_len : mg "len" = none
  b_range : mg "range" = none
  b_sorted : mg "sorted" = none
  b_set : mg "set" = none
  b_abs : mg "abs" = none
  b_list : mg "list" = none
  b_int : mg "int" = none
  b_enumerate : mg "enumerate" = none
  b_divmod : mg "divmod" = none
  g_gcd : mg "gcd" = some (.builtin "math.gcd")
  g_SLOW : mg "SLOW" = some Z.v_SLOW
  r_SLOW : RelV (.str "slow") Z.v_SLOW
  g_FAST : mg "FAST" = some Z.v_FAST
  r_FAST : RelV (.str "fast") Z.v_FAST
  g_WORDS : mg "WORDS" = some (.ref Z.a_WORDS)
  kd_WORDS : ∃ es n, KDict K w Z.a_WORDS es n
  w_slow : PySem.W.nsIn K Z.a_WORDS "slow" = some (some (.ref Z.t_slow))
  w_fast : PySem.W.nsIn K Z.a_WORDS "fast" = some (some (.ref Z.t_fast))
  q_slow : ∀ H, SqT K H Z.t_slow [.str "at", .str "from"]
  q_fast : ∀ H, SqT K H Z.t_fast [.str "at", .str "upto"]
  g_LOOK_WORDS : mg "LOOK_WORDS" = some (.ref Z.a_LW)
  q_LW : ∀ H, SqT K H Z.a_LW [.str "at", .str "from", .str "upto"]
end KA
/-! Looks in plain Lean. -/
namespace KA
open PySem PySem.Spec PyProof.Rows L2 DP
/-- a look: word, x, y -/
abbrev Lk := Str × Int × Int
def encL (l : Lk) : PyData := .tuple [.str l.1, .int l.2.1, .int l.2.2]
def WordOk (x : Str) : Prop := x = "at" ∨ x = "from" ∨ x = "upto"
def SideOk (x : Str) : Prop := x = "slow" ∨ x = "fast"
/-- the words of a side, by truth -/
def onSide (sd x : Str) : Bool := if sd = "slow" then (decide (x = "at") || decide (x = "from")) else (decide (x = "at") || decide (x = "upto"))
/-- where a look alone tells that x is led -/
def plc (sd : Str) (l : Lk) (x L : Int) : Int := if sd = "slow" then l.2.2 + (x - l.2.1) / L * L else l.2.2 - (l.2.1 - x) / L * L
def Sized (n : Nat) (l : Lk) : Prop := l.2.1.natAbs < 2 ^ n ∧ l.2.2.natAbs < 2 ^ n
theorem slow_ne : ¬ (("fast" : Str) = "slow") := by decide +kernel
theorem plc_slow (l : Lk) (x L : Int) : plc "slow" l x L = l.2.2 + (x - l.2.1) / L * L := if_pos rfl
theorem plc_fast (l : Lk) (x L : Int) : plc "fast" l x L = l.2.2 - (l.2.1 - x) / L * L := if_neg slow_ne
def tooFar (a b : Lk) (L : Int) : Bool := onSide "slow" a.1 && onSide "fast" b.1 && decide (b.2.2 < plc "slow" a b.2.1 L)
def clashB (a b : Lk) (L : Int) : Bool := tooFar a b L || tooFar b a L
/-- brought home -/
def home (L : Int) (l : Lk) : Lk := (l.1, l.2.1 - l.2.1 / L * L, l.2.2 - l.2.1 / L * L)
theorem nat_div {a L : Int} (h : 0 < L) : (a / L).natAbs ≤ a.natAbs + 1 := Nat.le_succ_of_le (Int.natAbs_ediv_le_natAbs a L)
theorem sub_lt {a b : Int} {n : Nat} (ha : a.natAbs < 2 ^ n) (hb : b.natAbs < 2 ^ n) : (a - b).natAbs < 2 ^ (n + 1) := by
  rw [Nat.pow_succ]; omega
theorem add_lt {a b : Int} {n : Nat} (ha : a.natAbs < 2 ^ n) (hb : b.natAbs < 2 ^ n) : (a + b).natAbs < 2 ^ (n + 1) := by
  rw [Nat.pow_succ]; omega
theorem div_lt {a L : Int} {n : Nat} (h : 0 < L) (ha : a.natAbs < 2 ^ n) : (a / L).natAbs < 2 ^ (n + 1) := by
  have := nat_div (a := a) h
  have h1 : 1 ≤ 2 ^ n := Nat.one_le_two_pow
  rw [Nat.pow_succ]; omega
theorem lt_up {a : Int} {m n : Nat} (ha : a.natAbs < 2 ^ m) (h : m ≤ n) : a.natAbs < 2 ^ n := Nat.lt_of_lt_of_le ha (Nat.pow_le_pow_right (by decide) h)
section
variable {K : PySem.W.Frag} {H : Hp}
theorem dp_look {v : V} {l : Lk} (h : Dp K H v (encL l)) : ∃ a, v = .ref a ∧ SqT K H a [.str l.1, .int l.2.1, .int l.2.2] := by
  have h' : Dp K H v (.tuple [.str l.1, .int l.2.1, .int l.2.2]) := h
  cases h' with
  | tup s a =>
    cases a with
    | cons a1 a =>
      cases a with
      | cons a2 a =>
        cases a with
        | cons a3 a =>
          cases a; cases a1; cases a2; cases a3
          exact ⟨_, rfl, s⟩
theorem dp_list {v : V} {ds : List PyData} (h : Dp K H v (.list ds)) : ∃ a xs, v = .ref a ∧ SqL K H a xs ∧ DpAll K H xs ds := by
  cases h with
  | lst s a => exact ⟨_, _, rfl, s, a⟩
end
theorem decl_words {x : Str} (h : WordOk x) : inV (.str x) [.str "at", .str "from"] = onSide "slow" x ∧ inV (.str x) [.str "at", .str "upto"] = onSide "fast" x ∧ inV (.str x) [.str "at", .str "from", .str "upto"] = true := by
  rcases h with e | e | e <;> subst e <;> decide +kernel
theorem yes_ite {σ : L2.St} {H : Hp} {A B : Hp → Prop} (h : A H) : tYes σ H (fun b H3 => if b = true then A H3 else B H3) := by
  show (if true = true then A H else B H)
  rw [if_pos rfl]
  exact h
/-- data without lists: tuples, numbers, texts -/
def noL : PyData → Bool
  | .list _ => false
  | .dict _ => false
  | .tuple xs => noLs xs
  | _ => true
where noLs : List PyData → Bool
  | [] => true
  | x :: xs => noL x && noLs xs
/-- tuples stand -/
def Tups (H H' : Hp) : Prop := ∀ b xs, Rd H b (.tup xs) → Rd H' b (.tup xs)
theorem Tups.of_same {H H' : Hp} (S : Same H H') : Tups H H' := fun _ _ h => DP.Same.rd S h
theorem Tups.upd_lst {H : Hp} {D : Addr} {ys : List V} {o : HO} (h : H D = some (.lst ys)) : Tups H (upd H D o) := fun b xs hb => by
  have hn : b ≠ D := by
    rintro rfl
    rcases hb with e | ⟨q, e⟩ <;> rw [h] at e <;> cases e
  rcases hb with e | ⟨q, e⟩
  · exact .inl ((upd_ne hn).trans e)
  · exact .inr ⟨q, (upd_ne hn).trans e⟩
theorem Tups.upd_ins {H : Hp} {D C dx : Addr} {fs : List (Str × V)} {o : HO} (h : H D = some (.ins C dx fs)) : Tups H (upd H D o) := fun b xs hb => by
  have hn : b ≠ D := by
    rintro rfl
    rcases hb with e | ⟨q, e⟩ <;> rw [h] at e <;> cases e
  rcases hb with e | ⟨q, e⟩
  · exact .inl ((upd_ne hn).trans e)
  · exact .inr ⟨q, (upd_ne hn).trans e⟩
theorem Tups.trans {H H1 H2 : Hp} (a : Tups H H1) (b : Tups H1 H2) : Tups H H2 := fun c xs h => b c xs (a c xs h)
section
variable {K : PySem.W.Frag} {H H' : Hp}
mutual
theorem dp_tups (S : Tups H H') : ∀ (d : PyData) (v : V), noL d = true → Dp K H v d → Dp K H' v d
  | .none, _, _, h => by cases h; exact .non
  | .bool _, _, _, h => by cases h; exact .bl _
  | .int _, _, _, h => by cases h; exact .int _
  | .str _, _, _, h => by cases h; exact .str _
  | .list _, _, n, _ => by simp [noL] at n
  | .dict _, _, n, _ => by simp [noL] at n
  | .tuple ds, _, n, h => by
    cases h with
    | tup s a =>
      refine .tup ?_ (dpAll_tups S ds _ (by simpa [noL] using n) a)
      rcases s with s | s
      · exact .inl (S _ _ s)
      · exact .inr s
theorem dpAll_tups (S : Tups H H') : ∀ (ds : List PyData) (vs : List V), noL.noLs ds = true → DpAll K H vs ds → DpAll K H' vs ds
  | [], _, _, h => by cases h; exact .nil
  | d :: ds, _, n, h => by
    rw [noL.noLs, Bool.and_eq_true] at n
    cases h with
    | cons a b => exact .cons (dp_tups S d _ n.1 a) (dpAll_tups S ds _ n.2 b)
end
theorem noLs_map {β : Type} {enc : β → PyData} (h : ∀ b, noL (enc b) = true) : ∀ bs : List β, noL.noLs (bs.map enc) = true
  | [] => rfl
  | b :: bs => by
    show noL.noLs (enc b :: bs.map enc) = true
    rw [noL.noLs, h b, noLs_map h bs]; rfl
theorem noL_encL (l : Lk) : noL (encL l) = true := rfl
/-- one more at the list that a comprehension makes -/
theorem acc_step {D : Addr} {ys : List V} {ds : List PyData} {y : V} {d : PyData} (hD : H D = some (.lst ys)) (hn : noL.noLs ds = true) (hd : noL d = true) (h : DpAll K H ys ds) (hy : Dp K H y d) :
    DpAll K (upd H D (.lst (ys ++ [y]))) (ys ++ [y]) (ds ++ [d]) :=
  dpAll_snoc (dpAll_tups (Tups.upd_lst hD) _ _ hn h) (dp_tups (Tups.upd_lst hD) _ _ hd hy)
end
theorem same_set {H : Hp} {p : Addr} {o : HO} {H1 : Hp} (S : Same H H1) (hn : H p = none) : Same H (upd H1 p o) := fun b u e => by rw [upd_ne (ne_of_none e hn)]; exact S b u e
theorem take_snoc {α : Type} : ∀ {l : List α} {i : Nat} {x : α}, l[i]? = some x → l.take (i + 1) = l.take i ++ [x]
  | [], i, x, h => by simp at h
  | a :: l, 0, x, h => by
    have e : a = x := Option.some.inj h
    subst e
    rfl
  | a :: l, i + 1, x, h => by
    have ih := take_snoc (l := l) (i := i) (x := x) h
    show a :: l.take (i + 1) = a :: l.take i ++ [x]
    rw [ih]; rfl
theorem map_at {α β : Type} {f : α → β} {l : List α} {i : Nat} {y : β} (h : (l.map f)[i]? = some y) : ∃ x, l[i]? = some x ∧ y = f x := by
  rw [List.getElem?_map] at h
  cases e : l[i]? with
  | none => rw [e] at h; cases h
  | some x => rw [e] at h; exact ⟨x, rfl, (Option.some.inj h).symm⟩
end KA
namespace KA
open PySem PySem.Spec PyProof.Rows L2 DP
def spPlace (K : PySem.W.Frag) : Sp := fun vs H Q _ => ∃ (v : V) (l : Lk) (sd : Str) (x L : Int), vs = [v, .str sd, .int x, .int L] ∧ Dp K H v (encL l) ∧ SideOk sd ∧ 0 < L ∧ L.natAbs < 2 ^ 200 ∧ x.natAbs < 2 ^ 400 ∧ Sized 400 l ∧ Q (.int (plc sd l x L)) H
def spFar (K : PySem.W.Frag) (f : Lk → Lk → Int → Bool) : Sp := fun vs H Q _ => ∃ (v u : V) (a b : Lk) (L : Int), vs = [v, u, .int L] ∧ Dp K H v (encL a) ∧ Dp K H u (encL b) ∧ WordOk a.1 ∧ WordOk b.1 ∧ 0 < L ∧ L.natAbs < 2 ^ 200 ∧ Sized 400 a ∧ Sized 400 b ∧ Q (.bl (f a b L)) H
section
variable {P : Program} {w : World} {K : PySem.W.Frag} {mg : Str → Option Value} {base : Heap} {Z : Ad}
theorem ok_place_by (T : Tx K w mg Z) : FnOk P w K mg base CX0 1 Z.a_place_by Z.d_place_by P_place_by (spPlace K) := by
  refine T.F_place_by.ok scplace_by (fun vs H Q E h => ?_) (fun cdv A outer s H vs Q E hr h => ?_)
  · obtain ⟨v, l, sd, x, L, rfl, _⟩ := h
    rfl
  · obtain ⟨v, l, sd, x, L, rfl, hv, hsd, hL, hLb, hx, hl, k⟩ := h
    obtain ⟨a, rfl, ha⟩ := dp_look hv
    refine ⟨_, (pss_cons (ps_asg (pv 0) (tupK (K := K) (by rfl) (pgs_cons (pg_name (i := 4) scplace_by.nd rfl (Or.inl rfl)) (pgs_cons (pg_name (i := 5) scplace_by.nd rfl (Or.inl rfl)) (pgs_cons (pg_name (i := 6) scplace_by.nd rfl (Or.inl rfl)) pgs_nil)))))
      (C8.pss_cut (ps_if (pt_cmpR op_eq (pv 1) (pe_glob rfl T.g_SLOW T.r_SLOW) (nomark _)) (pss_one (ps_ret (pe_op op_add (pv 6) (pe_op op_mulW (pe_op op_fdivW (pe_op op_sub (pv 2) (pv 5)) (pv 3)) (pv 3))))) pss_nil)
      (pss_one (ps_ret (pe_op op_sub (pv 6) (pe_op op_mulW (pe_op op_fdivW (pe_op op_sub (pv 5) (pv 2)) (pv 3)) (pv 3))))))), ?_⟩
    refine ⟨_, rfl, _, _, rfl, ha, rfl, _, _, rfl, _, _, rfl, _, _, rfl, rfl, ?_⟩
    have e1 : (x - l.2.1).natAbs < 2 ^ 401 := sub_lt hx hl.1
    have e2 : (l.2.1 - x).natAbs < 2 ^ 401 := sub_lt hl.1 hx
    rcases hsd with e | e
    · subst e
      rw [plc_slow] at k
      refine ⟨fun _ _ => False, ⟨_, rfl, rfl, _, rfl, iteT ⟨_, rfl, _, rfl, _, rfl, _, _, rfl, rfl, _, rfl, _, _, rfl, rfl, wide_div hL hLb (by decide) (by decide), _, rfl, _, _, rfl, rfl, wide_mul (div_lt hL e1) hLb (by decide) (by decide) (by decide), _, _, rfl, rfl, k⟩⟩, fun _ _ z => z.elim⟩
    · subst e
      rw [plc_fast] at k
      refine ⟨fun σ' H' => σ' = [some (.ref a), some (.str "fast"), some (.int x), some (.int L), some (.str l.1), some (.int l.2.1), some (.int l.2.2)] ∧ H' = H, ⟨_, rfl, rfl, _, rfl, ?_⟩, ?_⟩
      · have e3 : decide (V.str "fast" = V.str "slow") = false := by decide +kernel
        rw [e3]
        exact iteF ⟨rfl, rfl⟩
      · rintro σ1 H1 ⟨rfl, rfl⟩
        exact ⟨_, rfl, _, rfl, _, rfl, _, _, rfl, rfl, _, rfl, _, _, rfl, rfl, wide_div hL hLb (by decide) (by decide), _, rfl, _, _, rfl, rfl, wide_mul (div_lt hL e2) hLb (by decide) (by decide) (by decide), _, _, rfl, rfl, k⟩
theorem ok_too_far (T : Tx K w mg Z) : FnOk P w K mg base CX0 2 Z.a_too_far Z.d_too_far P_too_far (spFar K tooFar) := by
  refine T.F_too_far.ok sctoo_far (fun vs H Q E h => ?_) (fun cdv A outer s H vs Q E hr h => ?_)
  · obtain ⟨v, u, a, b, L, rfl, _⟩ := h
    rfl
  · obtain ⟨v, u, a, b, L, rfl, hv, hu, wa, wb, hL, hLb, sa, sb, k⟩ := h
    obtain ⟨p, rfl, hp⟩ := dp_look hv
    obtain ⟨q, rfl, hq⟩ := dp_look hu
    obtain ⟨es, n, DW⟩ := T.kd_WORDS
    obtain ⟨da1, da2, _⟩ := decl_words wa
    obtain ⟨db1, db2, _⟩ := decl_words wb
    refine ⟨_, (C8.pss_cut (ps_if (PW.pt (pw_or (pt_cmpR (notInS (K := K)) (pe_ix (ixT (K := K)) (pv 0) pe_int (fun _ _ => rfl)) (pe_ix (ix_kd DW) (pe_glob (v := .ref Z.a_WORDS) rfl T.g_WORDS rfl) (pe_glob rfl T.g_SLOW T.r_SLOW) (fun _ _ => rfl)) (by rfl)) (pw_or1 (pt_cmpR (notInS (K := K)) (pe_ix (ixT (K := K)) (pv 1) pe_int (fun _ _ => rfl)) (pe_ix (ix_kd DW) (pe_glob (v := .ref Z.a_WORDS) rfl T.g_WORDS rfl) (pe_glob rfl T.g_FAST T.r_FAST) (fun _ _ => rfl)) (by rfl))))) (pss_one (ps_ret pe_bl)) pss_nil)
      (pss_one (ps_ret (pe_cmpR op_gt (pe_call (ok_place_by T) (hr.mono (by decide)) (by rfl) T.g_place_by T.F_place_by.kp T.bb_place_by .nil pass0 (pa_cons (pv 0) (pa_cons (pe_glob rfl T.g_SLOW T.r_SLOW) (pa_cons (pe_ix (ixT (K := K)) (pv 1) pe_int (fun _ _ => rfl)) (pa_cons (pv 2) pa_nil))))) (pe_ix (ixT (K := K)) (pv 1) pe_int (fun _ _ => rfl)) (nomark _))))), ?_⟩
    unfold tooFar at k
    refine ⟨fun σ' H' => σ' = [some (.ref p), some (.ref q), some (.int L)] ∧ H' = H ∧ onSide "slow" a.1 = true ∧ onSide "fast" b.1 = true, ?_, ?_⟩
    · refine ⟨_, rfl, _, _, _, _, rfl, rfl, hp, rfl, _, _, .ref Z.t_slow, rfl, rfl, T.w_slow, rfl, _, _, rfl, .inr (T.q_slow _), rfl, rfl, _, rfl, ?_⟩
      cases c1 : onSide "slow" a.1 with
      | false =>
        rw [c1] at da1 k
        have : (if true = true then !inV (V.str a.1) [V.str "at", V.str "from"] else inV (V.str a.1) [V.str "at", V.str "from"]) = true := by rw [if_pos rfl, da1]; rfl
        rw [this]
        exact iteT (iteT k)
      | true =>
        rw [c1] at da1
        have : (if true = true then !inV (V.str a.1) [V.str "at", V.str "from"] else inV (V.str a.1) [V.str "at", V.str "from"]) = false := by rw [if_pos rfl, da1]; rfl
        rw [this]
        refine iteF ⟨_, rfl, _, _, _, _, rfl, rfl, hq, rfl, _, _, .ref Z.t_fast, rfl, rfl, T.w_fast, rfl, _, _, rfl, .inr (T.q_fast _), rfl, rfl, _, rfl, ?_⟩
        cases c2 : onSide "fast" b.1 with
        | false =>
          rw [c2] at db2
          rw [c1, c2] at k
          have : (if true = true then !inV (V.str b.1) [V.str "at", V.str "upto"] else inV (V.str b.1) [V.str "at", V.str "upto"]) = true := by rw [if_pos rfl, db2]; rfl
          rw [this]
          exact iteT k
        | true =>
          rw [c2] at db2
          have : (if true = true then !inV (V.str b.1) [V.str "at", V.str "upto"] else inV (V.str b.1) [V.str "at", V.str "upto"]) = false := by rw [if_pos rfl, db2]; rfl
          rw [this]
          exact iteF ⟨rfl, rfl, rfl, rfl⟩
    · rintro σ1 H1 ⟨rfl, rfl, c1, c2⟩
      rw [c1, c2] at k
      refine ⟨_, rfl, _, rfl, _, _, _, _, rfl, rfl, hq, rfl, _, rfl, ?_⟩
      exact ⟨_, a, "slow", b.2.1, L, rfl, hv, .inl rfl, hL, hLb, sb.1, sa, _, rfl, _, _, _, _, rfl, rfl, hq, rfl, _, _, rfl, rfl, k⟩
theorem ok_clash (T : Tx K w mg Z) : FnOk P w K mg base CX0 3 Z.a_clash Z.d_clash P_clash (spFar K clashB) := by
  refine T.F_clash.ok scclash (fun vs H Q E h => ?_) (fun cdv A outer s H vs Q E hr h => ?_)
  · obtain ⟨v, u, a, b, L, rfl, _⟩ := h
    rfl
  · obtain ⟨v, u, a, b, L, rfl, hv, hu, wa, wb, hL, hLb, sa, sb, k⟩ := h
    refine ⟨_, (pss_one (ps_ret (pe_or (pe_call (ok_too_far T) (hr.mono (by decide)) (by rfl) T.g_too_far T.F_too_far.kp T.bb_too_far .nil pass0 (pa_cons (pv 0) (pa_cons (pv 1) (pa_cons (pv 2) pa_nil)))) (pe_one (pe_call (ok_too_far T) (hr.mono (by decide)) (by rfl) T.g_too_far T.F_too_far.kp T.bb_too_far .nil pass0 (pa_cons (pv 1) (pa_cons (pv 0) (pa_cons (pv 2) pa_nil)))))))), ?_⟩
    unfold clashB at k
    refine ⟨_, rfl, _, rfl, _, rfl, v, u, a, b, L, rfl, hv, hu, wa, wb, hL, hLb, sa, sb, _, rfl, ?_⟩
    cases c : tooFar a b L with
    | true => rw [c] at k; exact iteT k
    | false =>
      rw [c] at k
      exact iteF ⟨_, rfl, _, rfl, _, rfl, u, v, b, a, L, rfl, hu, hv, wb, wa, hL, hLb, sb, sa, k⟩
end
end KA
namespace KA
open PySem PySem.Spec PyProof.Rows L2 DP
def sideOf (sd : Str) (ls : List Lk) : List Lk := ls.filter fun l => onSide sd l.1
def spSide (K : PySem.W.Frag) : Sp := fun vs H Q _ => ∃ (v : V) (ls : List Lk) (sd : Str), vs = [v, .str sd] ∧ Dp K H v (.list (ls.map encL)) ∧ SideOk sd ∧ (∀ l ∈ ls, WordOk l.1) ∧ ls.length ≤ 1000 ∧
  ∀ H' p, H p = none → Same H H' → (∃ vs, H' p = some (.lst vs) ∧ DpAll K H' vs ((sideOf sd ls).map encL)) → Q (.ref p) H'
/-- a step: where, by which look -/
def encS (sd : Str) (x L : Int) (l : Lk) : PyData := .tuple [.int (plc sd l x L), encL l]
/-- the best step's place -/
def IsBest (sd : Str) (ls : List Lk) (x L m : Int) : Prop := (∃ l ∈ ls, plc sd l x L = m) ∧ ∀ l ∈ ls, if sd = "slow" then plc sd l x L ≤ m else m ≤ plc sd l x L
def spBest (K : PySem.W.Frag) : Sp := fun vs H Q _ => ∃ (v : V) (ls : List Lk) (sd : Str) (x L : Int), vs = [v, .str sd, .int x, .int L] ∧ Dp K H v (.list (ls.map encL)) ∧ SideOk sd ∧ (∀ l ∈ ls, WordOk l.1 ∧ Sized 400 l) ∧ ls.length ≤ 1000 ∧ 0 < L ∧ L.natAbs < 2 ^ 200 ∧ x.natAbs < 2 ^ 400 ∧
  (ls = [] → Q .non H) ∧ ∀ H' r l, l ∈ ls → Same H H' → IsBest sd ls x L (plc sd l x L) → Dp K H' r (encS sd x L l) → Q r H'
/-! ### the best step -/
theorem alike_step (sd : Str) (x L : Int) (a b : Lk) : PySem.W.alike (encS sd x L a) (encS sd x L b) = true := by simp [encS, encL, PySem.W.alike, PySem.W.alikeAll]
theorem steps_alike (sd : Str) (x L : Int) (ls : List Lk) : PySem.W.AlikeAll (ls.map (encS sd x L)) := by
  refine ⟨fun a ha b hb => ?_, fun a ha => ?_⟩
  · obtain ⟨p, _, rfl⟩ := List.mem_map.mp ha
    obtain ⟨q, _, rfl⟩ := List.mem_map.mp hb
    exact alike_step _ _ _ _ _
  · obtain ⟨p, _, rfl⟩ := List.mem_map.mp ha
    exact fun e => by cases e
theorem lay_look {l : Lk} (h : WordOk l.1) : (encL l).canLay0 = true := by
  obtain ⟨a, b, c⟩ := l
  have h : WordOk a := h
  rcases h with e | e | e <;> subst e <;> simp [encL, PyData.canLay0, PyData.canLayAll0] <;> decide +kernel
theorem steps_lay (sd : Str) (x L : Int) : ∀ ls : List Lk, (∀ l ∈ ls, WordOk l.1) → PyData.canLayAll0 (ls.map (encS sd x L)) = true
  | [], _ => rfl
  | l :: ls, h => by
    have h1 := lay_look (h l List.mem_cons_self)
    have h2 := steps_lay sd x L ls fun q hq => h q (List.mem_cons_of_mem _ hq)
    show PyData.canLayAll0 (encS sd x L l :: ls.map (encS sd x L)) = true
    simp [PyData.canLayAll0, h2, encS, PyData.canLay0, h1]
theorem steps_depth (sd : Str) (x L : Int) : ∀ ls : List Lk, PyData.depthAll (ls.map (encS sd x L)) ≤ 60
  | [] => by simp [PyData.depthAll]
  | l :: ls => by
    have h2 := steps_depth sd x L ls
    show PyData.depthAll (encS sd x L l :: ls.map (encS sd x L)) ≤ 60
    have h3 : (encS sd x L l).depth = 2 := by simp [encS, encL, PyData.depth, PyData.depthAll]
    rw [PyData.depthAll, h3]
    omega
/-- a greater place is a greater step -/
theorem lt_step {sd : Str} {x L : Int} {a b : Lk} (h : plc sd a x L < plc sd b x L) : PySem.W.dataLt (encS sd x L a) (encS sd x L b) = true := by
  unfold encS
  rw [PySem.W.dataLt_tuple, PySem.W.dataLt_cons (by simp [PySem.W.alike])]
  have e : PyData.eqv (.int (plc sd a x L)) (.int (plc sd b x L)) = false := by simp [PyData.eqv]; omega
  rw [e, if_neg Bool.false_ne_true, PySem.W.dataLt_int]
  exact decide_eq_true h
theorem le_step {sd : Str} {x L : Int} {a b : Lk} (h : PySem.W.dataLt (encS sd x L a) (encS sd x L b) = true) : plc sd a x L ≤ plc sd b x L := by
  unfold encS at h
  rw [PySem.W.dataLt_tuple, PySem.W.dataLt_cons (by simp [PySem.W.alike])] at h
  by_cases e : plc sd a x L = plc sd b x L
  · omega
  · have e' : PyData.eqv (.int (plc sd a x L)) (.int (plc sd b x L)) = false := by simp [PyData.eqv]; omega
    rw [e', if_neg Bool.false_ne_true, PySem.W.dataLt_int] at h
    have := of_decide_eq_true h
    omega
theorem max_go (x L : Int) : ∀ (ls : List Lk) (l : Lk), ∃ q, (q = l ∨ q ∈ ls) ∧ (ls.map (encS "slow" x L)).foldl (fun a y => if PySem.W.dataLt a y then y else a) (encS "slow" x L l) = encS "slow" x L q ∧ plc "slow" l x L ≤ plc "slow" q x L ∧ ∀ p ∈ ls, plc "slow" p x L ≤ plc "slow" q x L
  | [], l => ⟨l, .inl rfl, rfl, Int.le_refl _, fun _ h => by cases h⟩
  | y :: ls, l => by
    rw [List.map_cons, List.foldl_cons]
    cases c : PySem.W.dataLt (encS "slow" x L l) (encS "slow" x L y) with
    | true =>
      rw [if_pos rfl]
      obtain ⟨q, hq, e, h1, h2⟩ := max_go x L ls y
      have := le_step c
      refine ⟨q, ?_, e, by omega, fun p hp => ?_⟩
      · rcases hq with e | e
        · subst e; exact .inr List.mem_cons_self
        · exact .inr (List.mem_cons_of_mem _ e)
      · rcases List.mem_cons.mp hp with e | e
        · subst e; exact h1
        · exact h2 p e
    | false =>
      rw [if_neg Bool.false_ne_true]
      obtain ⟨q, hq, e, h1, h2⟩ := max_go x L ls l
      refine ⟨q, ?_, e, h1, fun p hp => ?_⟩
      · rcases hq with e | e
        · exact .inl e
        · exact .inr (List.mem_cons_of_mem _ e)
      · rcases List.mem_cons.mp hp with e | e
        · subst e
          by_cases hlt : plc "slow" l x L < plc "slow" p x L
          · rw [lt_step hlt] at c; cases c
          · omega
        · exact h2 p e
theorem max_step (x L : Int) (l : Lk) (ls : List Lk) : ∃ q, q ∈ l :: ls ∧ PySem.W.maxD (encS "slow" x L l) (ls.map (encS "slow" x L)) = encS "slow" x L q ∧ IsBest "slow" (l :: ls) x L (plc "slow" q x L) := by
  obtain ⟨q, hq, e, h1, h2⟩ := max_go x L ls l
  have hm : q ∈ l :: ls := by
    rcases hq with e | e
    · subst e; exact List.mem_cons_self
    · exact List.mem_cons_of_mem _ e
  refine ⟨q, hm, e, ⟨q, hm, rfl⟩, fun p hp => ?_⟩
  rw [if_pos rfl]
  rcases List.mem_cons.mp hp with e | e
  · subst e; exact h1
  · exact h2 p e
theorem min_go (x L : Int) : ∀ (ls : List Lk) (l : Lk), ∃ q, (q = l ∨ q ∈ ls) ∧ (ls.map (encS "fast" x L)).foldl (fun a y => if PySem.W.dataLt y a then y else a) (encS "fast" x L l) = encS "fast" x L q ∧ plc "fast" q x L ≤ plc "fast" l x L ∧ ∀ p ∈ ls, plc "fast" q x L ≤ plc "fast" p x L
  | [], l => ⟨l, .inl rfl, rfl, Int.le_refl _, fun _ h => by cases h⟩
  | y :: ls, l => by
    rw [List.map_cons, List.foldl_cons]
    cases c : PySem.W.dataLt (encS "fast" x L y) (encS "fast" x L l) with
    | true =>
      rw [if_pos rfl]
      obtain ⟨q, hq, e, h1, h2⟩ := min_go x L ls y
      have := le_step c
      refine ⟨q, ?_, e, by omega, fun p hp => ?_⟩
      · rcases hq with e | e
        · subst e; exact .inr List.mem_cons_self
        · exact .inr (List.mem_cons_of_mem _ e)
      · rcases List.mem_cons.mp hp with e | e
        · subst e; exact h1
        · exact h2 p e
    | false =>
      rw [if_neg Bool.false_ne_true]
      obtain ⟨q, hq, e, h1, h2⟩ := min_go x L ls l
      refine ⟨q, ?_, e, h1, fun p hp => ?_⟩
      · rcases hq with e | e
        · exact .inl e
        · exact .inr (List.mem_cons_of_mem _ e)
      · rcases List.mem_cons.mp hp with e | e
        · subst e
          by_cases hlt : plc "fast" p x L < plc "fast" l x L
          · rw [lt_step hlt] at c; cases c
          · omega
        · exact h2 p e
theorem min_step (x L : Int) (l : Lk) (ls : List Lk) : ∃ q, q ∈ l :: ls ∧ PySem.W.minD (encS "fast" x L l) (ls.map (encS "fast" x L)) = encS "fast" x L q ∧ IsBest "fast" (l :: ls) x L (plc "fast" q x L) := by
  obtain ⟨q, hq, e, h1, h2⟩ := min_go x L ls l
  have hm : q ∈ l :: ls := by
    rcases hq with e | e
    · subst e; exact List.mem_cons_self
    · exact List.mem_cons_of_mem _ e
  refine ⟨q, hm, e, ⟨q, hm, rfl⟩, fun p hp => ?_⟩
  rw [if_neg slow_ne]
  rcases List.mem_cons.mp hp with e | e
  · subst e; exact h1
  · exact h2 p e
section
variable {P : Program} {w : World} {K : PySem.W.Frag} {mg : Str → Option Value} {base : Heap} {Z : Ad}
theorem words_side {sd x : Str} (hs : SideOk sd) (hx : WordOk x) : inV (.str x) (if sd = "slow" then [.str "at", .str "from"] else [.str "at", .str "upto"]) = onSide sd x := by
  obtain ⟨h1, h2, _⟩ := decl_words hx
  rcases hs with e | e
  · subst e; rw [if_pos rfl]; exact h1
  · subst e; rw [if_neg slow_ne]; exact h2
theorem ok_side_looks (T : Tx K w mg Z) : FnOk P w K mg base CX0 1 Z.a_side_looks Z.d_side_looks P_side_looks (spSide K) := by
  refine T.F_side_looks.ok scside_looks (fun vs H Q E h => ?_) (fun cdv A outer s H vs Q E hr h => ?_)
  · obtain ⟨v, ls, sd, rfl, _⟩ := h
    rfl
  · obtain ⟨v, ls, sd, rfl, hv, hsd, hw, hlen, k⟩ := h
    obtain ⟨a, xs, rfl, ha, hd⟩ := dp_list hv
    obtain ⟨es, n, DW⟩ := T.kd_WORDS
    have hxl : xs.length = ls.length := by rw [dpAll_len hd, List.length_map]
    obtain ⟨tw, htw, hqw⟩ : ∃ tw, PySem.W.nsIn K Z.a_WORDS sd = some (some (.ref tw)) ∧ ∀ H, SqT K H tw (if sd = "slow" then [.str "at", .str "from"] else [.str "at", .str "upto"]) := by
      rcases hsd with e | e
      · subst e; exact ⟨_, T.w_slow, fun H => by rw [if_pos rfl]; exact T.q_slow H⟩
      · subst e; exact ⟨_, T.w_fast, fun H => by rw [if_neg slow_ne]; exact T.q_fast H⟩
    refine ⟨_, (pss_cons (ps_set (i := 2) scside_looks.nd rfl (Or.inr rfl) (pe_ix (ix_kd DW) (pe_glob (v := .ref Z.a_WORDS) rfl T.g_WORDS rfl) (pv 1) (fun _ _ => rfl)))
      (pss_one (ps_ret (pe_lc (own := [("look", 3)]) (g := gName 3) (tt := _) rfl scside_looks.nd (pi_list (pv 0)) (blkOk_by (own := [("look", 3)]) (N := N_side_looks) (sc := defScope sside_looks) (by decide +kernel)) (fun _ _ _ _ _ => (pg_name (i := 3) scside_looks.nd rfl (Or.inl rfl))) (fun _ _ _ _ _ => (pts_one (pt_cmpR (inS (K := K)) (pe_ix (ixT (K := K)) (pv 3) pe_int (fun _ _ => rfl)) (pv 2) (by rfl)))) (fun _ _ _ _ _ => (pv 3)))))), ?_⟩
    refine ⟨_, rfl, sd, _, .ref tw, rfl, rfl, htw, rfl, _, rfl, a, rfl, ⟨_, ha⟩, fun D hD => ?_⟩
    refine lc_list (K := K) (a := a) (xs := xs) (fun i H' => Same H H' ∧ ∃ ys, H' D = some (.lst ys) ∧ ys.length ≤ i ∧ DpAll K H' ys ((sideOf sd (ls.take i)).map encL)) ⟨same_upd hD, [], upd_same, Nat.le_refl _, .nil⟩ (fun i H' _ ⟨S, _⟩ => Same.sqL S ha) ?_ ?_
    · rintro i y H' hi ⟨S, ys, hD', hyl, hds⟩
      obtain ⟨d, hdi, hdy⟩ := dpAll_get hd hi
      obtain ⟨l, hl, rfl⟩ := map_at hdi
      have hwl := hw l (List.mem_of_getElem? hl)
      have hdy' := dp_mono S _ _ hdy
      obtain ⟨p, rfl, hp⟩ := dp_look hdy'
      refine ⟨rfl, _, rfl, _, _, _, _, rfl, rfl, hp, rfl, _, rfl, _, _, rfl, .inr (hqw _), rfl, ?_, _, rfl, ?_⟩
      · split <;> rfl
      · have e1 : (if false = true then !inV (V.str l.1) (if sd = "slow" then [V.str "at", V.str "from"] else [V.str "at", V.str "upto"]) else inV (V.str l.1) (if sd = "slow" then [V.str "at", V.str "from"] else [V.str "at", V.str "upto"])) = onSide sd l.1 := by
          rw [if_neg Bool.false_ne_true]; exact words_side hsd hwl
        rw [e1]
        have e2 : sideOf sd (ls.take (i + 1)) = sideOf sd (ls.take i) ++ (if onSide sd l.1 = true then [l] else []) := by
          rw [take_snoc hl]; unfold sideOf; rw [List.filter_append]
          cases c : onSide sd l.1 <;> simp [c]
        cases c : onSide sd l.1 with
        | false =>
          refine iteF ⟨S, ys, hD', by omega, ?_⟩
          rw [e2, c]
          simpa using hds
        | true =>
          refine iteT ⟨_, rfl, ys, hD', ?_, ?_, _, upd_same, by simp; omega, ?_⟩
          · have : ys.length ≤ 1000 := by
              have := (List.getElem?_eq_some_iff.mp hl).1
              omega
            exact small1000 this
          · exact same_set S hD
          · rw [e2, c, if_pos rfl, List.map_append]
            exact acc_step hD' (noLs_map noL_encL _) rfl hds hdy'
    · rintro H' ⟨S, ys, hD', hyl, hds⟩
      rw [List.take_of_length_le (by rw [hxl]; exact Nat.le_refl _)] at hds
      exact k H' D hD S ⟨ys, hD', hds⟩
theorem ok_best_step (T : Tx K w mg Z) : FnOk P w K mg base CX0 2 Z.a_best_step Z.d_best_step P_best_step (spBest K) := by
  refine T.F_best_step.ok scbest_step (fun vs H Q E h => ?_) (fun cdv A outer s H vs Q E hr h => ?_)
  · obtain ⟨v, ls, sd, x, L, rfl, _⟩ := h
    rfl
  · obtain ⟨v, ls, sd, x, L, rfl, hv, hsd, hw, hlen, hL, hLb, hx, k0, k⟩ := h
    obtain ⟨a, xs, rfl, ha, hd⟩ := dp_list hv
    have hxl : xs.length = ls.length := by rw [dpAll_len hd, List.length_map]
    refine ⟨_, (C8.pss_cut (ps_if (pt_not (pt_truth (pv 0) (by intro _; rfl))) (pss_one (ps_ret pe_non)) pss_nil)
      (pss_cons (ps_setLc (i := 4) (own := [("look", 5)]) (g := gName 5) (tt := tYes) rfl scbest_step.nd rfl rfl (sw_true rfl rfl rfl (by decide +kernel)) (pi_list (pv 0)) (blkOk_by (own := [("look", 5)]) (N := N_best_step) (sc := defScope sbest_step) (by decide +kernel)) (fun _ _ _ _ _ => (pg_name (i := 5) scbest_step.nd rfl (Or.inl rfl))) (fun _ _ _ _ _ => pts_nil) (fun _ _ _ _ _ => (pe_tup (pa_cons (pe_call (ok_place_by T) (hr.mono (by decide)) (by rfl) T.g_place_by T.F_place_by.kp T.bb_place_by .nil pass0 (pa_cons (pv 5) (pa_cons (pv 1) (pa_cons (pv 2) (pa_cons (pv 3) pa_nil))))) (pa_cons (pv 5) pa_nil)))))
      (pss_one (ps_ret (pe_ifExp (pt_cmpR op_eq (pv 1) (pe_glob rfl T.g_SLOW T.r_SLOW) (nomark _)) (pe_callB (maxDK (K := K) rfl (rooms hr)) (by rfl) T.b_max (by decide +kernel) (pa_cons (pv 4) pa_nil)) (pe_callB (minDK (K := K) rfl (rooms hr)) (by rfl) T.b_min (by decide +kernel) (pa_cons (pv 4) pa_nil))))))), ?_⟩
    refine ⟨fun σ' H' => σ' = [some (.ref a), some (.str sd), some (.int x), some (.int L), none, none] ∧ H' = H ∧ ls ≠ [], ?_, ?_⟩
    · refine ⟨_, rfl, _, .inl ⟨xs, ha, rfl⟩, ?_⟩
      cases ls with
      | nil =>
        have e : xs = [] := List.eq_nil_of_length_eq_zero hxl
        subst e
        exact iteT (k0 rfl)
      | cons l ls =>
        cases xs with
        | nil => simp at hxl
        | cons y ys => exact iteF ⟨rfl, rfl, by simp⟩
    · rintro σ1 H1 ⟨rfl, rfl, hne⟩
      refine ⟨_, rfl, a, rfl, ⟨_, ha⟩, fun D hD => ?_⟩
      refine lc_list (K := K) (a := a) (xs := xs) (fun i H' => Same H1 H' ∧ ∃ ys, H' D = some (.lst ys) ∧ ys.length ≤ i ∧ DpAll K H' ys ((ls.take i).map (encS sd x L))) ⟨same_upd hD, [], upd_same, Nat.le_refl _, .nil⟩ (fun i H' _ ⟨S, _⟩ => Same.sqL S ha) ?_ ?_
      · rintro i y H' hi ⟨S, ys, hD', hyl, hds⟩
        obtain ⟨d, hdi, hdy⟩ := dpAll_get hd hi
        obtain ⟨l, hl, rfl⟩ := map_at hdi
        have hwl := hw l (List.mem_of_getElem? hl)
        have hdy' := dp_mono S _ _ hdy
        refine ⟨rfl, yes_ite ?_⟩
        refine ⟨_, rfl, _, rfl, _, rfl, _, rfl, y, l, sd, x, L, rfl, hdy', hsd, hL, hLb, hx, hwl.2, _, rfl, (by show 2 ≤ sizeLine; decide), fun p hp => ?_⟩
        have hD2 : (upd H' p (.tup [.int (plc sd l x L), y])) D = some (.lst ys) := (upd_ne (ne_of_none hD' hp)).trans hD'
        have S2 := same_upd (o := HO.tup [.int (plc sd l x L), y]) hp
        refine ⟨ys, hD2, ?_, same_set (S.trans S2) hD, _, upd_same, by simp; omega, ?_⟩
        · have := (List.getElem?_eq_some_iff.mp hl).1
          exact small1000 (by omega)
        · rw [take_snoc hl, List.map_append]
          exact acc_step hD2 (noLs_map (fun _ => rfl) _) rfl (dpAll_mono S2 _ _ hds) (.tup (SqT.of upd_same) (.cons (.int _) (.cons (dp_mono S2 _ _ hdy') .nil)))
      · rintro H' ⟨S, ys, hD', hyl, hds⟩
        rw [List.take_of_length_le (by rw [hxl]; exact Nat.le_refl _)] at hds
        refine ⟨_, rfl, rfl, _, rfl, ?_⟩
        have hd0 : ∃ l ls', ls = l :: ls' := by
          cases ls with
          | nil => exact absurd rfl hne
          | cons l ls' => exact ⟨l, ls', rfl⟩
        obtain ⟨l, ls', rfl⟩ := hd0
        have hal := steps_alike sd x L (l :: ls')
        have hlay := steps_lay sd x L (l :: ls') (fun q hq => (hw q hq).1)
        have hdep := steps_depth sd x L (l :: ls')
        rcases hsd with e | e
        · subst e
          refine iteT ⟨_, rfl, D, ys, _, _, rfl, SqL.of hD', hds, hal, hlay, hdep, fun r hr => ?_⟩
          obtain ⟨q, hq, e, hb⟩ := max_step x L l ls'
          rw [e] at hr
          exact k H' r q hq S hb hr
        · subst e
          have e3 : decide (V.str "fast" = V.str "slow") = false := by decide +kernel
          rw [e3]
          refine iteF ⟨_, rfl, D, ys, _, _, rfl, SqL.of hD', hds, hal, hlay, hdep, fun r hr => ?_⟩
          obtain ⟨q, hq, e, hb⟩ := min_step x L l ls'
          rw [e] at hr
          exact k H' r q hq S hb hr
end
end KA
namespace KA
open PySem PySem.Spec PyProof.Rows L2 DP
/-- a Dark's fields -/
def df (L : Int) (la : Addr) : List (Str × V) := [("_length", .int L), ("_looks", .ref la)]
theorem ne_ll : ¬ (("_looks" : Str) = "_length") := by decide +kernel
theorem ne_ll' : ¬ (("_length" : Str) = "_looks") := by decide +kernel
theorem df_length (L : Int) (la : Addr) : (df L la).lookup ("_length" : Str) = some (.int L) := by simp [df, List.lookup]
theorem df_looks (L : Int) (la : Addr) : (df L la).lookup ("_looks" : Str) = some (.ref la) := by
  have h : (("_looks" : Str) == ("_length" : Str)) = false := by decide +kernel
  simp [df, List.lookup, h]
theorem df_no (L : Int) (la : Addr) {m : Str} (h1 : (m == ("_length" : Str)) = false) (h2 : (m == ("_looks" : Str)) = false) : (df L la).lookup m = none := by simp [df, List.lookup, h1, h2]
theorem df_put1 (v : V) : putF "_length" v [] = [(("_length" : Str), v)] := rfl
theorem df_put2 (L : Int) (la : Addr) : putF "_looks" (.ref la) [("_length", .int L)] = df L la := by
  show (if ("_length" : Str) = "_looks" then _ else _) = _
  rw [if_neg ne_ll']; rfl
theorem df_put3 (L : Int) (la lb : Addr) : putF "_looks" (.ref lb) (df L la) = df L lb := by
  show (if ("_length" : Str) = "_looks" then _ else (("_length" : Str), V.int L) :: putF "_looks" (.ref lb) [("_looks", .ref la)]) = _
  rw [if_neg ne_ll']
  show (("_length" : Str), V.int L) :: (if ("_looks" : Str) = "_looks" then _ else _) = _
  rw [if_pos rfl]; rfl
/-- what is free there was free before -/
structure FreeIn (H H' : Hp) : Prop where
  free : ∀ {b : Addr}, H' b = none → H b = none
structure DarkAt (Z : Ad) (K : PySem.W.Frag) (H : Hp) (d : Addr) (L : Int) (ls : List Lk) : Prop where
  ex : ∃ dx la vs, H d = some (.ins Z.C dx (df L la)) ∧ H la = some (.lst vs) ∧ DpAll K H vs (ls.map encL)
  pos : 0 < L
  big : L.natAbs < 2 ^ 200
  ok : ∀ l ∈ ls, WordOk l.1 ∧ Sized 302 l
  len : ls.length ≤ 60
theorem DarkAt.same {Z : Ad} {K : PySem.W.Frag} {H H' : Hp} {d : Addr} {L : Int} {ls : List Lk} (D : DarkAt Z K H d L ls) (S : Same H H') : DarkAt Z K H' d L ls := by
  obtain ⟨dx, la, vs, h1, h2, h3⟩ := D.ex
  exact ⟨⟨dx, la, vs, S _ _ h1, S _ _ h2, dpAll_mono S _ _ h3⟩, D.pos, D.big, D.ok, D.len⟩
theorem Sized.up {m n : Nat} {l : Lk} (h : Sized m l) (hm : m ≤ n) : Sized n l := ⟨lt_up h.1 hm, lt_up h.2 hm⟩
theorem df_inj {C C' dx dx' : Addr} {L L' : Int} {la la' : Addr} (h : some (HO.ins C dx (df L la)) = some (HO.ins C' dx' (df L' la'))) : la = la' := by
  have h1 : df L la = df L' la' := by injection h with h; injection h
  simp [df] at h1
  exact h1.2
def spInit (Z : Ad) (K : PySem.W.Frag) : Sp := fun vs H Q _ => ∃ (d dx : Addr) (L : Int), vs = [.ref d, .int L] ∧ H d = some (.ins Z.C dx []) ∧ 0 < L ∧ L.natAbs < 2 ^ 200 ∧ ∀ H' : Hp, DarkAt Z K H' d L [] → (∀ la dx, H' d = some (.ins Z.C dx (df L la)) → H la = none) → (∀ b o, H b = some o → b ≠ d → H' b = some o) → Q .non H'
def spLooks (Z : Ad) (K : PySem.W.Frag) : Sp := fun vs H Q _ => ∃ (d : Addr) (L : Int) (ls : List Lk), vs = [.ref d] ∧ DarkAt Z K H d L ls ∧ ∀ (p : Addr) (xs : List V) (H' : Hp), H p = none → Same H H' → H' p = some (.lst xs) → DpAll K H' xs (ls.map encL) → Q (.ref p) H'
def spWord : Sp := fun vs H Q _ => ∃ (d : V) (x : Str), vs = [d, .str x] ∧ WordOk x ∧ Q .non H
def spHome (Z : Ad) (K : PySem.W.Frag) : Sp := fun vs H Q _ => ∃ (d : Addr) (L : Int) (ls : List Lk) (l : Lk), vs = [.ref d, .str l.1, .int l.2.1, .int l.2.2] ∧ DarkAt Z K H d L ls ∧ WordOk l.1 ∧ Sized 300 l ∧ ∀ H' r, Same H H' → Dp K H' r (encL (home L l)) → Q r H'
def spClashing (Z : Ad) (K : PySem.W.Frag) : Sp := fun vs H Q _ => ∃ (d : Addr) (v : V) (L : Int) (ls : List Lk) (l : Lk), vs = [.ref d, v] ∧ DarkAt Z K H d L ls ∧ Dp K H v (encL l) ∧ WordOk l.1 ∧ Sized 302 l ∧
  (ls.find? (fun o => clashB l o L) = none → Q .non H) ∧ ∀ o r, ls.find? (fun o => clashB l o L) = some o → Dp K H r (encL o) → Q r H
/-- what is heard -/
def heard (L : Int) (ls : List Lk) (l : Lk) : List Lk := if home L l ∈ ls then ls else (ls ++ [home L l]).mergeSort (PySem.W.dataLe false encL)
def spHear (Z : Ad) (K : PySem.W.Frag) : Sp := fun vs H Q _ => ∃ (d : Addr) (L : Int) (ls : List Lk) (l : Lk), vs = [.ref d, .str l.1, .int l.2.1, .int l.2.2] ∧ DarkAt Z K H d L ls ∧ WordOk l.1 ∧ Sized 300 l ∧ ls.length < 60 ∧ (∀ o ∈ ls, clashB (home L l) o L = false) ∧
  ∀ H', DarkAt Z K H' d L (heard L ls l) → (∀ la dx, H' d = some (.ins Z.C dx (df L la)) → (∃ dx', H d = some (.ins Z.C dx' (df L la))) ∨ H la = none) → (∀ b o, H b = some o → b ≠ d → H' b = some o) → Q .non H'
def spBound (Z : Ad) (K : PySem.W.Frag) : Sp := fun vs H Q _ => ∃ (d : Addr) (L : Int) (ls : List Lk) (sd : Str) (x : Int), vs = [.ref d, .str sd, .int x] ∧ DarkAt Z K H d L ls ∧ SideOk sd ∧ x.natAbs < 2 ^ 400 ∧
  (sideOf sd ls = [] → ∀ H', Same H H' → Q .non H') ∧ ∀ m H', Same H H' → IsBest sd (sideOf sd ls) x L m → Q (.int m) H'
/-- what a side tells of x: None, or the best place -/
def Tells (sd : Str) (ls : List Lk) (x L : Int) (v : V) : Prop := (sideOf sd ls = [] ∧ v = .non) ∨ ∃ m, v = .int m ∧ IsBest sd (sideOf sd ls) x L m
def spSideOf (Z : Ad) (K : PySem.W.Frag) (sd : Str) : Sp := fun vs H Q _ => ∃ (d : Addr) (L : Int) (ls : List Lk) (x : Int), vs = [.ref d, .int x] ∧ DarkAt Z K H d L ls ∧ x.natAbs < 2 ^ 400 ∧
  ∀ v H', Same H H' → Tells sd ls x L v → Q v H'
theorem same_put {H : Hp} {d C dx : Addr} {fs fs' : List (Str × V)} (h : H d = some (.ins C dx fs)) : FreeIn H (upd H d (.ins C dx fs')) := ⟨fun {b} hb => by
  by_cases e : b = d
  · subst e; rw [upd_same] at hb; cases hb
  · rw [upd_ne e] at hb; exact hb⟩
theorem emod_small {x L : Int} (h : 0 < L) (hb : L.natAbs < 2 ^ 200) : (x - x / L * L).natAbs < 2 ^ 200 := by
  have e : x - x / L * L = x % L := by
    have := Int.mul_ediv_add_emod x L
    rw [Int.mul_comm (x / L) L]; omega
  rw [e]
  have h1 := Int.emod_nonneg x (show L ≠ 0 by omega)
  have h2 := Int.emod_lt_of_pos x h
  have h3 : (x % L).natAbs ≤ L.natAbs := by clear hb; omega
  exact Nat.lt_of_le_of_lt h3 hb
theorem home_sized {L : Int} {l : Lk} (h : 0 < L) (hb : L.natAbs < 2 ^ 200) (hl : Sized 300 l) : Sized 302 (home L l) := by
  have h0 := emod_small (x := l.2.1) h hb
  refine ⟨lt_up h0 (by decide), ?_⟩
  show (l.2.2 - l.2.1 / L * L).natAbs < 2 ^ 302
  have e : l.2.2 - l.2.1 / L * L = l.2.2 + ((l.2.1 - l.2.1 / L * L) - l.2.1) := by omega
  rw [e]
  have h1 : ((l.2.1 - l.2.1 / L * L) - l.2.1).natAbs < 2 ^ 301 := sub_lt (lt_up h0 (by decide)) hl.1
  exact add_lt (lt_up hl.2 (by decide)) h1
section
variable {P : Program} {w : World} {K : PySem.W.Frag} {mg : Str → Option Value} {base : Heap} {Z : Ad}
theorem ok_Dark_init (T : Tx K w mg Z) : FnOk P w K mg base CX0 1 Z.a_Dark_init Z.d_Dark_init P_Dark_init (spInit Z K) := by
  refine T.F_Dark_init.ok scDark_init (fun vs H Q E h => ?_) (fun cdv A outer s H vs Q E hr h => ?_)
  · obtain ⟨d, dx, L, rfl, _⟩ := h
    rfl
  · obtain ⟨d, dx, L, rfl, hd, hL, hLb, k⟩ := h
    refine ⟨_, (C8.pss_cut (ps_if (pt_cmpR op_lt (pv 1) pe_int (nomark _)) (pss_one ps_never) pss_nil)
      (pss_cons (ps_fld (pv 0) (pv 1) rfl)
      (pss_one (ps_fld (pv 0) (pe_lst pa_nil) rfl)))), ?_⟩
    refine ⟨fun σ' H' => σ' = [some (.ref d), some (.int L)] ∧ H' = H, ?_, ?_⟩
    · refine ⟨_, rfl, _, _, rfl, rfl, _, rfl, ?_⟩
      exact ite2 (fun c => (by have c' := of_decide_eq_true c; omega : False)) (fun _ => ⟨rfl, rfl⟩)
    · rintro σ1 H1 ⟨rfl, rfl⟩
      refine ⟨_, rfl, _, rfl, d, Z.C, dx, [], rfl, hd, T.cl, T.n_length, (by show 0 < 1000; decide), ?_⟩
      refine ⟨(by show 0 ≤ sizeLine; decide), fun p hp => ?_⟩
      have h1 : (upd H1 d (.ins Z.C dx (putF "_length" (.int L) []))) d = some (.ins Z.C dx [("_length", .int L)]) := upd_same
      have hdp : d ≠ p := ne_of_none h1 hp
      refine ⟨_, rfl, d, Z.C, dx, [("_length", .int L)], rfl, (upd_ne hdp).trans h1, T.cl, T.n_looks, (by show 1 < 1000; decide), ?_⟩
      refine k _ ⟨⟨dx, p, [], Eq.trans upd_same (congrArg (fun q => some (HO.ins Z.C dx q)) (df_put2 L p)), (upd_ne (Ne.symm hdp)).trans upd_same, .nil⟩, hL, hLb, (fun _ z => absurd z (by simp)), Nat.zero_le _⟩ (fun la' dx' e => ?_) fun b o e hb => ?_
      · rw [upd_same, df_put2] at e
        rw [← df_inj e]
        exact (same_put hd).free hp
      have e1 : (upd H1 d (.ins Z.C dx (putF "_length" (.int L) []))) b = some o := (upd_ne hb).trans e
      exact (upd_ne hb).trans ((upd_ne (ne_of_none e1 hp)).trans e1)
theorem ok_Dark_looks (T : Tx K w mg Z) : FnOk P w K mg base CX0 1 Z.a_Dark_looks Z.d_Dark_looks P_Dark_looks (spLooks Z K) := by
  refine T.F_Dark_looks.ok scDark_looks (fun vs H Q E h => ?_) (fun cdv A outer s H vs Q E hr h => ?_)
  · obtain ⟨d, L, ls, rfl, _⟩ := h
    rfl
  · obtain ⟨d, L, ls, rfl, D, k⟩ := h
    obtain ⟨dx, la, xs, h1, h2, h3⟩ := D.ex
    refine ⟨_, (pss_one (ps_ret (pe_callTy (listK (K := K)) (by rfl) T.b_list (by decide +kernel) (pa_cons (fldK (K := K) (pv 0) rfl) pa_nil)))), ?_⟩
    refine ⟨_, rfl, d, Z.C, dx, _, _, rfl, h1, T.cl, T.n_looks, df_looks _ _, la, xs, rfl, .inl (SqL.of h2), fun p hp => ?_⟩
    exact k p xs _ hp (same_upd hp) upd_same (dpAll_mono (same_upd hp) _ _ h3)
theorem ok_Darkcheck_word (T : Tx K w mg Z) : FnOk P w K mg base CX0 1 Z.a_Darkcheck_word Z.d_Darkcheck_word P_Darkcheck_word (spWord) := by
  refine T.F_Darkcheck_word.ok scDarkcheck_word (fun vs H Q E h => ?_) (fun cdv A outer s H vs Q E hr h => ?_)
  · obtain ⟨d, x, rfl, _⟩ := h
    rfl
  · obtain ⟨d, x, rfl, hx, k⟩ := h
    refine ⟨_, (pss_one (ps_if (pt_cmpR (notInS (K := K)) (pv 1) (pe_glob (v := .ref Z.a_LW) rfl T.g_LOOK_WORDS rfl) (by rfl)) (pss_one ps_never) pss_nil)), ?_⟩
    obtain ⟨_, _, e⟩ := decl_words hx
    refine ⟨_, rfl, _, _, rfl, .inr (T.q_LW _), rfl, rfl, _, rfl, ?_⟩
    have e2 : (if true = true then !inV (V.str x) [V.str "at", V.str "from", V.str "upto"] else inV (V.str x) [V.str "at", V.str "from", V.str "upto"]) = false := by rw [if_pos rfl, e]; rfl
    rw [e2]
    exact iteF k
theorem ok_Darkhome (T : Tx K w mg Z) : FnOk P w K mg base CX0 2 Z.a_Darkhome Z.d_Darkhome P_Darkhome (spHome Z K) := by
  refine T.F_Darkhome.ok scDarkhome (fun vs H Q E h => ?_) (fun cdv A outer s H vs Q E hr h => ?_)
  · obtain ⟨d, L, ls, l, rfl, _⟩ := h
    rfl
  · obtain ⟨d, L, ls, l, rfl, D, hw, hl, k⟩ := h
    obtain ⟨dx, la, xs, h1, h2, h3⟩ := D.ex
    refine ⟨_, (pss_cons (ps_expr (pe_meth (pv 0) T.cl T.m_Darkcheck_word (ok_Darkcheck_word T) (hr.mono (by decide)) T.bb_Darkcheck_word .nil pass0 (pa_cons (pv 1) pa_nil)))
      (pss_cons (ps_set (i := 4) scDarkhome.nd rfl (Or.inl rfl) (pe_op op_fdivW (pv 2) (fldK (K := K) (pv 0) rfl)))
      (pss_one (ps_ret (pe_tup (pa_cons (pv 1) (pa_cons (pe_op op_sub (pv 2) (pe_op op_mulW (pv 4) (fldK (K := K) (pv 0) rfl))) (pa_cons (pe_op op_sub (pv 3) (pe_op op_mulW (pv 4) (fldK (K := K) (pv 0) rfl))) pa_nil)))))))), ?_⟩
    refine ⟨_, rfl, d, dx, _, rfl, h1, df_no _ _ (by decide +kernel) (by decide +kernel), _, rfl, _, _, rfl, hw, ?_⟩
    refine ⟨_, rfl, _, rfl, d, Z.C, dx, _, _, rfl, h1, T.cl, T.n_length, df_length _ _, _, _, rfl, rfl, wide_div D.pos D.big (by decide) (by decide), ?_⟩
    have b1 : (l.2.1 / L).natAbs < 2 ^ 301 := div_lt D.pos hl.1
    refine ⟨_, rfl, _, rfl, _, rfl, _, rfl, d, Z.C, dx, _, _, rfl, h1, T.cl, T.n_length, df_length _ _, _, _, rfl, rfl, wide_mul b1 D.big (by decide) (by decide) (by decide), _, _, rfl, rfl, ?_⟩
    refine ⟨_, rfl, _, rfl, _, rfl, d, Z.C, dx, _, _, rfl, h1, T.cl, T.n_length, df_length _ _, _, _, rfl, rfl, wide_mul b1 D.big (by decide) (by decide) (by decide), _, _, rfl, rfl, (by show 3 ≤ sizeLine; decide), fun p hp => ?_⟩
    exact k _ _ (same_upd hp) (.tup (SqT.of upd_same) (.cons (.str _) (.cons (.int _) (.cons (.int _) .nil))))
theorem ok_Darkclashing (T : Tx K w mg Z) : FnOk P w K mg base CX0 4 Z.a_Darkclashing Z.d_Darkclashing P_Darkclashing (spClashing Z K) := by
  refine T.F_Darkclashing.ok scDarkclashing (fun vs H Q E h => ?_) (fun cdv A outer s H vs Q E hr h => ?_)
  · obtain ⟨d, v, L, ls, l, rfl, _⟩ := h
    rfl
  · obtain ⟨d, v, L, ls, l, rfl, D, hv, hw, hl, k0, k⟩ := h
    obtain ⟨dx, la, xs, h1, h2, h3⟩ := D.ex
    have hxl : xs.length = ls.length := by rw [dpAll_len h3, List.length_map]
    refine ⟨_, (pss_cons (ps_for PassesOwn.never rfl (pi_list (fldK (K := K) (pv 0) rfl)) (pg_name (i := 2) scDarkclashing.nd rfl (Or.inl rfl)) (pss_one (ps_if (pt_val (pe_call (ok_clash T) (hr.mono (by decide)) (by rfl) T.g_clash T.F_clash.kp T.bb_clash .nil pass0 (pa_cons (pv 1) (pa_cons (pv 2) (pa_cons (fldK (K := K) (pv 0) rfl) pa_nil))))) (pss_one (ps_ret (pv 2))) pss_nil)))
      (pss_one (ps_ret pe_non))), ?_⟩
    refine ⟨_, rfl, d, Z.C, dx, _, _, rfl, h1, T.cl, T.n_looks, df_looks _ _, la, rfl, ⟨_, SqL.of h2⟩, ?_⟩
    refine for_list (K := K) (a := la) (xs := xs) (fun i σ' H' => ∃ u, σ' = [some (.ref d), some v, u] ∧ H' = H ∧ (ls.take i).find? (fun o => clashB l o L) = none) ⟨none, rfl, rfl, rfl⟩ (fun i σ' H' _ ⟨_, _, e, _⟩ => by rw [e]; exact SqL.of h2) ?_ ?_
    · rintro i y σ' H' hi ⟨u, rfl, rfl, hno⟩
      obtain ⟨e, hdi, hdy⟩ := dpAll_get h3 hi
      obtain ⟨o, ho, rfl⟩ := map_at hdi
      have hok := D.ok o (List.mem_of_getElem? ho)
      refine ⟨_, rfl, _, rfl, _, rfl, d, Z.C, dx, _, _, rfl, h1, T.cl, T.n_length, df_length _ _, v, y, l, o, L, rfl, hv, hdy, hw, hok.1, D.pos, D.big, hl.up (by decide), hok.2.up (by decide), _, rfl, ?_⟩
      have hsp : ls = ls.take i ++ o :: ls.drop (i + 1) := by
        have h4 := List.getElem?_eq_some_iff.mp ho
        obtain ⟨h5, h6⟩ := h4
        rw [← h6, List.getElem_cons_drop, List.take_append_drop]
      cases c : clashB l o L with
      | true =>
        refine iteT ⟨_, rfl, k o y ?_ hdy⟩
        rw [hsp, List.find?_append, hno, List.find?_cons, c]
        rfl
      | false =>
        refine iteF ⟨_, rfl, rfl, ?_⟩
        rw [take_snoc ho, List.find?_append, hno, List.find?_cons, c]
        rfl
    · rintro σ' H' ⟨u, rfl, rfl, hno⟩
      rw [List.take_of_length_le (by rw [hxl]; exact Nat.le_refl _)] at hno
      exact k0 hno
theorem alike_looks (ls : List Lk) : PySem.W.AllAlike (ls.map encL) := PySem.W.AllAlike.of fun _ _ => by simp [encL, PySem.W.alike, PySem.W.alikeAll]
theorem depth_look (l : Lk) : (encL l).depth = 1 := by simp [encL, PyData.depth, PyData.depthAll]
theorem shaped_look {l : Lk} (h : WordOk l.1) : SeqAt.shaped (encL l) = true := by
  unfold SeqAt.shaped
  rw [lay_look h, depth_look]; rfl
theorem lay_looks : ∀ ls : List Lk, (∀ l ∈ ls, WordOk l.1) → PyData.canLayAll0 (ls.map encL) = true
  | [], _ => rfl
  | l :: ls, h => by
    show PyData.canLayAll0 (encL l :: ls.map encL) = true
    rw [PyData.canLayAll0, lay_look (h l List.mem_cons_self), lay_looks ls fun q hq => h q (List.mem_cons_of_mem _ hq)]; rfl
theorem depth_looks : ∀ ls : List Lk, PyData.depthAll (ls.map encL) ≤ 1
  | [] => by simp [PyData.depthAll]
  | l :: ls => by
    show PyData.depthAll (encL l :: ls.map encL) ≤ 1
    rw [PyData.depthAll, depth_look]
    have := depth_looks ls
    omega
theorem shaped_looks {ls : List Lk} (h : ∀ l ∈ ls, WordOk l.1) : SeqAt.shaped (.list (ls.map encL)) = true := by
  unfold SeqAt.shaped
  rw [PyData.canLay0, lay_looks ls h, PyData.depth]
  have := depth_looks ls
  simp; omega
theorem eqv_look (a b : Lk) : PyData.eqv (encL a) (encL b) = decide (a = b) := by
  obtain ⟨a1, a2, a3⟩ := a
  obtain ⟨b1, b2, b3⟩ := b
  simp [encL, PyData.eqv, PyData.eqvAll]
  by_cases h1 : a1 = b1 <;> by_cases h2 : a2 = b2 <;> by_cases h3 : a3 = b3 <;> simp [h1, h2, h3]
theorem any_look (ls : List Lk) (l : Lk) : ((ls.map encL).any fun z => PyData.eqv z (encL l)) = decide (l ∈ ls) := by
  rw [List.any_map]
  rw [Bool.eq_iff_iff, List.any_eq_true, decide_eq_true_eq]
  constructor
  · rintro ⟨o, ho, e⟩
    have e' : decide (o = l) = true := by rw [← eqv_look]; exact e
    rw [← of_decide_eq_true e']; exact ho
  · intro h
    exact ⟨l, h, by show PyData.eqv (encL l) (encL l) = true; rw [eqv_look]; simp⟩
theorem heard_mem {L : Int} {ls : List Lk} {l o : Lk} : o ∈ heard L ls l ↔ o ∈ ls ∨ o = home L l := by
  unfold heard
  by_cases c : home L l ∈ ls
  · rw [if_pos c]
    exact ⟨.inl, fun h => h.elim id fun e => e ▸ c⟩
  · rw [if_neg c, (List.mergeSort_perm _ _).mem_iff, List.mem_append, List.mem_singleton]
theorem heard_len (L : Int) (ls : List Lk) (l : Lk) : (heard L ls l).length ≤ ls.length + 1 := by
  unfold heard
  split
  · omega
  · rw [(List.mergeSort_perm _ _).length_eq, List.length_append]; simp
theorem ok_Dark_hear (T : Tx K w mg Z) : FnOk P w K mg base CX0 5 Z.a_Dark_hear Z.d_Dark_hear P_Dark_hear (spHear Z K) := by
  refine T.F_Dark_hear.ok scDark_hear (fun vs H Q E h => ?_) (fun cdv A outer s H vs Q E hr h => ?_)
  · obtain ⟨d, L, ls, l, rfl, _⟩ := h
    rfl
  · obtain ⟨d, L, ls, l, rfl, D, hw, hl, hlen, hno, k⟩ := h
    obtain ⟨dx, la, xs, h1, h2, h3⟩ := D.ex
    have hfind : ls.find? (fun o => clashB (home L l) o L) = none := List.find?_eq_none.mpr fun o ho => by rw [hno o ho]; exact Bool.false_ne_true
    have hsz := home_sized D.pos D.big hl
    refine ⟨_, (pss_cons (ps_set (i := 4) scDark_hear.nd rfl (Or.inl rfl) (pe_meth (pv 0) T.cl T.m_Darkhome (ok_Darkhome T) (hr.mono (by decide)) T.bb_Darkhome .nil pass0 (pa_cons (pv 1) (pa_cons (pv 2) (pa_cons (pv 3) pa_nil)))))
      (pss_cons (ps_set (i := 5) scDark_hear.nd rfl (Or.inl rfl) (pe_meth (pv 0) T.cl T.m_Darkclashing (ok_Darkclashing T) (hr.mono (by decide)) T.bb_Darkclashing .nil pass0 (pa_cons (pv 4) pa_nil)))
      (C8.pss_cut (ps_if (pt_cmpR op_notN (pv 5) pe_non (nomark _)) (pss_one ps_never) pss_nil)
      (pss_one (ps_if (pt_cmpR (notInDK (K := K) (rooms hr)) (pv 4) (fldK (K := K) (pv 0) rfl) (by rfl)) (pss_one (ps_fld (pv 0) (pe_callB (sortDK (K := K) encL (rooms hr)) (by rfl) T.b_sorted (by decide +kernel) (pa_cons (pe_op op_cat (fldK (K := K) (pv 0) rfl) (pe_lst (pa_cons (pv 4) pa_nil))) pa_nil)) rfl)) pss_nil))))), ?_⟩
    refine ⟨_, rfl, d, dx, _, rfl, h1, df_no _ _ (by decide +kernel) (by decide +kernel), _, rfl, _, rfl, _, rfl, d, L, ls, l, rfl, D, hw, hl, fun H1 r S hr => ?_⟩
    have D1 := D.same S
    refine ⟨_, rfl, d, dx, _, rfl, S _ _ h1, df_no _ _ (by decide +kernel) (by decide +kernel), _, rfl, d, r, L, ls, home L l, rfl, D1, hr, hw, hsz, fun _ => ?_, fun o r ho => ?_⟩
    · refine ⟨fun σ' H' => σ' = [some (.ref d), some (.str l.1), some (.int l.2.1), some (.int l.2.2), some r, some .non] ∧ H' = H1, ?_, ?_⟩
      · exact ⟨_, rfl, rfl, _, rfl, iteF ⟨rfl, rfl⟩⟩
      · rintro σ2 H2 ⟨rfl, rfl⟩
        have hwords : ∀ o ∈ ls, WordOk o.1 := fun o ho => (D.ok o ho).1
        have hds := dpAll_mono S _ _ h3
        refine ⟨_, rfl, _, rfl, d, Z.C, dx, _, _, rfl, S _ _ h1, T.cl, T.n_looks, df_looks _ _, encL (home L l), ls.map encL, hr, .lst (SqL.of (S _ _ h2)) hds, shaped_look hw, shaped_looks hwords, _, rfl, ?_⟩
        rw [any_look]
        have fin : ∀ H', DarkAt Z K H' d L (heard L ls l) → (∀ la dx, H' d = some (.ins Z.C dx (df L la)) → (∃ dx', H d = some (.ins Z.C dx' (df L la))) ∨ H la = none) → (∀ b o, H2 b = some o → b ≠ d → H' b = some o) → Q .non H' := fun H' DD ff kk => k H' DD ff fun b o e hb => kk b o (S b o e) hb
        have okH : ∀ o ∈ heard L ls l, WordOk o.1 ∧ Sized 302 o := fun o ho => by
          rcases heard_mem.mp ho with h | h
          · exact D.ok o h
          · subst h; exact ⟨hw, hsz⟩
        have lenH : (heard L ls l).length ≤ 60 := Nat.le_trans (heard_len L ls l) hlen
        by_cases c : home L l ∈ ls
        · have e : (!decide (home L l ∈ ls)) = false := by simp [c]
          rw [e]
          refine iteF (fin H2 ?_ (fun la' dx' e => ?_) fun _ _ e _ => e)
          · have eh : heard L ls l = ls := if_pos c
            rw [eh]; exact D1
          · have e2 := e.symm.trans (S _ _ h1)
            rw [df_inj e2]
            exact .inl ⟨dx, h1⟩
        · have e : (!decide (home L l ∈ ls)) = true := by simp [c]
          rw [e]
          refine iteT ⟨_, rfl, d, Z.C, dx, _, _, rfl, S _ _ h1, T.cl, T.n_looks, df_looks _ _, _, rfl, (by show 1 ≤ sizeLine; decide), fun p hp => ?_⟩
          have S2 := same_upd (o := HO.lst [r]) hp
          have h2' := S2 _ _ (S _ _ h2)
          refine ⟨la, p, xs, [r], rfl, rfl, h2', upd_same, ?_, fun p2 hp2 => ?_⟩
          · have : xs.length = ls.length := by rw [dpAll_len h3, List.length_map]
            exact Nat.le_of_lt (small1000 (by simp; omega))
          have S3 := S2.trans (same_upd (o := HO.lst (xs ++ [r])) hp2)
          have hall : DpAll K (upd (upd H2 p (.lst [r])) p2 (.lst (xs ++ [r]))) (xs ++ [r]) ((ls ++ [home L l]).map encL) := by
            rw [List.map_append]
            exact dpAll_snoc (dpAll_mono S3 _ _ hds) (dp_mono S3 _ _ hr)
          refine ⟨p2, xs ++ [r], ls ++ [home L l], rfl, SqL.of upd_same, hall, alike_looks _, PySem.W.Sortable.tuples fun _ => ⟨_, _, rfl⟩, fun b _ => by rw [depth_look]; decide, fun p3 ys H3 hp3 S4 hy hys => ?_⟩
          have S5 := S3.trans S4
          have h1' := S5 _ _ (S _ _ h1)
          have hd3 : d ≠ p3 := fun e => by
            subst e
            rw [(S3 _ _ (S _ _ h1))] at hp3
            cases hp3
          refine ⟨_, rfl, d, Z.C, dx, df L la, rfl, h1', T.cl, T.n_looks, (by show 2 < 1000; decide), ?_⟩
          refine fin _ ⟨⟨dx, p3, ys, Eq.trans upd_same (congrArg (fun q => some (HO.ins Z.C dx q)) (df_put3 L la p3)), (upd_ne (Ne.symm hd3)).trans hy, ?_⟩, D.pos, D.big, okH, lenH⟩ (fun la' dx' e => ?_) fun b o e hb => (upd_ne hb).trans (S5 _ _ e)
          rotate_left
          · rw [upd_same, df_put3] at e
            rw [← df_inj e]
            exact .inr (S.free (S3.free hp3))
          have eh : heard L ls l = (ls ++ [home L l]).mergeSort (PySem.W.dataLe false encL) := if_neg c
          rw [eh]
          exact dpAll_tups (Tups.upd_ins h1') _ _ (noLs_map noL_encL _) hys
    · rw [hfind] at ho; cases ho
theorem ok_Darkbound (T : Tx K w mg Z) : FnOk P w K mg base CX0 3 Z.a_Darkbound Z.d_Darkbound P_Darkbound (spBound Z K) := by
  refine T.F_Darkbound.ok scDarkbound (fun vs H Q E h => ?_) (fun cdv A outer s H vs Q E hr h => ?_)
  · obtain ⟨d, L, ls, sd, x, rfl, _⟩ := h
    rfl
  · obtain ⟨d, L, ls, sd, x, rfl, D, hsd, hx, k0, k⟩ := h
    obtain ⟨dx, la, xs, h1, h2, h3⟩ := D.ex
    refine ⟨_, (pss_cons (ps_set (i := 3) scDarkbound.nd rfl (Or.inl rfl) (pe_call (ok_best_step T) (hr.mono (by decide)) (by rfl) T.g_best_step T.F_best_step.kp T.bb_best_step .nil pass0 (pa_cons (pe_call (ok_side_looks T) (hr.mono (by decide)) (by rfl) T.g_side_looks T.F_side_looks.kp T.bb_side_looks .nil pass0 (pa_cons (fldK (K := K) (pv 0) rfl) (pa_cons (pv 1) pa_nil))) (pa_cons (pv 1) (pa_cons (pv 2) (pa_cons (fldK (K := K) (pv 0) rfl) pa_nil))))))
      (pss_one (ps_ret (pe_ifExp (pt_cmpR op_isN (pv 3) pe_non (nomark _)) pe_non (pe_ix (ixT (K := K)) (pv 3) pe_int (fun _ _ => rfl)))))), ?_⟩
    refine ⟨_, rfl, d, Z.C, dx, _, _, rfl, h1, T.cl, T.n_looks, df_looks _ _, _, rfl, .ref la, ls, sd, rfl, .lst (SqL.of h2) h3, hsd, fun l hl => (D.ok l hl).1, Nat.le_trans D.len (by decide), fun H1 r _ S hr0 => ?_⟩
    have hr : Dp K H1 (.ref r) (.list ((sideOf sd ls).map encL)) := by
      obtain ⟨vs, q1, q2⟩ := hr0
      exact .lst (SqL.of q1) q2
    refine ⟨_, rfl, _, rfl, _, rfl, d, Z.C, dx, _, _, rfl, S _ _ h1, T.cl, T.n_length, df_length _ _, ?_⟩
    refine ⟨.ref r, sideOf sd ls, sd, x, L, rfl, hr, hsd, fun l hl => ⟨(D.ok l (List.mem_filter.mp hl).1).1, (D.ok l (List.mem_filter.mp hl).1).2.up (by decide)⟩, Nat.le_trans (List.length_filter_le _ _) (Nat.le_trans D.len (by decide)), D.pos, D.big, hx, fun e => ?_, fun H2 r2 l hl S2 hb hr2 => ?_⟩
    · exact ⟨_, rfl, rfl, _, rfl, iteT (k0 e _ S)⟩
    · have hr2' : Dp K H2 r2 (.tuple [.int (plc sd l x L), encL l]) := hr2
      cases hr2' with
      | tup s a =>
        cases a with
        | cons a1 a =>
          cases a1
          cases a with
          | cons a2 a =>
          cases a
          refine ⟨_, rfl, rfl, _, rfl, ?_⟩
          refine iteF ⟨_, rfl, _, _, _, _, rfl, rfl, s, rfl, ?_⟩
          exact k _ _ (S.trans S2) hb
theorem ok_Dark_least (T : Tx K w mg Z) : FnOk P w K mg base CX0 4 Z.a_Dark_least Z.d_Dark_least P_Dark_least (spSideOf Z K "slow") := by
  refine T.F_Dark_least.ok scDark_least (fun vs H Q E h => ?_) (fun cdv A outer s H vs Q E hr h => ?_)
  · obtain ⟨d, L, ls, x, rfl, _⟩ := h
    rfl
  · obtain ⟨d, L, ls, x, rfl, D, hx, k⟩ := h
    obtain ⟨dx, la, xs, h1, h2, h3⟩ := D.ex
    refine ⟨_, (pss_one (ps_ret (pe_meth (pv 0) T.cl T.m_Darkbound (ok_Darkbound T) (hr.mono (by decide)) T.bb_Darkbound .nil pass0 (pa_cons (pe_glob rfl T.g_SLOW T.r_SLOW) (pa_cons (pv 1) pa_nil))))), ?_⟩
    exact ⟨_, rfl, d, dx, _, rfl, h1, df_no _ _ (by decide +kernel) (by decide +kernel), _, rfl, d, L, ls, "slow", x, rfl, D, .inl rfl, hx, fun e H1 S => k _ H1 S (.inl ⟨e, rfl⟩), fun m H1 S hb => k _ H1 S (.inr ⟨m, rfl, hb⟩)⟩
theorem ok_Dark_greatest (T : Tx K w mg Z) : FnOk P w K mg base CX0 4 Z.a_Dark_greatest Z.d_Dark_greatest P_Dark_greatest (spSideOf Z K "fast") := by
  refine T.F_Dark_greatest.ok scDark_greatest (fun vs H Q E h => ?_) (fun cdv A outer s H vs Q E hr h => ?_)
  · obtain ⟨d, L, ls, x, rfl, _⟩ := h
    rfl
  · obtain ⟨d, L, ls, x, rfl, D, hx, k⟩ := h
    obtain ⟨dx, la, xs, h1, h2, h3⟩ := D.ex
    refine ⟨_, (pss_one (ps_ret (pe_meth (pv 0) T.cl T.m_Darkbound (ok_Darkbound T) (hr.mono (by decide)) T.bb_Darkbound .nil pass0 (pa_cons (pe_glob rfl T.g_FAST T.r_FAST) (pa_cons (pv 1) pa_nil))))), ?_⟩
    exact ⟨_, rfl, d, dx, _, rfl, h1, df_no _ _ (by decide +kernel) (by decide +kernel), _, rfl, d, L, ls, "fast", x, rfl, D, .inr rfl, hx, fun e H1 S => k _ H1 S (.inl ⟨e, rfl⟩), fun m H1 S hb => k _ H1 S (.inr ⟨m, rfl, hb⟩)⟩
end
end KA
namespace KA
open PySem PySem.Spec PyProof.Rows L2 DP
/-! What the looks of a side tell, in plain Lean (laws that do without the tray's Law6). -/
theorem side_low {x : Str} (h : onSide "slow" x = true) : x = "at" ∨ x = "from" := by
  unfold onSide at h
  rw [if_pos rfl, Bool.or_eq_true, decide_eq_true_eq, decide_eq_true_eq] at h
  exact h
theorem side_high {x : Str} (h : onSide "fast" x = true) : x = "at" ∨ x = "upto" := by
  unfold onSide at h
  rw [if_neg slow_ne, Bool.or_eq_true, decide_eq_true_eq, decide_eq_true_eq] at h
  exact h
theorem plc_home {L : Int} (hL : 0 < L) (sd : Str) (l : Lk) (x : Int) : plc sd (home L l) x L = plc sd l x L := by
  unfold plc home
  split
  · show l.2.2 - l.2.1 / L * L + (x - (l.2.1 - l.2.1 / L * L)) / L * L = l.2.2 + (x - l.2.1) / L * L
    have e : x - (l.2.1 - l.2.1 / L * L) = (x - l.2.1) + l.2.1 / L * L := by omega
    rw [e, Int.add_mul_ediv_right _ _ (by omega), Int.add_mul]; omega
  · show l.2.2 - l.2.1 / L * L - (l.2.1 - l.2.1 / L * L - x) / L * L = l.2.2 - (l.2.1 - x) / L * L
    have e : l.2.1 - l.2.1 / L * L - x = (l.2.1 - x) + (-(l.2.1 / L)) * L := by rw [Int.neg_mul]; omega
    rw [e, Int.add_mul_ediv_right _ _ (by omega), Int.add_mul, Int.neg_mul]; omega
theorem fold_mem {L : Int} : ∀ (ls acc : List Lk) (o : Lk), o ∈ ls.foldl (heard L) acc ↔ o ∈ acc ∨ ∃ l ∈ ls, o = home L l
  | [], acc, o => by simp
  | l :: ls, acc, o => by
    rw [List.foldl_cons, fold_mem ls, heard_mem]
    constructor
    · rintro ((h | h) | ⟨q, hq, e⟩)
      · exact .inl h
      · exact .inr ⟨l, List.mem_cons_self, h⟩
      · exact .inr ⟨q, List.mem_cons_of_mem _ hq, e⟩
    · rintro (h | ⟨q, hq, e⟩)
      · exact .inl (.inl h)
      · rcases List.mem_cons.mp hq with h | h
        · subst h; exact .inl (.inr e)
        · exact .inr ⟨q, h, e⟩
theorem fold_len {L : Int} : ∀ (ls acc : List Lk), (ls.foldl (heard L) acc).length ≤ acc.length + ls.length
  | [], acc => by simp
  | l :: ls, acc => by
    have h1 := fold_len (L := L) ls (heard L acc l)
    have h2 := heard_len L acc l
    rw [List.foldl_cons, List.length_cons]; omega
theorem mem_side {sd : Str} {ls : List Lk} {l : Lk} : l ∈ sideOf sd ls ↔ l ∈ ls ∧ onSide sd l.1 = true := by
  unfold sideOf; rw [List.mem_filter]
/-- the best of the looks is the best of them brought home -/
theorem best_home {L : Int} (hL : 0 < L) {sd : Str} {ls hs : List Lk} {x m : Int} (hh : ∀ o, o ∈ hs ↔ ∃ l ∈ ls, o = home L l) (h : IsBest sd (sideOf sd hs) x L m) : IsBest sd (sideOf sd ls) x L m := by
  obtain ⟨⟨o, ho, e⟩, h2⟩ := h
  obtain ⟨ho1, ho2⟩ := mem_side.mp ho
  obtain ⟨l, hl, rfl⟩ := (hh o).mp ho1
  rw [plc_home hL] at e
  refine ⟨⟨l, mem_side.mpr ⟨hl, ho2⟩, e⟩, fun q hq => ?_⟩
  obtain ⟨hq1, hq2⟩ := mem_side.mp hq
  have := h2 (home L q) (mem_side.mpr ⟨(hh _).mpr ⟨q, hq1, rfl⟩, hq2⟩)
  rw [plc_home hL] at this
  exact this
theorem best_one {sd : Str} {ls : List Lk} {x L m m' : Int} (h : IsBest sd ls x L m) (h' : IsBest sd ls x L m') : m = m' := by
  obtain ⟨⟨a, ha, ea⟩, h2⟩ := h
  obtain ⟨⟨b, hb, eb⟩, h2'⟩ := h'
  have q1 := h2 b hb
  have q2 := h2' a ha
  rw [eb] at q1
  rw [ea] at q2
  split at q1 <;> split at q2 <;> first | omega | (exfalso; simp_all)
theorem side_nil {L : Int} {sd : Str} {ls hs : List Lk} (hh : ∀ o, o ∈ hs ↔ ∃ l ∈ ls, o = home L l) : sideOf sd hs = [] ↔ sideOf sd ls = [] := by
  constructor
  · intro h
    refine List.eq_nil_iff_forall_not_mem.mpr fun l hl => ?_
    obtain ⟨h1, h2⟩ := mem_side.mp hl
    have : home L l ∈ sideOf sd hs := mem_side.mpr ⟨(hh _).mpr ⟨l, h1, rfl⟩, h2⟩
    rw [h] at this; cases this
  · intro h
    refine List.eq_nil_iff_forall_not_mem.mpr fun o ho => ?_
    obtain ⟨h1, h2⟩ := mem_side.mp ho
    obtain ⟨l, hl, rfl⟩ := (hh o).mp h1
    have : l ∈ sideOf sd ls := mem_side.mpr ⟨hl, h2⟩
    rw [h] at this; cases this
theorem plc_shift {L : Int} (hL : 0 < L) (sd : Str) (l : Lk) (x k : Int) : plc sd l (x + k * L) L = plc sd l x L + k * L := by
  unfold plc
  split
  · have e : x + k * L - l.2.1 = (x - l.2.1) + k * L := by omega
    rw [e, Int.add_mul_ediv_right _ _ (by omega), Int.add_mul]; omega
  · have e : l.2.1 - (x + k * L) = (l.2.1 - x) + (-k) * L := by rw [Int.neg_mul]; omega
    rw [e, Int.add_mul_ediv_right _ _ (by omega), Int.add_mul, Int.neg_mul]; omega
theorem far_home {L : Int} (hL : 0 < L) (a b : Lk) : tooFar (home L a) (home L b) L = tooFar a b L := by
  unfold tooFar
  have e1 : (home L b).2.2 = b.2.2 - b.2.1 / L * L := rfl
  have e2 : (home L b).2.1 = b.2.1 + (-(b.2.1 / L)) * L := by show b.2.1 - b.2.1 / L * L = _; rw [Int.neg_mul]; omega
  rw [e1, e2, plc_home hL, plc_shift hL, Int.neg_mul]
  congr 1
  rw [decide_eq_decide]
  constructor <;> intro h <;> omega
theorem clash_home {L : Int} (hL : 0 < L) (a b : Lk) : clashB (home L a) (home L b) L = clashB a b L := by
  unfold clashB
  rw [far_home hL, far_home hL]
/-- the best place, as a number -/
noncomputable def bst (sd : Str) (ls : List Lk) (x L : Int) : Int := by
  classical exact if h : ∃ m, IsBest sd ls x L m then h.choose else 0
theorem bst_of {sd : Str} {ls : List Lk} {x L m : Int} (h : IsBest sd ls x L m) : bst sd ls x L = m := by
  have e : ∃ m, IsBest sd ls x L m := ⟨m, h⟩
  unfold bst
  rw [dif_pos e]
  exact best_one e.choose_spec h
theorem bst_slow {ls : List Lk} (h : ls ≠ []) (x L : Int) : IsBest "slow" ls x L (bst "slow" ls x L) := by
  cases ls with
  | nil => exact absurd rfl h
  | cons l r =>
    obtain ⟨q, _, _, b⟩ := max_step x L l r
    rw [bst_of b]; exact b
theorem bst_fast {ls : List Lk} (h : ls ≠ []) (x L : Int) : IsBest "fast" ls x L (bst "fast" ls x L) := by
  cases ls with
  | nil => exact absurd rfl h
  | cons l r =>
    obtain ⟨q, _, _, b⟩ := min_step x L l r
    rw [bst_of b]; exact b
theorem plc_mono {L : Int} (hL : 0 < L) (sd : Str) (l : Lk) {x y : Int} (h : x ≤ y) : plc sd l x L ≤ plc sd l y L := by
  unfold plc
  split
  · have h1 := Int.mul_le_mul_of_nonneg_right (Int.ediv_le_ediv hL (by omega : x - l.2.1 ≤ y - l.2.1)) (Int.le_of_lt hL)
    omega
  · have h1 := Int.mul_le_mul_of_nonneg_right (Int.ediv_le_ediv hL (by omega : l.2.1 - y ≤ l.2.1 - x)) (Int.le_of_lt hL)
    omega
theorem best_mono {L : Int} (hL : 0 < L) {sd : Str} {ls : List Lk} {x y m m' : Int} (h : IsBest sd ls x L m) (h' : IsBest sd ls y L m') (hxy : x ≤ y) : m ≤ m' := by
  obtain ⟨⟨l, hl, e⟩, h2⟩ := h
  obtain ⟨⟨l', hl', e'⟩, h2'⟩ := h'
  have q1 := h2' l hl
  have q2 := h2 l' hl'
  by_cases c : sd = "slow"
  · rw [if_pos c] at q1
    have := plc_mono hL sd l hxy
    omega
  · rw [if_neg c] at q2
    have := plc_mono hL sd l' hxy
    omega
theorem best_shift {L : Int} (hL : 0 < L) {sd : Str} {ls : List Lk} {x m : Int} (k : Int) (h : IsBest sd ls x L m) : IsBest sd ls (x + k * L) L (m + k * L) := by
  obtain ⟨⟨l, hl, e⟩, h2⟩ := h
  refine ⟨⟨l, hl, by rw [plc_shift hL, e]⟩, fun q hq => ?_⟩
  have := h2 q hq
  rw [plc_shift hL]
  split at this
  · rw [if_pos (by assumption)]; omega
  · rw [if_neg (by assumption)]; omega
theorem far_le {L : Int} {a b : Lk} (h : tooFar a b L = false) (ha : onSide "slow" a.1 = true) (hb : onSide "fast" b.1 = true) : plc "slow" a b.2.1 L ≤ b.2.2 := by
  unfold tooFar at h
  rw [ha, hb, Bool.true_and, Bool.true_and, decide_eq_false_iff_not] at h
  omega
theorem far_no {L : Int} {a b : Lk} (h : onSide "slow" a.1 = true → onSide "fast" b.1 = true → plc "slow" a b.2.1 L ≤ b.2.2) : tooFar a b L = false := by
  unfold tooFar
  cases c1 : onSide "slow" a.1 with
  | false => rfl
  | true =>
    cases c2 : onSide "fast" b.1 with
    | false => rfl
    | true =>
      rw [Bool.true_and, Bool.true_and, decide_eq_false_iff_not]
      have := h c1 c2
      omega
theorem no_far_of {L : Int} {a b : Lk} (h : clashB a b L = false) : tooFar a b L = false ∧ tooFar b a L = false := by
  unfold clashB at h
  rw [Bool.or_eq_false_iff] at h
  exact h
theorem cross {L : Int} (hL : 0 < L) {a b : Lk} (h : plc "slow" a b.2.1 L ≤ b.2.2) (x : Int) : plc "slow" a x L ≤ plc "fast" b x L := by
  rw [plc_fast]
  have hj : (b.2.1 - x) / L * L ≤ b.2.1 - x := by
    have := Int.mul_ediv_add_emod (b.2.1 - x) L
    have h0 := Int.emod_nonneg (b.2.1 - x) (show L ≠ 0 by omega)
    rw [Int.mul_comm] at this
    omega
  generalize (b.2.1 - x) / L = j at hj ⊢
  have h1 := plc_mono hL "slow" a (by omega : x + j * L ≤ b.2.1)
  rw [plc_shift hL] at h1
  omega
theorem low_high {L : Int} (hL : 0 < L) {hs : List Lk} (hnc : ∀ a ∈ hs, ∀ b ∈ hs, clashB a b L = false) {x m m' : Int} (h : IsBest "slow" (sideOf "slow" hs) x L m) (h' : IsBest "fast" (sideOf "fast" hs) x L m') : m ≤ m' := by
  obtain ⟨⟨l, hl, e⟩, _⟩ := h
  obtain ⟨⟨l', hl', e'⟩, _⟩ := h'
  obtain ⟨h1, h2⟩ := mem_side.mp hl
  obtain ⟨h1', h2'⟩ := mem_side.mp hl'
  rw [← e, ← e']
  exact cross hL (far_le (no_far_of (hnc l h1 l' h1')).1 h2 h2') x
end KA
namespace KA
open PySem PySem.Spec PyProof.Rows L2 DP
/-- the length of the list at g -/
def lenAt (H : Hp) (g : Addr) : Nat := match H g with | some (.lst xs) => xs.length | _ => 0
theorem lenAt_of {H : Hp} {g : Addr} {xs : List V} (h : H g = some (.lst xs)) : lenAt H g = xs.length := by unfold lenAt; rw [h]
theorem atI_last {α : Type} {xs : List α} (h : 0 < xs.length) : atI xs (-1) = xs[xs.length - 1]? := by
  unfold atI ixN
  rw [if_neg (by decide), if_pos (by omega)]
  show xs[_]? = _
  congr 1
  omega
theorem same_made {H : Hp} {d dx : Addr} {o : HO} (hdn : H d = none) (hdx : H dx = none) : Same H (upd (upd H dx (.own d)) d o) := fun b o e => by
  rw [upd_ne (ne_of_none e hdn), upd_ne (ne_of_none e hdx)]; exact e
/-- all stands but one object -/
def Out (d : Addr) (H H' : Hp) : Prop := ∀ c o, H c = some o → c ≠ d → H' c = some o
theorem Out.tups {d C dx : Addr} {fs : List (Str × V)} {H H' : Hp} (k : Out d H H') (h : H d = some (.ins C dx fs)) : Tups H H' := fun c zs hc => by
  have hcb : c ≠ d := by
    rintro rfl
    rcases hc with e | ⟨q, e⟩ <;> rw [h] at e <;> cases e
  rcases hc with e | ⟨q, e⟩
  · exact .inl (k _ _ e hcb)
  · exact .inr ⟨q, k _ _ e hcb⟩
theorem Out.dark {Z : Ad} {K : PySem.W.Frag} {H H' : Hp} {d e C dx : Addr} {fs : List (Str × V)} {L : Int} {ls : List Lk} (k : Out d H H') (D : DarkAt Z K H e L ls) (h : H d = some (.ins C dx fs)) (hne : e ≠ d) : DarkAt Z K H' e L ls := by
  obtain ⟨dx2, la, vs, h1, h2, h3⟩ := D.ex
  exact ⟨⟨dx2, la, vs, k _ _ h1 hne, k _ _ h2 (fun q => by rw [q, h] at h2; cases h2), dpAll_tups (k.tups h) _ _ (noLs_map noL_encL ls) h3⟩, D.pos, D.big, D.ok, D.len⟩
theorem Out.sqL {K : PySem.W.Frag} {H H' : Hp} {d C dx p : Addr} {fs : List (Str × V)} {xs : List V} (k : Out d H H') (h : H d = some (.ins C dx fs)) (q : SqL K H p xs) : SqL K H' p xs := by
  rcases q with q | q
  · have hp : p ≠ d := by
      rintro rfl
      rcases q with e | ⟨z, e⟩ <;> rw [h] at e <;> cases e
    rcases q with e | ⟨z, e⟩
    · exact .inl (.inl (k _ _ e hp))
    · exact .inl (.inr ⟨z, k _ _ e hp⟩)
  · exact .inr q
end KA
namespace KA
open PySem PySem.Spec PyProof.Rows L2 DP
/-! ### hands under which nobody overtakes, and looks that they fit -/
structure Hand (L : Int) (f : Int → Int) : Prop where
  mono : ∀ x y, x ≤ y → f x ≤ f y
  turn : ∀ x k, f (x + k * L) = f x + k * L
def Fits (f : Int → Int) (l : Lk) : Prop := (onSide "slow" l.1 = true → l.2.2 ≤ f l.2.1) ∧ (onSide "fast" l.1 = true → f l.2.1 ≤ l.2.2)
theorem fit_low {L : Int} (hL : 0 < L) {f : Int → Int} (F : Hand L f) {l : Lk} (h : Fits f l) (hs : onSide "slow" l.1 = true) (x : Int) : plc "slow" l x L ≤ f x := by
  have h1 := h.1 hs
  have h2 := Int.mul_ediv_add_emod (x - l.2.1) L
  have h3 := Int.emod_nonneg (x - l.2.1) (show L ≠ 0 by omega)
  rw [Int.mul_comm] at h2
  have h4 := F.mono (l.2.1 + (x - l.2.1) / L * L) x (by omega)
  rw [F.turn] at h4
  rw [plc_slow]; omega
theorem fit_high {L : Int} (hL : 0 < L) {f : Int → Int} (F : Hand L f) {l : Lk} (h : Fits f l) (hs : onSide "fast" l.1 = true) (x : Int) : f x ≤ plc "fast" l x L := by
  have h1 := h.2 hs
  have h2 := Int.mul_ediv_add_emod (l.2.1 - x) L
  have h3 := Int.emod_nonneg (l.2.1 - x) (show L ≠ 0 by omega)
  rw [Int.mul_comm] at h2
  have h4 := F.mono x (l.2.1 + (-((l.2.1 - x) / L)) * L) (by rw [Int.neg_mul]; omega)
  rw [F.turn, Int.neg_mul] at h4
  rw [plc_fast]; omega
theorem fit_far {L : Int} (hL : 0 < L) {f : Int → Int} (F : Hand L f) {a b : Lk} (ha : Fits f a) (hb : Fits f b) : tooFar a b L = false :=
  far_no fun h1 h2 => Int.le_trans (fit_low hL F ha h1 b.2.1) (hb.2 h2)
theorem fit_clash {L : Int} (hL : 0 < L) {f : Int → Int} (F : Hand L f) {a b : Lk} (ha : Fits f a) (hb : Fits f b) : clashB a b L = false := by
  unfold clashB
  rw [fit_far hL F ha hb, fit_far hL F hb ha]; rfl
theorem fit_home {L : Int} {f : Int → Int} (F : Hand L f) {l : Lk} (h : Fits f l) : Fits f (home L l) := by
  have e : f (home L l).2.1 = f l.2.1 - l.2.1 / L * L := by
    show f (l.2.1 - l.2.1 / L * L) = _
    have := F.turn l.2.1 (-(l.2.1 / L))
    rw [Int.neg_mul] at this
    rw [Int.sub_eq_add_neg, this]; omega
  refine ⟨fun hs => ?_, fun hs => ?_⟩
  · have := h.1 hs
    rw [e]
    show l.2.2 - l.2.1 / L * L ≤ _
    omega
  · have := h.2 hs
    rw [e]
    show _ ≤ l.2.2 - l.2.1 / L * L
    omega
/-- some places, and where they are led: rising, within a turn -/
structure Rises (L : Int) (prs : List (Int × Int)) : Prop where
  ne : prs ≠ []
  ord : prs.Pairwise fun a b => a.1 < b.1 ∧ a.2 ≤ b.2
  on : ∀ s ∈ prs, 0 ≤ s.1 ∧ s.1 < L
  turn : ∃ b : Int, b.natAbs < 2 ^ 104 ∧ ∀ s ∈ prs, b ≤ s.2 ∧ s.2 ≤ b + L
theorem pw_at {α : Type} {R : α → α → Prop} {l : List α} (h : l.Pairwise R) {a b : α} (ha : a ∈ l) (hb : b ∈ l) : a = b ∨ R a b ∨ R b a := by
  obtain ⟨i, hi, rfl⟩ := List.getElem_of_mem ha
  obtain ⟨j, hj, rfl⟩ := List.getElem_of_mem hb
  rw [List.pairwise_iff_getElem] at h
  rcases Nat.lt_trichotomy i j with e | e | e
  · exact .inr (.inl (h i j hi hj e))
  · subst e; exact .inl rfl
  · exact .inr (.inr (h j i hj hi e))
def atL (s : Int × Int) : Lk := ("at", s.1, s.2)
theorem Rises.lead {L : Int} (hL : 0 < L) {prs : List (Int × Int)} (R : Rises L prs) : ∃ f, Hand L f ∧ ∀ s ∈ prs, f s.1 = s.2 := by
  have hne : prs.map atL ≠ [] := fun e => R.ne (List.map_eq_nil_iff.mp e)
  refine ⟨fun x => bst "slow" (prs.map atL) x L, ⟨fun x y h => best_mono hL (bst_slow hne x L) (bst_slow hne y L) h, fun x k => bst_of (best_shift hL k (bst_slow hne x L))⟩, fun s hs => bst_of ⟨⟨atL s, List.mem_map.mpr ⟨s, hs, rfl⟩, ?_⟩, fun l hl => ?_⟩⟩
  · rw [plc_slow]
    show s.2 + (s.1 - s.1) / L * L = s.2
    rw [Int.sub_self, Int.zero_ediv, Int.zero_mul, Int.add_zero]
  · obtain ⟨q, hq, rfl⟩ := List.mem_map.mp hl
    rw [if_pos rfl, plc_slow]
    show q.2 + (s.1 - q.1) / L * L ≤ s.2
    have h1 := R.on s hs
    have h2 := R.on q hq
    obtain ⟨b, _, hb⟩ := R.turn
    have h3 := hb s hs
    have h4 := hb q hq
    rcases pw_at R.ord hq hs with e | e | e
    · rw [e, Int.sub_self, Int.zero_ediv, Int.zero_mul]; omega
    · rw [Int.ediv_eq_zero_of_lt (by omega) (by omega), Int.zero_mul]; omega
    · have e2 : (s.1 - q.1) / L = -1 := by
        have e1 : s.1 - q.1 = (s.1 - q.1 + L) + (-1) * L := by omega
        rw [e1, Int.add_mul_ediv_right _ _ (by omega), Int.ediv_eq_zero_of_lt (by omega) (by omega)]
        rfl
      rw [e2]; omega
/-- a look that is said of such places -/
def Said (L : Int) (prs : List (Int × Int)) (l : Lk) : Prop := WordOk l.1 ∧ ∃ s ∈ prs, l.2.1 = s.1 ∧ (l.1 = "at" → l.2.2 = s.2) ∧ (l.1 = "from" → l.2.2 ≤ s.2 ∧ s.2 ≤ l.2.2 + L) ∧ (l.1 = "upto" → s.2 ≤ l.2.2 ∧ l.2.2 ≤ s.2 + L)
theorem Said.fits {L : Int} {prs : List (Int × Int)} {f : Int → Int} (hf : ∀ s ∈ prs, f s.1 = s.2) {l : Lk} (h : Said L prs l) : Fits f l := by
  obtain ⟨_, s, hs, e, h1, h2, h3⟩ := h
  rw [Fits, e, hf s hs]
  refine ⟨fun c => ?_, fun c => ?_⟩
  · rcases side_low c with e | e
    · exact Int.le_of_eq (h1 e)
    · exact (h2 e).1
  · rcases side_high c with e | e
    · exact Int.le_of_eq (h1 e).symm
    · exact (h3 e).1
theorem Said.sized {L : Int} (hL : 0 < L) (hLb : L.natAbs < 2 ^ 100) {prs : List (Int × Int)} (R : Rises L prs) {l : Lk} (h : Said L prs l) : Sized 110 l := by
  obtain ⟨w, s, hs, e, h1, h2, h3⟩ := h
  have h4 := R.on s hs
  obtain ⟨b, hb, hb2⟩ := R.turn
  have h5 := hb2 s hs
  refine ⟨?_, ?_⟩
  · rw [e]; exact lt_up (Nat.lt_of_le_of_lt (by omega : s.1.natAbs ≤ L.natAbs) hLb) (by decide)
  · have e1 : (2 : Nat) ^ 110 = 2 ^ 104 * 64 := by decide
    have e2 : (2 : Nat) ^ 100 ≤ 2 ^ 104 := by decide
    rw [e1]
    generalize (2 : Nat) ^ 104 = B at hb e2 ⊢
    generalize (2 : Nat) ^ 100 = C at hLb e2
    rcases w with w | w | w
    · rw [h1 w]; omega
    · have := h2 w; omega
    · have := h3 w; omega
/-- heard some turns on -/
theorem home_turned {L : Int} (hL : 0 < L) (w : Str) (x y k : Int) : home L (w, x + k * L, y + k * L) = home L (w, x, y) := by
  have e : (x + k * L) / L = x / L + k := by rw [Int.add_mul_ediv_right _ _ (by omega)]
  show (w, x + k * L - (x + k * L) / L * L, y + k * L - (x + k * L) / L * L) = (w, x - x / L * L, y - x / L * L)
  rw [e, Int.add_mul]
  congr 1
  congr 1 <;> omega
theorem heard_turned {L : Int} (hL : 0 < L) (ls : List Lk) (w : Str) (x y k : Int) : heard L ls (w, x + k * L, y + k * L) = heard L ls (w, x, y) := by
  unfold heard
  rw [home_turned hL]
/-- all heard -/
def heardAll (L : Int) (ls : List Lk) : List Lk := ls.foldl (heard L) []
theorem heardAll_mem {L : Int} {ls : List Lk} (o : Lk) : o ∈ heardAll L ls ↔ ∃ l ∈ ls, o = home L l := by
  unfold heardAll
  rw [fold_mem]; simp
end KA
namespace KA
open PySem PySem.Spec PyProof.Rows L2 DP
/-! ### where hands, used by turns, lead a place -/
theorem bst_is {sd : Str} (hs : SideOk sd) {ls : List Lk} (h : ls ≠ []) (x L : Int) : IsBest sd ls x L (bst sd ls x L) := by
  rcases hs with e | e <;> subst e
  · exact bst_slow h x L
  · exact bst_fast h x L
/-- one use: none where there is no look of the side -/
noncomputable def stp (sd : Str) (L : Int) (ls : List Lk) (y : Int) : Option Int := by
  classical exact if ls = [] then none else some (bst sd ls y L)
theorem stp_nil {sd : Str} {L y : Int} : stp sd L [] y = none := by
  unfold stp; rw [if_pos rfl]
theorem stp_best {sd : Str} {L y m : Int} {ls : List Lk} (h : IsBest sd ls y L m) : stp sd L ls y = some m := by
  obtain ⟨⟨l, hl, _⟩, _⟩ := id h
  have hne : ls ≠ [] := fun e => by rw [e] at hl; cases hl
  unfold stp
  rw [if_neg hne, bst_of h]
theorem stp_some {sd : Str} (hs : SideOk sd) {L y : Int} {ls : List Lk} (h : ls ≠ []) : stp sd L ls y = some (bst sd ls y L) := stp_best (bst_is hs h y L)
theorem stp_shift {sd : Str} (hs : SideOk sd) {L : Int} (hL : 0 < L) (ls : List Lk) (y k : Int) : stp sd L ls (y + k * L) = (stp sd L ls y).map (· + k * L) := by
  by_cases h : ls = []
  · subst h; rw [stp_nil, stp_nil]; rfl
  · rw [stp_best (best_shift hL k (bst_is hs h y L)), stp_best (bst_is hs h y L)]; rfl
noncomputable def it (sd : Str) (L : Int) (kn : List (List Lk)) (x : Int) : Nat → Option Int
  | 0 => some x
  | n + 1 => (it sd L kn x n).bind (stp sd L (kn.getD (n % kn.length) []))
theorem it_succ {sd : Str} {L : Int} {kn : List (List Lk)} {x : Int} (n : Nat) : it sd L kn x (n + 1) = (it sd L kn x n).bind (stp sd L (kn.getD (n % kn.length) [])) := rfl
theorem it_none {sd : Str} {L : Int} {kn : List (List Lk)} {x : Int} {n : Nat} (h : it sd L kn x n = none) : ∀ k, it sd L kn x (n + k) = none
  | 0 => h
  | k + 1 => by
    show (it sd L kn x (n + k)).bind _ = none
    rw [it_none h k]; rfl
/-- where it stands at the same hand, whole turns on, it goes on alike -/
theorem it_turn {sd : Str} (hs : SideOk sd) {L : Int} (hL : 0 < L) {kn : List (List Lk)} {x k : Int} {s t : Nat} (hm : s % kn.length = t % kn.length) (h : it sd L kn x t = (it sd L kn x s).map (· + k * L)) : ∀ n, it sd L kn x (t + n) = (it sd L kn x (s + n)).map (· + k * L)
  | 0 => h
  | n + 1 => by
    show it sd L kn x (t + n + 1) = (it sd L kn x (s + n + 1)).map _
    rw [it_succ, it_succ, it_turn hs hL hm h n]
    have e : (t + n) % kn.length = (s + n) % kn.length := by rw [Nat.add_mod, ← hm, ← Nat.add_mod]
    rw [e]
    cases it sd L kn x (s + n) with
    | none => rfl
    | some y => exact stp_shift hs hL _ y k
theorem it_laps {sd : Str} (hs : SideOk sd) {L : Int} (hL : 0 < L) {kn : List (List Lk)} {x k : Int} {s p : Nat} (hm : s % kn.length = (s + p) % kn.length) (h : it sd L kn x (s + p) = (it sd L kn x s).map (· + k * L)) (r : Nat) : ∀ t : Nat, it sd L kn x (s + r + t * p) = (it sd L kn x (s + r)).map (· + t * (k * L))
  | 0 => by
    rw [Nat.zero_mul]
    cases it sd L kn x (s + r) with
    | none => simp
    | some y => simp
  | t + 1 => by
    have h1 := it_turn hs hL hm h (r + t * p)
    have e1 : s + p + (r + t * p) = s + r + (t + 1) * p := by rw [Nat.add_mul]; omega
    have e2 : s + (r + t * p) = s + r + t * p := by omega
    rw [e1, e2] at h1
    rw [h1, it_laps hs hL hm h r t]
    cases it sd L kn x (s + r) with
    | none => rfl
    | some y =>
      show some (y + (t : Int) * (k * L) + k * L) = some (y + ((t + 1 : Nat) : Int) * (k * L))
      rw [Int.natCast_add, Int.add_mul]
      congr 1
      omega
/-- two rounds that tell the same of each place lead alike -/
theorem it_alike {sd : Str} {L : Int} {kn kn' : List (List Lk)} {x : Int} (hl : kn.length = kn'.length) (h : ∀ i y, i < kn.length → stp sd L (kn.getD i []) y = stp sd L (kn'.getD i []) y) (hm : 0 < kn.length) : ∀ n, it sd L kn x n = it sd L kn' x n
  | 0 => rfl
  | n + 1 => by
    show (it sd L kn x n).bind _ = (it sd L kn' x n).bind _
    rw [it_alike hl h hm n]
    cases it sd L kn' x n with
    | none => rfl
    | some y =>
      show stp sd L (kn.getD (n % kn.length) []) y = stp sd L (kn'.getD (n % kn'.length) []) y
      rw [← hl]
      exact h _ y (Nat.mod_lt _ hm)
/-! ### the walk -/
structure WalkOk (sd : Str) (L : Int) (kn : List (List Lk)) (x : Int) (ps : List Int) (tl : List Lk) : Prop where
  len : ps.length = tl.length + 1
  zero : ps[0]? = some x
  step : ∀ i l, tl[i]? = some l → l ∈ kn.getD (i % kn.length) [] ∧ ∃ y z, ps[i]? = some y ∧ ps[i + 1]? = some z ∧ plc sd l y L = z ∧ IsBest sd (kn.getD (i % kn.length) []) y L z
/-- how it ends -/
def EndOk (L : Int) (kn : List (List Lk)) (ps : List Int) (tl : List Lk) : Option Nat → Prop
  | none => kn.getD (tl.length % kn.length) [] = []
  | some s => s < tl.length ∧ s % kn.length = tl.length % kn.length ∧ ∃ a b, ps[s]? = some a ∧ ps[tl.length]? = some b ∧ a % L = b % L
theorem WalkOk.it {sd : Str} {L : Int} {kn : List (List Lk)} {x : Int} {ps : List Int} {tl : List Lk} (W : WalkOk sd L kn x ps tl) : ∀ (i : Nat) (y : Int), ps[i]? = some y → it sd L kn x i = some y
  | 0, y, h => by
    rw [W.zero] at h
    exact h
  | i + 1, y, h => by
    have hi := (List.getElem?_eq_some_iff.mp h).1
    have hl := W.len
    obtain ⟨_, y0, z, h1, h2, _, h4⟩ := W.step i _ (List.getElem?_eq_getElem (by omega : i < tl.length))
    rw [h2] at h
    rw [← Option.some.inj h]
    show (KA.it sd L kn x i).bind _ = _
    rw [W.it i y0 h1]
    exact stp_best h4
/-- behind any uses: the walk's own answer -/
theorem behind_in {sd : Str} {L : Int} {kn : List (List Lk)} {x : Int} {ps : List Int} {tl : List Lk} (W : WalkOk sd L kn x ps tl) {n : Nat} (h : n < ps.length) : it sd L kn x n = some (ps.getD n 0) := by
  refine W.it n _ ?_
  rw [List.getD_eq_getElem?_getD, List.getElem?_eq_getElem h]; rfl
theorem behind_none {sd : Str} {L : Int} {kn : List (List Lk)} {x : Int} {ps : List Int} {tl : List Lk} (W : WalkOk sd L kn x ps tl) (h : EndOk L kn ps tl none) {n : Nat} (hn : ps.length ≤ n) : it sd L kn x n = none := by
  have hl := W.len
  have h1 : it sd L kn x (tl.length + 1) = none := by
    show (it sd L kn x tl.length).bind _ = none
    rw [show kn.getD (tl.length % kn.length) [] = [] from h]
    cases it sd L kn x tl.length with
    | none => rfl
    | some y => exact stp_nil
  have h2 := it_none h1 (n - (tl.length + 1))
  rwa [show tl.length + 1 + (n - (tl.length + 1)) = n by omega] at h2
theorem behind_laps {sd : Str} (hs : SideOk sd) {L : Int} (hL : 0 < L) {kn : List (List Lk)} {x : Int} {ps : List Int} {tl : List Lk} (W : WalkOk sd L kn x ps tl) {s : Nat} (h : EndOk L kn ps tl (some s)) (t r : Nat) (hr : s + r < ps.length) :
    it sd L kn x (s + r + t * (tl.length - s)) = some (ps.getD (s + r) 0 + t * (ps.getD tl.length 0 - ps.getD s 0)) := by
  obtain ⟨h1, h2, a, b, ha, hb, hab⟩ := h
  have ea := W.it s a ha
  have eb := W.it _ b hb
  have e1 : s + (tl.length - s) = tl.length := by omega
  obtain ⟨k, hk⟩ : ∃ k, b = a + k * L := by
    refine ⟨b / L - a / L, ?_⟩
    have q1 := Int.mul_ediv_add_emod a L
    have q2 := Int.mul_ediv_add_emod b L
    rw [Int.mul_comm] at q1 q2
    rw [Int.sub_mul]
    omega
  have hit : it sd L kn x (s + (tl.length - s)) = (it sd L kn x s).map (· + k * L) := by
    rw [e1, ea, eb, hk]; rfl
  rw [it_laps hs hL (by rw [e1]; exact h2) hit r t, behind_in W hr]
  have ga : ps.getD s 0 = a := by rw [List.getD_eq_getElem?_getD, ha]; rfl
  have gb : ps.getD tl.length 0 = b := by rw [List.getD_eq_getElem?_getD, hb]; rfl
  rw [ga, gb, hk]
  show some (ps.getD (s + r) 0 + (t : Int) * (k * L)) = some (ps.getD (s + r) 0 + (t : Int) * (a + k * L - a))
  rw [show a + k * L - a = k * L by omega]
/-! ### sizes -/
theorem plc_near {L : Int} (hL : 0 < L) (sd : Str) (l : Lk) (x : Int) : (plc sd l x L - x).natAbs ≤ (l.2.2 - l.2.1).natAbs + L.natAbs := by
  unfold plc
  split
  · have q := Int.mul_ediv_add_emod (x - l.2.1) L
    have q0 := Int.emod_nonneg (x - l.2.1) (show L ≠ 0 by omega)
    have q1 := Int.emod_lt_of_pos (x - l.2.1) hL
    rw [Int.mul_comm] at q
    omega
  · have q := Int.mul_ediv_add_emod (l.2.1 - x) L
    have q0 := Int.emod_nonneg (l.2.1 - x) (show L ≠ 0 by omega)
    have q1 := Int.emod_lt_of_pos (l.2.1 - x) hL
    rw [Int.mul_comm] at q
    omega
/-- a hand's looks are such as a Dark keeps -/
def KnOk (kn : List (List Lk)) : Prop := ∀ ls ∈ kn, ls.length ≤ 60 ∧ ∀ l ∈ ls, WordOk l.1 ∧ Sized 310 l
theorem KnOk.get {kn : List (List Lk)} (h : KnOk kn) (i : Nat) : (kn.getD i []).length ≤ 60 ∧ ∀ l ∈ kn.getD i [], WordOk l.1 ∧ Sized 310 l := by
  by_cases hi : i < kn.length
  · have e : kn.getD i [] = kn[i] := by rw [List.getD_eq_getElem?_getD, List.getElem?_eq_getElem hi]; rfl
    rw [e]
    exact h _ (List.getElem_mem hi)
  · have e : kn.getD i [] = [] := by rw [List.getD_eq_getElem?_getD, List.getElem?_eq_none (by omega)]; rfl
    rw [e]
    exact ⟨Nat.zero_le _, fun l hl => by cases hl⟩
theorem step_near {L : Int} (hL : 0 < L) (hLb : L.natAbs < 2 ^ 200) {l : Lk} (h : Sized 310 l) (sd : Str) (x : Int) : (plc sd l x L - x).natAbs ≤ 2 ^ 312 := by
  have h1 := plc_near hL sd l x
  have h2 : (l.2.2 - l.2.1).natAbs < 2 ^ 311 := sub_lt h.2 h.1
  have h3 : L.natAbs < 2 ^ 311 := lt_up hLb (by decide)
  have h4 : (2 : Nat) ^ 312 = 2 ^ 311 + 2 ^ 311 := by rw [Nat.pow_succ, Nat.mul_two]
  omega
theorem WalkOk.small {sd : Str} {L : Int} (hL : 0 < L) (hLb : L.natAbs < 2 ^ 200) {kn : List (List Lk)} (hk : KnOk kn) {x : Int} {ps : List Int} {tl : List Lk} (W : WalkOk sd L kn x ps tl) : ∀ (i : Nat) (y : Int), ps[i]? = some y → y.natAbs ≤ x.natAbs + i * 2 ^ 312
  | 0, y, h => by
    rw [W.zero] at h
    rw [← Option.some.inj h]; omega
  | i + 1, y, h => by
    have hi := (List.getElem?_eq_some_iff.mp h).1
    have hl := W.len
    obtain ⟨hm, y0, z, h1, h2, h3, _⟩ := W.step i _ (List.getElem?_eq_getElem (by omega : i < tl.length))
    rw [h2] at h
    rw [← Option.some.inj h, ← h3]
    have q1 := W.small hL hLb hk i y0 h1
    have q2 := step_near hL hLb ((hk.get _).2 _ hm).2 sd y0
    rw [Nat.add_mul, Nat.one_mul]
    generalize (2 : Nat) ^ 312 = B at q1 q2 ⊢
    generalize i * B = c at q1 ⊢
    omega
/-! ### the marks: hand and place within the turn -/
def mark (L : Int) (m : Nat) (ps : List Int) (i : Nat) : Nat × Int := (i % m, ps.getD i 0 % L)
def marks (L : Int) (m : Nat) (ps : List Int) (n : Nat) : List (Nat × Int) := (List.range n).map (mark L m ps)
def cand (L : Int) (kn : List (List Lk)) (x : Int) : List (Nat × Int) := (0, x % L) :: ((List.range kn.length).map fun j => (kn.getD j []).map fun l => ((j + 1) % kn.length, l.2.2 % L)).flatten
theorem nodup_le {α : Type} [DecidableEq α] : ∀ {l l' : List α}, l.Nodup → (∀ a ∈ l, a ∈ l') → l.length ≤ l'.length
  | [], l', _, _ => Nat.zero_le _
  | a :: l, l', hn, hs => by
    obtain ⟨h1, h2⟩ := List.nodup_cons.mp hn
    have ha := hs a List.mem_cons_self
    have h3 : ∀ b ∈ l, b ∈ l'.erase a := fun b hb => (List.mem_erase_of_ne (fun e => h1 (by rw [← e]; exact hb))).mpr (hs b (List.mem_cons_of_mem _ hb))
    have h4 := nodup_le h2 h3
    have h5 := List.length_erase_of_mem ha
    have h6 := List.length_pos_of_mem ha
    rw [List.length_cons]; omega
theorem flat_le {β γ : Type} {f : β → List γ} {c : Nat} : ∀ {l : List β}, (∀ b ∈ l, (f b).length ≤ c) → (l.map f).flatten.length ≤ l.length * c
  | [], _ => by simp
  | b :: l, h => by
    have h1 := flat_le (l := l) fun q hq => h q (List.mem_cons_of_mem _ hq)
    have h2 := h b List.mem_cons_self
    rw [List.map_cons, List.flatten_cons, List.length_append, List.length_cons, Nat.add_mul]
    omega
theorem cand_len {L : Int} {kn : List (List Lk)} (hk : KnOk kn) (x : Int) : (cand L kn x).length ≤ kn.length * 60 + 1 := by
  unfold cand
  rw [List.length_cons]
  have h := flat_le (f := fun j => (kn.getD j []).map fun l : Lk => ((j + 1) % kn.length, l.2.2 % L)) (c := 60) (l := List.range kn.length) fun j _ => by
    rw [List.length_map]; exact (hk.get j).1
  rw [List.length_range] at h
  omega
theorem plc_mod {L : Int} (sd : Str) (l : Lk) (x : Int) : plc sd l x L % L = l.2.2 % L := by
  unfold plc
  split
  · exact Int.add_mul_emod_self_right ..
  · rw [Int.sub_eq_add_neg, ← Int.neg_mul]
    exact Int.add_mul_emod_self_right ..
theorem mark_cand {sd : Str} {L : Int} {kn : List (List Lk)} (hm : 0 < kn.length) {x : Int} {ps : List Int} {tl : List Lk} (W : WalkOk sd L kn x ps tl) : ∀ i, i < ps.length → mark L kn.length ps i ∈ cand L kn x
  | 0, _ => by
    refine List.mem_cons.mpr (.inl ?_)
    unfold mark
    rw [List.getD_eq_getElem?_getD, W.zero, Nat.zero_mod]; rfl
  | i + 1, hi => by
    refine List.mem_cons.mpr (.inr ?_)
    have hl := W.len
    obtain ⟨h0, y0, z, h1, h2, h3, _⟩ := W.step i _ (List.getElem?_eq_getElem (by omega : i < tl.length))
    refine List.mem_flatten.mpr ⟨_, List.mem_map.mpr ⟨i % kn.length, List.mem_range.mpr (Nat.mod_lt _ hm), rfl⟩, List.mem_map.mpr ⟨_, h0, ?_⟩⟩
    unfold mark
    rw [List.getD_eq_getElem?_getD, h2]
    show (_, _) = (_, z % L)
    rw [← h3, plc_mod]
    congr 1
    rw [Nat.mod_add_mod]
theorem marks_le {sd : Str} {L : Int} {kn : List (List Lk)} (hm : 0 < kn.length) {x : Int} {ps : List Int} {tl : List Lk} (W : WalkOk sd L kn x ps tl) {n : Nat} (hn : n ≤ ps.length) (hd : (marks L kn.length ps n).Nodup) : n ≤ (cand L kn x).length := by
  have h := nodup_le hd (l' := cand L kn x) fun a ha => by
    obtain ⟨i, hi, rfl⟩ := List.mem_map.mp ha
    exact mark_cand hm W i (Nat.lt_of_lt_of_le (List.mem_range.mp hi) hn)
  unfold marks at h
  rwa [List.length_map, List.length_range] at h
theorem WalkOk.new {sd : Str} {L : Int} {kn : List (List Lk)} {x : Int} : WalkOk sd L kn x [x] [] := ⟨rfl, rfl, fun i l h => by simp at h⟩
theorem WalkOk.snoc {sd : Str} {L : Int} {kn : List (List Lk)} {x y z : Int} {ps : List Int} {tl : List Lk} {l : Lk} (W : WalkOk sd L kn x ps tl) (hy : ps[tl.length]? = some y) (hl : l ∈ kn.getD (tl.length % kn.length) []) (hz : plc sd l y L = z) (hb : IsBest sd (kn.getD (tl.length % kn.length) []) y L z) : WalkOk sd L kn x (ps ++ [z]) (tl ++ [l]) := by
  have hlen := W.len
  refine ⟨by simp [hlen], by rw [List.getElem?_append_left (by omega)]; exact W.zero, fun i l' h => ?_⟩
  by_cases hi : i < tl.length
  · rw [List.getElem?_append_left hi] at h
    obtain ⟨h0, y0, z0, h1, h2, h3⟩ := W.step i l' h
    exact ⟨h0, y0, z0, by rw [List.getElem?_append_left (by omega)]; exact h1, by rw [List.getElem?_append_left (by omega)]; exact h2, h3⟩
  · have hi2 := (List.getElem?_eq_some_iff.mp h).1
    have e : i = tl.length := by
      rw [List.length_append, List.length_singleton] at hi2; omega
    subst e
    rw [List.getElem?_append_right (Nat.le_refl _), Nat.sub_self] at h
    have e2 : l = l' := Option.some.inj h
    subst e2
    refine ⟨hl, y, z, by rw [List.getElem?_append_left (by omega)]; exact hy, ?_, hz, hb⟩
    rw [List.getElem?_append_right (by omega), hlen, Nat.sub_self]; rfl
theorem marks_keep {L : Int} {m : Nat} {ps : List Int} {z : Int} {n : Nat} (h : n ≤ ps.length) : marks L m (ps ++ [z]) n = marks L m ps n := by
  unfold marks
  refine List.map_congr_left fun i hi => ?_
  have := List.mem_range.mp hi
  unfold mark
  rw [List.getD_eq_getElem?_getD, List.getD_eq_getElem?_getD, List.getElem?_append_left (by omega)]
theorem marks_succ {L : Int} {m : Nat} {ps : List Int} {n : Nat} : marks L m ps (n + 1) = marks L m ps n ++ [mark L m ps n] := by
  unfold marks
  rw [List.range_succ, List.map_append]; rfl
theorem marks_nodup {L : Int} {m : Nat} {ps : List Int} {n : Nat} (h : (marks L m ps n).Nodup) (h2 : mark L m ps n ∉ marks L m ps n) : (marks L m ps (n + 1)).Nodup := by
  rw [marks_succ]
  refine List.nodup_append.mpr ⟨h, by simp, fun a ha b hb e => ?_⟩
  rw [List.mem_singleton] at hb
  subst hb; subst e
  exact h2 ha
end KA
namespace KA
open PySem PySem.Spec PyProof.Rows L2 DP
/-- hands in the dark, of one length -/
def Darks (Z : Ad) (K : PySem.W.Frag) (H : Hp) (ds : List Addr) (L : Int) (hs : List (List Lk)) : Prop := ds.length = hs.length ∧ ∀ (i : Nat) (d : Addr) (ls : List Lk), ds[i]? = some d → hs[i]? = some ls → DarkAt Z K H d L ls
theorem Darks.same {Z : Ad} {K : PySem.W.Frag} {H H' : Hp} {ds : List Addr} {L : Int} {hs : List (List Lk)} (D : Darks Z K H ds L hs) (S : Same H H') : Darks Z K H' ds L hs := ⟨D.1, fun i d ls h1 h2 => (D.2 i d ls h1 h2).same S⟩
theorem Darks.get {Z : Ad} {K : PySem.W.Frag} {H : Hp} {ds : List Addr} {L : Int} {hs : List (List Lk)} (D : Darks Z K H ds L hs) {i : Nat} {d : Addr} (h : ds[i]? = some d) : ∃ ls, hs[i]? = some ls ∧ DarkAt Z K H d L ls := by
  have hi := (List.getElem?_eq_some_iff.mp h).1
  have hl := D.1
  exact ⟨hs[i], List.getElem?_eq_getElem (by omega), D.2 i d _ h (List.getElem?_eq_getElem (by omega))⟩
/-- a list of looks that stands as itself -/
def LkAt (K : PySem.W.Frag) (H : Hp) (p : Addr) (ls : List Lk) : Prop := ∃ vs, H p = some (.lst vs) ∧ DpAll K H vs (ls.map encL)
theorem LkAt.dp {K : PySem.W.Frag} {H : Hp} {p : Addr} {ls : List Lk} (h : LkAt K H p ls) : Dp K H (.ref p) (.list (ls.map encL)) := by
  obtain ⟨vs, h1, h2⟩ := h
  exact .lst (SqL.of h1) h2
theorem LkAt.to {K : PySem.W.Frag} {H H' : Hp} {p : Addr} {ls : List Lk} (h : LkAt K H p ls) (ht : Tups H H') (hp : ∀ o, H p = some o → H' p = some o) : LkAt K H' p ls := by
  obtain ⟨vs, h1, h2⟩ := h
  exact ⟨vs, hp _ h1, dpAll_tups ht _ _ (noLs_map noL_encL ls) h2⟩
theorem LkAt.same {K : PySem.W.Frag} {H H' : Hp} {p : Addr} {ls : List Lk} (h : LkAt K H p ls) (S : Same H H') : LkAt K H' p ls := h.to (Tups.of_same S) fun o e => S _ _ e
/-- lists of looks -/
def Lots (K : PySem.W.Frag) (H : Hp) (as : List Addr) (kn : List (List Lk)) : Prop := as.length = kn.length ∧ ∀ (i : Nat) (a : Addr) (ls : List Lk), as[i]? = some a → kn[i]? = some ls → LkAt K H a ls
theorem Lots.same {K : PySem.W.Frag} {H H' : Hp} {as : List Addr} {kn : List (List Lk)} (D : Lots K H as kn) (S : Same H H') : Lots K H' as kn := ⟨D.1, fun i a ls h1 h2 => (D.2 i a ls h1 h2).same S⟩
theorem Lots.to {K : PySem.W.Frag} {H H' : Hp} {as : List Addr} {kn : List (List Lk)} (D : Lots K H as kn) (ht : Tups H H') (hp : ∀ a ∈ as, ∀ o, H a = some o → H' a = some o) : Lots K H' as kn := ⟨D.1, fun i a ls h1 h2 => (D.2 i a ls h1 h2).to ht (hp a (List.mem_of_getElem? h1))⟩
theorem Lots.get {K : PySem.W.Frag} {H : Hp} {as : List Addr} {kn : List (List Lk)} (D : Lots K H as kn) {i : Nat} {a : Addr} (h : as[i]? = some a) : ∃ ls, kn[i]? = some ls ∧ LkAt K H a ls := by
  have hi := (List.getElem?_eq_some_iff.mp h).1
  have hl := D.1
  exact ⟨kn[i], List.getElem?_eq_getElem (by omega), D.2 i a _ h (List.getElem?_eq_getElem (by omega))⟩
theorem Lots.snoc {K : PySem.W.Frag} {H : Hp} {as : List Addr} {kn : List (List Lk)} {a : Addr} {ls : List Lk} (D : Lots K H as kn) (h : LkAt K H a ls) : Lots K H (as ++ [a]) (kn ++ [ls]) := by
  have hl := D.1
  refine ⟨by simp [hl], fun i b l h1 h2 => ?_⟩
  by_cases hi : i < as.length
  · rw [List.getElem?_append_left hi] at h1
    rw [List.getElem?_append_left (by omega)] at h2
    exact D.2 i b l h1 h2
  · have h3 := (List.getElem?_eq_some_iff.mp h1).1
    rw [List.length_append, List.length_singleton] at h3
    have e : i = as.length := by omega
    subst e
    rw [List.getElem?_append_right (Nat.le_refl _), Nat.sub_self] at h1
    rw [List.getElem?_append_right (by omega), hl, Nat.sub_self] at h2
    have e1 : a = b := Option.some.inj h1
    have e2 : ls = l := Option.some.inj h2
    subst e1 e2
    exact h
/-- a list of objects, in place of them -/
abbrev refs (as : List Addr) : List V := as.map V.ref
def spRound (Z : Ad) (K : PySem.W.Frag) : Sp := fun vs H Q _ => ∃ (hp : Addr) (ds : List Addr) (sd : Str) (L : Int) (hs : List (List Lk)), vs = [.ref hp, .str sd] ∧ SqL K H hp (refs ds) ∧ Darks Z K H ds L hs ∧ SideOk sd ∧ ds.length ≤ 1000 ∧
  ∀ H' p as, H p = none → (∀ a ∈ as, H a = none ∧ a ≠ p) → Same H H' → H' p = some (.lst (refs as)) → Lots K H' as (hs.map (sideOf sd)) → Q (.ref p) H'
theorem same_acc {H H' : Hp} {D : Addr} {o : HO} (S : Same H H') (hD : H D = none) : Same H (upd H' D o) := same_set S hD
section
variable {P : Program} {w : World} {K : PySem.W.Frag} {mg : Str → Option Value} {base : Heap} {Z : Ad}
theorem ok_round_looks (T : Tx K w mg Z) : FnOk P w K mg base CX0 2 Z.a_round_looks Z.d_round_looks P_round_looks (spRound Z K) := by
  refine T.F_round_looks.ok scround_looks (fun vs H Q E h => ?_) (fun cdv A outer s H vs Q E hr h => ?_)
  · obtain ⟨hp, ds, sd, L, hs, rfl, _⟩ := h
    rfl
  · obtain ⟨hp, ds, sd, L, hs, rfl, hh, hD, hsd, hlen, k⟩ := h
    refine ⟨_, (pss_one (ps_ret (pe_lc (own := [("hand", 2)]) (g := gName 2) (tt := tYes) rfl scround_looks.nd (pi_list (pv 0)) (blkOk_by (own := [("hand", 2)]) (N := N_round_looks) (sc := defScope sround_looks) (by decide +kernel)) (fun _ _ _ _ _ => (pg_name (i := 2) scround_looks.nd rfl (Or.inl rfl))) (fun _ _ _ _ _ => pts_nil) (fun _ _ _ _ _ => (pe_call (ok_side_looks T) (hr.mono (by decide)) (by rfl) T.g_side_looks T.F_side_looks.kp T.bb_side_looks .nil pass0 (pa_cons (pe_meth0 (pv 2) T.cl T.m_Dark_looks (ok_Dark_looks T) (hr.mono (by decide)) T.bb_Dark_looks .nil pass0) (pa_cons (pv 1) pa_nil))))))), ?_⟩
    refine ⟨_, rfl, hp, rfl, ⟨_, hh⟩, fun D hDn => ?_⟩
    refine lc_list (K := K) (a := hp) (xs := refs ds) (fun i H' => Same H H' ∧ ∃ as, H' D = some (.lst (refs as)) ∧ as.length = i ∧ (∀ a ∈ as, H a = none ∧ a ≠ D) ∧ Lots K H' as ((hs.take i).map (sideOf sd))) ⟨same_upd hDn, [], upd_same, rfl, (fun _ z => by cases z), rfl, fun i a ls z => by simp at z⟩ (fun i H' _ ⟨S, _⟩ => Same.sqL S hh) ?_ ?_
    · rintro i y H' hi ⟨S, as, hD', hal, hfr, hlots⟩
      obtain ⟨d, hd, rfl⟩ : ∃ d, ds[i]? = some d ∧ y = .ref d := by
        obtain ⟨d, h1, h2⟩ := map_at hi
        exact ⟨d, h1, h2⟩
      obtain ⟨ls, hls, DD⟩ := hD.get hd
      refine ⟨rfl, yes_ite ?_⟩
      have DD1 := DD.same S
      obtain ⟨dx, la, vs, h1, h2, h3⟩ := DD1.ex
      refine ⟨_, rfl, d, dx, _, rfl, h1, df_no _ _ (by decide +kernel) (by decide +kernel), d, L, ls, rfl, DD1, fun p xs H1 hp1 S1 hx1 hx2 => ?_⟩
      refine ⟨_, rfl, .ref p, ls, sd, rfl, .lst (SqL.of hx1) hx2, hsd, fun l hl => (DD.ok l hl).1, Nat.le_trans DD.len (by decide), fun H2 q hq S2 hlk => ?_⟩
      have S12 := S1.trans S2
      have hD2 := S12 _ _ hD'
      have hqD : q ≠ D := fun e => by rw [e, S1 _ _ hD'] at hq; cases hq
      refine ⟨refs as, hD2, ?_, same_set (S.trans S12) hDn, as ++ [q], ?_, by simp [hal], fun a ha => ?_, ?_⟩
      · have := (List.getElem?_eq_some_iff.mp hd).1
        exact small1000 (by simp; omega)
      · rw [upd_same]; simp [refs]
      · rcases List.mem_append.mp ha with h | h
        · exact hfr a h
        · rw [List.mem_singleton] at h
          subst h
          exact ⟨S.free (S1.free hq), hqD⟩
      · rw [take_snoc hls, List.map_append]
        have hn : ∀ a ∈ as ++ [q], a ≠ D := fun a ha => by
          rcases List.mem_append.mp ha with h | h
          · exact (hfr a h).2
          · rw [List.mem_singleton] at h; subst h; exact hqD
        exact ((hlots.same S12).snoc hlk).to (Tups.upd_lst hD2) fun a ha o e => (upd_ne (hn a ha)).trans e
    · rintro H' ⟨S, as, hD', hal, hfr, hlots⟩
      have hl := hD.1
      have e : hs.take (refs ds).length = hs := List.take_of_length_le (by simp; omega)
      rw [e] at hlots
      exact k H' D as hDn hfr S hD' hlots
end
end KA
namespace KA
open PySem PySem.Spec PyProof.Rows L2 DP
/-- a Walk's fields -/
def wf (pl tb : Addr) (st : V) : List (Str × V) := [("places", .ref pl), ("told_by", .ref tb), ("start", st)]
def stV : Option Nat → V
  | none => .non
  | some s => .int s
theorem wf_places (pl tb : Addr) (st : V) : (wf pl tb st).lookup ("places" : Str) = some (.ref pl) := by simp [wf, List.lookup]
theorem wf_told (pl tb : Addr) (st : V) : (wf pl tb st).lookup ("told_by" : Str) = some (.ref tb) := by
  have h : (("told_by" : Str) == ("places" : Str)) = false := by decide +kernel
  simp [wf, List.lookup, h]
theorem wf_start (pl tb : Addr) (st : V) : (wf pl tb st).lookup ("start" : Str) = some st := by
  have h : (("start" : Str) == ("places" : Str)) = false := by decide +kernel
  have h2 : (("start" : Str) == ("told_by" : Str)) = false := by decide +kernel
  simp [wf, List.lookup, h, h2]
theorem wf_no (pl tb : Addr) (st : V) {m : Str} (h1 : (m == ("places" : Str)) = false) (h2 : (m == ("told_by" : Str)) = false) (h3 : (m == ("start" : Str)) = false) : (wf pl tb st).lookup m = none := by simp [wf, List.lookup, h1, h2, h3]
theorem wf_put (pl tb : Addr) (st v : V) : putF "start" v (wf pl tb st) = wf pl tb v := by
  show (if ("places" : Str) = "start" then _ else (("places" : Str), V.ref pl) :: (if ("told_by" : Str) = "start" then _ else (("told_by" : Str), V.ref tb) :: (if ("start" : Str) = "start" then _ else _))) = _
  rw [if_neg (by decide +kernel), if_neg (by decide +kernel), if_pos rfl]; rfl
/-- what is walked: its places, the looks that told them, where it comes round to -/
structure WalkAt (Z : Ad) (K : PySem.W.Frag) (H : Hp) (w : Addr) (pl tb : Addr) (ps : List Int) (tl : List Lk) (st : Option Nat) : Prop where
  ex : ∃ dx tvs, H w = some (.ins Z.C_Walk dx (wf pl tb (stV st))) ∧ H pl = some (.lst (ps.map V.int)) ∧ H tb = some (.lst tvs) ∧ DpAll K H tvs (tl.map encL)
/-- the dict of the marks seen -/
def seenK (L : Int) (m : Nat) (ps : List Int) (n : Nat) : List (List Key × V) := (List.range n).map fun i => ([.inl (((i % m : Nat)) : Int), .inl (ps.getD i 0 % L)], V.int i)
theorem seen_some {L : Int} {m : Nat} {ps : List Int} {n : Nat} {a b : Int} {v : V} (h : valV (seenK L m ps n) [.inl a, .inl b] = some v) : ∃ i : Nat, i < n ∧ v = .int i ∧ (((i % m : Nat)) : Int) = a ∧ ps.getD i 0 % L = b := by
  unfold valV at h
  cases e : (seenK L m ps n).find? fun kv => decide (kv.1 = [.inl a, .inl b]) with
  | none => rw [e] at h; cases h
  | some p =>
    rw [e] at h
    have e1 := List.find?_some e
    obtain ⟨i, hi, rfl⟩ := List.mem_map.mp (List.mem_of_find?_eq_some e)
    have e2 := of_decide_eq_true e1
    injection e2 with e3 e4
    injection e4 with e5 _
    exact ⟨i, List.mem_range.mp hi, (Option.some.inj h).symm, Sum.inl.inj e3, Sum.inl.inj e5⟩
theorem seen_none {L : Int} {m : Nat} {ps : List Int} {n j : Nat} (h : valV (seenK L m ps n) [.inl ((j % m : Nat) : Int), .inl (ps.getD j 0 % L)] = none) : mark L m ps j ∉ marks L m ps n := by
  intro hm
  obtain ⟨i, hi, e⟩ := List.mem_map.mp hm
  unfold valV at h
  rw [Option.map_eq_none_iff] at h
  have h2 := List.find?_eq_none.mp h _ (List.mem_map.mpr ⟨i, hi, rfl⟩)
  refine h2 (decide_eq_true ?_)
  have e1 : i % m = j % m := congrArg Prod.fst e
  have e2 : ps.getD i 0 % L = ps.getD j 0 % L := congrArg Prod.snd e
  show [Sum.inl _, Sum.inl _] = _
  rw [e1, e2]
theorem putK_new {κ : Type} [DecidableEq κ] {kvs : List (κ × V)} {k : κ} {v : V} (h : valV kvs k = none) : putK kvs k v = kvs ++ [(k, v)] := by
  unfold putK
  have e : (kvs.any fun kv => decide (kv.1 = k)) = false := by rw [valV_any, h]; rfl
  rw [e, if_neg Bool.false_ne_true]
theorem seenK_len (L : Int) (m : Nat) (ps : List Int) (n : Nat) : (seenK L m ps n).length = n := by unfold seenK; simp
theorem seenK_next {L : Int} {m : Nat} {ps : List Int} {z : Int} {n : Nat} (h : n < ps.length) : seenK L m (ps ++ [z]) (n + 1) = seenK L m ps n ++ [([.inl ((n % m : Nat) : Int), .inl (ps.getD n 0 % L)], V.int n)] := by
  unfold seenK
  rw [List.range_succ, List.map_append]
  have e : ∀ i, i < ps.length → (ps ++ [z]).getD i 0 = ps.getD i 0 := fun i hi => by rw [List.getD_eq_getElem?_getD, List.getD_eq_getElem?_getD, List.getElem?_append_left hi]
  congr 1
  · refine List.map_congr_left fun i hi => ?_
    have := List.mem_range.mp hi
    rw [e i (by omega)]
  · show [([Sum.inl ((n % m : Nat) : Int), Sum.inl ((ps ++ [z]).getD n 0 % L)], V.int n)] = _
    rw [e n h]
def spFollow (Z : Ad) (K : PySem.W.Frag) : Sp := fun vs H Q _ => ∃ (w kp pl tb dx : Addr) (as : List Addr) (L x : Int) (sd : Str) (kn : List (List Lk)), vs = [.ref w, .int L, .ref kp, .str sd] ∧ H w = some (.ins Z.C_Walk dx (wf pl tb .non)) ∧ H pl = some (.lst [.int x]) ∧ H tb = some (.lst []) ∧
  H kp = some (.lst (refs as)) ∧ Lots K H as kn ∧ pl ≠ tb ∧ (∀ a ∈ kp :: as, a ≠ w ∧ a ≠ pl ∧ a ≠ tb) ∧ SideOk sd ∧ 0 < L ∧ L.natAbs < 2 ^ 200 ∧ x.natAbs < 2 ^ 390 ∧ 0 < kn.length ∧ kn.length ≤ 60 ∧ KnOk kn ∧
  ∀ H' ps tl st, WalkOk sd L kn x ps tl → EndOk L kn ps tl st → (marks L kn.length ps tl.length).Nodup → WalkAt Z K H' w pl tb ps tl st → (∀ b o, H b = some o → b ≠ w → b ≠ pl → b ≠ tb → H' b = some o) → Q .non H'
section
variable {P : Program} {w : World} {K : PySem.W.Frag} {mg : Str → Option Value} {base : Heap} {Z : Ad}
theorem ok_Walkfollow (T : Tx K w mg Z) : FnOk P w K mg base CX0 3 Z.a_Walkfollow Z.d_Walkfollow P_Walkfollow (spFollow Z K) := by
  refine T.F_Walkfollow.ok scWalkfollow (fun vs H Q E h => ?_) (fun cdv A outer s H vs Q E hr h => ?_)
  · obtain ⟨w, kp, pl, tb, dx, as, L, x, sd, kn, rfl, _⟩ := h
    rfl
  · obtain ⟨w, kp, pl, tb, dx, as, L, x, sd, kn, rfl, hw, hpl, htb, hkp, hlots, hpt, hne, hsd, hL, hLb, hx, hm0, hm1, hk, k⟩ := h
    refine ⟨_, (pss_cons (ps_set (i := 4) scWalkfollow.nd rfl (Or.inl rfl) pe_dnewT)
      (pss_one (ps_while PassesOwn.never (pt_val pe_bl) (pss_cons (ps_set (i := 5) scWalkfollow.nd rfl (Or.inl rfl) (pe_callB (lenK (K := K)) (by rfl) T.b_len (by decide +kernel) (pa_cons (fldK (K := K) (pv 0) rfl) pa_nil)))
      (pss_cons (ps_set (i := 6) scWalkfollow.nd rfl (Or.inl rfl) (pe_op op_mod (pv 5) (pe_callB (lenK (K := K)) (by rfl) T.b_len (by decide +kernel) (pa_cons (pv 2) pa_nil))))
      (pss_cons (ps_set (i := 7) scWalkfollow.nd rfl (Or.inl rfl) (pe_tup (pa_cons (pv 6) (pa_cons (pe_op op_mod (pe_ix (ixL (K := K)) (fldK (K := K) (pv 0) rfl) (pe_un un_neg pe_int) (fun _ _ => rfl)) (pv 1)) pa_nil))))
      (C8.pss_cut (ps_if (pt_cmp (pc_din (hu_of hr) (pv 7) (pv 4))) (pss_cons (ps_fld (pv 0) (pe_dget (hu_of hr) (pv 4) (pv 7) (fun _ _ => rfl)) rfl)
      (pss_one ps_retN)) pss_nil)
      (C8.pss_cut (ps_if (pt_not (pt_truth (pe_ix (ixL (K := K)) (pv 2) (pv 6) (fun _ _ => rfl)) (by intro _; rfl))) (pss_one ps_retN) pss_nil)
      (pss_cons (ps_dput (hu_of hr) (pv 4) (pv 7) (pv 5) rfl)
      (pss_cons (ps_asg (pe_call (ok_best_step T) (hr.mono (by decide)) (by rfl) T.g_best_step T.F_best_step.kp T.bb_best_step .nil pass0 (pa_cons (pe_ix (ixL (K := K)) (pv 2) (pv 6) (fun _ _ => rfl)) (pa_cons (pv 3) (pa_cons (pe_ix (ixL (K := K)) (fldK (K := K) (pv 0) rfl) (pe_un un_neg pe_int) (fun _ _ => rfl)) (pa_cons (pv 1) pa_nil))))) (tupK (K := K) (by rfl) (pgs_cons (pg_name (i := 8) scWalkfollow.nd rfl (Or.inl rfl)) (pgs_cons (pg_name (i := 9) scWalkfollow.nd rfl (Or.inl rfl)) pgs_nil))))
      (pss_cons (ps_expr (pe_bm PySem.F.plainAttrs_list PySem.F.slot_list_append PySem.F.type_list_append mt_append (fldK (K := K) (pv 0) rfl) (pa_cons (pv 8) pa_nil)))
      (pss_one (ps_expr (pe_bm PySem.F.plainAttrs_list PySem.F.slot_list_append PySem.F.type_list_append mt_append (fldK (K := K) (pv 0) rfl) (pa_cons (pv 9) pa_nil))))))))))))))), ?_⟩
    refine fun sa hsa => ?_
    have hwp : w ≠ pl := fun e => by rw [e, hpl] at hw; cases hw
    have hwt : w ≠ tb := fun e => by rw [e, htb] at hw; cases hw
    refine while_by (fun σ' H' => ∃ u5 u6 u7 u8 u9 ps tl tvs, σ' = [some (.ref w), some (.int L), some (.ref kp), some (.str sd), some (.ref sa), u5, u6, u7, u8, u9] ∧ WalkOk sd L kn x ps tl ∧ (marks L kn.length ps tl.length).Nodup ∧
      H' w = some (.ins Z.C_Walk dx (wf pl tb .non)) ∧ H' pl = some (.lst (ps.map V.int)) ∧ H' tb = some (.lst tvs) ∧ DpAll K H' tvs (tl.map encL) ∧ H' sa = some (.dT (seenK L kn.length ps tl.length)) ∧ ∀ b o, H b = some o → b ≠ w → b ≠ pl → b ≠ tb → H' b = some o)
      (fun _ H' => (cand L kn x).length - lenAt H' tb) ?_ ?_ ?_
    · refine ⟨none, none, none, none, none, [x], [], [], rfl, .new, List.nodup_nil, (upd_ne (ne_of_none hw hsa)).trans hw, (upd_ne (ne_of_none hpl hsa)).trans hpl, (upd_ne (ne_of_none htb hsa)).trans htb, .nil, upd_same, fun b o e _ _ _ => (upd_ne (ne_of_none e hsa)).trans e⟩
    · rintro σ1 H1 ⟨u5, u6, u7, u8, u9, ps, tl, tvs, rfl, W, hmk, gw, gpl, gtb, gtv, gsa, keep⟩
      have hwl := W.len
      have htl : tvs.length = tl.length := by rw [dpAll_len gtv, List.length_map]
      have hkw : kp ≠ w ∧ kp ≠ pl ∧ kp ≠ tb := hne kp List.mem_cons_self
      have gkp := keep _ _ hkp hkw.1 hkw.2.1 hkw.2.2
      have hal := hlots.1
      have hmI : (0 : Int) < ((refs as).length : Int) := by simp; omega
      obtain ⟨y, hy⟩ : ∃ y, ps[tl.length]? = some y := ⟨ps[tl.length], List.getElem?_eq_getElem (by omega)⟩
      have hlast : atI (ps.map V.int) (-1) = some (.int y) := by
        rw [atI_last (by rw [List.length_map]; omega : 0 < (ps.map V.int).length), List.length_map, show ps.length - 1 = tl.length by omega, List.getElem?_map, hy]; rfl
      refine ⟨_, rfl, iteT ?_⟩
      refine ⟨_, rfl, w, Z.C_Walk, dx, _, _, rfl, gw, T.cl_Walk, T.nWalk_told_by, wf_told _ _ _, tb, tvs, rfl, .inl (SqL.of gtb), ?_⟩
      refine ⟨_, rfl, _, rfl, kp, refs as, rfl, .inl (SqL.of gkp), _, _, rfl, rfl, hmI, ?_⟩
      refine ⟨_, rfl, _, rfl, w, Z.C_Walk, dx, _, _, rfl, gw, T.cl_Walk, T.nWalk_places, wf_places _ _ _, _, rfl, _, _, _, _, rfl, rfl, SqL.of gpl, hlast, _, rfl, _, _, rfl, rfl, hL, (by show 2 ≤ sizeLine; decide), fun q hq => ?_⟩
      have hn1 : ((tvs.length : Nat) : Int) % ((refs as).length : Int) = ((tl.length % kn.length : Nat) : Int) := by rw [htl]; simp [hal]
      have hy0 : ps.getD tl.length 0 = y := by rw [List.getD_eq_getElem?_getD, hy]; rfl
      dsimp only
      rw [hn1, htl]
      have Sq := same_upd (o := HO.tup [V.int ((tl.length % kn.length : Nat) : Int), .int (y % L)]) hq
      have fq : (upd H1 q (.tup [V.int ((tl.length % kn.length : Nat) : Int), .int (y % L)])) q = some (.tup (([.inl ((tl.length % kn.length : Nat) : Int), .inl (ps.getD tl.length 0 % L)] : List Key).map kV)) := by rw [hy0]; exact upd_same
      generalize upd H1 q (.tup [V.int ((tl.length % kn.length : Nat) : Int), .int (y % L)]) = H2 at Sq fq ⊢
      have keep2 : ∀ b o, H b = some o → b ≠ w → b ≠ pl → b ≠ tb → H2 b = some o := fun b o e n1 n2 n3 => Sq _ _ (keep b o e n1 n2 n3)
      have gtv2 := dpAll_mono Sq _ _ gtv
      have WA2 : ∀ st, H2 w = some (.ins Z.C_Walk dx (wf pl tb (stV st))) → WalkAt Z K H2 w pl tb ps tl st := fun st e => ⟨dx, tvs, e, Sq _ _ gpl, Sq _ _ gtb, gtv2⟩
      refine ⟨fun σ' H' => σ' = [some (.ref w), some (.int L), some (.ref kp), some (.str sd), some (.ref sa), some (.int tl.length), some (.int ((tl.length % kn.length : Nat) : Int)), some (.ref q), u8, u9] ∧ H' = H2 ∧ valV (seenK L kn.length ps tl.length) [.inl ((tl.length % kn.length : Nat) : Int), .inl (ps.getD tl.length 0 % L)] = none, ?_, ?_⟩
      · refine ⟨_, rfl, _, rfl, sa, _, rfl, DGet.t (Sq _ _ gsa) fq, _, rfl, ?_⟩
        cases c : valV (seenK L kn.length ps tl.length) [.inl ((tl.length % kn.length : Nat) : Int), .inl (ps.getD tl.length 0 % L)] with
        | none => exact iteF ⟨rfl, rfl, rfl⟩
        | some v =>
          refine iteT ?_
          obtain ⟨i, hi, rfl, hi1, hi2⟩ := seen_some c
          have g := DGet.t (Sq _ _ gsa) fq
          rw [c] at g
          refine ⟨_, rfl, _, rfl, sa, _, rfl, g, _, rfl, w, Z.C_Walk, dx, _, rfl, Sq _ _ gw, T.cl_Walk, T.nWalk_start, (by show 3 < 1000; decide), ?_⟩
          have hwl2 : i < ps.length := by omega
          have hup : Tups H2 (upd H2 w (.ins Z.C_Walk dx (putF "start" (.int i) (wf pl tb .non)))) := Tups.upd_ins (Sq _ _ gw)
          refine k _ ps tl (some i) W ⟨hi, by omega, ps.getD i 0, y, ?_, hy, by rw [hi2, hy0]⟩ hmk ⟨dx, tvs, ?_, (upd_ne (Ne.symm hwp)).trans (Sq _ _ gpl), (upd_ne (Ne.symm hwt)).trans (Sq _ _ gtb), dpAll_tups hup _ _ (noLs_map noL_encL tl) gtv2⟩ fun b o e n1 n2 n3 => (upd_ne n1).trans (keep2 b o e n1 n2 n3)
          · rw [List.getD_eq_getElem?_getD, List.getElem?_eq_getElem hwl2]; rfl
          · rw [upd_same, wf_put]; rfl
      · rintro σ2 H3 ⟨rfl, rfl, hnew⟩
        have hnum : tl.length % kn.length < kn.length := Nat.mod_lt _ hm0
        obtain ⟨a, ha⟩ : ∃ a, as[tl.length % kn.length]? = some a := ⟨as[tl.length % kn.length], List.getElem?_eq_getElem (by omega)⟩
        have gl2 : Lots K H3 as kn := hlots.to (fun b xs e => ?tups) fun a' ha' o e => keep2 _ _ e (hne a' (List.mem_cons_of_mem _ ha')).1 (hne a' (List.mem_cons_of_mem _ ha')).2.1 (hne a' (List.mem_cons_of_mem _ ha')).2.2
        case tups =>
          have hb1 : b ≠ w := fun q => by subst q; rcases e with e | ⟨_, e⟩ <;> rw [hw] at e <;> cases e
          have hb2 : b ≠ pl := fun q => by subst q; rcases e with e | ⟨_, e⟩ <;> rw [hpl] at e <;> cases e
          have hb3 : b ≠ tb := fun q => by subst q; rcases e with e | ⟨_, e⟩ <;> rw [htb] at e <;> cases e
          rcases e with e | ⟨z, e⟩
          · exact .inl (keep2 _ _ e hb1 hb2 hb3)
          · exact .inr ⟨z, keep2 _ _ e hb1 hb2 hb3⟩
        obtain ⟨ls, hls, hlk⟩ := gl2.get ha
        have hlsD : kn.getD (tl.length % kn.length) [] = ls := by rw [List.getD_eq_getElem?_getD, hls]; rfl
        have hix : atI (refs as) ((tl.length % kn.length : Nat) : Int) = some (.ref a) := by
          refine at_of (j := tl.length % kn.length) (by simp) ?_
          show (as.map V.ref)[_]? = _
          rw [List.getElem?_map, ha]; rfl
        obtain ⟨lvs, hl1, hl2⟩ := hlk
        have hlen2 : lvs.length = ls.length := by rw [dpAll_len hl2, List.length_map]
        have gkp3 := keep2 _ _ hkp hkw.1 hkw.2.1 hkw.2.2
        refine ⟨fun σ' H' => σ' = [some (.ref w), some (.int L), some (.ref kp), some (.str sd), some (.ref sa), some (.int tl.length), some (.int ((tl.length % kn.length : Nat) : Int)), some (.ref q), u8, u9] ∧ H' = H3 ∧ ls ≠ [], ?_, ?_⟩
        · refine ⟨_, rfl, _, rfl, _, _, _, _, rfl, rfl, SqL.of gkp3, hix, _, .inl ⟨lvs, SqL.of hl1, rfl⟩, ?_⟩
          cases hc : ls with
          | nil =>
            rw [hc] at hlen2
            have e : lvs = [] := List.eq_nil_of_length_eq_zero hlen2
            subst e
            refine iteT (k _ ps tl none W (hlsD.trans hc) hmk (WA2 none (Sq _ _ gw)) keep2)
          | cons l ls' =>
            rw [hc] at hlen2
            cases lvs with
            | nil => simp at hlen2
            | cons y' ys' => exact iteF ⟨rfl, rfl, by simp⟩
        · rintro σ3 H4 ⟨rfl, rfl, hnil⟩
          have hN : tl.length < 4000 := by
            have h1 := marks_le hm0 W (n := tl.length) (by omega) hmk
            have h2 := cand_len hk (L := L) x
            have h3 : kn.length * 60 ≤ 60 * 60 := Nat.mul_le_mul_right 60 hm1
            omega
          have hyb : y.natAbs < 2 ^ 400 := by
            have h1 := W.small hL hLb hk _ y hy
            have h2 : tl.length * 2 ^ 312 ≤ 2 ^ 390 := Nat.le_trans (Nat.mul_le_mul_right _ (Nat.le_of_lt hN)) (by decide)
            have h3 : (2 : Nat) ^ 390 + 2 ^ 390 ≤ 2 ^ 400 := by decide
            omega
          refine ⟨_, rfl, _, rfl, _, rfl, sa, _, rfl, DPut.t (Sq _ _ gsa) fq (by rw [seenK_len]; exact Nat.lt_trans hN (by decide)), ?_⟩
          rw [putK_new hnew]
          have gs4 := Sq _ _ gsa
          have nsa : ∀ b o, H4 b = some o → (∀ kvs, o ≠ .dT kvs) → b ≠ sa := fun b o e hno q => by
            subst q
            rw [e] at gs4
            exact hno _ (Option.some.inj gs4)
          have t5 : Tups H4 (upd H4 sa (.dT (seenK L kn.length ps tl.length ++ [([.inl ((tl.length % kn.length : Nat) : Int), .inl (ps.getD tl.length 0 % L)], V.int tl.length)]))) := fun b xs e => by
            have hb : b ≠ sa := by
              rintro rfl
              rcases e with e | ⟨_, e⟩ <;> rw [gs4] at e <;> cases e
            rcases e with e | ⟨z, e⟩
            · exact .inl ((upd_ne hb).trans e)
            · exact .inr ⟨z, (upd_ne hb).trans e⟩
          have up5 : ∀ b o, H4 b = some o → (∀ kvs, o ≠ .dT kvs) → (upd H4 sa (.dT (seenK L kn.length ps tl.length ++ [([.inl ((tl.length % kn.length : Nat) : Int), .inl (ps.getD tl.length 0 % L)], V.int tl.length)]))) b = some o := fun b o e hno => (upd_ne (nsa b o e hno)).trans e
          have gs5 : (upd H4 sa (.dT (seenK L kn.length ps tl.length ++ [([.inl ((tl.length % kn.length : Nat) : Int), .inl (ps.getD tl.length 0 % L)], V.int tl.length)]))) sa = some _ := upd_same
          have keep5 : ∀ b o, H b = some o → b ≠ w → b ≠ pl → b ≠ tb → (upd H4 sa (.dT (seenK L kn.length ps tl.length ++ [([.inl ((tl.length % kn.length : Nat) : Int), .inl (ps.getD tl.length 0 % L)], V.int tl.length)]))) b = some o := fun b o e n1 n2 n3 => (upd_ne (ne_of_none e hsa)).trans (keep2 b o e n1 n2 n3)
          generalize upd H4 sa (.dT (seenK L kn.length ps tl.length ++ [([.inl ((tl.length % kn.length : Nat) : Int), .inl (ps.getD tl.length 0 % L)], V.int tl.length)])) = H5 at t5 up5 gs5 keep5 ⊢
          have gw5 := up5 _ _ (Sq _ _ gw) (fun _ e => by cases e)
          have gpl5 := up5 _ _ (Sq _ _ gpl) (fun _ e => by cases e)
          have gtb5 := up5 _ _ (Sq _ _ gtb) (fun _ e => by cases e)
          have gtv5 := dpAll_tups t5 _ _ (noLs_map noL_encL tl) gtv2
          have gl5 := dpAll_tups t5 _ _ (noLs_map noL_encL ls) hl2
          have hkl := hk.get (tl.length % kn.length)
          rw [hlsD] at hkl
          refine ⟨_, rfl, _, rfl, _, _, _, _, rfl, rfl, SqL.of (keep5 _ _ hkp hkw.1 hkw.2.1 hkw.2.2), hix, _, rfl, _, rfl, w, Z.C_Walk, dx, _, _, rfl, gw5, T.cl_Walk, T.nWalk_places, wf_places _ _ _, _, rfl, _, _, _, _, rfl, rfl, SqL.of gpl5, hlast, _, rfl, ?_⟩
          refine ⟨_, ls, sd, y, L, rfl, .lst (SqL.of (up5 _ _ hl1 (fun _ e => by cases e))) gl5, hsd, fun l hl => ⟨(hkl.2 l hl).1, (hkl.2 l hl).2.up (by decide)⟩, Nat.le_trans hkl.1 (by decide), hL, hLb, hyb, fun e => absurd e hnil, fun H6 r l hl S6 hb hr => ?_⟩
          have hr' : Dp K H6 r (.tuple [.int (plc sd l y L), encL l]) := hr
          cases hr' with
          | tup sq da =>
            cases da with
            | cons a1 da =>
              cases a1
              cases da with
              | cons a2 da =>
              cases da
              have gw6 := S6 _ _ gw5
              have gpl6 := S6 _ _ gpl5
              have gtb6 := S6 _ _ gtb5
              have gs6 := S6 _ _ gs5
              have gtv6 := dpAll_mono S6 _ _ gtv5
              refine ⟨_, _, rfl, sq, rfl, _, _, rfl, _, _, rfl, rfl, ?_⟩
              refine ⟨_, rfl, w, Z.C_Walk, dx, _, _, rfl, gw6, T.cl_Walk, T.nWalk_places, wf_places _ _ _, .inl ⟨rfl, _, SqL.of gpl6⟩, _, rfl, pl, ps.map V.int, _, rfl, rfl, gpl6, ?_, ?_⟩
              · exact Nat.lt_of_le_of_lt (by rw [List.length_map]; omega : (ps.map V.int).length ≤ 4000) (by decide)
              have t7 : Tups H6 (upd H6 pl (.lst (ps.map V.int ++ [V.int (plc sd l y L)]))) := Tups.upd_lst gpl6
              have gw7 : (upd H6 pl (.lst (ps.map V.int ++ [V.int (plc sd l y L)]))) w = some (.ins Z.C_Walk dx (wf pl tb .non)) := (upd_ne hwp).trans gw6
              have gtb7 : (upd H6 pl (.lst (ps.map V.int ++ [V.int (plc sd l y L)]))) tb = some (.lst tvs) := (upd_ne (Ne.symm hpt)).trans gtb6
              have gtv7 := dpAll_tups t7 _ _ (noLs_map noL_encL tl) gtv6
              have ga7 := dp_tups t7 _ _ (noL_encL l) a2
              refine ⟨_, rfl, w, Z.C_Walk, dx, _, _, rfl, gw7, T.cl_Walk, T.nWalk_told_by, wf_told _ _ _, .inl ⟨rfl, _, SqL.of gtb7⟩, _, rfl, tb, tvs, _, rfl, rfl, gtb7, ?_, ?_⟩
              · exact Nat.lt_of_le_of_lt (by omega : tvs.length ≤ 4000) (by decide)
              have hps : sa ≠ pl := fun e => by rw [e, gpl6] at gs6; cases gs6
              have hts : sa ≠ tb := fun e => by rw [e, gtb6] at gs6; cases gs6
              have hmem : l ∈ kn.getD (tl.length % kn.length) [] := by rw [hlsD]; exact hl
              have hbest : IsBest sd (kn.getD (tl.length % kn.length) []) y L (plc sd l y L) := by rw [hlsD]; exact hb
              have W2 := W.snoc hy hmem rfl hbest
              have hnd : (marks L kn.length (ps ++ [plc sd l y L]) (tl ++ [l]).length).Nodup := by
                rw [List.length_append, List.length_singleton, marks_keep (by omega)]
                exact marks_nodup hmk (seen_none hnew)
              refine ⟨⟨_, _, _, _, _, ps ++ [plc sd l y L], tl ++ [l], _, rfl, W2, hnd, (upd_ne hwt).trans gw7, ?_, upd_same, ?_, ?_, fun b o e n1 n2 n3 => (upd_ne n3).trans ((upd_ne n2).trans (S6 _ _ (keep5 b o e n1 n2 n3)))⟩, ?_⟩
              · rw [upd_ne hpt, upd_same, List.map_append]; rfl
              · rw [List.map_append]
                exact acc_step gtb7 (noLs_map noL_encL _) rfl gtv7 ga7
              · rw [upd_ne hts, upd_ne hps, gs6, List.length_append, List.length_singleton, seenK_next (by omega)]
              · have h1 := marks_le hm0 W2 (n := (tl ++ [l]).length) (by simp; omega) hnd
                rw [lenAt_of upd_same, lenAt_of gtb]
                simp at h1 ⊢
                omega
    · rintro σ1 H1 Q1 Q2 hQ ⟨b, eb, hc⟩
      exact ⟨b, eb, hQ _ _ hc⟩
end
end KA
namespace KA
open PySem PySem.Spec PyProof.Rows L2 DP
/-- for k, x in enumerate(xs) -/
theorem for_enum {K : PySem.W.Frag} {a : Addr} {xs : List V} {g : TG} {tb : TS} {D : Ends} {σ : L2.St} {H : Hp} (Pv : Nat → L2.St → Hp → Prop) (h0 : Pv 0 σ H) (hl : ∀ i σ H, i ≤ xs.length → Pv i σ H → SqL K H a xs)
    (hs : ∀ i x T σ H, xs[i]? = some x → Pv i σ H → H T = none → g (.ref T) σ (upd H T (.tup [.int (i : Nat), x])) fun σ2 H2 => tb { D with nx := Pv (i + 1), ct := Pv (i + 1), bk := D.nx } σ2 H2) (hd : ∀ σ H, Pv xs.length σ H → D.nx σ H) :
    ∃ W : Nat → Nat → L2.St → Hp → Prop, (∃ m, W 0 m σ H) ∧ ∀ i m σ H, W i m σ H →
      ((Ite K a).stop i H ∧ D.nx σ H) ∨ ((Ite K a).go i H ∧ ∃ N : L2.St → Hp → Prop, (∀ σ' H', N σ' H' → ∃ m', m' < m ∧ W (i + 1) m' σ' H') ∧ ∀ x H', (Ite K a).yld i H x H' → g x σ H' fun σ2 H2 => tb { D with nx := N, ct := N, bk := D.nx } σ2 H2) := by
  refine ⟨fun i m σ H => m = xs.length - i ∧ i ≤ xs.length ∧ Pv i σ H, ⟨xs.length, by simp, Nat.zero_le _, h0⟩, ?_⟩
  rintro i m σ H ⟨rfl, hi, p⟩
  have q := hl i σ H hi p
  by_cases hlt : i < xs.length
  · refine .inr ⟨⟨xs, xs[i], q, by simp [hlt]⟩, Pv (i + 1), fun σ' H' p' => ⟨xs.length - (i + 1), by omega, rfl, hlt, p'⟩, fun v H' y => ?_⟩
    obtain ⟨T, x, rfl, hT, rfl, f⟩ := y
    exact hs i x T σ H (f xs q) p hT
  · have e : i = xs.length := by omega
    subst e
    exact .inl ⟨⟨xs, q, Nat.le_refl _⟩, hd σ H p⟩
/-- the sides' looks of hands are such as the walk asks -/
theorem knOk {Z : Ad} {K : PySem.W.Frag} {H : Hp} {ds : List Addr} {L : Int} {hs : List (List Lk)} (D : Darks Z K H ds L hs) (sd : Str) : KnOk (hs.map (sideOf sd)) := by
  intro ls hm
  obtain ⟨l0, hl0, rfl⟩ := List.mem_map.mp hm
  obtain ⟨i, hi, e⟩ := List.getElem_of_mem hl0
  have hl := D.1
  have DD := D.2 i ds[i] l0 (List.getElem?_eq_getElem (by omega)) (by rw [List.getElem?_eq_getElem hi, e])
  refine ⟨Nat.le_trans (List.length_filter_le _ _) DD.len, fun l hl => ?_⟩
  have h1 := DD.ok l (List.mem_filter.mp hl).1
  exact ⟨h1.1, h1.2.up (by decide)⟩
/-- an answer of a walk -/
def oV : Option Int → V
  | none => .non
  | some i => .int i
def spLen (Z : Ad) (K : PySem.W.Frag) : Sp := fun vs H Q _ => ∃ (d : Addr) (L : Int) (ls : List Lk), vs = [.ref d] ∧ DarkAt Z K H d L ls ∧ Q (.int L) H
def spWalk (Z : Ad) (K : PySem.W.Frag) : Sp := fun vs H Q _ => ∃ (w hp dx : Addr) (ds : List Addr) (sd : Str) (L x : Int) (hs : List (List Lk)), vs = [.ref w, .ref hp, .str sd, .int x] ∧ H w = some (.ins Z.C_Walk dx []) ∧ SqL K H hp (refs ds) ∧ Darks Z K H ds L hs ∧ 0 < ds.length ∧ ds.length ≤ 60 ∧ SideOk sd ∧ x.natAbs < 2 ^ 390 ∧ (∀ d ∈ ds, d ≠ w) ∧
  ∀ H' pl tb ps tl st, WalkOk sd L (hs.map (sideOf sd)) x ps tl → EndOk L (hs.map (sideOf sd)) ps tl st → (marks L (hs.map (sideOf sd)).length ps tl.length).Nodup → WalkAt Z K H' w pl tb ps tl st → Out w H H' → Q .non H'
def spPeriod (Z : Ad) (K : PySem.W.Frag) : Sp := fun vs H Q _ => ∃ (w pl tb : Addr) (ps : List Int) (tl : List Lk) (s : Nat), vs = [.ref w] ∧ WalkAt Z K H w pl tb ps tl (some s) ∧ Q (.int ((tl.length : Int) - s)) H
def spClimb (Z : Ad) (K : PySem.W.Frag) : Sp := fun vs H Q _ => ∃ (w pl tb : Addr) (ps : List Int) (tl : List Lk) (s : Nat), vs = [.ref w] ∧ WalkAt Z K H w pl tb ps tl (some s) ∧ ps.length = tl.length + 1 ∧ s < tl.length ∧ Q (.int (ps.getD tl.length 0 - ps.getD s 0)) H
def spBehind (Z : Ad) (K : PySem.W.Frag) : Sp := fun vs H Q _ => ∃ (w pl tb : Addr) (sd : Str) (L x n : Int) (kn : List (List Lk)) (ps : List Int) (tl : List Lk) (st : Option Nat), vs = [.ref w, .int n] ∧ WalkAt Z K H w pl tb ps tl st ∧ WalkOk sd L kn x ps tl ∧ EndOk L kn ps tl st ∧ SideOk sd ∧ 0 < L ∧ L.natAbs < 2 ^ 200 ∧ KnOk kn ∧ x.natAbs < 2 ^ 390 ∧ tl.length < 4000 ∧ 0 ≤ n ∧ n.natAbs < 2 ^ 300 ∧
  ∀ H', Same H H' → Q (oV (it sd L kn x n.toNat)) H'
def spCheck (Z : Ad) (K : PySem.W.Frag) : Sp := fun vs H Q _ => ∃ (hp : Addr) (ds : List Addr) (L : Int) (hs : List (List Lk)), vs = [.ref hp] ∧ SqL K H hp (refs ds) ∧ Darks Z K H ds L hs ∧ 0 < ds.length ∧ ∀ H', Same H H' → Q .non H'
def spPlaceB (Z : Ad) (K : PySem.W.Frag) : Sp := fun vs H Q _ => ∃ (hp : Addr) (ds : List Addr) (sd : Str) (L x n : Int) (hs : List (List Lk)), vs = [.ref hp, .str sd, .int x, .int n] ∧ SqL K H hp (refs ds) ∧ Darks Z K H ds L hs ∧ 0 < ds.length ∧ ds.length ≤ 60 ∧ SideOk sd ∧ x.natAbs < 2 ^ 390 ∧ 0 ≤ n ∧ n.natAbs < 2 ^ 300 ∧
  ∀ H', Same H H' → Q (oV (it sd L (hs.map (sideOf sd)) x n.toNat)) H'
def spOneB (Z : Ad) (K : PySem.W.Frag) (sd : Str) : Sp := fun vs H Q _ => ∃ (hp : Addr) (ds : List Addr) (L x n : Int) (hs : List (List Lk)), vs = [.ref hp, .int x, .int n] ∧ SqL K H hp (refs ds) ∧ Darks Z K H ds L hs ∧ 0 < ds.length ∧ ds.length ≤ 60 ∧ x.natAbs < 2 ^ 390 ∧ 0 ≤ n ∧ n.natAbs < 2 ^ 300 ∧
  ∀ H', Same H H' → Q (oV (it sd L (hs.map (sideOf sd)) x n.toNat)) H'
theorem wf_new (pl tb : Addr) : putF "start" .non (putF "told_by" (.ref tb) (putF "places" (.ref pl) [])) = wf pl tb .non := by
  have e1 : ¬ (("places" : Str) = "told_by") := by decide +kernel
  have e2 : ¬ (("places" : Str) = "start") := by decide +kernel
  have e3 : ¬ (("told_by" : Str) = "start") := by decide +kernel
  show putF "start" .non (if ("places" : Str) = "told_by" then _ else (("places" : Str), V.ref pl) :: putF "told_by" (.ref tb) []) = _
  rw [if_neg e1]
  show (if ("places" : Str) = "start" then _ else (("places" : Str), V.ref pl) :: putF "start" .non (putF "told_by" (.ref tb) [])) = _
  rw [if_neg e2]
  show (("places" : Str), V.ref pl) :: (if ("told_by" : Str) = "start" then _ else (("told_by" : Str), V.ref tb) :: putF "start" .non []) = _
  rw [if_neg e3]; rfl
section
variable {P : Program} {w : World} {K : PySem.W.Frag} {mg : Str → Option Value} {base : Heap} {Z : Ad}
theorem ok_Dark_length (T : Tx K w mg Z) : FnOk P w K mg base CX0 1 Z.a_Dark_length Z.d_Dark_length P_Dark_length (spLen Z K) := by
  refine T.F_Dark_length.ok scDark_length (fun vs H Q E h => ?_) (fun cdv A outer s H vs Q E hr h => ?_)
  · obtain ⟨d, L, ls, rfl, _⟩ := h
    rfl
  · obtain ⟨d, L, ls, rfl, D, k⟩ := h
    obtain ⟨dx, la, xs, h1, h2, h3⟩ := id D.ex
    refine ⟨_, (pss_one (ps_ret (fldK (K := K) (pv 0) rfl))), ?_⟩
    exact ⟨_, rfl, d, Z.C, dx, _, _, rfl, h1, T.cl, T.n_length, df_length _ _, k⟩
theorem ok_Walk_init (T : Tx K w mg Z) : FnOk P w K mg base CX0 4 Z.a_Walk_init Z.d_Walk_init P_Walk_init (spWalk Z K) := by
  refine T.F_Walk_init.ok scWalk_init (fun vs H Q E h => ?_) (fun cdv A outer s H vs Q E hr h => ?_)
  · obtain ⟨w, hp, dx, ds, sd, L, x, hs, rfl, _⟩ := h
    rfl
  · obtain ⟨w, hp, dx, ds, sd, L, x, hs, rfl, hw, hh, hD, hd0, hd1, hsd, hx, hdw, k⟩ := h
    refine ⟨_, (pss_cons (ps_fld (pv 0) (pe_lst (pa_cons (pv 3) pa_nil)) rfl)
      (pss_cons (ps_fld (pv 0) (pe_lst pa_nil) rfl)
      (pss_cons (ps_fld (pv 0) pe_non rfl)
      (pss_one (ps_expr (pe_meth (pv 0) T.cl_Walk T.m_Walkfollow (ok_Walkfollow T) (hr.mono (by decide)) T.bb_Walkfollow .nil pass0 (pa_cons (pe_meth0 (pe_ix (ixL (K := K)) (pv 1) pe_int (fun _ _ => rfl)) T.cl T.m_Dark_length (ok_Dark_length T) (hr.mono (by decide)) T.bb_Dark_length .nil pass0) (pa_cons (pe_call (ok_round_looks T) (hr.mono (by decide)) (by rfl) T.g_round_looks T.F_round_looks.kp T.bb_round_looks .nil pass0 (pa_cons (pv 1) (pa_cons (pv 2) pa_nil))) (pa_cons (pv 2) pa_nil))))))))), ?_⟩
    refine ⟨_, rfl, (by show 1 ≤ sizeLine; decide), fun pl hpl => ?_⟩
    have hwp : w ≠ pl := ne_of_none hw hpl
    refine ⟨_, rfl, w, Z.C_Walk, dx, [], rfl, (upd_ne hwp).trans hw, T.cl_Walk, T.nWalk_places, (by show 0 < 1000; decide), ?_⟩
    refine ⟨(by show 0 ≤ sizeLine; decide), fun tb htb => ?_⟩
    have g1 : (upd (upd H pl (.lst [V.int x])) w (.ins Z.C_Walk dx (putF "places" (.ref pl) []))) w = some (.ins Z.C_Walk dx (putF "places" (.ref pl) [])) := upd_same
    have g1p : (upd (upd H pl (.lst [V.int x])) w (.ins Z.C_Walk dx (putF "places" (.ref pl) []))) pl = some (.lst [V.int x]) := (upd_ne (Ne.symm hwp)).trans upd_same
    have k1 : ∀ b o, H b = some o → b ≠ w → (upd (upd H pl (.lst [V.int x])) w (.ins Z.C_Walk dx (putF "places" (.ref pl) []))) b = some o := fun b o e n => (upd_ne n).trans ((upd_ne (ne_of_none e hpl)).trans e)
    generalize upd (upd H pl (.lst [V.int x])) w (.ins Z.C_Walk dx (putF "places" (.ref pl) [])) = H1 at htb g1 g1p k1 ⊢
    have hwt : w ≠ tb := ne_of_none g1 htb
    have hpt : pl ≠ tb := ne_of_none g1p htb
    refine ⟨_, rfl, w, Z.C_Walk, dx, _, rfl, (upd_ne hwt).trans g1, T.cl_Walk, T.nWalk_told_by, (by show 1 < 1000; decide), ?_⟩
    have g2 : (upd (upd H1 tb (.lst [])) w (.ins Z.C_Walk dx (putF "told_by" (.ref tb) (putF "places" (.ref pl) [])))) w = some (.ins Z.C_Walk dx (putF "told_by" (.ref tb) (putF "places" (.ref pl) []))) := upd_same
    have g2p : (upd (upd H1 tb (.lst [])) w (.ins Z.C_Walk dx (putF "told_by" (.ref tb) (putF "places" (.ref pl) [])))) pl = some (.lst [V.int x]) := (upd_ne (Ne.symm hwp)).trans ((upd_ne hpt).trans g1p)
    have g2t : (upd (upd H1 tb (.lst [])) w (.ins Z.C_Walk dx (putF "told_by" (.ref tb) (putF "places" (.ref pl) [])))) tb = some (.lst []) := (upd_ne (Ne.symm hwt)).trans upd_same
    have k2 : ∀ b o, H b = some o → b ≠ w → (upd (upd H1 tb (.lst [])) w (.ins Z.C_Walk dx (putF "told_by" (.ref tb) (putF "places" (.ref pl) [])))) b = some o := fun b o e n => (upd_ne n).trans ((upd_ne (ne_of_none (k1 b o e n) htb)).trans (k1 b o e n))
    generalize upd (upd H1 tb (.lst [])) w (.ins Z.C_Walk dx (putF "told_by" (.ref tb) (putF "places" (.ref pl) []))) = H2 at g2 g2p g2t k2 ⊢
    refine ⟨_, rfl, w, Z.C_Walk, dx, _, rfl, g2, T.cl_Walk, T.nWalk_start, (by show 2 < 1000; decide), ?_⟩
    rw [wf_new]
    have g3 : (upd H2 w (.ins Z.C_Walk dx (wf pl tb .non))) w = some (.ins Z.C_Walk dx (wf pl tb .non)) := upd_same
    have g3p : (upd H2 w (.ins Z.C_Walk dx (wf pl tb .non))) pl = some (.lst [V.int x]) := (upd_ne (Ne.symm hwp)).trans g2p
    have g3t : (upd H2 w (.ins Z.C_Walk dx (wf pl tb .non))) tb = some (.lst []) := (upd_ne (Ne.symm hwt)).trans g2t
    have k3 : Out w H (upd H2 w (.ins Z.C_Walk dx (wf pl tb .non))) := fun b o e n => (upd_ne n).trans (k2 b o e n)
    generalize upd H2 w (.ins Z.C_Walk dx (wf pl tb .non)) = H3 at g3 g3p g3t k3 ⊢
    have hh3 := k3.sqL hw hh
    have hD3 : Darks Z K H3 ds L hs := ⟨hD.1, fun i d ls e1 e2 => k3.dark (hD.2 i d ls e1 e2) hw (hdw d (List.mem_of_getElem? e1))⟩
    obtain ⟨d0, hd00⟩ : ∃ d0, ds[0]? = some d0 := ⟨ds[0], List.getElem?_eq_getElem hd0⟩
    obtain ⟨ls0, hls0, D0⟩ := hD3.get hd00
    have hix : atI (refs ds) 0 = some (.ref d0) := by
      refine at_of (j := 0) rfl ?_
      show (ds.map V.ref)[0]? = _
      rw [List.getElem?_map, hd00]; rfl
    obtain ⟨dx0, la0, vs0, e1, e2, e3⟩ := id D0.ex
    refine ⟨_, rfl, w, dx, _, rfl, g3, wf_no _ _ _ (by decide +kernel) (by decide +kernel) (by decide +kernel), ?_⟩
    refine ⟨_, rfl, _, _, _, _, rfl, rfl, hh3, hix, d0, dx0, _, rfl, e1, df_no _ _ (by decide +kernel) (by decide +kernel), d0, L, ls0, rfl, D0, ?_⟩
    refine ⟨_, rfl, _, rfl, hp, ds, sd, L, hs, rfl, hh3, hD3, hsd, Nat.le_trans hd1 (by decide), fun H4 p as hp4 hfr S4 gp4 gl4 => ?_⟩
    have hn : ∀ a ∈ p :: as, a ≠ w ∧ a ≠ pl ∧ a ≠ tb := fun a ha => by
      have : H3 a = none := by
        rcases List.mem_cons.mp ha with e | e
        · subst e; exact hp4
        · exact (hfr a e).1
      exact ⟨fun e => (by rw [e, g3] at this; cases this), fun e => (by rw [e, g3p] at this; cases this), fun e => (by rw [e, g3t] at this; cases this)⟩
    have hlen := hD.1
    refine ⟨_, rfl, w, p, pl, tb, dx, as, L, x, sd, hs.map (sideOf sd), rfl, S4 _ _ g3, S4 _ _ g3p, S4 _ _ g3t, gp4, gl4, hpt, hn, hsd, D0.pos, D0.big, hx, by rw [List.length_map]; omega, by rw [List.length_map]; omega, knOk hD sd, fun H5 ps tl st W E hm WA k5 => ?_⟩
    refine k H5 pl tb ps tl st W E hm WA fun b o e n => k5 b o (S4 _ _ (k3 b o e n)) n ?_ ?_
    · intro e'; subst e'; rw [hpl] at e; cases e
    · intro e'; subst e'; exact absurd e (by
        intro e
        rw [k1 _ _ e n] at htb; cases htb)
theorem ok_Walk_period (T : Tx K w mg Z) : FnOk P w K mg base CX0 1 Z.a_Walk_period Z.d_Walk_period P_Walk_period (spPeriod Z K) := by
  refine T.F_Walk_period.ok scWalk_period (fun vs H Q E h => ?_) (fun cdv A outer s H vs Q E hr h => ?_)
  · obtain ⟨w, pl, tb, ps, tl, s, rfl, _⟩ := h
    rfl
  · obtain ⟨w, pl, tb, ps, tl, s, rfl, ⟨dx, tvs, h1, h2, h3, h4⟩, k⟩ := h
    have hl : tvs.length = tl.length := by rw [dpAll_len h4, List.length_map]
    rw [← hl] at k
    refine ⟨_, (pss_one (ps_ret (pe_op op_sub (pe_callB (lenK (K := K)) (by rfl) T.b_len (by decide +kernel) (pa_cons (fldK (K := K) (pv 0) rfl) pa_nil)) (fldK (K := K) (pv 0) rfl)))), ?_⟩
    exact ⟨_, rfl, w, Z.C_Walk, dx, _, _, rfl, h1, T.cl_Walk, T.nWalk_told_by, wf_told _ _ _, tb, tvs, rfl, .inl (SqL.of h3), _, rfl, w, Z.C_Walk, dx, _, _, rfl, h1, T.cl_Walk, T.nWalk_start, wf_start _ _ _, _, _, rfl, rfl, k⟩
theorem ok_Walk_climb (T : Tx K w mg Z) : FnOk P w K mg base CX0 1 Z.a_Walk_climb Z.d_Walk_climb P_Walk_climb (spClimb Z K) := by
  refine T.F_Walk_climb.ok scWalk_climb (fun vs H Q E h => ?_) (fun cdv A outer s H vs Q E hr h => ?_)
  · obtain ⟨w, pl, tb, ps, tl, s, rfl, _⟩ := h
    rfl
  · obtain ⟨w, pl, tb, ps, tl, s, rfl, ⟨dx, tvs, h1, h2, h3, h4⟩, hl, hs, k⟩ := h
    have q1 : atI (ps.map V.int) (-1) = some (.int (ps.getD tl.length 0)) := by
      rw [atI_last (by rw [List.length_map]; omega : 0 < (ps.map V.int).length), List.length_map, show ps.length - 1 = tl.length by omega, List.getElem?_map, List.getD_eq_getElem?_getD, List.getElem?_eq_getElem (by omega)]; rfl
    have q2 : atI (ps.map V.int) (s : Int) = some (.int (ps.getD s 0)) := by
      refine at_of (j := s) (by simp) ?_
      rw [List.getElem?_map, List.getD_eq_getElem?_getD, List.getElem?_eq_getElem (by omega)]; rfl
    refine ⟨_, (pss_one (ps_ret (pe_op op_sub (pe_ix (ixL (K := K)) (fldK (K := K) (pv 0) rfl) (pe_un un_neg pe_int) (fun _ _ => rfl)) (pe_ix (ixL (K := K)) (fldK (K := K) (pv 0) rfl) (fldK (K := K) (pv 0) rfl) (fun _ _ => rfl))))), ?_⟩
    exact ⟨_, rfl, w, Z.C_Walk, dx, _, _, rfl, h1, T.cl_Walk, T.nWalk_places, wf_places _ _ _, _, rfl, _, _, _, _, rfl, rfl, SqL.of h2, q1, _, rfl, w, Z.C_Walk, dx, _, _, rfl, h1, T.cl_Walk, T.nWalk_places, wf_places _ _ _, _, rfl, w, Z.C_Walk, dx, _, _, rfl, h1, T.cl_Walk, T.nWalk_start, wf_start _ _ _, _, _, _, _, rfl, rfl, SqL.of h2, q2, _, _, rfl, rfl, k⟩
theorem getI (ps : List Int) {i : Nat} {j : Int} (h : i < ps.length) (e : j = (i : Int)) : atI (ps.map V.int) j = some (.int (ps.getD i 0)) := by
  refine at_of (j := i) e ?_
  rw [List.getElem?_map, List.getD_eq_getElem?_getD, List.getElem?_eq_getElem h]; rfl
theorem ok_Walk_behind (T : Tx K w mg Z) : FnOk P w K mg base CX0 2 Z.a_Walk_behind Z.d_Walk_behind P_Walk_behind (spBehind Z K) := by
  refine T.F_Walk_behind.ok scWalk_behind (fun vs H Q E h => ?_) (fun cdv A outer s H vs Q E hr h => ?_)
  · obtain ⟨w, pl, tb, sd, L, x, n, kn, ps, tl, st, rfl, _⟩ := h
    rfl
  · obtain ⟨w, pl, tb, sd, L, x, n, kn, ps, tl, st, rfl, WA, W, E0', hsd, hL, hLb, hkn, hx, hN, hn0, hnb, k⟩ := h
    obtain ⟨dx, tvs, h1, h2, h3, h4⟩ := id WA.ex
    have hwl := W.len
    refine ⟨_, (C8.pss_cut (ps_if (pt_cmpR op_lt (pv 1) (pe_callB (lenK (K := K)) (by rfl) T.b_len (by decide +kernel) (pa_cons (fldK (K := K) (pv 0) rfl) pa_nil)) (nomark _)) (pss_one (ps_ret (pe_ix (ixL (K := K)) (fldK (K := K) (pv 0) rfl) (pv 1) (fun _ _ => rfl)))) pss_nil)
      (C8.pss_cut (ps_if (pt_cmpR op_isN (fldK (K := K) (pv 0) rfl) pe_non (nomark _)) (pss_one (ps_ret pe_non)) pss_nil)
      (pss_cons (ps_asg (pe_callB call_divmodW (by rfl) T.b_divmod (by decide +kernel) (pa_cons (pe_op op_sub (pv 1) (fldK (K := K) (pv 0) rfl)) (pa_cons (pe_meth0 (pv 0) T.cl_Walk T.m_Walk_period (ok_Walk_period T) (hr.mono (by decide)) T.bb_Walk_period .nil pass0) pa_nil))) (tupK (K := K) (by rfl) (pgs_cons (pg_name (i := 2) scWalk_behind.nd rfl (Or.inl rfl)) (pgs_cons (pg_name (i := 3) scWalk_behind.nd rfl (Or.inl rfl)) pgs_nil))))
      (pss_one (ps_ret (pe_op op_add (pe_ix (ixL (K := K)) (fldK (K := K) (pv 0) rfl) (pe_op op_add (fldK (K := K) (pv 0) rfl) (pv 3)) (fun _ _ => rfl)) (pe_op op_mulW (pv 2) (pe_meth0 (pv 0) T.cl_Walk T.m_Walk_climb (ok_Walk_climb T) (hr.mono (by decide)) T.bb_Walk_climb .nil pass0)))))))), ?_⟩
    refine ⟨fun σ' H' => σ' = [some (.ref w), some (.int n), none, none] ∧ H' = H ∧ ps.length ≤ n.toNat, ?_, ?_⟩
    · refine ⟨_, rfl, _, rfl, w, Z.C_Walk, dx, _, _, rfl, h1, T.cl_Walk, T.nWalk_places, wf_places _ _ _, pl, ps.map V.int, rfl, .inl (SqL.of h2), _, _, rfl, rfl, _, rfl, ite2 (fun c => ?_) (fun c => ⟨rfl, rfl, ?_⟩)⟩
      · have hlt : n.toNat < ps.length := by
          have c' := of_decide_eq_true c
          rw [List.length_map] at c'; omega
        refine ⟨_, rfl, w, Z.C_Walk, dx, _, _, rfl, h1, T.cl_Walk, T.nWalk_places, wf_places _ _ _, _, rfl, _, _, _, _, rfl, rfl, SqL.of h2, getI ps hlt (by omega), ?_⟩
        have kk := k H (fun _ _ e => e)
        rw [behind_in W hlt] at kk
        exact kk
      · have c' : ¬ (n < ((ps.map V.int).length : Int)) := fun h => c (decide_eq_true h)
        rw [List.length_map] at c'; omega
    · rintro σ1 H1 ⟨rfl, rfl, hge⟩
      cases st with
      | none =>
        refine ⟨fun _ _ => False, ?_, fun _ _ z => z.elim⟩
        refine ⟨_, rfl, w, Z.C_Walk, dx, _, _, rfl, h1, T.cl_Walk, T.nWalk_start, wf_start _ _ _, rfl, _, rfl, iteT ?_⟩
        have kk := k H1 (fun _ _ e => e)
        rw [behind_none W E0' hge] at kk
        exact kk
      | some s =>
        refine ⟨fun σ' H' => σ' = [some (.ref w), some (.int n), none, none] ∧ H' = H1, ?_, ?_⟩
        · exact ⟨_, rfl, w, Z.C_Walk, dx, _, _, rfl, h1, T.cl_Walk, T.nWalk_start, wf_start _ _ _, rfl, _, rfl, iteF ⟨rfl, rfl⟩⟩
        · rintro σ2 H2 ⟨rfl, rfl⟩
          obtain ⟨hs1, hs2, a, b, ha, hb, hab⟩ := id E0'
          have hp0 : (0 : Int) < (tl.length : Int) - s := by omega
          refine ⟨_, rfl, _, rfl, w, Z.C_Walk, dx, _, _, rfl, h1, T.cl_Walk, T.nWalk_start, wf_start _ _ _, _, _, rfl, rfl, _, rfl, w, dx, _, rfl, h1, wf_no _ _ _ (by decide +kernel) (by decide +kernel) (by decide +kernel), w, pl, tb, ps, tl, s, rfl, WA, ?_⟩
          refine ⟨_, _, rfl, ⟨hp0, PyProof.noPylong_small (by omega)⟩, fun q hq => ?_⟩
          have S2 := same_upd (o := HO.tup [V.int ((n - s) / ((tl.length : Int) - s)), .int ((n - s) % ((tl.length : Int) - s))]) hq
          have hr0 := Int.emod_nonneg (n - s) (show (tl.length : Int) - s ≠ 0 by omega)
          have hr1 := Int.emod_lt_of_pos (n - s) hp0
          have ht0 : 0 ≤ (n - s) / ((tl.length : Int) - s) := Int.ediv_nonneg (by omega) (by omega)
          have hqr := Int.mul_ediv_add_emod (n - s) ((tl.length : Int) - s)
          have htb : ((n - s) / ((tl.length : Int) - s)).natAbs < 2 ^ 302 := div_lt hp0 (sub_lt hnb (Nat.lt_of_lt_of_le (by omega : (s : Int).natAbs < 4000) (by decide)))
          have WA2 : WalkAt Z K (upd H2 q (.tup [V.int ((n - s) / ((tl.length : Int) - s)), .int ((n - s) % ((tl.length : Int) - s))])) w pl tb ps tl (some s) := ⟨dx, tvs, S2 _ _ h1, S2 _ _ h2, S2 _ _ h3, dpAll_mono S2 _ _ h4⟩
          have hsq : SqT K (upd H2 q (.tup [V.int ((n - s) / ((tl.length : Int) - s)), .int ((n - s) % ((tl.length : Int) - s))])) q [V.int ((n - s) / ((tl.length : Int) - s)), .int ((n - s) % ((tl.length : Int) - s))] := SqT.of upd_same
          generalize upd H2 q (.tup [V.int ((n - s) / ((tl.length : Int) - s)), .int ((n - s) % ((tl.length : Int) - s))]) = H3 at S2 WA2 hsq ⊢
          generalize (n - s) / ((tl.length : Int) - s) = t at ht0 htb hqr hsq ⊢
          generalize (n - s) % ((tl.length : Int) - s) = r at hr0 hr1 hqr hsq ⊢
          have hsr : s + r.toNat < ps.length := by omega
          refine ⟨_, _, rfl, hsq, rfl, _, _, rfl, _, _, rfl, rfl, ?_⟩
          refine ⟨_, rfl, w, Z.C_Walk, dx, _, _, rfl, S2 _ _ h1, T.cl_Walk, T.nWalk_places, wf_places _ _ _, _, rfl, w, Z.C_Walk, dx, _, _, rfl, S2 _ _ h1, T.cl_Walk, T.nWalk_start, wf_start _ _ _, _, rfl, _, _, rfl, rfl, _, _, _, _, rfl, rfl, SqL.of (S2 _ _ h2), getI ps hsr (by omega), ?_⟩
          have hsm : ∀ i, i < ps.length → (ps.getD i 0).natAbs < 2 ^ 391 := fun i hi => by
            have q1 := W.small hL hLb hkn i (ps.getD i 0) (by rw [List.getD_eq_getElem?_getD, List.getElem?_eq_getElem hi]; rfl)
            have q2 : i * 2 ^ 312 ≤ 2 ^ 390 := Nat.le_trans (Nat.mul_le_mul_right _ (by omega : i ≤ 4000)) (by decide)
            have q3 : (2 : Nat) ^ 391 = 2 ^ 390 + 2 ^ 390 := by rw [Nat.pow_succ, Nat.mul_two]
            omega
          have hcl : (ps.getD tl.length 0 - ps.getD s 0).natAbs < 2 ^ 392 := sub_lt (hsm _ (by omega)) (hsm _ (by omega))
          refine ⟨_, rfl, _, rfl, w, dx, _, rfl, S2 _ _ h1, wf_no _ _ _ (by decide +kernel) (by decide +kernel) (by decide +kernel), w, pl, tb, ps, tl, s, rfl, WA2, hwl, hs1, _, _, rfl, rfl, wide_mul htb hcl (by decide) (by decide) (by decide), _, _, rfl, rfl, ?_⟩
          have kk := k H3 S2
          have e : n.toNat = s + r.toNat + t.toNat * (tl.length - s) := by
            obtain ⟨tn, rfl⟩ := Int.eq_ofNat_of_zero_le ht0
            obtain ⟨rn, rfl⟩ := Int.eq_ofNat_of_zero_le hr0
            obtain ⟨pn, hpn⟩ : ∃ pn : Nat, tl.length = s + pn := ⟨tl.length - s, by omega⟩
            have e2 : (tl.length : Int) - s = (pn : Int) := by omega
            rw [e2] at hqr
            have e3 : tl.length - s = pn := by omega
            rw [e3]
            have e4 : ((pn * tn : Nat) : Int) = (pn : Int) * (tn : Int) := by simp
            have e5 : tn * pn = pn * tn := Nat.mul_comm _ _
            show n.toNat = s + rn + tn * pn
            rw [e5]
            omega
          rw [e, behind_laps hsd hL W E0' t.toNat r.toNat hsr] at kk
          have e6 : ((t.toNat : Nat) : Int) = t := by omega
          rw [e6] at kk
          exact kk
theorem ok_check_round (T : Tx K w mg Z) : FnOk P w K mg base CX0 2 Z.a_check_round Z.d_check_round P_check_round (spCheck Z K) := by
  refine T.F_check_round.ok sccheck_round (fun vs H Q E h => ?_) (fun cdv A outer s H vs Q E hr h => ?_)
  · obtain ⟨hp, ds, L, hs, rfl, _⟩ := h
    rfl
  · obtain ⟨hp, ds, L, hs, rfl, hh, hD, hd0, k⟩ := h
    obtain ⟨d0, hd00⟩ : ∃ d0, ds[0]? = some d0 := ⟨ds[0], List.getElem?_eq_getElem hd0⟩
    obtain ⟨ls0, hls0, D0⟩ := hD.get hd00
    have hix : atI (refs ds) 0 = some (.ref d0) := by
      refine at_of (j := 0) rfl ?_
      show (ds.map V.ref)[0]? = _
      rw [List.getElem?_map, hd00]; rfl
    obtain ⟨dx0, la0, vs0, e1, e2, e3⟩ := id D0.ex
    refine ⟨_, (C8.pss_cut (ps_if (pt_not (pt_truth (pv 0) (by intro _; rfl))) (pss_one ps_never) pss_nil)
      (pss_cons (ps_set (i := 1) sccheck_round.nd rfl (Or.inl rfl) (pe_meth0 (pe_ix (ixL (K := K)) (pv 0) pe_int (fun _ _ => rfl)) T.cl T.m_Dark_length (ok_Dark_length T) (hr.mono (by decide)) T.bb_Dark_length .nil pass0))
      (pss_one (ps_for PassesOwn.never rfl (pi_enum (by rfl) T.b_enumerate (pa_cons (pv 0) pa_nil)) (tupK (K := K) (by rfl) (pgs_cons (pg_name (i := 2) sccheck_round.nd rfl (Or.inl rfl)) (pgs_cons (pg_name (i := 3) sccheck_round.nd rfl (Or.inl rfl)) pgs_nil))) (pss_one (ps_if (pt_cmpR op_ne (pe_meth0 (pv 3) T.cl T.m_Dark_length (ok_Dark_length T) (hr.mono (by decide)) T.bb_Dark_length .nil pass0) (pv 1) (nomark _)) (pss_one ps_never) pss_nil)))))), ?_⟩
    refine ⟨fun σ' H' => σ' = [some (.ref hp), none, none, none] ∧ H' = H, ?_, ?_⟩
    · refine ⟨_, rfl, _, .inl ⟨refs ds, hh, rfl⟩, ?_⟩
      cases ds with
      | nil => simp at hd0
      | cons d ds => exact iteF ⟨rfl, rfl⟩
    · rintro σ1 H1 ⟨rfl, rfl⟩
      refine ⟨_, rfl, _, _, _, _, rfl, rfl, hh, hix, d0, dx0, _, rfl, e1, df_no _ _ (by decide +kernel) (by decide +kernel), d0, L, ls0, rfl, D0, ?_⟩
      refine ⟨_, rfl, hp, refs ds, rfl, hh, ?_⟩
      refine for_enum (K := K) (a := hp) (xs := refs ds) (fun i σ' H' => ∃ u2 u3, σ' = [some (.ref hp), some (.int L), u2, u3] ∧ Same H1 H') ⟨_, _, rfl, fun _ _ e => e⟩ (fun i σ' H' _ ⟨_, _, _, S⟩ => Same.sqL S hh) ?_ (fun σ' H' ⟨_, _, _, S⟩ => k H' S)
      rintro i y T' σ' H' hi ⟨u2, u3, rfl, S⟩ hT'
      obtain ⟨d, hd, rfl⟩ : ∃ d, ds[i]? = some d ∧ y = .ref d := by
        obtain ⟨d, h1, h2⟩ := map_at hi
        exact ⟨d, h1, h2⟩
      obtain ⟨ls, hls, DD⟩ := hD.get hd
      have S2 := S.trans (same_upd (o := HO.tup [V.int (i : Nat), .ref d]) hT')
      have DD2 := DD.same S2
      obtain ⟨dx, la, vs, q1, q2, q3⟩ := id DD2.ex
      refine ⟨_, _, rfl, SqT.of upd_same, rfl, _, _, rfl, _, _, rfl, rfl, ?_⟩
      refine ⟨_, rfl, d, dx, _, rfl, q1, df_no _ _ (by decide +kernel) (by decide +kernel), d, L, ls, rfl, DD2, _, rfl, rfl, _, rfl, ?_⟩
      exact ite2 (fun c => (by simp at c : False).elim) (fun _ => ⟨_, _, rfl, S2⟩)
theorem ok_place_behind (T : Tx K w mg Z) : FnOk P w K mg base CX0 6 Z.a_place_behind Z.d_place_behind P_place_behind (spPlaceB Z K) := by
  refine T.F_place_behind.ok scplace_behind (fun vs H Q E h => ?_) (fun cdv A outer s H vs Q E hr h => ?_)
  · obtain ⟨hp, ds, sd, L, x, n, hs, rfl, _⟩ := h
    rfl
  · obtain ⟨hp, ds, sd, L, x, n, hs, rfl, hh, hD, hd0, hd1, hsd, hx, hn0, hnb, k⟩ := h
    refine ⟨_, (pss_cons (ps_expr (pe_call (ok_check_round T) (hr.mono (by decide)) (by rfl) T.g_check_round T.F_check_round.kp T.bb_check_round .nil pass0 (pa_cons (pv 0) pa_nil)))
      (C8.pss_cut (ps_if (pt_cmpR op_lt (pv 3) pe_int (nomark _)) (pss_one ps_never) pss_nil)
      (pss_one (ps_ret (pe_meth (pe_make T.mk_Walk (ok_Walk_init T) (hr.mono (by decide)) (by rfl) T.g_Walk T.bb_Walk_init .nil pass0 (pa_cons (pv 0) (pa_cons (pv 1) (pa_cons (pv 2) pa_nil)))) T.cl_Walk T.m_Walk_behind (ok_Walk_behind T) (hr.mono (by decide)) T.bb_Walk_behind .nil pass0 (pa_cons (pv 3) pa_nil)))))), ?_⟩
    refine ⟨_, rfl, hp, ds, L, hs, rfl, hh, hD, hd0, fun H1 S1 => ?_⟩
    refine ⟨fun σ' H' => σ' = [some (.ref hp), some (.str sd), some (.int x), some (.int n)] ∧ H' = H1, ?_, ?_⟩
    · exact ⟨_, rfl, _, _, rfl, rfl, _, rfl, ite2 (fun c => (by have c' := of_decide_eq_true c; omega : False)) (fun _ => ⟨rfl, rfl⟩)⟩
    · rintro σ2 H2 ⟨rfl, rfl⟩
      refine ⟨_, rfl, _, rfl, _, rfl, fun w dx hwn hdx hne => ?_⟩
      have S2 := S1.trans (same_made (o := HO.ins Z.C_Walk dx []) hwn hdx)
      have hD2 := hD.same S2
      have hdw : ∀ d ∈ ds, d ≠ w := fun d hd e => by
        obtain ⟨i, hi, e1⟩ := List.getElem_of_mem hd
        have hi' : ds[i]? = some d := by rw [List.getElem?_eq_getElem hi, e1]
        obtain ⟨ls, _, DD⟩ := (hD.same S1).get hi'
        obtain ⟨dx', la, vs, q1, _⟩ := DD.ex
        rw [e, hwn] at q1; cases q1
      refine ⟨w, hp, dx, ds, sd, L, x, hs, rfl, upd_same, Same.sqL S2 hh, hD2, hd0, hd1, hsd, hx, hdw, fun H3 pl tb ps tl st W E hm WA k3 => ⟨rfl, ?_⟩⟩
      have S3 : Same H H3 := fun b o e => k3 b o (S2 b o e) (fun e' => by
        subst e'
        rw [S1 _ _ e] at hwn; cases hwn)
      obtain ⟨dxw, tvs, q1, q2, q3, q4⟩ := id WA.ex
      have hl := hD.1
      have hkn := knOk hD sd
      have hN : tl.length < 4000 := by
        have h1 := marks_le (by rw [List.length_map]; omega) W (n := tl.length) (by have := W.len; omega) hm
        have h2 := cand_len hkn (L := L) x
        have h3 : (hs.map (sideOf sd)).length * 60 ≤ 60 * 60 := Nat.mul_le_mul_right 60 (by rw [List.length_map]; omega)
        omega
      obtain ⟨d0, hd00⟩ : ∃ d0, ds[0]? = some d0 := ⟨ds[0], List.getElem?_eq_getElem hd0⟩
      obtain ⟨ls0, hls0, D0⟩ := hD.get hd00
      refine ⟨w, dxw, _, rfl, q1, wf_no _ _ _ (by decide +kernel) (by decide +kernel) (by decide +kernel), _, rfl, w, pl, tb, sd, L, x, n, hs.map (sideOf sd), ps, tl, st, rfl, WA, W, E, hsd, D0.pos, D0.big, hkn, hx, hN, hn0, hnb, fun H4 S4 => ?_⟩
      exact k H4 (S3.trans S4)
theorem ok_least_behind (T : Tx K w mg Z) : FnOk P w K mg base CX0 7 Z.a_least_behind Z.d_least_behind P_least_behind (spOneB Z K "slow") := by
  refine T.F_least_behind.ok scleast_behind (fun vs H Q E h => ?_) (fun cdv A outer s H vs Q E hr h => ?_)
  · obtain ⟨hp, ds, L, x, n, hs, rfl, _⟩ := h
    rfl
  · obtain ⟨hp, ds, L, x, n, hs, rfl, hh, hD, hd0, hd1, hx, hn0, hnb, k⟩ := h
    refine ⟨_, (pss_one (ps_ret (pe_call (ok_place_behind T) (hr.mono (by decide)) (by rfl) T.g_place_behind T.F_place_behind.kp T.bb_place_behind .nil pass0 (pa_cons (pv 0) (pa_cons (pe_glob rfl T.g_SLOW T.r_SLOW) (pa_cons (pv 1) (pa_cons (pv 2) pa_nil))))))), ?_⟩
    exact ⟨_, rfl, _, rfl, _, rfl, hp, ds, "slow", L, x, n, hs, rfl, hh, hD, hd0, hd1, .inl rfl, hx, hn0, hnb, k⟩
end
end KA
namespace KA
open PySem PySem.Spec PyProof.Rows L2 DP
/-! ### looks led back -/
def upL (l : Lk) : Lk := ("upto", l.2.2, l.2.1)
def frL (l : Lk) : Lk := ("from", l.2.2 + 1, l.2.1 + 1)
def bkA (l : Lk) : List Lk := if l.1 = "upto" then [] else [upL l]
def bkB (l : Lk) : List Lk := if l.1 = "from" then [] else [frL l]
def bk1 (l : Lk) : List Lk := bkA l ++ bkB l
def bk (ls : List Lk) : List Lk := ls.flatMap bk1
theorem mem_bk {ls : List Lk} {q : Lk} : q ∈ bk ls ↔ ∃ l ∈ ls, (l.1 ≠ "upto" ∧ q = upL l) ∨ (l.1 ≠ "from" ∧ q = frL l) := by
  unfold bk
  rw [List.mem_flatMap]
  refine exists_congr fun l => and_congr_right fun _ => ?_
  unfold bk1 bkA bkB
  rw [List.mem_append]
  by_cases c1 : l.1 = "upto" <;> by_cases c2 : l.1 = "from" <;> simp [c1, c2]
theorem bk_word {ls : List Lk} {q : Lk} (h : q ∈ bk ls) : WordOk q.1 := by
  obtain ⟨l, _, ⟨_, rfl⟩ | ⟨_, rfl⟩⟩ := mem_bk.mp h
  · exact .inr (.inr rfl)
  · exact .inr (.inl rfl)
theorem bk_sized {ls : List Lk} {q : Lk} {n : Nat} (h : q ∈ bk ls) (hs : ∀ l ∈ ls, Sized n l) : Sized (n + 1) q := by
  obtain ⟨l, hl, ⟨_, rfl⟩ | ⟨_, rfl⟩⟩ := mem_bk.mp h
  · exact ⟨lt_up (hs l hl).2 (Nat.le_succ n), lt_up (hs l hl).1 (Nat.le_succ n)⟩
  · have one : ∀ a : Int, a.natAbs < 2 ^ n → (a + 1).natAbs < 2 ^ (n + 1) := fun a ha => by
      have h1 : 1 ≤ 2 ^ n := Nat.one_le_two_pow
      rw [Nat.pow_succ]; omega
    exact ⟨one _ (hs l hl).2, one _ (hs l hl).1⟩
theorem not_upto {x : Str} (h : WordOk x) (n : x ≠ "upto") : onSide "slow" x = true := by
  rcases h with rfl | rfl | rfl
  · decide +kernel
  · decide +kernel
  · exact absurd rfl n
theorem not_from {x : Str} (h : WordOk x) (n : x ≠ "from") : onSide "fast" x = true := by
  rcases h with rfl | rfl | rfl
  · decide +kernel
  · exact absurd rfl n
  · decide +kernel
theorem slow_from {x : Str} (h : onSide "slow" x = true) : x ≠ "upto" := by
  rintro rfl
  exact absurd h (by decide +kernel)
theorem fast_upto {x : Str} (h : onSide "fast" x = true) : x ≠ "from" := by
  rintro rfl
  exact absurd h (by decide +kernel)
theorem bk_slow {ls : List Lk} {q : Lk} (h : q ∈ bk ls) (s : onSide "slow" q.1 = true) : ∃ l ∈ ls, l.1 ≠ "from" ∧ q = frL l := by
  obtain ⟨l, hl, ⟨_, rfl⟩ | ⟨n, rfl⟩⟩ := mem_bk.mp h
  · exact absurd rfl (slow_from s)
  · exact ⟨l, hl, n, rfl⟩
theorem bk_fast {ls : List Lk} {q : Lk} (h : q ∈ bk ls) (s : onSide "fast" q.1 = true) : ∃ l ∈ ls, l.1 ≠ "upto" ∧ q = upL l := by
  obtain ⟨l, hl, ⟨n, rfl⟩ | ⟨_, rfl⟩⟩ := mem_bk.mp h
  · exact ⟨l, hl, n, rfl⟩
  · exact absurd rfl (fast_upto s)
theorem div_le {a L : Int} (hL : 0 < L) : a / L * L ≤ a := by
  have h1 := Int.mul_ediv_add_emod a L
  have h2 := Int.emod_nonneg a (show L ≠ 0 by omega)
  rw [Int.mul_comm] at h1
  omega
theorem le_div {a k L : Int} (hL : 0 < L) (h : k * L ≤ a) : k * L ≤ a / L * L := Int.mul_le_mul_of_nonneg_right ((Int.le_ediv_iff_mul_le hL).mpr h) (Int.le_of_lt hL)
theorem bk_far {L : Int} (hL : 0 < L) {ls : List Lk} (hw : ∀ l ∈ ls, WordOk l.1) (nc : ∀ a ∈ ls, ∀ b ∈ ls, clashB a b L = false) {p q : Lk} (hp : p ∈ bk ls) (hq : q ∈ bk ls) : tooFar p q L = false := by
  cases c : tooFar p q L with
  | false => rfl
  | true =>
    exfalso
    unfold tooFar at c
    rw [Bool.and_eq_true, Bool.and_eq_true, decide_eq_true_eq] at c
    obtain ⟨⟨c1, c2⟩, c3⟩ := c
    obtain ⟨b, hb, nb, rfl⟩ := bk_slow hp c1
    obtain ⟨a, ha, na, rfl⟩ := bk_fast hq c2
    rw [plc_slow] at c3
    have c3' : a.2.1 < b.2.1 + 1 + (a.2.2 - (b.2.2 + 1)) / L * L := c3
    have h1 := div_le (a := a.2.2 - (b.2.2 + 1)) hL
    generalize (a.2.2 - (b.2.2 + 1)) / L = k at c3' h1
    have h2 : (-k) * L ≤ b.2.1 - a.2.1 := by rw [Int.neg_mul]; omega
    have h3 := le_div hL h2
    rw [Int.neg_mul] at h3
    have h4 := nc a ha b hb
    unfold clashB tooFar at h4
    rw [not_upto (hw a ha) na, not_from (hw b hb) nb, Bool.true_and, Bool.true_and, plc_slow, Bool.or_eq_false_iff, decide_eq_false_iff_not] at h4
    exact h4.1 (by omega)
theorem bk_nc {L : Int} (hL : 0 < L) {ls : List Lk} (hw : ∀ l ∈ ls, WordOk l.1) (nc : ∀ a ∈ ls, ∀ b ∈ ls, clashB a b L = false) : ∀ p ∈ bk ls, ∀ q ∈ bk ls, clashB p q L = false := fun p hp q hq => by
  unfold clashB
  rw [bk_far hL hw nc hp hq, bk_far hL hw nc hq hp]; rfl
/-- where the least lands, the greatest of the hand led back comes from -/
theorem bk_in_fast {ls : List Lk} {x L m : Int} (h : IsBest "slow" (sideOf "slow" ls) x L m) : ∃ l ∈ ls, plc "slow" l x L = m ∧ upL l ∈ sideOf "fast" (bk ls) := by
  obtain ⟨⟨l, hl, em⟩, hb⟩ := h
  obtain ⟨hl1, hl2⟩ := mem_side.mp hl
  exact ⟨l, hl1, em, mem_side.mpr ⟨mem_bk.mpr ⟨l, hl1, .inl ⟨slow_from hl2, rfl⟩⟩, show onSide "fast" "upto" = true by decide +kernel⟩⟩
theorem bk_in_slow {ls : List Lk} {x L m : Int} (h : IsBest "fast" (sideOf "fast" ls) x L m) : ∃ l ∈ ls, plc "fast" l x L = m ∧ frL l ∈ sideOf "slow" (bk ls) := by
  obtain ⟨⟨l, hl, em⟩, hb⟩ := h
  obtain ⟨hl1, hl2⟩ := mem_side.mp hl
  exact ⟨l, hl1, em, mem_side.mpr ⟨mem_bk.mpr ⟨l, hl1, .inr ⟨fast_upto hl2, rfl⟩⟩, show onSide "slow" "from" = true by decide +kernel⟩⟩
theorem back_least1 {L : Int} (hL : 0 < L) {ls : List Lk} {x m : Int} (h : IsBest "slow" (sideOf "slow" ls) x L m) {u : V} (tu : Tells "fast" (bk ls) m L u) : ∃ a, u = .int a ∧ a ≤ x := by
  obtain ⟨l, _, em, hin⟩ := bk_in_fast h
  rcases tu with ⟨e, _⟩ | ⟨a, rfl, ba⟩
  · rw [e] at hin; cases hin
  refine ⟨a, rfl, ?_⟩
  have h1 := ba.2 _ hin
  rw [if_neg slow_ne, plc_fast] at h1
  have h1' : a ≤ l.2.1 - (l.2.2 - m) / L * L := h1
  rw [plc_slow] at em
  have e2 : l.2.2 - m = (-((x - l.2.1) / L)) * L := by rw [Int.neg_mul]; omega
  rw [e2, Int.mul_ediv_cancel _ (by omega : L ≠ 0), Int.neg_mul] at h1'
  have := div_le (a := x - l.2.1) hL
  omega
theorem back_least2 {L : Int} (hL : 0 < L) {ls : List Lk} (hw : ∀ l ∈ ls, WordOk l.1) {x m : Int} (h : IsBest "slow" (sideOf "slow" ls) x L m) {v : V} (tv : Tells "fast" (bk ls) (m + 1) L v) : ∃ b, v = .int b ∧ x < b := by
  obtain ⟨l, _, em, hin⟩ := bk_in_fast h
  rcases tv with ⟨e, _⟩ | ⟨b, rfl, bb⟩
  · rw [e] at hin; cases hin
  refine ⟨b, rfl, ?_⟩
  obtain ⟨⟨q, hq, eq⟩, _⟩ := bb
  obtain ⟨hq1, hq2⟩ := mem_side.mp hq
  obtain ⟨l', hl', n', rfl⟩ := bk_fast hq1 hq2
  rw [plc_fast] at eq
  have eq' : l'.2.1 - (l'.2.2 - (m + 1)) / L * L = b := eq
  have h1 := div_le (a := l'.2.2 - (m + 1)) hL
  generalize (l'.2.2 - (m + 1)) / L = k at eq' h1
  rcases Int.lt_or_le x b with z | z
  · exact z
  · exfalso
    have h2 := h.2 l' (mem_side.mpr ⟨hl', not_upto (hw l' hl') n'⟩)
    rw [if_pos rfl, plc_slow] at h2
    have h3 : (-k) * L ≤ x - l'.2.1 := by rw [Int.neg_mul]; omega
    have h4 := le_div hL h3
    rw [Int.neg_mul] at h4
    omega
theorem back_greatest1 {L : Int} (hL : 0 < L) {ls : List Lk} (hw : ∀ l ∈ ls, WordOk l.1) {x m : Int} (h : IsBest "fast" (sideOf "fast" ls) x L m) {u : V} (tu : Tells "slow" (bk ls) m L u) : ∃ a, u = .int a ∧ a ≤ x := by
  obtain ⟨l, _, em, hin⟩ := bk_in_slow h
  rcases tu with ⟨e, _⟩ | ⟨a, rfl, ba⟩
  · rw [e] at hin; cases hin
  refine ⟨a, rfl, ?_⟩
  obtain ⟨⟨q, hq, eq⟩, _⟩ := ba
  obtain ⟨hq1, hq2⟩ := mem_side.mp hq
  obtain ⟨l', hl', n', rfl⟩ := bk_slow hq1 hq2
  rw [plc_slow] at eq
  have eq' : l'.2.1 + 1 + (m - (l'.2.2 + 1)) / L * L = a := eq
  have h1 := div_le (a := m - (l'.2.2 + 1)) hL
  generalize (m - (l'.2.2 + 1)) / L = k at eq' h1
  rcases Int.lt_or_le x a with z | z
  · exfalso
    have h2 := h.2 l' (mem_side.mpr ⟨hl', not_from (hw l' hl') n'⟩)
    rw [if_neg slow_ne, plc_fast] at h2
    have h3 : (-k) * L ≤ l'.2.1 - x := by rw [Int.neg_mul]; omega
    have h4 := le_div hL h3
    rw [Int.neg_mul] at h4
    omega
  · exact z
theorem back_greatest2 {L : Int} (hL : 0 < L) {ls : List Lk} {x m : Int} (h : IsBest "fast" (sideOf "fast" ls) x L m) {v : V} (tv : Tells "slow" (bk ls) (m + 1) L v) : ∃ b, v = .int b ∧ x < b := by
  obtain ⟨l, _, em, hin⟩ := bk_in_slow h
  rcases tv with ⟨e, _⟩ | ⟨b, rfl, bb⟩
  · rw [e] at hin; cases hin
  refine ⟨b, rfl, ?_⟩
  have h1 := bb.2 _ hin
  rw [if_pos rfl, plc_slow] at h1
  have h1' : l.2.1 + 1 + (m + 1 - (l.2.2 + 1)) / L * L ≤ b := h1
  rw [plc_fast] at em
  have e2 : m + 1 - (l.2.2 + 1) = (-((l.2.1 - x) / L)) * L := by rw [Int.neg_mul]; omega
  rw [e2, Int.mul_ediv_cancel _ (by omega : L ≠ 0), Int.neg_mul] at h1'
  have := div_le (a := l.2.1 - x) hL
  omega
def spBack (Z : Ad) (K : PySem.W.Frag) : Sp := fun vs H Q _ => ∃ (d : Addr) (L : Int) (hs : List Lk), vs = [.ref d] ∧ DarkAt Z K H d L hs ∧ (∀ l ∈ hs, Sized 290 l) ∧ (∀ a ∈ hs, ∀ b ∈ hs, clashB a b L = false) ∧ (bk hs).length ≤ 58 ∧
  ∀ (H' : Hp) (b : Addr), H b = none → Same H H' → DarkAt Z K H' b L ((bk hs).foldl (heard L) []) → (∀ la dx, H' b = some (.ins Z.C dx (df L la)) → H la = none) → Q (.ref b) H'
theorem bk_take {ls : List Lk} {i : Nat} {l : Lk} (h : ls[i]? = some l) : bk (ls.take (i + 1)) = bk (ls.take i) ++ bk1 l := by
  rw [take_snoc h]; unfold bk; rw [List.flatMap_append]; simp
theorem bk_pre {ls : List Lk} (i : Nat) : ∃ r, bk ls = bk (ls.take i) ++ r := ⟨bk (ls.drop i), by unfold bk; rw [← List.flatMap_append, List.take_append_drop]⟩
section
variable {P : Program} {w : World} {K : PySem.W.Frag} {mg : Str → Option Value} {base : Heap} {Z : Ad}
theorem ok_Dark_led_back (T : Tx K w mg Z) : FnOk P w K mg base CX0 6 Z.a_Dark_led_back Z.d_Dark_led_back P_Dark_led_back (spBack Z K) := by
  refine T.F_Dark_led_back.ok scDark_led_back (fun vs H Q E h => ?_) (fun cdv A outer s H vs Q E hr h => ?_)
  · obtain ⟨d, L, hs, rfl, _⟩ := h
    rfl
  · obtain ⟨d, L, hs, rfl, D, hsz, hnc, hlen, k⟩ := h
    obtain ⟨dx, la, xs, h1, h2, h3⟩ := id D.ex
    have hL := D.pos
    have hwd : ∀ l ∈ hs, WordOk l.1 := fun l hl => (D.ok l hl).1
    have nc := bk_nc hL hwd hnc
    refine ⟨_, (pss_cons (ps_set (i := 1) scDark_led_back.nd rfl (Or.inl rfl) (pe_make T.mk_Dark (ok_Dark_init T) (hr.mono (by decide)) (by rfl) T.g_Dark T.bb_Dark_init .nil pass0 (pa_cons (fldK (K := K) (pv 0) rfl) pa_nil)))
      (pss_cons (ps_for PassesOwn.never rfl (pi_list (pe_meth0 (pv 0) T.cl T.m_Dark_looks (ok_Dark_looks T) (hr.mono (by decide)) T.bb_Dark_looks .nil pass0)) (tupK (K := K) (by rfl) (pgs_cons (pg_name (i := 2) scDark_led_back.nd rfl (Or.inl rfl)) (pgs_cons (pg_name (i := 3) scDark_led_back.nd rfl (Or.inl rfl)) (pgs_cons (pg_name (i := 4) scDark_led_back.nd rfl (Or.inl rfl)) pgs_nil)))) (C8.pss_cut (ps_if (pt_cmpR op_ne (pv 2) pe_str (nomark _)) (pss_one (ps_expr (pe_meth (pv 1) T.cl T.m_Dark_hear (ok_Dark_hear T) (hr.mono (by decide)) T.bb_Dark_hear .nil pass0 (pa_cons pe_str (pa_cons (pv 4) (pa_cons (pv 3) pa_nil)))))) pss_nil)
      (pss_one (ps_if (pt_cmpR op_ne (pv 2) pe_str (nomark _)) (pss_one (ps_expr (pe_meth (pv 1) T.cl T.m_Dark_hear (ok_Dark_hear T) (hr.mono (by decide)) T.bb_Dark_hear .nil pass0 (pa_cons pe_str (pa_cons (pe_op op_add (pv 4) pe_int) (pa_cons (pe_op op_add (pv 3) pe_int) pa_nil)))))) pss_nil))))
      (pss_one (ps_ret (pv 1))))), ?_⟩
    refine ⟨_, rfl, d, Z.C, dx, _, _, rfl, h1, T.cl, T.n_length, df_length _ _, fun b dxb hbn hbx hne => ?_⟩
    have S0 : Same H (upd (upd H dxb (.own b)) b (.ins Z.C dxb [])) := fun c o e => by
      rw [upd_ne (ne_of_none e hbn), upd_ne (ne_of_none e hbx)]; exact e
    refine ⟨b, dxb, L, rfl, upd_same, hL, D.big, fun H1 D1 f1 k1 => ⟨rfl, ?_⟩⟩
    have S1 : Same H H1 := fun c o e => k1 c o (S0 c o e) (ne_of_none e hbn)
    refine ⟨_, rfl, d, dx, _, rfl, S1 _ _ h1, df_no _ _ (by decide +kernel) (by decide +kernel), d, L, hs, rfl, D.same S1, fun p ys H2 hp S2 hp1 hp2 => ?_⟩
    have hpb : p ≠ b := by
      rintro rfl
      obtain ⟨dx1, la1, vs1, g1, _⟩ := D1.ex
      rw [hp] at g1; cases g1
    have hyl : ys.length = hs.length := by rw [dpAll_len hp2, List.length_map]
    have F2 : ∀ la dx, H2 b = some (.ins Z.C dx (df L la)) → H la = none := fun la2 dx2 e => by
      obtain ⟨dx1, la1, vs1, g1, _⟩ := D1.ex
      have e2 := S2 _ _ g1
      rw [e] at e2
      rw [df_inj e2]
      exact S0.free (f1 la1 dx1 g1)
    obtain ⟨dx1, la1, vs1, g1, _⟩ := id (D1.same S2).ex
    have tups : ∀ {H'}, (∀ c o, H2 c = some o → c ≠ b → H' c = some o) → Tups H2 H' := fun kb c zs hc => by
      have hcb : c ≠ b := by
        rintro rfl
        rcases hc with e | ⟨q, e⟩ <;> rw [g1] at e <;> cases e
      rcases hc with e | ⟨q, e⟩
      · exact .inl (kb _ _ e hcb)
      · exact .inr ⟨q, kb _ _ e hcb⟩
    -- one more is heard
    have one : ∀ {H' : Hp} {pr : List Lk} {q : Lk}, (∀ o ∈ pr, o ∈ bk hs) → q ∈ bk hs → pr.length < 58 → (∀ c o, H2 c = some o → c ≠ b → H' c = some o) → (∀ la dx, H' b = some (.ins Z.C dx (df L la)) → H la = none) →
        (pr.foldl (heard L) []).length < 60 ∧ (∀ o ∈ pr.foldl (heard L) [], clashB (home L q) o L = false) ∧
        ∀ H'', DarkAt Z K H'' b L (heard L (pr.foldl (heard L) []) q) → (∀ la dx, H'' b = some (.ins Z.C dx (df L la)) → (∃ dx', H' b = some (.ins Z.C dx' (df L la))) ∨ H' la = none) → (∀ c o, H' c = some o → c ≠ b → H'' c = some o) →
          (∀ c o, H2 c = some o → c ≠ b → H'' c = some o) ∧ DarkAt Z K H'' b L ((pr ++ [q]).foldl (heard L) []) ∧ ∀ la dx, H'' b = some (.ins Z.C dx (df L la)) → H la = none := by
      intro H' pr q hpr hq hl kb F
      have hfl := fold_len (L := L) pr []
      have S : Same H H' := fun c o e => kb c o ((S1.trans S2) _ _ e) (ne_of_none e hbn)
      refine ⟨by simp at hfl; omega, fun o ho => ?_, fun H'' D'' f'' k'' => ⟨fun c o e hc => k'' c o (kb c o e hc) hc, ?_, fun la dx e => ?_⟩⟩
      · obtain h | ⟨r, hr, e⟩ := (fold_mem _ _ _).mp ho
        · cases h
        · rw [e, clash_home hL]
          exact nc q hq r (hpr r hr)
      · rw [List.foldl_append]; exact D''
      · rcases f'' la dx e with ⟨dx', h⟩ | h
        · exact F la dx' h
        · exact S.free h
    refine ⟨p, rfl, ⟨_, SqL.of hp1⟩, ?_⟩
    refine for_list (K := K) (a := p) (xs := ys) (fun i σ' H' => ∃ u2 u3 u4, σ' = [some (.ref d), some (.ref b), u2, u3, u4] ∧ (∀ c o, H2 c = some o → c ≠ b → H' c = some o) ∧ DarkAt Z K H' b L ((bk (hs.take i)).foldl (heard L) []) ∧ ∀ la dx, H' b = some (.ins Z.C dx (df L la)) → H la = none) ⟨none, none, none, rfl, fun _ _ e _ => e, D1.same S2, F2⟩ (fun i σ' H' _ ⟨_, _, _, _, kb, _⟩ => SqL.of (kb _ _ hp1 hpb)) ?_ ?_
    · rintro i y σ' H' hi ⟨u2, u3, u4, rfl, kb, DD, F⟩
      obtain ⟨e, hdi, hdy⟩ := dpAll_get hp2 hi
      obtain ⟨l, hl, rfl⟩ := map_at hdi
      have hlm := List.mem_of_getElem? hl
      obtain ⟨pp, rfl, hpp⟩ := dp_look (dp_tups (tups kb) _ _ rfl hdy)
      obtain ⟨r, er⟩ := bk_pre (ls := hs) (i + 1)
      have tk := bk_take hl
      rw [tk] at er
      have inA : ∀ o ∈ bk (hs.take i) ++ bkA l, o ∈ bk hs := fun o ho => by
        rw [er]
        unfold bk1
        simp only [List.mem_append] at ho ⊢
        rcases ho with h | h
        · exact .inl (.inl h)
        · exact .inl (.inr (.inl h))
      have lenA : (bk (hs.take i)).length + (bkA l).length + (bkB l).length ≤ 58 := by
        rw [er] at hlen
        unfold bk1 at hlen
        simp only [List.length_append] at hlen
        omega
      refine ⟨_, _, rfl, hpp, rfl, _, _, rfl, _, _, rfl, _, _, rfl, rfl, ?_⟩
      refine ⟨fun σ' H' => σ' = [some (.ref d), some (.ref b), some (.str l.1), some (.int l.2.1), some (.int l.2.2)] ∧ (∀ c o, H2 c = some o → c ≠ b → H' c = some o) ∧ DarkAt Z K H' b L ((bk (hs.take i) ++ bkA l).foldl (heard L) []) ∧ ∀ la dx, H' b = some (.ins Z.C dx (df L la)) → H la = none, ?_, ?_⟩
      · refine ⟨_, rfl, rfl, _, rfl, ?_⟩
        by_cases c : l.1 = "upto"
        · have e1 : bkA l = [] := if_pos c
          rw [e1, List.append_nil]
          have e2 : (!decide (V.str l.1 = V.str "upto")) = false := by rw [c]; simp
          rw [e2]
          exact iteF ⟨rfl, kb, DD, F⟩
        · have e1 : bkA l = [upL l] := if_neg c
          rw [e1]
          rw [e1] at inA lenA
          have e2 : (!decide (V.str l.1 = V.str "upto")) = true := by
            rw [Bool.not_eq_true', decide_eq_false_iff_not]
            exact fun e => c (V.str.inj e)
          rw [e2]
          obtain ⟨dxq, laq, vsq, gq, _⟩ := id DD.ex
          refine iteT ⟨_, rfl, b, dxq, _, rfl, gq, df_no _ _ (by decide +kernel) (by decide +kernel), _, rfl, _, rfl, ?_⟩
          have hq : upL l ∈ bk hs := inA _ (by simp)
          obtain ⟨o1, o2, o3⟩ := one (q := upL l) (fun o ho => inA o (List.mem_append_left _ ho)) hq (by simp at lenA; omega) kb F
          refine ⟨b, L, _, upL l, rfl, DD, bk_word hq, (bk_sized hq hsz).up (by decide), o1, o2, fun H'' D'' f'' k'' => ?_⟩
          obtain ⟨x1, x2, x3⟩ := o3 H'' D'' f'' k''
          exact ⟨rfl, x1, x2, x3⟩
      · rintro σ' H3 ⟨rfl, kb3, D3, F3⟩
        refine ⟨_, rfl, rfl, _, rfl, ?_⟩
        by_cases c : l.1 = "from"
        · have e1 : bkB l = [] := if_pos c
          have e2 : (!decide (V.str l.1 = V.str "from")) = false := by rw [c]; simp
          rw [e2]
          refine iteF ⟨_, _, _, rfl, kb3, ?_, F3⟩
          rw [tk]
          unfold bk1
          rw [e1, List.append_nil]; exact D3
        · have e1 : bkB l = [frL l] := if_neg c
          rw [e1] at lenA
          have e2 : (!decide (V.str l.1 = V.str "from")) = true := by
            rw [Bool.not_eq_true', decide_eq_false_iff_not]
            exact fun e => c (V.str.inj e)
          rw [e2]
          obtain ⟨dxq, laq, vsq, gq, _⟩ := id D3.ex
          refine iteT ⟨_, rfl, b, dxq, _, rfl, gq, df_no _ _ (by decide +kernel) (by decide +kernel), _, rfl, _, _, rfl, rfl, _, rfl, _, _, rfl, rfl, ?_⟩
          have hq : frL l ∈ bk hs := mem_bk.mpr ⟨l, hlm, .inr ⟨c, rfl⟩⟩
          obtain ⟨o1, o2, o3⟩ := one (q := frL l) inA hq (by simp at lenA ⊢; omega) kb3 F3
          refine ⟨b, L, _, frL l, rfl, D3, bk_word hq, (bk_sized hq hsz).up (by decide), o1, o2, fun H'' D'' f'' k'' => ?_⟩
          obtain ⟨x1, x2, x3⟩ := o3 H'' D'' f'' k''
          refine ⟨_, _, _, rfl, x1, ?_, x3⟩
          rw [tk]
          unfold bk1
          rw [e1, ← List.append_assoc]; exact x2
    · rintro σ' H' ⟨u2, u3, u4, rfl, kb, DD, F⟩
      rw [List.take_of_length_le (by rw [hyl]; exact Nat.le_refl _)] at DD
      exact ⟨_, rfl, k H' b hbn (fun c o e => kb c o ((S1.trans S2) _ _ e) (ne_of_none e hbn)) DD F⟩
end
end KA
namespace KA
open PySem PySem.Spec PyProof.Rows L2 DP
/-- what stood stands, but at t and g -/
def Keep (t g : Addr) (H H' : Hp) : Prop := ∀ b o, H b = some o → b ≠ t → b ≠ g → H' b = some o
theorem Keep.refl (t g : Addr) (H : Hp) : Keep t g H H := fun _ _ h _ _ => h
theorem Keep.trans {t g : Addr} {H H1 H2 : Hp} (a : Keep t g H H1) (b : Keep t g H1 H2) : Keep t g H H2 := fun c o h x y => b c o (a c o h x y) x y
/-- the deck: at t, its great numbers at g; no more than n draws so far went by the fold -/
structure Tray (H : Hp) (t g : Addr) (n : Nat) : Prop where
  ex : ∃ (gs : List Int) (f c : Int), H t = some (.lst [.ref g, .int f, .int c]) ∧ H g = some (.lst (gs.map V.int)) ∧ gs.length ≤ 63 ∧ (∀ x ∈ gs, 0 ≤ x) ∧ 0 ≤ f ∧ f < 2 ^ 61 ∧ 0 ≤ c ∧ c ≤ (n : Int)
  ne : t ≠ g
theorem Tray.same {H H' : Hp} {t g : Addr} {n : Nat} (T : Tray H t g n) (S : Same H H') : Tray H' t g n := by
  obtain ⟨⟨gs, f, c, h1, h2, r⟩, hne⟩ := T
  exact ⟨⟨gs, f, c, S _ _ h1, S _ _ h2, r⟩, hne⟩
theorem Keep.of_same {t g : Addr} {H H' : Hp} (S : Same H H') : Keep t g H H' := fun b o e _ _ => S b o e
theorem shaped_ints (ns : List Int) : SeqAt.shaped (.list (ns.map .int)) = true := by
  have h1 : ∀ ns : List Int, PyData.canLayAll0 (ns.map .int) = true := by
    intro ns
    induction ns with
    | nil => rfl
    | cons a r ih => simp [PyData.canLayAll0, PyData.canLay0, ih]
  have h2 : ∀ ns : List Int, PyData.depthAll (ns.map .int) = 0 := PySem.W.depth_ints
  unfold SeqAt.shaped
  simp [PyData.canLay0, PyData.depth, h1, h2]
theorem pow_lt {i : Int} {a n : Nat} (h : i.natAbs < 2 ^ a) (h0 : n ≠ 0) : (i ^ n).natAbs < 2 ^ (a * n) := by
  rw [Int.natAbs_pow, Nat.pow_mul]
  exact Nat.pow_lt_pow_left h h0
theorem while_post {c : TT} {tb : TS} {D : Ends} {σ : L2.St} {H : Hp} (Pv : L2.St → Hp → Prop) (μ : L2.St → Hp → Nat) (Po : L2.St → Hp → Prop) (h0 : Pv σ H)
    (hs : ∀ σ H, Pv σ H → c σ H fun b H1 => if b = true then tb { D with nx := fun σ' H' => Pv σ' H' ∧ μ σ' H' < μ σ H, ct := fun σ' H' => Pv σ' H' ∧ μ σ' H' < μ σ H, bk := D.nx } σ H1 else Po σ H1)
    (hd : ∀ σ H, Po σ H → D.nx σ H) (mono : ∀ σ H Q Q', (∀ b H1, Q b H1 → Q' b H1) → c σ H Q → c σ H Q') : tWhile c tb D σ H :=
  while_by Pv μ h0 (fun σ1 H1 p => mono σ1 H1 _ _ (fun b H2 q => by
    cases b with
    | true => exact q
    | false => exact hd _ _ q) (hs σ1 H1 p)) mono
theorem Tray.up {H : Hp} {t g : Addr} {m n : Nat} (T : Tray H t g m) (h : m ≤ n) : Tray H t g n := by
  obtain ⟨⟨gs, f, c, h1, h2, hl, hge, hf0, hf1, hc0, hc1⟩, hne⟩ := T
  exact ⟨⟨gs, f, c, h1, h2, hl, hge, hf0, hf1, hc0, by omega⟩, hne⟩
def spDeck (K : PySem.W.Frag) : Sp := fun vs H Q _ => ∃ (a : Addr) (ns : List Int), vs = [.ref a] ∧ SqL K H a (ns.map V.int) ∧ ns.length ≤ 63 ∧ ∀ (H' : Hp) (t g : Addr), Tray H' t g 0 → Same H H' → H t = none → H g = none → Q (.ref t) H'
def spTake : Sp := fun vs H Q _ => ∃ (t g : Addr) (n : Nat) (m : Int), vs = [.ref t, .int m] ∧ Tray H t g n ∧ 0 < m ∧ m.natAbs < 2 ^ 1000 ∧ n < 2 ^ 60 ∧
  ∀ (H' : Hp) (r : Int), 0 ≤ r → r < m → Tray H' t g (n + 1) → Keep t g H H' → Q (.int r) H'
theorem neg1 {gs : List Int} {y : Int} : atI ((gs ++ [y]).map V.int) (-1) = some (.int y) := by
  rw [atI_last (by simp), List.length_map, List.length_append, List.length_singleton, Nat.add_sub_cancel, List.getElem?_map, List.getElem?_append_right (Nat.le_refl _), Nat.sub_self]; rfl
theorem snoc_of {α : Type} : ∀ {l : List α}, l ≠ [] → ∃ a b, l = a ++ [b] := fun {l} h => ⟨l.dropLast, l.getLast h, (List.dropLast_concat_getLast h).symm⟩
section
variable {P : Program} {w : World} {K : PySem.W.Frag} {mg : Str → Option Value} {base : Heap} {Z : Ad}
theorem ok_law_deck (T : Tx K w mg Z) : FnOk P w K mg base CX0 1 Z.a_law_deck Z.d_law_deck P_law_deck (spDeck K) := by
  refine T.F_law_deck.ok sclaw_deck (fun vs H Q E h => ?_) (fun cdv A outer s H vs Q E hr h => ?_)
  · obtain ⟨a, ns, rfl, _⟩ := h
    rfl
  · obtain ⟨a, ns, rfl, hS, hlen, k⟩ := h
    refine ⟨_, (pss_cons (ps_set (i := 1) sclaw_deck.nd rfl (Or.inl rfl) (pe_lst pa_nil))
      (pss_cons (ps_set (i := 2) sclaw_deck.nd rfl (Or.inl rfl) pe_int)
      (pss_cons (ps_for PassesOwn.never rfl (pi_list (pv 0)) (pg_name (i := 3) sclaw_deck.nd rfl (Or.inl rfl)) (pss_cons (ps_set (i := 2) sclaw_deck.nd rfl (Or.inl rfl) (pe_op op_mod (pe_op op_add (pe_op op_mulW (pv 2) pe_int) (pv 3)) pe_int))
      (pss_one (ps_if (pt_cmpR op_ge (pe_callB call_abs (by rfl) T.b_abs (by decide +kernel) (pa_cons (pv 3) pa_nil)) (pe_op op_pow pe_int pe_int) (nomark _)) (pss_one (ps_expr (pe_bm PySem.F.plainAttrs_list PySem.F.slot_list_insert PySem.F.type_list_insert mt_insert (pv 1) (pa_cons pe_int (pa_cons (pe_op op_sub (pe_callB call_abs (by rfl) T.b_abs (by decide +kernel) (pa_cons (pv 3) pa_nil)) (pe_op op_pow pe_int pe_int)) pa_nil))))) pss_nil))))
      (pss_one (ps_ret (pe_lst (pa_cons (pv 1) (pa_cons (pv 2) (pa_cons pe_int pa_nil))))))))), ?_⟩
    refine ⟨(by show 0 ≤ sizeLine; decide), fun G hG => ?_⟩
    refine ⟨_, rfl, a, rfl, ⟨_, Same.sqL (same_upd hG) hS⟩, ?_⟩
    refine for_list (K := K) (a := a) (xs := ns.map V.int) (fun i σ' H' => ∃ (gs : List Int) (f : Int) (u : Option V), σ' = [some (.ref a), some (.ref G), some (.int f), u] ∧ Same H H' ∧ H' G = some (.lst (gs.map V.int)) ∧ gs.length ≤ i ∧ (∀ x ∈ gs, 0 ≤ x) ∧ 0 ≤ f ∧ f < 2 ^ 61)
      ⟨[], 11, none, rfl, same_upd hG, upd_same, Nat.le_refl _, (fun _ z => absurd z (by simp)), by decide, by decide⟩ (fun i σ' H' _ ⟨_, _, _, _, S, _⟩ => Same.sqL S hS) ?_ ?_
    · rintro i y σ' H' hi ⟨gs, f, u, rfl, S, hg, hgl, hge, hf0, hf1⟩
      obtain ⟨z, hz, rfl⟩ := map_at hi
      have hi63 : i < 63 := by
        have := (List.getElem?_eq_some_iff.mp hz).1
        omega
      have bf : f.natAbs < 2 ^ 61 := by omega
      refine ⟨_, rfl, _, _, rfl, rfl, wide_mul (b := 30) bf (by decide) (by decide) (by decide) (by decide), _, rfl, _, _, rfl, rfl, _, _, rfl, rfl, (by show (0 : Int) < _; decide), ?_⟩
      have hx0 := Int.emod_nonneg (f * 1000003 + z) (show (2305843009213693951 : Int) ≠ 0 by decide)
      have hx1 := Int.emod_lt_of_pos (f * 1000003 + z) (show (0 : Int) < 2305843009213693951 by decide)
      refine ⟨_, rfl, _, rfl, _, _, rfl, rfl, ⟨by decide, by decide, by decide⟩, _, _, rfl, rfl, _, rfl, ?_⟩
      refine ite2 (fun c => ?_) (fun _ => ?_)
      · have c' := of_decide_eq_true c
        refine ⟨_, rfl, .inl ⟨rfl, _, SqL.of hg⟩, _, rfl, _, rfl, _, _, rfl, rfl, ⟨by decide, by decide, by decide⟩, _, _, rfl, rfl, G, _, 0, _, rfl, rfl, hg, ?_, by decide, by decide, ?_⟩
        · exact small1000 (by simp; omega)
        · refine ⟨((if z < 0 then -z else z) - 10 ^ (18 : Int).toNat) :: gs, _, _, rfl, same_set S hG, ?_, ?_, ?_, hx0, by omega⟩
          · exact upd_same
          · simp; omega
          · intro x hx
            rcases List.mem_cons.mp hx with h | h
            · subst h
              omega
            · exact hge x h
      · exact ⟨gs, _, _, rfl, S, hg, by omega, hge, hx0, by omega⟩
    · rintro σ' H' ⟨gs, f, u, rfl, S, hg, hgl, hge, hf0, hf1⟩
      refine ⟨_, rfl, _, rfl, (by show 3 ≤ sizeLine; decide), fun t ht => ?_⟩
      have hgt : G ≠ t := ne_of_none hg ht
      refine k _ t G ⟨⟨gs, f, 0, upd_same, (upd_ne hgt).trans hg, ?_, hge, hf0, hf1, Int.le_refl _, Int.le_refl _⟩, Ne.symm hgt⟩ (same_set S (S.free ht)) (S.free ht) hG
      rw [List.length_map] at hgl
      omega
theorem ok_law_take (T : Tx K w mg Z) : FnOk P w K mg base CX0 1 Z.a_law_take Z.d_law_take P_law_take (spTake) := by
  refine T.F_law_take.ok sclaw_take (fun vs H Q E h => ?_) (fun cdv A outer s H vs Q E hr h => ?_)
  · obtain ⟨t, g, n, m, rfl, _⟩ := h
    rfl
  · obtain ⟨t, g, n, m, rfl, ⟨ht, hne⟩, hm, hmb, hn, k⟩ := h
    refine ⟨_, (C8.pss_cut (ps_while PassesOwn.never (PW.pt (pw_and (pt_cmpR (neDK (K := K) hr.units) (pe_ix (ixL (K := K)) (pv 0) pe_int (fun _ _ => rfl)) (pe_lst pa_nil) (nomark _)) (pw_and1 (pt_cmpR op_lt (pe_ix (ixL (K := K)) (pe_ix (ixL (K := K)) (pv 0) pe_int (fun _ _ => rfl)) (pe_un un_neg pe_int) (fun _ _ => rfl)) pe_int (nomark _))))) (pss_one (ps_expr (pe_bm0 PySem.F.plainAttrs_list PySem.F.slot_list_pop PySem.F.type_list_pop mt_pop (pe_ix (ixL (K := K)) (pv 0) pe_int (fun _ _ => rfl))))))
      (C8.pss_cut (ps_if (pt_cmpR (neDK (K := K) hr.units) (pe_ix (ixL (K := K)) (pv 0) pe_int (fun _ _ => rfl)) (pe_lst pa_nil) (nomark _)) (pss_cons (ps_set (i := 2) sclaw_take.nd rfl (Or.inl rfl) (pe_op op_mod (pe_ix (ixL (K := K)) (pe_ix (ixL (K := K)) (pv 0) pe_int (fun _ _ => rfl)) (pe_un un_neg pe_int) (fun _ _ => rfl)) (pv 1)))
      (pss_cons (ps_asg (pe_op op_fdivW (pe_ix (ixL (K := K)) (pe_ix (ixL (K := K)) (pv 0) pe_int (fun _ _ => rfl)) (pe_un un_neg pe_int) (fun _ _ => rfl)) (pv 1)) (pg_sub (pe_ix (ixL (K := K)) (pv 0) pe_int (fun _ _ => rfl)) (pe_un un_neg pe_int) set_list))
      (pss_one (ps_ret (pv 2))))) pss_nil)
      (pss_cons (ps_asg (pe_op op_add (pe_ix (ixL (K := K)) (pv 0) pe_int (fun _ _ => rfl)) pe_int) (pg_sub (pv 0) pe_int set_list))
      (pss_cons (ps_set (i := 3) sclaw_take.nd rfl (Or.inl rfl) (pe_ix (ixL (K := K)) (pv 0) pe_int (fun _ _ => rfl)))
      (pss_cons (ps_set (i := 4) sclaw_take.nd rfl (Or.inl rfl) (pe_op op_add (pe_op op_mulW (pe_op op_add (pe_ix (ixL (K := K)) (pv 0) pe_int (fun _ _ => rfl)) pe_int) (pe_op op_pow (pe_op op_add (pv 3) pe_int) pe_int)) (pe_op op_mulW pe_int (pv 3))))
      (pss_one (ps_ret (pe_op op_mod (pe_op op_fdivW (pe_op op_mod (pe_op op_pow (pe_op op_mod (pv 4) pe_int) pe_int) pe_int) pe_int) (pv 1))))))))), ?_⟩
    -- while deck[0] != [] and deck[0][-1] < 2
    refine ⟨fun σ' H' => σ' = [some (.ref t), some (.int m), none, none, none] ∧ Tray H' t g n ∧ Keep t g H H', ?_, ?_⟩
    · refine while_post (fun σ' H' => σ' = [some (.ref t), some (.int m), none, none, none] ∧ Tray H' t g n ∧ Keep t g H H') (fun _ H' => lenAt H' g) (fun σ' H' => σ' = [some (.ref t), some (.int m), none, none, none] ∧ Tray H' t g n ∧ Keep t g H H') ⟨rfl, ⟨ht, hne⟩, Keep.refl _ _ _⟩ ?_ (fun _ _ q => q) ?_
      · rintro σ1 H1 ⟨rfl, ⟨⟨gs, f, c, h1, h2, hl, hge, hf0, hf1, hc0, hc1⟩, _⟩, kp⟩
        refine ⟨_, rfl, _, _, _, _, rfl, rfl, SqL.of h1, rfl, (by show 0 ≤ sizeLine; decide), fun p hp => ?_⟩
        have g2 : (upd H1 p (.lst [])) g = some (.lst (gs.map V.int)) := (upd_ne (ne_of_none h2 hp)).trans h2
        have g1 : (upd H1 p (.lst [])) t = some (.lst [.ref g, .int f, .int c]) := (upd_ne (ne_of_none h1 hp)).trans h1
        have kp1 : Keep t g H (upd H1 p (.lst [])) := fun b o e n1 n2 => (upd_ne (ne_of_none (kp b o e n1 n2) hp)).trans (kp b o e n1 n2)
        refine ⟨_, _, .lst (SqL.of g2) (dpAll_ints gs), .lst (SqL.of upd_same) .nil, shaped_ints gs, rfl, _, rfl, ?_⟩
        by_cases hnil : gs = []
        · subst hnil
          exact iteF ⟨rfl, ⟨⟨[], f, c, g1, g2, hl, hge, hf0, hf1, hc0, hc1⟩, hne⟩, kp1⟩
        · obtain ⟨ys, y, rfl⟩ := snoc_of hnil
          have e : (!PyData.eqv (.list ((ys ++ [y]).map PyData.int)) (.list [])) = true := by
            cases ys <;> rfl
          refine ite2 (fun _ => ?_) (fun c => absurd e c)
          refine ⟨_, rfl, _, _, _, _, rfl, rfl, SqL.of g1, rfl, _, rfl, _, _, _, _, rfl, rfl, SqL.of g2, neg1, _, _, rfl, rfl, _, rfl, ?_⟩
          refine ite2 (fun _ => ?_) (fun c => ?_)
          · refine ⟨_, rfl, _, _, _, _, rfl, rfl, SqL.of g1, rfl, .inl ⟨rfl, _, SqL.of g2⟩, g, _, V.int y, rfl, rfl, g2, by simp, ?_⟩
            have ed : ((ys ++ [y]).map V.int).dropLast = ys.map V.int := by simp
            rw [ed]
            refine ⟨⟨rfl, ⟨⟨ys, f, c, (upd_ne hne).trans g1, upd_same, ?_, fun x hx => hge x (List.mem_append_left _ hx), hf0, hf1, hc0, hc1⟩, hne⟩, fun b o e' n1 n2 => (upd_ne n2).trans (kp1 b o e' n1 n2)⟩, ?_⟩
            · simp at hl; omega
            · rw [lenAt_of upd_same, lenAt_of h2]; simp
          · exact ⟨rfl, ⟨⟨ys ++ [y], f, _, g1, g2, hl, hge, hf0, hf1, hc0, hc1⟩, hne⟩, kp1⟩
      · intro σ1 H1 Q1 Q2 hQ hc
        obtain ⟨v, hv, p, xs, i, x, e1, e2, hs, ha, hz, hp⟩ := hc
        refine ⟨v, hv, p, xs, i, x, e1, e2, hs, ha, hz, fun p' np => ?_⟩
        obtain ⟨d, e, d1, d2, s1, s2, b, eb, q⟩ := hp p' np
        refine ⟨d, e, d1, d2, s1, s2, b, eb, ?_⟩
        cases b with
        | false => exact hQ _ _ q
        | true =>
          obtain ⟨a1, a2, a3, a4, a5, a6, a7, a8, a9, a10, a11, a12, a13, a14, a15, a16, a17, a18, a19, a20, a21, a22, a23, a24, a25, a26, q⟩ := q
          exact ⟨a1, a2, a3, a4, a5, a6, a7, a8, a9, a10, a11, a12, a13, a14, a15, a16, a17, a18, a19, a20, a21, a22, a23, a24, a25, a26, hQ _ _ q⟩
    · rintro σ1 H1 ⟨rfl, ⟨⟨gs, f, c, h1, h2, hl, hge, hf0, hf1, hc0, hc1⟩, _⟩, kp⟩
      refine ⟨fun σ' H' => σ' = [some (.ref t), some (.int m), none, none, none] ∧ Tray H' t g n ∧ Keep t g H H', ?_, ?_⟩
      · refine ⟨_, rfl, _, _, _, _, rfl, rfl, SqL.of h1, rfl, (by show 0 ≤ sizeLine; decide), fun p hp => ?_⟩
        have g2 : (upd H1 p (.lst [])) g = some (.lst (gs.map V.int)) := (upd_ne (ne_of_none h2 hp)).trans h2
        have g1 : (upd H1 p (.lst [])) t = some (.lst [.ref g, .int f, .int c]) := (upd_ne (ne_of_none h1 hp)).trans h1
        have kp1 : Keep t g H (upd H1 p (.lst [])) := fun b o e n1 n2 => (upd_ne (ne_of_none (kp b o e n1 n2) hp)).trans (kp b o e n1 n2)
        refine ⟨_, _, .lst (SqL.of g2) (dpAll_ints gs), .lst (SqL.of upd_same) .nil, shaped_ints gs, rfl, _, rfl, ?_⟩
        by_cases hnil : gs = []
        · subst hnil
          exact iteF ⟨rfl, ⟨⟨[], f, c, g1, g2, hl, hge, hf0, hf1, hc0, hc1⟩, hne⟩, kp1⟩
        · obtain ⟨ys, y, rfl⟩ := snoc_of hnil
          have e : (!PyData.eqv (.list ((ys ++ [y]).map PyData.int)) (.list [])) = true := by
            cases ys <;> rfl
          refine ite2 (fun _ => ?_) (fun c => absurd e c)
          generalize upd H1 p (.lst []) = H2 at g1 g2 kp1 ⊢
          refine ⟨_, rfl, _, _, _, _, rfl, rfl, SqL.of g1, rfl, _, rfl, _, _, _, _, rfl, rfl, SqL.of g2, neg1, _, rfl, _, _, rfl, rfl, hm, ?_⟩
          refine ⟨_, rfl, _, _, _, _, rfl, rfl, SqL.of g1, rfl, _, rfl, _, _, _, _, rfl, rfl, SqL.of g2, neg1, _, rfl, _, _, rfl, rfl, wide_div hm hmb (by decide) (by decide), _, rfl, _, _, _, _, rfl, rfl, SqL.of g1, rfl, _, rfl, _, _, _, ys.length, rfl, rfl, g2, ?_, _, rfl, ?_⟩
          · unfold ixN
            have hlen : ((ys ++ [y]).map V.int).length = ys.length + 1 := by simp
            rw [hlen, if_neg (by decide), if_pos (by omega)]
            congr 1
            omega
          have es : ((ys ++ [y]).map V.int).set ys.length (V.int (y / m)) = (ys ++ [y / m]).map V.int := by
            rw [List.map_append, List.set_append_right (h := by simp)]; simp
          rw [es]
          refine k _ _ (Int.emod_nonneg _ (by omega)) (Int.emod_lt_of_pos _ hm) ⟨⟨ys ++ [y / m], f, c, (upd_ne hne).trans g1, upd_same, ?_, ?_, hf0, hf1, hc0, by push_cast; omega⟩, hne⟩ fun b o e n1 n2 => (upd_ne n2).trans (kp1 b o e n1 n2)
          · simp at hl ⊢; omega
          · intro x hx
            rcases List.mem_append.mp hx with h | h
            · exact hge x (List.mem_append_left _ h)
            · rw [List.mem_singleton] at h
              subst h
              exact Int.ediv_nonneg (hge y (by simp)) (by omega)
      · rintro σ2 H2 ⟨rfl, ⟨⟨gs, f, c, h1, h2, hl, hge, hf0, hf1, hc0, hc1⟩, _⟩, kp⟩
        refine ⟨_, rfl, _, _, _, _, rfl, rfl, SqL.of h1, rfl, _, _, rfl, rfl, _, rfl, _, _, _, 2, rfl, rfl, h1, rfl, ?_⟩
        have g1 : (upd H2 t (.lst (List.set [.ref g, .int f, .int c] 2 (.int (c + 1))))) t = some (.lst [.ref g, .int f, .int (c + 1)]) := upd_same
        have bf : (f + 40503).natAbs < 2 ^ 63 := by omega
        have bc : (c + 1 + 5).natAbs < 2 ^ 61 := by omega
        have b3 : ((c + 1 + 5) ^ (3 : Int).toNat).natAbs < 2 ^ (61 * 3) := pow_lt bc (by decide)
        refine ⟨_, rfl, _, _, _, _, rfl, rfl, SqL.of g1, rfl, ?_⟩
        refine ⟨_, rfl, _, _, _, _, rfl, rfl, SqL.of g1, rfl, _, _, rfl, rfl, _, rfl, _, _, rfl, rfl, _, _, rfl, rfl, ⟨by decide, by decide, Nat.lt_trans bc (by decide)⟩, _, _, rfl, rfl, wide_mul bf b3 (by decide) (by decide) (by decide), ?_⟩
        refine ⟨_, rfl, _, _, rfl, rfl, wide_mul (a := 30) (b := 61) (by decide) (by omega) (by decide) (by decide) (by decide), _, _, rfl, rfl, ?_⟩
        have hx0 := Int.emod_nonneg ((f + 40503) * (c + 1 + 5) ^ (3 : Int).toNat + 69621 * (c + 1)) (show (2305843009213693951 : Int) ≠ 0 by decide)
        have hx1 := Int.emod_lt_of_pos ((f + 40503) * (c + 1 + 5) ^ (3 : Int).toNat + 69621 * (c + 1)) (show (0 : Int) < 2305843009213693951 by decide)
        refine ⟨_, rfl, _, _, rfl, rfl, (by show (0 : Int) < _; decide), _, _, rfl, rfl, ⟨by decide, by decide, ?_⟩, _, _, rfl, rfl, (by show (0 : Int) < _; decide), _, _, rfl, rfl, wide_div (b := 10) (by decide) (by decide) (by decide) (by decide), _, rfl, _, _, rfl, rfl, hm, ?_⟩
        · show (((f + 40503) * (c + 1 + 5) ^ (3 : Int).toNat + 69621 * (c + 1)) % 2305843009213693951).natAbs < 2 ^ 64
          omega
        · refine k _ _ (Int.emod_nonneg _ (by omega)) (Int.emod_lt_of_pos _ hm) ⟨⟨gs, f, c + 1, g1, (upd_ne (Ne.symm hne)).trans h2, hl, hge, hf0, hf1, by omega, by push_cast; omega⟩, hne⟩ fun b o e n1 n2 => (upd_ne n1).trans (kp b o e n1 n2)
end
end KA
namespace KA
open PySem PySem.Spec PyProof.Rows L2 DP
abbrev Pr := Int × Int
def encP (p : Pr) : PyData := .tuple [.int p.1, .int p.2]
theorem noL_encP (p : Pr) : noL (encP p) = true := rfl
/-- a list of data at p, tracked -/
def LAt (K : PySem.W.Frag) (H : Hp) (p : Addr) (ds : List PyData) : Prop := ∃ vs, H p = some (.lst vs) ∧ DpAll K H vs ds
theorem LAt.dp {K : PySem.W.Frag} {H : Hp} {p : Addr} {ds : List PyData} (h : LAt K H p ds) : Dp K H (.ref p) (.list ds) := by
  obtain ⟨vs, h1, h2⟩ := h
  exact .lst (SqL.of h1) h2
theorem LAt.same {K : PySem.W.Frag} {H H' : Hp} {p : Addr} {ds : List PyData} (h : LAt K H p ds) (S : Same H H') : LAt K H' p ds := by
  obtain ⟨vs, h1, h2⟩ := h
  exact ⟨vs, S _ _ h1, dpAll_mono S _ _ h2⟩
theorem Keep.tups {H H' : Hp} {t g : Addr} {n : Nat} (T : Tray H t g n) (k : Keep t g H H') : Tups H H' := fun b xs hb => by
  obtain ⟨⟨gs, f, c, h1, h2, r⟩, hne⟩ := T
  rcases hb with e | ⟨q, e⟩
  · refine .inl (k b _ e ?_ ?_) <;> rintro rfl
    · rw [h1] at e; cases e
    · rw [h2] at e; cases e
  · refine .inr ⟨q, k b _ e ?_ ?_⟩ <;> rintro rfl
    · rw [h1] at e; cases e
    · rw [h2] at e; cases e
theorem LAt.keep {K : PySem.W.Frag} {H H' : Hp} {t g p : Addr} {n : Nat} {ds : List PyData} (h : LAt K H p ds) (T : Tray H t g n) (k : Keep t g H H') (h1 : p ≠ t) (h2 : p ≠ g) (hn : noL.noLs ds = true) : LAt K H' p ds := by
  obtain ⟨vs, a, b⟩ := h
  exact ⟨vs, k _ _ a h1 h2, dpAll_tups (Keep.tups T k) _ _ hn b⟩
theorem Tray.at_ne {H : Hp} {t g p : Addr} {n : Nat} (T : Tray H t g n) (hp : H p = none) : p ≠ t ∧ p ≠ g := by
  obtain ⟨⟨gs, f, c, h1, h2, r⟩, hne⟩ := T
  exact ⟨Ne.symm (ne_of_none h1 hp), Ne.symm (ne_of_none h2 hp)⟩
theorem dp_pair {K : PySem.W.Frag} {H : Hp} {v : V} {p : Pr} (h : Dp K H v (encP p)) : ∃ a, v = .ref a ∧ SqT K H a [.int p.1, .int p.2] := by
  have h' : Dp K H v (.tuple [.int p.1, .int p.2]) := h
  cases h' with
  | tup s a =>
    cases a with
    | cons a1 a =>
      cases a with
      | cons a2 a =>
        cases a; cases a1; cases a2
        exact ⟨_, rfl, s⟩
theorem dp_two {K : PySem.W.Frag} {H : Hp} {q : Addr} {a b : Int} (h : H q = some (.tup [.int a, .int b])) : Dp K H (.ref q) (encP (a, b)) := .tup (SqT.of h) (.cons (.int _) (.cons (.int _) .nil))
theorem small_nat {L : Int} {a : Int} {n : Nat} (h0 : 0 ≤ a) (h1 : a ≤ L) (hL : L.natAbs < 2 ^ n) : a.natAbs < 2 ^ n := Nat.lt_of_le_of_lt (by omega : a.natAbs ≤ L.natAbs) hL
theorem bigL {L : Int} (h0 : 0 < L) (h : L ≤ 10 ^ 30) : L.natAbs < 2 ^ 100 := by
  have e : (10 : Int) ^ 30 = 1000000000000000000000000000000 := by decide
  have e2 : (2 : Nat) ^ 100 = 1267650600228229401496703205376 := by decide
  rw [e] at h; rw [e2]; omega
/-- what the deck's calls keep of the frame: the deck, all else, so far m draws -/
structure At (H Hc : Hp) (t g : Addr) (m : Nat) : Prop where
  T : Tray Hc t g m
  k : Keep t g H Hc
theorem At.step {H H1 H2 : Hp} {t g : Addr} {m m' : Nat} (a : At H H1 t g m) (T : Tray H2 t g m') (k : Keep t g H1 H2) : At H H2 t g m' := ⟨T, a.k.trans k⟩
theorem At.up {H Hc : Hp} {t g : Addr} {m m' : Nat} (a : At H Hc t g m) (h : m ≤ m') : At H Hc t g m' := ⟨a.T.up h, a.k⟩
theorem At.new {H H1 : Hp} {t g p : Addr} {m : Nat} {o : HO} (a : At H H1 t g m) (hp : H1 p = none) : At H (upd H1 p o) t g m := ⟨a.T.same (same_upd hp), a.k.trans (Keep.of_same (same_upd hp))⟩
theorem At.sm {H H1 H2 : Hp} {t g : Addr} {m : Nat} (a : At H H1 t g m) (S : Same H1 H2) : At H H2 t g m := ⟨a.T.same S, a.k.trans (Keep.of_same S)⟩
theorem At.free {H H1 : Hp} {t g p : Addr} {m : Nat} (a : At H H1 t g m) (hp : H1 p = none) : H p = none := by
  obtain ⟨h1, h2⟩ := a.T.at_ne hp
  cases e : H p with
  | none => rfl
  | some o =>
    rw [a.k p o e h1 h2] at hp
    cases hp
/-- a list that a comprehension makes is changed: it is new -/
theorem At.acc {H H1 : Hp} {t g D : Addr} {m : Nat} {o : HO} (a : At H H1 t g m) (hD : H D = none) (h1 : D ≠ t) (h2 : D ≠ g) : At H (upd H1 D o) t g m := by
  obtain ⟨⟨⟨gs, f, c, e1, e2, r⟩, hne⟩, k⟩ := a
  exact ⟨⟨⟨gs, f, c, (upd_ne (Ne.symm h1)).trans e1, (upd_ne (Ne.symm h2)).trans e2, r⟩, hne⟩, fun b o e n1 n2 => (upd_ne (ne_of_none e hD)).trans (k b o e n1 n2)⟩
def spBelow : Sp := fun vs H Q _ => ∃ (t g : Addr) (n : Nat) (m : Int), vs = [.ref t, .int m] ∧ Tray H t g n ∧ 0 < m ∧ m.natAbs < 2 ^ 1000 ∧ n < 2 ^ 59 ∧
  ∀ (H' : Hp) (r : Int), 0 ≤ r → r < m → Tray H' t g (n + 60) → Keep t g H H' → Q (.int r) H'
def spWide : Sp := fun vs H Q _ => ∃ (t g : Addr) (n : Nat), vs = [.ref t] ∧ Tray H t g n ∧ n < 2 ^ 58 ∧
  ∀ (H' : Hp) (r : Int), 0 < r → r ≤ 10 ^ 30 → Tray H' t g (n + 70) → Keep t g H H' → Q (.int r) H'
section
variable {P : Program} {w : World} {K : PySem.W.Frag} {mg : Str → Option Value} {base : Heap} {Z : Ad}
theorem ok_law_below (T : Tx K w mg Z) : FnOk P w K mg base CX0 2 Z.a_law_below Z.d_law_below P_law_below (spBelow) := by
  refine T.F_law_below.ok sclaw_below (fun vs H Q E h => ?_) (fun cdv A outer s H vs Q E hr h => ?_)
  · obtain ⟨t, g, n, m, rfl, _⟩ := h
    rfl
  · obtain ⟨t, g, n, m, rfl, hT, hm, hmb, hn, k⟩ := h
    refine ⟨_, (pss_cons (ps_set (i := 2) sclaw_below.nd rfl (Or.inl rfl) pe_int)
      (pss_cons (ps_set (i := 3) sclaw_below.nd rfl (Or.inl rfl) (pv 1))
      (C8.pss_cut (ps_while PassesOwn.never (pt_cmpR op_gt (pv 3) pe_int (nomark _)) (pss_cons (ps_set (i := 2) sclaw_below.nd rfl (Or.inl rfl) (pe_op op_add (pe_op op_mulW (pv 2) (pe_op op_pow pe_int pe_int)) (pe_call (ok_law_take T) (hr.mono (by decide)) (by rfl) T.g_law_take T.F_law_take.kp T.bb_law_take .nil pass0 (pa_cons (pv 0) (pa_cons (pe_op op_pow pe_int pe_int) pa_nil)))))
      (pss_one (ps_set (i := 3) sclaw_below.nd rfl (Or.inl rfl) (pe_op op_fdivW (pv 3) (pe_op op_pow pe_int pe_int))))))
      (pss_one (ps_ret (pe_op op_mod (pv 2) (pv 1))))))), ?_⟩
    refine ⟨_, rfl, ?_⟩
    refine ⟨fun σ' H' => ∃ f l, σ' = [some (.ref t), some (.int m), some (.int f), some (.int l)] ∧ Tray H' t g (n + 60) ∧ Keep t g H H', ?_, ?_⟩
    · refine while_post (fun σ' H' => ∃ (i : Nat) (f l : Int), σ' = [some (.ref t), some (.int m), some (.int f), some (.int l)] ∧ 0 ≤ f ∧ 0 ≤ l ∧ (f + 1) * l ≤ m ∧ 2 ^ (19 * i) * l ≤ m ∧ i ≤ 53 ∧ Tray H' t g (n + i) ∧ Keep t g H H') (fun σ' _ => match σ'.getD 3 none with | some (.int l) => l.toNat | _ => 0) (fun σ' H' => ∃ f l, σ' = [some (.ref t), some (.int m), some (.int f), some (.int l)] ∧ Tray H' t g (n + 60) ∧ Keep t g H H')
        ⟨0, 0, m, rfl, Int.le_refl _, by omega, by omega, by simp, by omega, hT, Keep.refl _ _ _⟩ ?_ (fun _ _ q => q) ?_
      · rintro σ1 H1 ⟨i, f, l, rfl, hf0, hl0, hfl, hil, hi, T1, k1⟩
        refine ⟨_, rfl, _, _, rfl, rfl, _, rfl, ?_⟩
        refine ite2 (fun c => ?_) (fun _ => ⟨f, l, rfl, T1.up (by omega), k1⟩)
        have hl : 0 < l := of_decide_eq_true c
        have hfb : f.natAbs < 2 ^ 1000 := by
          have h1 : (f + 1) * 1 ≤ (f + 1) * l := Int.mul_le_mul_of_nonneg_left (by omega) (by omega)
          clear hil
          omega
        have hi52 : i ≤ 52 := by
          have h1 : (2 : Int) ^ (19 * i) * 1 ≤ 2 ^ (19 * i) * l := Int.mul_le_mul_of_nonneg_left (by omega) (Int.pow_nonneg (by decide))
          have h2 : ((2 ^ (19 * i) : Nat) : Int) < ((2 ^ 1000 : Nat) : Int) := by
            have e : ((2 ^ (19 * i) : Nat) : Int) = (2 : Int) ^ (19 * i) := by push_cast; rfl
            rw [e]
            generalize (2 : Int) ^ (19 * i) = A at h1 hil ⊢
            generalize (2 : Nat) ^ 1000 = B at hmb ⊢
            omega
          have h3 : 2 ^ (19 * i) < 2 ^ 1000 := Int.ofNat_lt.mp h2
          have h4 := (Nat.pow_lt_pow_iff_right (by decide : 1 < 2)).mp h3
          omega
        refine ⟨_, rfl, _, _, rfl, rfl, ⟨by decide, by decide, by decide⟩, _, _, rfl, rfl, wide_mul (b := 60) hfb (by decide) (by decide) (by decide) (by decide), _, rfl, _, _, rfl, rfl, ⟨by decide, by decide, by decide⟩, t, g, n + i, _, rfl, T1, by decide, by decide, by omega, fun H2 r r0 r1 T2 k2 => ?_⟩
        have e6 : (10 : Int) ^ (6 : Int).toNat = 1000000 := by decide
        rw [e6] at r1
        refine ⟨_, _, rfl, rfl, _, rfl, _, _, rfl, rfl, ⟨by decide, by decide, by decide⟩, _, _, rfl, rfl, wide_div (b := 60) (by decide) (by decide) (by decide) (by decide), ?_⟩
        have hd := Int.mul_ediv_add_emod l 1000000
        have hd0 := Int.emod_nonneg l (show (1000000 : Int) ≠ 0 by decide)
        have hq0 : 0 ≤ l / 1000000 := Int.ediv_nonneg hl0 (by decide)
        refine ⟨⟨i + 1, f * 1000000 + r, l / 1000000, ?_, by omega, hq0, ?_, ?_, by omega, T2, k1.trans k2⟩, ?_⟩
        · rw [e6]; rfl
        · have h1 : (f * 1000000 + r + 1) * (l / 1000000) ≤ ((f + 1) * 1000000) * (l / 1000000) := Int.mul_le_mul_of_nonneg_right (by omega) hq0
          have h2 : (f + 1) * (1000000 * (l / 1000000)) ≤ (f + 1) * l := Int.mul_le_mul_of_nonneg_left (by omega) (by omega)
          rw [Int.mul_assoc] at h1
          omega
        · have h1 : 2 ^ (19 * (i + 1)) * (l / 1000000) ≤ 2 ^ (19 * i) * l := by
            rw [show 19 * (i + 1) = 19 * i + 19 by omega, Int.pow_add, Int.mul_assoc]
            refine Int.mul_le_mul_of_nonneg_left ?_ (Int.pow_nonneg (by decide))
            have e : (2 : Int) ^ 19 = 524288 := by decide
            rw [e]; omega
          exact Int.le_trans h1 hil
        · show (l / (10 : Int) ^ (6 : Int).toNat).toNat < l.toNat
          rw [e6]; omega
      · rintro σ1 H1 Q1 Q2 hQ ⟨v, hv, i, j, e1, e2, b, eb, q⟩
        exact ⟨v, hv, i, j, e1, e2, b, eb, hQ _ _ q⟩
    · rintro σ1 H1 ⟨f, l, rfl, T1, k1⟩
      refine ⟨_, rfl, _, rfl, _, _, rfl, rfl, hm, ?_⟩
      exact k _ _ (Int.emod_nonneg _ (by omega)) (Int.emod_lt_of_pos _ hm) T1 k1
end
end KA
namespace KA
open PySem PySem.Spec PyProof.Rows L2 DP
/-- a Dark's list of looks is not the deck -/
def Off (Z : Ad) (H : Hp) (d : Addr) (L : Int) (t g : Addr) : Prop := ∀ la dx, H d = some (.ins Z.C dx (df L la)) → la ≠ t ∧ la ≠ g
theorem DarkAt.keep {Z : Ad} {K : PySem.W.Frag} {H H' : Hp} {t g d : Addr} {n : Nat} {L : Int} {ls : List Lk} (D : DarkAt Z K H d L ls) (T : Tray H t g n) (k : Keep t g H H') (hla : Off Z H d L t g) : DarkAt Z K H' d L ls ∧ Off Z H' d L t g := by
  obtain ⟨dx, la, vs, h1, h2, h3⟩ := D.ex
  obtain ⟨a1, a2⟩ := hla la dx h1
  have hd : d ≠ t ∧ d ≠ g := by
    obtain ⟨⟨gs, f, c, e1, e2, r⟩, hne⟩ := T
    refine ⟨?_, ?_⟩ <;> rintro rfl
    · rw [h1] at e1; cases e1
    · rw [h1] at e2; cases e2
  have h1' := k _ _ h1 hd.1 hd.2
  refine ⟨⟨⟨dx, la, vs, h1', k _ _ h2 a1 a2, dpAll_tups (Keep.tups T k) _ _ (noLs_map noL_encL ls) h3⟩, D.pos, D.big, D.ok, D.len⟩, fun la' dx' e => ?_⟩
  rw [h1'] at e
  rw [← df_inj e]
  exact ⟨a1, a2⟩
theorem Off.same {Z : Ad} {K : PySem.W.Frag} {H H' : Hp} {d t g : Addr} {L : Int} {ls : List Lk} (O : Off Z H d L t g) (D : DarkAt Z K H d L ls) (S : Same H H') : Off Z H' d L t g := fun la dx e => by
  obtain ⟨dx', la', _, h1, _⟩ := D.ex
  have e2 := S _ _ h1
  rw [e] at e2
  rw [df_inj e2]
  exact O la' dx' h1
end KA
namespace KA
open PySem PySem.Spec PyProof.Rows L2 DP
def spHidden (K : PySem.W.Frag) : Sp := fun vs H Q _ => ∃ (t g : Addr) (n : Nat) (L m : Int), vs = [.ref t, .int L, .int m] ∧ Tray H t g n ∧ n < 2 ^ 50 ∧ 0 < L ∧ L ≤ 10 ^ 30 ∧ 0 < m ∧ m ≤ 60 ∧
  ∀ (H' : Hp) (p : Addr) (prs : List Pr), H p = none → At H H' t g (n + 8000) → LAt K H' p (prs.map encP) → Rises L prs → (prs.length : Int) ≤ m → Q (.ref p) H'
section
variable {P : Program} {w : World} {K : PySem.W.Frag} {mg : Str → Option Value} {base : Heap} {Z : Ad}
theorem ok_law_hidden (T : Tx K w mg Z) : FnOk P w K mg base CX0 3 Z.a_law_hidden Z.d_law_hidden P_law_hidden (spHidden K) := by
  refine T.F_law_hidden.ok sclaw_hidden (fun vs H Q E h => ?_) (fun cdv A outer s H vs Q E hr h => ?_)
  · obtain ⟨t, g, n, L, m, rfl, _⟩ := h
    rfl
  · obtain ⟨t, g, n, L, m, rfl, hT, hn, hL, hL30, hm0, hm60, k⟩ := h
    have hLb := bigL hL hL30
    have hb : ∀ m, m ≤ n + 8000 → m < 2 ^ 59 := fun m hm => Nat.lt_of_le_of_lt hm (Nat.lt_of_lt_of_le (Nat.add_lt_add_right hn 8000) (by decide))
    have A0 : At H H t g n := ⟨hT, Keep.refl _ _ _⟩
    refine ⟨_, (pss_cons (ps_set (i := 3) sclaw_hidden.nd rfl (Or.inr rfl) (pe_callB (sortedSetK (w := w) rfl) (by rfl) T.b_sorted (by decide +kernel) (pa_cons (pe_callTy (setIK (K := K) (w := w) rfl) (by rfl) T.b_set (by decide +kernel) (pa_cons (pe_lc (own := [("k", 4)]) (g := gName 4) (tt := tYes) rfl sclaw_hidden.nd (pi_range1 (by rfl) T.b_range (pa_cons (pv 2) pa_nil)) (blkOk_by (own := [("k", 4)]) (N := N_law_hidden) (sc := defScope slaw_hidden) (by decide +kernel)) (fun _ _ _ _ _ => (pg_name (i := 4) sclaw_hidden.nd rfl (Or.inl rfl))) (fun _ _ _ _ _ => pts_nil) (fun _ _ _ _ _ => (pe_call (ok_law_below T) (hr.mono (by decide)) (by rfl) T.g_law_below T.F_law_below.kp T.bb_law_below .nil pass0 (pa_cons (pv 0) (pa_cons (pv 1) pa_nil))))) pa_nil)) pa_nil)))
      (pss_cons (ps_set (i := 5) sclaw_hidden.nd rfl (Or.inr rfl) (pe_op op_sub (pe_call (ok_law_below T) (hr.mono (by decide)) (by rfl) T.g_law_below T.F_law_below.kp T.bb_law_below .nil pass0 (pa_cons (pv 0) (pa_cons (pe_op op_mulW pe_int (pv 1)) pa_nil))) (pe_ix (ixL (K := K)) (pe_lst (pa_cons pe_int (pa_cons (pv 1) (pa_cons (pe_op op_mulW pe_int (pv 1)) pa_nil)))) (pe_call (ok_law_take T) (hr.mono (by decide)) (by rfl) T.g_law_take T.F_law_take.kp T.bb_law_take .nil pass0 (pa_cons (pv 0) (pa_cons pe_int pa_nil))) (fun _ _ => rfl))))
      (pss_cons (ps_set (i := 6) sclaw_hidden.nd rfl (Or.inr rfl) (pe_callB (sortK (K := K)) (by rfl) T.b_sorted (by decide +kernel) (pa_cons (pe_lc (own := [("spot", 7)]) (g := gName 7) (tt := tYes) rfl sclaw_hidden.nd (pi_list (pv 3)) (blkOk_by (own := [("spot", 7)]) (N := N_law_hidden) (sc := defScope slaw_hidden) (by decide +kernel)) (fun _ _ _ _ _ => (pg_name (i := 7) sclaw_hidden.nd rfl (Or.inl rfl))) (fun _ _ _ _ _ => pts_nil) (fun _ _ _ _ _ => (pe_call (ok_law_below T) (hr.mono (by decide)) (by rfl) T.g_law_below T.F_law_below.kp T.bb_law_below .nil pass0 (pa_cons (pv 0) (pa_cons (pe_op op_add (pv 1) pe_int) pa_nil))))) pa_nil)))
      (pss_one (ps_ret (pe_lc (own := [("k", 4)]) (g := gName 4) (tt := tYes) rfl sclaw_hidden.nd (pi_range1 (by rfl) T.b_range (pa_cons (pe_callB (lenK (K := K)) (by rfl) T.b_len (by decide +kernel) (pa_cons (pv 3) pa_nil)) pa_nil)) (blkOk_by (own := [("k", 4)]) (N := N_law_hidden) (sc := defScope slaw_hidden) (by decide +kernel)) (fun _ _ _ _ _ => (pg_name (i := 4) sclaw_hidden.nd rfl (Or.inl rfl))) (fun _ _ _ _ _ => pts_nil) (fun _ _ _ _ _ => (pe_tup (pa_cons (pe_ix (ixL (K := K)) (pv 3) (pv 4) (fun _ _ => rfl)) (pa_cons (pe_op op_add (pv 5) (pe_ix (ixL (K := K)) (pv 6) (pv 4) (fun _ _ => rfl))) pa_nil)))))))))), ?_⟩
    -- spots
    refine ⟨_, rfl, m, rfl, by omega, by omega, fun D hD => ?_⟩
    obtain ⟨Dt, Dg⟩ := hT.at_ne hD
    refine lc_range (lo := 0) (n := m.toNat) (fun i H' => At H H' t g (n + 60 * i) ∧ ∃ ns : List Int, H' D = some (.lst (ns.map V.int)) ∧ ns.length = i ∧ ∀ x ∈ ns, 0 ≤ x ∧ x < L) ⟨A0.new hD, [], upd_same, rfl, fun _ z => absurd z (by simp)⟩ ?_ ?_
    · rintro i H' hi ⟨A, ns, hd, hl, hx⟩
      have hi6 : i < 60 := by omega
      refine ⟨rfl, yes_ite ?_⟩
      refine ⟨_, rfl, _, rfl, t, g, n + 60 * i, L, rfl, A.T, hL, lt_up hLb (by decide), hb _ (by omega), fun H2 r r0 r1 T2 k2 => ?_⟩
      have hd2 := k2 _ _ hd Dt Dg
      refine ⟨_, hd2, small1000 (by simp; omega), ((A.step T2 k2).acc hD Dt Dg).up (by omega), ns ++ [r], ?_, by simp [hl], fun x hx' => ?_⟩
      · rw [List.map_append]; exact upd_same
      · rcases List.mem_append.mp hx' with h | h
        · exact hx x h
        · rw [List.mem_singleton] at h; subst h; exact ⟨r0, r1⟩
    rintro H2 ⟨A2, ns, hd, hnl, hx⟩
    refine ⟨D, ns, rfl, SqL.of hd, by omega, fun q c hc hq => ?_⟩
    refine ⟨q, _, c, rfl, upd_same, by omega, fun ss p hpw hmem hsl hp => ?_⟩
    have A3 := (A2.new (o := SetO w q (fun j => decide (j ∈ ns)) c) hq).new (o := HO.lst (ss.map V.int)) hp
    have hpH : H p = none := (A2.new (o := SetO w q (fun j => decide (j ∈ ns)) c) hq).free hp
    obtain ⟨pt, pg⟩ := (A2.new (o := SetO w q (fun j => decide (j ∈ ns)) c) hq).T.at_ne hp
    generalize eH3 : upd (upd H2 q (SetO w q (fun j => decide (j ∈ ns)) c)) p (.lst (ss.map V.int)) = H3 at A3 ⊢
    have hp3 : H3 p = some (.lst (ss.map V.int)) := by rw [← eH3]; exact upd_same
    have hss : ∀ x ∈ ss, 0 ≤ x ∧ x < L := fun x hx' => hx x (of_decide_eq_true ((hmem x).mp hx'))
    have hss6 : ss.length ≤ m.toNat := by rw [hsl]; omega
    have hssne : ss ≠ [] := by
      cases ns with
      | nil => simp at hnl; omega
      | cons y r =>
        intro e
        have : y ∈ ss := (hmem y).mpr (by simp)
        rw [e] at this; cases this
    have A3' : At H H3 t g (n + 3600) := A3.up (by omega)
    -- begun
    have b3 : (3 * L).natAbs < 2 ^ 102 := by rw [Int.natAbs_mul]; exact Nat.lt_of_lt_of_le (Nat.mul_lt_mul_of_le_of_lt (Nat.le_refl 3) hLb (by decide)) (by decide)
    refine ⟨_, rfl, _, rfl, _, _, rfl, rfl, wide_mul (a := 10) (by decide) hLb (by decide) (by decide) (by decide), t, g, n + 3600, 3 * L, rfl, A3'.T, by omega, lt_up b3 (by decide), hb _ (by omega), fun H4 r r0 r1 T4 k4 => ?_⟩
    have A4 := A3'.step T4 k4
    have hp4 := k4 _ _ hp3 pt pg
    refine ⟨_, rfl, _, rfl, _, _, rfl, rfl, wide_mul (a := 10) (by decide) hLb (by decide) (by decide) (by decide), (by show 3 ≤ sizeLine; decide), fun p3 hp3' => ?_⟩
    obtain ⟨p3t, p3g⟩ := A4.T.at_ne hp3'
    have A5 := A4.new (o := HO.lst [V.int 0, .int L, .int (2 * L)]) hp3'
    have hp5 := (same_upd (o := HO.lst [V.int 0, .int L, .int (2 * L)]) hp3') _ _ hp4
    refine ⟨_, rfl, t, g, n + 3660, 3, rfl, A5.T, by decide, by decide, Nat.lt_trans (hb _ (by omega)) (by decide), fun H6 j j0 j1 T6 k6 => ?_⟩
    have A6 := A5.step T6 k6
    have hp6 := k6 _ _ hp5 pt pg
    obtain ⟨z, hz, hz0, hz1⟩ : ∃ z : Int, atI [V.int 0, .int L, .int (2 * L)] j = some (.int z) ∧ 0 ≤ z ∧ z ≤ 2 * L := by
      have : j = 0 ∨ j = 1 ∨ j = 2 := by omega
      rcases this with e | e | e <;> subst e
      · exact ⟨0, rfl, by omega, by omega⟩
      · exact ⟨L, rfl, by omega, by omega⟩
      · exact ⟨2 * L, rfl, by omega, by omega⟩
    refine ⟨p3, _, _, _, rfl, rfl, SqL.of (k6 _ _ upd_same p3t p3g), hz, _, _, rfl, rfl, ?_⟩
    have hbb : (r - z).natAbs < 2 ^ 104 := by
      have e1 : (2 : Nat) ^ 104 = 2 ^ 100 * 16 := by decide
      rw [e1]; clear b3; omega
    -- ends
    refine ⟨_, rfl, p, rfl, ⟨_, SqL.of hp6⟩, fun D2 hD2 => ?_⟩
    obtain ⟨D2t, D2g⟩ := A6.T.at_ne hD2
    have hD2H := A6.free hD2
    have hD2p : p ≠ D2 := ne_of_none hp6 hD2
    refine lc_list (K := K) (a := p) (xs := ss.map V.int) (fun i H' => At H H' t g (n + 3661 + 60 * i) ∧ H' p = some (.lst (ss.map V.int)) ∧ ∃ ns : List Int, H' D2 = some (.lst (ns.map V.int)) ∧ ns.length = i ∧ ∀ x ∈ ns, 0 ≤ x ∧ x ≤ L)
      ⟨(A6.new hD2).up (by omega), (upd_ne hD2p).trans hp6, [], upd_same, rfl, fun _ z => absurd z (by simp)⟩ (fun i H' _ ⟨_, h, _⟩ => SqL.of h) ?_ ?_
    · rintro i y H' hi ⟨A, hpk, ns2, hd, hl, hx2⟩
      have hi6 : i < 60 := by
        have := (List.getElem?_eq_some_iff.mp hi).1
        rw [List.length_map] at this; omega
      refine ⟨rfl, yes_ite ?_⟩
      refine ⟨_, rfl, _, rfl, _, _, rfl, rfl, t, g, n + 3661 + 60 * i, L + 1, rfl, A.T, by omega, lt_up (add_lt hLb (show (1 : Int).natAbs < 2 ^ 100 by decide)) (by decide), hb _ (by omega), fun H4 r r0 r1 T4 k4 => ?_⟩
      have hd2 := k4 _ _ hd D2t D2g
      refine ⟨_, hd2, small1000 (by simp; omega), ((A.step T4 k4).acc hD2H D2t D2g).up (by omega), (upd_ne hD2p).trans (k4 _ _ hpk pt pg), ns2 ++ [r], ?_, by simp [hl], fun x hx' => ?_⟩
      · rw [List.map_append]; exact upd_same
      · rcases List.mem_append.mp hx' with h | h
        · exact hx2 x h
        · rw [List.mem_singleton] at h; subst h; exact ⟨r0, by omega⟩
    rintro H7 ⟨A7, hp7, ns2, hd2, hnl2, hx2⟩
    rw [List.length_map] at A7 hnl2
    refine ⟨D2, ns2, rfl, SqL.of hd2, by omega, fun rs p2 hperm hsrt hp2 => ?_⟩
    have hrl : rs.length = ss.length := by rw [hperm.length_eq, hnl2]
    have hrs : ∀ x ∈ rs, 0 ≤ x ∧ x ≤ L := fun x hx' => hx2 x (hperm.mem_iff.mp hx')
    obtain ⟨p2t, p2g⟩ := A7.T.at_ne hp2
    have hp2p : p ≠ p2 := ne_of_none hp7 hp2
    have A8 : At H (upd H7 p2 (.lst (rs.map V.int))) t g (n + 8000) := (A7.new hp2).up (by omega)
    have hp8 : (upd H7 p2 (.lst (rs.map V.int))) p = some (.lst (ss.map V.int)) := (upd_ne hp2p).trans hp7
    have hq8 : (upd H7 p2 (.lst (rs.map V.int))) p2 = some (.lst (rs.map V.int)) := upd_same
    generalize upd H7 p2 (.lst (rs.map V.int)) = H8 at A8 hp8 hq8 ⊢
    refine ⟨_, rfl, p, _, rfl, .inl (SqL.of hp8), _, rfl, ?_, ?_, fun D3 hD3 => ?_⟩
    · exact Int.le_trans (by decide) (Int.natCast_nonneg _)
    · have : ((ss.map V.int).length : Int) ≤ 60 := by rw [List.length_map]; omega
      exact Int.lt_of_le_of_lt this (by decide)
    obtain ⟨D3t, D3g⟩ := A8.T.at_ne hD3
    have hD3H := A8.free hD3
    have hD3p : p ≠ D3 := ne_of_none hp8 hD3
    have hD3q : p2 ≠ D3 := ne_of_none hq8 hD3
    have hzl : (List.zipWith (fun s u => ((s, r - z + u) : Pr)) ss rs).length = ss.length := by rw [List.length_zipWith, hrl]; omega
    refine lc_range (lo := 0) (n := ((ss.map V.int).length : Int).toNat) (fun i H' => At H H' t g (n + 8000) ∧ H' p = some (.lst (ss.map V.int)) ∧ H' p2 = some (.lst (rs.map V.int)) ∧ ∃ vs, H' D3 = some (.lst vs) ∧ vs.length = i ∧ DpAll K H' vs (((List.zipWith (fun s u => ((s, r - z + u) : Pr)) ss rs).take i).map encP))
      ⟨A8.new hD3, (upd_ne hD3p).trans hp8, (upd_ne hD3q).trans hq8, [], upd_same, rfl, .nil⟩ ?_ ?_
    · rintro i H' hi ⟨A, hpk, hqk, vs, hd, hvl, hds⟩
      have hi' : i < ss.length := by simpa using hi
      have hss' : ss[i]? = some ss[i] := List.getElem?_eq_getElem hi'
      have hrs' : rs[i]? = some (rs[i]'(by omega)) := List.getElem?_eq_getElem (by omega)
      refine ⟨rfl, yes_ite ?_⟩
      refine ⟨_, rfl, _, rfl, p, _, _, .int ss[i], rfl, rfl, SqL.of hpk, at_of (j := i) (by simp) (by rw [List.getElem?_map, hss']; rfl), _, rfl, _, rfl, _, rfl, p2, _, _, .int (rs[i]'(by omega)), rfl, rfl, SqL.of hqk, at_of (j := i) (by simp) (by rw [List.getElem?_map, hrs']; rfl), _, _, rfl, rfl, (by show 2 ≤ sizeLine; decide), fun p4 hp4 => ?_⟩
      have S4 := same_upd (o := HO.tup [V.int ss[i], .int (r - z + rs[i]'(by omega))]) hp4
      have hd4 := S4 _ _ hd
      refine ⟨vs, hd4, small1000 (by omega), (A.new hp4).acc hD3H D3t D3g, (upd_ne hD3p).trans (S4 _ _ hpk), (upd_ne hD3q).trans (S4 _ _ hqk), _, upd_same, by simp [hvl], ?_⟩
      have hz : (List.zipWith (fun s u => ((s, r - z + u) : Pr)) ss rs)[i]? = some (ss[i], r - z + rs[i]'(by omega)) := by
        simp [List.getElem?_zipWith, hss', hrs']
      rw [take_snoc hz, List.map_append]
      exact acc_step hd4 (noLs_map noL_encP _) rfl (dpAll_mono S4 _ _ hds) (.tup (SqT.of upd_same) (.cons (.int _) (.cons (.int _) .nil)))
    · rintro H' ⟨A, hpk, hqk, vs, hd, hvl, hds⟩
      have e : ((ss.map V.int).length : Int).toNat = ss.length := by simp
      rw [e, List.take_of_length_le (by rw [hzl]; exact Nat.le_refl _)] at hds
      have hof : ∀ s ∈ List.zipWith (fun s u => ((s, r - z + u) : Pr)) ss rs, ∃ (i : Nat) (h1 : i < ss.length) (h2 : i < rs.length), s = (ss[i], r - z + rs[i]) := fun s hs => by
        obtain ⟨i, hi, e⟩ := List.getElem_of_mem hs
        rw [List.getElem_zipWith] at e
        rw [hzl] at hi
        exact ⟨i, hi, by omega, e.symm⟩
      refine k H' D3 _ hD3H A ⟨vs, hd, hds⟩ ⟨fun e => ?_, ?_, fun s hs => ?_, r - z, hbb, fun s hs => ?_⟩ (by rw [hzl]; omega)
      · have := congrArg List.length e
        rw [hzl] at this
        exact hssne (List.eq_nil_of_length_eq_zero this)
      · rw [List.pairwise_iff_getElem]
        intro i j hi hj hij
        rw [List.getElem_zipWith, List.getElem_zipWith]
        rw [hzl] at hi hj
        have h1 := (List.pairwise_iff_getElem.mp hpw) i j hi hj hij
        have h2 := (List.pairwise_iff_getElem.mp hsrt) i j (by omega) (by omega) hij
        exact ⟨h1, by show r - z + rs[i]'(by omega) ≤ r - z + rs[j]'(by omega); omega⟩
      · obtain ⟨i, h1, h2, rfl⟩ := hof s hs
        exact hss _ (List.getElem_mem h1)
      · obtain ⟨i, h1, h2, rfl⟩ := hof s hs
        have h3 := hrs _ (List.getElem_mem h2)
        exact ⟨by show r - z ≤ r - z + rs[i]; omega, by show r - z + rs[i] ≤ r - z + L; omega⟩
end
end KA
namespace KA
open PySem PySem.Spec PyProof.Rows L2 DP
/-! ### a hand that is told -/
/-- where each step leads x -/
def leads (L : Int) (steps : List Pr) (x : Int) : List Int := steps.map fun s => s.2 + (x - s.1) / L * L
def IsMaxL (l : List Int) (m : Int) : Prop := m ∈ l ∧ ∀ y ∈ l, y ≤ m
def SzP (n : Nat) (s : Pr) : Prop := s.1.natAbs < 2 ^ n ∧ s.2.natAbs < 2 ^ n
/-- the steps as looks; led back -/
def fr1 (s : Pr) : Lk := ("from", s.1, s.2)
def up1 (s : Pr) : Lk := ("upto", s.2, s.1)
def frs (ss : List Pr) : List Lk := ss.map fr1
def ups (ss : List Pr) : List Lk := ss.map up1
theorem bk_frs (ss : List Pr) : bk (frs ss) = ups ss := by
  induction ss with
  | nil => rfl
  | cons s ss ih =>
    show bk1 (fr1 s) ++ bk (frs ss) = up1 s :: ups ss
    rw [ih]; rfl
theorem clash_from {L : Int} {a b : Lk} (ha : a.1 = "from") (hb : b.1 = "from") : clashB a b L = false := by
  have h : onSide "fast" "from" = false := by decide +kernel
  unfold clashB tooFar
  rw [ha, hb, h]; simp
theorem home_home {L : Int} (hL : 0 < L) (l : Lk) : home L (home L l) = home L l := by
  have e : (home L l).2.1 / L = 0 := by
    show (l.2.1 - l.2.1 / L * L) / L = 0
    rw [Int.sub_mul_ediv_right _ _ (by omega : L ≠ 0), Int.sub_self]
  show ((home L l).1, (home L l).2.1 - (home L l).2.1 / L * L, (home L l).2.2 - (home L l).2.1 / L * L) = home L l
  rw [e, Int.zero_mul, Int.sub_zero, Int.sub_zero]
theorem home_turn {L : Int} (hL : 0 < L) (w : Str) (x y k : Int) : home L (w, x - k * L, y - k * L) = home L (w, x, y) := by
  have e : (x - k * L) / L = x / L - k := Int.sub_mul_ediv_right _ _ (by omega : L ≠ 0)
  show (w, x - k * L - (x - k * L) / L * L, y - k * L - (x - k * L) / L * L) = (w, x - x / L * L, y - x / L * L)
  rw [e, Int.sub_mul]
  congr 1
  congr 1 <;> omega
theorem home_up {L : Int} (hL : 0 < L) (l : Lk) : home L (upL (home L l)) = home L (upL l) := home_turn hL "upto" l.2.2 l.2.1 (l.2.1 / L)
theorem home_fr {L : Int} (hL : 0 < L) (l : Lk) : home L (frL (home L l)) = home L (frL l) := by
  have h := home_turn hL "from" (l.2.2 + 1) (l.2.1 + 1) (l.2.1 / L)
  have e1 : l.2.2 - l.2.1 / L * L + 1 = l.2.2 + 1 - l.2.1 / L * L := by omega
  have e2 : l.2.1 - l.2.1 / L * L + 1 = l.2.1 + 1 - l.2.1 / L * L := by omega
  show home L ("from", l.2.2 - l.2.1 / L * L + 1, l.2.1 - l.2.1 / L * L + 1) = _
  rw [e1, e2]; exact h
theorem bk_home {L : Int} (hL : 0 < L) {ls hs : List Lk} (hh : ∀ o, o ∈ hs ↔ ∃ l ∈ ls, o = home L l) (o : Lk) : (∃ q ∈ bk hs, o = home L q) ↔ ∃ q ∈ bk ls, o = home L q := by
  constructor
  · rintro ⟨q, hq, rfl⟩
    obtain ⟨h, hh', c⟩ := mem_bk.mp hq
    obtain ⟨l, hl, rfl⟩ := (hh h).mp hh'
    rcases c with ⟨n, rfl⟩ | ⟨n, rfl⟩
    · exact ⟨upL l, mem_bk.mpr ⟨l, hl, .inl ⟨n, rfl⟩⟩, home_up hL l⟩
    · exact ⟨frL l, mem_bk.mpr ⟨l, hl, .inr ⟨n, rfl⟩⟩, home_fr hL l⟩
  · rintro ⟨q, hq, rfl⟩
    obtain ⟨l, hl, c⟩ := mem_bk.mp hq
    rcases c with ⟨n, rfl⟩ | ⟨n, rfl⟩
    · exact ⟨upL (home L l), mem_bk.mpr ⟨home L l, (hh _).mpr ⟨l, hl, rfl⟩, .inl ⟨n, rfl⟩⟩, (home_up hL l).symm⟩
    · exact ⟨frL (home L l), mem_bk.mpr ⟨home L l, (hh _).mpr ⟨l, hl, rfl⟩, .inr ⟨n, rfl⟩⟩, (home_fr hL l).symm⟩
theorem bk_len (ls : List Lk) : (bk ls).length ≤ 2 * ls.length := by
  induction ls with
  | nil => simp [bk]
  | cons l ls ih =>
    have e : bk (l :: ls) = bk1 l ++ bk ls := by simp [bk]
    have h1 : (bk1 l).length ≤ 2 := by
      unfold bk1 bkA bkB
      split <;> split <;> simp
    rw [e, List.length_append, List.length_cons]
    omega
theorem home_sz {n : Nat} {L : Int} {l : Lk} (h : 0 < L) (hb : L.natAbs < 2 ^ 200) (hn : 200 ≤ n) (hl : Sized n l) : Sized (n + 2) (home L l) := by
  have h0 := emod_small (x := l.2.1) h hb
  refine ⟨lt_up h0 (by omega), ?_⟩
  show (l.2.2 - l.2.1 / L * L).natAbs < 2 ^ (n + 2)
  have e : l.2.2 - l.2.1 / L * L = l.2.2 + ((l.2.1 - l.2.1 / L * L) - l.2.1) := by omega
  rw [e]
  have h1 : ((l.2.1 - l.2.1 / L * L) - l.2.1).natAbs < 2 ^ (n + 1) := sub_lt (lt_up h0 hn) hl.1
  exact add_lt (lt_up hl.2 (by omega)) h1
/-- led back is where it comes from: not short of m by x on, just from the place on that is told -/
theorem gal {L : Int} (hL : 0 < L) {ss : List Pr} {x y b m : Int} (hb : IsBest "fast" (ups ss) y L b) (hm : IsMaxL (leads L ss x) m) : y ≤ m ↔ b ≤ x := by
  obtain ⟨⟨l, hl, eb⟩, hb2⟩ := hb
  obtain ⟨q, hq, rfl⟩ := List.mem_map.mp hl
  rw [plc_fast] at eb
  have eb' : q.1 - (q.2 - y) / L * L = b := eb
  constructor
  · intro h
    obtain ⟨s, hs, es⟩ := List.mem_map.mp hm.1
    have h1 := hb2 (up1 s) (List.mem_map.mpr ⟨s, hs, rfl⟩)
    rw [if_neg slow_ne, plc_fast] at h1
    have h1' : b ≤ s.1 - (s.2 - y) / L * L := h1
    have h2 := div_le (a := x - s.1) hL
    have h3 : (-((x - s.1) / L)) * L ≤ s.2 - y := by rw [Int.neg_mul]; omega
    have h4 := le_div hL h3
    rw [Int.neg_mul] at h4
    omega
  · intro h
    have h1 := hm.2 _ (List.mem_map.mpr ⟨q, hq, rfl⟩)
    have h2 : (-((q.2 - y) / L)) * L ≤ x - q.1 := by rw [Int.neg_mul]; omega
    have h3 := le_div hL h2
    rw [Int.neg_mul] at h3
    have h4 := div_le (a := q.2 - y) hL
    omega
/-- a hand's fields -/
def hf (d b : Addr) : List (Str × V) := [("_dark", .ref d), ("_back", .ref b)]
theorem hf_dark (d b : Addr) : (hf d b).lookup ("_dark" : Str) = some (.ref d) := by simp [hf, List.lookup]
theorem hf_back (d b : Addr) : (hf d b).lookup ("_back" : Str) = some (.ref b) := by
  have h : (("_back" : Str) == ("_dark" : Str)) = false := by decide +kernel
  simp [hf, List.lookup, h]
theorem hf_no (d b : Addr) {m : Str} (h1 : (m == ("_dark" : Str)) = false) (h2 : (m == ("_back" : Str)) = false) : (hf d b).lookup m = none := by simp [hf, List.lookup, h1, h2]
theorem hf_put1 (d : Addr) : putF "_dark" (.ref d) [] = [(("_dark" : Str), V.ref d)] := rfl
theorem hf_put2 (d b : Addr) : putF "_back" (.ref b) [(("_dark" : Str), V.ref d)] = hf d b := by
  show (if ("_dark" : Str) = "_back" then _ else _) = _
  rw [if_neg (by decide +kernel)]; rfl
theorem hf1_dark (d : Addr) : [(("_dark" : Str), V.ref d)].lookup ("_dark" : Str) = some (.ref d) := by simp [List.lookup]
structure HandAt (Z : Ad) (K : PySem.W.Frag) (H : Hp) (h d b : Addr) (L : Int) (ss : List Pr) : Prop where
  ex : ∃ dx, H h = some (.ins Z.C_Hand dx (hf d b))
  dark : DarkAt Z K H d L (heardAll L (frs ss))
  back : DarkAt Z K H b L (heardAll L (bk (heardAll L (frs ss))))
theorem HandAt.same {Z : Ad} {K : PySem.W.Frag} {H H' : Hp} {h d b : Addr} {L : Int} {ss : List Pr} (A : HandAt Z K H h d b L ss) (S : Same H H') : HandAt Z K H' h d b L ss := by
  obtain ⟨dx, e⟩ := A.ex
  exact ⟨⟨dx, S _ _ e⟩, A.dark.same S, A.back.same S⟩
theorem HandAt.keep {Z : Ad} {K : PySem.W.Frag} {H H' : Hp} {t g h d b : Addr} {n : Nat} {L : Int} {ss : List Pr} (A : HandAt Z K H h d b L ss) (T : Tray H t g n) (k : Keep t g H H') (o1 : Off Z H d L t g) (o2 : Off Z H b L t g) : HandAt Z K H' h d b L ss ∧ Off Z H' d L t g ∧ Off Z H' b L t g := by
  obtain ⟨dx, e⟩ := A.ex
  have hh : h ≠ t ∧ h ≠ g := by
    obtain ⟨⟨gs, f, c, e1, e2, r⟩, hne⟩ := T
    refine ⟨?_, ?_⟩ <;> rintro rfl
    · rw [e] at e1; cases e1
    · rw [e] at e2; cases e2
  obtain ⟨d1, o1'⟩ := A.dark.keep T k o1
  obtain ⟨b1, o2'⟩ := A.back.keep T k o2
  exact ⟨⟨⟨dx, k _ _ e hh.1 hh.2⟩, d1, b1⟩, o1', o2'⟩
def spHand (Z : Ad) (K : PySem.W.Frag) : Sp := fun vs H Q _ => ∃ (h dx : Addr) (v : V) (L : Int) (ss : List Pr), vs = [.ref h, .int L, v] ∧ H h = some (.ins Z.C_Hand dx []) ∧ Dp K H v (.list (ss.map encP)) ∧ 0 < ss.length ∧ ss.length ≤ 28 ∧ 0 < L ∧ L.natAbs < 2 ^ 200 ∧ (∀ s ∈ ss, SzP 280 s) ∧
  ∀ H' d b, HandAt Z K H' h d b L ss → (∀ la dx, H' d = some (.ins Z.C dx (df L la)) → H la = none) → (∀ la dx, H' b = some (.ins Z.C dx (df L la)) → H la = none) → Out h H H' → Q .non H'
def spHBack (Z : Ad) (K : PySem.W.Frag) : Sp := fun vs H Q _ => ∃ (h d b : Addr) (L y : Int) (ss : List Pr), vs = [.ref h, .int y] ∧ HandAt Z K H h d b L ss ∧ 0 < ss.length ∧ y.natAbs < 2 ^ 400 ∧
  ∀ m H', Same H H' → IsBest "fast" (ups ss) y L m → Q (.int m) H'
theorem ups_fast (ss : List Pr) : sideOf "fast" (ups ss) = ups ss := List.filter_eq_self.mpr fun l hl => by
  obtain ⟨s, _, rfl⟩ := List.mem_map.mp hl
  show onSide "fast" "upto" = true
  decide +kernel
/-- what the Dark led back tells is what the steps tell -/
theorem back_best {L : Int} (hL : 0 < L) {ss : List Pr} {y m : Int} (h : IsBest "fast" (sideOf "fast" (heardAll L (bk (heardAll L (frs ss))))) y L m) : IsBest "fast" (ups ss) y L m := by
  have h2 := best_home hL (ls := bk (frs ss)) (fun o => (heardAll_mem o).trans (bk_home hL heardAll_mem o)) h
  rwa [bk_frs, ups_fast] at h2
theorem back_some {L : Int} {ss : List Pr} (h0 : 0 < ss.length) : sideOf "fast" (heardAll L (bk (heardAll L (frs ss)))) ≠ [] := by
  intro e
  obtain ⟨s, hs⟩ := List.exists_mem_of_length_pos h0
  have h1 : home L (fr1 s) ∈ heardAll L (frs ss) := (heardAll_mem _).mpr ⟨fr1 s, List.mem_map.mpr ⟨s, hs, rfl⟩, rfl⟩
  have h2 : upL (home L (fr1 s)) ∈ bk (heardAll L (frs ss)) := mem_bk.mpr ⟨_, h1, .inl ⟨by show ¬ (("from" : Str) = "upto"); decide +kernel, rfl⟩⟩
  have h3 : home L (upL (home L (fr1 s))) ∈ sideOf "fast" (heardAll L (bk (heardAll L (frs ss)))) := mem_side.mpr ⟨(heardAll_mem _).mpr ⟨_, h2, rfl⟩, by show onSide "fast" "upto" = true; decide +kernel⟩
  rw [e] at h3; cases h3
section
variable {P : Program} {w : World} {K : PySem.W.Frag} {mg : Str → Option Value} {base : Heap} {Z : Ad}
theorem ok_Hand_init (T : Tx K w mg Z) : FnOk P w K mg base CX0 7 Z.a_Hand_init Z.d_Hand_init P_Hand_init (spHand Z K) := by
  refine T.F_Hand_init.ok scHand_init (fun vs H Q E h => ?_) (fun cdv A outer s H vs Q E hr h => ?_)
  · obtain ⟨h, dx, v, L, ss, rfl, _⟩ := h
    rfl
  · obtain ⟨h, dx, v, L, ss, rfl, hh, hv, h0, h28, hL, hLb, hsz, k⟩ := h
    obtain ⟨a, xs, rfl, ha, hd⟩ := dp_list hv
    have hxl : xs.length = ss.length := by rw [dpAll_len hd, List.length_map]
    refine ⟨_, (pss_cons (ps_fld (pv 0) (pe_make T.mk_Dark (ok_Dark_init T) (hr.mono (by decide)) (by rfl) T.g_Dark T.bb_Dark_init .nil pass0 (pa_cons (pv 1) pa_nil)) rfl)
      (C8.pss_cut (ps_if (pt_not (pt_truth (pv 2) (by intro _; rfl))) (pss_one ps_never) pss_nil)
      (pss_cons (ps_for PassesOwn.never rfl (pi_list (pv 2)) (tupK (K := K) (by rfl) (pgs_cons (pg_name (i := 3) scHand_init.nd rfl (Or.inl rfl)) (pgs_cons (pg_name (i := 4) scHand_init.nd rfl (Or.inl rfl)) pgs_nil))) (pss_one (ps_expr (pe_meth (fldK (K := K) (pv 0) rfl) T.cl T.m_Dark_hear (ok_Dark_hear T) (hr.mono (by decide)) T.bb_Dark_hear .nil pass0 (pa_cons pe_str (pa_cons (pv 3) (pa_cons (pv 4) pa_nil)))))))
      (pss_one (ps_fld (pv 0) (pe_meth0 (fldK (K := K) (pv 0) rfl) T.cl T.m_Dark_led_back (ok_Dark_led_back T) (hr.mono (by decide)) T.bb_Dark_led_back .nil pass0) rfl))))), ?_⟩
    refine ⟨_, rfl, fun d dxd hdn hdx hne => ?_⟩
    have S0 : Same H (upd (upd H dxd (.own d)) d (.ins Z.C dxd [])) := same_made hdn hdx
    refine ⟨d, dxd, L, rfl, upd_same, hL, hLb, fun H1 D1 f1 k1 => ⟨rfl, ?_⟩⟩
    have S1 : Same H H1 := fun b o e => k1 b o (S0 b o e) (ne_of_none e hdn)
    have hdh : d ≠ h := Ne.symm (ne_of_none hh hdn)
    have gh1 := S1 _ _ hh
    refine ⟨_, rfl, h, Z.C_Hand, dx, [], rfl, gh1, T.cl_Hand, T.nHand__dark, (by show 0 < 1000; decide), ?_⟩
    rw [hf_put1]
    have O2 : Out h H1 (upd H1 h (.ins Z.C_Hand dx [(("_dark" : Str), V.ref d)])) := fun b o e n => (upd_ne n).trans e
    have gh2 : (upd H1 h (.ins Z.C_Hand dx [(("_dark" : Str), V.ref d)])) h = some (.ins Z.C_Hand dx [(("_dark" : Str), V.ref d)]) := upd_same
    have D2 := O2.dark D1 gh1 hdh
    have F2 : ∀ la dx', (upd H1 h (.ins Z.C_Hand dx [(("_dark" : Str), V.ref d)])) d = some (.ins Z.C dx' (df L la)) → H la = none := fun la dx' e => by
      rw [upd_ne hdh] at e
      exact S0.free (f1 la dx' e)
    generalize upd H1 h (.ins Z.C_Hand dx [(("_dark" : Str), V.ref d)]) = H2 at O2 gh2 D2 F2 ⊢
    have O : Out h H H2 := fun b o e n => O2 b o (S1 b o e) n
    have ha2 := O.sqL hh ha
    refine ⟨fun σ' H' => σ' = [some (.ref h), some (.int L), some (.ref a), none, none] ∧ H' = H2, ?_, ?_⟩
    · refine ⟨_, rfl, _, .inl ⟨xs, ha2, rfl⟩, ?_⟩
      cases xs with
      | nil => simp at hxl; omega
      | cons y ys => exact iteF ⟨rfl, rfl⟩
    · rintro σ1 H3 ⟨rfl, rfl⟩
      refine ⟨_, rfl, a, rfl, ⟨_, ha2⟩, ?_⟩
      refine for_list (K := K) (a := a) (xs := xs) (fun i σ' H' => ∃ u3 u4, σ' = [some (.ref h), some (.int L), some (.ref a), u3, u4] ∧ (∀ b o, H3 b = some o → b ≠ d → H' b = some o) ∧ DarkAt Z K H' d L ((frs (ss.take i)).foldl (heard L) []) ∧ ∀ la dx', H' d = some (.ins Z.C dx' (df L la)) → H la = none)
        ⟨_, _, rfl, fun _ _ e _ => e, D2, F2⟩ (fun i σ' H' _ ⟨_, _, _, kd, _⟩ => ?_) ?_ ?_
      · obtain ⟨dx', la', vs', q1, _⟩ := D2.ex
        exact Out.sqL (d := d) kd q1 ha2
      · rintro i y σ' H' hi ⟨u3, u4, rfl, kd, D, F⟩
        obtain ⟨e, hdi, hdy⟩ := dpAll_get hd hi
        obtain ⟨s, hs, rfl⟩ := map_at hdi
        have hss := hsz s (List.mem_of_getElem? hs)
        have hi28 : i < ss.length := (List.getElem?_eq_some_iff.mp hs).1
        obtain ⟨dx2, la2, vs2, q1, q2, q3⟩ := id D2.ex
        have tt : Tups H H' := (O.tups hh).trans (Out.tups (d := d) kd q1)
        obtain ⟨p, rfl, hp⟩ := dp_pair (dp_tups tt _ _ (noL_encP s) hdy)
        refine ⟨_, _, rfl, hp, rfl, _, _, rfl, _, _, rfl, rfl, ?_⟩
        have gh' := kd _ _ gh2 (Ne.symm hdh)
        obtain ⟨dx3, la3, vs3, r1, r2, r3⟩ := id D.ex
        refine ⟨_, rfl, h, Z.C_Hand, dx, _, _, rfl, gh', T.cl_Hand, T.nHand__dark, hf1_dark d, d, dx3, _, rfl, r1, df_no _ _ (by decide +kernel) (by decide +kernel), _, rfl, _, rfl, d, L, (frs (ss.take i)).foldl (heard L) [], fr1 s, rfl, D, .inr (.inl rfl), ⟨lt_up hss.1 (by decide), lt_up hss.2 (by decide)⟩, ?_, fun o ho => ?_, fun H4 D4 f4 k4 => ?_⟩
        · have h5 := fold_len (L := L) (frs (ss.take i)) []
          have h6 : (frs (ss.take i)).length ≤ i := by unfold frs; rw [List.length_map, List.length_take]; omega
          simp only [List.length_nil] at h5; omega
        · rcases (fold_mem _ _ _).mp ho with h | ⟨q, hq, rfl⟩
          · cases h
          · obtain ⟨s', _, rfl⟩ := List.mem_map.mp hq
            exact clash_from rfl rfl
        · refine ⟨_, _, rfl, fun b o e n => k4 b o (kd b o e n) n, ?_, fun la dx' e => ?_⟩
          · have e : frs (ss.take (i + 1)) = frs (ss.take i) ++ [fr1 s] := by
              unfold frs; rw [take_snoc hs, List.map_append]; rfl
            rw [e, List.foldl_append]; exact D4
          · rcases f4 la dx' e with ⟨dx'', e'⟩ | e'
            · exact F la dx'' e'
            · cases hc : H la with
              | none => rfl
              | some o =>
                have hlh : la ≠ d := fun q => by rw [q, hdn] at hc; cases hc
                by_cases hh2 : la = h
                · rw [hh2, gh'] at e'; cases e'
                · rw [kd _ _ (O _ _ hc hh2) hlh] at e'; cases e'
      · rintro σ' H' ⟨u3, u4, rfl, kd, D, F⟩
        rw [List.take_of_length_le (by rw [hxl]; exact Nat.le_refl _)] at D
        replace D : DarkAt Z K H' d L (heardAll L (frs ss)) := D
        have gh' := kd _ _ gh2 (Ne.symm hdh)
        obtain ⟨dx3, la3, vs3, r1, r2, r3⟩ := id D.ex
        have hfl : (heardAll L (frs ss)).length ≤ 28 := by
          have h5 := fold_len (L := L) (frs ss) []
          have h6 : (frs ss).length = ss.length := by unfold frs; rw [List.length_map]
          unfold heardAll
          simp only [List.length_nil] at h5; omega
        have hsz2 : ∀ l ∈ heardAll L (frs ss), Sized 290 l := fun l hl => by
          obtain ⟨q, hq, rfl⟩ := (heardAll_mem _).mp hl
          obtain ⟨s, hs, rfl⟩ := List.mem_map.mp hq
          have hs2 := hsz s hs
          exact (home_sz (n := 280) hL hLb (by decide) (⟨hs2.1, hs2.2⟩ : Sized 280 (fr1 s))).up (by decide)
        have hnc : ∀ x ∈ heardAll L (frs ss), ∀ y ∈ heardAll L (frs ss), clashB x y L = false := fun x hx y hy => by
          obtain ⟨q, hq, rfl⟩ := (heardAll_mem _).mp hx
          obtain ⟨q2, hq2, rfl⟩ := (heardAll_mem _).mp hy
          obtain ⟨s, _, rfl⟩ := List.mem_map.mp hq
          obtain ⟨s2, _, rfl⟩ := List.mem_map.mp hq2
          exact clash_from rfl rfl
        refine ⟨_, rfl, h, Z.C_Hand, dx, _, _, rfl, gh', T.cl_Hand, T.nHand__dark, hf1_dark d, d, dx3, _, rfl, r1, df_no _ _ (by decide +kernel) (by decide +kernel), d, L, heardAll L (frs ss), rfl, D, hsz2, hnc, Nat.le_trans (bk_len _) (by omega), fun H4 b hb S4 B4 f4 => ?_⟩
        have gh4 := S4 _ _ gh'
        have hbh : b ≠ h := Ne.symm (ne_of_none gh' hb)
        refine ⟨_, rfl, h, Z.C_Hand, dx, _, rfl, gh4, T.cl_Hand, T.nHand__back, (by show 1 < 1000; decide), ?_⟩
        rw [hf_put2]
        have O5 : Out h H4 (upd H4 h (.ins Z.C_Hand dx (hf d b))) := fun b o e n => (upd_ne n).trans e
        have fre : ∀ la, H' la = none → H la = none := fun la e' => by
          cases hc : H la with
          | none => rfl
          | some o =>
            have hlh : la ≠ d := fun q => by rw [q, hdn] at hc; cases hc
            by_cases hh2 : la = h
            · rw [hh2, gh'] at e'; cases e'
            · rw [kd _ _ (O _ _ hc hh2) hlh] at e'; cases e'
        refine k _ d b ⟨⟨dx, upd_same⟩, O5.dark (D.same S4) gh4 hdh, O5.dark B4 gh4 hbh⟩ (fun la dx' e => ?_) (fun la dx' e => ?_) fun c o e n => (upd_ne n).trans (S4 _ _ (kd c o (O c o e n) (fun q => by rw [q, hdn] at e; cases e)))
        · rw [upd_ne hdh] at e
          obtain ⟨dx5, la5, vs5, z1, _⟩ := D.ex
          have z2 := S4 _ _ z1
          rw [e] at z2
          rw [df_inj z2]
          exact F la5 dx5 z1
        · rw [upd_ne hbh] at e
          exact fre _ (f4 la dx' e)
theorem ok_Hand_back (T : Tx K w mg Z) : FnOk P w K mg base CX0 5 Z.a_Hand_back Z.d_Hand_back P_Hand_back (spHBack Z K) := by
  refine T.F_Hand_back.ok scHand_back (fun vs H Q E h => ?_) (fun cdv A outer s H vs Q E hr h => ?_)
  · obtain ⟨h, d, b, L, y, ss, rfl, _⟩ := h
    rfl
  · obtain ⟨h, d, b, L, y, ss, rfl, A, h0, hy, k⟩ := h
    obtain ⟨dx, e⟩ := A.ex
    obtain ⟨dx3, la3, vs3, r1, r2, r3⟩ := id A.back.ex
    refine ⟨_, (pss_one (ps_ret (pe_meth (fldK (K := K) (pv 0) rfl) T.cl T.m_Dark_greatest (ok_Dark_greatest T) (hr.mono (by decide)) T.bb_Dark_greatest .nil pass0 (pa_cons (pv 1) pa_nil)))), ?_⟩
    refine ⟨_, rfl, h, Z.C_Hand, dx, _, _, rfl, e, T.cl_Hand, T.nHand__back, hf_back _ _, b, dx3, _, rfl, r1, df_no _ _ (by decide +kernel) (by decide +kernel), _, rfl, b, L, _, y, rfl, A.back, hy, fun v H' S tl => ?_⟩
    rcases tl with ⟨e, _⟩ | ⟨m, rfl, hb⟩
    · exact absurd e (back_some h0)
    · exact k m H' S (back_best A.back.pos hb)
end
end KA
namespace KA
open PySem PySem.Spec PyProof.Rows L2 DP
/-! ### steps of a hand -/
def spStepsOf (K : PySem.W.Frag) : Sp := fun vs H Q _ => ∃ (t g : Addr) (n : Nat) (L : Int), vs = [.ref t, .int L] ∧ Tray H t g n ∧ n < 2 ^ 49 ∧ 0 < L ∧ L ≤ 10 ^ 30 ∧
  ∀ (H' : Hp) (p : Addr) (prs : List Pr), H p = none → At H H' t g (n + 9000) → LAt K H' p (prs.map encP) → 0 < prs.length → prs.length ≤ 24 → (∀ s ∈ prs, SzP 110 s) → Q (.ref p) H'
/-- the same steps, some turns on, in any order -/
structure AfarOf (L : Int) (ss qs : List Pr) : Prop where
  of : ∀ q ∈ qs, ∃ s ∈ ss, ∃ k : Int, q = (s.1 + k * L, s.2 + k * L)
  all : ∀ s ∈ ss, ∃ q ∈ qs, ∃ k : Int, q = (s.1 + k * L, s.2 + k * L)
theorem mem_erase {α : Type} {x : α} : ∀ {l : List α} (i : Nat), x ∈ l → l[i]? = some x ∨ x ∈ l.eraseIdx i
  | [], _, h => by cases h
  | a :: l, 0, h => by
    rcases List.mem_cons.mp h with e | e
    · exact .inl (by rw [e]; rfl)
    · exact .inr e
  | a :: l, i + 1, h => by
    rcases List.mem_cons.mp h with e | e
    · exact .inr (by rw [e]; exact List.mem_cons_self)
    · exact (mem_erase i e).imp id fun h => List.mem_cons_of_mem _ h
def spAfar (K : PySem.W.Frag) : Sp := fun vs H Q _ => ∃ (t g p : Addr) (n : Nat) (L : Int) (prs : List Pr), vs = [.ref t, .int L, .ref p] ∧ Tray H t g n ∧ n < 2 ^ 55 ∧ 0 < L ∧ L ≤ 10 ^ 30 ∧ LAt K H p (prs.map encP) ∧ p ≠ t ∧ p ≠ g ∧ prs.length ≤ 24 ∧ (∀ s ∈ prs, SzP 110 s) ∧
  ∀ (H' : Hp) (q : Addr) (qs : List Pr), H q = none → At H H' t g (n + 60) → LAt K H' q (qs.map encP) → qs.length = prs.length → (∀ s ∈ qs, SzP 112 s) → AfarOf L prs qs → Q (.ref q) H'
def spAt (K : PySem.W.Frag) : Sp := fun vs H Q _ => ∃ (v : V) (L x : Int) (prs : List Pr), vs = [.int L, v, .int x] ∧ Dp K H v (.list (prs.map encP)) ∧ 0 < L ∧ L.natAbs < 2 ^ 200 ∧ x.natAbs < 2 ^ 400 ∧ 0 < prs.length ∧ prs.length ≤ 100 ∧ (∀ s ∈ prs, SzP 300 s) ∧ ∀ m H', Same H H' → IsMaxL (leads L prs x) m → Q (.int m) H'
theorem dpAll_erase {K : PySem.W.Frag} {H : Hp} : ∀ {vs : List V} {ds : List PyData} (k : Nat), DpAll K H vs ds → DpAll K H (vs.eraseIdx k) (ds.eraseIdx k)
  | _, _, _, .nil => .nil
  | _, _, 0, .cons a b => b
  | _, _, k + 1, .cons a b => .cons a (dpAll_erase k b)
theorem map_erase {α β : Type} (f : α → β) : ∀ (l : List α) (k : Nat), (l.eraseIdx k).map f = (l.map f).eraseIdx k
  | [], _ => rfl
  | _ :: _, 0 => rfl
  | a :: l, k + 1 => by
    show f a :: (l.eraseIdx k).map f = f a :: (l.map f).eraseIdx k
    rw [map_erase f l k]
section
variable {P : Program} {w : World} {K : PySem.W.Frag} {mg : Str → Option Value} {base : Heap} {Z : Ad}
theorem ok_law_steps_of (T : Tx K w mg Z) : FnOk P w K mg base CX0 4 Z.a_law_steps_of Z.d_law_steps_of P_law_steps_of (spStepsOf K) := by
  refine T.F_law_steps_of.ok sclaw_steps_of (fun vs H Q E h => ?_) (fun cdv A outer s H vs Q E hr h => ?_)
  · obtain ⟨t, g, n, L, rfl, _⟩ := h
    rfl
  · obtain ⟨t, g, n, L, rfl, hT, hn, hL, hL30, k⟩ := h
    have hLb := bigL hL hL30
    have hb : ∀ m, m ≤ n + 9000 → m < 2 ^ 50 := fun m hm => Nat.lt_of_le_of_lt hm (Nat.lt_of_lt_of_le (Nat.add_lt_add_right hn 9000) (by decide))
    have hb' : ∀ m, m ≤ n + 9000 → m < 2 ^ 60 := fun m hm => Nat.lt_trans (hb m hm) (by decide)
    have A0 : At H H t g n := ⟨hT, Keep.refl _ _ _⟩
    have b4 : (4 * L).natAbs < 2 ^ 103 := by rw [Int.natAbs_mul]; exact Nat.lt_of_lt_of_le (Nat.mul_lt_mul_of_le_of_lt (Nat.le_refl 4) hLb (by decide)) (by decide)
    refine ⟨_, (pss_cons (ps_set (i := 2) sclaw_steps_of.nd rfl (Or.inl rfl) (pe_op op_add pe_int (pe_call (ok_law_take T) (hr.mono (by decide)) (by rfl) T.g_law_take T.F_law_take.kp T.bb_law_take .nil pass0 (pa_cons (pv 0) (pa_cons (pe_ix (ixL (K := K)) (pe_lst (pa_cons pe_int (pa_cons pe_int (pa_cons pe_int pa_nil)))) (pe_call (ok_law_take T) (hr.mono (by decide)) (by rfl) T.g_law_take T.F_law_take.kp T.bb_law_take .nil pass0 (pa_cons (pv 0) (pa_cons pe_int pa_nil))) (fun _ _ => rfl)) pa_nil)))))
      (C8.pss_cut (ps_if (pt_cmpR op_gt (pe_call (ok_law_take T) (hr.mono (by decide)) (by rfl) T.g_law_take T.F_law_take.kp T.bb_law_take .nil pass0 (pa_cons (pv 0) (pa_cons pe_int pa_nil))) pe_int (nomark _)) (pss_one (ps_ret (pe_call (ok_law_hidden T) (hr.mono (by decide)) (by rfl) T.g_law_hidden T.F_law_hidden.kp T.bb_law_hidden .nil pass0 (pa_cons (pv 0) (pa_cons (pv 1) (pa_cons (pv 2) pa_nil)))))) pss_nil)
      (pss_one (ps_ret (pe_lc (own := [("k", 3)]) (g := gName 3) (tt := tYes) rfl sclaw_steps_of.nd (pi_range1 (by rfl) T.b_range (pa_cons (pv 2) pa_nil)) (blkOk_by (own := [("k", 3)]) (N := N_law_steps_of) (sc := defScope slaw_steps_of) (by decide +kernel)) (fun _ _ _ _ _ => (pg_name (i := 3) sclaw_steps_of.nd rfl (Or.inl rfl))) (fun _ _ _ _ _ => pts_nil) (fun _ _ _ _ _ => (pe_tup (pa_cons (pe_call (ok_law_below T) (hr.mono (by decide)) (by rfl) T.g_law_below T.F_law_below.kp T.bb_law_below .nil pass0 (pa_cons (pv 0) (pa_cons (pv 1) pa_nil))) (pa_cons (pe_op op_sub (pe_call (ok_law_below T) (hr.mono (by decide)) (by rfl) T.g_law_below T.F_law_below.kp T.bb_law_below .nil pass0 (pa_cons (pv 0) (pa_cons (pe_op op_mulW pe_int (pv 1)) pa_nil))) (pe_op op_mulW pe_int (pv 1))) pa_nil))))))))), ?_⟩
    refine ⟨_, rfl, (by show 3 ≤ sizeLine; decide), fun q hq => ?_⟩
    obtain ⟨qt, qg⟩ := hT.at_ne hq
    have A1 := A0.new (o := HO.lst [V.int 3, .int 8, .int 24]) hq
    refine ⟨_, rfl, t, g, n, 3, rfl, A1.T, by decide, by decide, hb' _ (by omega), fun H2 c c0 c1 T2 k2 => ?_⟩
    have A2 := A1.step T2 k2
    obtain ⟨z, hz, hz0, hz1⟩ : ∃ z : Int, atI [V.int 3, .int 8, .int 24] c = some (.int z) ∧ 0 < z ∧ z ≤ 24 := by
      have : c = 0 ∨ c = 1 ∨ c = 2 := by omega
      rcases this with e | e | e <;> subst e
      · exact ⟨3, rfl, by decide, by decide⟩
      · exact ⟨8, rfl, by decide, by decide⟩
      · exact ⟨24, rfl, by decide, by decide⟩
    refine ⟨q, _, _, _, rfl, rfl, SqL.of (k2 _ _ upd_same qt qg), hz, t, g, n + 1, z, rfl, T2, hz0, Nat.lt_of_le_of_lt (by omega : z.natAbs ≤ 24) (by decide), hb' _ (by omega), fun H3 r r0 r1 T3 k3 => ?_⟩
    have A3 := A2.step T3 k3
    refine ⟨_, _, rfl, rfl, ?_⟩
    refine ⟨fun σ' H' => σ' = [some (.ref t), some (.int L), some (.int (1 + r)), none] ∧ At H H' t g (n + 3), ?_, ?_⟩
    · refine ⟨_, rfl, t, g, n + 2, 3, rfl, T3, by decide, by decide, hb' _ (by omega), fun H4 c' c'0 c'1 T4 k4 => ?_⟩
      have A4 := A3.step T4 k4
      refine ⟨_, _, rfl, rfl, _, rfl, ite2 (fun _ => ?_) (fun _ => ⟨rfl, A4⟩)⟩
      refine ⟨_, rfl, _, rfl, _, rfl, t, g, n + 3, L, 1 + r, rfl, T4, hb _ (by omega), hL, hL30, by omega, by omega, fun H5 p prs hp B5 lp R hl => ?_⟩
      refine k H5 p prs (A4.free hp) ((A4.step B5.T B5.k).up (by omega)) lp (List.length_pos_iff.mpr R.ne) (by omega) fun s hs => ?_
      obtain ⟨b, hb1, hb2⟩ := R.turn
      have h1 := R.on s hs
      have h2 := hb2 s hs
      refine ⟨lt_up (small_nat h1.1 (Int.le_of_lt h1.2) hLb) (by decide), ?_⟩
      have e1 : (2 : Nat) ^ 110 = 2 ^ 104 * 64 := by decide
      have e2 : (2 : Nat) ^ 100 ≤ 2 ^ 104 := by decide
      rw [e1]
      generalize (2 : Nat) ^ 104 = B at hb1 e2 ⊢
      generalize (2 : Nat) ^ 100 = C at hLb e2
      omega
    · rintro σ' H4 ⟨rfl, A4⟩
      refine ⟨_, rfl, 1 + r, rfl, by omega, by omega, fun D hD => ?_⟩
      obtain ⟨Dt, Dg⟩ := A4.T.at_ne hD
      have hDH := A4.free hD
      refine lc_range (lo := 0) (n := (1 + r).toNat) (fun i H' => At H H' t g (n + 3 + 120 * i) ∧ ∃ (vs : List V) (prs : List Pr), H' D = some (.lst vs) ∧ DpAll K H' vs (prs.map encP) ∧ prs.length = i ∧ ∀ s ∈ prs, SzP 110 s)
        ⟨A4.new hD, [], [], upd_same, .nil, rfl, fun _ z => by cases z⟩ ?_ ?_
      · rintro i H5 hi ⟨A5, vs, prs, hd, hds, hl, hsz⟩
        have hi24 : i < 24 := by omega
        refine ⟨rfl, yes_ite ?_⟩
        refine ⟨_, rfl, _, rfl, t, g, n + 3 + 120 * i, L, rfl, A5.T, hL, lt_up hLb (by decide), Nat.lt_trans (hb _ (by omega)) (by decide), fun H6 x x0 x1 T6 k6 => ?_⟩
        have A6 := A5.step T6 k6
        refine ⟨_, rfl, _, rfl, _, _, rfl, rfl, wide_mul (a := 10) (by decide) hLb (by decide) (by decide) (by decide), t, g, n + 3 + 120 * i + 60, 4 * L, rfl, T6, by omega, lt_up b4 (by decide), Nat.lt_trans (hb _ (by omega)) (by decide), fun H7 y y0 y1 T7 k7 => ?_⟩
        have A7 := A6.step T7 k7
        refine ⟨_, rfl, _, _, rfl, rfl, wide_mul (a := 10) (by decide) hLb (by decide) (by decide) (by decide), _, _, rfl, rfl, (by show 2 ≤ sizeLine; decide), fun q hq => ?_⟩
        have Sq := same_upd (o := HO.tup [V.int x, .int (y - 2 * L)]) hq
        have hd7 := Sq _ _ (k7 _ _ (k6 _ _ hd Dt Dg) Dt Dg)
        have hvl : vs.length = prs.length := by rw [dpAll_len hds, List.length_map]
        have hds7 := dpAll_mono Sq _ _ (dpAll_tups (Keep.tups T6 k7) _ _ (noLs_map noL_encP prs) (dpAll_tups (Keep.tups A5.T k6) _ _ (noLs_map noL_encP prs) hds))
        refine ⟨vs, hd7, small1000 (by omega), ((A7.new hq).acc hDH Dt Dg).up (by omega), _, prs ++ [(x, y - 2 * L)], upd_same, ?_, by simp [hl], fun s hs => ?_⟩
        · rw [List.map_append]
          exact acc_step hd7 (noLs_map noL_encP _) rfl hds7 (.tup (SqT.of upd_same) (.cons (.int _) (.cons (.int _) .nil)))
        · rcases List.mem_append.mp hs with h | h
          · exact hsz s h
          · rw [List.mem_singleton] at h
            subst h
            refine ⟨lt_up (small_nat x0 (Int.le_of_lt x1) hLb) (by decide), ?_⟩
            have : (y - 2 * L).natAbs ≤ (4 * L).natAbs := by clear hLb b4; omega
            exact Nat.lt_of_le_of_lt this (lt_up b4 (by decide))
      · rintro H5 ⟨A5, vs, prs, hd, hds, hl, hsz⟩
        exact k H5 D prs hDH (A5.up (by omega)) ⟨vs, hd, hds⟩ (by omega) (by omega) hsz
end
end KA
namespace KA
open PySem PySem.Spec PyProof.Rows L2 DP
/-! ### a hand among the deck's draws -/
/-- where steps lead x -/
theorem lead_ex (L : Int) {ss : List Pr} (h : 0 < ss.length) (x : Int) : ∃ m, IsMaxL (leads L ss x) m := by
  have key : ∀ l : List Int, l ≠ [] → ∃ m, IsMaxL l m := by
    intro l
    induction l with
    | nil => intro h; exact absurd rfl h
    | cons a l ih =>
      intro _
      by_cases hl : l = []
      · subst hl
        exact ⟨a, by simp, fun y hy => by simp at hy; omega⟩
      · obtain ⟨m, h1, h2⟩ := ih hl
        by_cases c : a ≤ m
        · exact ⟨m, List.mem_cons_of_mem _ h1, fun y hy => by
            rcases List.mem_cons.mp hy with e | e
            · omega
            · exact h2 y e⟩
        · exact ⟨a, List.mem_cons_self, fun y hy => by
            rcases List.mem_cons.mp hy with e | e
            · omega
            · have := h2 y e; omega⟩
  refine key _ fun e => ?_
  have e2 : ss = [] := List.map_eq_nil_iff.mp e
  rw [e2] at h
  cases h
theorem ups_near {L : Int} (hL : 0 < L) {ss : List Pr} {n : Nat} (hs : ∀ s ∈ ss, SzP n s) {y m : Int} (h : IsBest "fast" (ups ss) y L m) : (m - y).natAbs ≤ 2 ^ (n + 1) + L.natAbs := by
  obtain ⟨⟨l, hl, e⟩, _⟩ := h
  obtain ⟨s, hs', rfl⟩ := List.mem_map.mp hl
  have h1 := hs s hs'
  have h2 : (s.1 - s.2).natAbs < 2 ^ (n + 1) := sub_lt h1.1 h1.2
  rw [plc_fast] at e
  have e' : s.1 - (s.2 - y) / L * L = m := e
  have q := Int.mul_ediv_add_emod (s.2 - y) L
  have q0 := Int.emod_nonneg (s.2 - y) (show L ≠ 0 by omega)
  have q1 := Int.emod_lt_of_pos (s.2 - y) hL
  rw [Int.mul_comm] at q
  omega
theorem back_shift {L : Int} (hL : 0 < L) {ss : List Pr} {y m m' : Int} (h : IsBest "fast" (ups ss) y L m) (h' : IsBest "fast" (ups ss) (y + L) L m') : m' = m + L := by
  have h2 := best_shift hL 1 h
  rw [Int.one_mul] at h2
  exact best_one h' h2
/-- a hand, its two Darks not the deck -/
structure HAt (Z : Ad) (K : PySem.W.Frag) (H : Hp) (h d b : Addr) (L : Int) (ss : List Pr) (t g : Addr) : Prop where
  A : HandAt Z K H h d b L ss
  o1 : Off Z H d L t g
  o2 : Off Z H b L t g
theorem HAt.keep {Z : Ad} {K : PySem.W.Frag} {H H' : Hp} {t g h d b : Addr} {n : Nat} {L : Int} {ss : List Pr} (A : HAt Z K H h d b L ss t g) (T : Tray H t g n) (k : Keep t g H H') : HAt Z K H' h d b L ss t g := by
  obtain ⟨a1, a2, a3⟩ := A.A.keep T k A.o1 A.o2
  exact ⟨a1, a2, a3⟩
theorem HAt.same {Z : Ad} {K : PySem.W.Frag} {H H' : Hp} {t g h d b : Addr} {L : Int} {ss : List Pr} (A : HAt Z K H h d b L ss t g) (S : Same H H') : HAt Z K H' h d b L ss t g := ⟨A.A.same S, A.o1.same A.A.dark S, A.o2.same A.A.back S⟩
end KA
namespace KA
open PySem PySem.Spec PyProof.Rows L2 DP
/-! ### where a told hand leads -/
noncomputable def ld (L : Int) (ss : List Pr) (x : Int) : Int := bst "slow" (frs ss) x L
noncomputable def gone (L : Int) (ss : List Pr) (x : Int) : Nat → Int
  | 0 => x
  | n + 1 => ld L ss (gone L ss x n)
theorem frs_slow (ss : List Pr) : sideOf "slow" (frs ss) = frs ss := List.filter_eq_self.mpr fun l hl => by
  obtain ⟨s, _, rfl⟩ := List.mem_map.mp hl
  show onSide "slow" "from" = true
  decide +kernel
theorem frs_ne {ss : List Pr} (h : 0 < ss.length) : frs ss ≠ [] := fun e => by
  have e2 : ss = [] := List.map_eq_nil_iff.mp e
  rw [e2] at h; cases h
theorem max_best {L x m : Int} {ss : List Pr} (h : IsMaxL (leads L ss x) m) : IsBest "slow" (frs ss) x L m := by
  obtain ⟨s, hs, e⟩ := List.mem_map.mp h.1
  refine ⟨⟨fr1 s, List.mem_map.mpr ⟨s, hs, rfl⟩, by rw [plc_slow]; exact e⟩, fun l hl => ?_⟩
  obtain ⟨q, hq, rfl⟩ := List.mem_map.mp hl
  rw [if_pos rfl, plc_slow]
  exact h.2 _ (List.mem_map.mpr ⟨q, hq, rfl⟩)
theorem max_ld {L x m : Int} {ss : List Pr} (h : IsMaxL (leads L ss x) m) : m = ld L ss x := (bst_of (max_best h)).symm
theorem stp_heard1 {L : Int} (hL : 0 < L) {ss : List Pr} (h0 : 0 < ss.length) (y : Int) : stp "slow" L (sideOf "slow" (heardAll L (frs ss))) y = some (ld L ss y) := by
  have hne : sideOf "slow" (heardAll L (frs ss)) ≠ [] := fun e => by
    have := (side_nil heardAll_mem).mp e
    rw [frs_slow] at this
    exact frs_ne h0 this
  have b := bst_is (.inl rfl) hne y L
  have b2 := best_home hL heardAll_mem b
  rw [frs_slow] at b2
  rw [stp_best b]
  show some _ = some (bst "slow" (frs ss) y L)
  rw [bst_of b2]
theorem it_gone {L : Int} {kn : List (List Lk)} {ss : List Pr} (hm : kn.length = 1) (h : ∀ y, stp "slow" L (kn.getD 0 []) y = some (ld L ss y)) (x : Int) : ∀ n, it "slow" L kn x n = some (gone L ss x n)
  | 0 => rfl
  | n + 1 => by
    rw [it_succ, it_gone hm h x n, hm, Nat.mod_one]
    exact h _
theorem gone_it {L : Int} {ss : List Pr} (h0 : 0 < ss.length) (x : Int) (n : Nat) : it "slow" L [frs ss] x n = some (gone L ss x n) := it_gone rfl (fun y => stp_some (.inl rfl) (frs_ne h0)) x n
def spHLead (Z : Ad) (K : PySem.W.Frag) : Sp := fun vs H Q _ => ∃ (h d b : Addr) (L x n : Int) (ss : List Pr), vs = [.ref h, .int x, .int n] ∧ HandAt Z K H h d b L ss ∧ 0 < ss.length ∧ x.natAbs < 2 ^ 390 ∧ 0 ≤ n ∧ n.natAbs < 2 ^ 300 ∧
  ∀ H', Same H H' → Q (.int (gone L ss x n.toNat)) H'
section
variable {P : Program} {w : World} {K : PySem.W.Frag} {mg : Str → Option Value} {base : Heap} {Z : Ad}
theorem ok_Hand_lead (T : Tx K w mg Z) : FnOk P w K mg base CX0 8 Z.a_Hand_lead Z.d_Hand_lead P_Hand_lead (spHLead Z K) := by
  refine KW.FunD.okN T.F_Hand_lead scHand_lead (fun vs H Q E h => ?_) (fun cdv A outer s H vs Q E hr h => ?_)
  · obtain ⟨h, d, b, L, x, n, ss, rfl, _⟩ := h
    rfl
  · obtain ⟨h, d, b, L, x, n, ss, rfl, A, h0, hx, hn0, hn, k⟩ := h
    obtain ⟨dx, e⟩ := A.ex
    refine ⟨_, (pss_one (ps_ret (pe_call (ok_least_behind T) (hr.mono (by decide)) (by rfl) T.g_least_behind T.F_least_behind.kp T.bb_least_behind .nil pass0 (pa_cons (pe_lst (pa_cons (fldK (K := K) (pv 0) rfl) pa_nil)) (pa_cons (pv 1) (pa_cons (pv 2) pa_nil)))))), ?_⟩
    refine ⟨_, rfl, h, Z.C_Hand, dx, _, _, rfl, e, T.cl_Hand, T.nHand__dark, hf_dark _ _, (by show 1 ≤ sizeLine; decide), fun q hq => ?_⟩
    have S := same_upd (o := HO.lst [V.ref d]) hq
    refine ⟨_, rfl, _, rfl, q, [d], L, x, n, [heardAll L (frs ss)], rfl, SqL.of upd_same, ⟨rfl, fun i d' ls h1 h2 => ?_⟩, by simp, by simp, hx, hn0, hn, fun H2 S2 => ?_⟩
    · cases i with
      | zero =>
        have e1 : d = d' := Option.some.inj h1
        have e2 : heardAll L (frs ss) = ls := Option.some.inj h2
        subst e1 e2
        exact A.dark.same S
      | succ i => simp at h1
    · have kk := k H2 (S.trans S2)
      have e3 : it "slow" L ([heardAll L (frs ss)].map (sideOf "slow")) x n.toNat = some (gone L ss x n.toNat) := it_gone rfl (fun y => stp_heard1 A.dark.pos h0 y) x _
      rw [e3]
      exact kk
end
end KA
namespace KA
open PySem PySem.Spec PyProof.Rows L2 DP
theorem turns_le {L x a t : Int} (hL : 0 < L) (h : a + t * L ≤ x) : t ≤ (x - a) / L := (Int.le_ediv_iff_mul_le hL).mpr (by omega)
def spTurns (K : PySem.W.Frag) : Sp := fun vs H Q _ => ∃ (v : V) (L x : Int) (ss : List Pr), vs = [.int L, v, .int x] ∧ Dp K H v (.list (ss.map encP)) ∧ 0 < L ∧ L < 50 ∧ x.natAbs < 400 ∧ 0 < ss.length ∧ ss.length ≤ 28 ∧ (∀ s ∈ ss, 0 ≤ s.1 ∧ s.1 < L) ∧
  ∀ m H', Same H H' → IsMaxL (leads L ss x) m → Q (.int m) H'
section
variable {P : Program} {w : World} {K : PySem.W.Frag} {mg : Str → Option Value} {base : Heap} {Z : Ad}
end
end KA
namespace KA
open PySem PySem.Spec PyProof.Rows L2 DP
/-- the dict of the places seen -/
def seenD (L : Int) (ps : List Int) (n : Nat) : List (Key × V) := (List.range n).map fun i => (.inl (ps.getD i 0 % L), V.int i)
theorem seenD_some {L : Int} {ps : List Int} {n : Nat} {a : Int} {v : V} (h : valV (seenD L ps n) (.inl a) = some v) : ∃ i : Nat, i < n ∧ v = .int i ∧ ps.getD i 0 % L = a := by
  unfold valV at h
  cases e : (seenD L ps n).find? fun kv => decide (kv.1 = .inl a) with
  | none => rw [e] at h; cases h
  | some p =>
    rw [e] at h
    have e1 := List.find?_some e
    obtain ⟨i, hi, rfl⟩ := List.mem_map.mp (List.mem_of_find?_eq_some e)
    have e2 := of_decide_eq_true e1
    exact ⟨i, List.mem_range.mp hi, (Option.some.inj h).symm, Sum.inl.inj e2⟩
theorem seenD_none {L : Int} {ps : List Int} {n j : Nat} (h : valV (seenD L ps n) (.inl (ps.getD j 0 % L)) = none) : mark L 1 ps j ∉ marks L 1 ps n := by
  intro hm
  obtain ⟨i, hi, e⟩ := List.mem_map.mp hm
  unfold valV at h
  rw [Option.map_eq_none_iff] at h
  have h2 := List.find?_eq_none.mp h _ (List.mem_map.mpr ⟨i, hi, rfl⟩)
  refine h2 (decide_eq_true ?_)
  have e2 : ps.getD i 0 % L = ps.getD j 0 % L := congrArg Prod.snd e
  show (Sum.inl _ : Key) = _
  rw [e2]
theorem seenD_len (L : Int) (ps : List Int) (n : Nat) : (seenD L ps n).length = n := by unfold seenD; simp
theorem seenD_next {L : Int} {ps : List Int} {z : Int} {n : Nat} (h : n < ps.length) : seenD L (ps ++ [z]) (n + 1) = seenD L ps n ++ [(.inl (ps.getD n 0 % L), V.int n)] := by
  unfold seenD
  rw [List.range_succ, List.map_append]
  have e : ∀ i, i < ps.length → (ps ++ [z]).getD i 0 = ps.getD i 0 := fun i hi => by rw [List.getD_eq_getElem?_getD, List.getD_eq_getElem?_getD, List.getElem?_append_left hi]
  congr 1
  · refine List.map_congr_left fun i hi => ?_
    have := List.mem_range.mp hi
    rw [e i (by omega)]
  · show [((.inl ((ps ++ [z]).getD n 0 % L) : Key), V.int n)] = _
    rw [e n h]
/-- a told hand's walk by its steps alone -/
theorem far_step {L : Int} {ss : List Pr} {x y : Int} {ps : List Int} {tl : List Lk} (h0 : 0 < ss.length) (W : WalkOk "slow" L [frs ss] x ps tl) (hy : ps[tl.length]? = some y) : ∃ l, WalkOk "slow" L [frs ss] x (ps ++ [ld L ss y]) (tl ++ [l]) := by
  have e : ([frs ss] : List (List Lk)).getD (tl.length % ([frs ss] : List (List Lk)).length) [] = frs ss := by
    show ([frs ss] : List (List Lk)).getD (tl.length % 1) [] = frs ss
    rw [Nat.mod_one]; rfl
  have b := bst_is (.inl rfl) (frs_ne h0) y L
  obtain ⟨⟨l, hl, el⟩, _⟩ := id b
  exact ⟨l, W.snoc hy (by rw [e]; exact hl) el (by rw [e]; exact b)⟩
def spFar2 (K : PySem.W.Frag) : Sp := fun vs H Q _ => ∃ (v : V) (L x n : Int) (ss : List Pr), vs = [.int L, v, .int x, .int n] ∧ Dp K H v (.list (ss.map encP)) ∧ 0 < L ∧ L.natAbs < 2 ^ 200 ∧ x.natAbs < 2 ^ 390 ∧ 0 < ss.length ∧ ss.length ≤ 28 ∧ (∀ s ∈ ss, SzP 300 s) ∧ 0 ≤ n ∧ n.natAbs < 2 ^ 300 ∧
  ∀ H', Same H H' → Q (.int (gone L ss x n.toNat)) H'
theorem frs_kn {ss : List Pr} (h28 : ss.length ≤ 28) (hsz : ∀ s ∈ ss, SzP 300 s) : KnOk [frs ss] := fun ls hls => by
  rw [List.mem_singleton] at hls
  subst hls
  refine ⟨by unfold frs; rw [List.length_map]; omega, fun l hl => ?_⟩
  obtain ⟨s, hs, rfl⟩ := List.mem_map.mp hl
  exact ⟨.inr (.inl rfl), lt_up (hsz s hs).1 (by decide), lt_up (hsz s hs).2 (by decide)⟩
section
variable {P : Program} {w : World} {K : PySem.W.Frag} {mg : Str → Option Value} {base : Heap} {Z : Ad}
end
end KA
namespace KA
open PySem PySem.Spec PyProof.Rows L2 DP
/-! ### a leading, used again and again -/
def itf (f : Int → Int) (x : Int) : Nat → Int
  | 0 => x
  | n + 1 => f (itf f x n)
theorem itf_add (f : Int → Int) (x : Int) (m : Nat) : ∀ n, itf f x (m + n) = itf f (itf f x m) n
  | 0 => rfl
  | n + 1 => by
    show f (itf f x (m + n)) = f (itf f (itf f x m) n)
    rw [itf_add f x m n]
section
variable {L : Int} {f : Int → Int}
theorem itf_mono (F : Hand L f) {x y : Int} (h : x ≤ y) : ∀ n, itf f x n ≤ itf f y n
  | 0 => h
  | n + 1 => F.mono _ _ (itf_mono F h n)
theorem itf_shift (F : Hand L f) (x k : Int) : ∀ n, itf f (x + k * L) n = itf f x n + k * L
  | 0 => rfl
  | n + 1 => by
    show f (itf f (x + k * L) n) = f (itf f x n) + k * L
    rw [itf_shift F x k n, F.turn]
theorem itf_laps (F : Hand L f) {x c : Int} {p : Nat} (h : itf f x p = x + c * L) : ∀ t : Nat, itf f x (t * p) = x + t * (c * L)
  | 0 => by simp [itf]
  | t + 1 => by
    rw [Nat.succ_mul, Nat.add_comm, itf_add, h, itf_shift F, itf_laps F h t]
    push_cast
    grind
/-- two pointers stay so many turns together -/
theorem itf_near (F : Hand L f) {x y m : Int} (h : x ≤ y + m * L) (n : Nat) : itf f x n ≤ itf f y n + m * L := by
  have := itf_mono F h n
  rwa [itf_shift F] at this
theorem far_turns (hL : 0 < L) (x y : Int) : x ≤ y + ((x - y).natAbs : Int) * L := by
  have h : ((x - y).natAbs : Int) * 1 ≤ ((x - y).natAbs : Int) * L := Int.mul_le_mul_of_nonneg_left (by omega) (by omega)
  omega
/-- all that come round do so at one pace -/
theorem pace_cmp (hL : 0 < L) (F : Hand L f) {x c z k : Int} {p q : Nat} (h1 : itf f x p = x + c * L) (h2 : itf f z q = z + k * L) : c * q = k * p := by
  obtain ⟨m, hm⟩ : ∃ m : Int, m = ((x - z).natAbs : Int) := ⟨_, rfl⟩
  have n1 := far_turns hL x z
  have n2 := far_turns hL z x
  have e : (z - x).natAbs = (x - z).natAbs := by omega
  rw [e] at n2
  rw [← hm] at n1 n2
  have m0 : 0 ≤ m := by omega
  obtain ⟨t, ht⟩ : ∃ t : Nat, (t : Int) = 2 * m + 1 := ⟨(2 * m + 1).toNat, by omega⟩
  have a1 : itf f x (t * (q * p)) = x + ((t * q : Nat) : Int) * (c * L) := by rw [← Nat.mul_assoc]; exact itf_laps F h1 _
  have a2 : itf f z (t * (q * p)) = z + ((t * p : Nat) : Int) * (k * L) := by rw [Nat.mul_comm q p, ← Nat.mul_assoc]; exact itf_laps F h2 _
  have b1 := itf_near F n1 (t * (q * p))
  have b2 := itf_near F n2 (t * (q * p))
  rw [a1, a2] at b1 b2
  push_cast at b1 b2
  rw [ht] at b1 b2
  have key : ∀ d : Int, (2 * m + 1) * d * L ≤ 2 * m * L → 0 < d → False := fun d g3 hd => by
    have g4 : (2 * m + 1) * 1 * L ≤ (2 * m + 1) * d * L := by
      refine Int.mul_le_mul_of_nonneg_right (Int.mul_le_mul_of_nonneg_left (by omega) (by omega)) (by omega)
    have g5 : (2 * m + 1) * 1 * L = 2 * m * L + L := by grind
    omega
  have e1 : (2 * m + 1) * (q : Int) * (c * L) = (2 * m + 1) * (c * q) * L := by grind
  have e2 : (2 * m + 1) * (p : Int) * (k * L) = (2 * m + 1) * (k * p) * L := by grind
  have e3 : 2 * m * L = m * L + m * L := by grind
  rw [e1, e2] at b1 b2
  rcases Int.lt_trichotomy (c * q) (k * p) with h | h | h
  · exfalso
    refine key (k * p - c * q) ?_ (by omega)
    have : (2 * m + 1) * (k * p - c * q) * L = (2 * m + 1) * (k * p) * L - (2 * m + 1) * (c * q) * L := by grind
    omega
  · exact h
  · exfalso
    refine key (c * q - k * p) ?_ (by omega)
    have : (2 * m + 1) * (c * q - k * p) * L = (2 * m + 1) * (c * q) * L - (2 * m + 1) * (k * p) * L := by grind
    omega
/-- a pace in lowest terms -/
structure PaceOf (L : Int) (f : Int → Int) (pr : Int × Int) : Prop where
  pos : 0 < pr.2
  cop : Int.gcd pr.1 pr.2 = 1
  lap : ∃ (x c : Int) (p : Nat), 0 < p ∧ itf f x p = x + c * L ∧ pr.1 * p = c * pr.2
/-- who comes round, comes round at the pace -/
theorem PaceOf.all {pr : Int × Int} (hL : 0 < L) (F : Hand L f) (P : PaceOf L f pr) {z k : Int} {q : Nat} (h : itf f z q = z + k * L) : pr.1 * q = k * pr.2 := by
  obtain ⟨x, c, p, p0, h1, h2⟩ := P.lap
  have h3 := pace_cmp hL F h1 h
  have e : (pr.1 * q) * p = (k * pr.2) * p := by grind
  exact Int.eq_of_mul_eq_mul_right (by omega) e
/-- a pace above 0 leads however far -/
theorem fwd (hL : 0 < L) (F : Hand L f) {pr : Int × Int} (P : PaceOf L f pr) (h0 : 0 < pr.1) (z y : Int) : ∃ n, y ≤ itf f z n := by
  obtain ⟨x, c, p, p0, h1, h2⟩ := P.lap
  have c0 : 0 < c := by
    have e : 0 < pr.1 * (p : Int) := Int.mul_pos h0 (by omega)
    rw [h2] at e
    have := P.pos
    by_cases hc : 0 < c
    · exact hc
    · exfalso
      have := Int.mul_nonpos_of_nonpos_of_nonneg (show c ≤ 0 by omega) (show 0 ≤ pr.2 by omega)
      omega
  obtain ⟨m, hm⟩ : ∃ m : Int, m = ((x - z).natAbs : Int) := ⟨_, rfl⟩
  have n1 := far_turns hL x z
  rw [← hm] at n1
  refine ⟨((y - x).natAbs + m.toNat) * p, ?_⟩
  have b := itf_near F n1 (((y - x).natAbs + m.toNat) * p)
  rw [itf_laps F h1] at b
  have g1 : (((y - x).natAbs + m.toNat : Nat) : Int) * L ≤ (((y - x).natAbs + m.toNat : Nat) : Int) * (c * L) := by
    refine Int.mul_le_mul_of_nonneg_left ?_ (by omega)
    have : 1 * L ≤ c * L := Int.mul_le_mul_of_nonneg_right (by omega) (by omega)
    omega
  have g2 : ((y - x).natAbs : Int) * 1 ≤ ((y - x).natAbs : Int) * L := Int.mul_le_mul_of_nonneg_left (by omega) (by omega)
  have g3 : (((y - x).natAbs + m.toNat : Nat) : Int) * L = ((y - x).natAbs : Int) * L + m * L := by
    have : ((m.toNat : Nat) : Int) = m := by omega
    push_cast
    rw [this]
    grind
  omega
/-- at a pace of 0 or below: a first use that comes so far is none behind which a place came again -/
theorem first_new (hL : 0 < L) (F : Hand L f) {pr : Int × Int} (P : PaceOf L f pr) (h0 : pr.1 ≤ 0) {z y : Int} {n : Nat} (hn : y ≤ itf f z n) (hb : ∀ k, k < n → itf f z k < y) {i j : Nat} (hij : i < j) (hj : j ≤ n) : itf f z i % L ≠ itf f z j % L := fun e => by
  obtain ⟨k, hk⟩ : ∃ k, itf f z j = itf f z i + k * L := by
    refine ⟨itf f z j / L - itf f z i / L, ?_⟩
    have q1 := Int.mul_ediv_add_emod (itf f z i) L
    have q2 := Int.mul_ediv_add_emod (itf f z j) L
    have : (itf f z j / L - itf f z i / L) * L = L * (itf f z j / L) - L * (itf f z i / L) := by grind
    omega
  have e1 : itf f (itf f z i) (j - i) = itf f z i + k * L := by
    rw [← itf_add, show i + (j - i) = j by omega, hk]
  have e2 := P.all hL F e1
  have hp := P.pos
  have k0 : k ≤ 0 := by
    by_cases hk0 : k ≤ 0
    · exact hk0
    · exfalso
      have g1 : 0 < k * pr.2 := Int.mul_pos (by omega) hp
      have g2 : pr.1 * ((j - i : Nat) : Int) ≤ 0 := Int.mul_nonpos_of_nonpos_of_nonneg h0 (by omega)
      omega
  have e3 : itf f z n = itf f z (i + (n - j)) + k * L := by
    have : itf f z n = itf f (itf f z j) (n - j) := by rw [← itf_add, show j + (n - j) = n by omega]
    rw [this, hk, itf_shift F, ← itf_add]
  have g3 : k * L ≤ 0 := Int.mul_nonpos_of_nonpos_of_nonneg k0 (by omega)
  have := hb (i + (n - j)) (by omega)
  omega
/-- the pace is one -/
theorem PaceOf.one {pr pr' : Int × Int} (hL : 0 < L) (F : Hand L f) (P : PaceOf L f pr) (P' : PaceOf L f pr') : pr = pr' := by
  obtain ⟨x, c, p, p0, h1, h2⟩ := P'.lap
  have h3 := P.all hL F h1
  have e : pr.1 * pr'.2 = pr'.1 * pr.2 := by
    have e1 : (pr.1 * pr'.2) * p = (pr'.1 * pr.2) * p := by grind
    exact Int.eq_of_mul_eq_mul_right (by omega) e1
  have a := Int.gcd_mul_right pr.1 pr'.2 pr.2
  have b := Int.gcd_mul_right pr'.1 pr.2 pr'.2
  have p1 := P.pos
  have p2 := P'.pos
  rw [P.cop] at a
  rw [P'.cop] at b
  rw [e, Int.mul_comm pr.2 pr'.2] at a
  rw [a] at b
  have e3 : pr.2 = pr'.2 := by omega
  have e4 : pr.1 = pr'.1 := by
    rw [e3] at e
    exact Int.eq_of_mul_eq_mul_right (by omega) e
  exact Prod.ext e4 e3
/-- at the pace, but for a turn -/
theorem pace_near (hL : 0 < L) {f : Int → Int} (F : Hand L f) {pr : Int × Int} (P : PaceOf L f pr) (z : Int) (n : Nat) : ((itf f z n - z) * pr.2 - n * pr.1 * L).natAbs ≤ (pr.2 * L).natAbs := by
  obtain ⟨x, c, p, p0, h1, h2⟩ := P.lap
  have hp2 := P.pos
  -- what n uses do anywhere, they do everywhere but for a turn
  have turnOf : ∀ y : Int, ∃ k : Int, z + k * L ≤ y ∧ y < z + (k + 1) * L := fun y => by
    refine ⟨(y - z) / L, ?_⟩
    have q1 := Int.mul_ediv_add_emod (y - z) L
    have q2 := Int.emod_nonneg (y - z) (show L ≠ 0 by omega)
    have q3 := Int.emod_lt_of_pos (y - z) hL
    have e1 : (y - z) / L * L = L * ((y - z) / L) := Int.mul_comm _ _
    have e2 : ((y - z) / L + 1) * L = (y - z) / L * L + L := by grind
    omega
  have up : ∀ y : Int, itf f y n - y ≤ itf f z n - z + L := fun y => by
    obtain ⟨k, k1, k2⟩ := turnOf y
    have h := itf_mono F (Int.le_of_lt k2) n
    rw [itf_shift F] at h
    have e2 : (k + 1) * L = k * L + L := by grind
    omega
  have dn : ∀ y : Int, itf f z n - z - L ≤ itf f y n - y := fun y => by
    obtain ⟨k, k1, k2⟩ := turnOf y
    have h := itf_mono F k1 n
    rw [itf_shift F] at h
    have e2 : (k + 1) * L = k * L + L := by grind
    omega
  have upN : ∀ (m : Nat) (y : Int), itf f y (m * n) - y ≤ m * (itf f z n - z + L) := by
    intro m
    induction m with
    | zero => intro y; simp [itf]
    | succ m ih =>
      intro y
      rw [show (m + 1) * n = n + m * n by rw [Nat.succ_mul, Nat.add_comm], itf_add]
      have a := up y
      have b := ih (itf f y n)
      have e : ((m + 1 : Nat) : Int) * (itf f z n - z + L) = m * (itf f z n - z + L) + (itf f z n - z + L) := by push_cast; grind
      omega
  have dnN : ∀ (m : Nat) (y : Int), m * (itf f z n - z - L) ≤ itf f y (m * n) - y := by
    intro m
    induction m with
    | zero => intro y; simp [itf]
    | succ m ih =>
      intro y
      rw [show (m + 1) * n = n + m * n by rw [Nat.succ_mul, Nat.add_comm], itf_add]
      have a := dn y
      have b := ih (itf f y n)
      have e : ((m + 1 : Nat) : Int) * (itf f z n - z - L) = m * (itf f z n - z - L) + (itf f z n - z - L) := by push_cast; grind
      omega
  have a := upN p x
  have b := dnN p x
  have e := itf_laps F h1 n
  rw [Nat.mul_comm] at e
  rw [e] at a b
  generalize itf f z n - z = D at a b ⊢
  have e3 : (n : Int) * (c * L) * pr.2 = n * pr.1 * L * p := by grind
  have a1 : n * pr.1 * L * p ≤ (D + L) * pr.2 * p := by
    have := Int.mul_le_mul_of_nonneg_right (show (n : Int) * (c * L) ≤ p * (D + L) by omega) (Int.le_of_lt hp2)
    have e4 : (p : Int) * (D + L) * pr.2 = (D + L) * pr.2 * p := by grind
    omega
  have b1 : (D - L) * pr.2 * p ≤ n * pr.1 * L * p := by
    have := Int.mul_le_mul_of_nonneg_right (show (p : Int) * (D - L) ≤ (n : Int) * (c * L) by omega) (Int.le_of_lt hp2)
    have e4 : (p : Int) * (D - L) * pr.2 = (D - L) * pr.2 * p := by grind
    omega
  have a2 := Int.le_of_mul_le_mul_right a1 (by omega)
  have b2 := Int.le_of_mul_le_mul_right b1 (by omega)
  have e5 : (D + L) * pr.2 = D * pr.2 + pr.2 * L := by grind
  have e6 : (D - L) * pr.2 = D * pr.2 - pr.2 * L := by grind
  have e7 : 0 ≤ pr.2 * L := Int.mul_nonneg (Int.le_of_lt hp2) (Int.le_of_lt hL)
  omega
/-- each lead so many turns farther -/
theorem pace_farther {f : Int → Int} (F : Hand L f) {pr : Int × Int} (P : PaceOf L f pr) (k : Int) : PaceOf L (fun x => f x + k * L) (pr.1 + k * pr.2, pr.2) := by
  obtain ⟨x, c, p, p0, h1, h2⟩ := P.lap
  have h : ∀ (n : Nat) (x : Int), itf (fun x => f x + k * L) x n = itf f x n + n * (k * L) := by
    intro n
    induction n with
    | zero => intro x; simp [itf]
    | succ n ih =>
      intro x
      show f (itf (fun x => f x + k * L) x n) + k * L = f (itf f x n) + _
      rw [ih]
      have e : (n : Int) * (k * L) = (n * k) * L := by grind
      rw [e, F.turn]
      push_cast
      grind
  refine ⟨P.pos, ?_, x, c + p * k, p, p0, ?_, ?_⟩
  · show Int.gcd (pr.1 + k * pr.2) pr.2 = 1
    rw [Int.gcd_add_mul_right_left]; exact P.cop
  · rw [h, h1]; grind
  · show (pr.1 + k * pr.2) * p = (c + p * k) * pr.2
    grind
end
def lowT (a b : Int) : Int × Int := (a / (Int.gcd a b : Int), b / (Int.gcd a b : Int))
theorem low_terms {a b : Int} (hb : 0 < b) : Int.gcd (a / (Int.gcd a b : Int)) (b / (Int.gcd a b : Int)) = 1 ∧ 0 < b / (Int.gcd a b : Int) ∧ a / (Int.gcd a b : Int) * b = a * (b / (Int.gcd a b : Int)) ∧ b / (Int.gcd a b : Int) ≤ b := by
  have g0 : 0 < Int.gcd a b := Int.gcd_pos_of_ne_zero_right a (by omega)
  have d1 := Int.gcd_dvd_left a b
  have d2 := Int.gcd_dvd_right a b
  refine ⟨Int.gcd_ediv_gcd_ediv_gcd g0, ?_, ?_, ?_⟩
  · rw [Int.lt_ediv_iff_mul_lt (by omega) d2]; omega
  · obtain ⟨x, hx⟩ := d1
    obtain ⟨y, hy⟩ := d2
    generalize hg : (Int.gcd a b : Int) = g at *
    rw [hx, Int.mul_ediv_cancel_left _ (by omega), hy, Int.mul_ediv_cancel_left _ (by omega)]
    grind
  · exact Int.ediv_le_self _ (by omega)
def SzQ (n : Nat) (s : Int × Int) : Prop := s.1.natAbs < 2 ^ n ∧ s.2.natAbs < 2 ^ n
theorem lowQ_size {a b : Int} {n : Nat} (ha : a.natAbs < 2 ^ n) (hb : b.natAbs < 2 ^ n) : SzQ n (lowT a b) := ⟨Nat.lt_of_le_of_lt (Int.natAbs_ediv_le_natAbs _ _) ha, Nat.lt_of_le_of_lt (Int.natAbs_ediv_le_natAbs _ _) hb⟩
end KA
namespace KA
open PySem PySem.Spec PyProof.Rows L2 DP
/-! ### a told hand is such a leading -/
theorem ld_hand {L : Int} (hL : 0 < L) {ss : List Pr} (h0 : 0 < ss.length) : Hand L (ld L ss) :=
  ⟨fun x y h => best_mono hL (bst_is (.inl rfl) (frs_ne h0) x L) (bst_is (.inl rfl) (frs_ne h0) y L) h, fun x k => bst_of (best_shift hL k (bst_is (.inl rfl) (frs_ne h0) x L))⟩
theorem gone_itf (L : Int) (ss : List Pr) (x : Int) : ∀ n, gone L ss x n = itf (ld L ss) x n
  | 0 => rfl
  | n + 1 => by
    show ld L ss (gone L ss x n) = ld L ss (itf (ld L ss) x n)
    rw [gone_itf L ss x n]
theorem ld_mod {L : Int} {ss : List Pr} (h0 : 0 < ss.length) (x : Int) : ld L ss x % L ∈ ss.map fun s => s.2 % L := by
  obtain ⟨⟨l, hl, e⟩, _⟩ := bst_is (sd := "slow") (.inl rfl) (frs_ne h0) x L
  obtain ⟨s, hs, rfl⟩ := List.mem_map.mp hl
  have h1 := plc_mod (L := L) "slow" (fr1 s) x
  rw [e] at h1
  exact List.mem_map.mpr ⟨s, hs, h1.symm⟩
theorem first_few {L : Int} (hL : 0 < L) {ss : List Pr} (h0 : 0 < ss.length) {pr : Int × Int} (P : PaceOf L (ld L ss) pr) (hp : pr.1 ≤ 0) {z y : Int} {n : Nat} (hn : y ≤ gone L ss z n) (hb : ∀ k, k < n → gone L ss z k < y) : n ≤ ss.length := by
  by_cases c : n ≤ ss.length
  · exact c
  exfalso
  have F := ld_hand hL h0
  rw [gone_itf] at hn
  have hb' : ∀ k, k < n → itf (ld L ss) z k < y := fun k hk => by rw [← gone_itf]; exact hb k hk
  have h1 : ((List.range (ss.length + 1)).map fun i => itf (ld L ss) z (i + 1) % L).Nodup := by
    rw [List.Nodup, List.pairwise_map]
    refine List.Pairwise.imp_of_mem ?_ List.pairwise_lt_range
    intro a b ha hb2 hab
    have := List.mem_range.mp hb2
    exact first_new hL F P hp hn hb' (by omega) (by omega)
  have h2 := nodup_le h1 (l' := ss.map fun s => s.2 % L) (fun v hv => by
    obtain ⟨i, _, rfl⟩ := List.mem_map.mp hv
    exact ld_mod h0 _)
  rw [List.length_map, List.length_map, List.length_range] at h2
  omega
theorem gone_near {L : Int} (hL : 0 < L) (hLb : L.natAbs < 2 ^ 200) {ss : List Pr} (h0 : 0 < ss.length) (hsz : ∀ s ∈ ss, SzP 300 s) (x : Int) : (ld L ss x - x).natAbs < 2 ^ 302 := by
  obtain ⟨⟨l, hl, e⟩, _⟩ := bst_is (sd := "slow") (.inl rfl) (frs_ne h0) x L
  obtain ⟨s, hs, rfl⟩ := List.mem_map.mp hl
  have h1 := plc_near hL "slow" (fr1 s) x
  rw [e] at h1
  have h1' : (bst "slow" (frs ss) x L - x).natAbs ≤ (s.2 - s.1).natAbs + L.natAbs := h1
  have h2 : (s.2 - s.1).natAbs < 2 ^ 301 := sub_lt (hsz s hs).2 (hsz s hs).1
  have h3 : L.natAbs < 2 ^ 301 := lt_up hLb (by decide)
  have h4 : (2 : Nat) ^ 302 = 2 ^ 301 + 2 ^ 301 := by rw [Nat.pow_succ, Nat.mul_two]
  show (bst "slow" (frs ss) x L - x).natAbs < 2 ^ 302
  rw [h4]
  generalize (2 : Nat) ^ 301 = B at h2 h3 ⊢
  omega
theorem gone_size {L : Int} (hL : 0 < L) (hLb : L.natAbs < 2 ^ 200) {ss : List Pr} (h0 : 0 < ss.length) (hsz : ∀ s ∈ ss, SzP 300 s) (x : Int) : ∀ n, (gone L ss x n).natAbs ≤ x.natAbs + n * 2 ^ 302
  | 0 => by show x.natAbs ≤ _; omega
  | n + 1 => by
    have h1 := gone_size hL hLb h0 hsz x n
    have h2 := gone_near hL hLb h0 hsz (gone L ss x n)
    show (ld L ss (gone L ss x n)).natAbs ≤ _
    rw [Nat.add_mul, Nat.one_mul]
    generalize (2 : Nat) ^ 302 = B at h1 h2 ⊢
    generalize n * B = c at h1 ⊢
    omega
theorem near_by {L : Int} (hL : 0 < L) {ss : List Pr} (h0 : 0 < ss.length) {n : Nat} (hsz : ∀ s ∈ ss, SzP n s) (x : Int) : (ld L ss x - x).natAbs ≤ 2 ^ (n + 1) + L.natAbs := by
  obtain ⟨⟨l, hl, e⟩, _⟩ := bst_is (sd := "slow") (.inl rfl) (frs_ne h0) x L
  obtain ⟨s, hs, rfl⟩ := List.mem_map.mp hl
  have h1 := plc_near hL "slow" (fr1 s) x
  rw [e] at h1
  have h1' : (bst "slow" (frs ss) x L - x).natAbs ≤ (s.2 - s.1).natAbs + L.natAbs := h1
  have h2 : (s.2 - s.1).natAbs < 2 ^ (n + 1) := sub_lt (hsz s hs).2 (hsz s hs).1
  show (bst "slow" (frs ss) x L - x).natAbs ≤ _
  omega
theorem gone_by {L : Int} (hL : 0 < L) {ss : List Pr} (h0 : 0 < ss.length) {n : Nat} (hsz : ∀ s ∈ ss, SzP n s) (x : Int) : ∀ m, (gone L ss x m - x).natAbs ≤ m * (2 ^ (n + 1) + L.natAbs)
  | 0 => by show (x - x).natAbs ≤ _; omega
  | m + 1 => by
    have h1 := gone_by hL h0 hsz x m
    have h2 := near_by hL h0 hsz (gone L ss x m)
    show (ld L ss (gone L ss x m) - x).natAbs ≤ _
    rw [Nat.add_mul, Nat.one_mul]
    generalize 2 ^ (n + 1) + L.natAbs = B at h1 h2 ⊢
    omega
/-- a place comes again -/
theorem again {L : Int} {ss : List Pr} (h0 : 0 < ss.length) (z : Int) : ∃ i j, 1 ≤ i ∧ i < j ∧ j ≤ ss.length + 1 ∧ gone L ss z i % L = gone L ss z j % L := by
  refine Classical.byContradiction fun hno => ?_
  have h1 : ((List.range (ss.length + 1)).map fun i => gone L ss z (i + 1) % L).Nodup := by
    rw [List.Nodup, List.pairwise_map]
    refine List.Pairwise.imp_of_mem ?_ List.pairwise_lt_range
    intro a b ha hb2 hab e
    have := List.mem_range.mp hb2
    exact hno ⟨a + 1, b + 1, by omega, by omega, by omega, e⟩
  have h2 := nodup_le h1 (l' := ss.map fun s => s.2 % L) (fun v hv => by
    obtain ⟨i, _, rfl⟩ := List.mem_map.mp hv
    exact ld_mod h0 _)
  rw [List.length_map, List.length_map, List.length_range] at h2
  omega
/-- at a pace above 0: by how many uses at most -/
theorem first_far {L : Int} (hL : 0 < L) {ss : List Pr} (h0 : 0 < ss.length) {pr : Int × Int} (P : PaceOf L (ld L ss) pr) (hp : 0 < pr.1) {m : Nat} (hsz : ∀ s ∈ ss, SzP m s) {z y : Int} {n : Nat} (hb : ∀ k, k < n → gone L ss z k < y) : n ≤ ss.length + ((y - z).natAbs + ss.length * (2 ^ (m + 1) + L.natAbs)) * ss.length := by
  obtain ⟨i, j, hi, hij, hj, e⟩ := again (L := L) h0 z
  have F := ld_hand hL h0
  obtain ⟨k, hk⟩ : ∃ k, gone L ss z j = gone L ss z i + k * L := by
    refine ⟨gone L ss z j / L - gone L ss z i / L, ?_⟩
    have q1 := Int.mul_ediv_add_emod (gone L ss z i) L
    have q2 := Int.mul_ediv_add_emod (gone L ss z j) L
    have : (gone L ss z j / L - gone L ss z i / L) * L = L * (gone L ss z j / L) - L * (gone L ss z i / L) := by grind
    omega
  have e1 : itf (ld L ss) (gone L ss z i) (j - i) = gone L ss z i + k * L := by
    rw [← hk, gone_itf, gone_itf, ← itf_add, show i + (j - i) = j by omega]
  have e2 := P.all hL F e1
  have k0 : 1 ≤ k := by
    by_cases hk0 : 1 ≤ k
    · exact hk0
    · exfalso
      have g1 : k * pr.2 ≤ 0 := Int.mul_nonpos_of_nonpos_of_nonneg (by omega) (Int.le_of_lt P.pos)
      have g2 : 0 < pr.1 * ((j - i : Nat) : Int) := Int.mul_pos hp (by omega)
      omega
  have hw := gone_by hL h0 hsz z i
  have hw2 : i * (2 ^ (m + 1) + L.natAbs) ≤ ss.length * (2 ^ (m + 1) + L.natAbs) := Nat.mul_le_mul_right _ (by omega)
  generalize ss.length * (2 ^ (m + 1) + L.natAbs) = B at hw2 ⊢
  generalize i * (2 ^ (m + 1) + L.natAbs) = B' at hw hw2
  obtain ⟨t, ht⟩ : ∃ t, t = (y - gone L ss z i).natAbs := ⟨_, rfl⟩
  have e3 := itf_laps F e1 t
  have e4 : gone L ss z (i + t * (j - i)) = gone L ss z i + t * (k * L) := by rw [gone_itf, itf_add, ← gone_itf L ss z i, e3]
  have g1 : (t : Int) * 1 ≤ (t : Int) * (k * L) := by
    refine Int.mul_le_mul_of_nonneg_left ?_ (by omega)
    have : 1 * L ≤ k * L := Int.mul_le_mul_of_nonneg_right k0 (by omega)
    omega
  have hn : n ≤ i + t * (j - i) := by
    by_cases c : n ≤ i + t * (j - i)
    · exact c
    · have := hb (i + t * (j - i)) (by omega)
      omega
  have h5 : t * (j - i) ≤ ((y - z).natAbs + B) * ss.length := Nat.mul_le_mul (by omega) (by omega)
  omega
theorem plc_turn {L : Int} (hL : 0 < L) (s : Pr) (k x : Int) : plc "slow" (fr1 (s.1 + k * L, s.2 + k * L)) x L = plc "slow" (fr1 s) x L := by
  rw [plc_slow, plc_slow]
  show s.2 + k * L + (x - (s.1 + k * L)) / L * L = s.2 + (x - s.1) / L * L
  have e : x - (s.1 + k * L) = (x - s.1) + (-k) * L := by grind
  rw [e, Int.add_mul_ediv_right _ _ (by omega)]
  grind
theorem afar_ld {L : Int} (hL : 0 < L) {ss qs : List Pr} (h0 : 0 < ss.length) (A : AfarOf L ss qs) : ld L qs = ld L ss := funext fun x => by
  obtain ⟨⟨l, hl, e⟩, h2⟩ := bst_is (sd := "slow") (.inl rfl) (frs_ne h0) x L
  refine bst_of ⟨?_, fun l' hl' => ?_⟩
  · obtain ⟨s, hs, rfl⟩ := List.mem_map.mp hl
    obtain ⟨q, hq, k, rfl⟩ := A.all s hs
    exact ⟨_, List.mem_map.mpr ⟨_, hq, rfl⟩, by rw [plc_turn hL]; exact e⟩
  · obtain ⟨q, hq, rfl⟩ := List.mem_map.mp hl'
    obtain ⟨s, hs, k, rfl⟩ := A.of q hq
    rw [plc_turn hL]
    exact h2 _ (List.mem_map.mpr ⟨s, hs, rfl⟩)
theorem afar_gone {L : Int} (hL : 0 < L) {ss qs : List Pr} (h0 : 0 < ss.length) (A : AfarOf L ss qs) (x : Int) (n : Nat) : gone L qs x n = gone L ss x n := by rw [gone_itf, gone_itf, afar_ld hL h0 A]
end KA
namespace KA
open PySem PySem.Spec PyProof.Rows L2 DP
/-! ### the places that come round -/
theorem cop_dvd {q n d : Int} (h : Int.gcd q n = 1) (hd : n ∣ q * d) : n ∣ d := by
  have h1 : n.natAbs ∣ q.natAbs * d.natAbs := by
    rw [← Int.natAbs_mul]; exact Int.natAbs_dvd_natAbs.mpr hd
  have h2 : Nat.Coprime n.natAbs q.natAbs := by
    show Nat.gcd _ _ = 1
    rw [Nat.gcd_comm]; exact h
  exact Int.natAbs_dvd_natAbs.mp (h2.dvd_of_dvd_mul_left h1)
/-- more members than places cannot be -/
theorem pigs : ∀ (n : Nat) (ks : List Int) (c : Nat → Int), (∀ i, i < n → c i ∈ ks) → (∀ i j, i < j → j < n → c i ≠ c j) → n ≤ ks.length
  | 0, _, _, _, _ => Nat.zero_le _
  | n + 1, ks, c, h1, h2 => by
    have hm := h1 n (by omega)
    have h := pigs n (ks.erase (c n)) c (fun i hi => (List.mem_erase_of_ne (h2 i n hi (by omega))).mpr (h1 i (by omega))) (fun i j a b => h2 i j a (by omega))
    rw [List.length_erase_of_mem hm] at h
    have : 0 < ks.length := List.length_pos_of_mem hm
    omega
section
variable {L : Int} {f : Int → Int} {pr : Int × Int}
theorem lapU (F : Hand L f) {y p : Int} {q : Nat} (h : y + p * L < itf f y q) : ∀ s : Nat, y + (s + 1 : Nat) * (p * L) < itf f y ((s + 1) * q)
  | 0 => by simpa using h
  | s + 1 => by
    have ih := lapU F h s
    have e : (s + 1 + 1) * q = (s + 1) * q + q := by rw [Nat.succ_mul]
    rw [e, itf_add]
    have h1 := itf_mono F (Int.le_of_lt ih) q
    have e2 : y + ((s + 1 : Nat) : Int) * (p * L) = y + (((s + 1 : Nat) : Int) * p) * L := by grind
    rw [e2, itf_shift F] at h1
    have e3 : ((s + 1 + 1 : Nat) : Int) * (p * L) = p * L + (((s + 1 : Nat) : Int) * p) * L := by push_cast; grind
    rw [e3]
    omega
theorem lapD (F : Hand L f) {y p : Int} {q : Nat} (h : itf f y q < y + p * L) : ∀ s : Nat, itf f y ((s + 1) * q) < y + (s + 1 : Nat) * (p * L)
  | 0 => by simpa using h
  | s + 1 => by
    have ih := lapD F h s
    have e : (s + 1 + 1) * q = (s + 1) * q + q := by rw [Nat.succ_mul]
    rw [e, itf_add]
    have h1 := itf_mono F (Int.le_of_lt ih) q
    have e2 : y + ((s + 1 : Nat) : Int) * (p * L) = y + (((s + 1 : Nat) : Int) * p) * L := by grind
    rw [e2, itf_shift F] at h1
    have e3 : ((s + 1 + 1 : Nat) : Int) * (p * L) = p * L + (((s + 1 : Nat) : Int) * p) * L := by push_cast; grind
    rw [e3]
    omega
/-- who comes round at all comes round in the pace's rounds -/
theorem PaceOf.round (hL : 0 < L) (F : Hand L f) (P : PaceOf L f pr) {y k : Int} {m : Nat} (h0 : 0 < m) (h : itf f y m = y + k * L) : itf f y pr.2.toNat = y + pr.1 * L := by
  have h1 := P.all hL F h
  have hp := P.pos
  obtain ⟨t, ht⟩ := cop_dvd P.cop (show pr.2 ∣ pr.1 * (m : Int) from ⟨k, by rw [h1, Int.mul_comm]⟩)
  have t0 : 0 < t := by
    by_cases c : 0 < t
    · exact c
    · exfalso
      have := Int.mul_nonpos_of_nonneg_of_nonpos (show 0 ≤ pr.2 by omega) (show t ≤ 0 by omega)
      omega
  have hk : k = pr.1 * t := by
    have e : k * pr.2 = (pr.1 * t) * pr.2 := by rw [← h1, ht]; grind
    exact Int.eq_of_mul_eq_mul_right (by omega) e
  obtain ⟨s, hs⟩ : ∃ s : Nat, t = ((s + 1 : Nat) : Int) := ⟨(t - 1).toNat, by omega⟩
  have hm : m = (s + 1) * pr.2.toNat := by
    have e : (m : Int) = (((s + 1) * pr.2.toNat : Nat) : Int) := by
      push_cast
      rw [ht, hs, Int.toNat_of_nonneg (by omega), Int.mul_comm]
      push_cast
      rfl
    exact Int.ofNat_inj.mp e
  rw [hm, hk, hs] at h
  have e4 : pr.1 * ((s + 1 : Nat) : Int) * L = ((s + 1 : Nat) : Int) * (pr.1 * L) := by grind
  rw [e4] at h
  rcases Int.lt_trichotomy (itf f y pr.2.toNat) (y + pr.1 * L) with c | c | c
  · have := lapD F c s; omega
  · exact c
  · have := lapU F c s; omega
/-- x comes round -/
def Per (L : Int) (f : Int → Int) (x : Int) : Prop := ∃ (m : Nat) (t : Int), itf f x (m + 1) = x + t * L
theorem per_pace (hL : 0 < L) (F : Hand L f) (P : PaceOf L f pr) {x : Int} : Per L f x ↔ itf f x pr.2.toNat = x + pr.1 * L := by
  constructor
  · rintro ⟨m, t, h⟩
    exact P.round hL F (Nat.succ_pos m) h
  · intro h
    have := P.pos
    refine ⟨pr.2.toNat - 1, pr.1, ?_⟩
    rw [show pr.2.toNat - 1 + 1 = pr.2.toNat by omega]
    exact h
theorem same_mod {x y : Int} (h : x % L = y % L) : x = y + (x / L - y / L) * L := by
  have h1 := Int.mul_ediv_add_emod x L
  have h2 := Int.mul_ediv_add_emod y L
  rw [Int.sub_mul, Int.mul_comm (x / L), Int.mul_comm (y / L)]
  omega
theorem itf_mod (F : Hand L f) {x y : Int} (h : x % L = y % L) (n : Nat) : itf f x n % L = itf f y n % L := by
  rw [same_mod h, itf_shift F, Int.add_mul_emod_self_right]
theorem Per.step (F : Hand L f) {x : Int} (h : Per L f x) (i : Nat) : Per L f (itf f x i) := by
  obtain ⟨m, t, h⟩ := h
  refine ⟨m, t, ?_⟩
  rw [← itf_add, Nat.add_comm, itf_add, h, itf_shift F]
theorem Per.mod (F : Hand L f) {x y : Int} (e : x % L = y % L) (h : Per L f x) : Per L f y := by
  obtain ⟨m, t, h⟩ := h
  refine ⟨m, t, ?_⟩
  have e2 := same_mod e.symm
  rw [e2, itf_shift F, h]
  grind
/-- a list of places on the way to the homes: Y are those to which steps lead -/
structure Nest (L : Int) (f : Int → Int) (Y : Int → Prop) (hs : List Int) : Prop where
  rise : hs.Pairwise (· < ·)
  low : ∀ x ∈ hs, 0 ≤ x ∧ x < L ∧ Y x
  shut : ∀ x ∈ hs, f x % L ∈ hs
  all : ∀ x, 0 ≤ x → x < L → Per L f x → x ∈ hs
/-- the homes -/
structure Homes (L : Int) (f : Int → Int) (Y : Int → Prop) (hs : List Int) : Prop where
  rise : hs.Pairwise (· < ·)
  mem : ∀ x, x ∈ hs ↔ (0 ≤ x ∧ x < L ∧ Per L f x)
  low : ∀ x ∈ hs, Y x
theorem rise_nodup {l : List Int} (h : l.Pairwise (· < ·)) : l.Nodup := h.imp fun hab e => by omega
theorem nodup_len : ∀ {l k : List Int}, l.Nodup → (∀ x ∈ l, x ∈ k) → l.length ≤ k.length
  | [], _, _, _ => Nat.zero_le _
  | x :: l, k, hn, hk => by
    obtain ⟨h1, h2⟩ := List.nodup_cons.mp hn
    have hx := hk x List.mem_cons_self
    have ih := nodup_len (k := k.erase x) h2 fun y hy => (List.mem_erase_of_ne (fun e => h1 (by rw [← e]; exact hy))).mpr (hk y (List.mem_cons_of_mem _ hy))
    rw [List.length_erase_of_mem hx] at ih
    have := List.length_pos_of_mem hx
    rw [List.length_cons]
    omega
theorem Nest.next (hL : 0 < L) (F : Hand L f) {Y : Int → Prop} {hs ks : List Int} (N : Nest L f Y hs) (hk : ks.Pairwise (· < ·)) (hm : ∀ z, z ∈ ks ↔ ∃ x ∈ hs, f x % L = z) : Nest L f Y ks ∧ ks.length ≤ hs.length := by
  have sub : ∀ z ∈ ks, z ∈ hs := fun z hz => by
    obtain ⟨x, hx, rfl⟩ := (hm z).mp hz
    exact N.shut x hx
  refine ⟨⟨hk, fun x hx => N.low x (sub x hx), fun x hx => (hm _).mpr ⟨x, sub x hx, rfl⟩, fun x h0 h1 hp => ?_⟩, nodup_len (rise_nodup hk) sub⟩
  obtain ⟨m, t, h⟩ := id hp
  have hp2 : Per L f (itf f x m % L) := (hp.step F m).mod F (Int.emod_emod_of_dvd _ (Int.dvd_refl L)).symm
  refine (hm x).mpr ⟨itf f x m % L, N.all _ (Int.emod_nonneg _ (by omega)) (Int.emod_lt_of_pos _ hL) hp2, ?_⟩
  have e := itf_mod F (x := itf f x m % L) (y := itf f x m) (Int.emod_emod_of_dvd _ (Int.dvd_refl L)) 1
  have e2 : f (itf f x m % L) % L = f (itf f x m) % L := e
  rw [e2]
  have e3 : f (itf f x m) = x + t * L := h
  rw [e3, Int.add_mul_emod_self_right, Int.emod_eq_of_lt h0 h1]
theorem Nest.last (hL : 0 < L) (F : Hand L f) {Y : Int → Prop} {hs ks : List Int} (N : Nest L f Y hs) (hk : ks.Pairwise (· < ·)) (hm : ∀ z, z ∈ ks ↔ ∃ x ∈ hs, f x % L = z) (hl : ks.length = hs.length) : Homes L f Y hs := by
  have sub : ∀ z ∈ ks, z ∈ hs := fun z hz => by
    obtain ⟨x, hx, rfl⟩ := (hm z).mp hz
    exact N.shut x hx
  have sur : ∀ x ∈ hs, x ∈ ks := fun x hx => by
    by_cases c : x ∈ ks
    · exact c
    · exfalso
      have := nodup_len (l := x :: ks) (k := hs) (List.nodup_cons.mpr ⟨c, rise_nodup hk⟩) (by
        intro y hy
        rcases List.mem_cons.mp hy with rfl | hy
        · exact hx
        · exact sub y hy)
      rw [List.length_cons] at this
      omega
  refine ⟨N.rise, fun x => ⟨fun hx => ⟨(N.low x hx).1, (N.low x hx).2.1, ?_⟩, fun ⟨h0, h1, h2⟩ => N.all x h0 h1 h2⟩, fun x hx => (N.low x hx).2.2⟩
  obtain ⟨pre, hpre⟩ : ∃ pre : Int → Int, ∀ x ∈ hs, pre x ∈ hs ∧ f (pre x) % L = x := by
    have h : ∀ x, ∃ y, x ∈ hs → y ∈ hs ∧ f y % L = x := fun x => by
      by_cases c : x ∈ hs
      · obtain ⟨y, h1, h2⟩ := (hm x).mp (sur x c)
        exact ⟨y, fun _ => ⟨h1, h2⟩⟩
      · exact ⟨0, fun h => absurd h c⟩
    exact ⟨fun x => Classical.choose (h x), fun x hx => Classical.choose_spec (h x) hx⟩
  have mem : ∀ i, itf pre x i ∈ hs := fun i => by
    induction i with
    | zero => exact hx
    | succ i ih => exact (hpre _ ih).1
  have back : ∀ i j, itf f (itf pre x (i + j)) j % L = itf pre x i := fun i j => by
    induction j with
    | zero =>
      have h := N.low _ (mem i)
      exact Int.emod_eq_of_lt h.1 h.2.1
    | succ j ih =>
      have h := hpre _ (mem (i + j))
      have h2 := N.low _ (mem (i + j))
      have e1 : itf f (itf pre x (i + j + 1)) (j + 1) = itf f (itf f (itf pre x (i + j + 1)) 1) j := by rw [← itf_add, Nat.add_comm 1 j]
      show itf f (itf pre x (i + j + 1)) (j + 1) % L = _
      rw [e1, ← ih]
      refine itf_mod F ?_ j
      show f (pre (itf pre x (i + j))) % L = itf pre x (i + j) % L
      rw [h.2, Int.emod_eq_of_lt h2.1 h2.2.1]
  have twice : ∃ i d, itf pre x i = itf pre x (i + (d + 1)) := by
    by_cases c : ∃ i d, itf pre x i = itf pre x (i + (d + 1))
    · exact c
    · exfalso
      have := pigs (hs.length + 1) hs (itf pre x) (fun i _ => mem i) (fun i j hij _ e => c ⟨i, j - i - 1, by rw [show i + (j - i - 1 + 1) = j by omega]; exact e⟩)
      omega
  obtain ⟨i, d, e⟩ := twice
  have h1 := back i (d + 1)
  rw [← e] at h1
  have hP : Per L f (itf pre x i) := by
    have h2 := N.low _ (mem i)
    refine ⟨d, itf f (itf pre x i) (d + 1) / L, ?_⟩
    have h3 := Int.mul_ediv_add_emod (itf f (itf pre x i) (d + 1)) L
    rw [h1, Int.mul_comm] at h3
    omega
  have h4 := back 0 i
  rw [Nat.zero_add] at h4
  have h5 : Per L f (itf f (itf pre x i) i % L) := (hP.step F i).mod F (Int.emod_emod_of_dvd _ (Int.dvd_refl L)).symm
  rw [h4] at h5
  exact h5
/-- some place comes round -/
theorem Homes.ne (hL : 0 < L) (F : Hand L f) (P : PaceOf L f pr) {Y : Int → Prop} {hs : List Int} (H : Homes L f Y hs) : hs ≠ [] := fun e => by
  obtain ⟨x, c, p, p0, h1, _⟩ := P.lap
  have hp : Per L f x := ⟨p - 1, c, by rw [show p - 1 + 1 = p by omega]; exact h1⟩
  have h := (H.mem (x % L)).mpr ⟨Int.emod_nonneg _ (by omega), Int.emod_lt_of_pos _ hL, hp.mod F (Int.emod_emod_of_dvd _ (Int.dvd_refl L)).symm⟩
  rw [e] at h
  cases h
end
end KA
namespace KA
open PySem PySem.Spec PyProof.Rows L2 DP
/-! ### Hand.homes -/
theorem dict_list {K : PySem.W.Frag} {a : Addr} {xs : List V} {D0 : Hp} {Qd : Hp → Prop} {body : (Hp → Prop) → V → Hp → Prop} (Pv : Nat → Hp → Prop) (p0 : Pv 0 D0) (hl : ∀ i G, i ≤ xs.length → Pv i G → SqL K G a xs)
    (hs : ∀ i x G, xs[i]? = some x → Pv i G → body (Pv (i + 1)) x G) (hd : ∀ G, Pv xs.length G → Qd G) :
    ∃ W : Nat → Nat → Hp → Prop, (∃ m, W 0 m D0) ∧ ∀ i m H, W i m H → ((Itl K a).stop i H ∧ Qd H) ∨ ((Itl K a).go i H ∧ ∃ Nx : Hp → Prop, (∀ H', Nx H' → ∃ m', m' < m ∧ W (i + 1) m' H') ∧ ∀ x H', (Itl K a).yld i H x H' → body Nx x H') := by
  refine ⟨fun i left G => left + i = xs.length ∧ Pv i G, ⟨xs.length, rfl, p0⟩, fun i left G ⟨e, p⟩ => ?_⟩
  have sq := hl i G (by omega) p
  cases left with
  | zero =>
    have e' : i = xs.length := by omega
    subst e'
    exact .inl ⟨⟨xs, sq, Nat.le_refl _⟩, hd G p⟩
  | succ left =>
    refine .inr ⟨⟨xs, xs[i]'(by omega), sq, List.getElem?_eq_getElem _⟩, Pv (i + 1), fun G' p' => ⟨left, Nat.lt_succ_self _, by omega, p'⟩, fun x G' ⟨eG, y⟩ => ?_⟩
    subst eG
    exact hs i x _ (y xs sq) p
theorem keys_put {kvs : List (Key × V)} {ks : List Int} (h : kvs.map (·.1) = ks.map Sum.inl) (k : Int) (v : V) : (putK kvs (.inl k) v).map (·.1) = (if k ∈ ks then ks else ks ++ [k]).map Sum.inl := by
  have ha : (kvs.any fun kv => decide (kv.1 = (Sum.inl k : Key))) = true ↔ k ∈ ks := by
    rw [List.any_eq_true]
    constructor
    · rintro ⟨p, hp, e⟩
      have e1 := of_decide_eq_true e
      have : p.1 ∈ ks.map Sum.inl := by rw [← h]; exact List.mem_map.mpr ⟨p, hp, rfl⟩
      rw [e1] at this
      obtain ⟨j, hj, e2⟩ := List.mem_map.mp this
      cases e2
      exact hj
    · intro hk
      have : (Sum.inl k : Key) ∈ kvs.map (·.1) := by rw [h]; exact List.mem_map.mpr ⟨k, hk, rfl⟩
      obtain ⟨p, hp, e⟩ := List.mem_map.mp this
      exact ⟨p, hp, decide_eq_true e⟩
  unfold putK
  by_cases c : k ∈ ks
  · rw [if_pos (ha.mpr c), if_pos c, List.map_map, ← h]
    refine List.map_congr_left fun p _ => ?_
    show (if p.1 = (Sum.inl k : Key) then (p.1, v) else p).1 = p.1
    split <;> rfl
  · rw [if_neg (fun q => c (ha.mp q)), if_neg c, List.map_append, List.map_append, h]
    rfl
/-- the dict behind some steps: each place to which they lead, and where it is led -/
structure Led (f : Int → Int) (L : Int) (ys : List Int) (kvs : List (Key × V)) (ks : List Int) : Prop where
  keys : kvs.map (·.1) = ks.map Sum.inl
  nd : ks.Nodup
  mem : ∀ k, k ∈ ks ↔ ∃ y ∈ ys, y % L = k
  val : ∀ k ∈ ks, valV kvs (.inl k) = some (.int (f k % L))
theorem Led.put {f : Int → Int} {L : Int} {ys : List Int} {kvs : List (Key × V)} {ks : List Int} (F : Hand L f) (E : Led f L ys kvs ks) (y : Int) : Led f L (ys ++ [y]) (putK kvs (.inl (y % L)) (.int (f y % L))) (if y % L ∈ ks then ks else ks ++ [y % L]) := by
  have hv : f y % L = f (y % L) % L := itf_mod F (x := y) (y := y % L) (Int.emod_emod_of_dvd _ (Int.dvd_refl L)).symm 1
  have hm : ∀ k, k ∈ (if y % L ∈ ks then ks else ks ++ [y % L]) ↔ k ∈ ks ∨ k = y % L := fun k => by
    by_cases c : y % L ∈ ks
    · rw [if_pos c]
      exact ⟨.inl, fun h => h.elim id fun e => e ▸ c⟩
    · rw [if_neg c, List.mem_append, List.mem_singleton]
  refine ⟨keys_put E.keys _ _, ?_, fun k => ?_, fun k hk => ?_⟩
  · by_cases c : y % L ∈ ks
    · rw [if_pos c]; exact E.nd
    · rw [if_neg c]
      refine List.nodup_append.mpr ⟨E.nd, by simp, fun a ha b hb e => ?_⟩
      rw [List.mem_singleton] at hb
      exact c (by rw [← hb, ← e]; exact ha)
  · rw [hm, E.mem]
    constructor
    · rintro (⟨z, hz, e⟩ | rfl)
      · exact ⟨z, List.mem_append_left _ hz, e⟩
      · exact ⟨y, by simp, rfl⟩
    · rintro ⟨z, hz, e⟩
      rcases List.mem_append.mp hz with hz | hz
      · exact .inl ⟨z, hz, e⟩
      · rw [List.mem_singleton] at hz
        exact .inr (by rw [← e, hz])
  · rw [valV_put]
    by_cases c : k = y % L
    · rw [if_pos (by rw [c]), hv, c]
    · rw [if_neg (fun e => c (Sum.inl.inj e))]
      exact E.val k (((hm k).mp hk).resolve_right c)
def spHLen (Z : Ad) (K : PySem.W.Frag) : Sp := fun vs H Q _ => ∃ (h d b : Addr) (L : Int) (ss : List Pr), vs = [.ref h] ∧ HandAt Z K H h d b L ss ∧ Q (.int L) H
def spHSteps (Z : Ad) (K : PySem.W.Frag) : Sp := fun vs H Q _ => ∃ (h d b : Addr) (L : Int) (ss : List Pr), vs = [.ref h] ∧ HandAt Z K H h d b L ss ∧
  ∀ (p : Addr) (xs : List V) (H' : Hp), H p = none → Same H H' → H' p = some (.lst xs) → DpAll K H' xs (((heardAll L (frs ss)).map fun l => (l.2 : Pr)).map encP) → Q (.ref p) H'
def spHHomes (Z : Ad) (K : PySem.W.Frag) : Sp := fun vs H Q _ => ∃ (h d b : Addr) (L : Int) (ss : List Pr), vs = [.ref h] ∧ HandAt Z K H h d b L ss ∧ 0 < ss.length ∧
  ∀ (p : Addr) (hs : List Int) (H' : Hp), H p = none → Same H H' → H' p = some (.lst (hs.map V.int)) → Homes L (ld L ss) (fun x => ∃ s ∈ ss, s.2 % L = x) hs → hs.length ≤ 60 → Q (.ref p) H'
theorem dp_lookL {K : PySem.W.Frag} {H : Hp} {v : V} {l : Lk} (h : Dp K H v (encL l)) : ∃ a, v = .ref a ∧ SqT K H a [.str l.1, .int l.2.1, .int l.2.2] := by
  cases h with
  | tup s q =>
    cases q with
    | cons q1 q =>
      cases q1
      cases q with
      | cons q2 q =>
        cases q2
        cases q with
        | cons q3 q =>
          cases q3
          cases q
          exact ⟨_, rfl, s⟩
theorem Led.image {L : Int} (hL : 0 < L) {ss : List Pr} (h0 : 0 < ss.length) {kvs : List (Key × V)} {ks : List Int} (E : Led (ld L ss) L ((heardAll L (frs ss)).map fun l => l.2.2) kvs ks) (z : Int) : ld L ss z % L ∈ ks := by
  obtain ⟨⟨l, hl, e⟩, _⟩ := bst_is (.inl rfl) (frs_ne h0) z L
  rw [plc_slow] at e
  have e2 : ld L ss z = l.2.2 + (z - l.2.1) / L * L := e.symm
  refine (E.mem _).mpr ⟨(home L l).2.2, List.mem_map.mpr ⟨home L l, (heardAll_mem _).mpr ⟨l, hl, rfl⟩, rfl⟩, ?_⟩
  rw [e2, Int.add_mul_emod_self_right]
  show (l.2.2 - l.2.1 / L * L) % L = _
  rw [show l.2.2 - l.2.1 / L * L = l.2.2 + (-(l.2.1 / L)) * L by rw [Int.neg_mul]; omega, Int.add_mul_emod_self_right]
theorem Led.told {L : Int} {ss : List Pr} {kvs : List (Key × V)} {ks : List Int} (E : Led (ld L ss) L ((heardAll L (frs ss)).map fun l => l.2.2) kvs ks) {k : Int} (hk : k ∈ ks) : ∃ s ∈ ss, s.2 % L = k := by
  obtain ⟨y, hy, e⟩ := (E.mem k).mp hk
  obtain ⟨l, hl, rfl⟩ := List.mem_map.mp hy
  obtain ⟨q, hq, rfl⟩ := (heardAll_mem _).mp hl
  obtain ⟨s, hs, rfl⟩ := List.mem_map.mp hq
  refine ⟨s, hs, ?_⟩
  rw [← e]
  show s.2 % L = (s.2 - s.1 / L * L) % L
  rw [show s.2 - s.1 / L * L = s.2 + (-(s.1 / L)) * L by rw [Int.neg_mul]; omega, Int.add_mul_emod_self_right]
theorem Led.nest {L : Int} (hL : 0 < L) {ss : List Pr} (h0 : 0 < ss.length) {kvs : List (Key × V)} {ks hs : List Int} (E : Led (ld L ss) L ((heardAll L (frs ss)).map fun l => l.2.2) kvs ks) (hp : hs.Perm ks) (hr : hs.Pairwise (· ≤ ·)) : Nest L (ld L ss) (fun x => ∃ s ∈ ss, s.2 % L = x) hs := by
  refine ⟨lt_of_le_nodup hs hr (hp.nodup_iff.mpr E.nd), fun x hx => ?_, fun x _ => hp.mem_iff.mpr (E.image hL h0 x), fun x x0 x1 hP => ?_⟩
  · obtain ⟨s, hs, e⟩ := E.told (hp.mem_iff.mp hx)
    exact ⟨by rw [← e]; exact Int.emod_nonneg _ (by omega), by rw [← e]; exact Int.emod_lt_of_pos _ hL, s, hs, e⟩
  · obtain ⟨m, t, e⟩ := hP
    have h := E.image hL h0 (itf (ld L ss) x m)
    have e2 : ld L ss (itf (ld L ss) x m) = x + t * L := e
    rw [e2, Int.add_mul_emod_self_right, Int.emod_eq_of_lt x0 x1] at h
    exact hp.mem_iff.mpr h
section
variable {P : Program} {w : World} {K : PySem.W.Frag} {mg : Str → Option Value} {base : Heap} {Z : Ad}
theorem ok_Hand_length (T : Tx K w mg Z) : FnOk P w K mg base CX0 2 Z.a_Hand_length Z.d_Hand_length P_Hand_length (spHLen Z K) := by
  refine T.F_Hand_length.ok scHand_length (fun vs H Q E h => ?_) (fun cdv A outer s H vs Q E hr h => ?_)
  · obtain ⟨h, d, b, L, ss, rfl, _⟩ := h
    rfl
  · obtain ⟨h, d, b, L, ss, rfl, A, k⟩ := h
    obtain ⟨dx, e⟩ := A.ex
    obtain ⟨dx3, la3, vs3, r1, r2, r3⟩ := id A.dark.ex
    refine ⟨_, (pss_one (ps_ret (pe_meth0 (fldK (K := K) (pv 0) rfl) T.cl T.m_Dark_length (ok_Dark_length T) (hr.mono (by decide)) T.bb_Dark_length .nil pass0))), ?_⟩
    exact ⟨_, rfl, h, Z.C_Hand, dx, _, _, rfl, e, T.cl_Hand, T.nHand__dark, hf_dark _ _, d, dx3, _, rfl, r1, df_no _ _ (by decide +kernel) (by decide +kernel), d, L, _, rfl, A.dark, k⟩
theorem ok_Hand_steps (T : Tx K w mg Z) : FnOk P w K mg base CX0 2 Z.a_Hand_steps Z.d_Hand_steps P_Hand_steps (spHSteps Z K) := by
  refine T.F_Hand_steps.ok scHand_steps (fun vs H Q E h => ?_) (fun cdv A outer s H vs Q E hr h => ?_)
  · obtain ⟨h, d, b, L, ss, rfl, _⟩ := h
    rfl
  · obtain ⟨h, d, b, L, ss, rfl, A, k⟩ := h
    obtain ⟨dx, e⟩ := A.ex
    obtain ⟨dx3, la3, vs3, r1, r2, r3⟩ := id A.dark.ex
    refine ⟨_, (pss_one (ps_ret (pe_lc (own := [("_", 1), ("x", 2), ("y", 3)]) (g := gTup K 3 (gCons (gName 1) (gCons (gName 2) (gCons (gName 3) gNil)))) (tt := tYes) rfl scHand_steps.nd (pi_list (pe_meth0 (fldK (K := K) (pv 0) rfl) T.cl T.m_Dark_looks (ok_Dark_looks T) (hr.mono (by decide)) T.bb_Dark_looks .nil pass0)) (blkOk_by (own := [("_", 1), ("x", 2), ("y", 3)]) (N := N_Hand_steps) (sc := defScope sHand_steps) (by decide +kernel)) (fun _ _ _ _ _ => (tupK (K := K) (by rfl) (pgs_cons (pg_name (i := 1) scHand_steps.nd rfl (Or.inl rfl)) (pgs_cons (pg_name (i := 2) scHand_steps.nd rfl (Or.inl rfl)) (pgs_cons (pg_name (i := 3) scHand_steps.nd rfl (Or.inl rfl)) pgs_nil))))) (fun _ _ _ _ _ => pts_nil) (fun _ _ _ _ _ => (pe_tup (pa_cons (pv 2) (pa_cons (pv 3) pa_nil))))))), ?_⟩
    refine ⟨_, rfl, h, Z.C_Hand, dx, _, _, rfl, e, T.cl_Hand, T.nHand__dark, hf_dark _ _, d, dx3, _, rfl, r1, df_no _ _ (by decide +kernel) (by decide +kernel), d, L, _, rfl, A.dark, fun p xs H1 hp S1 g1 dp => ⟨p, rfl, ⟨_, SqL.of g1⟩, fun D hD => ?_⟩⟩
    have len := A.dark.len
    generalize heardAll L (frs ss) = ls at dp k len
    have hxl : xs.length = ls.length := by rw [dpAll_len dp, List.length_map]
    refine lc_list (K := K) (a := p) (xs := xs) (fun i' H' => Same H1 H' ∧ ∃ ys, H' D = some (.lst ys) ∧ ys.length = i' ∧ DpAll K H' ys (((ls.take i').map fun l => (l.2 : Pr)).map encP)) ⟨same_upd hD, [], upd_same, rfl, .nil⟩ (fun i' H' _ ⟨S, _⟩ => SqL.of (S _ _ g1)) ?_ ?_
    · rintro i' y H2 hi' ⟨S2, ys, gD, hyl, hyd⟩
      obtain ⟨dd, hdi, hdy⟩ := dpAll_get dp hi'
      obtain ⟨l, hl, rfl⟩ := map_at hdi
      have hi : i' < ls.length := (List.getElem?_eq_some_iff.mp hl).1
      obtain ⟨p', rfl, hp'⟩ := dp_lookL (dp_mono S2 _ _ hdy)
      refine ⟨_, _, rfl, hp', rfl, _, _, rfl, _, _, rfl, _, _, rfl, rfl, rfl, yes_ite ?_⟩
      refine ⟨_, rfl, _, rfl, (by show 2 ≤ sizeLine; decide), fun q' hq' => ?_⟩
      have Sq := same_upd (o := HO.tup [V.int l.2.1, .int l.2.2]) hq'
      refine ⟨ys, Sq _ _ gD, small1000 (by omega), same_set (S2.trans Sq) hD, _, upd_same, by simp [hyl], ?_⟩
      rw [take_snoc hl, List.map_append, List.map_append]
      exact acc_step (Sq _ _ gD) (noLs_map noL_encP _) rfl (dpAll_mono Sq _ _ hyd) (.tup (SqT.of upd_same) (.cons (.int _) (.cons (.int _) .nil)))
    · rintro H2 ⟨S2, ys, gD, hyl, hyd⟩
      rw [List.take_of_length_le (by omega)] at hyd
      exact k D ys H2 (S1.free hD) (S1.trans S2) gD hyd
end
end KA
namespace KA
open PySem PySem.Spec PyProof.Rows L2 DP
/-- how many places the list in slot 5 has -/
def lenHomes (σ : L2.St) (H : Hp) : Nat := match σ[5]? with | some (some (V.ref q)) => lenAt H q | _ => 0
section
variable {P : Program} {w : World} {K : PySem.W.Frag} {mg : Str → Option Value} {base : Heap} {Z : Ad}
theorem ok_Hand_homes (T : Tx K w mg Z) : FnOk P w K mg base CX0 5 Z.a_Hand_homes Z.d_Hand_homes P_Hand_homes (spHHomes Z K) := by
  refine T.F_Hand_homes.ok scHand_homes (fun vs H Q E h => ?_) (fun cdv A outer s H vs Q E hr h => ?_)
  · obtain ⟨h, d, b, L, ss, rfl, _⟩ := h
    rfl
  · obtain ⟨h, d, b, L, ss, rfl, A, h0, k⟩ := h
    obtain ⟨dx, e⟩ := A.ex
    have hL := A.dark.pos
    have F := ld_hand hL h0
    refine ⟨_, (pss_cons (ps_set (i := 1) scHand_homes.nd rfl (Or.inr rfl) (pe_meth0 (pv 0) T.cl_Hand T.m_Hand_length (ok_Hand_length T) (hr.mono (by decide)) T.bb_Hand_length .nil pass0))
      (pss_cons (ps_set (i := 2) scHand_homes.nd rfl (Or.inr rfl) (pe_dc (own := [("_", 3), ("y", 4)]) (g := gTup K 2 (gCons (gName 3) (gCons (gName 4) gNil))) (tt := tYes) rfl scHand_homes.nd (pi_list (pe_meth0 (pv 0) T.cl_Hand T.m_Hand_steps (ok_Hand_steps T) (hr.mono (by decide)) T.bb_Hand_steps .nil pass0)) (blkOk_by (own := [("_", 3), ("y", 4)]) (N := N_Hand_homes) (sc := defScope sHand_homes) (by decide +kernel)) (fun _ _ _ _ _ => (tupK (K := K) (by rfl) (pgs_cons (pg_name (i := 3) scHand_homes.nd rfl (Or.inl rfl)) (pgs_cons (pg_name (i := 4) scHand_homes.nd rfl (Or.inl rfl)) pgs_nil)))) (fun _ _ _ _ _ => pts_nil) (fun _ _ _ _ _ => (pe_op op_mod (pv 4) (pv 1))) (fun _ _ _ _ _ => (pe_op op_mod (pe_meth (fldK (K := K) (pv 0) rfl) T.cl T.m_Dark_least (ok_Dark_least T) (hr.mono (by decide)) T.bb_Dark_least .nil pass0 (pa_cons (pv 4) pa_nil)) (pv 1)))))
      (pss_cons (ps_set (i := 5) scHand_homes.nd rfl (Or.inl rfl) (pe_callB (call_sortedDI rfl) (by rfl) T.b_sorted (by decide +kernel) (pa_cons (pv 2) pa_nil)))
      (pss_one (ps_while PassesOwn.never (pt_val pe_bl) (pss_cons (ps_set (i := 6) scHand_homes.nd rfl (Or.inl rfl) (pe_callB (sortedSetK (w := w) rfl) (by rfl) T.b_sorted (by decide +kernel) (pa_cons (NS.pe_nums (own := [("place", 7)]) (g := gName 7) rfl scHand_homes.nd (pi_list (pv 5)) (blkOk_by (own := [("place", 7)]) (N := N_Hand_homes) (sc := defScope sHand_homes) (by decide +kernel)) (fun _ _ _ _ _ => (pg_name (i := 7) scHand_homes.nd rfl (Or.inl rfl))) (fun _ _ _ _ _ => (pe_dget (hu_of hr) (pv 2) (pv 7) (fun _ _ => rfl)))) pa_nil)))
      (C8.pss_cut (ps_if (pt_cmpR op_eq (pe_callB (lenK (K := K)) (by rfl) T.b_len (by decide +kernel) (pa_cons (pv 6) pa_nil)) (pe_callB (lenK (K := K)) (by rfl) T.b_len (by decide +kernel) (pa_cons (pv 5) pa_nil)) (nomark _)) (pss_one (ps_ret (pv 5))) pss_nil)
      (pss_one (ps_set (i := 5) scHand_homes.nd rfl (Or.inl rfl) (pv 6)))))))))), ?_⟩
    refine ⟨_, rfl, h, dx, _, rfl, e, hf_no d b (m := "length") (by decide +kernel) (by decide +kernel), h, d, b, L, ss, rfl, A, ?_⟩
    refine ⟨_, rfl, h, dx, _, rfl, e, hf_no d b (m := "steps") (by decide +kernel) (by decide +kernel), h, d, b, L, ss, rfl, A, fun p xs H1 hp S1 g1 dp => ⟨p, rfl, ⟨_, SqL.of g1⟩, fun D hD => ?_⟩⟩
    have A1 := A.same S1
    have len := A.dark.len
    have size : ∀ l ∈ heardAll L (frs ss), l.2.2.natAbs < 2 ^ 400 := fun l hl => lt_up ((A.dark.ok l hl).2.2) (by decide)
    have hxl : xs.length = (heardAll L (frs ss)).length := by rw [dpAll_len dp, List.length_map, List.length_map]
    refine dict_list (K := K) (a := p) (xs := xs) (fun i' H' => Same H1 H' ∧ ∃ kvs ks, H' D = some (.dK kvs) ∧ kvs.length ≤ i' ∧ Led (ld L ss) L (((heardAll L (frs ss)).take i').map fun l => l.2.2) kvs ks) ⟨same_upd hD, [], [], upd_same, Nat.le_refl _, ⟨rfl, .nil, fun k => by simp, fun k hk => absurd hk (by simp)⟩⟩ (fun i' H' _ ⟨S, _⟩ => SqL.of (S _ _ g1)) ?_ ?_
    · rintro i' y H2 hi' ⟨S2, kvs, ks, gD, hkl, E⟩
      obtain ⟨dd, hdi, hdy⟩ := dpAll_get dp hi'
      obtain ⟨pr, hpr, rfl⟩ := map_at hdi
      obtain ⟨l, hl, rfl⟩ := map_at hpr
      have hi := (List.getElem?_eq_some_iff.mp hl).1
      obtain ⟨p', rfl, hp'⟩ := dp_pair (dp_mono S2 _ _ hdy)
      have A2 := A1.same S2
      obtain ⟨dx2, e2⟩ := A2.ex
      obtain ⟨dx3, la3, vs3, r1, r2, r3⟩ := id A2.dark.ex
      refine ⟨_, _, rfl, hp', rfl, _, _, rfl, _, _, rfl, rfl, rfl, yes_ite ?_⟩
      refine ⟨_, rfl, _, rfl, _, _, rfl, rfl, hL, ?_⟩
      refine ⟨_, rfl, h, Z.C_Hand, dx2, _, _, rfl, e2, T.cl_Hand, T.nHand__dark, hf_dark _ _, d, dx3, _, rfl, r1, df_no _ _ (by decide +kernel) (by decide +kernel), _, rfl, d, L, _, _, rfl, A2.dark, size l (List.mem_of_getElem? hl), fun v H3 S3 tl => ?_⟩
      obtain rfl : v = .int (ld L ss l.2.2) := by
        rcases tl with ⟨e3, _⟩ | ⟨m, rfl, hb⟩
        · exfalso
          have := (side_nil heardAll_mem).mp e3
          rw [frs_slow] at this
          exact frs_ne h0 this
        · have b2 := best_home hL heardAll_mem hb
          rw [frs_slow] at b2
          show V.int m = V.int (bst "slow" (frs ss) l.2.2 L)
          rw [bst_of b2]
      have hlp := length_putK kvs (Sum.inl (l.2.2 % L) : Key) (V.int (ld L ss l.2.2 % L))
      refine ⟨_, rfl, _, _, rfl, rfl, hL, kvs, .inl (l.2.2 % L), rfl, S3 _ _ gD, small1000 (by omega), same_set (S2.trans S3) hD, _, (if l.2.2 % L ∈ ks then ks else ks ++ [l.2.2 % L]), upd_same, Nat.le_trans (length_putK _ _ _) (by omega), ?_⟩
      rw [take_snoc hl, List.map_append]
      exact E.put F l.2.2
    rintro H2 ⟨S2, kvs, ks, gD, hkl, E⟩
    rw [List.take_of_length_le (by omega)] at E
    have hks : ks.length = kvs.length := by
      have := congrArg List.length E.keys
      rw [List.length_map, List.length_map] at this
      exact this.symm
    refine ⟨_, rfl, D, kvs, ks, rfl, .inl gD, E.keys, by omega, fun hs0 q hperm hsrt hq => ?_⟩
    have S02 := S1.trans S2
    have Sq := same_upd (o := HO.lst (hs0.map V.int)) hq
    refine while_by (fun σ' H' => ∃ q hs u6, σ' = [some (.ref h), some (.int L), some (.ref D), none, none, some (.ref q), u6, none] ∧ Same H H' ∧ H q = none ∧ H' q = some (.lst (hs.map V.int)) ∧ H' D = some (.dK kvs) ∧ Nest L (ld L ss) (fun x => ∃ s ∈ ss, s.2 % L = x) hs ∧ (∀ x ∈ hs, x ∈ ks) ∧ hs.length ≤ 60) lenHomes
      ⟨q, hs0, none, rfl, S02.trans Sq, S02.free hq, upd_same, Sq _ _ gD, E.nest hL h0 hperm hsrt, fun x hx => hperm.mem_iff.mp hx, by rw [hperm.length_eq]; omega⟩ ?_ ?_
    · rintro σ1 H3 ⟨q, hs, u6, rfl, S3, hqn, gq, gD3, N, hin, h60⟩
      refine ⟨_, rfl, iteT ?_⟩
      refine ⟨_, rfl, q, rfl, ⟨_, SqL.of gq⟩, fun D2 hD2 => ?_⟩
      refine ⟨hs.length, fun i G => Same H3 G ∧ ∃ S m, G D2 = some (SetO w D2 S m) ∧ m ≤ i ∧ ∀ z, S z = true ↔ ∃ x ∈ hs.take i, ld L ss x % L = z, ⟨same_upd hD2, fun _ => false, 0, upd_same, Nat.le_refl _, fun z => ⟨(fun e => by cases e), (fun ⟨x, hx, _⟩ => by simp at hx)⟩⟩, fun G hG => ?_, fun i G lt hG => ?_⟩
      rotate_left
      · obtain ⟨SG, S', m, gS, hm, hS⟩ := hG
        refine ⟨⟨_, V.int hs[i], SqL.of (SG _ _ gq), by simp [lt]⟩, ?_⟩
        rintro x G' ⟨eG, y⟩
        subst eG
        have ex := y _ (SqL.of (SG _ _ gq))
        have hi : hs[i]? = some hs[i] := List.getElem?_eq_getElem lt
        rw [List.getElem?_map, hi] at ex
        obtain rfl : V.int hs[i] = x := Option.some.inj ex
        have hmem := hin _ (List.mem_of_getElem? hi)
        refine ⟨rfl, _, rfl, _, rfl, D, _, rfl, by rw [← E.val _ hmem]; exact DGet.k (k := .inl hs[i]) (SG _ _ gD3), ?_⟩
        refine ⟨_, S', m, rfl, gS, Nat.lt_of_le_of_lt (by omega : m + 1 ≤ 61) (by decide), same_set SG hD2, _, _, upd_same, by split <;> omega, fun z => ?_⟩
        rw [Bool.or_eq_true, decide_eq_true_eq, hS, take_snoc hi]
        constructor
        · rintro (⟨x, hx, e⟩ | rfl)
          · exact ⟨x, List.mem_append_left _ hx, e⟩
          · exact ⟨hs[i], List.mem_append_right _ (List.mem_singleton.mpr rfl), rfl⟩
        · rintro ⟨x, hx, e⟩
          rcases List.mem_append.mp hx with hx | hx
          · exact .inl ⟨x, hx, e⟩
          · rw [List.mem_singleton] at hx
            exact .inr (by rw [← e, hx])
      obtain ⟨SG, S', m, gS, hm, hS⟩ := hG
      refine ⟨⟨_, SqL.of (SG _ _ gq), by simp⟩, ?_⟩
      rw [List.take_of_length_le (Nat.le_refl _)] at hS
      refine ⟨D2, S', m, rfl, gS, by omega, fun ns r hrise hmem hlen hr => ?_⟩
      have Sr := same_upd (o := HO.lst (ns.map V.int)) hr
      have Sall := SG.trans Sr
      have gr : (upd G r (HO.lst (ns.map V.int))) r = some (HO.lst (ns.map V.int)) := upd_same
      generalize upd G r (HO.lst (ns.map V.int)) = G3 at Sr Sall gr ⊢
      have hm2 : ∀ z, z ∈ ns ↔ ∃ x ∈ hs, ld L ss x % L = z := fun z => (hmem z).trans (hS z)
      have Nx := N.next hL F hrise hm2
      refine ⟨fun σ' H' => σ' = [some (.ref h), some (.int L), some (.ref D), none, none, some (.ref q), some (.ref r), none] ∧ H' = G3 ∧ ns.length ≠ hs.length, ?_, ?_⟩
      · refine ⟨_, rfl, r, _, rfl, .inl (SqL.of gr), _, rfl, q, _, rfl, .inl (SqL.of (Sall _ _ gq)), rfl, _, rfl, ?_⟩
        have heq : (V.int ((ns.map V.int).length : Nat) = V.int ((hs.map V.int).length : Nat)) ↔ ns.length = hs.length := by
          rw [List.length_map, List.length_map]
          exact ⟨fun q => Int.ofNat_inj.mp (V.int.inj q), fun q => by rw [q]⟩
        refine ite2 (fun c => ?_) (fun c => ?_)
        · exact ⟨_, rfl, k q hs G3 hqn (S3.trans Sall) (Sall _ _ gq) (N.last hL F hrise hm2 (heq.mp (of_decide_eq_true c))) h60⟩
        · exact ⟨rfl, rfl, fun q => c (decide_eq_true (heq.mpr q))⟩
      · rintro σ4 H4 ⟨rfl, rfl, hne⟩
        refine ⟨_, rfl, ⟨r, ns, _, rfl, S3.trans Sall, ?_, gr, Sall _ _ gD3, Nx.1, fun x hx => ?_, by omega⟩, ?_⟩
        · exact S3.free (SG.free hr)
        · obtain ⟨z, _, e⟩ := (hm2 x).mp hx
          rw [← e]; exact E.image hL h0 z
        · show lenAt H4 r < lenAt H3 q
          rw [lenAt_of gr, lenAt_of gq, List.length_map, List.length_map]
          have := Nx.2
          omega
    · rintro σ1 H1 Q1 Q2 hQ ⟨b, eb, hc⟩
      exact ⟨b, eb, hQ _ _ hc⟩
end
end KA
namespace KA
open PySem PySem.Spec PyProof.Rows L2 DP
/-! ### the law's homes -/
theorem rise_ext : ∀ {l k : List Int}, l.Pairwise (· < ·) → k.Pairwise (· < ·) → (∀ z, z ∈ l ↔ z ∈ k) → l = k
  | [], [], _, _, _ => rfl
  | [], y :: k, _, _, h => absurd ((h y).mpr List.mem_cons_self) (by simp)
  | x :: l, [], _, _, h => absurd ((h x).mp List.mem_cons_self) (by simp)
  | x :: l, y :: k, h1, h2, h => by
    obtain ⟨a1, a2⟩ := List.pairwise_cons.mp h1
    obtain ⟨b1, b2⟩ := List.pairwise_cons.mp h2
    have e : x = y := by
      rcases List.mem_cons.mp ((h x).mp List.mem_cons_self) with c | c
      · exact c
      · rcases List.mem_cons.mp ((h y).mpr List.mem_cons_self) with d | d
        · exact d.symm
        · have := a1 y d
          have := b1 x c
          omega
    subst e
    rw [rise_ext a2 b2 fun z => ⟨fun hz => ?_, fun hz => ?_⟩]
    · rcases List.mem_cons.mp ((h z).mp (List.mem_cons_of_mem _ hz)) with c | c
      · have := a1 z hz; omega
      · exact c
    · rcases List.mem_cons.mp ((h z).mpr (List.mem_cons_of_mem _ hz)) with c | c
      · have := b1 z hz; omega
      · exact c
def spLHomes (K : PySem.W.Frag) : Sp := fun vs H Q _ => ∃ (v u : V) (L : Int) (prs : List Pr) (pr : Pr), vs = [.int L, v, u] ∧ Dp K H v (.list (prs.map encP)) ∧ Dp K H u (encP pr) ∧ 0 < L ∧ L.natAbs < 2 ^ 200 ∧ 0 < prs.length ∧ prs.length ≤ 60 ∧ (∀ s ∈ prs, SzP 300 s) ∧ 0 ≤ pr.2 ∧ pr.2 ≤ 1000 ∧ pr.1.natAbs < 2 ^ 393 ∧
  ∀ (p : Addr) (hs : List Int) (H' : Hp), H p = none → Same H H' → H' p = some (.lst (hs.map V.int)) → hs.Pairwise (· < ·) → (∀ z, z ∈ hs ↔ (∃ s ∈ prs, s.2 % L = z) ∧ gone L prs z pr.2.toNat = z + pr.1 * L) → hs.length ≤ 60 → Q (.ref p) H'
/-- these are the homes -/
theorem homes_one {L : Int} (hL : 0 < L) {prs : List Pr} (h0 : 0 < prs.length) {pr : Pr} (P : PaceOf L (ld L prs) pr) {Y : Int → Prop} (hY : ∀ z, Y z ↔ ∃ s ∈ prs, s.2 % L = z) {hs ks : List Int} (A : Homes L (ld L prs) Y hs) (h1 : ks.Pairwise (· < ·)) (h2 : ∀ z, z ∈ ks ↔ (∃ s ∈ prs, s.2 % L = z) ∧ gone L prs z pr.2.toNat = z + pr.1 * L) : hs = ks := by
  refine rise_ext A.rise h1 fun z => ?_
  rw [h2, A.mem, per_pace hL (ld_hand hL h0) P, gone_itf]
  constructor
  · rintro ⟨z0, z1, h⟩
    exact ⟨(hY z).mp (A.low z ((A.mem z).mpr ⟨z0, z1, (per_pace hL (ld_hand hL h0) P).mpr h⟩)), h⟩
  · rintro ⟨⟨s, hs, rfl⟩, h⟩
    exact ⟨Int.emod_nonneg _ (by omega), Int.emod_lt_of_pos _ hL, h⟩
section
variable {P : Program} {w : World} {K : PySem.W.Frag} {mg : Str → Option Value} {base : Heap} {Z : Ad}
end
end KA
namespace KA
open PySem PySem.Spec PyProof.Rows L2 DP
/-! ### the first use behind which a walk is so far -/
/-- a comprehension over enumerate(xs) -/
theorem lc_enum {K : PySem.W.Frag} {a : Addr} {xs : List V} {g : TG} {tt : TT} {te : TE} {vs : List Nat} {σ : L2.St} {H1 : Hp} {D : Addr} {Qd : Hp → Prop} (Pv : Nat → Hp → Prop) (h0 : Pv 0 (upd H1 D (.lst []))) (hl : ∀ i H, i ≤ xs.length → Pv i H → SqL K H a xs)
    (hs : ∀ i x T H, xs[i]? = some x → Pv i H → H T = none → g (.ref T) (wipe σ vs) (upd H T (.tup [.int (i : Nat), x])) fun σ2 H2 => wipe σ2 vs = wipe σ vs ∧ tt σ2 H2 fun b H3 =>
      if b = true then te σ2 H3 fun y H4 => ∃ acc, H4 D = some (.lst acc) ∧ acc.length < sizeLine ∧ Pv (i + 1) (upd H4 D (.lst (acc ++ [y]))) else Pv (i + 1) H3) (hd : ∀ H, Pv xs.length H → Qd H) :
    ∃ W : Nat → Nat → Hp → Prop, (∃ m, W 0 m (upd H1 D (.lst []))) ∧ ∀ i m H, W i m H →
      ((Ite K a).stop i H ∧ Qd H) ∨ ((Ite K a).go i H ∧ ∃ Nx : Hp → Prop, (∀ H', Nx H' → ∃ m', m' < m ∧ W (i + 1) m' H') ∧ ∀ x H', (Ite K a).yld i H x H' → g x (wipe σ vs) H' fun σ2 H2 => wipe σ2 vs = wipe σ vs ∧ tt σ2 H2 fun b H3 =>
        if b = true then te σ2 H3 fun y H4 => ∃ acc, H4 D = some (.lst acc) ∧ acc.length < sizeLine ∧ Nx (upd H4 D (.lst (acc ++ [y]))) else Nx H3) := by
  refine ⟨fun i m H => m = xs.length - i ∧ i ≤ xs.length ∧ Pv i H, ⟨xs.length, rfl, Nat.zero_le _, h0⟩, ?_⟩
  rintro i m H ⟨rfl, hi, p⟩
  have q := hl i H hi p
  by_cases hlt : i < xs.length
  · refine .inr ⟨⟨xs, xs[i], q, by simp [hlt]⟩, Pv (i + 1), fun H' p' => ⟨xs.length - (i + 1), by omega, rfl, hlt, p'⟩, fun v H' y => ?_⟩
    obtain ⟨T, x, rfl, hT, rfl, f⟩ := y
    exact hs i x T H (f xs q) p hT
  · have e : i = xs.length := by omega
    subst e
    exact .inl ⟨⟨xs, q, Nat.le_refl _⟩, hd H p⟩
/-- the first place of f that is y or farther, or there is none -/
def IsReach (f : Nat → Option Int) (y : Int) : Option Nat → Prop
  | none => ∀ k m, f k = some m → m < y
  | some n => (∃ m, f n = some m ∧ y ≤ m) ∧ ∀ k, k < n → ∀ m, f k = some m → m < y
theorem IsReach.one {f : Nat → Option Int} {y : Int} : ∀ {r r' : Option Nat}, IsReach f y r → IsReach f y r' → r = r'
  | none, none, _, _ => rfl
  | none, some n, h, ⟨⟨m, e, h1⟩, _⟩ => absurd (h n m e) (by omega)
  | some n, none, ⟨⟨m, e, h1⟩, _⟩, h => absurd (h n m e) (by omega)
  | some n, some n', ⟨⟨m, e, h1⟩, h2⟩, ⟨⟨m', e', h1'⟩, h2'⟩ => by
    rcases Nat.lt_trichotomy n n' with h | h | h
    · exact absurd (h2' n h m e) (by omega)
    · rw [h]
    · exact absurd (h2 n' h m' e') (by omega)
def uV : Option Nat → V
  | none => .non
  | some n => .int (n : Int)
section
variable {sd : Str} {L : Int} {kn : List (List Lk)} {x y : Int} {ps : List Int} {tl : List Lk}
theorem getD_mem {l : List Int} {i : Nat} (h : i < l.length) : l.getD i 0 ∈ l := by
  rw [List.getD_eq_getElem?_getD, List.getElem?_eq_getElem h]; exact List.getElem_mem h
theorem reach_in (W : WalkOk sd L kn x ps tl) {i : Nat} (hi : i < ps.length) (hy : y ≤ ps.getD i 0) (hb : ∀ k, k < i → ps.getD k 0 < y) : IsReach (it sd L kn x) y (some i) := by
  refine ⟨⟨_, behind_in W hi, hy⟩, fun k hk m hm => ?_⟩
  rw [behind_in W (by omega : k < ps.length)] at hm
  rw [← Option.some.inj hm]
  exact hb k hk
theorem reach_off (W : WalkOk sd L kn x ps tl) (h : EndOk L kn ps tl none) (hb : ∀ v ∈ ps, v < y) : IsReach (it sd L kn x) y none := fun k m hm => by
  by_cases hk : k < ps.length
  · rw [behind_in W hk] at hm
    rw [← Option.some.inj hm]
    exact hb _ (getD_mem hk)
  · rw [behind_none W h (by omega)] at hm
    cases hm
theorem walk_at (hs : SideOk sd) (hL : 0 < L) (W : WalkOk sd L kn x ps tl) {s : Nat} (h : EndOk L kn ps tl (some s)) {n : Nat} (hn : s ≤ n) :
    ∃ t r : Nat, r < tl.length - s ∧ n = s + r + t * (tl.length - s) ∧ it sd L kn x n = some (ps.getD (s + r) 0 + t * (ps.getD tl.length 0 - ps.getD s 0)) := by
  have h1 := h.1
  have hl := W.len
  have hp : 0 < tl.length - s := by omega
  refine ⟨(n - s) / (tl.length - s), (n - s) % (tl.length - s), Nat.mod_lt _ hp, ?_, ?_⟩
  · have := Nat.div_add_mod (n - s) (tl.length - s)
    rw [Nat.mul_comm] at this
    omega
  · have h2 := Nat.mod_lt (n - s) hp
    have h3 := behind_laps hs hL W h ((n - s) / (tl.length - s)) ((n - s) % (tl.length - s)) (by omega)
    have h4 : s + (n - s) % (tl.length - s) + (n - s) / (tl.length - s) * (tl.length - s) = n := by
      have := Nat.div_add_mod (n - s) (tl.length - s)
      rw [Nat.mul_comm] at this
      omega
    rwa [h4] at h3
theorem reach_neg (hs : SideOk sd) (hL : 0 < L) (W : WalkOk sd L kn x ps tl) {s : Nat} (h : EndOk L kn ps tl (some s)) (hb : ∀ v ∈ ps, v < y) (hC : ps.getD tl.length 0 - ps.getD s 0 ≤ 0) : IsReach (it sd L kn x) y none := fun k m hm => by
  have hl := W.len
  have h1 := h.1
  by_cases hk : k < ps.length
  · rw [behind_in W hk] at hm
    rw [← Option.some.inj hm]
    exact hb _ (getD_mem hk)
  · obtain ⟨t, r, hr, _, e⟩ := walk_at hs hL W h (by omega : s ≤ k)
    rw [e] at hm
    rw [← Option.some.inj hm]
    have h2 := hb _ (getD_mem (by omega : s + r < ps.length))
    have h3 : (t : Int) * (ps.getD tl.length 0 - ps.getD s 0) ≤ 0 := Int.mul_nonpos_of_nonneg_of_nonpos (by omega) hC
    omega
theorem reach_pos (hs : SideOk sd) (hL : 0 < L) (W : WalkOk sd L kn x ps tl) {s : Nat} (h : EndOk L kn ps tl (some s)) (hb : ∀ v ∈ ps, v < y) {C M ti : Int} (eC : C = ps.getD tl.length 0 - ps.getD s 0) (hC : 0 < C)
    (hM : ∀ r, s + r < ps.length → ps.getD (s + r) 0 ≤ M) (hMy : M < y) (eti : ti = -((M - y) / C)) {a : Nat} (ha : s + a < ps.length) (ha1 : y - ti * C ≤ ps.getD (s + a) 0) (ha2 : ∀ i, i < a → ps.getD (s + i) 0 < y - ti * C) :
    0 ≤ ti ∧ IsReach (it sd L kn x) y (some (s + ti.toNat * (tl.length - s) + a)) := by
  have hl := W.len
  have h1 := h.1
  have hp : 0 < tl.length - s := by omega
  have q1 := Int.mul_ediv_add_emod (M - y) C
  have q2 := Int.emod_nonneg (M - y) (show C ≠ 0 by omega)
  have q3 := Int.emod_lt_of_pos (M - y) hC
  have t0 : 0 < ti := by
    have : (M - y) / C < 0 := Int.ediv_neg_of_neg_of_pos (by omega) hC
    omega
  obtain ⟨T, rfl⟩ : ∃ T : Nat, ti = (T : Int) := ⟨ti.toNat, by omega⟩
  have eg : (T : Int) * C = -(C * ((M - y) / C)) := by rw [eti]; grind
  have hgM : M - C < y - (T : Int) * C := by rw [eg]; omega
  refine ⟨by omega, ?_⟩
  rw [Int.toNat_natCast]
  refine ⟨⟨_, by
    have := behind_laps hs hL W h T a ha
    rw [← eC, show s + a + T * (tl.length - s) = s + T * (tl.length - s) + a by omega] at this
    exact this, by omega⟩, fun k hk m hm => ?_⟩
  by_cases hkl : k < ps.length
  · rw [behind_in W hkl] at hm
    rw [← Option.some.inj hm]
    exact hb _ (getD_mem hkl)
  · obtain ⟨t, r, hr, ek, e⟩ := walk_at hs hL W h (by omega : s ≤ k)
    rw [e, ← eC] at hm
    rw [← Option.some.inj hm]
    have hv := hM r (by omega)
    rcases Nat.lt_trichotomy t T with ht | ht | ht
    · have h2 : (t : Int) * C ≤ ((T : Int) - 1) * C := Int.mul_le_mul_of_nonneg_right (by omega) (by omega)
      have h3 : ((T : Int) - 1) * C = (T : Int) * C - C := by grind
      omega
    · subst ht
      have := ha2 r (by omega)
      omega
    · exfalso
      have h2 : (T + 1) * (tl.length - s) ≤ t * (tl.length - s) := Nat.mul_le_mul_right _ ht
      rw [Nat.add_mul, Nat.one_mul] at h2
      omega
end
theorem cut_from {xs : List V} {k : Nat} : cutV xs (some (k : Int)) none = xs.drop k := by
  unfold cutV
  rw [HT.sIx_none, HT.sIx_nat]
  by_cases h : k ≤ xs.length
  · rw [show min k xs.length = k by omega, List.take_of_length_le (by rw [List.length_drop]; exact Nat.le_refl _)]
  · rw [show min k xs.length = xs.length by omega, Nat.sub_self, List.take_zero, List.drop_eq_nil_of_le (by omega)]
def spReach (Z : Ad) (K : PySem.W.Frag) : Sp := fun vs H Q _ => ∃ (w pl tb : Addr) (sd : Str) (L x y : Int) (kn : List (List Lk)) (ps : List Int) (tl : List Lk) (st : Option Nat), vs = [.ref w, .int y] ∧ WalkAt Z K H w pl tb ps tl st ∧ WalkOk sd L kn x ps tl ∧ EndOk L kn ps tl st ∧ SideOk sd ∧ 0 < L ∧ L.natAbs < 2 ^ 200 ∧ KnOk kn ∧ x.natAbs < 2 ^ 390 ∧ tl.length < 4000 ∧ y.natAbs < 2 ^ 400 ∧
  ∀ H' r, Same H H' → IsReach (it sd L kn x) y r → Q (uV r) H'
section
variable {P : Program} {w : World} {K : PySem.W.Frag} {mg : Str → Option Value} {base : Heap} {Z : Ad}
theorem ok_Walk_reach (T : Tx K w mg Z) : FnOk P w K mg base CX0 2 Z.a_Walk_reach Z.d_Walk_reach P_Walk_reach (spReach Z K) := by
  refine T.F_Walk_reach.ok scWalk_reach (fun vs H Q E h => ?_) (fun cdv A outer s H vs Q E hr h => ?_)
  · obtain ⟨w, pl, tb, sd, L, x, y, kn, ps, tl, st, rfl, _⟩ := h
    rfl
  · obtain ⟨w, pl, tb, sd, L, x, y, kn, ps, tl, st, rfl, WA, W, E0', hsd, hL, hLb, hkn, hx, hN, hyb, k⟩ := h
    obtain ⟨dx, tvs, h1, h2, h3, h4⟩ := id WA.ex
    have hwl := W.len
    have hno := wf_no pl tb (stV st) (m := "climb") (by decide +kernel) (by decide +kernel) (by decide +kernel)
    have hsm : ∀ i, i < ps.length → (ps.getD i 0).natAbs < 2 ^ 391 := fun i hi => by
      have q1 := W.small hL hLb hkn i (ps.getD i 0) (by rw [List.getD_eq_getElem?_getD, List.getElem?_eq_getElem hi]; rfl)
      have q2 : i * 2 ^ 312 ≤ 2 ^ 390 := Nat.le_trans (Nat.mul_le_mul_right _ (by omega : i ≤ 4000)) (by decide)
      have q3 : (2 : Nat) ^ 391 = 2 ^ 390 + 2 ^ 390 := by rw [Nat.pow_succ, Nat.mul_two]
      omega
    refine ⟨_, (pss_cons (ps_for PassesOwn.never rfl (pi_enum (by rfl) T.b_enumerate (pa_cons (fldK (K := K) (pv 0) rfl) pa_nil)) (tupK (K := K) (by rfl) (pgs_cons (pg_name (i := 2) scWalk_reach.nd rfl (Or.inl rfl)) (pgs_cons (pg_name (i := 3) scWalk_reach.nd rfl (Or.inl rfl)) pgs_nil))) (pss_one (ps_if (pt_cmpR op_ge (pv 3) (pv 1) (nomark _)) (pss_one (ps_ret (pv 2))) pss_nil)))
      (C8.pss_cut (ps_if (PW.pt (pw_or (pt_cmpR op_isN (fldK (K := K) (pv 0) rfl) pe_non (nomark _)) (pw_or1 (pt_cmpR op_le (pe_meth0 (pv 0) T.cl_Walk T.m_Walk_climb (ok_Walk_climb T) (hr.mono (by decide)) T.bb_Walk_climb .nil pass0) pe_int (nomark _))))) (pss_one (ps_ret pe_non)) pss_nil)
      (pss_cons (ps_set (i := 4) scWalk_reach.nd rfl (Or.inl rfl) (pe_slice (slL (K := K)) (fldK (K := K) (pv 0) rfl) (po_some (fldK (K := K) (pv 0) rfl)) po_none))
      (pss_cons (ps_set (i := 5) scWalk_reach.nd rfl (Or.inl rfl) (pe_un un_neg (pe_op op_fdivW (pe_op op_sub (pe_callB (maxK (K := K) rfl) (by rfl) T.b_max (by decide +kernel) (pa_cons (pv 4) pa_nil)) (pv 1)) (pe_meth0 (pv 0) T.cl_Walk T.m_Walk_climb (ok_Walk_climb T) (hr.mono (by decide)) T.bb_Walk_climb .nil pass0))))
      (pss_cons (ps_set (i := 6) scWalk_reach.nd rfl (Or.inr rfl) (pe_op op_sub (pv 1) (pe_op op_mulW (pv 5) (pe_meth0 (pv 0) T.cl_Walk T.m_Walk_climb (ok_Walk_climb T) (hr.mono (by decide)) T.bb_Walk_climb .nil pass0))))
      (pss_cons (ps_setLc (i := 7) (own := [("at", 8), ("place", 3)]) (g := gTup K 2 (gCons (gName 8) (gCons (gName 3) gNil))) (tt := _) rfl scWalk_reach.nd rfl rfl (sw_true rfl rfl rfl (by decide +kernel)) (pi_enum (by rfl) T.b_enumerate (pa_cons (pv 4) pa_nil)) (blkOk_by (own := [("at", 8), ("place", 3)]) (N := N_Walk_reach) (sc := defScope sWalk_reach) (by decide +kernel)) (fun _ _ _ _ _ => (tupK (K := K) (by rfl) (pgs_cons (pg_name (i := 8) scWalk_reach.nd rfl (Or.inl rfl)) (pgs_cons (pg_name (i := 3) scWalk_reach.nd rfl (Or.inl rfl)) pgs_nil)))) (fun _ _ _ _ _ => (pts_one (pt_cmpR op_ge (pv 3) (pv 6) (nomark _)))) (fun _ _ _ _ _ => (pv 8)))
      (pss_one (ps_ret (pe_op op_add (pe_op op_add (fldK (K := K) (pv 0) rfl) (pe_op op_mulW (pv 5) (pe_meth0 (pv 0) T.cl_Walk T.m_Walk_period (ok_Walk_period T) (hr.mono (by decide)) T.bb_Walk_period .nil pass0))) (pe_ix (ixL (K := K)) (pv 7) pe_int (fun _ _ => rfl))))))))))), ?_⟩
    refine ⟨_, rfl, w, Z.C_Walk, dx, _, _, rfl, h1, T.cl_Walk, T.nWalk_places, wf_places _ _ _, pl, ps.map V.int, rfl, SqL.of h2, ?_⟩
    refine for_enum (K := K) (a := pl) (xs := ps.map V.int) (fun i σ' H' => ∃ u2 u3, σ' = [some (.ref w), some (.int y), u2, u3, none, none, none, none, none] ∧ Same H H' ∧ ∀ j, j < i → ps.getD j 0 < y) ⟨_, _, rfl, fun _ _ e => e, fun j hj => by omega⟩ (fun i σ' H' _ ⟨_, _, _, S, _⟩ => SqL.of (S _ _ h2)) ?_ ?_
    · rintro i v T' σ' H' hi ⟨u2, u3, rfl, S, hb⟩ hT'
      obtain ⟨p, hp, rfl⟩ := map_at hi
      have hil : i < ps.length := (List.getElem?_eq_some_iff.mp hp).1
      have ep : ps.getD i 0 = p := by rw [List.getD_eq_getElem?_getD, hp]; rfl
      have S2 := S.trans (same_upd (o := HO.tup [V.int (i : Nat), .int p]) hT')
      refine ⟨_, _, rfl, SqT.of upd_same, rfl, _, _, rfl, _, _, rfl, rfl, ?_⟩
      refine ⟨_, rfl, _, rfl, _, _, rfl, rfl, _, rfl, ite2 (fun c => ?_) (fun c => ?_)⟩
      · have c' : p ≥ y := of_decide_eq_true c
        exact ⟨_, rfl, k _ (some i) S2 (reach_in W hil (by omega) hb)⟩
      · have c' : ¬ p ≥ y := fun h => c (decide_eq_true h)
        refine ⟨_, _, rfl, S2, fun j hj => ?_⟩
        by_cases e : j < i
        · exact hb j e
        · have : j = i := by omega
          subst this
          omega
    rintro σ1 H1 ⟨u2, u3, rfl, S1, hb0⟩
    have hb : ∀ v ∈ ps, v < y := fun v hv => by
      obtain ⟨i, hi, e⟩ := List.getElem_of_mem hv
      have := hb0 i (by rw [List.length_map]; exact hi)
      rw [List.getD_eq_getElem?_getD, List.getElem?_eq_getElem hi] at this
      rw [← e]; exact this
    have WA1 : WalkAt Z K H1 w pl tb ps tl st := ⟨dx, tvs, S1 _ _ h1, S1 _ _ h2, S1 _ _ h3, dpAll_mono S1 _ _ h4⟩
    cases st with
    | none =>
      refine ⟨fun _ _ => False, ?_, fun _ _ z => z.elim⟩
      exact ⟨_, rfl, w, Z.C_Walk, dx, _, _, rfl, S1 _ _ h1, T.cl_Walk, T.nWalk_start, wf_start _ _ _, rfl, _, rfl, iteT (iteT (k H1 none S1 (reach_off W E0' hb)))⟩
    | some s =>
      have hs1 := E0'.1
      have hlap : s < ps.length := by omega
      obtain ⟨C, eC⟩ : ∃ C, C = ps.getD tl.length 0 - ps.getD s 0 := ⟨_, rfl⟩
      refine ⟨fun σ' H' => σ' = [some (.ref w), some (.int y), u2, u3, none, none, none, none, none] ∧ H' = H1 ∧ 0 < C, ?_, ?_⟩
      · refine ⟨_, rfl, w, Z.C_Walk, dx, _, _, rfl, S1 _ _ h1, T.cl_Walk, T.nWalk_start, wf_start _ _ _, rfl, _, rfl, iteF ?_⟩
        refine ⟨_, rfl, w, dx, _, rfl, S1 _ _ h1, hno, w, pl, tb, ps, tl, s, rfl, WA1, hwl, hs1, _, _, rfl, rfl, _, rfl, ite2 (fun c => ?_) (fun c => ⟨rfl, rfl, ?_⟩)⟩
        · have c' : ps.getD tl.length 0 - ps.getD s 0 ≤ 0 := of_decide_eq_true c
          exact k H1 none S1 (reach_neg hsd hL W E0' hb c')
        · have c' : ¬ ps.getD tl.length 0 - ps.getD s 0 ≤ 0 := fun h => c (decide_eq_true h)
          omega
      rintro σ2 H2 ⟨rfl, rfl, hC⟩
      refine ⟨_, rfl, w, Z.C_Walk, dx, _, _, rfl, S1 _ _ h1, T.cl_Walk, T.nWalk_places, wf_places _ _ _, _, rfl, w, Z.C_Walk, dx, _, _, rfl, S1 _ _ h1, T.cl_Walk, T.nWalk_start, wf_start _ _ _, (s : Int), rfl, pl, ps.map V.int, rfl, SqL.of (S1 _ _ h2), fun lp hlp => ?_⟩
      rw [cut_from, ← List.map_drop]
      have S3 := S1.trans (same_upd (o := HO.lst ((ps.drop s).map V.int)) hlp)
      have g3 : (upd H2 lp (.lst ((ps.drop s).map V.int))) lp = some (.lst ((ps.drop s).map V.int)) := upd_same
      generalize upd H2 lp (.lst ((ps.drop s).map V.int)) = H3 at S3 g3 ⊢
      have WA3 : WalkAt Z K H3 w pl tb ps tl (some s) := ⟨dx, tvs, S3 _ _ h1, S3 _ _ h2, S3 _ _ h3, dpAll_mono S3 _ _ h4⟩
      have hdl : (ps.drop s).length = ps.length - s := List.length_drop
      have hCb : C.natAbs < 2 ^ 392 := by rw [eC]; exact sub_lt (hsm _ (by omega)) (hsm _ (by omega))
      -- times
      refine ⟨_, rfl, lp, ps.drop s, rfl, SqL.of g3, by omega, fun M hM1 hM2 => ?_⟩
      have hMget : ∀ r, s + r < ps.length → ps.getD (s + r) 0 ≤ M := fun r hr => hM2 _ (by
        have e : ps.getD (s + r) 0 = (ps.drop s).getD r 0 := by
          rw [List.getD_eq_getElem?_getD, List.getD_eq_getElem?_getD, List.getElem?_drop]
        rw [e]; exact getD_mem (by omega))
      have hMmem : M ∈ ps := List.mem_of_mem_drop hM1
      have hMy : M < y := hb M hMmem
      have hMb : M.natAbs < 2 ^ 401 := by
        obtain ⟨i, hi, e⟩ := List.getElem_of_mem hMmem
        have := hsm i hi
        rw [List.getD_eq_getElem?_getD, List.getElem?_eq_getElem hi, Option.getD_some, e] at this
        exact lt_up this (by decide)
      have hCd : 0 < ps.getD tl.length 0 - ps.getD s 0 := by omega
      refine ⟨_, rfl, _, _, rfl, rfl, _, rfl, w, dx, _, rfl, S3 _ _ h1, hno, w, pl, tb, ps, tl, s, rfl, WA3, hwl, hs1, _, _, rfl, rfl, wide_div hCd (by rw [eC] at hCb; exact hCb) (by decide) (by decide), _, rfl, ?_⟩
      rw [← eC]
      obtain ⟨ti, eti⟩ : ∃ ti, ti = -((M - y) / C) := ⟨_, rfl⟩
      have htib : ti.natAbs < 2 ^ 403 := by
        rw [eti, Int.natAbs_neg]
        exact div_lt hC (sub_lt hMb (lt_up hyb (by decide)))
      have htb : (-((M - y) / C)).natAbs < 2 ^ 403 := by rw [← eti]; exact htib
      refine ⟨_, rfl, _, rfl, _, rfl, w, dx, _, rfl, S3 _ _ h1, hno, w, pl, tb, ps, tl, s, rfl, WA3, hwl, hs1, _, _, rfl, rfl, wide_mul htb (by rw [eC] at hCb; exact hCb) (by decide) (by decide) (by decide), _, _, rfl, rfl, ?_⟩
      -- far_enough
      refine ⟨_, rfl, lp, _, rfl, SqL.of g3, fun D hD => ?_⟩
      have e30 : V.int (y - -((M - y) / C) * C) = .int (y - ti * C) := by rw [eti]
      refine lc_enum (K := K) (a := lp) (xs := (ps.drop s).map V.int) (fun i H' => Same H3 H' ∧ H' D = some (.lst (((List.range i).filter fun j => decide (y - ti * C ≤ ps.getD (s + j) 0)).map fun j => V.int (j : Nat)))) ⟨same_upd hD, upd_same⟩ (fun i H' _ ⟨S, _⟩ => SqL.of (S _ _ g3)) ?_ ?_
      · rintro i v T' H4 hi ⟨S4, gD⟩ hT'
        obtain ⟨p, hp, rfl⟩ := map_at hi
        have hil : i < ps.length - s := by
          have := (List.getElem?_eq_some_iff.mp hp).1
          omega
        have ep : ps.getD (s + i) 0 = p := by
          rw [List.getElem?_drop] at hp
          rw [List.getD_eq_getElem?_getD, hp]; rfl
        have S5 := same_upd (o := HO.tup [V.int (i : Nat), .int p]) hT'
        refine ⟨_, _, rfl, SqT.of upd_same, rfl, _, _, rfl, _, _, rfl, rfl, rfl, ?_⟩
        refine ⟨_, rfl, _, rfl, _, _, rfl, rfl, _, rfl, ite2 (fun c => ?_) (fun c => ?_)⟩
        · have c' : p ≥ y - -((M - y) / C) * C := by
            have := of_decide_eq_true c
            rw [← eC] at this
            exact this
          rw [← eti] at c'
          refine ⟨_, rfl, _, S5 _ _ gD, ?_, same_set (S4.trans S5) hD, ?_⟩
          · rw [List.length_map]
            have h1 := List.length_filter_le (fun j => decide (y - ti * C ≤ ps.getD (s + j) 0)) (List.range i)
            rw [List.length_range] at h1
            exact Nat.lt_of_le_of_lt (by omega : _ ≤ 4000) (by decide)
          · rw [List.range_succ, List.filter_append, List.map_append]
            have e : [i].filter (fun j => decide (y - ti * C ≤ ps.getD (s + j) 0)) = [i] := by
              rw [List.filter_cons_of_pos (by rw [ep]; exact decide_eq_true c')]; rfl
            rw [e]
            exact upd_same
        · have c' : ¬ p ≥ y - -((M - y) / C) * C := fun h => c (by
            rw [← eC]
            exact decide_eq_true h)
          rw [← eti] at c'
          refine ⟨S4.trans S5, ?_⟩
          rw [List.range_succ, List.filter_append]
          have e : [i].filter (fun j => decide (y - ti * C ≤ ps.getD (s + j) 0)) = [] := by
            rw [List.filter_cons_of_neg (by rw [ep]; simpa using c')]; rfl
          rw [e, List.append_nil]
          exact S5 _ _ gD
      rintro H4 ⟨S4, gD⟩
      rw [List.length_map, hdl] at gD
      -- the first of them
      obtain ⟨a, ha, ha1, ha2, hfirst⟩ : ∃ a : Nat, a < ps.length - s ∧ y - ti * C ≤ ps.getD (s + a) 0 ∧ (∀ i, i < a → ps.getD (s + i) 0 < y - ti * C) ∧ ((List.range (ps.length - s)).filter fun j => decide (y - ti * C ≤ ps.getD (s + j) 0)).head? = some a := by
        have hMx : y - ti * C ≤ M := by
          have q1 := Int.mul_ediv_add_emod (M - y) C
          have q2 := Int.emod_nonneg (M - y) (show C ≠ 0 by omega)
          have : ti * C = -(C * ((M - y) / C)) := by rw [eti]; grind
          omega
        cases hf : (List.range (ps.length - s)).find? (fun j => decide (y - ti * C ≤ ps.getD (s + j) 0)) with
        | none =>
          exfalso
          obtain ⟨i, hi, e⟩ := List.getElem_of_mem hM1
          rw [List.find?_eq_none] at hf
          refine hf i (List.mem_range.mpr (by omega)) ?_
          rw [decide_eq_true_eq, List.getD_eq_getElem?_getD, ← List.getElem?_drop, List.getElem?_eq_getElem hi, Option.getD_some, e]
          exact hMx
        | some a =>
          have hf2 := List.find?_range_eq_some.mp hf
          refine ⟨a, List.mem_range.mp hf2.2.1, of_decide_eq_true hf2.1, fun i hi => ?_, by rw [List.head?_filter]; exact hf⟩
          have := hf2.2.2 i hi
          simpa using this
      obtain ⟨rest, hrest⟩ : ∃ rest, ((List.range (ps.length - s)).filter fun j => decide (y - ti * C ≤ ps.getD (s + j) 0)) = a :: rest := by
        cases hl : ((List.range (ps.length - s)).filter fun j => decide (y - ti * C ≤ ps.getD (s + j) 0)) with
        | nil => rw [hl] at hfirst; cases hfirst
        | cons b r => rw [hl] at hfirst; exact ⟨r, by rw [Option.some.inj hfirst]⟩
      rw [hrest, List.map_cons] at gD
      obtain ⟨ti0, hR⟩ := reach_pos hsd hL W E0' hb eC hC hMget hMy eti (by omega : s + a < ps.length) ha1 ha2
      have S34 := S3.trans S4
      have WA4 : WalkAt Z K H4 w pl tb ps tl (some s) := ⟨dx, tvs, S34 _ _ h1, S34 _ _ h2, S34 _ _ h3, dpAll_mono S34 _ _ h4⟩
      have hno2 := wf_no pl tb (stV (some s)) (m := "period") (by decide +kernel) (by decide +kernel) (by decide +kernel)
      refine ⟨_, rfl, w, Z.C_Walk, dx, _, _, rfl, S34 _ _ h1, T.cl_Walk, T.nWalk_start, wf_start _ _ _, _, rfl, _, rfl, w, dx, _, rfl, S34 _ _ h1, hno2, w, pl, tb, ps, tl, s, rfl, WA4, _, _, rfl, rfl, wide_mul (a := 403) (b := 13) htb (Nat.lt_of_lt_of_le (by omega : ((tl.length : Int) - s).natAbs < 4000) (by decide)) (by decide) (by decide) (by decide), _, _, rfl, rfl, _, rfl, D, _, _, _, rfl, rfl, SqL.of gD, at_of (j := 0) rfl rfl, _, _, rfl, rfl, ?_⟩
      have kk := k H4 _ S34 hR
      have e : (s : Int) + ti * ((tl.length : Int) - s) + (a : Int) = ((s + ti.toNat * (tl.length - s) + a : Nat) : Int) := by
        obtain ⟨T0, rfl⟩ := Int.eq_ofNat_of_zero_le ti0
        obtain ⟨pn, hpn⟩ : ∃ pn : Nat, tl.length = s + pn := ⟨tl.length - s, by omega⟩
        rw [hpn, Int.toNat_natCast, show s + pn - s = pn by omega]
        push_cast
        grind
      rw [eti] at e
      have e2 : uV (some (s + ti.toNat * (tl.length - s) + a)) = V.int ((s + ti.toNat * (tl.length - s) + a : Nat) : Int) := rfl
      rw [e2, eti] at kk
      rw [← e] at kk
      exact kk
theorem ok_most_uses (T : Tx K w mg Z) : FnOk P w K mg base CX0 6 Z.a_most_uses Z.d_most_uses P_most_uses (fun vs H Q _ => ∃ (hp : Addr) (ds : List Addr) (L x y : Int) (hs : List (List Lk)), vs = [.ref hp, .int x, .int y] ∧ SqL K H hp (refs ds) ∧ Darks Z K H ds L hs ∧ 0 < ds.length ∧ ds.length ≤ 60 ∧ x.natAbs < 2 ^ 390 ∧ y.natAbs < 2 ^ 400 ∧ ∀ H' r, Same H H' → IsReach (it "slow" L (hs.map (sideOf "slow")) x) y r → Q (uV r) H') := by
  refine T.F_most_uses.ok scmost_uses (fun vs H Q E h => ?_) (fun cdv A outer s H vs Q E hr h => ?_)
  · obtain ⟨hp, ds, L, x, y, hs, rfl, _⟩ := h
    rfl
  · obtain ⟨hp, ds, L, x, y, hs, rfl, hh, hD, hd0, hd1, hx, hyb, k⟩ := h
    refine ⟨_, (pss_cons (ps_expr (pe_call (ok_check_round T) (hr.mono (by decide)) (by rfl) T.g_check_round T.F_check_round.kp T.bb_check_round .nil pass0 (pa_cons (pv 0) pa_nil)))
      (pss_one (ps_ret (pe_meth (pe_make T.mk_Walk (ok_Walk_init T) (hr.mono (by decide)) (by rfl) T.g_Walk T.bb_Walk_init .nil pass0 (pa_cons (pv 0) (pa_cons (pe_glob rfl T.g_SLOW T.r_SLOW) (pa_cons (pv 1) pa_nil)))) T.cl_Walk T.m_Walk_reach (ok_Walk_reach T) (hr.mono (by decide)) T.bb_Walk_reach .nil pass0 (pa_cons (pv 2) pa_nil))))), ?_⟩
    refine ⟨_, rfl, hp, ds, L, hs, rfl, hh, hD, hd0, fun H1 S1 => ?_⟩
    refine ⟨_, rfl, _, rfl, fun w dx hwn hdx hne => ?_⟩
    have S2 := S1.trans (same_made (o := HO.ins Z.C_Walk dx []) hwn hdx)
    have hD2 := hD.same S2
    have hdw : ∀ d ∈ ds, d ≠ w := fun d hd e => by
      obtain ⟨i, hi, e1⟩ := List.getElem_of_mem hd
      have hi' : ds[i]? = some d := by rw [List.getElem?_eq_getElem hi, e1]
      obtain ⟨ls, _, DD⟩ := (hD.same S1).get hi'
      obtain ⟨dx', la, vs, q1, _⟩ := DD.ex
      rw [e, hwn] at q1; cases q1
    refine ⟨w, hp, dx, ds, "slow", L, x, hs, rfl, upd_same, Same.sqL S2 hh, hD2, hd0, hd1, .inl rfl, hx, hdw, fun H3 pl tb ps tl st W E hm WA k3 => ⟨rfl, ?_⟩⟩
    have S3 : Same H H3 := fun b o e => k3 b o (S2 b o e) (fun e' => by
      subst e'
      rw [S1 _ _ e] at hwn; cases hwn)
    obtain ⟨dxw, tvs, q1, q2, q3, q4⟩ := id WA.ex
    have hl := hD.1
    have hkn := knOk hD "slow"
    have hN : tl.length < 4000 := by
      have h1 := marks_le (by rw [List.length_map]; omega) W (n := tl.length) (by have := W.len; omega) hm
      have h2 := cand_len hkn (L := L) x
      have h3 : (hs.map (sideOf "slow")).length * 60 ≤ 60 * 60 := Nat.mul_le_mul_right 60 (by rw [List.length_map]; omega)
      omega
    obtain ⟨d0, hd00⟩ : ∃ d0, ds[0]? = some d0 := ⟨ds[0], List.getElem?_eq_getElem hd0⟩
    obtain ⟨ls0, hls0, D0⟩ := hD.get hd00
    refine ⟨w, dxw, _, rfl, q1, wf_no _ _ _ (by decide +kernel) (by decide +kernel) (by decide +kernel), _, rfl, w, pl, tb, "slow", L, x, y, hs.map (sideOf "slow"), ps, tl, st, rfl, WA, W, E, .inl rfl, D0.pos, D0.big, hkn, hx, hN, hyb, fun H4 r S4 hr4 => ?_⟩
    exact k H4 r (S3.trans S4) hr4
end
end KA
namespace KA
open PySem PySem.Spec PyProof.Rows L2 DP
theorem lowT_size {a b : Int} {n : Nat} (ha : a.natAbs < 2 ^ n) (hb : b.natAbs < 2 ^ n) : SzP n (lowT a b) := ⟨Nat.lt_of_le_of_lt (Int.natAbs_ediv_le_natAbs _ _) ha, Nat.lt_of_le_of_lt (Int.natAbs_ediv_le_natAbs _ _) hb⟩
/-- where a walk came round: its pace -/
theorem pace_walk {L : Int} (hL : 0 < L) {ss : List Pr} (h0 : 0 < ss.length) {x : Int} {ps : List Int} {tl : List Lk} {s : Nat} {kn : List (List Lk)} (hm : kn.length = 1) (hk : ∀ y, stp "slow" L (kn.getD 0 []) y = some (ld L ss y)) (W : WalkOk "slow" L kn x ps tl) (hs : s < tl.length) (he : ps.getD s 0 % L = ps.getD tl.length 0 % L) :
    PaceOf L (ld L ss) (lowT ((ps.getD tl.length 0 - ps.getD s 0) / L) ((tl.length : Int) - s)) := by
  have hwl := W.len
  have hp : (0 : Int) < (tl.length : Int) - s := by omega
  obtain ⟨c1, c2, c3, c4⟩ := low_terms (a := (ps.getD tl.length 0 - ps.getD s 0) / L) hp
  have e1 := it_gone hm hk x s
  have e2 := it_gone hm hk x tl.length
  rw [behind_in W (by omega)] at e1 e2
  have e1 := Option.some.inj e1
  have e2 := Option.some.inj e2
  refine ⟨c2, c1, ps.getD s 0, (ps.getD tl.length 0 - ps.getD s 0) / L, tl.length - s, by omega, ?_, ?_⟩
  · have e3 : itf (ld L ss) (ps.getD s 0) (tl.length - s) = ps.getD tl.length 0 := by
      rw [e1, e2, gone_itf, gone_itf, ← itf_add, show s + (tl.length - s) = tl.length by omega]
    rw [e3]
    have q1 := Int.mul_ediv_add_emod (ps.getD tl.length 0 - ps.getD s 0) L
    have q2 : (ps.getD tl.length 0 - ps.getD s 0) % L = 0 := Int.emod_eq_zero_of_dvd (Int.dvd_of_emod_eq_zero (by rw [Int.sub_emod, he, Int.sub_self, Int.zero_emod]))
    rw [Int.mul_comm] at q1
    omega
  · have e4 : ((tl.length - s : Nat) : Int) = (tl.length : Int) - s := by omega
    rw [e4]
    exact c3
def spPaceL (K : PySem.W.Frag) : Sp := fun vs H Q _ => ∃ (v : V) (L : Int) (ss : List Pr), vs = [.int L, v] ∧ Dp K H v (.list (ss.map encP)) ∧ 0 < L ∧ L.natAbs < 2 ^ 200 ∧ 0 < ss.length ∧ ss.length ≤ 28 ∧ (∀ s ∈ ss, SzP 300 s) ∧
  ∀ H' r pr, Same H H' → Dp K H' r (encP pr) → PaceOf L (ld L ss) pr → SzP 393 pr → Q r H'
def spDueL (K : PySem.W.Frag) : Sp := fun vs H Q _ => ∃ (v : V) (L x y : Int) (ss : List Pr), vs = [.int L, v, .int x, .int y] ∧ Dp K H v (.list (ss.map encP)) ∧ 0 < L ∧ L.natAbs < 2 ^ 200 ∧ x.natAbs < 2 ^ 390 ∧ 0 < ss.length ∧ ss.length ≤ 28 ∧ (∀ s ∈ ss, SzP 300 s) ∧
  ∀ H' r, Same H H' → (∀ n, r = some n → n ≤ 30 ∧ y ≤ gone L ss x n ∧ ∀ k, k < n → gone L ss x k < y) → (r = none → ∀ k, k ≤ 30 → gone L ss x k < y) → Q (uV r) H'
def spHUses (Z : Ad) (K : PySem.W.Frag) : Sp := fun vs H Q _ => ∃ (h d b : Addr) (L x y : Int) (ss : List Pr), vs = [.ref h, .int x, .int y] ∧ HandAt Z K H h d b L ss ∧ 0 < ss.length ∧ x.natAbs < 2 ^ 390 ∧ y.natAbs < 2 ^ 400 ∧
  ∀ H' r, Same H H' → IsReach (fun n => some (gone L ss x n)) y r → Q (uV r) H'
/-- Euclid's way, other above 0 -/
theorem euclid_step {a b x y : Int} (hy : 0 < y) (h : Int.gcd x y = Int.gcd a b) : Int.gcd y (x % y) = Int.gcd a b := by rw [← h, Int.emod_def, Int.gcd_sub_mul_left_right, Int.gcd_comm]
section
variable {P : Program} {w : World} {K : PySem.W.Frag} {mg : Str → Option Value} {base : Heap} {Z : Ad}
theorem ok_Hand_uses (T : Tx K w mg Z) : FnOk P w K mg base CX0 7 Z.a_Hand_uses Z.d_Hand_uses P_Hand_uses (spHUses Z K) := by
  refine T.F_Hand_uses.ok scHand_uses (fun vs H Q E h => ?_) (fun cdv A outer s H vs Q E hr h => ?_)
  · obtain ⟨h, d, b, L, x, y, ss, rfl, _⟩ := h
    rfl
  · obtain ⟨h, d, b, L, x, y, ss, rfl, A, h0, hx, hy, k⟩ := h
    obtain ⟨dx, e⟩ := A.ex
    refine ⟨_, (pss_one (ps_ret (pe_call (ok_most_uses T) (hr.mono (by decide)) (by rfl) T.g_most_uses T.F_most_uses.kp T.bb_most_uses .nil pass0 (pa_cons (pe_lst (pa_cons (fldK (K := K) (pv 0) rfl) pa_nil)) (pa_cons (pv 1) (pa_cons (pv 2) pa_nil)))))), ?_⟩
    refine ⟨_, rfl, h, Z.C_Hand, dx, _, _, rfl, e, T.cl_Hand, T.nHand__dark, hf_dark _ _, (by show 1 ≤ sizeLine; decide), fun q hq => ?_⟩
    have S := same_upd (o := HO.lst [V.ref d]) hq
    refine ⟨_, rfl, _, rfl, q, [d], L, x, y, [heardAll L (frs ss)], rfl, SqL.of upd_same, ⟨rfl, fun i d' ls h1 h2 => ?_⟩, by simp, by simp, hx, hy, fun H2 r S2 hr => ?_⟩
    · cases i with
      | zero =>
        have e1 : d = d' := Option.some.inj h1
        have e2 : heardAll L (frs ss) = ls := Option.some.inj h2
        subst e1 e2
        exact A.dark.same S
      | succ i => simp at h1
    · have e3 : it "slow" L ([heardAll L (frs ss)].map (sideOf "slow")) x = fun n => some (gone L ss x n) := funext fun n => it_gone rfl (fun y => stp_heard1 A.dark.pos h0 y) x n
      rw [e3] at hr
      exact k H2 r (S.trans S2) hr
end
end KA
namespace KA
open PySem PySem.Spec PyProof.Rows L2 DP
/-- planted steps: each place led so many places on, and turns -/
def plant (L : Int) (spots : List Int) (on : Nat) (tu : Int) : List Pr := (List.range spots.length).map fun k => (spots.getD k 0, spots.getD ((k + on) % spots.length) 0 + ((((k + on) / spots.length : Nat) : Int) + tu) * L)
theorem plant_len (L : Int) (spots : List Int) (on : Nat) (tu : Int) : (plant L spots on tu).length = spots.length := by unfold plant; simp
theorem plant_at {L : Int} {spots : List Int} {on : Nat} {tu : Int} {k : Nat} (h : k < spots.length) : (plant L spots on tu)[k]? = some (spots.getD k 0, spots.getD ((k + on) % spots.length) 0 + ((((k + on) / spots.length : Nat) : Int) + tu) * L) := by
  unfold plant
  rw [List.getElem?_map, List.getElem?_range h]; rfl
/-- spots within a turn, rising -/
structure Spots (L : Int) (spots : List Int) : Prop where
  ne : 0 < spots.length
  ris : spots.Pairwise (· < ·)
  on : ∀ x ∈ spots, 0 ≤ x ∧ x < L
def spPlanted (K : PySem.W.Frag) : Sp := fun vs H Q _ => ∃ (t g : Addr) (n : Nat) (L m : Int), vs = [.ref t, .int L, .int m] ∧ Tray H t g n ∧ n < 2 ^ 50 ∧ 0 < L ∧ L ≤ 10 ^ 30 ∧ 0 < m ∧ m ≤ 24 ∧
  ∀ (H' : Hp) (q p : Addr) (r : V) (spots : List Int) (on : Nat) (tu : Int), At H H' t g (n + 2000) → SqT K H' q [.ref p, r] → H p = none → LAt K H' p ((plant L spots on tu).map encP) → Dp K H' r (encP (lowT ((on : Int) + tu * spots.length) (spots.length : Int))) → Spots L spots → (spots.length : Int) ≤ m → on < spots.length → tu.natAbs ≤ 4 → (∀ s ∈ plant L spots on tu, SzP 110 s) → Q (.ref q) H'
theorem plant_size {L : Int} (hL : 0 < L) (hLb : L.natAbs < 2 ^ 100) {spots : List Int} (S : Spots L spots) (h24 : spots.length ≤ 24) {on : Nat} (hon : on < spots.length) {tu : Int} (htu : tu.natAbs ≤ 4) : ∀ s ∈ plant L spots on tu, SzP 110 s := fun s hs => by
  obtain ⟨k, hk, rfl⟩ := List.mem_map.mp hs
  have hk := List.mem_range.mp hk
  have h1 := S.on _ (getD_mem hk)
  have h2 := S.on _ (getD_mem (Nat.mod_lt (k + on) (by omega : 0 < spots.length)))
  have h3 : (k + on) / spots.length ≤ 2 := by
    have : (k + on) / spots.length < 2 := by rw [Nat.div_lt_iff_lt_mul (by omega)]; omega
    omega
  have h4 : (((((k + on) / spots.length : Nat) : Int) + tu) * L).natAbs ≤ 6 * L.natAbs := by
    rw [Int.natAbs_mul]
    generalize (k + on) / spots.length = d at h3 ⊢
    exact Nat.mul_le_mul_right _ (by omega)
  have e : (2 : Nat) ^ 110 = 1024 * 2 ^ 100 := by decide
  refine ⟨?_, ?_⟩
  · show (spots.getD k 0).natAbs < 2 ^ 110
    rw [e]
    generalize (2 : Nat) ^ 100 = B at hLb ⊢
    omega
  · show (spots.getD ((k + on) % spots.length) 0 + ((((k + on) / spots.length : Nat) : Int) + tu) * L).natAbs < 2 ^ 110
    rw [e]
    generalize (2 : Nat) ^ 100 = B at hLb ⊢
    generalize ((((k + on) / spots.length : Nat) : Int) + tu) * L = z at h4 ⊢
    omega
section
variable {P : Program} {w : World} {K : PySem.W.Frag} {mg : Str → Option Value} {base : Heap} {Z : Ad}
theorem ok_law_planted (T : Tx K w mg Z) : FnOk P w K mg base CX0 3 Z.a_law_planted Z.d_law_planted P_law_planted (spPlanted K) := by
  refine T.F_law_planted.ok sclaw_planted (fun vs H Q E h => ?_) (fun cdv A outer s H vs Q E hr h => ?_)
  · obtain ⟨t, g, n, L, m, rfl, _⟩ := h
    rfl
  · obtain ⟨t, g, n, L, m, rfl, hT, hn, hL, hL30, hm0, hm24, k⟩ := h
    have hLb := bigL hL hL30
    have hb : ∀ m, m ≤ n + 2000 → m < 2 ^ 59 := fun m hm => Nat.lt_of_le_of_lt hm (Nat.lt_of_lt_of_le (Nat.add_lt_add_right hn 2000) (by decide))
    have hb6 : ∀ m, m ≤ n + 2000 → m < 2 ^ 60 := fun m hm => Nat.lt_trans (hb m hm) (by decide)
    have A0 : At H H t g n := ⟨hT, Keep.refl _ _ _⟩
    refine ⟨_, (pss_cons (ps_set (i := 3) sclaw_planted.nd rfl (Or.inl rfl) (pe_callB (sortedSetK (w := w) rfl) (by rfl) T.b_sorted (by decide +kernel) (pa_cons (pe_callTy (setIK (K := K) (w := w) rfl) (by rfl) T.b_set (by decide +kernel) (pa_cons (pe_lc (own := [("k", 4)]) (g := gName 4) (tt := tYes) rfl sclaw_planted.nd (pi_range1 (by rfl) T.b_range (pa_cons (pe_op op_add pe_int (pe_call (ok_law_take T) (hr.mono (by decide)) (by rfl) T.g_law_take T.F_law_take.kp T.bb_law_take .nil pass0 (pa_cons (pv 0) (pa_cons (pv 2) pa_nil)))) pa_nil)) (blkOk_by (own := [("k", 4)]) (N := N_law_planted) (sc := defScope slaw_planted) (by decide +kernel)) (fun _ _ _ _ _ => (pg_name (i := 4) sclaw_planted.nd rfl (Or.inl rfl))) (fun _ _ _ _ _ => pts_nil) (fun _ _ _ _ _ => (pe_call (ok_law_below T) (hr.mono (by decide)) (by rfl) T.g_law_below T.F_law_below.kp T.bb_law_below .nil pass0 (pa_cons (pv 0) (pa_cons (pv 1) pa_nil))))) pa_nil)) pa_nil)))
      (pss_cons (ps_set (i := 5) sclaw_planted.nd rfl (Or.inl rfl) (pe_callB (lenK (K := K)) (by rfl) T.b_len (by decide +kernel) (pa_cons (pv 3) pa_nil)))
      (pss_cons (ps_set (i := 6) sclaw_planted.nd rfl (Or.inl rfl) (pe_call (ok_law_take T) (hr.mono (by decide)) (by rfl) T.g_law_take T.F_law_take.kp T.bb_law_take .nil pass0 (pa_cons (pv 0) (pa_cons (pv 5) pa_nil))))
      (pss_cons (ps_set (i := 7) sclaw_planted.nd rfl (Or.inl rfl) (pe_ix (ixL (K := K)) (pe_lst (pa_cons (pe_call (ok_law_take T) (hr.mono (by decide)) (by rfl) T.g_law_take T.F_law_take.kp T.bb_law_take .nil pass0 (pa_cons (pv 0) (pa_cons pe_int pa_nil))) (pa_cons (pe_op op_sub (pe_call (ok_law_take T) (hr.mono (by decide)) (by rfl) T.g_law_take T.F_law_take.kp T.bb_law_take .nil pass0 (pa_cons (pv 0) (pa_cons pe_int pa_nil))) pe_int) (pa_cons pe_int pa_nil)))) (pe_call (ok_law_take T) (hr.mono (by decide)) (by rfl) T.g_law_take T.F_law_take.kp T.bb_law_take .nil pass0 (pa_cons (pv 0) (pa_cons pe_int pa_nil))) (fun _ _ => rfl)))
      (pss_cons (ps_set (i := 8) sclaw_planted.nd rfl (Or.inl rfl) (pe_lst pa_nil))
      (pss_cons (ps_for PassesOwn.never rfl (pi_range1 (by rfl) T.b_range (pa_cons (pv 5) pa_nil)) (pg_name (i := 4) sclaw_planted.nd rfl (Or.inl rfl)) (pss_one (ps_expr (pe_bm PySem.F.plainAttrs_list PySem.F.slot_list_append PySem.F.type_list_append mt_append (pv 8) (pa_cons (pe_tup (pa_cons (pe_ix (ixL (K := K)) (pv 3) (pv 4) (fun _ _ => rfl)) (pa_cons (pe_op op_add (pe_ix (ixL (K := K)) (pv 3) (pe_op op_mod (pe_op op_add (pv 4) (pv 6)) (pv 5)) (fun _ _ => rfl)) (pe_op op_mulW (pe_op op_add (pe_op op_fdivW (pe_op op_add (pv 4) (pv 6)) (pv 5)) (pv 7)) (pv 1))) pa_nil))) pa_nil)))))
      (pss_cons (ps_par (i := 9) (j := 10) (by rfl) sclaw_planted.nd rfl rfl (by decide) rfl rfl (pa_cons (pv 6) (pa_cons (pv 5) pa_nil)) (by rfl))
      (C8.pss_cut (ps_while PassesOwn.never (pt_cmpR op_gt (pv 10) pe_int (nomark _)) (pss_one (ps_par (i := 9) (j := 10) (by rfl) sclaw_planted.nd rfl rfl (by decide) rfl rfl (pa_cons (pv 10) (pa_cons (pe_op op_mod (pv 9) (pv 10)) pa_nil)) (by rfl))))
      (pss_one (ps_ret (pe_tup (pa_cons (pv 8) (pa_cons (pe_tup (pa_cons (pe_op op_fdivW (pe_op op_add (pv 6) (pe_op op_mulW (pv 7) (pv 5))) (pv 9)) (pa_cons (pe_op op_fdivW (pv 5) (pv 9)) pa_nil))) pa_nil))))))))))))), ?_⟩
    refine ⟨_, rfl, _, rfl, t, g, n, m, rfl, hT, hm0, Nat.lt_of_le_of_lt (by omega : m.natAbs ≤ 24) (by decide), hb6 _ (by omega), fun H1 c c0 c1 T1 k1 => ?_⟩
    have A1 := A0.step T1 k1
    refine ⟨_, _, rfl, rfl, 1 + c, rfl, by omega, by omega, fun D hD => ?_⟩
    obtain ⟨Dt, Dg⟩ := A1.T.at_ne hD
    have hDH := A1.free hD
    refine lc_range (lo := 0) (n := (1 + c).toNat) (fun i H' => At H H' t g (n + 1 + 60 * i) ∧ ∃ ns : List Int, H' D = some (.lst (ns.map V.int)) ∧ ns.length = i ∧ ∀ x ∈ ns, 0 ≤ x ∧ x < L) ⟨A1.new hD, [], upd_same, rfl, fun _ z => absurd z (by simp)⟩ ?_ ?_
    · rintro i H' hi ⟨A, ns, hd, hl, hx⟩
      have hi6 : i < 24 := by omega
      refine ⟨rfl, yes_ite ?_⟩
      refine ⟨_, rfl, _, rfl, t, g, n + 1 + 60 * i, L, rfl, A.T, hL, lt_up hLb (by decide), hb _ (by omega), fun H2 r r0 r1 T2 k2 => ?_⟩
      have hd2 := k2 _ _ hd Dt Dg
      refine ⟨_, hd2, small1000 (by simp; omega), ((A.step T2 k2).acc hDH Dt Dg).up (by omega), ns ++ [r], ?_, by simp [hl], fun x hx' => ?_⟩
      · rw [List.map_append]; exact upd_same
      · rcases List.mem_append.mp hx' with h | h
        · exact hx x h
        · rw [List.mem_singleton] at h; subst h; exact ⟨r0, r1⟩
    rintro H2 ⟨A2, ns, hd, hnl, hx⟩
    refine ⟨D, ns, rfl, SqL.of hd, by omega, fun q c2 hc hq => ?_⟩
    refine ⟨q, _, c2, rfl, upd_same, by omega, fun ss p hpw hmem hsl hp => ?_⟩
    have A3 := (A2.new (o := SetO w q (fun j => decide (j ∈ ns)) c2) hq).new (o := HO.lst (ss.map V.int)) hp
    have hpH : H p = none := (A2.new (o := SetO w q (fun j => decide (j ∈ ns)) c2) hq).free hp
    obtain ⟨pt, pg⟩ := (A2.new (o := SetO w q (fun j => decide (j ∈ ns)) c2) hq).T.at_ne hp
    generalize eH3 : upd (upd H2 q (SetO w q (fun j => decide (j ∈ ns)) c2)) p (.lst (ss.map V.int)) = H3 at A3 ⊢
    have hp3 : H3 p = some (.lst (ss.map V.int)) := by rw [← eH3]; exact upd_same
    have hss : ∀ x ∈ ss, 0 ≤ x ∧ x < L := fun x hx' => hx x (of_decide_eq_true ((hmem x).mp hx'))
    have hss6 : ss.length ≤ (1 + c).toNat := by rw [hsl]; omega
    have hssne : ss ≠ [] := by
      cases ns with
      | nil => simp at hnl; omega
      | cons y r =>
        intro e
        have : y ∈ ss := (hmem y).mpr (by simp)
        rw [e] at this; cases this
    have hs0 : 0 < ss.length := List.length_pos_iff.mpr hssne
    have SP : Spots L ss := ⟨hs0, hpw, hss⟩
    have hlen : ((ss.map V.int).length : Int) = (ss.length : Int) := by rw [List.length_map]
    have hl24 : ss.length ≤ 24 := by omega
    have A3' : At H H3 t g (n + 1501) := A3.up (by omega)
    -- many, on
    refine ⟨_, rfl, p, _, rfl, .inl (SqL.of hp3), ?_⟩
    rw [hlen]
    refine ⟨_, rfl, _, rfl, t, g, n + 1501, (ss.length : Int), rfl, A3'.T, by omega, Nat.lt_of_le_of_lt (by omega : (ss.length : Int).natAbs ≤ 24) (by decide), hb6 _ (by omega), fun H4 r r0 r1 T4 k4 => ?_⟩
    have A4 := A3'.step T4 k4
    have hp4 := k4 _ _ hp3 pt pg
    obtain ⟨on, rfl⟩ := Int.eq_ofNat_of_zero_le r0
    have hon : on < ss.length := by omega
    -- turns
    refine ⟨_, rfl, t, g, n + 1502, 3, rfl, A4.T, by decide, by decide, hb6 _ (by omega), fun H5 a a0 a1 T5 k5 => ?_⟩
    have A5 := A4.step T5 k5
    refine ⟨_, rfl, t, g, n + 1503, 5, rfl, A5.T, by decide, by decide, hb6 _ (by omega), fun H6 b b0 b1 T6 k6 => ?_⟩
    have A6 := A5.step T6 k6
    refine ⟨_, _, rfl, rfl, (by show 3 ≤ sizeLine; decide), fun p4 hp4' => ?_⟩
    obtain ⟨p4t, p4g⟩ := A6.T.at_ne hp4'
    have A7 := A6.new (o := HO.lst [V.int a, .int (b - 4), .int 0]) hp4'
    have hp6 := k6 _ _ (k5 _ _ hp4 pt pg) pt pg
    have hp7 := (same_upd (o := HO.lst [V.int a, .int (b - 4), .int 0]) hp4') _ _ hp6
    refine ⟨_, rfl, t, g, n + 1504, 3, rfl, A7.T, by decide, by decide, hb6 _ (by omega), fun H8 j j0 j1 T8 k8 => ?_⟩
    have A8 := A7.step T8 k8
    have hp8 := k8 _ _ hp7 pt pg
    obtain ⟨tu, htu, htub⟩ : ∃ z : Int, atI [V.int a, .int (b - 4), .int 0] j = some (.int z) ∧ z.natAbs ≤ 4 := by
      have : j = 0 ∨ j = 1 ∨ j = 2 := by omega
      rcases this with e | e | e <;> subst e
      · exact ⟨a, rfl, by omega⟩
      · exact ⟨b - 4, rfl, by omega⟩
      · exact ⟨0, rfl, by decide⟩
    refine ⟨p4, _, _, _, rfl, rfl, SqL.of (k8 _ _ upd_same p4t p4g), htu, ?_⟩
    -- found
    refine ⟨(by show 0 ≤ sizeLine; decide), fun F hF => ?_⟩
    obtain ⟨Ft, Fg⟩ := A8.T.at_ne hF
    have hFH := A8.free hF
    have hpF : p ≠ F := ne_of_none hp8 hF
    refine ⟨_, rfl, (ss.length : Int), rfl, by omega, by omega, ?_⟩
    refine for_range (lo := 0) (n := (ss.length : Int).toNat) (fun i σ' H' => ∃ u4, σ' = [some (.ref t), some (.int L), some (.int m), some (.ref p), u4, some (.int ss.length), some (.int on), some (.int tu), some (.ref F), none, none] ∧ At H H' t g (n + 1505) ∧ H' p = some (.lst (ss.map V.int)) ∧ LAt K H' F (((plant L ss on tu).take i).map encP))
      ⟨_, rfl, A8.new hF, (upd_ne hpF).trans hp8, [], upd_same, .nil⟩ ?_ ?_
    · rintro i σ' H9 hi ⟨u4, rfl, A9, hp9, ⟨fv, f1, f2⟩⟩
      have hi' : i < ss.length := by omega
      have hfl : fv.length ≤ 24 := by
        rw [dpAll_len f2, List.length_map, List.length_take, plant_len]; omega
      have hmod : (i + on) % ss.length < ss.length := Nat.mod_lt _ hs0
      have e0 : (0 : Int) + (i : Nat) = (i : Int) := by omega
      have e1 : ((0 : Int) + (i : Nat) + (on : Int)) % (ss.length : Int) = (((i + on) % ss.length : Nat) : Int) := by rw [e0]; push_cast; rfl
      have e2 : ((0 : Int) + (i : Nat) + (on : Int)) / (ss.length : Int) = (((i + on) / ss.length : Nat) : Int) := by rw [e0]; push_cast; rfl
      have hq2 : (i + on) / ss.length ≤ 1 := by
        have : (i + on) / ss.length < 2 := by rw [Nat.div_lt_iff_lt_mul (by omega)]; omega
        omega
      have hfb : (((0 : Int) + (i : Nat) + (on : Int)) / (ss.length : Int) + tu).natAbs < 2 ^ 4 := by
        rw [e2]
        generalize (i + on) / ss.length = d at hq2 ⊢
        exact Nat.lt_of_le_of_lt (by omega : _ ≤ 6) (by decide)
      refine ⟨_, rfl, .inl ⟨rfl, _, SqL.of f1⟩, _, rfl, _, rfl, p, _, _, _, rfl, rfl, SqL.of hp9, getI ss hi' e0, ?_⟩
      refine ⟨_, rfl, _, rfl, _, rfl, _, _, rfl, rfl, _, rfl, _, _, rfl, rfl, (by omega), p, _, _, _, rfl, rfl, SqL.of hp9, getI ss hmod e1, ?_⟩
      refine ⟨_, rfl, _, rfl, _, _, rfl, rfl, _, rfl, _, _, rfl, rfl, wide_div (b := 10) (by omega) (Nat.lt_of_le_of_lt (by omega : (ss.length : Int).natAbs ≤ 24) (by decide)) (by decide) (by decide), _, rfl, _, _, rfl, rfl, _, rfl, _, _, rfl, rfl, wide_mul hfb hLb (by decide) (by decide) (by decide), _, _, rfl, rfl, (by show 2 ≤ sizeLine; decide), fun q9 hq9 => ?_⟩
      have epl : ((ss.getD i 0, ss.getD ((i + on) % ss.length) 0 + (((0 : Int) + (i : Nat) + (on : Int)) / (ss.length : Int) + tu) * L) : Pr) = (ss.getD i 0, ss.getD ((i + on) % ss.length) 0 + ((((i + on) / ss.length : Nat) : Int) + tu) * L) := by rw [e2]
      have Sq := same_upd (o := HO.tup [V.int (ss.getD i 0), .int (ss.getD ((i + on) % ss.length) 0 + (((0 : Int) + (i : Nat) + (on : Int)) / (ss.length : Int) + tu) * L)]) hq9
      refine ⟨F, fv, _, rfl, rfl, Sq _ _ f1, small1000 (by omega), _, rfl, (A9.new hq9).acc hFH Ft Fg, (upd_ne hpF).trans (Sq _ _ hp9), _, upd_same, ?_⟩
      rw [take_snoc (plant_at hi'), List.map_append]
      exact acc_step (Sq _ _ f1) (noLs_map noL_encP _) rfl (dpAll_mono Sq _ _ f2) (by
        rw [← epl]
        exact .tup (SqT.of upd_same) (.cons (.int _) (.cons (.int _) .nil)))
    rintro σ' H9 ⟨u4, rfl, A9, hp9, LF⟩
    rw [List.take_of_length_le (by rw [plant_len]; omega)] at LF
    -- one, other
    refine ⟨_, rfl, _, rfl, _, _, rfl, ?_⟩
    refine ⟨fun σ' H' => σ' = [some (.ref t), some (.int L), some (.int m), some (.ref p), u4, some (.int ss.length), some (.int on), some (.int tu), some (.ref F), some (.int (Int.gcd on ss.length : Int)), some (.int 0)] ∧ H' = H9, ?_, ?_⟩
    · refine ⟨fun m' σ' H' => ∃ x z : Int, σ' = [some (.ref t), some (.int L), some (.int m), some (.ref p), u4, some (.int ss.length), some (.int on), some (.int tu), some (.ref F), some (.int x), some (.int z)] ∧ H' = H9 ∧ 0 ≤ x ∧ 0 ≤ z ∧ Int.gcd x z = Int.gcd on ss.length ∧ m' = z.toNat, ⟨_, (on : Int), (ss.length : Int), rfl, rfl, by omega, by omega, rfl, rfl⟩, ?_⟩
      rintro m' σ' H3 ⟨x, z, rfl, rfl, hx0, hz, hg, rfl⟩
      refine ⟨_, rfl, _, _, rfl, rfl, _, rfl, ?_⟩
      refine ite2 (fun c => ⟨fun σ' H' => ∃ m', m' < z.toNat ∧ ∃ x z : Int, σ' = [some (.ref t), some (.int L), some (.int m), some (.ref p), u4, some (.int ss.length), some (.int on), some (.int tu), some (.ref F), some (.int x), some (.int z)] ∧ H' = H3 ∧ 0 ≤ x ∧ 0 ≤ z ∧ Int.gcd x z = Int.gcd on ss.length ∧ m' = z.toNat, fun _ _ h => h, ?_⟩) (fun c => ?_)
      · have z0 : 0 < z := of_decide_eq_true c
        have m0 := Int.emod_nonneg x (show z ≠ 0 by omega)
        have m1 := Int.emod_lt_of_pos x z0
        exact ⟨_, rfl, _, rfl, _, rfl, _, _, rfl, rfl, z0, _, _, rfl, _, by omega, z, x % z, rfl, rfl, by omega, m0, euclid_step z0 hg, rfl⟩
      · have c' : ¬ z > 0 := fun h => c (decide_eq_true h)
        have z0 : z = 0 := by omega
        subst z0
        rw [Int.gcd_zero_right] at hg
        rw [show (Int.gcd (on : Int) (ss.length : Int) : Int) = x by omega]
        exact ⟨rfl, rfl⟩
    rintro σ2 H3 ⟨rfl, rfl⟩
    have eg : Int.gcd (on : Int) (ss.length : Int) = Int.gcd ((on : Int) + tu * ss.length) ss.length := by rw [Int.gcd_add_mul_right_left]
    have g0 : 0 < Int.gcd (on : Int) (ss.length : Int) := Int.gcd_pos_of_ne_zero_right _ (by omega)
    have g1' : (Int.gcd (on : Int) (ss.length : Int) : Int) ≤ ss.length := Int.gcd_le_right _ (by omega)
    have g2' : ((Int.gcd (on : Int) (ss.length : Int) : Int)).natAbs < 2 ^ 10 := Nat.lt_of_le_of_lt (by omega : _ ≤ 24) (by decide)
    refine ⟨_, rfl, _, rfl, _, rfl, _, rfl, _, _, rfl, rfl, wide_mul (a := 10) (b := 10) (Nat.lt_of_le_of_lt htub (by decide)) (Nat.lt_of_le_of_lt (by omega : (ss.length : Int).natAbs ≤ 24) (by decide)) (by decide) (by decide) (by decide), _, _, rfl, rfl, _, rfl, _, _, rfl, rfl, wide_div (by omega) g2' (by decide) (by decide), _, rfl, _, rfl, _, _, rfl, rfl, wide_div (by omega) g2' (by decide) (by decide), (by show 2 ≤ sizeLine; decide), fun q8 hq8 => ⟨(by show 2 ≤ sizeLine; decide), fun q9 hq9 => ?_⟩⟩
    have Sa := same_upd (o := HO.tup [V.int (((on : Int) + tu * ss.length) / (Int.gcd (on : Int) (ss.length : Int) : Int)), .int ((ss.length : Int) / (Int.gcd (on : Int) (ss.length : Int) : Int))]) hq8
    have Sb := same_upd (o := HO.tup [V.ref F, .ref q8]) hq9
    refine k _ q9 F (.ref q8) ss on tu (((A9.new hq8).new hq9).up (by omega)) (SqT.of upd_same) hFH ((LF.same Sa).same Sb) ?_ SP (by omega) hon htub (plant_size hL hLb SP hl24 hon htub)
    have hd : Dp K (upd H3 q8 (.tup [V.int (((on : Int) + tu * ss.length) / (Int.gcd (on : Int) (ss.length : Int) : Int)), .int ((ss.length : Int) / (Int.gcd (on : Int) (ss.length : Int) : Int))])) (.ref q8) (encP (lowT ((on : Int) + tu * ss.length) (ss.length : Int))) := by
      unfold lowT
      rw [← eg]
      exact dp_two upd_same
    exact dp_mono Sb _ _ hd
end
end KA
namespace KA
open PySem PySem.Spec PyProof.Rows L2 DP
/-- the k-th spot, turns on counted in -/
def spotAt (L : Int) (spots : List Int) (k : Nat) : Int := spots.getD (k % spots.length) 0 + ((k / spots.length : Nat) : Int) * L
section
variable {L : Int} {spots : List Int}
theorem Spots.mono (S : Spots L spots) {i j : Nat} (hij : i ≤ j) (hj : j < spots.length) : spots.getD i 0 ≤ spots.getD j 0 := by
  by_cases e : i = j
  · rw [e]; exact Int.le_refl _
  · have h := (List.pairwise_iff_getElem.mp S.ris) i j (by omega) hj (by omega)
    rw [List.getD_eq_getElem?_getD, List.getD_eq_getElem?_getD, List.getElem?_eq_getElem (by omega), List.getElem?_eq_getElem hj]
    exact Int.le_of_lt h
theorem spotAt_low (S : Spots L spots) {k : Nat} (hk : k < spots.length) : spotAt L spots k = spots.getD k 0 := by
  unfold spotAt
  rw [Nat.mod_eq_of_lt hk, Nat.div_eq_of_lt hk]
  simp
theorem spotAt_turn (S : Spots L spots) (k q : Nat) : spotAt L spots (k + q * spots.length) = spotAt L spots k + q * L := by
  unfold spotAt
  rw [Nat.add_mul_mod_self_right, Nat.add_mul_div_right _ _ S.ne]
  push_cast
  grind
theorem spotAt_parts (S : Spots L spots) (k : Nat) : spotAt L spots k = spotAt L spots (k % spots.length) + ((k / spots.length : Nat) : Int) * L := by
  have h := spotAt_turn S (k % spots.length) (k / spots.length)
  rw [Nat.mod_add_div'] at h
  exact h
theorem spotAt_mono (S : Spots L spots) {j k : Nat} (h : j ≤ k) : spotAt L spots j ≤ spotAt L spots k := by
  have hj := Nat.mod_lt j S.ne
  have hk := Nat.mod_lt k S.ne
  have hd := Nat.div_le_div_right (c := spots.length) h
  have b1 := S.on _ (getD_mem hj)
  have b2 := S.on _ (getD_mem hk)
  unfold spotAt
  by_cases e : j / spots.length = k / spots.length
  · rw [e]
    have m1 := Nat.div_add_mod j spots.length
    have m2 := Nat.div_add_mod k spots.length
    rw [e] at m1
    have := S.mono (i := j % spots.length) (j := k % spots.length) (by omega) hk
    omega
  · have h2 : ((j / spots.length : Nat) : Int) + 1 ≤ ((k / spots.length : Nat) : Int) := by omega
    have h3 : (((j / spots.length : Nat) : Int) + 1) * L ≤ ((k / spots.length : Nat) : Int) * L := Int.mul_le_mul_of_nonneg_right h2 (by omega)
    have h4 : (((j / spots.length : Nat) : Int) + 1) * L = ((j / spots.length : Nat) : Int) * L + L := by grind
    omega
/-- a leading that leads each spot so many on, and turns -/
theorem plant_itf {f : Int → Int} (F : Hand L f) (S : Spots L spots) {on : Nat} {tu : Int} (hf : ∀ k, k < spots.length → f (spots.getD k 0) = spotAt L spots (k + on) + tu * L) : ∀ n : Nat, itf f (spotAt L spots 0) n = spotAt L spots (n * on) + (n * tu) * L
  | 0 => by simp [itf]
  | n + 1 => by
    show f (itf f (spotAt L spots 0) n) = _
    rw [plant_itf F S hf n, spotAt_parts S (n * on)]
    have hr := Nat.mod_lt (n * on) S.ne
    rw [spotAt_low S hr]
    have e : spots.getD (n * on % spots.length) 0 + ((n * on / spots.length : Nat) : Int) * L + (n : Int) * tu * L = spots.getD (n * on % spots.length) 0 + (((n * on / spots.length : Nat) : Int) + n * tu) * L := by grind
    rw [e, F.turn, hf _ hr]
    have e2 : (n + 1) * on = (n * on % spots.length + on) + (n * on / spots.length) * spots.length := by
      have := Nat.div_add_mod (n * on) spots.length
      rw [Nat.mul_comm] at this
      rw [Nat.add_mul, Nat.one_mul]
      omega
    rw [e2, spotAt_turn S]
    push_cast
    grind
theorem plant_lap {f : Int → Int} (F : Hand L f) (S : Spots L spots) {on : Nat} {tu : Int} (hf : ∀ k, k < spots.length → f (spots.getD k 0) = spotAt L spots (k + on) + tu * L) : itf f (spotAt L spots 0) spots.length = spotAt L spots 0 + ((on : Int) + tu * spots.length) * L := by
  rw [plant_itf F S hf, Nat.mul_comm]
  have h := spotAt_turn S 0 on
  rw [Nat.zero_add] at h
  rw [h]
  grind
end
/-- a spot is led to its own end -/
theorem plant_ld {L : Int} (hL : 0 < L) {spots : List Int} (S : Spots L spots) {on : Nat} {tu : Int} {k : Nat} (hk : k < spots.length) : ld L (plant L spots on tu) (spots.getD k 0) = spotAt L spots (k + on) + tu * L := by
  have et : ∀ j, j < spots.length → (plant L spots on tu)[j]? = some (spots.getD j 0, spotAt L spots (j + on) + tu * L) := fun j hj => by
    rw [plant_at hj]
    unfold spotAt
    congr 2
    grind
  refine bst_of ⟨⟨fr1 (spots.getD k 0, spotAt L spots (k + on) + tu * L), List.mem_map.mpr ⟨_, List.mem_of_getElem? (et k hk), rfl⟩, ?_⟩, fun l hl => ?_⟩
  · rw [plc_slow]
    show spotAt L spots (k + on) + tu * L + (spots.getD k 0 - spots.getD k 0) / L * L = _
    rw [Int.sub_self, Int.zero_ediv]; simp
  · obtain ⟨s, hs, rfl⟩ := List.mem_map.mp hl
    obtain ⟨j, hj, ej⟩ := List.getElem_of_mem hs
    have hj' : j < spots.length := by rw [plant_len] at hj; exact hj
    have e2 := et j hj'
    rw [List.getElem?_eq_getElem hj, ej] at e2
    have e3 := Option.some.inj e2
    subst e3
    rw [if_pos rfl, plc_slow]
    show spotAt L spots (j + on) + tu * L + (spots.getD k 0 - spots.getD j 0) / L * L ≤ _
    have b1 := S.on _ (getD_mem hj')
    have b2 := S.on _ (getD_mem hk)
    by_cases c : j ≤ k
    · have m1 := S.mono c hk
      rw [Int.ediv_eq_zero_of_lt (by omega) (by omega)]
      have := spotAt_mono S (show j + on ≤ k + on by omega)
      omega
    · have m1 := S.mono (i := k) (j := j) (by omega) hj'
      have m2 : spots.getD k 0 ≠ spots.getD j 0 := fun e => by
        have h := (List.pairwise_iff_getElem.mp S.ris) k j hk hj' (by omega)
        rw [List.getD_eq_getElem?_getD, List.getD_eq_getElem?_getD, List.getElem?_eq_getElem hk, List.getElem?_eq_getElem hj'] at e
        simp only [Option.getD_some] at e
        omega
      have e4 : (spots.getD k 0 - spots.getD j 0) / L = -1 := by
        have h1 : (spots.getD k 0 - spots.getD j 0 + 1 * L) / L = (spots.getD k 0 - spots.getD j 0) / L + 1 := Int.add_mul_ediv_right _ _ (by omega)
        rw [Int.ediv_eq_zero_of_lt (by omega) (by omega)] at h1
        omega
      rw [e4]
      have h1 := spotAt_mono S (show j + on ≤ k + on + 1 * spots.length by omega)
      rw [spotAt_turn S] at h1
      omega
theorem plant_pace {L : Int} (hL : 0 < L) {spots : List Int} (S : Spots L spots) {on : Nat} {tu : Int} : PaceOf L (ld L (plant L spots on tu)) (lowT ((on : Int) + tu * spots.length) (spots.length : Int)) := by
  have hm := S.ne
  have F := ld_hand hL (ss := plant L spots on tu) (by rw [plant_len]; exact hm)
  obtain ⟨c1, c2, c3, c4⟩ := low_terms (a := (on : Int) + tu * spots.length) (b := (spots.length : Int)) (by omega)
  exact ⟨c2, c1, _, _, spots.length, hm, plant_lap F S (fun k hk => plant_ld hL S hk), c3⟩
/-- each step's end so many turns farther -/
theorem farther_ld {L : Int} (hL : 0 < L) {ss : List Pr} (h0 : 0 < ss.length) (k : Int) : ld L (ss.map fun s => (s.1, s.2 + k * L)) = fun x => ld L ss x + k * L := funext fun x => by
  obtain ⟨⟨l, hl, e⟩, h2⟩ := bst_is (sd := "slow") (.inl rfl) (frs_ne h0) x L
  have ep : ∀ s : Pr, plc "slow" (fr1 (s.1, s.2 + k * L)) x L = plc "slow" (fr1 s) x L + k * L := fun s => by
    rw [plc_slow, plc_slow]
    show s.2 + k * L + (x - s.1) / L * L = s.2 + (x - s.1) / L * L + k * L
    omega
  refine bst_of ⟨?_, fun l' hl' => ?_⟩
  · obtain ⟨s, hs, rfl⟩ := List.mem_map.mp hl
    exact ⟨_, List.mem_map.mpr ⟨_, List.mem_map.mpr ⟨s, hs, rfl⟩, rfl⟩, by rw [ep]; show _ = bst _ _ _ _ + _; rw [e]⟩
  · obtain ⟨q, hq, rfl⟩ := List.mem_map.mp hl'
    obtain ⟨s, hs, rfl⟩ := List.mem_map.mp hq
    rw [if_pos rfl, ep]
    have := h2 _ (List.mem_map.mpr ⟨s, hs, rfl⟩)
    rw [if_pos rfl] at this
    show _ ≤ bst _ _ _ _ + _
    omega
end KA
namespace KA
open PySem PySem.Spec PyProof.Rows L2 DP
/-! ### the pace that a walk shows -/
def spLowest (K : PySem.W.Frag) : Sp := fun vs H Q _ => ∃ (a b : Int), vs = [.int a, .int b] ∧ 0 < b ∧ b.natAbs < 2 ^ 1000 ∧ ∀ H' r, Same H H' → Dp K H' r (encP (lowT a b)) → Q r H'
/-- a round's pace, from 0 on, in lowest terms -/
structure RPace (sd : Str) (L : Int) (kn : List (List Lk)) (pr : Pr) : Prop where
  pos : 0 < pr.2
  cop : Int.gcd pr.1 pr.2 = 1
  lap : ∃ (n p : Nat) (x c : Int), 0 < p ∧ it sd L kn 0 n = some x ∧ it sd L kn 0 (n + p * kn.length) = some (x + c * L) ∧ pr.1 * p = c * pr.2
def encO : Option Pr → PyData
  | none => .none
  | some l => encP l
/-- what a walk tells: no pace, for it breaks off, or one -/
def PaceOpt (sd : Str) (L : Int) (kn : List (List Lk)) (o : Option Pr) : Prop := (o = none ∧ ∃ n, it sd L kn 0 n = none) ∨ ∃ pr, o = some pr ∧ RPace sd L kn pr ∧ SzQ 393 pr
def spSideP (Z : Ad) (K : PySem.W.Frag) : Sp := fun vs H Q _ => ∃ (hp : Addr) (ds : List Addr) (sd : Str) (L : Int) (hs : List (List Lk)), vs = [.ref hp, .str sd] ∧ SqL K H hp (refs ds) ∧ Darks Z K H ds L hs ∧ 0 < ds.length ∧ ds.length ≤ 60 ∧ SideOk sd ∧
  ∀ H' r o, Same H H' → Dp K H' r (encO o) → PaceOpt sd L (hs.map (sideOf sd)) o → Q r H'
section
variable {P : Program} {w : World} {K : PySem.W.Frag} {mg : Str → Option Value} {base : Heap} {Z : Ad}
theorem ok_lowest (T : Tx K w mg Z) : FnOk P w K mg base CX0 1 Z.a_lowest Z.d_lowest P_lowest (spLowest K) := by
  refine T.F_lowest.ok sclowest (fun vs H Q E h => ?_) (fun cdv A outer s H vs Q E hr h => ?_)
  · obtain ⟨a, b, rfl, _⟩ := h
    rfl
  · obtain ⟨a, b, rfl, hb, hbb, k⟩ := h
    have g0 : 0 < Int.gcd a b := Int.gcd_pos_of_ne_zero_right a (by omega)
    have g1 : (Int.gcd a b : Int) ≤ b := Int.gcd_le_right a hb
    have g2 : ((Int.gcd a b : Int)).natAbs < 2 ^ 1000 := Nat.lt_of_le_of_lt (by omega) hbb
    refine ⟨_, (pss_cons (ps_set (i := 2) sclowest.nd rfl (Or.inl rfl) (pe_callBfun cr_gcd (by rfl) T.g_gcd (pa_cons (pv 0) (pa_cons (pv 1) pa_nil))))
      (pss_one (ps_ret (pe_tup (pa_cons (pe_op op_fdivW (pv 0) (pv 2)) (pa_cons (pe_op op_fdivW (pv 1) (pv 2)) pa_nil)))))), ?_⟩
    refine ⟨_, rfl, _, rfl, a, b, rfl, ?_⟩
    have e : ((Nat.gcd a.natAbs b.natAbs : Nat) : Int) = (Int.gcd a b : Int) := rfl
    rw [e]
    refine ⟨_, rfl, _, rfl, _, _, rfl, rfl, wide_div (by omega) g2 (by decide) (by decide), _, rfl, _, rfl, _, _, rfl, rfl, wide_div (by omega) g2 (by decide) (by decide), (by show 2 ≤ sizeLine; decide), fun q hq => ?_⟩
    exact k _ _ (same_upd hq) (dp_two upd_same)
theorem ok_side_pace (T : Tx K w mg Z) : FnOk P w K mg base CX0 6 Z.a_side_pace Z.d_side_pace P_side_pace (spSideP Z K) := by
  refine T.F_side_pace.ok scside_pace (fun vs H Q E h => ?_) (fun cdv A outer s H vs Q E hr h => ?_)
  · obtain ⟨hp, ds, sd, L, hs, rfl, _⟩ := h
    rfl
  · obtain ⟨hp, ds, sd, L, hs, rfl, hh, hD, hd0, hd1, hsd, k⟩ := h
    refine ⟨_, (pss_cons (ps_set (i := 2) scside_pace.nd rfl (Or.inl rfl) (pe_make T.mk_Walk (ok_Walk_init T) (hr.mono (by decide)) (by rfl) T.g_Walk T.bb_Walk_init .nil pass0 (pa_cons (pv 0) (pa_cons (pv 1) (pa_cons pe_int pa_nil)))))
      (C8.pss_cut (ps_if (pt_cmpR op_isN (fldK (K := K) (pv 2) rfl) pe_non (nomark _)) (pss_one (ps_ret pe_non)) pss_nil)
      (pss_one (ps_ret (pe_call (ok_lowest T) (hr.mono (by decide)) (by rfl) T.g_lowest T.F_lowest.kp T.bb_lowest .nil pass0 (pa_cons (pe_op op_fdivW (pe_meth0 (pv 2) T.cl_Walk T.m_Walk_climb (ok_Walk_climb T) (hr.mono (by decide)) T.bb_Walk_climb .nil pass0) (pe_meth0 (pe_ix (ixL (K := K)) (pv 0) pe_int (fun _ _ => rfl)) T.cl T.m_Dark_length (ok_Dark_length T) (hr.mono (by decide)) T.bb_Dark_length .nil pass0)) (pa_cons (pe_op op_fdivW (pe_meth0 (pv 2) T.cl_Walk T.m_Walk_period (ok_Walk_period T) (hr.mono (by decide)) T.bb_Walk_period .nil pass0) (pe_callB (lenK (K := K)) (by rfl) T.b_len (by decide +kernel) (pa_cons (pv 0) pa_nil))) pa_nil))))))), ?_⟩
    refine ⟨_, rfl, _, rfl, fun w dx hwn hdx hne => ?_⟩
    have S2 := same_made (o := HO.ins Z.C_Walk dx []) hwn hdx
    have hD2 := hD.same S2
    have hdw : ∀ d ∈ ds, d ≠ w := fun d hd e => by
      obtain ⟨i, hi, e1⟩ := List.getElem_of_mem hd
      have hi' : ds[i]? = some d := by rw [List.getElem?_eq_getElem hi, e1]
      obtain ⟨ls, _, DD⟩ := hD.get hi'
      obtain ⟨dx', la, vs, q1, _⟩ := DD.ex
      rw [e, hwn] at q1; cases q1
    refine ⟨w, hp, dx, ds, sd, L, 0, hs, rfl, upd_same, Same.sqL S2 hh, hD2, hd0, hd1, hsd, by decide, hdw, fun H3 pl tb ps tl st W E hm WA k3 => ⟨rfl, ?_⟩⟩
    have S3 : Same H H3 := fun b o e => k3 b o (S2 b o e) (fun e' => by
      subst e'
      rw [e] at hwn; cases hwn)
    obtain ⟨dxw, tvs, q1, q2, q3, q4⟩ := id WA.ex
    have hl := hD.1
    have hwl := W.len
    have hkn := knOk hD sd
    have hN : tl.length < 4000 := by
      have h1 := marks_le (by rw [List.length_map]; omega) W (n := tl.length) (by have := W.len; omega) hm
      have h2 := cand_len hkn (L := L) 0
      have h3 : (hs.map (sideOf sd)).length * 60 ≤ 60 * 60 := Nat.mul_le_mul_right 60 (by rw [List.length_map]; omega)
      omega
    obtain ⟨d0, hd00⟩ : ∃ d0, ds[0]? = some d0 := ⟨ds[0], List.getElem?_eq_getElem hd0⟩
    obtain ⟨ls0, hls0, D0⟩ := (hD.same S3).get hd00
    have hix : atI (refs ds) 0 = some (.ref d0) := by
      refine at_of (j := 0) rfl ?_
      show (ds.map V.ref)[0]? = _
      rw [List.getElem?_map, hd00]; rfl
    obtain ⟨dx0, la0, vs0, e1, e2, e3⟩ := id D0.ex
    cases st with
    | none =>
      refine ⟨fun _ _ => False, ?_, fun _ _ z => z.elim⟩
      exact ⟨_, rfl, w, Z.C_Walk, dxw, _, _, rfl, q1, T.cl_Walk, T.nWalk_start, wf_start _ _ _, rfl, _, rfl, iteT (k H3 .non none S3 .non (.inl ⟨rfl, ps.length, behind_none W E (Nat.le_refl _)⟩))⟩
    | some s =>
      refine ⟨fun σ' H' => σ' = [some (.ref hp), some (.str sd), some (.ref w)] ∧ H' = H3, ?_, ?_⟩
      · exact ⟨_, rfl, w, Z.C_Walk, dxw, _, _, rfl, q1, T.cl_Walk, T.nWalk_start, wf_start _ _ _, rfl, _, rfl, iteF ⟨rfl, rfl⟩⟩
      rintro σ4 H4 ⟨rfl, rfl⟩
      obtain ⟨hs1, hs2, a, b, ha, hb, hab⟩ := id E
      have hmL : (hs.map (sideOf sd)).length = ds.length := by rw [List.length_map]; omega
      have hm0 : 0 < ds.length := hd0
      obtain ⟨p, hp0⟩ : ∃ p, tl.length - s = p * ds.length := by
        rw [hmL] at hs2
        have h1 := Nat.div_add_mod tl.length ds.length
        have h2 := Nat.div_add_mod s ds.length
        refine ⟨tl.length / ds.length - s / ds.length, ?_⟩
        rw [Nat.sub_mul, Nat.mul_comm (tl.length / ds.length), Nat.mul_comm (s / ds.length)]
        omega
      have hpp : 0 < p := by
        rcases Nat.eq_zero_or_pos p with e | e
        · subst e; omega
        · exact e
      have hpl : p < 4000 := by
        have : p * 1 ≤ p * ds.length := Nat.mul_le_mul_left _ hm0
        omega
      have hper : ((tl.length : Int) - s) / (ds.length : Int) = (p : Int) := by
        have e : (tl.length : Int) - s = (p : Int) * (ds.length : Int) := by
          have : ((tl.length - s : Nat) : Int) = ((p * ds.length : Nat) : Int) := by rw [hp0]
          push_cast at this
          omega
        rw [e, Int.mul_ediv_cancel _ (by omega)]
      have hsm : ∀ i, i < ps.length → (ps.getD i 0).natAbs < 2 ^ 391 := fun i hi => by
        have q1 := W.small D0.pos D0.big hkn i (ps.getD i 0) (by rw [List.getD_eq_getElem?_getD, List.getElem?_eq_getElem hi]; rfl)
        have q2 : i * 2 ^ 312 ≤ 2 ^ 390 := Nat.le_trans (Nat.mul_le_mul_right _ (by omega : i ≤ 4000)) (by decide)
        have q3 : (2 : Nat) ^ 391 = 2 ^ 390 + 2 ^ 390 := by rw [Nat.pow_succ, Nat.mul_two]
        have q4 : (0 : Int).natAbs = 0 := rfl
        omega
      have hcl : ((ps.getD tl.length 0 - ps.getD s 0) / L).natAbs < 2 ^ 393 := div_lt D0.pos (sub_lt (hsm _ (by omega)) (hsm _ (by omega)))
      have hno1 := wf_no pl tb (stV (some s)) (m := "climb") (by decide +kernel) (by decide +kernel) (by decide +kernel)
      have hno2 := wf_no pl tb (stV (some s)) (m := "period") (by decide +kernel) (by decide +kernel) (by decide +kernel)
      have hh4 := Same.sqL S3 hh
      refine ⟨_, rfl, w, dxw, _, rfl, q1, hno1, w, pl, tb, ps, tl, s, rfl, WA, hwl, hs1, ?_⟩
      refine ⟨_, rfl, _, _, _, _, rfl, rfl, hh4, hix, d0, dx0, _, rfl, e1, df_no _ _ (by decide +kernel) (by decide +kernel), d0, L, ls0, rfl, D0, _, _, rfl, rfl, wide_div D0.pos D0.big (by decide) (by decide), ?_⟩
      have hdl : ((refs ds).length : Int) = (ds.length : Int) := by show ((ds.map V.ref).length : Int) = _; rw [List.length_map]
      refine ⟨_, rfl, w, dxw, _, rfl, q1, hno2, w, pl, tb, ps, tl, s, rfl, WA, _, rfl, hp, _, rfl, .inl hh4, _, _, rfl, rfl, wide_div (b := 10) (by rw [hdl]; omega) (by rw [hdl]; exact Nat.lt_of_le_of_lt (by omega : (ds.length : Int).natAbs ≤ 60) (by decide)) (by decide) (by decide), ?_⟩
      have ep : (fun i j => V.int (i / j)) ((tl.length : Int) - s) ((refs ds).length : Int) = .int (p : Int) := by rw [hdl]; show V.int _ = _; rw [hper]
      have hpb : (p : Int).natAbs < 2 ^ 393 := Nat.lt_of_lt_of_le (by omega : _ < 4000) (by decide)
      refine ⟨(ps.getD tl.length 0 - ps.getD s 0) / L, (p : Int), (by rw [← ep]; rfl), by omega, Nat.lt_of_lt_of_le (by omega : (p : Int).natAbs < 4000) (by decide), fun H5 r S5 hr5 => ?_⟩
      obtain ⟨c1, c2, c3, c4⟩ := low_terms (a := (ps.getD tl.length 0 - ps.getD s 0) / L) (b := (p : Int)) (by omega)
      have ga : ps.getD s 0 = a := by rw [List.getD_eq_getElem?_getD, ha]; rfl
      have gb : ps.getD tl.length 0 = b := by rw [List.getD_eq_getElem?_getD, hb]; rfl
      refine k H5 r (some _) (S3.trans S5) hr5 (.inr ⟨_, rfl, ⟨c2, c1, s, p, ps.getD s 0, (ps.getD tl.length 0 - ps.getD s 0) / L, hpp, behind_in W (by omega), ?_, c3⟩, lowQ_size hcl hpb⟩)
      rw [hmL, ← hp0, show s + (tl.length - s) = tl.length by omega, behind_in W (by omega)]
      have q1 := Int.mul_ediv_add_emod (ps.getD tl.length 0 - ps.getD s 0) L
      have q2 : (ps.getD tl.length 0 - ps.getD s 0) % L = 0 := Int.emod_eq_zero_of_dvd (Int.dvd_of_emod_eq_zero (by rw [Int.sub_emod, ga, gb, hab, Int.sub_self, Int.zero_emod]))
      rw [Int.mul_comm] at q1
      congr 1
      omega
end
end KA
namespace KA
open PySem PySem.Spec PyProof.Rows L2 DP
def spHPace (Z : Ad) (K : PySem.W.Frag) : Sp := fun vs H Q _ => ∃ (h d b : Addr) (L : Int) (ss : List Pr), vs = [.ref h] ∧ HandAt Z K H h d b L ss ∧ 0 < ss.length ∧
  ∀ H' r pr, Same H H' → Dp K H' r (encP pr) → PaceOf L (ld L ss) pr → SzP 393 pr → Q r H'
section
variable {P : Program} {w : World} {K : PySem.W.Frag} {mg : Str → Option Value} {base : Heap} {Z : Ad}
theorem ok_Hand_pace (T : Tx K w mg Z) : FnOk P w K mg base CX0 7 Z.a_Hand_pace Z.d_Hand_pace P_Hand_pace (spHPace Z K) := by
  refine T.F_Hand_pace.ok scHand_pace (fun vs H Q E h => ?_) (fun cdv A outer s H vs Q E hr h => ?_)
  · obtain ⟨h, d, b, L, ss, rfl, _⟩ := h
    rfl
  · obtain ⟨h, d, b, L, ss, rfl, A, h0, k⟩ := h
    obtain ⟨dx, e⟩ := A.ex
    refine ⟨_, (pss_one (ps_ret (pe_call (ok_side_pace T) (hr.mono (by decide)) (by rfl) T.g_side_pace T.F_side_pace.kp T.bb_side_pace .nil pass0 (pa_cons (pe_lst (pa_cons (fldK (K := K) (pv 0) rfl) pa_nil)) (pa_cons (pe_glob rfl T.g_SLOW T.r_SLOW) pa_nil))))), ?_⟩
    refine ⟨_, rfl, h, Z.C_Hand, dx, _, _, rfl, e, T.cl_Hand, T.nHand__dark, hf_dark _ _, (by show 1 ≤ sizeLine; decide), fun q hq => ?_⟩
    have S := same_upd (o := HO.lst [V.ref d]) hq
    have eit : ∀ n, it "slow" L ([heardAll L (frs ss)].map (sideOf "slow")) 0 n = some (gone L ss 0 n) := fun n => it_gone rfl (fun y => stp_heard1 A.dark.pos h0 y) 0 n
    refine ⟨q, [d], "slow", L, [heardAll L (frs ss)], rfl, SqL.of upd_same, ⟨rfl, fun i d' ls h1 h2 => ?_⟩, by simp, by simp, .inl rfl, fun H2 r o S2 hr RO => ?_⟩
    · cases i with
      | zero =>
        have e1 : d = d' := Option.some.inj h1
        have e2 : heardAll L (frs ss) = ls := Option.some.inj h2
        subst e1 e2
        exact A.dark.same S
      | succ i => simp at h1
    · rcases RO with ⟨_, n, hn⟩ | ⟨pr, rfl, RP, sz⟩
      · rw [eit] at hn; cases hn
      refine k H2 r pr (S.trans S2) hr ⟨RP.pos, RP.cop, ?_⟩ sz
      obtain ⟨n, p, x, c, p0, e1, e2, e3⟩ := RP.lap
      rw [eit] at e1 e2
      have e1 := Option.some.inj e1
      have e2 := Option.some.inj e2
      have e4 : n + p * ([heardAll L (frs ss)].map (sideOf "slow")).length = n + p := by simp
      rw [e4] at e2
      refine ⟨x, c, p, p0, ?_, e3⟩
      rw [← e1, gone_itf L ss 0 n, ← itf_add, ← gone_itf, e2, ← gone_itf, e1]
end
end KA
namespace KA
open PySem PySem.Spec PyProof.Rows L2 DP
/-! ### the homes of planted steps -/
section
variable {L : Int} {spots : List Int}
theorem plant_from {f : Int → Int} (F : Hand L f) (S : Spots L spots) {on : Nat} {tu : Int} (hf : ∀ k, k < spots.length → f (spots.getD k 0) = spotAt L spots (k + on) + tu * L) (i : Nat) : ∀ n : Nat, itf f (spotAt L spots i) n = spotAt L spots (i + n * on) + (n * tu) * L
  | 0 => by simp [itf]
  | n + 1 => by
    show f (itf f (spotAt L spots i) n) = _
    rw [plant_from F S hf i n]
    have e1 : i + (n + 1) * on = (i + n * on) + on := by rw [Nat.add_mul, Nat.one_mul]; omega
    rw [e1]
    generalize i + n * on = M
    rw [spotAt_parts S M]
    have hr := Nat.mod_lt M S.ne
    rw [spotAt_low S hr]
    have e : spots.getD (M % spots.length) 0 + ((M / spots.length : Nat) : Int) * L + (n : Int) * tu * L = spots.getD (M % spots.length) 0 + (((M / spots.length : Nat) : Int) + n * tu) * L := by grind
    rw [e, F.turn, hf _ hr]
    have e2 : M + on = (M % spots.length + on) + (M / spots.length) * spots.length := by
      have := Nat.div_add_mod M spots.length
      rw [Nat.mul_comm] at this
      omega
    rw [e2, spotAt_turn S]
    push_cast
    grind
theorem plant_homes (hL : 0 < L) (S : Spots L spots) {on : Nat} {tu : Int} {Y : Int → Prop} {hs : List Int} (hY : ∀ z, Y z → ∃ s ∈ plant L spots on tu, s.2 % L = z) (A : Homes L (ld L (plant L spots on tu)) Y hs) : hs = spots := by
  have h0 : 0 < (plant L spots on tu).length := by rw [plant_len]; exact S.ne
  have F := ld_hand hL h0
  refine rise_ext A.rise S.ris fun z => ⟨fun hz => ?_, fun hz => ?_⟩
  · obtain ⟨s, hs, e⟩ := hY z (A.low z hz)
    obtain ⟨k, hk, rfl⟩ := List.mem_map.mp hs
    have hm : spots.getD ((k + on) % spots.length) 0 ∈ spots := getD_mem (Nat.mod_lt _ S.ne)
    have b := S.on _ hm
    have e2 : (spots.getD ((k + on) % spots.length) 0 + ((((k + on) / spots.length : Nat) : Int) + tu) * L) % L = z := e
    rw [Int.add_mul_emod_self_right, Int.emod_eq_of_lt b.1 b.2] at e2
    rw [← e2]; exact hm
  · have b := S.on z hz
    obtain ⟨k, hk⟩ := List.mem_iff_getElem?.mp hz
    have hkl := (List.getElem?_eq_some_iff.mp hk).1
    have ez : spotAt L spots k = z := by rw [spotAt_low S hkl, List.getD_eq_getElem?_getD, hk]; rfl
    refine (A.mem z).mpr ⟨b.1, b.2, spots.length - 1, (on : Int) + spots.length * tu, ?_⟩
    rw [show spots.length - 1 + 1 = spots.length by have := S.ne; omega, ← ez, plant_from F S (fun j hj => plant_ld hL S hj) k, Nat.mul_comm, spotAt_turn S k on]
    grind
end
theorem ld_told {L : Int} {ss : List Pr} (h0 : 0 < ss.length) (z : Int) : ∃ s ∈ ss, ld L ss z % L = s.2 % L := by
  obtain ⟨⟨l, hl, e⟩, _⟩ := bst_is (.inl rfl) (frs_ne h0) z L
  rw [plc_slow] at e
  obtain ⟨s, hs, rfl⟩ := List.mem_map.mp hl
  refine ⟨s, hs, ?_⟩
  have e2 : ld L ss z = s.2 + (z - s.1) / L * L := e.symm
  rw [e2, Int.add_mul_emod_self_right]
/-- the bottom of a told hand's pace is no more than its steps -/
theorem pace_steps {L : Int} (hL : 0 < L) {ss : List Pr} (h0 : 0 < ss.length) {pr : Pr} (P : PaceOf L (ld L ss) pr) : pr.2 ≤ ss.length := by
  by_cases c : pr.2 ≤ ss.length
  · exact c
  exfalso
  have F := ld_hand hL h0
  have h := pigs (ss.length + 1) (ss.map fun s => s.2 % L) (fun i => itf (ld L ss) 0 (i + 1) % L) (fun i _ => by
    obtain ⟨s, hs, e⟩ := ld_told (L := L) h0 (itf (ld L ss) 0 i)
    exact List.mem_map.mpr ⟨s, hs, e.symm⟩) (fun i j hij hj e => by
    have h := P.all hL F (z := itf (ld L ss) 0 (i + 1)) (q := j - i) (by
      rw [← itf_add, show i + 1 + (j - i) = j + 1 by omega]
      exact same_mod e.symm)
    obtain ⟨d, hd⟩ := cop_dvd P.cop (show pr.2 ∣ pr.1 * ((j - i : Nat) : Int) from ⟨_, by rw [h, Int.mul_comm]⟩)
    rcases Int.lt_or_le 0 d with c | c
    · have := Int.mul_le_mul_of_nonneg_left (show 1 ≤ d by omega) (show 0 ≤ pr.2 by omega)
      omega
    · have := Int.mul_nonpos_of_nonneg_of_nonpos (show 0 ≤ pr.2 by omega) c
      omega)
  rw [List.length_map] at h
  omega
/-- who comes round is told by a step, whatever else was known of the homes -/
theorem Homes.steps {L : Int} {ss : List Pr} (h0 : 0 < ss.length) {Y : Int → Prop} {hs : List Int} (A : Homes L (ld L ss) Y hs) : Homes L (ld L ss) (fun x => ∃ s ∈ ss, s.2 % L = x) hs := by
  refine ⟨A.rise, A.mem, fun z hz => ?_⟩
  obtain ⟨z0, z1, m, t, h⟩ := (A.mem z).mp hz
  obtain ⟨s, hs, e⟩ := ld_told (L := L) h0 (itf (ld L ss) z m)
  have e2 : ld L ss (itf (ld L ss) z m) = z + t * L := h
  rw [e2, Int.add_mul_emod_self_right, Int.emod_eq_of_lt z0 z1] at e
  exact ⟨s, hs, e.symm⟩
def nats (n : Nat) : List Int := (List.range n).map Int.ofNat
theorem nats_snoc (n : Nat) : nats (n + 1) = nats n ++ [(n : Int)] := by unfold nats; rw [List.range_succ, List.map_append]; rfl
theorem nats_mem {n : Nat} {z : Int} : z ∈ nats n ↔ 0 ≤ z ∧ z < n := by
  unfold nats
  rw [List.mem_map]
  constructor
  · rintro ⟨k, hk, rfl⟩
    have := List.mem_range.mp hk
    exact ⟨Int.natCast_nonneg _, by show (k : Int) < n; omega⟩
  · rintro ⟨a, b⟩
    exact ⟨z.toNat, List.mem_range.mpr (by omega), Int.toNat_of_nonneg a⟩
theorem nats_rise (n : Nat) : (nats n).Pairwise (· < ·) := by
  unfold nats
  rw [List.pairwise_map]
  exact List.pairwise_lt_range.imp fun h => Int.ofNat_lt.mpr h
theorem nats_len (n : Nat) : (nats n).length = n := by unfold nats; simp
/-- whoever comes round in the pace's rounds is told by a step -/
theorem every_mem {L : Int} (hL : 0 < L) {ss : List Pr} (h0 : 0 < ss.length) {pr : Pr} (P : PaceOf L (ld L ss) pr) {z : Int} : ((0 ≤ z ∧ z < L) ∧ gone L ss z pr.2.toNat = z + pr.1 * L) ↔ ((∃ s ∈ ss, s.2 % L = z) ∧ gone L ss z pr.2.toNat = z + pr.1 * L) := by
  constructor
  · rintro ⟨⟨z0, z1⟩, h⟩
    refine ⟨?_, h⟩
    have hp := P.pos
    obtain ⟨m, hm⟩ : ∃ m, pr.2.toNat = m + 1 := ⟨pr.2.toNat - 1, by omega⟩
    rw [hm] at h
    obtain ⟨s, hs, e⟩ := ld_told (L := L) h0 (gone L ss z m)
    have e2 : ld L ss (gone L ss z m) = z + pr.1 * L := h
    rw [e2, Int.add_mul_emod_self_right, Int.emod_eq_of_lt z0 z1] at e
    exact ⟨s, hs, e.symm⟩
  · rintro ⟨⟨s, hs, rfl⟩, h⟩
    exact ⟨⟨Int.emod_nonneg _ (by omega), Int.emod_lt_of_pos _ hL⟩, h⟩
theorem plant_fst (L : Int) (spots : List Int) (on : Nat) (tu : Int) : (plant L spots on tu).map (·.1) = spots := by
  refine List.ext_getElem (by rw [List.length_map, plant_len]) fun n h1 h2 => ?_
  have h := plant_at (L := L) (on := on) (tu := tu) h2
  rw [List.getElem_map, (List.getElem?_eq_some_iff.mp h).2]
  show spots.getD n 0 = _
  rw [List.getD_eq_getElem?_getD, List.getElem?_eq_getElem h2]
  rfl
end KA
namespace KA
open PySem PySem.Spec PyProof.Rows L2 DP
/-! ### led back: the other way about -/
section
variable {L : Int} {f : Int → Int} {pr : Int × Int}
theorem PaceOf.ge (hL : 0 < L) (F : Hand L f) (P : PaceOf L f pr) {x s : Int} {q : Nat} (h : x + s * L ≤ itf f x q) : s * pr.2 ≤ pr.1 * q := by
  obtain ⟨z, c, p, p0, h1, h2⟩ := P.lap
  have up : ∀ t : Nat, x + t * (s * L) ≤ itf f x (t * q) := by
    intro t
    induction t with
    | zero => simp [itf]
    | succ t ih =>
      rw [show (t + 1) * q = q + t * q by rw [Nat.succ_mul, Nat.add_comm], itf_add]
      have a := itf_mono F h (t * q)
      rw [itf_shift F] at a
      have e : ((t + 1 : Nat) : Int) * (s * L) = t * (s * L) + s * L := by push_cast; grind
      omega
  obtain ⟨m, hm⟩ : ∃ m : Int, m = ((x - z).natAbs : Int) := ⟨_, rfl⟩
  have n1 := far_turns hL x z
  have n2 := far_turns hL z x
  have e : (z - x).natAbs = (x - z).natAbs := by omega
  rw [e] at n2
  rw [← hm] at n1 n2
  obtain ⟨t, ht⟩ : ∃ t : Nat, (t : Int) = 2 * m + 1 := ⟨(2 * m + 1).toNat, by omega⟩
  have a1 := up (t * p)
  have a2 : itf f z (t * q * p) = z + ((t * q : Nat) : Int) * (c * L) := itf_laps F h1 (t * q)
  have b := itf_near F n1 (t * p * q)
  rw [show t * q * p = t * p * q by rw [Nat.mul_assoc, Nat.mul_comm q p, ← Nat.mul_assoc]] at a2
  rw [a2] at b
  push_cast at a1 b
  rw [ht] at a1 b
  have key : (p : Int) * s ≤ q * c := by
    by_cases hc : (p : Int) * s ≤ q * c
    · exact hc
    · exfalso
      have g1 : (2 * m + 1) * (p * s - q * c) * L ≤ 2 * m * L := by
        have e1 : (2 * m + 1) * (p * s - q * c) * L = (2 * m + 1) * p * (s * L) - (2 * m + 1) * q * (c * L) := by grind
        have e3 : 2 * m * L = m * L + m * L := by grind
        omega
      have g4 : (2 * m + 1) * 1 * L ≤ (2 * m + 1) * (p * s - q * c) * L := Int.mul_le_mul_of_nonneg_right (Int.mul_le_mul_of_nonneg_left (by omega) (by omega)) (by omega)
      have g5 : (2 * m + 1) * 1 * L = 2 * m * L + L := by grind
      omega
  have hp := P.pos
  have k2 := Int.mul_le_mul_of_nonneg_right key (Int.le_of_lt hp)
  have e4 : (p : Int) * s * pr.2 = (s * pr.2) * p := by grind
  have e5 : (q : Int) * c * pr.2 = (pr.1 * q) * p := by grind
  rw [e4, e5] at k2
  exact Int.le_of_mul_le_mul_right k2 (by omega)
theorem PaceOf.le (hL : 0 < L) (F : Hand L f) (P : PaceOf L f pr) {x s : Int} {q : Nat} (h : itf f x q ≤ x + s * L) : pr.1 * q ≤ s * pr.2 := by
  obtain ⟨z, c, p, p0, h1, h2⟩ := P.lap
  have up : ∀ t : Nat, itf f x (t * q) ≤ x + t * (s * L) := by
    intro t
    induction t with
    | zero => simp [itf]
    | succ t ih =>
      rw [show (t + 1) * q = q + t * q by rw [Nat.succ_mul, Nat.add_comm], itf_add]
      have a := itf_mono F h (t * q)
      rw [itf_shift F] at a
      have e : ((t + 1 : Nat) : Int) * (s * L) = t * (s * L) + s * L := by push_cast; grind
      omega
  obtain ⟨m, hm⟩ : ∃ m : Int, m = ((x - z).natAbs : Int) := ⟨_, rfl⟩
  have n1 := far_turns hL x z
  have n2 := far_turns hL z x
  have e : (z - x).natAbs = (x - z).natAbs := by omega
  rw [e] at n2
  rw [← hm] at n1 n2
  obtain ⟨t, ht⟩ : ∃ t : Nat, (t : Int) = 2 * m + 1 := ⟨(2 * m + 1).toNat, by omega⟩
  have a1 := up (t * p)
  have a2 : itf f z (t * q * p) = z + ((t * q : Nat) : Int) * (c * L) := itf_laps F h1 (t * q)
  have b := itf_near F n2 (t * p * q)
  rw [show t * q * p = t * p * q by rw [Nat.mul_assoc, Nat.mul_comm q p, ← Nat.mul_assoc]] at a2
  rw [a2] at b
  push_cast at a1 b
  rw [ht] at a1 b
  have key : (q : Int) * c ≤ p * s := by
    by_cases hc : (q : Int) * c ≤ p * s
    · exact hc
    · exfalso
      have g1 : (2 * m + 1) * (q * c - p * s) * L ≤ 2 * m * L := by
        have e1 : (2 * m + 1) * (q * c - p * s) * L = (2 * m + 1) * q * (c * L) - (2 * m + 1) * p * (s * L) := by grind
        have e3 : 2 * m * L = m * L + m * L := by grind
        omega
      have g4 : (2 * m + 1) * 1 * L ≤ (2 * m + 1) * (q * c - p * s) * L := Int.mul_le_mul_of_nonneg_right (Int.mul_le_mul_of_nonneg_left (by omega) (by omega)) (by omega)
      have g5 : (2 * m + 1) * 1 * L = 2 * m * L + L := by grind
      omega
  have hp := P.pos
  have k2 := Int.mul_le_mul_of_nonneg_right key (Int.le_of_lt hp)
  have e4 : (p : Int) * s * pr.2 = (s * pr.2) * p := by grind
  have e5 : (q : Int) * c * pr.2 = (pr.1 * q) * p := by grind
  rw [e4, e5] at k2
  exact Int.le_of_mul_le_mul_right k2 (by omega)
end
/-- a hand and one that leads back -/
structure Adj (f g : Int → Int) : Prop where
  lo : ∀ x, g (f x) ≤ x
  hi : ∀ x, x < g (f x + 1)
theorem Adj.comp {f1 f2 g1 g2 : Int → Int} (m1 : ∀ x y, x ≤ y → g1 x ≤ g1 y) (A1 : Adj f1 g1) (A2 : Adj f2 g2) : Adj (fun x => f2 (f1 x)) (fun m => g1 (g2 m)) := by
  refine ⟨fun x => Int.le_trans (m1 _ _ (A2.lo (f1 x))) (A1.lo x), fun x => ?_⟩
  have h := A2.hi (f1 x)
  exact Int.lt_of_lt_of_le (A1.hi x) (m1 _ _ h)
theorem itf_in (g : Int → Int) (x : Int) (n : Nat) : itf g (g x) n = itf g x (n + 1) := by
  rw [Nat.add_comm n 1, itf_add]; rfl
theorem Adj.itf {f g : Int → Int} (m : ∀ x y, x ≤ y → g x ≤ g y) (A : Adj f g) : ∀ n, Adj (fun x => itf f x n) (fun x => itf g x n)
  | 0 => ⟨fun x => Int.le_refl x, fun x => by show x < x + 1; omega⟩
  | n + 1 => by
    have ih := Adj.itf m A n
    have mn : ∀ n x y, x ≤ y → KA.itf g x n ≤ KA.itf g y n := by
      intro n
      induction n with
      | zero => exact fun x y h => h
      | succ n ih2 => exact fun x y h => m _ _ (ih2 x y h)
    have c := Adj.comp (f1 := fun x => KA.itf f x n) (f2 := f) (g1 := fun x => KA.itf g x n) (g2 := g) (mn n) ih A
    refine ⟨fun x => ?_, fun x => ?_⟩
    · have := c.lo x
      show KA.itf g (f (KA.itf f x n)) (n + 1) ≤ x
      rw [← itf_in]; exact this
    · have := c.hi x
      show x < KA.itf g (f (KA.itf f x n) + 1) (n + 1)
      rw [← itf_in]; exact this
theorem Adj.pace {L : Int} (hL : 0 < L) {f g : Int → Int} (G : Hand L g) (A : Adj f g) {pr pr' : Pr} (P : PaceOf L f pr) (P' : PaceOf L g pr') : pr' = (0 - pr.1, pr.2) := by
  obtain ⟨x, c, p, p0, h1, h2⟩ := P.lap
  have Ap := A.itf G.mono p
  have a1 := Ap.lo x
  have a2 := Ap.hi x
  rw [h1] at a1 a2
  have b1 := P'.le hL G (x := x + c * L) (s := -c) (q := p) (by rw [Int.neg_mul]; omega)
  have b2 := P'.ge hL G (x := x + c * L + 1) (s := -c) (q := p) (by rw [Int.neg_mul]; omega)
  have e1 : pr'.1 * p = -c * pr'.2 := Int.le_antisymm b1 b2
  obtain ⟨z, c', p', p0', k1, k2⟩ := P'.lap
  have q0 := P.pos
  have q0' := P'.pos
  have e2 : (-pr.1) * pr'.2 = pr'.1 * pr.2 := by
    have : ((-pr.1) * pr'.2) * p = (pr'.1 * pr.2) * p := by grind
    exact Int.eq_of_mul_eq_mul_right (by omega) this
  have e3 : (0 - pr.1) * p' = c' * pr.2 := by
    have : ((0 - pr.1) * p') * pr'.2 = (c' * pr.2) * pr'.2 := by grind
    exact Int.eq_of_mul_eq_mul_right (by omega) this
  refine P'.one hL G ⟨q0, ?_, z, c', p', p0', k1, e3⟩
  show Int.gcd (0 - pr.1) pr.2 = 1
  rw [Int.zero_sub, Int.neg_gcd]; exact P.cop
end KA
namespace KA
open PySem PySem.Spec PyProof.Rows L2 DP
/-! ### the hand that leads back -/
noncomputable def bkf (L : Int) (ss : List Pr) (y : Int) : Int := bst "fast" (ups ss) y L
theorem ups_ne {ss : List Pr} (h : 0 < ss.length) : ups ss ≠ [] := fun e => by
  have e2 : ss = [] := List.map_eq_nil_iff.mp e
  rw [e2] at h; cases h
theorem bkf_gal {L : Int} (hL : 0 < L) {ss : List Pr} (h0 : 0 < ss.length) (x y : Int) : y ≤ ld L ss x ↔ bkf L ss y ≤ x := by
  obtain ⟨m, hm⟩ := lead_ex L h0 x
  have h := gal hL (bst_is (.inr rfl) (ups_ne h0) y L) hm
  rw [max_ld hm] at h
  exact h
theorem bkf_adj {L : Int} (hL : 0 < L) {ss : List Pr} (h0 : 0 < ss.length) : Adj (ld L ss) (bkf L ss) :=
  ⟨fun x => (bkf_gal hL h0 x _).mp (Int.le_refl _), fun x => by
    have h : ¬ bkf L ss (ld L ss x + 1) ≤ x := fun c => by
      have := (bkf_gal hL h0 x (ld L ss x + 1)).mpr c
      omega
    omega⟩
theorem bkf_hand {L : Int} (hL : 0 < L) {ss : List Pr} (h0 : 0 < ss.length) : Hand L (bkf L ss) := by
  refine ⟨fun x y h => ?_, fun x k => ?_⟩
  · refine (bkf_gal hL h0 _ _).mp (Int.le_trans h ((bkf_gal hL h0 _ _).mpr (Int.le_refl _)))
  · exact bst_of (best_shift hL k (bst_is (.inr rfl) (ups_ne h0) x L))
/-- a hand is told by steps just behind all places to which the other one leads -/
theorem led_ld {L : Int} (hL : 0 < L) {f g : Int → Int} (G : Hand L g) (A : Adj f g) {ys : List Int} (h : ∀ x, ∃ y ∈ ys, f x % L = y % L) : ld L (ys.map fun y => ((y + 1, g (y + 1)) : Pr)) = g := funext fun y => by
  have key : ∀ t : Int, g (t + 1) + (y - (t + 1)) / L * L ≤ g y := fun t => by
    rw [← G.turn]
    refine G.mono _ _ ?_
    have := div_le (a := y - (t + 1)) hL
    omega
  refine bst_of ⟨?_, fun l hl => ?_⟩
  · obtain ⟨t, ht, e⟩ := h (g y - 1)
    refine ⟨fr1 (t + 1, g (t + 1)), List.mem_map.mpr ⟨_, List.mem_map.mpr ⟨t, ht, rfl⟩, rfl⟩, ?_⟩
    rw [plc_slow]
    show g (t + 1) + (y - (t + 1)) / L * L = g y
    refine Int.le_antisymm (key t) ?_
    have a1 := A.hi (g y - 1)
    have a2 : f (g y - 1) < y := by
      by_cases c : f (g y - 1) < y
      · exact c
      · exfalso
        have b1 := G.mono y (f (g y - 1)) (by omega)
        have b2 := A.lo (g y - 1)
        omega
    have e2 : f (g y - 1) = t + (f (g y - 1) / L - t / L) * L := by
      have q1 := Int.mul_ediv_add_emod (f (g y - 1)) L
      have q2 := Int.mul_ediv_add_emod t L
      rw [Int.sub_mul, Int.mul_comm (f (g y - 1) / L), Int.mul_comm (t / L)]
      omega
    have k2 : (f (g y - 1) / L - t / L) * L ≤ (y - (t + 1)) / L * L := le_div hL (by omega)
    rw [← G.turn]
    have a3 : g y ≤ g (f (g y - 1) + 1) := by omega
    refine Int.le_trans a3 (G.mono _ _ ?_)
    omega
  · obtain ⟨q, hq, rfl⟩ := List.mem_map.mp hl
    obtain ⟨t, ht, rfl⟩ := List.mem_map.mp hq
    rw [if_pos rfl, plc_slow]
    exact key t
/-- each told hand has a pace -/
theorem pace_ex {L : Int} (hL : 0 < L) {ss : List Pr} (h0 : 0 < ss.length) : ∃ pr, PaceOf L (ld L ss) pr := by
  obtain ⟨i, j, hi, hij, hj, e⟩ := again (L := L) h0 0
  have e1 := same_mod e.symm
  have hp : (0 : Int) < ((j - i : Nat) : Int) := by omega
  obtain ⟨c1, c2, c3, c4⟩ := low_terms (a := gone L ss 0 j / L - gone L ss 0 i / L) hp
  refine ⟨lowT (gone L ss 0 j / L - gone L ss 0 i / L) ((j - i : Nat) : Int), c2, c1, gone L ss 0 i, gone L ss 0 j / L - gone L ss 0 i / L, j - i, by omega, ?_, c3⟩
  rw [← e1, gone_itf, gone_itf, ← itf_add, show i + (j - i) = j by omega]
theorem bkf_pace {L : Int} (hL : 0 < L) {ss ss2 : List Pr} (h0 : 0 < ss.length) (h2 : 0 < ss2.length) (e : ld L ss2 = bkf L ss) {pr : Pr} (P : PaceOf L (ld L ss) pr) : PaceOf L (bkf L ss) (0 - pr.1, pr.2) := by
  obtain ⟨pr', P'⟩ := pace_ex hL h2
  rw [e] at P'
  have := Adj.pace hL (bkf_hand hL h0) (bkf_adj hL h0) P P'
  rw [← this]; exact P'
theorem bk_pace {L : Int} (hL : 0 < L) {ss : List Pr} (h0 : 0 < ss.length) {pr : Pr} (P : PaceOf L (ld L ss) pr) : PaceOf L (bkf L ss) (0 - pr.1, pr.2) := by
  refine bkf_pace hL h0 (ss2 := (ss.map fun s => s.2).map fun y => ((y + 1, bkf L ss (y + 1)) : Pr)) (by rw [List.length_map, List.length_map]; exact h0) (led_ld hL (bkf_hand hL h0) (bkf_adj hL h0) fun x => ?_) P
  obtain ⟨s, hs, e⟩ := ld_told (L := L) h0 x
  exact ⟨s.2, List.mem_map.mpr ⟨s, hs, rfl⟩, e⟩
theorem mod_home (L x k : Int) : (x - k * L) % L = x % L := by
  rw [show x - k * L = x + (-k) * L by rw [Int.neg_mul]; omega, Int.add_mul_emod_self_right]
theorem heard_ends {L : Int} {ss : List Pr} (h0 : 0 < ss.length) (x : Int) : ∃ y ∈ (heardAll L (frs ss)).map (fun l => l.2.2), ld L ss x % L = y % L := by
  obtain ⟨s, hs, e⟩ := ld_told (L := L) h0 x
  refine ⟨(home L (fr1 s)).2.2, List.mem_map.mpr ⟨home L (fr1 s), (heardAll_mem _).mpr ⟨_, List.mem_map.mpr ⟨s, hs, rfl⟩, rfl⟩, rfl⟩, ?_⟩
  rw [e]
  show s.2 % L = (s.2 - s.1 / L * L) % L
  rw [mod_home]
theorem bkf_near {L : Int} (hL : 0 < L) {ss : List Pr} (h0 : 0 < ss.length) {n : Nat} (hs : ∀ s ∈ ss, SzP n s) (y : Int) : (bkf L ss y - y).natAbs ≤ 2 ^ (n + 1) + L.natAbs := ups_near hL hs (bst_is (.inr rfl) (ups_ne h0) y L)
def spHLed (Z : Ad) (K : PySem.W.Frag) : Sp := fun vs H Q _ => ∃ (h d b : Addr) (L : Int) (ss : List Pr) (n : Nat), vs = [.ref h] ∧ HandAt Z K H h d b L ss ∧ 0 < ss.length ∧ ss.length ≤ 28 ∧ L.natAbs < 2 ^ 200 ∧ 200 ≤ n ∧ n ≤ 270 ∧ (∀ s ∈ ss, SzP n s) ∧
  ∀ (H' : Hp) (h2 d2 b2 : Addr) (ss2 : List Pr), HandAt Z K H' h2 d2 b2 L ss2 → Same H H' → H h2 = none → (∀ la dx, H' d2 = some (.ins Z.C dx (df L la)) → H la = none) → (∀ la dx, H' b2 = some (.ins Z.C dx (df L la)) → H la = none) → 0 < ss2.length → ss2.length ≤ 28 → (∀ s ∈ ss2, SzP (n + 5) s) → ld L ss2 = bkf L ss → Q (.ref h2) H'
theorem led_size {L : Int} (hL : 0 < L) (hLb : L.natAbs < 2 ^ 200) {ss : List Pr} (h0 : 0 < ss.length) {n : Nat} (hn : 200 ≤ n) (hs : ∀ s ∈ ss, SzP n s) {y : Int} (hy : y ∈ (heardAll L (frs ss)).map fun l => l.2.2) : SzP (n + 5) (y + 1, bkf L ss (y + 1)) := by
  obtain ⟨l, hl, rfl⟩ := List.mem_map.mp hy
  obtain ⟨q, hq, rfl⟩ := (heardAll_mem _).mp hl
  obtain ⟨s, hs', rfl⟩ := List.mem_map.mp hq
  have h1 : (home L (fr1 s)).2.2.natAbs < 2 ^ (n + 2) := (home_sz hL hLb hn (⟨(hs s hs').1, (hs s hs').2⟩ : Sized n (fr1 s))).2
  have h2 := bkf_near hL h0 hs ((home L (fr1 s)).2.2 + 1)
  generalize (home L (fr1 s)).2.2 = y at h1 h2 ⊢
  have h3 : L.natAbs < 2 ^ n := lt_up hLb hn
  have p1 : (2 : Nat) ^ (n + 1) = 2 * 2 ^ n := by rw [Nat.pow_succ, Nat.mul_comm]
  have p2 : (2 : Nat) ^ (n + 2) = 4 * 2 ^ n := by rw [Nat.pow_add, Nat.mul_comm]
  have p5 : (2 : Nat) ^ (n + 5) = 32 * 2 ^ n := by rw [Nat.pow_add, Nat.mul_comm]
  have p0 : 0 < 2 ^ n := Nat.two_pow_pos n
  rw [p1] at h2
  rw [p2] at h1
  refine ⟨?_, ?_⟩
  · show (y + 1).natAbs < 2 ^ (n + 5)
    rw [p5]
    generalize 2 ^ n = B at h1 h2 h3 p0 ⊢
    omega
  · show (bkf L ss (y + 1)).natAbs < 2 ^ (n + 5)
    rw [p5]
    generalize 2 ^ n = B at h1 h2 h3 p0 ⊢
    omega
section
variable {P : Program} {w : World} {K : PySem.W.Frag} {mg : Str → Option Value} {base : Heap} {Z : Ad}
theorem ok_Hand_led_back (T : Tx K w mg Z) : FnOk P w K mg base CX0 9 Z.a_Hand_led_back Z.d_Hand_led_back P_Hand_led_back (spHLed Z K) := by
  refine T.F_Hand_led_back.ok scHand_led_back (fun vs H Q E h => ?_) (fun cdv A outer s H vs Q E hr h => ?_)
  · obtain ⟨h, d, b, L, ss, n, rfl, _⟩ := h
    rfl
  · obtain ⟨h, d, b, L, ss, n, rfl, A, h0, h28, hLb, hn, hn2, hsz, k⟩ := h
    obtain ⟨dx, e⟩ := A.ex
    have hL := A.dark.pos
    refine ⟨_, (pss_one (ps_ret (pe_make T.mk_Hand (ok_Hand_init T) (hr.mono (by decide)) (by rfl) T.g_Hand T.bb_Hand_init .nil pass0 (pa_cons (pe_meth0 (pv 0) T.cl_Hand T.m_Hand_length (ok_Hand_length T) (hr.mono (by decide)) T.bb_Hand_length .nil pass0) (pa_cons (pe_lc (own := [("_", 1), ("y", 2)]) (g := gTup K 2 (gCons (gName 1) (gCons (gName 2) gNil))) (tt := tYes) rfl scHand_led_back.nd (pi_list (pe_meth0 (pv 0) T.cl_Hand T.m_Hand_steps (ok_Hand_steps T) (hr.mono (by decide)) T.bb_Hand_steps .nil pass0)) (blkOk_by (own := [("_", 1), ("y", 2)]) (N := N_Hand_led_back) (sc := defScope sHand_led_back) (by decide +kernel)) (fun _ _ _ _ _ => (tupK (K := K) (by rfl) (pgs_cons (pg_name (i := 1) scHand_led_back.nd rfl (Or.inl rfl)) (pgs_cons (pg_name (i := 2) scHand_led_back.nd rfl (Or.inl rfl)) pgs_nil)))) (fun _ _ _ _ _ => pts_nil) (fun _ _ _ _ _ => (pe_tup (pa_cons (pe_op op_add (pv 2) pe_int) (pa_cons (pe_meth (pv 0) T.cl_Hand T.m_Hand_back (ok_Hand_back T) (hr.mono (by decide)) T.bb_Hand_back .nil pass0 (pa_cons (pe_op op_add (pv 2) pe_int) pa_nil)) pa_nil))))) pa_nil))))), ?_⟩
    refine ⟨_, rfl, h, dx, _, rfl, e, hf_no d b (m := "length") (by decide +kernel) (by decide +kernel), h, d, b, L, ss, rfl, A, ?_⟩
    refine ⟨_, rfl, h, dx, _, rfl, e, hf_no d b (m := "steps") (by decide +kernel) (by decide +kernel), h, d, b, L, ss, rfl, A, fun p xs H1 hp S1 g1 dp => ⟨p, rfl, ⟨_, SqL.of g1⟩, fun D hD => ?_⟩⟩
    have hsize : ∀ y, y ∈ ((heardAll L (frs ss)).map fun l => l.2.2) → SzP (n + 5) (y + 1, bkf L ss (y + 1)) := fun y hy => led_size hL hLb h0 hn hsz hy
    have hends := heard_ends (L := L) h0
    have hls0 : 0 < (heardAll L (frs ss)).length := by
      obtain ⟨y, hy, _⟩ := hends 0
      obtain ⟨l, hl, _⟩ := List.mem_map.mp hy
      exact List.length_pos_of_mem hl
    have hls28 : (heardAll L (frs ss)).length ≤ 28 := by
      have h5 := fold_len (L := L) (frs ss) []
      have h6 : (frs ss).length = ss.length := by unfold frs; rw [List.length_map]
      unfold heardAll
      simp only [List.length_nil] at h5; omega
    have hxl : xs.length = (heardAll L (frs ss)).length := by rw [dpAll_len dp, List.length_map, List.length_map]
    generalize hls : heardAll L (frs ss) = ls at dp hsize hends hls0 hls28 hxl
    refine lc_list (K := K) (a := p) (xs := xs) (fun i' H' => Same H1 H' ∧ ∃ ys, H' D = some (.lst ys) ∧ ys.length = i' ∧ DpAll K H' ys ((((ls.take i').map fun l => l.2.2).map fun y => ((y + 1, bkf L ss (y + 1)) : Pr)).map encP)) ⟨same_upd hD, [], upd_same, rfl, .nil⟩ (fun i' H' _ ⟨S, _⟩ => SqL.of (S _ _ g1)) ?_ ?_
    · rintro i' y H2 hi' ⟨S2, ys, gD, hyl, hyd⟩
      obtain ⟨dd, hdi, hdy⟩ := dpAll_get dp hi'
      obtain ⟨pr, hpr, rfl⟩ := map_at hdi
      obtain ⟨l, hl, rfl⟩ := map_at hpr
      have hi := (List.getElem?_eq_some_iff.mp hl).1
      obtain ⟨p', rfl, hp'⟩ := dp_pair (dp_mono S2 _ _ hdy)
      have A2 := A.same (S1.trans S2)
      obtain ⟨dx2, e2⟩ := A2.ex
      have hsz1 := hsize l.2.2 (List.mem_map.mpr ⟨l, List.mem_of_getElem? hl, rfl⟩)
      refine ⟨_, _, rfl, hp', rfl, _, _, rfl, _, _, rfl, rfl, rfl, yes_ite ?_⟩
      refine ⟨_, rfl, _, _, rfl, rfl, _, rfl, h, dx2, _, rfl, e2, hf_no d b (m := "back") (by decide +kernel) (by decide +kernel), _, rfl, _, _, rfl, rfl, h, d, b, L, _, ss, rfl, A2, h0, lt_up hsz1.1 (by omega), fun m H3 S3 hb => ?_⟩
      obtain rfl : bkf L ss (l.2.2 + 1) = m := bst_of hb
      refine ⟨(by show 2 ≤ sizeLine; decide), fun q' hq' => ?_⟩
      have Sq := same_upd (o := HO.tup [V.int (l.2.2 + 1), .int (bkf L ss (l.2.2 + 1))]) hq'
      refine ⟨ys, Sq _ _ (S3 _ _ gD), small1000 (by omega), same_set ((S2.trans S3).trans Sq) hD, _, upd_same, by simp [hyl], ?_⟩
      rw [take_snoc hl, List.map_append, List.map_append, List.map_append]
      exact acc_step (Sq _ _ (S3 _ _ gD)) (noLs_map noL_encP _) rfl (dpAll_mono (S3.trans Sq) _ _ hyd) (.tup (SqT.of upd_same) (.cons (.int _) (.cons (.int _) .nil)))
    rintro H2 ⟨S2, ys, gD, hyl, hyd⟩
    rw [List.take_of_length_le (by omega)] at hyd
    have S12 := S1.trans S2
    have hdp : Dp K H2 (.ref D) (.list (((ls.map fun l => l.2.2).map fun y => ((y + 1, bkf L ss (y + 1)) : Pr)).map encP)) := .lst (SqL.of gD) hyd
    have hss2 : ∀ s ∈ ((ls.map fun l => l.2.2).map fun y => ((y + 1, bkf L ss (y + 1)) : Pr)), SzP (n + 5) s := fun s hs => by
      obtain ⟨y, hy, rfl⟩ := List.mem_map.mp hs
      exact hsize y hy
    have eld := led_ld hL (bkf_hand hL h0) (bkf_adj hL h0) hends
    have hl2 : ((ls.map fun l => l.2.2).map fun y => ((y + 1, bkf L ss (y + 1)) : Pr)).length = ls.length := by rw [List.length_map, List.length_map]
    generalize ((ls.map fun l => l.2.2).map fun y => ((y + 1, bkf L ss (y + 1)) : Pr)) = ss2 at hdp hss2 eld hl2
    refine fun h2 dx2 hhn2 hdx2 hne2 => ?_
    have Sm2 : Same H2 (upd (upd H2 dx2 (.own h2)) h2 (.ins Z.C_Hand dx2 [])) := same_made hhn2 hdx2
    refine ⟨h2, dx2, .ref D, L, ss2, rfl, upd_same, dp_mono Sm2 _ _ hdp, by omega, by omega, hL, hLb, fun s hs => ⟨lt_up (hss2 s hs).1 (by omega), lt_up (hss2 s hs).2 (by omega)⟩, fun H3 d2 b2 HA3 f1 f2 O3 => ⟨rfl, ?_⟩⟩
    have S3 : Same H2 H3 := fun c o e => O3 c o (Sm2 c o e) (ne_of_none e hhn2)
    exact k H3 h2 d2 b2 ss2 HA3 (S12.trans S3) (S12.free hhn2) (fun la dx' e => S12.free (Sm2.free (f1 la dx' e))) (fun la dx' e => S12.free (Sm2.free (f2 la dx' e))) (by omega) (by omega) hss2 eld
end
end KA
namespace KA
open PySem PySem.Spec PyProof.Rows L2 DP
/-! ### a comprehension in a comprehension -/
theorem lookup_relabel_free {env : Env} : ∀ {names : List (Str × NameKind)} {x : Str}, (names.lookup x = some .cell ∨ names.lookup x = some .free) →
    (names.map fun (n, k) => if (k == NameKind.free && env.scope.kind == .function && env.kindOf n == some .cell) then (n, NameKind.cell) else (n, k)).lookup x = some .cell ∨
    (names.map fun (n, k) => if (k == NameKind.free && env.scope.kind == .function && env.kindOf n == some .cell) then (n, NameKind.cell) else (n, k)).lookup x = some .free
  | [], _, h => by simp at h
  | (n, k) :: r, x, h => by
    have ih := @lookup_relabel_free env r x
    show List.lookup x ((if (k == NameKind.free && env.scope.kind == .function && env.kindOf n == some .cell) = true then (n, NameKind.cell) else (n, k)) :: _) = _ ∨ List.lookup x ((if (k == NameKind.free && env.scope.kind == .function && env.kindOf n == some .cell) = true then (n, NameKind.cell) else (n, k)) :: _) = _
    cases hx : x == n with
    | true =>
      simp only [List.lookup_cons, hx] at h
      by_cases hc : (k == NameKind.free && env.scope.kind == .function && env.kindOf n == some .cell) = true
      · rw [if_pos hc]; left; simp [List.lookup_cons, hx]
      · rw [if_neg hc]; simp only [List.lookup_cons, hx]; exact h
    | false =>
      simp only [List.lookup_cons, hx] at h
      by_cases hc : (k == NameKind.free && env.scope.kind == .function && env.kindOf n == some .cell) = true
      · rw [if_pos hc]; simp only [List.lookup_cons, hx]; exact ih h
      · rw [if_neg hc]; simp only [List.lookup_cons, hx]; exact ih h
theorem blkOk_in {N : List Str} {sc scope : Scope} {own : List (Str × Nat)} {env : Env} (h : blkC N sc scope own = true) : BlkOk N (relabel sc env) scope own := by
  have o := blkOk_by h
  exact ⟨o.kind, o.uniq, o.ix, fun y hy e => lookup_relabel_free (o.free y hy e), o.own⟩
theorem pi_listK {X : Cx} {K : PySem.W.Frag} {tg l : Expr} {tl : TE} (hl : PE X l tl) (h : X.K = K := by rfl) : PI X tg l (iList K tl) := by subst h; exact pi_list hl
end KA
namespace KA
open PySem PySem.Spec PyProof.Rows L2 DP
/-! ### gates -/
theorem max_one {l : List Int} {m m' : Int} (h : IsMaxL l m) (h' : IsMaxL l m') : m = m' := Int.le_antisymm (h'.2 _ h.1) (h.2 _ h'.1)
open Classical in
/-- the beginning of a home's gate: the nearest of some places at it or behind -/
noncomputable def gateB (L : Int) (bs : List Int) (h : Int) : Int := if hx : ∃ m, IsMaxL (bs.map fun a => h - (h - a) % L) m then Classical.choose hx else 0
theorem gateB_of {L : Int} {bs : List Int} {h m : Int} (hm : IsMaxL (bs.map fun a => h - (h - a) % L) m) : gateB L bs h = m := by
  have hx : ∃ m, IsMaxL (bs.map fun a => h - (h - a) % L) m := ⟨m, hm⟩
  unfold gateB
  rw [dif_pos hx]
  exact max_one (Classical.choose_spec hx) hm
noncomputable def gatesOf (L : Int) (bs hs : List Int) : List Pr := hs.map fun h => (gateB L bs h, h)
theorem near_low {L h a : Int} (h0 : 0 ≤ h) (h1 : h < L) (a0 : 0 ≤ a) (a1 : a < L) : h - (h - a) % L = if a ≤ h then a else a - L := by
  by_cases c : a ≤ h
  · rw [if_pos c, Int.emod_eq_of_lt (by omega) (by omega)]; omega
  · rw [if_neg c]
    have e : (h - a) % L = (h - a + L) % L := by rw [Int.add_emod_right]
    rw [e, Int.emod_eq_of_lt (by omega) (by omega)]; omega
/-- as the program looks for it -/
theorem gate_is {L : Int} {bs : List Int} {last h m : Int} (hb : ∀ a ∈ bs, 0 ≤ a ∧ a < L) (hl : last ∈ bs) (ht : ∀ a ∈ bs, a ≤ last) (h0 : 0 ≤ h) (h1 : h < L) (hm : IsMaxL ((last - L) :: bs.filter fun a => decide (a ≤ h)) m) : gateB L bs h = m := by
  refine gateB_of ⟨?_, fun y hy => ?_⟩
  · rcases List.mem_cons.mp hm.1 with e | e
    · refine List.mem_map.mpr ⟨last, hl, ?_⟩
      have b := hb last hl
      rw [near_low h0 h1 b.1 b.2, if_neg, e]
      intro c
      have := hm.2 last (List.mem_cons_of_mem _ (List.mem_filter.mpr ⟨hl, decide_eq_true c⟩))
      omega
    · obtain ⟨e1, e2⟩ := List.mem_filter.mp e
      have b := hb m e1
      exact List.mem_map.mpr ⟨m, e1, by rw [near_low h0 h1 b.1 b.2, if_pos (of_decide_eq_true e2)]⟩
  · obtain ⟨a, ha, rfl⟩ := List.mem_map.mp hy
    have b := hb a ha
    rw [near_low h0 h1 b.1 b.2]
    by_cases c : a ≤ h
    · rw [if_pos c]
      exact hm.2 a (List.mem_cons_of_mem _ (List.mem_filter.mpr ⟨ha, decide_eq_true c⟩))
    · rw [if_neg c]
      have := hm.2 (last - L) List.mem_cons_self
      have := ht a ha
      omega
theorem Homes.any {L : Int} {f : Int → Int} {Y : Int → Prop} {hs : List Int} (A : Homes L f Y hs) : Homes L f (fun _ => True) hs := ⟨A.rise, A.mem, fun _ _ => trivial⟩
theorem Homes.same {L : Int} {f : Int → Int} {Y Y' : Int → Prop} {hs ks : List Int} (A : Homes L f Y hs) (B : Homes L f Y' ks) : hs = ks := rise_ext A.rise B.rise fun z => by rw [A.mem, B.mem]
def spHGates (Z : Ad) (K : PySem.W.Frag) : Sp := fun vs H Q _ => ∃ (h d b : Addr) (L : Int) (ss : List Pr) (n : Nat), vs = [.ref h] ∧ HandAt Z K H h d b L ss ∧ 0 < ss.length ∧ ss.length ≤ 28 ∧ L.natAbs < 2 ^ 200 ∧ 200 ≤ n ∧ n ≤ 270 ∧ (∀ s ∈ ss, SzP n s) ∧
  ∀ (p : Addr) (xs : List V) (H' : Hp) (hs bs : List Int), H p = none → Same H H' → H' p = some (.lst xs) → DpAll K H' xs ((gatesOf L bs hs).map encP) → Homes L (ld L ss) (fun x => ∃ s ∈ ss, s.2 % L = x) hs → Homes L (bkf L ss) (fun _ => True) bs → hs.length ≤ 60 → Q (.ref p) H'
section
variable {P : Program} {w : World} {K : PySem.W.Frag} {mg : Str → Option Value} {base : Heap} {Z : Ad}
theorem ok_Hand_gates (T : Tx K w mg Z) : FnOk P w K mg base CX0 10 Z.a_Hand_gates Z.d_Hand_gates P_Hand_gates (spHGates Z K) := by
  refine T.F_Hand_gates.ok scHand_gates (fun vs H Q E h => ?_) (fun cdv A outer s H vs Q E hr h => ?_)
  · obtain ⟨h, d, b, L, ss, n, rfl, _⟩ := h
    rfl
  · obtain ⟨h, d, b, L, ss, n, rfl, A, h0, h28, hLb, hn, hn2, hsz, k⟩ := h
    obtain ⟨dx, e⟩ := A.ex
    have hL := A.dark.pos
    refine ⟨_, (pss_cons (ps_set (i := 1) scHand_gates.nd rfl (Or.inr rfl) (pe_meth0 (pe_meth0 (pv 0) T.cl_Hand T.m_Hand_led_back (ok_Hand_led_back T) (hr.mono (by decide)) T.bb_Hand_led_back .nil pass0) T.cl_Hand T.m_Hand_homes (ok_Hand_homes T) (hr.mono (by decide)) T.bb_Hand_homes .nil pass0))
      (pss_cons (ps_set (i := 2) scHand_gates.nd rfl (Or.inr rfl) (pe_op op_sub (pe_ix (ixL (K := K)) (pv 1) (pe_un un_neg pe_int) (fun _ _ => rfl)) (pe_meth0 (pv 0) T.cl_Hand T.m_Hand_length (ok_Hand_length T) (hr.mono (by decide)) T.bb_Hand_length .nil pass0)))
      (pss_one (ps_ret (pe_lc (own := [("home", 4)]) (g := gName 4) (tt := tYes) rfl scHand_gates.nd (pi_list (pe_meth0 (pv 0) T.cl_Hand T.m_Hand_homes (ok_Hand_homes T) (hr.mono (by decide)) T.bb_Hand_homes .nil pass0)) (blkOk_by (own := [("home", 4)]) (N := N_Hand_gates) (sc := defScope sHand_gates) (by decide +kernel)) (fun _ _ _ _ _ => (pg_name (i := 4) scHand_gates.nd rfl (Or.inr rfl))) (fun _ _ _ _ _ => pts_nil) (fun _ _ _ _ _ => (pe_tup (pa_cons (pe_callB (maxK (K := K) rfl) (by rfl) T.b_max (by decide +kernel) (pa_cons (pe_op op_cat (pe_lst (pa_cons (pv 2) pa_nil)) (pe_lc (own := [("a", 3)]) (g := gName 3) (tt := _) rfl scHand_gates.nd (pi_listK (K := K) (pv 1)) (blkOk_in (own := [("a", 3)]) (N := N_Hand_gates) (sc := { kind := .function, names := [(".0", .local), ("home", .cell), ("max", .globalImplicit), ("before", .free), ("begins", .free)], isGenerator := false, isCoroutine := false }) (by decide +kernel)) (fun _ _ _ _ _ => (pg_name (i := 3) scHand_gates.nd rfl (Or.inl rfl))) (fun _ _ _ _ _ => (pts_one (pt_cmpR op_le (pv 3) (pv 4) (nomark _)))) (fun _ _ _ _ _ => (pv 3)))) pa_nil)) (pa_cons (pv 4) pa_nil))))))))), ?_⟩
    refine ⟨_, rfl, h, dx, _, rfl, e, hf_no d b (m := "led_back") (by decide +kernel) (by decide +kernel), h, d, b, L, ss, n, rfl, A, h0, h28, hLb, hn, hn2, hsz, fun H1 h2 d2 b2 ss2 A2 S1 _ _ _ q0 q28 _ eld => ?_⟩
    obtain ⟨dx2, e2⟩ := A2.ex
    refine ⟨h2, dx2, _, rfl, e2, hf_no d2 b2 (m := "homes") (by decide +kernel) (by decide +kernel), h2, d2, b2, L, ss2, rfl, A2, q0, fun bp bs H2 hbp S2 gb HB hbl => ?_⟩
    obtain ⟨pr2, P2⟩ := pace_ex hL q0
    have bne := HB.ne hL (ld_hand hL q0) P2
    rw [eld] at HB
    have b0 : 0 < bs.length := List.length_pos_iff.mpr bne
    obtain ⟨last, hlast⟩ : ∃ z, bs[bs.length - 1]? = some z := ⟨bs[bs.length - 1], List.getElem?_eq_getElem (by omega)⟩
    have hlm : last ∈ bs := List.mem_of_getElem? hlast
    have htop : ∀ a ∈ bs, a ≤ last := fun a ha => by
      obtain ⟨i, hi, rfl⟩ := List.getElem_of_mem ha
      have e3 : last = bs[bs.length - 1] := by
        rw [List.getElem?_eq_getElem (by omega)] at hlast
        exact (Option.some.inj hlast).symm
      by_cases c : i = bs.length - 1
      · subst c; omega
      · have := (List.pairwise_iff_getElem.mp HB.rise) i (bs.length - 1) hi (by omega) (by omega)
        omega
    have hbs : ∀ a ∈ bs, 0 ≤ a ∧ a < L := fun a ha => ⟨((HB.mem a).mp ha).1, ((HB.mem a).mp ha).2.1⟩
    have A3 := A.same (S1.trans S2)
    obtain ⟨dx3, e3⟩ := A3.ex
    refine ⟨_, rfl, _, rfl, _, _, _, _, rfl, rfl, SqL.of gb, (by rw [atI_last (by rw [List.length_map]; exact b0), List.length_map, List.getElem?_map, hlast]; rfl), _, rfl, h, dx3, _, rfl, e3, hf_no d b (m := "length") (by decide +kernel) (by decide +kernel), h, d, b, L, ss, rfl, A3, _, _, rfl, rfl, ?_⟩
    refine ⟨_, rfl, h, dx3, _, rfl, e3, hf_no d b (m := "homes") (by decide +kernel) (by decide +kernel), h, d, b, L, ss, rfl, A3, h0, fun hp hs H3 hhp S3 gh HM hhl => ⟨hp, rfl, ⟨_, SqL.of gh⟩, fun D hD => ?_⟩⟩
    have gb3 := S3 _ _ gb
    refine lc_list (K := K) (a := hp) (xs := hs.map V.int) (fun i' H' => Same H3 H' ∧ ∃ ys, H' D = some (.lst ys) ∧ ys.length = i' ∧ DpAll K H' ys ((gatesOf L bs (hs.take i')).map encP)) ⟨same_upd hD, [], upd_same, rfl, .nil⟩ (fun i' H' _ ⟨S, _⟩ => SqL.of (S _ _ gh)) ?_ ?_
    · rintro i' y H4 hi' ⟨S4, ys, gD, hyl, hyd⟩
      rw [List.getElem?_map] at hi'
      obtain ⟨z, hz, rfl⟩ : ∃ z, hs[i']? = some z ∧ y = V.int z := by
        cases c : hs[i']? with
        | none => rw [c] at hi'; cases hi'
        | some z => rw [c] at hi'; exact ⟨z, rfl, (Option.some.inj hi').symm⟩
      have hi := (List.getElem?_eq_some_iff.mp hz).1
      have hzm := (HM.mem z).mp (List.mem_of_getElem? hz)
      refine ⟨rfl, yes_ite ?_⟩
      refine ⟨_, rfl, (by show 1 ≤ sizeLine; decide), fun q hq => ?_⟩
      have Sq := same_upd (o := HO.lst [V.int (last - L)]) hq
      have gq : (upd H4 q (HO.lst [V.int (last - L)])) q = some (HO.lst [V.int (last - L)]) := upd_same
      generalize upd H4 q (HO.lst [V.int (last - L)]) = H5 at Sq gq ⊢
      refine ⟨_, rfl, bp, rfl, ⟨_, SqL.of (Sq _ _ (S4 _ _ gb3))⟩, fun D2 hD2 => ?_⟩
      refine lc_list (K := K) (a := bp) (xs := bs.map V.int) (fun j H' => Same H5 H' ∧ H' D2 = some (.lst (((bs.take j).filter fun a => decide (a ≤ z)).map V.int))) ⟨same_upd hD2, upd_same⟩ (fun j H' _ ⟨S, _⟩ => SqL.of (S _ _ (Sq _ _ (S4 _ _ gb3)))) ?_ ?_
      · rintro j y H6 hj ⟨S6, gD2⟩
        rw [List.getElem?_map] at hj
        obtain ⟨u, hu, rfl⟩ : ∃ u, bs[j]? = some u ∧ y = V.int u := by
          cases c : bs[j]? with
          | none => rw [c] at hj; cases hj
          | some u => rw [c] at hj; exact ⟨u, rfl, (Option.some.inj hj).symm⟩
        have hjl := (List.getElem?_eq_some_iff.mp hu).1
        have ef : (bs.take (j + 1)).filter (fun a => decide (a ≤ z)) = (bs.take j).filter (fun a => decide (a ≤ z)) ++ (if u ≤ z then [u] else []) := by
          rw [take_snoc hu, List.filter_append]
          by_cases c : u ≤ z <;> simp [c]
        refine ⟨rfl, _, rfl, _, rfl, _, _, rfl, rfl, _, rfl, ?_⟩
        by_cases c : u ≤ z
        · rw [if_pos c] at ef
          refine ite2 (fun _ => ?_) (fun q => absurd (decide_eq_true c) q)
          refine ⟨_, rfl, _, gD2, small1000 ?_, same_set S6 hD2, ?_⟩
          · have := List.length_filter_le (fun a => decide (a ≤ z)) (bs.take j)
            rw [List.length_take] at this
            rw [List.length_map]; omega
          · rw [ef, List.map_append]; exact upd_same
        · rw [if_neg c, List.append_nil] at ef
          refine ite2 (fun q => absurd (of_decide_eq_true q) c) (fun _ => ?_)
          exact ⟨S6, by rw [ef]; exact gD2⟩
      rintro H6 ⟨S6, gD2⟩
      rw [List.take_of_length_le (by simp)] at gD2
      have hfl := List.length_filter_le (fun a => decide (a ≤ z)) bs
      refine ⟨q, D2, _, _, rfl, rfl, S6 _ _ gq, gD2, ?_, fun c hc => ?_⟩
      · refine Nat.le_trans (?_ : _ ≤ 100) (by decide)
        rw [List.length_map, List.length_singleton]; omega
      have Sc := same_upd (o := HO.lst ([V.int (last - L)] ++ ((bs.filter fun a => decide (a ≤ z)).map V.int))) hc
      refine ⟨c, (last - L) :: bs.filter (fun a => decide (a ≤ z)), rfl, SqL.of upd_same, (by simp), fun m m1 m2 => ?_⟩
      obtain rfl : gateB L bs z = m := gate_is hbs hlm htop hzm.1 hzm.2.1 ⟨m1, m2⟩
      refine ⟨_, rfl, (by show 2 ≤ sizeLine; decide), fun q' hq' => ?_⟩
      have Sd := same_upd (o := HO.tup [V.int (gateB L bs z), .int z]) hq'
      have SS : Same H4 (upd (upd H6 c (HO.lst ([V.int (last - L)] ++ ((bs.filter fun a => decide (a ≤ z)).map V.int)))) q' (HO.tup [V.int (gateB L bs z), .int z])) := ((Sq.trans S6).trans Sc).trans Sd
      refine ⟨ys, SS _ _ gD, small1000 (by omega), same_set (S4.trans SS) hD, _, upd_same, by simp [hyl], ?_⟩
      unfold gatesOf
      rw [take_snoc hz, List.map_append, List.map_append]
      exact acc_step (SS _ _ gD) (noLs_map noL_encP _) rfl (dpAll_mono SS _ _ hyd) (.tup (SqT.of upd_same) (.cons (.int _) (.cons (.int _) .nil)))
    rintro H4 ⟨S4, ys, gD, hyl, hyd⟩
    rw [List.take_of_length_le (by simp)] at hyd
    exact k D ys H4 hs bs (S1.free (S2.free (S3.free hD))) (((S1.trans S2).trans S3).trans S4) gD hyd HM HB.any hhl
end
end KA
namespace KA
open PySem PySem.Spec PyProof.Rows L2 DP
/-! ### gates and gaps -/
theorem least_nat {P : Nat → Prop} : ∀ n, P n → ∃ m, m ≤ n ∧ P m ∧ ∀ k, k < m → ¬ P k
  | 0, h => ⟨0, Nat.le_refl _, h, fun k hk => absurd hk (Nat.not_lt_zero _)⟩
  | n + 1, h => by
    by_cases c : ∃ m, m ≤ n ∧ P m
    · obtain ⟨m, hm, h1⟩ := c
      obtain ⟨j, hj, h2, h3⟩ := least_nat_aux m h1
      exact ⟨j, by omega, h2, h3⟩
    · exact ⟨n + 1, Nat.le_refl _, h, fun k hk hp => c ⟨k, by omega, hp⟩⟩
where
  least_nat_aux {P : Nat → Prop} (m : Nat) (h : P m) : ∃ j, j ≤ m ∧ P j ∧ ∀ k, k < j → ¬ P k := by
    induction m using Nat.strongRecOn with
    | ind m ih =>
      by_cases c : ∃ k, k < m ∧ P k
      · obtain ⟨k, hk, hp⟩ := c
        obtain ⟨j, a, b, d⟩ := ih k hk hp
        exact ⟨j, by omega, b, d⟩
      · exact ⟨m, Nat.le_refl _, h, fun k hk hp => c ⟨k, hk, hp⟩⟩
/-- where the pace's rounds lead, its turns taken back -/
def rnd (L : Int) (f : Int → Int) (pr : Pr) (x : Int) : Int := itf f x pr.2.toNat - pr.1 * L
section
variable {L : Int} {f g : Int → Int} {pr : Pr}
theorem rnd_mono (F : Hand L f) {x y : Int} (h : x ≤ y) : rnd L f pr x ≤ rnd L f pr y := by
  have := itf_mono F h pr.2.toNat
  unfold rnd; omega
theorem rnd_shift (F : Hand L f) (x k : Int) : rnd L f pr (x + k * L) = rnd L f pr x + k * L := by
  unfold rnd
  rw [itf_shift F]; omega
theorem per_rnd (hL : 0 < L) (F : Hand L f) (P : PaceOf L f pr) {x : Int} : Per L f x ↔ rnd L f pr x = x := by
  rw [per_pace hL F P]
  unfold rnd
  omega
/-- a gate: from b to the home h -/
structure GateAt (L : Int) (f : Int → Int) (pr : Pr) (b h : Int) : Prop where
  le : b ≤ h
  far : h < b + L
  home : rnd L f pr h = h
  down : rnd L f pr (b - 1) ≤ b - 1
  up : ∀ x, b ≤ x → x < h → x < rnd L f pr x
theorem gate_ex (hL : 0 < L) (F : Hand L f) {h : Int} (hh : rnd L f pr h = h) : ∃ b, GateAt L f pr b h := by
  have h1 : rnd L f pr (h - ((L - 1).toNat : Nat) - 1) ≤ h - ((L - 1).toNat : Nat) - 1 := by
    have e : h - ((L - 1).toNat : Nat) - 1 = h + (-1) * L := by omega
    rw [e, rnd_shift F, hh]; omega
  obtain ⟨m, hm, h2, h3⟩ := least_nat (P := fun n => rnd L f pr (h - (n : Nat) - 1) ≤ h - (n : Nat) - 1) _ h1
  refine ⟨h - m, by omega, by omega, hh, h2, fun x x0 x1 => ?_⟩
  have h4 := h3 (h - 1 - x).toNat (by omega)
  have e : h - ((h - 1 - x).toNat : Nat) - 1 = x := by omega
  rw [e] at h4
  omega
theorem GateAt.lt {b1 h1 b2 h2 : Int} (G1 : GateAt L f pr b1 h1) (G2 : GateAt L f pr b2 h2) (h : h1 < h2) : h1 < b2 := by
  by_cases c : h1 < b2
  · exact c
  · exfalso
    have := G2.up h1 (by omega) h
    have := G1.home
    omega
theorem GateAt.one {b b' h : Int} (G1 : GateAt L f pr b h) (G2 : GateAt L f pr b' h) : b = b' := by
  have key : ∀ b b' : Int, GateAt L f pr b h → GateAt L f pr b' h → ¬ b < b' := fun b b' G1 G2 c => by
    have := G1.up (b' - 1) (by omega) (by have := G2.le; omega)
    have := G2.down
    omega
  have h1 := key b b' G1 G2
  have h2 := key b' b G2 G1
  omega
theorem GateAt.shift (F : Hand L f) {b h : Int} (G : GateAt L f pr b h) (k : Int) : GateAt L f pr (b + k * L) (h + k * L) := by
  refine ⟨by have := G.le; omega, by have := G.far; omega, by rw [rnd_shift F, G.home], ?_, fun x x0 x1 => ?_⟩
  · have e : b + k * L - 1 = b - 1 + k * L := by omega
    rw [e, rnd_shift F]
    have := G.down
    omega
  · have h1 := G.up (x + (-k) * L) (by rw [Int.neg_mul]; omega) (by rw [Int.neg_mul]; omega)
    rw [rnd_shift F] at h1
    omega
/-- a place that is not led behind itself: its gate's home is the next one -/
theorem home_above (hL : 0 < L) (F : Hand L f) (P : PaceOf L f pr) {x : Int} (hx : x ≤ rnd L f pr x) : ∃ h, x ≤ h ∧ rnd L f pr h = h ∧ ∀ y, x ≤ y → y < h → y < rnd L f pr y := by
  obtain ⟨z, c, p, p0, h1, _⟩ := P.lap
  have hz : rnd L f pr z = z := (per_rnd hL F P).mp ⟨p - 1, c, by rw [show p - 1 + 1 = p by omega]; exact h1⟩
  have hf := far_turns hL x z
  have h2 : rnd L f pr (x + ((z + ((x - z).natAbs : Int) * L - x).toNat : Nat)) = x + ((z + ((x - z).natAbs : Int) * L - x).toNat : Nat) := by
    have e : x + ((z + ((x - z).natAbs : Int) * L - x).toNat : Nat) = z + ((x - z).natAbs : Int) * L := by omega
    rw [e, rnd_shift F, hz]
  obtain ⟨n, hn, h3, h4⟩ := least_nat (P := fun n => rnd L f pr (x + (n : Nat)) = x + (n : Nat)) _ h2
  refine ⟨x + n, by omega, h3, fun y y0 y1 => ?_⟩
  by_cases c : y < rnd L f pr y
  · exact c
  exfalso
  have h5 : rnd L f pr (x + ((y - x).toNat : Nat)) ≤ x + ((y - x).toNat : Nat) := by
    have e : x + ((y - x).toNat : Nat) = y := by omega
    rw [e]; omega
  obtain ⟨m, hm, h6, h7⟩ := least_nat (P := fun n => rnd L f pr (x + (n : Nat)) ≤ x + (n : Nat)) _ h5
  have h8 := h4 m (by omega)
  refine h8 ?_
  cases m with
  | zero =>
    have e : x + ((0 : Nat) : Int) = x := by omega
    rw [e] at h6 ⊢
    omega
  | succ m =>
    have h9 := h7 m (Nat.lt_succ_self m)
    have h10 := rnd_mono (pr := pr) F (show x + (m : Int) ≤ x + ((m + 1 : Nat) : Int) by omega)
    have h9' : ¬ rnd L f pr (x + (m : Int)) ≤ x + (m : Int) := h9
    have h6' : rnd L f pr (x + ((m + 1 : Nat) : Int)) ≤ x + ((m + 1 : Nat) : Int) := h6
    show rnd L f pr (x + ((m + 1 : Nat) : Int)) = x + ((m + 1 : Nat) : Int)
    omega
/-- such a place is in a gate -/
theorem gate_up (hL : 0 < L) (F : Hand L f) (P : PaceOf L f pr) {x : Int} (hx : x ≤ rnd L f pr x) : ∃ b h, GateAt L f pr b h ∧ b ≤ x ∧ x ≤ h := by
  obtain ⟨h, h1, h2, h3⟩ := home_above hL F P hx
  obtain ⟨b, G⟩ := gate_ex hL F h2
  refine ⟨b, h, G, ?_, h1⟩
  by_cases c : b ≤ x
  · exact c
  · exfalso
    have := h3 (b - 1) (by omega) (by have := G.le; omega)
    have := G.down
    omega
theorem gate_in {b h x : Int} (G : GateAt L f pr b h) (h1 : b ≤ x) (h2 : x ≤ h) : x ≤ rnd L f pr x := by
  by_cases c : x = h
  · rw [c, G.home]; omega
  · have := G.up x h1 (by omega)
    omega
theorem gal_itf (M : ∀ x y, x ≤ y → g x ≤ g y) (A : Adj f g) (x y : Int) (n : Nat) : y ≤ itf f x n ↔ itf g y n ≤ x := by
  have An := A.itf M n
  have mn : ∀ n x y, x ≤ y → itf g x n ≤ itf g y n := by
    intro n
    induction n with
    | zero => exact fun x y h => h
    | succ n ih2 => exact fun x y h => M _ _ (ih2 x y h)
  constructor
  · intro h
    exact Int.le_trans (mn n _ _ h) (An.lo x)
  · intro h
    by_cases c : y ≤ itf f x n
    · exact c
    · exfalso
      have h1 := An.hi x
      have h2 := mn n (itf f x n + 1) y (by omega)
      have h1' : x < itf g (itf f x n + 1) n := h1
      omega
/-- a beginning: not led behind itself, but the place ahead of it is led no farther than itself -/
theorem begin_iff (hL : 0 < L) (G : Hand L g) (A : Adj f g) (Pb : PaceOf L g (0 - pr.1, pr.2)) {x : Int} : Per L g x ↔ x ≤ rnd L f pr x ∧ rnd L f pr (x - 1) ≤ x - 1 := by
  rw [per_pace hL G Pb]
  have e : x + (0 - pr.1, pr.2).1 * L = x - pr.1 * L := by
    show x + (0 - pr.1) * L = _
    rw [Int.sub_mul]; omega
  rw [e]
  show itf g x pr.2.toNat = _ ↔ _
  have h1 := gal_itf G.mono A x (x + pr.1 * L) pr.2.toNat
  have h2 := gal_itf G.mono A (x - 1) (x + pr.1 * L) pr.2.toNat
  have e2 : itf g (x + pr.1 * L) pr.2.toNat = itf g x pr.2.toNat + pr.1 * L := itf_shift G x pr.1 _
  rw [e2] at h1 h2
  unfold rnd
  omega
variable {Y Y' : Int → Prop} {hs bs : List Int}
theorem mod_same (L h b : Int) : (h - b % L) % L = (h - b) % L := by
  have q := Int.mul_ediv_add_emod b L
  have e : h - b % L = h - b + (b / L) * L := by rw [Int.mul_comm]; omega
  rw [e, Int.add_mul_emod_self_right]
/-- the law's gates are gates -/
theorem gate_at (hL : 0 < L) (F : Hand L f) (G : Hand L g) (A : Adj f g) (P : PaceOf L f pr) (Pb : PaceOf L g (0 - pr.1, pr.2)) (HH : Homes L f Y hs) (HB : Homes L g Y' bs) {h : Int} (hm : h ∈ hs) : GateAt L f pr (gateB L bs h) h := by
  obtain ⟨b, Gb⟩ := gate_ex hL F ((per_rnd hL F P).mp ((HH.mem h).mp hm).2.2)
  have e : gateB L bs h = b := by
    refine gateB_of ⟨?_, fun y hy => ?_⟩
    · have hb : Per L g b := (begin_iff hL G A Pb).mpr ⟨gate_in Gb (Int.le_refl _) Gb.le, Gb.down⟩
      refine List.mem_map.mpr ⟨b % L, (HB.mem _).mpr ⟨Int.emod_nonneg _ (by omega), Int.emod_lt_of_pos _ hL, hb.mod G (Int.emod_emod_of_dvd _ (Int.dvd_refl L)).symm⟩, ?_⟩
      have h1 := Gb.le
      have h2 := Gb.far
      rw [mod_same, Int.emod_eq_of_lt (by omega) (by omega)]
      omega
    · obtain ⟨a, ha, rfl⟩ := List.mem_map.mp hy
      have h1 := ((HB.mem a).mp ha).2.2
      have q := Int.mul_ediv_add_emod (h - a) L
      have q0 := Int.emod_nonneg (h - a) (show L ≠ 0 by omega)
      have e1 : h - (h - a) % L = a + ((h - a) / L) * L := by rw [Int.mul_comm]; omega
      have h2 : Per L g (h - (h - a) % L) := h1.mod G (by rw [e1, Int.add_mul_emod_self_right])
      have h3 := ((begin_iff (f := f) hL G A Pb).mp h2).2
      have h4 : h - (h - a) % L ≤ h := by omega
      generalize h - (h - a) % L = y at h3 h4
      by_cases c : y ≤ b
      · exact c
      · exfalso
        have := Gb.up (y - 1) (by omega) (by omega)
        omega
  rw [e]; exact Gb
theorem gates_rise (hL : 0 < L) (F : Hand L f) (G : Hand L g) (A : Adj f g) (P : PaceOf L f pr) (Pb : PaceOf L g (0 - pr.1, pr.2)) (HH : Homes L f Y hs) (HB : Homes L g Y' bs) {h h' : Int} (hm : h ∈ hs) (hm' : h' ∈ hs) (hlt : h < h') : h < gateB L bs h' ∧ h' - L < gateB L bs h := by
  have G1 := gate_at hL F G A P Pb HH HB hm
  have G2 := gate_at hL F G A P Pb HH HB hm'
  have a1 := (HH.mem h).mp hm
  have a2 := (HH.mem h').mp hm'
  refine ⟨G1.lt G2 hlt, ?_⟩
  have G3 := G2.shift F (-1)
  have := G3.lt G1 (by omega)
  omega
/-- the begins of all gates, brought home, are the homes led back -/
theorem begins_all (hL : 0 < L) (F : Hand L f) (G : Hand L g) (A : Adj f g) (P : PaceOf L f pr) (Pb : PaceOf L g (0 - pr.1, pr.2)) (HH : Homes L f Y hs) (HB : Homes L g Y' bs) : (hs.map fun h => gateB L bs h % L).Nodup ∧ ∀ z, z ∈ (hs.map fun h => gateB L bs h % L) ↔ z ∈ bs := by
  refine ⟨?_, fun z => ⟨fun hz => ?_, fun hz => ?_⟩⟩
  · rw [List.Nodup, List.pairwise_map]
    refine HH.rise.imp_of_mem fun {h h'} hm hm' hlt e => ?_
    obtain ⟨r1, r2⟩ := gates_rise hL F G A P Pb HH HB hm hm' hlt
    have G1 := gate_at hL F G A P Pb HH HB hm
    have G2 := gate_at hL F G A P Pb HH HB hm'
    have l1 := G1.le
    have l2 := G2.le
    have e2 := same_mod e
    generalize gateB L bs h / L - gateB L bs h' / L = k at e2
    rcases Int.lt_trichotomy k 0 with c | c | c
    · have : k * L ≤ (-1) * L := Int.mul_le_mul_of_nonneg_right (by omega) (by omega)
      omega
    · rw [c] at e2; omega
    · have : 1 * L ≤ k * L := Int.mul_le_mul_of_nonneg_right (by omega) (by omega)
      omega
  · obtain ⟨h, hm, rfl⟩ := List.mem_map.mp hz
    have Gb := gate_at hL F G A P Pb HH HB hm
    have hb : Per L g (gateB L bs h) := (begin_iff hL G A Pb).mpr ⟨gate_in Gb (Int.le_refl _) Gb.le, Gb.down⟩
    exact (HB.mem _).mpr ⟨Int.emod_nonneg _ (by omega), Int.emod_lt_of_pos _ hL, hb.mod G (Int.emod_emod_of_dvd _ (Int.dvd_refl L)).symm⟩
  · obtain ⟨z0, z1, hp⟩ := (HB.mem z).mp hz
    obtain ⟨u1, u2⟩ := (begin_iff hL G A Pb).mp hp
    obtain ⟨h, h1, h2, h3⟩ := home_above hL F P u1
    have Gz : GateAt L f pr z h := by
      refine ⟨h1, ?_, h2, u2, h3⟩
      by_cases c : h < z + L
      · exact c
      · exfalso
        have h4 := h3 (h + (-1) * L) (by omega) (by omega)
        rw [rnd_shift F, h2] at h4
        omega
    have q := Int.mul_ediv_add_emod h L
    have e : h + (-(h / L)) * L = h % L := by rw [Int.neg_mul, Int.mul_comm]; omega
    have Gs := Gz.shift F (-(h / L))
    rw [e] at Gs
    have hm : h % L ∈ hs := (HH.mem _).mpr ⟨Int.emod_nonneg _ (by omega), Int.emod_lt_of_pos _ hL, (per_rnd hL F P).mpr Gs.home⟩
    have e3 := (gate_at hL F G A P Pb HH HB hm).one Gs
    refine List.mem_map.mpr ⟨_, hm, ?_⟩
    rw [e3, Int.add_mul_emod_self_right, Int.emod_eq_of_lt z0 z1]
/-- who is in a gate is not led behind itself by the pace's rounds -/
theorem in_gates (hL : 0 < L) (F : Hand L f) (G : Hand L g) (A : Adj f g) (P : PaceOf L f pr) (Pb : PaceOf L g (0 - pr.1, pr.2)) (HH : Homes L f Y hs) (HB : Homes L g Y' bs) (x : Int) : (∃ h ∈ hs, (x - gateB L bs h) % L ≤ h - gateB L bs h) ↔ x ≤ rnd L f pr x := by
  constructor
  · rintro ⟨h, hm, hx⟩
    have Gb := gate_at hL F G A P Pb HH HB hm
    have q := Int.mul_ediv_add_emod (x - gateB L bs h) L
    have q0 := Int.emod_nonneg (x - gateB L bs h) (show L ≠ 0 by omega)
    have e : x + (-((x - gateB L bs h) / L)) * L = gateB L bs h + (x - gateB L bs h) % L := by rw [Int.neg_mul, Int.mul_comm]; omega
    have h1 := gate_in Gb (x := x + (-((x - gateB L bs h) / L)) * L) (by omega) (by omega)
    rw [rnd_shift F] at h1
    omega
  · intro hx
    obtain ⟨b, h, Gx, x0, x1⟩ := gate_up hL F P hx
    have q := Int.mul_ediv_add_emod h L
    have e : h + (-(h / L)) * L = h % L := by rw [Int.neg_mul, Int.mul_comm]; omega
    have Gs := Gx.shift F (-(h / L))
    rw [e] at Gs
    have hm : h % L ∈ hs := (HH.mem _).mpr ⟨Int.emod_nonneg _ (by omega), Int.emod_lt_of_pos _ hL, (per_rnd hL F P).mpr Gs.home⟩
    have e3 := (gate_at hL F G A P Pb HH HB hm).one Gs
    refine ⟨_, hm, ?_⟩
    rw [e3]
    have f1 := Gx.far
    have e4 : x - (b + (-(h / L)) * L) = (x - b) + (h / L) * L := by rw [Int.neg_mul]; omega
    rw [e4, Int.add_mul_emod_self_right, Int.emod_eq_of_lt (by omega) (by omega)]
    rw [← e]
    omega
end
end KA
namespace KA
open PySem PySem.Spec PyProof.Rows L2 DP
/-! ### a told hand drawn out, moved, with turns more -/
def scP (t : Int) (s : Pr) : Pr := (s.1 * t, s.2 * t)
def mvP (by' : Int) (s : Pr) : Pr := (s.1 + by', s.2 + by')
theorem mul_pos_lt {a b t : Int} (ht : 0 < t) : a * t < b * t ↔ a < b := ⟨fun h => Int.lt_of_mul_lt_mul_right h (Int.le_of_lt ht), fun h => Int.mul_lt_mul_of_pos_right h ht⟩
theorem mul_pos_le {a b t : Int} (ht : 0 < t) : a * t ≤ b * t ↔ a ≤ b := ⟨fun h => Int.le_of_mul_le_mul_right h ht, fun h => Int.mul_le_mul_of_nonneg_right h (Int.le_of_lt ht)⟩
section
variable {L t : Int} {ss : List Pr}
theorem scaled_ld (ht : 0 < t) (h0 : 0 < ss.length) (x : Int) : ld (L * t) (ss.map (scP t)) x = ld L ss (x / t) * t := by
  obtain ⟨⟨l, hl, e⟩, h2⟩ := bst_is (sd := "slow") (.inl rfl) (frs_ne h0) (x / t) L
  have ep : ∀ s : Pr, plc "slow" (fr1 (scP t s)) x (L * t) = plc "slow" (fr1 s) (x / t) L * t := fun s => by
    rw [plc_slow, plc_slow]
    show s.2 * t + (x - s.1 * t) / (L * t) * (L * t) = (s.2 + (x / t - s.1) / L * L) * t
    have e1 : (x - s.1 * t) / (L * t) = (x / t - s.1) / L := by
      rw [Int.mul_comm L t, ← Int.ediv_ediv_of_nonneg (Int.le_of_lt ht), Int.sub_mul_ediv_right _ _ (by omega)]
    rw [e1]
    grind
  refine bst_of ⟨?_, fun l' hl' => ?_⟩
  · obtain ⟨s, hs, rfl⟩ := List.mem_map.mp hl
    exact ⟨_, List.mem_map.mpr ⟨_, List.mem_map.mpr ⟨s, hs, rfl⟩, rfl⟩, by rw [ep]; show _ = bst _ _ _ _ * t; rw [e]⟩
  · obtain ⟨q, hq, rfl⟩ := List.mem_map.mp hl'
    obtain ⟨s, hs, rfl⟩ := List.mem_map.mp hq
    rw [if_pos rfl, ep]
    have := h2 _ (List.mem_map.mpr ⟨s, hs, rfl⟩)
    rw [if_pos rfl] at this
    exact Int.mul_le_mul_of_nonneg_right this (Int.le_of_lt ht)
theorem moved_ld {b : Int} (h0 : 0 < ss.length) (x : Int) : ld L (ss.map (mvP b)) x = ld L ss (x - b) + b := by
  obtain ⟨⟨l, hl, e⟩, h2⟩ := bst_is (sd := "slow") (.inl rfl) (frs_ne h0) (x - b) L
  have ep : ∀ s : Pr, plc "slow" (fr1 (mvP b s)) x L = plc "slow" (fr1 s) (x - b) L + b := fun s => by
    rw [plc_slow, plc_slow]
    show s.2 + b + (x - (s.1 + b)) / L * L = s.2 + (x - b - s.1) / L * L + b
    rw [show x - (s.1 + b) = x - b - s.1 by omega]
    omega
  refine bst_of ⟨?_, fun l' hl' => ?_⟩
  · obtain ⟨s, hs, rfl⟩ := List.mem_map.mp hl
    exact ⟨_, List.mem_map.mpr ⟨_, List.mem_map.mpr ⟨s, hs, rfl⟩, rfl⟩, by rw [ep]; show _ = bst _ _ _ _ + b; rw [e]⟩
  · obtain ⟨q, hq, rfl⟩ := List.mem_map.mp hl'
    obtain ⟨s, hs, rfl⟩ := List.mem_map.mp hq
    rw [if_pos rfl, ep]
    have := h2 _ (List.mem_map.mpr ⟨s, hs, rfl⟩)
    rw [if_pos rfl] at this
    show _ ≤ bst _ _ _ _ + b
    omega
end
section
variable {L t : Int} {f f' : Int → Int} {pr : Pr}
theorem itf_scaled (ht : 0 < t) (hf : ∀ x, f' x = f (x / t) * t) (y : Int) : ∀ n, itf f' (y * t) n = itf f y n * t
  | 0 => rfl
  | n + 1 => by
    show f' (itf f' (y * t) n) = f (itf f y n) * t
    rw [itf_scaled ht hf y n, hf, Int.mul_ediv_cancel _ (by omega)]
theorem itf_scaled1 (ht : 0 < t) (hf : ∀ x, f' x = f (x / t) * t) (x : Int) (n : Nat) : itf f' x (n + 1) = itf f (x / t) (n + 1) * t := by
  have h1 : itf f' x (1 + n) = itf f' (itf f' x 1) n := itf_add f' x 1 n
  have h2 : itf f (x / t) (1 + n) = itf f (itf f (x / t) 1) n := itf_add f (x / t) 1 n
  rw [Nat.add_comm, h1, h2]
  show itf f' (f' x) n = itf f (f (x / t)) n * t
  rw [hf, itf_scaled ht hf]
theorem pace_scaled (ht : 0 < t) (hf : ∀ x, f' x = f (x / t) * t) (P : PaceOf L f pr) : PaceOf (L * t) f' pr := by
  obtain ⟨x, c, p, p0, h1, h2⟩ := P.lap
  refine ⟨P.pos, P.cop, x * t, c, p, p0, ?_, h2⟩
  rw [itf_scaled ht hf, h1]
  grind
theorem per_scaled (ht : 0 < t) (hf : ∀ x, f' x = f (x / t) * t) {x : Int} : Per (L * t) f' x ↔ ∃ y, x = y * t ∧ Per L f y := by
  constructor
  · rintro ⟨m, k, h⟩
    rw [itf_scaled1 ht hf] at h
    have e : x = (itf f (x / t) (m + 1) - k * L) * t := by
      rw [Int.sub_mul, h]; grind
    have e2 : x / t * t = x := by
      rw [e, Int.mul_ediv_cancel _ (by omega)]
    refine ⟨x / t, e2.symm, m, k, ?_⟩
    have e3 : itf f (x / t) (m + 1) * t = (x / t + k * L) * t := by
      rw [h, Int.add_mul, e2]; grind
    exact Int.eq_of_mul_eq_mul_right (by omega) e3
  · rintro ⟨y, rfl, m, k, h⟩
    refine ⟨m, k, ?_⟩
    rw [itf_scaled ht hf, h]
    grind
variable {Y Y' : Int → Prop} {hs bs hs' bs' : List Int}
theorem homes_scaled (hL : 0 < L) (ht : 0 < t) (hf : ∀ x, f' x = f (x / t) * t) (HH : Homes L f Y hs) : Homes (L * t) f' (fun _ => True) (hs.map (· * t)) := by
  refine ⟨?_, fun x => ?_, fun _ _ => trivial⟩
  · rw [List.pairwise_map]
    exact HH.rise.imp fun h => (mul_pos_lt ht).mpr h
  · rw [List.mem_map, per_scaled ht hf]
    constructor
    · rintro ⟨y, hy, rfl⟩
      obtain ⟨y0, y1, hp⟩ := (HH.mem y).mp hy
      exact ⟨Int.mul_nonneg y0 (Int.le_of_lt ht), (mul_pos_lt ht).mpr y1, y, rfl, hp⟩
    · rintro ⟨x0, x1, y, rfl, hp⟩
      refine ⟨y, (HH.mem y).mpr ⟨?_, (mul_pos_lt ht).mp x1, hp⟩, rfl⟩
      have : 0 * t ≤ y * t := by omega
      exact (mul_pos_le ht).mp this
theorem rnd_scaled (ht : 0 < t) (hf : ∀ x, f' x = f (x / t) * t) (hp : 0 < pr.2) (x : Int) : rnd (L * t) f' pr x = rnd L f pr (x / t) * t := by
  obtain ⟨m, hm⟩ : ∃ m, pr.2.toNat = m + 1 := ⟨pr.2.toNat - 1, by omega⟩
  unfold rnd
  rw [hm, itf_scaled1 ht hf, Int.sub_mul]
  grind
theorem gate_scaled (ht : 0 < t) (hf : ∀ x, f' x = f (x / t) * t) (hp : 0 < pr.2) {b h : Int} (G : GateAt L f pr b h) : GateAt (L * t) f' pr (b * t) (h * t) := by
  refine ⟨(mul_pos_le ht).mpr G.le, by rw [← Int.add_mul]; exact (mul_pos_lt ht).mpr G.far, ?_, ?_, fun x x0 x1 => ?_⟩
  · rw [rnd_scaled ht hf hp, Int.mul_ediv_cancel _ (by omega), G.home]
  · rw [rnd_scaled ht hf hp]
    have e : (b * t - 1) / t = b - 1 := by
      have e1 : b * t - 1 = (t - 1) + (b - 1) * t := by rw [Int.sub_mul]; omega
      rw [e1, Int.add_mul_ediv_right _ _ (by omega), Int.ediv_eq_zero_of_lt (by omega) (by omega)]; omega
    rw [e]
    have h1 := (mul_pos_le ht).mpr G.down
    rw [Int.sub_mul] at h1
    omega
  · rw [rnd_scaled ht hf hp]
    have q := Int.mul_ediv_add_emod x t
    have q0 := Int.emod_nonneg x (show t ≠ 0 by omega)
    have q1 := Int.emod_lt_of_pos x ht
    have y0 : b ≤ x / t := by
      by_cases c : b ≤ x / t
      · exact c
      · have : (x / t + 1) * t ≤ b * t := (mul_pos_le ht).mpr (by omega)
        rw [Int.add_mul, Int.mul_comm (x / t)] at this
        omega
    have y1 : x / t < h := by
      by_cases c : x / t < h
      · exact c
      · have : h * t ≤ x / t * t := (mul_pos_le ht).mpr (by omega)
        rw [Int.mul_comm (x / t)] at this
        omega
    have h1 := G.up (x / t) y0 y1
    have h2 : (x / t + 1) * t ≤ rnd L f pr (x / t) * t := (mul_pos_le ht).mpr (by omega)
    rw [Int.add_mul, Int.mul_comm (x / t)] at h2
    omega
/-- moved -/
theorem itf_moved {b : Int} (hf : ∀ x, f' x = f (x - b) + b) (x : Int) : ∀ n, itf f' x n = itf f (x - b) n + b
  | 0 => by show x = x - b + b; omega
  | n + 1 => by
    show f' (itf f' x n) = f (itf f (x - b) n) + b
    rw [itf_moved hf x n, hf, show itf f (x - b) n + b - b = itf f (x - b) n by omega]
theorem pace_moved {b : Int} (hf : ∀ x, f' x = f (x - b) + b) (P : PaceOf L f pr) : PaceOf L f' pr := by
  obtain ⟨x, c, p, p0, h1, h2⟩ := P.lap
  refine ⟨P.pos, P.cop, x + b, c, p, p0, ?_, h2⟩
  rw [itf_moved hf, show x + b - b = x by omega, h1]
  omega
theorem per_moved {b : Int} (hf : ∀ x, f' x = f (x - b) + b) {x : Int} : Per L f' x ↔ Per L f (x - b) := by
  constructor
  · rintro ⟨m, k, h⟩
    rw [itf_moved hf] at h
    exact ⟨m, k, by omega⟩
  · rintro ⟨m, k, h⟩
    exact ⟨m, k, by rw [itf_moved hf]; omega⟩
theorem rnd_moved {b : Int} (hf : ∀ x, f' x = f (x - b) + b) (x : Int) : rnd L f' pr x = rnd L f pr (x - b) + b := by
  unfold rnd
  rw [itf_moved hf]
  omega
theorem gate_moved {b : Int} (hf : ∀ x, f' x = f (x - b) + b) {u h : Int} (G : GateAt L f pr u h) : GateAt L f' pr (u + b) (h + b) := by
  refine ⟨by have := G.le; omega, by have := G.far; omega, ?_, ?_, fun x x0 x1 => ?_⟩
  · rw [rnd_moved hf, show h + b - b = h by omega, G.home]
  · rw [rnd_moved hf, show u + b - 1 - b = u - 1 by omega]
    have := G.down
    omega
  · rw [rnd_moved hf]
    have := G.up (x - b) (by omega) (by omega)
    omega
/-- with turns more -/
theorem itf_farther (F : Hand L f) (k x : Int) : ∀ n : Nat, itf (fun x => f x + k * L) x n = itf f x n + (n * k) * L
  | 0 => by simp [itf]
  | n + 1 => by
    show f (itf (fun x => f x + k * L) x n) + k * L = f (itf f x n) + _
    rw [itf_farther F k x n, F.turn]
    push_cast
    grind
theorem per_farther (F : Hand L f) (k : Int) {x : Int} : Per L (fun x => f x + k * L) x ↔ Per L f x := by
  constructor
  · rintro ⟨m, c, h⟩
    rw [itf_farther F] at h
    exact ⟨m, c - ((m + 1 : Nat) : Int) * k, by rw [Int.sub_mul]; omega⟩
  · rintro ⟨m, c, h⟩
    refine ⟨m, c + ((m + 1 : Nat) : Int) * k, ?_⟩
    rw [itf_farther F, h, Int.add_mul]
    omega
theorem rnd_farther (F : Hand L f) (k : Int) (hp : 0 < pr.2) (x : Int) : rnd L (fun x => f x + k * L) (pr.1 + k * pr.2, pr.2) x = rnd L f pr x := by
  unfold rnd
  rw [itf_farther F]
  show itf f x pr.2.toNat + (((pr.2.toNat : Nat) : Int) * k) * L - (pr.1 + k * pr.2) * L = _
  rw [Int.toNat_of_nonneg (by omega), Int.add_mul, Int.mul_comm pr.2 k]
  omega
theorem gate_farther (F : Hand L f) (k : Int) (hp : 0 < pr.2) {b h : Int} (G : GateAt L f pr b h) : GateAt L (fun x => f x + k * L) (pr.1 + k * pr.2, pr.2) b h := by
  refine ⟨G.le, G.far, by rw [rnd_farther F k hp]; exact G.home, by rw [rnd_farther F k hp]; exact G.down, fun x x0 x1 => by rw [rnd_farther F k hp]; exact G.up x x0 x1⟩
end
/-- the lists of gates -/
theorem gates_eq {L L' : Int} {f' : Int → Int} {pr : Pr} {hs bs bs' : List Int} (φ : Int → Int) (h1 : ∀ h ∈ hs, GateAt L' f' pr (gateB L' bs' (φ h)) (φ h)) (h2 : ∀ h ∈ hs, GateAt L' f' pr (φ (gateB L bs h)) (φ h)) : gatesOf L' bs' (hs.map φ) = (gatesOf L bs hs).map fun p => (φ p.1, φ p.2) := by
  unfold gatesOf
  rw [List.map_map, List.map_map]
  refine List.map_congr_left fun h hm => ?_
  show (gateB L' bs' (φ h), φ h) = (φ (gateB L bs h), φ h)
  rw [(h1 h hm).one (h2 h hm)]
theorem sorted_one : ∀ {l k : List Int}, l.Perm k → l.Pairwise (· ≤ ·) → k.Pairwise (· ≤ ·) → l = k
  | [], k, h, _, _ => (List.nil_perm.mp h).symm
  | x :: l, [], h, _, _ => (List.perm_nil.mp h)
  | x :: l, y :: k, h, h1, h2 => by
    obtain ⟨a1, a2⟩ := List.pairwise_cons.mp h1
    obtain ⟨b1, b2⟩ := List.pairwise_cons.mp h2
    have e : x = y := by
      have m1 := h.mem_iff.mp (List.mem_cons_self (a := x) (l := l))
      have m2 := h.mem_iff.mpr (List.mem_cons_self (a := y) (l := k))
      rcases List.mem_cons.mp m1 with c | c
      · exact c
      · rcases List.mem_cons.mp m2 with d | d
        · exact d.symm
        · have := a1 y d
          have := b1 x c
          omega
    subst e
    rw [sorted_one (List.perm_cons x |>.mp h) a2 b2]
/-- homes of a moved hand: the homes moved, brought home, in order -/
theorem homes_moved {L b : Int} (hL : 0 < L) {f f' : Int → Int} (F' : Hand L f') (hf : ∀ x, f' x = f (x - b) + b) (F : Hand L f) {Y Y' : Int → Prop} {hs hs' : List Int} (HH : Homes L f Y hs) (HH' : Homes L f' Y' hs') : (hs.map fun h => (h + b) % L).Perm hs' := by
  have nd : (hs.map fun h => (h + b) % L).Nodup := by
    rw [List.Nodup, List.pairwise_map]
    refine HH.rise.imp_of_mem fun {h h'} hm hm' hlt e => ?_
    have a1 := (HH.mem h).mp hm
    have a2 := (HH.mem h').mp hm'
    have e2 := same_mod e
    generalize (h + b) / L - (h' + b) / L = k at e2
    rcases Int.lt_trichotomy k 0 with c | c | c
    · have : k * L ≤ (-1) * L := Int.mul_le_mul_of_nonneg_right (by omega) (by omega)
      omega
    · rw [c] at e2; omega
    · have : 1 * L ≤ k * L := Int.mul_le_mul_of_nonneg_right (by omega) (by omega)
      omega
  refine (List.perm_ext_iff_of_nodup nd (rise_nodup HH'.rise)).mpr fun z => ?_
  rw [HH'.mem, List.mem_map]
  constructor
  · rintro ⟨h, hm, rfl⟩
    obtain ⟨_, _, hp⟩ := (HH.mem h).mp hm
    refine ⟨Int.emod_nonneg _ (by omega), Int.emod_lt_of_pos _ hL, ?_⟩
    have h1 : Per L f' (h + b) := (per_moved hf).mpr (by rw [show h + b - b = h by omega]; exact hp)
    exact h1.mod F' (Int.emod_emod_of_dvd _ (Int.dvd_refl L)).symm
  · rintro ⟨z0, z1, hp⟩
    have h1 := (per_moved hf).mp hp
    refine ⟨(z - b) % L, (HH.mem _).mpr ⟨Int.emod_nonneg _ (by omega), Int.emod_lt_of_pos _ hL, h1.mod F (Int.emod_emod_of_dvd _ (Int.dvd_refl L)).symm⟩, ?_⟩
    have q := Int.mul_ediv_add_emod (z - b) L
    have e : (z - b) % L + b = z + (-((z - b) / L)) * L := by rw [Int.neg_mul, Int.mul_comm]; omega
    rw [e, Int.add_mul_emod_self_right, Int.emod_eq_of_lt z0 z1]
/-- the gates of a moved hand are as long -/
theorem lens_moved {L b : Int} (hL : 0 < L) {f f' : Int → Int} (F' : Hand L f') (hf : ∀ x, f' x = f (x - b) + b) (F : Hand L f) {pr : Pr} {Y Y' : Int → Prop} {hs hs' : List Int} {u u' : Int → Int} (HH : Homes L f Y hs) (HH' : Homes L f' Y' hs') (h1 : ∀ h ∈ hs, GateAt L f pr (u h) h) (h2 : ∀ h ∈ hs', GateAt L f' pr (u' h) h) : (hs.map fun h => h - u h).Perm (hs'.map fun h => h - u' h) := by
  have p := (homes_moved hL F' hf F HH HH').map fun h => h - u' h
  rw [List.map_map] at p
  have e : (hs.map fun h => h - u h) = hs.map ((fun h => h - u' h) ∘ fun h => (h + b) % L) := by
    refine List.map_congr_left fun h hm => ?_
    show h - u h = (h + b) % L - u' ((h + b) % L)
    have G1 := (gate_moved hf (h1 h hm)).shift F' (-((h + b) / L))
    have q := Int.mul_ediv_add_emod (h + b) L
    have e1 : h + b + (-((h + b) / L)) * L = (h + b) % L := by rw [Int.neg_mul, Int.mul_comm]; omega
    rw [e1] at G1
    have hm' : (h + b) % L ∈ hs' := (homes_moved hL F' hf F HH HH').mem_iff.mp (List.mem_map.mpr ⟨h, hm, rfl⟩)
    have e2 := (h2 _ hm').one G1
    rw [e2, ← e1]
    omega
  rw [e]; exact p
/-- back by a hand drawn out, by a moved one -/
theorem back_scaled {L t : Int} (hL : 0 < L) (ht : 0 < t) {ss qs : List Pr} (h0 : 0 < ss.length) (h1 : 0 < qs.length) (hf : ∀ x, ld (L * t) qs x = ld L ss (x / t) * t) (y r : Int) (r0 : 0 ≤ r) (r1 : r < t) : bkf (L * t) qs (y * t - r) = bkf L ss y * t := by
  have hLt : 0 < L * t := Int.mul_pos hL ht
  have key : ∀ x, bkf (L * t) qs (y * t - r) ≤ x ↔ bkf L ss y * t ≤ x := fun x => by
    rw [← bkf_gal hLt h1, hf]
    have g := bkf_gal hL h0 (x / t) y
    have q := Int.mul_ediv_add_emod x t
    have q0 := Int.emod_nonneg x (show t ≠ 0 by omega)
    have q1 := Int.emod_lt_of_pos x ht
    have a : y * t - r ≤ ld L ss (x / t) * t ↔ y ≤ ld L ss (x / t) := by
      constructor
      · intro h
        by_cases c : y ≤ ld L ss (x / t)
        · exact c
        · have : (ld L ss (x / t) + 1) * t ≤ y * t := (mul_pos_le ht).mpr (by omega)
          rw [Int.add_mul] at this
          omega
      · intro h
        have : y * t ≤ ld L ss (x / t) * t := (mul_pos_le ht).mpr h
        omega
    have b : bkf L ss y ≤ x / t ↔ bkf L ss y * t ≤ x := by
      rw [Int.mul_comm] at q
      constructor
      · intro h
        have : bkf L ss y * t ≤ x / t * t := (mul_pos_le ht).mpr h
        omega
      · intro h
        by_cases c : bkf L ss y ≤ x / t
        · exact c
        · have : (x / t + 1) * t ≤ bkf L ss y * t := (mul_pos_le ht).mpr (by omega)
          rw [Int.add_mul] at this
          omega
    rw [a, g, b]
  have h2 := (key (bkf (L * t) qs (y * t - r))).mp (Int.le_refl _)
  have h3 := (key (bkf L ss y * t)).mpr (Int.le_refl _)
  omega
theorem back_moved {L b : Int} (hL : 0 < L) {ss qs : List Pr} (h0 : 0 < ss.length) (h1 : 0 < qs.length) (hf : ∀ x, ld L qs x = ld L ss (x - b) + b) (y : Int) : bkf L qs (y + b) = bkf L ss y + b := by
  have key : ∀ x, bkf L qs (y + b) ≤ x ↔ bkf L ss y + b ≤ x := fun x => by
    rw [← bkf_gal hL h1, hf]
    have g := bkf_gal hL h0 (x - b) y
    omega
  have h2 := (key (bkf L qs (y + b))).mp (Int.le_refl _)
  have h3 := (key (bkf L ss y + b)).mpr (Int.le_refl _)
  omega
end KA
namespace KA
open PySem PySem.Spec PyProof.Rows L2 DP
theorem at_ints {hs : List Int} {i : Nat} {y : V} (h : (hs.map V.int)[i]? = some y) : ∃ z, hs[i]? = some z ∧ y = V.int z := by
  rw [List.getElem?_map] at h
  cases c : hs[i]? with
  | none => rw [c] at h; cases h
  | some z => rw [c] at h; exact ⟨z, rfl, (Option.some.inj h).symm⟩
theorem shaped_enc1 (l : Pr) : SeqAt.shaped (encP l) = true := by
  unfold SeqAt.shaped
  simp [encP, PyData.canLay0, PyData.canLayAll0, PyData.depth, PyData.depthAll]
theorem all_pairs2 (ps : List Pr) : PyData.canLayAll0 (ps.map encP) = true ∧ PyData.depthAll (ps.map encP) ≤ 1 := by
  induction ps with
  | nil => exact ⟨rfl, by simp [PyData.depthAll]⟩
  | cons x ps ih =>
    rw [List.map_cons]
    refine ⟨?_, ?_⟩
    · rw [PyData.canLayAll0, ih.1]; rfl
    · rw [PyData.depthAll]
      have : (encP x).depth = 1 := by simp [encP, PyData.depth, PyData.depthAll]
      have := ih.2
      omega
theorem shaped_prs2 (ps : List Pr) : SeqAt.shaped (.list (ps.map encP)) = true := by
  unfold SeqAt.shaped
  have := (all_pairs2 ps).2
  rw [PyData.canLay0, (all_pairs2 ps).1, PyData.depth]
  simp; omega
def uD : Option Nat → PyData
  | none => .none
  | some n => .int (n : Int)
theorem dp_uV {K : PySem.W.Frag} {H : Hp} : ∀ r : Option Nat, Dp K H (uV r) (uD r)
  | none => .non
  | some n => .int _
theorem shaped_uD : ∀ r, SeqAt.shaped (uD r) = true
  | none => rfl
  | some _ => rfl
theorem IsReach.conv {f f' : Nat → Option Int} {y y' : Int} (h : ∀ n, (∀ m, f n = some m → m < y) ↔ (∀ m, f' n = some m → m < y')) (h2 : ∀ n, (∃ m, f n = some m) ∧ (∃ m, f' n = some m)) : ∀ {r : Option Nat}, IsReach f y r → IsReach f' y' r
  | none, hr => fun k m hm => (h k).mp (fun m' hm' => hr k m' hm') m hm
  | some n, ⟨⟨m, e, h1⟩, h3⟩ => by
    obtain ⟨_, m', e'⟩ := h2 n
    refine ⟨⟨m', e', ?_⟩, fun k hk m2 hm2 => (h k).mp (fun m3 hm3 => h3 k hk m3 hm3) m2 hm2⟩
    by_cases c : y' ≤ m'
    · exact c
    · exfalso
      have := (h n).mpr (fun m2 hm2 => by rw [e'] at hm2; have := Option.some.inj hm2; omega) m e
      omega
def spBroad (Z : Ad) (K : PySem.W.Frag) : Sp := fun vs H Q _ => ∃ (t g h d b h2 d2 b2 : Addr) (n : Nat) (L ti : Int) (ss : List Pr), vs = [.ref t, .int L, .ref h, .ref h2, .int ti] ∧ Tray H t g n ∧ n < 2 ^ 40 ∧ 0 < L ∧ L.natAbs < 2 ^ 40 ∧ 0 < ti ∧ ti.natAbs < 2 ^ 70 ∧ HAt Z K H h d b L ss t g ∧ HAt Z K H h2 d2 b2 (L * ti) (ss.map (scP ti)) t g ∧ 0 < ss.length ∧ ss.length ≤ 28 ∧ (∀ s ∈ ss, SzP 112 s) ∧ ∀ H', Tray H' t g (n + 1600) → Keep t g H H' → Q (.bl true) H'
def spMoved (Z : Ad) (K : PySem.W.Frag) : Sp := fun vs H Q _ => ∃ (t g h d b h2 d2 b2 : Addr) (n : Nat) (L by' : Int) (ss : List Pr), vs = [.ref t, .int L, .ref h, .ref h2, .int by'] ∧ Tray H t g n ∧ n < 2 ^ 40 ∧ 0 < L ∧ L.natAbs < 2 ^ 40 ∧ by'.natAbs < 2 ^ 90 ∧ HAt Z K H h d b L ss t g ∧ HAt Z K H h2 d2 b2 L (ss.map (mvP by')) t g ∧ 0 < ss.length ∧ ss.length ≤ 28 ∧ (∀ s ∈ ss, SzP 112 s) ∧ ∀ H', Tray H' t g (n + 400) → Keep t g H H' → Q (.bl true) H'
def spLaw (K : PySem.W.Frag) : Sp := fun vs H Q _ => ∃ (a : Addr) (ns : List Int), vs = [.ref a] ∧ SqL K H a (ns.map V.int) ∧ ns.length ≤ 63 ∧ ∀ H', Q (.bl true) H'
theorem far_gone {L : Int} (hL : 0 < L) (hLb : L.natAbs < 2 ^ 40) {ss : List Pr} (h0 : 0 < ss.length) (hsz : ∀ s ∈ ss, SzP 112 s) {x : Int} {m : Nat} (hx : x.natAbs < 2 ^ 200) (hm : m < 2 ^ 100) : (gone L ss x m).natAbs < 2 ^ 340 := by
  have h1 := gone_by hL h0 hsz x m
  have h2 : m * (2 ^ 113 + L.natAbs) ≤ 2 ^ 100 * (2 ^ 113 + 2 ^ 40) := Nat.mul_le_mul (by omega) (by omega)
  have h3 : 2 ^ 100 * (2 ^ 113 + 2 ^ 40) + 2 ^ 200 < 2 ^ 340 := by decide
  have h1' : (gone L ss x m - x).natAbs ≤ m * (2 ^ 113 + L.natAbs) := h1
  generalize m * (2 ^ 113 + L.natAbs) = X at h1' h2
  generalize 2 ^ 100 * (2 ^ 113 + 2 ^ 40) = Y at h2 h3
  generalize (2 : Nat) ^ 340 = W at h3 ⊢
  generalize (2 : Nat) ^ 200 = W' at h3 hx
  omega
section
variable {P : Program} {w : World} {K : PySem.W.Frag} {mg : Str → Option Value} {base : Heap} {Z : Ad}
theorem ok_law_broad_right (T : Tx K w mg Z) : FnOk P w K mg base CX0 11 Z.a_law_broad_right Z.d_law_broad_right P_law_broad_right (spBroad Z K) := by
  refine T.F_law_broad_right.ok sclaw_broad_right (fun vs H Q E h => ?_) (fun cdv A outer s H vs Q E hr h => ?_)
  · obtain ⟨t, g, h, d, b, h2, d2, b2, n, L, ti, ss, rfl, _⟩ := h
    rfl
  · obtain ⟨t, g, h, d, b, h2, d2, b2, n, L, ti, ss, rfl, T0, hn, hL, hLb, ht, htb, hA, hB, h0, h28, hsz, k⟩ := h
    have hLt : 0 < L * ti := Int.mul_pos hL ht
    have hLtb : (L * ti).natAbs < 2 ^ 110 := by rw [Int.natAbs_mul]; exact Nat.mul_lt_mul'' hLb htb |> fun e => Nat.lt_of_lt_of_le e (by decide)
    have hLb2 : L.natAbs < 2 ^ 200 := lt_up hLb (by decide)
    have q0 : 0 < (ss.map (scP ti)).length := by rw [List.length_map]; exact h0
    have q28 : (ss.map (scP ti)).length ≤ 28 := by rw [List.length_map]; exact h28
    have hf := scaled_ld (L := L) ht h0
    have ss2 : ∀ s ∈ ss, SzP 200 s := fun s hs => ⟨lt_up (hsz s hs).1 (by decide), lt_up (hsz s hs).2 (by decide)⟩
    have qs2 : ∀ s ∈ ss.map (scP ti), SzP 200 s := fun s hs => by
      obtain ⟨s0, hs0, rfl⟩ := List.mem_map.mp hs
      have e := hsz s0 hs0
      refine ⟨?_, ?_⟩
      · show (s0.1 * ti).natAbs < _
        rw [Int.natAbs_mul]; exact Nat.lt_of_lt_of_le (Nat.mul_lt_mul'' e.1 htb) (by decide)
      · show (s0.2 * ti).natAbs < _
        rw [Int.natAbs_mul]; exact Nat.lt_of_lt_of_le (Nat.mul_lt_mul'' e.2 htb) (by decide)
    have F := ld_hand hL h0
    have F' := ld_hand hLt q0
    have hb : ∀ m, m ≤ n + 1600 → m < 2 ^ 59 := fun m hm => Nat.lt_of_le_of_lt hm (Nat.lt_of_lt_of_le (Nat.add_lt_add_right hn 1600) (by decide))
    have hb60 : ∀ m, m ≤ n + 1600 → m < 2 ^ 60 := fun m hm => Nat.lt_trans (hb m hm) (by decide)
    generalize hqs : ss.map (scP ti) = qs at hB q0 q28 hf qs2 F'
    obtain ⟨dx, gh⟩ := hA.A.ex
    obtain ⟨dy, gg⟩ := hB.A.ex
    refine ⟨_, (C8.pss_cut (ps_if (PW.pt (pw_or (pt_cmpR (neDK (K := K) hr.units) (pe_meth0 (pv 3) T.cl_Hand T.m_Hand_pace (ok_Hand_pace T) (hr.mono (by decide)) T.bb_Hand_pace .nil pass0) (pe_meth0 (pv 2) T.cl_Hand T.m_Hand_pace (ok_Hand_pace T) (hr.mono (by decide)) T.bb_Hand_pace .nil pass0) (nomark _)) (pw_or1 (pt_cmpR (neDK (K := K) hr.units) (pe_meth0 (pv 3) T.cl_Hand T.m_Hand_homes (ok_Hand_homes T) (hr.mono (by decide)) T.bb_Hand_homes .nil pass0) (pe_lc (own := [("home", 5)]) (g := gName 5) (tt := tYes) rfl sclaw_broad_right.nd (pi_list (pe_meth0 (pv 2) T.cl_Hand T.m_Hand_homes (ok_Hand_homes T) (hr.mono (by decide)) T.bb_Hand_homes .nil pass0)) (blkOk_by (own := [("home", 5)]) (N := N_law_broad_right) (sc := defScope slaw_broad_right) (by decide +kernel)) (fun _ _ _ _ _ => (pg_name (i := 5) sclaw_broad_right.nd rfl (Or.inl rfl))) (fun _ _ _ _ _ => pts_nil) (fun _ _ _ _ _ => (pe_op op_mulW (pv 5) (pv 4)))) (nomark _))))) (pss_one (ps_ret pe_bl)) pss_nil)
      (C8.pss_cut (ps_if (pt_cmpR (neDK (K := K) hr.units) (pe_meth0 (pv 3) T.cl_Hand T.m_Hand_gates (ok_Hand_gates T) (hr.mono (by decide)) T.bb_Hand_gates .nil pass0) (pe_lc (own := [("begun", 6), ("home", 5)]) (g := gTup K 2 (gCons (gName 6) (gCons (gName 5) gNil))) (tt := tYes) rfl sclaw_broad_right.nd (pi_list (pe_meth0 (pv 2) T.cl_Hand T.m_Hand_gates (ok_Hand_gates T) (hr.mono (by decide)) T.bb_Hand_gates .nil pass0)) (blkOk_by (own := [("begun", 6), ("home", 5)]) (N := N_law_broad_right) (sc := defScope slaw_broad_right) (by decide +kernel)) (fun _ _ _ _ _ => (tupK (K := K) (by rfl) (pgs_cons (pg_name (i := 6) sclaw_broad_right.nd rfl (Or.inl rfl)) (pgs_cons (pg_name (i := 5) sclaw_broad_right.nd rfl (Or.inl rfl)) pgs_nil)))) (fun _ _ _ _ _ => pts_nil) (fun _ _ _ _ _ => (pe_tup (pa_cons (pe_op op_mulW (pv 6) (pv 4)) (pa_cons (pe_op op_mulW (pv 5) (pv 4)) pa_nil))))) (nomark _)) (pss_one (ps_ret pe_bl)) pss_nil)
      (pss_cons (ps_for PassesOwn.never rfl (pi_range1 (by rfl) T.b_range (pa_cons pe_int pa_nil)) (pg_name (i := 7) sclaw_broad_right.nd rfl (Or.inl rfl)) (C8.pss_cut (ps_set (i := 8) sclaw_broad_right.nd rfl (Or.inl rfl) (pe_op op_sub (pe_call (ok_law_below T) (hr.mono (by decide)) (by rfl) T.g_law_below T.F_law_below.kp T.bb_law_below .nil pass0 (pa_cons (pv 0) (pa_cons (pe_op op_mulW pe_int (pv 1)) pa_nil))) (pe_op op_mulW pe_int (pv 1))))
      (C8.pss_cut (ps_set (i := 9) sclaw_broad_right.nd rfl (Or.inl rfl) (pe_op op_sub (pe_op op_add (pv 8) (pe_call (ok_law_below T) (hr.mono (by decide)) (by rfl) T.g_law_below T.F_law_below.kp T.bb_law_below .nil pass0 (pa_cons (pv 0) (pa_cons (pe_op op_mulW pe_int (pv 1)) pa_nil)))) (pv 1)))
      (pss_cons (ps_set (i := 10) sclaw_broad_right.nd rfl (Or.inl rfl) (pe_call (ok_law_below T) (hr.mono (by decide)) (by rfl) T.g_law_below T.F_law_below.kp T.bb_law_below .nil pass0 (pa_cons (pv 0) (pa_cons (pv 4) pa_nil))))
      (C8.pss_cut (ps_set (i := 11) sclaw_broad_right.nd rfl (Or.inl rfl) (pe_op op_add pe_int (pe_ix (ixL (K := K)) (pe_lst (pa_cons (pe_call (ok_law_take T) (hr.mono (by decide)) (by rfl) T.g_law_take T.F_law_take.kp T.bb_law_take .nil pass0 (pa_cons (pv 0) (pa_cons pe_int pa_nil))) (pa_cons (pe_call (ok_law_below T) (hr.mono (by decide)) (by rfl) T.g_law_below T.F_law_below.kp T.bb_law_below .nil pass0 (pa_cons (pv 0) (pa_cons (pe_op op_pow pe_int pe_int) pa_nil))) pa_nil))) (pe_call (ok_law_take T) (hr.mono (by decide)) (by rfl) T.g_law_take T.F_law_take.kp T.bb_law_take .nil pass0 (pa_cons (pv 0) (pa_cons pe_int pa_nil))) (fun _ _ => rfl))))
      (C8.pss_cut (ps_if (pt_cmpR op_ne (pe_meth (pv 3) T.cl_Hand T.m_Hand_lead (ok_Hand_lead T) (hr.mono (by decide)) T.bb_Hand_lead .nil pass0 (pa_cons (pe_op op_add (pe_op op_mulW (pv 8) (pv 4)) (pv 10)) (pa_cons (pv 11) pa_nil))) (pe_op op_mulW (pe_meth (pv 2) T.cl_Hand T.m_Hand_lead (ok_Hand_lead T) (hr.mono (by decide)) T.bb_Hand_lead .nil pass0 (pa_cons (pv 8) (pa_cons (pv 11) pa_nil))) (pv 4)) (nomark _)) (pss_one (ps_ret pe_bl)) pss_nil)
      (C8.pss_cut (ps_if (pt_cmpR op_ne (pe_meth (pv 3) T.cl_Hand T.m_Hand_back (ok_Hand_back T) (hr.mono (by decide)) T.bb_Hand_back .nil pass0 (pa_cons (pe_op op_sub (pe_op op_mulW (pv 8) (pv 4)) (pv 10)) pa_nil)) (pe_op op_mulW (pe_meth (pv 2) T.cl_Hand T.m_Hand_back (ok_Hand_back T) (hr.mono (by decide)) T.bb_Hand_back .nil pass0 (pa_cons (pv 8) pa_nil)) (pv 4)) (nomark _)) (pss_one (ps_ret pe_bl)) pss_nil)
      (pss_one (ps_if (pt_cmpR (neDK (K := K) hr.units) (pe_meth (pv 3) T.cl_Hand T.m_Hand_uses (ok_Hand_uses T) (hr.mono (by decide)) T.bb_Hand_uses .nil pass0 (pa_cons (pe_op op_mulW (pv 8) (pv 4)) (pa_cons (pe_op op_sub (pe_op op_mulW (pv 9) (pv 4)) (pe_op op_mulW (pv 10) (pe_callTy call_int1 (by rfl) T.b_int (by decide +kernel) (pa_cons (pe_cmpR op_gt (pv 9) (pv 8) (nomark _)) pa_nil)))) pa_nil))) (pe_meth (pv 2) T.cl_Hand T.m_Hand_uses (ok_Hand_uses T) (hr.mono (by decide)) T.bb_Hand_uses .nil pass0 (pa_cons (pv 8) (pa_cons (pv 9) pa_nil))) (nomark _)) (pss_one (ps_ret pe_bl)) pss_nil)))))))))
      (pss_one (ps_ret pe_bl))))), ?_⟩
    -- paces, homes
    refine ⟨fun σ' H' => σ' = [some (.ref t), some (.int L), some (.ref h), some (.ref h2), some (.int ti), none, none, none, none, none, none, none] ∧ Same H H', ?_, ?_⟩
    · refine ⟨_, rfl, h2, dy, _, rfl, gg, hf_no d2 b2 (m := "pace") (by decide +kernel) (by decide +kernel), h2, d2, b2, L * ti, qs, rfl, hB.A, q0, fun H1 r1 pr1 S1 hr1 P1 _ => ?_⟩
      refine ⟨_, rfl, h, dx, _, rfl, S1 _ _ gh, hf_no d b (m := "pace") (by decide +kernel) (by decide +kernel), h, d, b, L, ss, rfl, hA.A.same S1, h0, fun H2 r2 pr2 S2 hr2 P2 _ => ?_⟩
      obtain rfl := P1.one hLt F' (pace_scaled ht hf P2)
      refine ⟨_, _, dp_mono S2 _ _ hr1, hr2, shaped_enc1 _, shaped_enc1 _, _, rfl, ?_⟩
      rw [SeqAt.eqv_refl _ (SeqAt.canLay_of_shaped (shaped_enc1 _))]
      refine iteF ?_
      have S12 := S1.trans S2
      refine ⟨_, rfl, h2, dy, _, rfl, S12 _ _ gg, hf_no d2 b2 (m := "homes") (by decide +kernel) (by decide +kernel), h2, d2, b2, L * ti, qs, rfl, hB.A.same S12, q0, fun p1 hs1 H3 _ S3 g1 HM1 _ => ?_⟩
      have S13 := S12.trans S3
      refine ⟨_, rfl, h, dx, _, rfl, S13 _ _ gh, hf_no d b (m := "homes") (by decide +kernel) (by decide +kernel), h, d, b, L, ss, rfl, hA.A.same S13, h0, fun p2 hs2 H4 _ S4 g2 HM2 hl2 => ⟨p2, rfl, ⟨_, SqL.of g2⟩, fun D hD => ?_⟩⟩
      refine lc_list (K := K) (a := p2) (xs := hs2.map V.int) (fun i' H' => Same H4 H' ∧ H' D = some (.lst (((hs2.take i').map (· * ti)).map V.int))) ⟨same_upd hD, upd_same⟩ (fun i' H' _ ⟨S, _⟩ => SqL.of (S _ _ g2)) ?_ ?_
      · rintro i' y H5 hi' ⟨S5, gD⟩
        obtain ⟨z, hz, rfl⟩ := at_ints hi'
        have hi2 := (List.getElem?_eq_some_iff.mp hz).1
        have hz' := (HM2.mem z).mp (List.mem_of_getElem? hz)
        refine ⟨rfl, yes_ite ?_⟩
        refine ⟨_, rfl, _, rfl, _, _, rfl, rfl, wide_mul (a := 40) (Nat.lt_of_le_of_lt (by omega : z.natAbs ≤ L.natAbs) hLb) htb (by decide) (by decide) (by decide), _, gD, small1000 (by simp; omega), same_set S5 hD, ?_⟩
        rw [take_snoc hz, List.map_append, List.map_append]
        exact upd_same
      rintro H5 ⟨S5, gD⟩
      rw [List.take_of_length_le (by simp)] at gD
      obtain rfl : hs1 = hs2.map (· * ti) := HM1.same (homes_scaled hL ht hf HM2)
      refine ⟨_, _, .lst (SqL.of ((S4.trans S5) _ _ g1)) (dpAll_ints _), .lst (SqL.of gD) (dpAll_ints _), shaped_ints _, shaped_ints _, _, rfl, ?_⟩
      rw [SeqAt.eqv_refl _ (SeqAt.canLay_of_shaped (shaped_ints _))]
      exact iteF ⟨rfl, (S13.trans S4).trans S5⟩
    rintro σ1 H1 ⟨rfl, S1⟩
    have hA1 := hA.same S1
    have hB1 := hB.same S1
    have T1 := T0.same S1
    -- gates
    refine ⟨fun σ' H' => σ' = [some (.ref t), some (.int L), some (.ref h), some (.ref h2), some (.int ti), none, none, none, none, none, none, none] ∧ Same H1 H', ?_, ?_⟩
    · refine ⟨_, rfl, h2, dy, _, rfl, S1 _ _ gg, hf_no d2 b2 (m := "gates") (by decide +kernel) (by decide +kernel), h2, d2, b2, L * ti, qs, 200, rfl, hB1.A, q0, q28, lt_up hLtb (by decide), by decide, by decide, qs2, fun p1 xs1 H2 hs1 bs1 _ S2 g1 dp1 HM1 HB1 _ => ?_⟩
      refine ⟨_, rfl, h, dx, _, rfl, S2 _ _ (S1 _ _ gh), hf_no d b (m := "gates") (by decide +kernel) (by decide +kernel), h, d, b, L, ss, 200, rfl, hA1.A.same S2, h0, h28, hLb2, by decide, by decide, ss2, fun p2 xs2 H3 hs2 bs2 _ S3 g2 dp2 HM2 HB2 hl2 => ⟨p2, rfl, ⟨_, SqL.of g2⟩, fun D hD => ?_⟩⟩
      obtain ⟨pr, PO⟩ := pace_ex hL h0
      have PO' := pace_scaled ht hf PO
      have xl : xs2.length = (gatesOf L bs2 hs2).length := by rw [dpAll_len dp2, List.length_map]
      have gl : (gatesOf L bs2 hs2).length ≤ 60 := by unfold gatesOf; rw [List.length_map]; exact hl2
      have gsz : ∀ p ∈ gatesOf L bs2 hs2, SzP 42 p := fun p hp => by
        obtain ⟨z, hz, rfl⟩ := List.mem_map.mp hp
        have Gz := gate_at hL F (bkf_hand hL h0) (bkf_adj hL h0) PO (bk_pace hL h0 PO) HM2 HB2 hz
        have hz' := (HM2.mem z).mp hz
        have h1 := Gz.le
        have h2 := Gz.far
        exact ⟨lt_up (m := 40) (Nat.lt_of_le_of_lt (by show (gateB L bs2 z).natAbs ≤ L.natAbs; omega) hLb) (by decide), lt_up (m := 40) (Nat.lt_of_le_of_lt (by show z.natAbs ≤ L.natAbs; omega) hLb) (by decide)⟩
      obtain rfl : hs1 = hs2.map (· * ti) := HM1.same (homes_scaled hL ht hf HM2)
      have eg : gatesOf (L * ti) bs1 (hs2.map (· * ti)) = (gatesOf L bs2 hs2).map fun p => (p.1 * ti, p.2 * ti) := by
        refine gates_eq (f' := ld (L * ti) qs) (pr := pr) (· * ti) (fun z hz => gate_at hLt F' (bkf_hand hLt q0) (bkf_adj hLt q0) PO' (bk_pace hLt q0 PO') HM1 HB1 (List.mem_map.mpr ⟨z, hz, rfl⟩)) (fun z hz => ?_)
        exact gate_scaled ht hf PO.pos (gate_at hL F (bkf_hand hL h0) (bkf_adj hL h0) PO (bk_pace hL h0 PO) HM2 HB2 hz)
      rw [eg] at dp1
      generalize gatesOf L bs2 hs2 = gs at dp1 dp2 xl gl gsz
      refine lc_list (K := K) (a := p2) (xs := xs2) (fun i' H' => Same H3 H' ∧ ∃ ys, H' D = some (.lst ys) ∧ ys.length = i' ∧ DpAll K H' ys (((gs.take i').map fun p => ((p.1 * ti, p.2 * ti) : Pr)).map encP)) ⟨same_upd hD, [], upd_same, rfl, .nil⟩ (fun i' H' _ ⟨S, _⟩ => SqL.of (S _ _ g2)) ?_ ?_
      · rintro i' y H4 hi' ⟨S4, ys, gD, hyl, hyd⟩
        obtain ⟨dd, hdi, hdy⟩ := dpAll_get dp2 hi'
        obtain ⟨s', hs', rfl⟩ := map_at hdi
        have hi2 := (List.getElem?_eq_some_iff.mp hs').1
        have es := gsz s' (List.mem_of_getElem? hs')
        obtain ⟨p', rfl, hp'⟩ := dp_pair (dp_mono S4 _ _ hdy)
        refine ⟨_, _, rfl, hp', rfl, _, _, rfl, _, _, rfl, rfl, rfl, yes_ite ?_⟩
        refine ⟨_, rfl, _, rfl, _, _, rfl, rfl, wide_mul es.1 htb (by decide) (by decide) (by decide), _, rfl, _, rfl, _, _, rfl, rfl, wide_mul es.2 htb (by decide) (by decide) (by decide), (by show 2 ≤ sizeLine; decide), fun q' hq' => ?_⟩
        have Sq := same_upd (o := HO.tup [V.int (s'.1 * ti), .int (s'.2 * ti)]) hq'
        refine ⟨ys, Sq _ _ gD, small1000 (by omega), same_set (S4.trans Sq) hD, _, upd_same, by simp [hyl], ?_⟩
        rw [take_snoc hs', List.map_append, List.map_append]
        exact acc_step (Sq _ _ gD) (noLs_map noL_encP _) rfl (dpAll_mono Sq _ _ hyd) (.tup (SqT.of upd_same) (.cons (.int _) (.cons (.int _) .nil)))
      rintro H4 ⟨S4, ys, gD, hyl, hyd⟩
      rw [List.take_of_length_le (by omega)] at hyd
      refine ⟨_, _, .lst (SqL.of ((S3.trans S4) _ _ g1)) (dpAll_mono (S3.trans S4) _ _ dp1), .lst (SqL.of gD) hyd, shaped_prs2 _, shaped_prs2 _, _, rfl, ?_⟩
      rw [SeqAt.eqv_refl _ (SeqAt.canLay_of_shaped (shaped_prs2 _))]
      exact iteF ⟨rfl, (S2.trans S3).trans S4⟩
    rintro σ2 H2 ⟨rfl, S2⟩
    have hA2 := hA1.same S2
    have hB2 := hB1.same S2
    have T2 := T1.same S2
    have A2 : At H H2 t g n := ⟨T2, Keep.of_same (S1.trans S2)⟩
    -- four times
    have nl := hf_no d b (m := "lead") (by decide +kernel) (by decide +kernel)
    have nb := hf_no d b (m := "back") (by decide +kernel) (by decide +kernel)
    have nu := hf_no d b (m := "uses") (by decide +kernel) (by decide +kernel)
    have nl2 := hf_no d2 b2 (m := "lead") (by decide +kernel) (by decide +kernel)
    have nb2 := hf_no d2 b2 (m := "back") (by decide +kernel) (by decide +kernel)
    have nu2 := hf_no d2 b2 (m := "uses") (by decide +kernel) (by decide +kernel)
    have b4 : (4 * L).natAbs < 2 ^ 43 := by rw [Int.natAbs_mul]; exact Nat.lt_of_lt_of_le (Nat.mul_lt_mul_of_le_of_lt (Nat.le_refl 4) hLb (by decide)) (by decide)
    have b3 : (3 * L).natAbs < 2 ^ 43 := by rw [Int.natAbs_mul]; exact Nat.lt_of_lt_of_le (Nat.mul_lt_mul_of_le_of_lt (Nat.le_refl 3) hLb (by decide)) (by decide)
    refine ⟨4, rfl, by decide, by decide, ?_⟩
    refine for_range (n := 4) (fun j σ' H' => ∃ (u7 u8 u9 u10 u11 : Option V), σ' = [some (.ref t), some (.int L), some (.ref h), some (.ref h2), some (.int ti), none, none, u7, u8, u9, u10, u11] ∧ At H H' t g (n + 400 * j)) ⟨_, _, _, _, _, rfl, A2⟩ ?_ ?_
    rotate_left
    · rintro σ' H3 ⟨u7, u8, u9, u10, u11, rfl, A3⟩
      exact k H3 (A3.T.up (by omega)) A3.k
    rintro j σ' H3 hj ⟨u7, u8, u9, u10, u11, rfl, A3⟩
    -- spot
    refine ⟨fun σ' H' => ∃ sp : Int, σ' = [some (.ref t), some (.int L), some (.ref h), some (.ref h2), some (.int ti), none, none, some (.int (0 + (j : Nat))), some (.int sp), u9, u10, u11] ∧ sp.natAbs < 2 ^ 43 ∧ At H H' t g (n + 400 * j + 60), ?_, ?_⟩
    · refine ⟨_, rfl, _, rfl, _, _, rfl, rfl, wide_mul (a := 10) (by decide) hLb (by decide) (by decide) (by decide), t, g, n + 400 * j, 4 * L, rfl, A3.T, by omega, lt_up b4 (by decide), hb _ (by omega), fun H4 s s0 s1 T4 k4 => ?_⟩
      refine ⟨_, rfl, _, _, rfl, rfl, wide_mul (a := 10) (by decide) hLb (by decide) (by decide) (by decide), _, _, rfl, rfl, ?_⟩
      exact ⟨s - 2 * L, rfl, Nat.lt_of_le_of_lt (by clear hLb hLb2 b3 hLtb; omega) b4, A3.step T4 k4⟩
    rintro σ4 H4 ⟨sp, rfl, spb, A4⟩
    -- goal
    refine ⟨fun σ' H' => ∃ go : Int, σ' = [some (.ref t), some (.int L), some (.ref h), some (.ref h2), some (.int ti), none, none, some (.int (0 + (j : Nat))), some (.int sp), some (.int go), u10, u11] ∧ go.natAbs < 2 ^ 45 ∧ At H H' t g (n + 400 * j + 120), ?_, ?_⟩
    · refine ⟨_, rfl, _, rfl, _, rfl, _, _, rfl, rfl, wide_mul (a := 10) (by decide) hLb (by decide) (by decide) (by decide), t, g, n + 400 * j + 60, 3 * L, rfl, A4.T, by omega, lt_up b3 (by decide), hb _ (by omega), fun H5 s s0 s1 T5 k5 => ?_⟩
      refine ⟨_, _, rfl, rfl, _, rfl, _, _, rfl, rfl, ?_⟩
      refine ⟨sp + s - L, rfl, ?_, A4.step T5 k5⟩
      have e1 : (2 : Nat) ^ 45 = 2 ^ 43 * 4 := by decide
      rw [e1]
      clear hLtb hLb2
      omega
    rintro σ5 H5 ⟨go, rfl, gob, A5⟩
    -- rest
    refine ⟨_, rfl, _, rfl, t, g, n + 400 * j + 120, ti, rfl, A5.T, ht, lt_up htb (by decide), hb _ (by omega), fun H6 re re0 re1 T6 k6 => ?_⟩
    have A6 := A5.step T6 k6
    have reb : re.natAbs < 2 ^ 70 := by omega
    -- many
    refine ⟨fun σ' H' => ∃ m : Nat, σ' = [some (.ref t), some (.int L), some (.ref h), some (.ref h2), some (.int ti), none, none, some (.int (0 + (j : Nat))), some (.int sp), some (.int go), some (.int re), some (.int ((m + 1 : Nat) : Int))] ∧ m + 1 < 2 ^ 95 ∧ At H H' t g (n + 400 * j + 242), ?_, ?_⟩
    · refine ⟨_, rfl, t, g, n + 400 * j + 180, 60, rfl, A6.T, by decide, by decide, hb60 _ (by omega), fun H7 m1 m10 m11 T7 k7 => ?_⟩
      have A7 := A6.step T7 k7
      refine ⟨_, rfl, _, _, rfl, rfl, ⟨by decide, by decide, by decide⟩, t, g, n + 400 * j + 181, _, rfl, A7.T, by decide, by decide, hb _ (by omega), fun H8 m2 m20 m21 T8 k8 => ?_⟩
      have A8 := A7.step T8 k8
      refine ⟨(by show 2 ≤ sizeLine; decide), fun q2 hq2 => ?_⟩
      obtain ⟨q2t, q2g⟩ := A8.T.at_ne hq2
      have A9 := A8.new (o := HO.lst [V.int m1, .int m2]) hq2
      refine ⟨_, rfl, t, g, n + 400 * j + 241, 2, rfl, A9.T, by decide, by decide, hb60 _ (by omega), fun H10 c' c0' c1' T10 k10 => ?_⟩
      have A10 := A9.step T10 k10
      have hm2b : m2.natAbs < 2 ^ 94 := by
        have e1 : (10 : Int) ^ (28 : Int).toNat = 10000000000000000000000000000 := by decide
        have e2 : (2 : Nat) ^ 94 = 19807040628566084398385987584 := by decide
        rw [e1] at m21
        rw [e2]; omega
      obtain ⟨mo, hmo, hmo0, hmob⟩ : ∃ mo : Int, atI [V.int m1, .int m2] c' = some (.int mo) ∧ 0 ≤ mo ∧ mo.natAbs < 2 ^ 94 := by
        have : c' = 0 ∨ c' = 1 := by omega
        rcases this with e | e <;> subst e
        · exact ⟨m1, rfl, m10, Nat.lt_of_le_of_lt (by omega : _ ≤ 60) (by decide)⟩
        · exact ⟨m2, rfl, m20, hm2b⟩
      refine ⟨q2, _, _, _, rfl, rfl, SqL.of (k10 _ _ upd_same q2t q2g), hmo, _, _, rfl, rfl, ?_⟩
      have em : ((mo.toNat + 1 : Nat) : Int) = 1 + mo := by omega
      refine ⟨mo.toNat, by rw [em]; rfl, ?_, A10⟩
      have e3 : (2 : Nat) ^ 95 = 2 ^ 94 * 2 := by decide
      rw [e3]
      have e4 : 1 ≤ 2 ^ 93 := Nat.one_le_two_pow
      omega
    rintro σ7 H7 ⟨m, rfl, mb, A7⟩
    have hA7 := hA.keep T0 A7.k
    have hB7 := hB.keep T0 A7.k
    have mb3 : (((m + 1 : Nat) : Int)).natAbs < 2 ^ 300 := lt_up (m := 95) (by rw [Int.natAbs_natCast]; exact mb) (by decide)
    have sptb : (sp * ti).natAbs < 2 ^ 113 := by rw [Int.natAbs_mul]; exact Nat.lt_of_lt_of_le (Nat.mul_lt_mul'' spb htb) (by decide)
    have gotb : (go * ti).natAbs < 2 ^ 115 := by rw [Int.natAbs_mul]; exact Nat.lt_of_lt_of_le (Nat.mul_lt_mul'' gob htb) (by decide)
    have edv : (sp * ti + re) / ti = sp := by
      rw [Int.add_comm, Int.add_mul_ediv_right _ _ (by omega), Int.ediv_eq_zero_of_lt re0 re1]; omega
    -- leads
    refine ⟨fun σ' H' => σ' = [some (.ref t), some (.int L), some (.ref h), some (.ref h2), some (.int ti), none, none, some (.int (0 + (j : Nat))), some (.int sp), some (.int go), some (.int re), some (.int ((m + 1 : Nat) : Int))] ∧ Same H7 H', ?_, ?_⟩
    · obtain ⟨dx7, gh7⟩ := hA7.A.ex
      obtain ⟨dy7, gg7⟩ := hB7.A.ex
      refine ⟨_, rfl, h2, dy7, _, rfl, gg7, nl2, _, rfl, _, rfl, _, _, rfl, rfl, wide_mul spb htb (by decide) (by decide) (by decide), _, rfl, _, _, rfl, rfl, _, rfl, h2, d2, b2, L * ti, _, _, qs, rfl, hB7.A, q0, lt_up (add_lt sptb (lt_up reb (by decide))) (by decide), by omega, mb3, fun H8 S8 => ?_⟩
      refine ⟨_, rfl, h, dx7, _, rfl, S8 _ _ gh7, nl, _, rfl, _, rfl, h, d, b, L, sp, _, ss, rfl, hA7.A.same S8, h0, lt_up spb (by decide), by omega, mb3, fun H9 S9 => ?_⟩
      have e1 : gone (L * ti) qs (sp * ti + re) (((m + 1 : Nat) : Int)).toNat = gone L ss sp (((m + 1 : Nat) : Int)).toNat * ti := by
        rw [Int.toNat_natCast, gone_itf, gone_itf, itf_scaled1 ht hf, edv]
      rw [e1]
      refine ⟨_, rfl, _, _, rfl, rfl, wide_mul (far_gone hL hLb h0 hsz (lt_up spb (by decide)) (by rw [Int.toNat_natCast]; exact Nat.lt_of_lt_of_le mb (by decide))) htb (by decide) (by decide) (by decide), rfl, _, rfl, ite2 (fun c => (by simp at c : False).elim) (fun _ => ⟨rfl, S8.trans S9⟩)⟩
    rintro σ8 H8 ⟨rfl, S8⟩
    have A8 := A7.sm S8
    have hA8 := hA7.same S8
    have hB8 := hB7.same S8
    -- back
    refine ⟨fun σ' H' => σ' = [some (.ref t), some (.int L), some (.ref h), some (.ref h2), some (.int ti), none, none, some (.int (0 + (j : Nat))), some (.int sp), some (.int go), some (.int re), some (.int ((m + 1 : Nat) : Int))] ∧ Same H8 H', ?_, ?_⟩
    · obtain ⟨dx8, gh8⟩ := hA8.A.ex
      obtain ⟨dy8, gg8⟩ := hB8.A.ex
      refine ⟨_, rfl, h2, dy8, _, rfl, gg8, nb2, _, rfl, _, rfl, _, _, rfl, rfl, wide_mul spb htb (by decide) (by decide) (by decide), _, rfl, _, _, rfl, rfl, h2, d2, b2, L * ti, _, qs, rfl, hB8.A, q0, lt_up (sub_lt sptb (lt_up reb (by decide))) (by decide), fun v1 H9 S9 hv1 => ?_⟩
      refine ⟨_, rfl, h, dx8, _, rfl, S9 _ _ gh8, nb, _, rfl, h, d, b, L, sp, ss, rfl, hA8.A.same S9, h0, lt_up spb (by decide), fun v2 H10 S10 hv2 => ?_⟩
      obtain rfl : bkf (L * ti) qs (sp * ti - re) = v1 := bst_of hv1
      obtain rfl : bkf L ss sp = v2 := bst_of hv2
      have nr := bkf_near hL h0 hsz sp
      have vb : (bkf L ss sp).natAbs < 2 ^ 120 := by
        have e1 : 2 ^ (112 + 1) + 2 ^ 40 + 2 ^ 43 < 2 ^ 120 := by decide
        generalize (2 : Nat) ^ 120 = W at e1 ⊢
        generalize 2 ^ (112 + 1) = X at nr e1
        omega
      rw [back_scaled hL ht h0 q0 hf sp re re0 re1]
      refine ⟨_, rfl, _, _, rfl, rfl, wide_mul vb htb (by decide) (by decide) (by decide), rfl, _, rfl, ite2 (fun c => (by simp at c : False).elim) (fun _ => ⟨rfl, S9.trans S10⟩)⟩
    rintro σ9 H9 ⟨rfl, S9⟩
    have A9 := A8.sm S9
    have hA9 := hA8.same S9
    have hB9 := hB8.same S9
    -- uses
    obtain ⟨dx9, gh9⟩ := hA9.A.ex
    obtain ⟨dy9, gg9⟩ := hB9.A.ex
    refine ⟨_, rfl, h2, dy9, _, rfl, gg9, nu2, _, rfl, _, rfl, _, _, rfl, rfl, wide_mul spb htb (by decide) (by decide) (by decide), _, rfl, _, rfl, _, _, rfl, rfl, wide_mul gob htb (by decide) (by decide) (by decide), _, rfl, _, rfl, _, rfl, _, _, rfl, rfl, .inr ⟨_, rfl, _, _, rfl, rfl, ?_, _, _, rfl, rfl, h2, d2, b2, L * ti, _, _, qs, rfl, hB9.A, q0, lt_up sptb (by decide), ?_, fun H10 r S10 hR => ?_⟩⟩
    · exact wide_mul (b := 2) reb (by split <;> decide) (by decide) (by decide) (by decide)
    · refine lt_up (sub_lt gotb (lt_up (m := 70) ?_ (by decide))) (by decide)
      by_cases c : decide (go > sp) = true
      · rw [if_pos c, Int.mul_one]; exact reb
      · rw [if_neg c, Int.mul_zero]; decide
    refine ⟨_, rfl, h, dx9, _, rfl, S10 _ _ gh9, nu, _, rfl, _, rfl, h, d, b, L, sp, go, ss, rfl, hA9.A.same S10, h0, lt_up spb (by decide), lt_up gob (by decide), fun H11 r' S11 hR' => ?_⟩
    have hR2 : IsReach (fun n => some (gone (L * ti) qs (sp * ti) n)) (go * ti - re * (if decide (go > sp) = true then 1 else 0)) r' := by
      refine IsReach.conv (fun n => ?_) (fun n => ⟨⟨_, rfl⟩, ⟨_, rfl⟩⟩) hR'
      have e1 : gone (L * ti) qs (sp * ti) n = gone L ss sp n * ti := by rw [gone_itf, gone_itf, itf_scaled ht hf]
      have key : gone L ss sp n < go ↔ gone L ss sp n * ti < go * ti - re * (if decide (go > sp) = true then 1 else 0) := by
        by_cases c : decide (go > sp) = true
        · rw [if_pos c, Int.mul_one]
          constructor
          · intro h
            have : (gone L ss sp n + 1) * ti ≤ go * ti := (mul_pos_le ht).mpr (by omega)
            rw [Int.add_mul] at this
            omega
          · intro h
            exact (mul_pos_lt ht).mp (by omega)
        · rw [if_neg c, Int.mul_zero, Int.sub_zero]
          exact (mul_pos_lt ht).symm
      constructor
      · intro h m' hm'
        rw [← Option.some.inj hm', e1]
        exact key.mp (h _ rfl)
      · intro h m' hm'
        rw [← Option.some.inj hm']
        exact key.mpr (by have := h _ rfl; rwa [e1] at this)
    obtain rfl := hR.one hR2
    refine ⟨_, _, dp_uV r, dp_uV r, shaped_uD r, shaped_uD r, _, rfl, ?_⟩
    rw [SeqAt.eqv_refl _ (SeqAt.canLay_of_shaped (shaped_uD r))]
    exact iteF ⟨_, _, _, _, _, rfl, (A9.sm (S10.trans S11)).up (by omega)⟩
theorem ok_law_moved_right (T : Tx K w mg Z) : FnOk P w K mg base CX0 11 Z.a_law_moved_right Z.d_law_moved_right P_law_moved_right (spMoved Z K) := by
  refine T.F_law_moved_right.ok sclaw_moved_right (fun vs H Q E h => ?_) (fun cdv A outer s H vs Q E hr h => ?_)
  · obtain ⟨t, g, h, d, b, h2, d2, b2, n, L, by', ss, rfl, _⟩ := h
    rfl
  · obtain ⟨t, g, h, d, b, h2, d2, b2, n, L, by', ss, rfl, T0, hn, hL, hLb, hbb, hA, hB, h0, h28, hsz, k⟩ := h
    have hLb2 : L.natAbs < 2 ^ 200 := lt_up hLb (by decide)
    have q0 : 0 < (ss.map (mvP by')).length := by rw [List.length_map]; exact h0
    have q28 : (ss.map (mvP by')).length ≤ 28 := by rw [List.length_map]; exact h28
    have hf := moved_ld (L := L) (b := by') h0
    have ss2 : ∀ s ∈ ss, SzP 200 s := fun s hs => ⟨lt_up (hsz s hs).1 (by decide), lt_up (hsz s hs).2 (by decide)⟩
    have qs1 : ∀ s ∈ ss.map (mvP by'), SzP 113 s := fun s hs => by
      obtain ⟨s0, hs0, rfl⟩ := List.mem_map.mp hs
      have e := hsz s0 hs0
      exact ⟨add_lt e.1 (lt_up hbb (by decide)), add_lt e.2 (lt_up hbb (by decide))⟩
    have qs2 : ∀ s ∈ ss.map (mvP by'), SzP 200 s := fun s hs => ⟨lt_up (qs1 s hs).1 (by decide), lt_up (qs1 s hs).2 (by decide)⟩
    have F := ld_hand hL h0
    have F' := ld_hand hL q0
    have hb : ∀ m, m ≤ n + 400 → m < 2 ^ 59 := fun m hm => Nat.lt_of_le_of_lt hm (Nat.lt_of_lt_of_le (Nat.add_lt_add_right hn 400) (by decide))
    have A0 : At H H t g n := ⟨T0, Keep.refl _ _ _⟩
    generalize hqs : ss.map (mvP by') = qs at hB q0 q28 hf qs1 qs2 F'
    obtain ⟨dx, gh⟩ := hA.A.ex
    obtain ⟨dy, gg⟩ := hB.A.ex
    obtain ⟨pr, PO⟩ := pace_ex hL h0
    have PO' := pace_moved hf PO
    have nl := hf_no d b (m := "lead") (by decide +kernel) (by decide +kernel)
    have nb := hf_no d b (m := "back") (by decide +kernel) (by decide +kernel)
    have nu := hf_no d b (m := "uses") (by decide +kernel) (by decide +kernel)
    have nl2 := hf_no d2 b2 (m := "lead") (by decide +kernel) (by decide +kernel)
    have nb2 := hf_no d2 b2 (m := "back") (by decide +kernel) (by decide +kernel)
    have nu2 := hf_no d2 b2 (m := "uses") (by decide +kernel) (by decide +kernel)
    refine ⟨_, (pss_cons (ps_set (i := 5) sclaw_moved_right.nd rfl (Or.inl rfl) (pe_callB (sortK (K := K)) (by rfl) T.b_sorted (by decide +kernel) (pa_cons (pe_lc (own := [("home", 6)]) (g := gName 6) (tt := tYes) rfl sclaw_moved_right.nd (pi_list (pe_meth0 (pv 2) T.cl_Hand T.m_Hand_homes (ok_Hand_homes T) (hr.mono (by decide)) T.bb_Hand_homes .nil pass0)) (blkOk_by (own := [("home", 6)]) (N := N_law_moved_right) (sc := defScope slaw_moved_right) (by decide +kernel)) (fun _ _ _ _ _ => (pg_name (i := 6) sclaw_moved_right.nd rfl (Or.inl rfl))) (fun _ _ _ _ _ => pts_nil) (fun _ _ _ _ _ => (pe_op op_mod (pe_op op_add (pv 6) (pv 4)) (pv 1)))) pa_nil)))
      (C8.pss_cut (ps_if (PW.pt (pw_or (pt_cmpR (neDK (K := K) hr.units) (pe_meth0 (pv 3) T.cl_Hand T.m_Hand_pace (ok_Hand_pace T) (hr.mono (by decide)) T.bb_Hand_pace .nil pass0) (pe_meth0 (pv 2) T.cl_Hand T.m_Hand_pace (ok_Hand_pace T) (hr.mono (by decide)) T.bb_Hand_pace .nil pass0) (nomark _)) (pw_or1 (pt_cmpR (neDK (K := K) hr.units) (pe_meth0 (pv 3) T.cl_Hand T.m_Hand_homes (ok_Hand_homes T) (hr.mono (by decide)) T.bb_Hand_homes .nil pass0) (pv 5) (nomark _))))) (pss_one (ps_ret pe_bl)) pss_nil)
      (C8.pss_cut (ps_set (i := 7) sclaw_moved_right.nd rfl (Or.inl rfl) (pe_op op_sub (pe_call (ok_law_below T) (hr.mono (by decide)) (by rfl) T.g_law_below T.F_law_below.kp T.bb_law_below .nil pass0 (pa_cons (pv 0) (pa_cons (pe_op op_mulW pe_int (pv 1)) pa_nil))) (pe_op op_mulW pe_int (pv 1))))
      (C8.pss_cut (ps_set (i := 8) sclaw_moved_right.nd rfl (Or.inl rfl) (pe_op op_add (pv 7) (pe_call (ok_law_below T) (hr.mono (by decide)) (by rfl) T.g_law_below T.F_law_below.kp T.bb_law_below .nil pass0 (pa_cons (pv 0) (pa_cons (pe_op op_mulW pe_int (pv 1)) pa_nil)))))
      (C8.pss_cut (ps_if (pt_cmpR op_ne (pe_meth (pv 3) T.cl_Hand T.m_Hand_back (ok_Hand_back T) (hr.mono (by decide)) T.bb_Hand_back .nil pass0 (pa_cons (pe_op op_add (pv 7) (pv 4)) pa_nil)) (pe_op op_add (pe_meth (pv 2) T.cl_Hand T.m_Hand_back (ok_Hand_back T) (hr.mono (by decide)) T.bb_Hand_back .nil pass0 (pa_cons (pv 7) pa_nil)) (pv 4)) (nomark _)) (pss_one (ps_ret pe_bl)) pss_nil)
      (C8.pss_cut (ps_if (pt_cmpR (neDK (K := K) hr.units) (pe_meth (pv 3) T.cl_Hand T.m_Hand_uses (ok_Hand_uses T) (hr.mono (by decide)) T.bb_Hand_uses .nil pass0 (pa_cons (pe_op op_add (pv 7) (pv 4)) (pa_cons (pe_op op_add (pv 8) (pv 4)) pa_nil))) (pe_meth (pv 2) T.cl_Hand T.m_Hand_uses (ok_Hand_uses T) (hr.mono (by decide)) T.bb_Hand_uses .nil pass0 (pa_cons (pv 7) (pa_cons (pv 8) pa_nil))) (nomark _)) (pss_one (ps_ret pe_bl)) pss_nil)
      (pss_cons (ps_setLc (i := 9) (own := [("some", 11)]) (g := gName 11) (tt := tYes) rfl sclaw_moved_right.nd rfl rfl (sw_true rfl rfl rfl (by decide +kernel)) (pi_tup (pe_tup (pa_cons (pv 3) (pa_cons (pv 2) pa_nil)))) (blkOk_by (own := [("some", 11)]) (N := N_law_moved_right) (sc := defScope slaw_moved_right) (by decide +kernel)) (fun _ _ _ _ _ => (pg_name (i := 11) sclaw_moved_right.nd rfl (Or.inl rfl))) (fun _ _ _ _ _ => pts_nil) (fun _ _ _ _ _ => (pe_callB (sortK (K := K)) (by rfl) T.b_sorted (by decide +kernel) (pa_cons (pe_lc (own := [("begun", 10), ("home", 6)]) (g := gTup K 2 (gCons (gName 10) (gCons (gName 6) gNil))) (tt := tYes) rfl sclaw_moved_right.nd (pi_listK (K := K) (pe_meth0 (pv 11) T.cl_Hand T.m_Hand_gates (ok_Hand_gates T) (hr.mono (by decide)) T.bb_Hand_gates .nil pass0)) (blkOk_in (own := [("begun", 10), ("home", 6)]) (N := N_law_moved_right) (sc := { kind := .function, names := [(".0", .local), ("some", .local), ("sorted", .globalImplicit)], isGenerator := false, isCoroutine := false }) (by decide +kernel)) (fun _ _ _ _ _ => (tupK (K := K) (by rfl) (pgs_cons (pg_name (i := 10) sclaw_moved_right.nd rfl (Or.inl rfl)) (pgs_cons (pg_name (i := 6) sclaw_moved_right.nd rfl (Or.inl rfl)) pgs_nil)))) (fun _ _ _ _ _ => pts_nil) (fun _ _ _ _ _ => (pe_op op_sub (pv 6) (pv 10)))) pa_nil))))
      (C8.pss_cut (ps_if (pt_cmpR (neDK (K := K) hr.units) (pe_ix (ixL (K := K)) (pv 9) pe_int (fun _ _ => rfl)) (pe_ix (ixL (K := K)) (pv 9) pe_int (fun _ _ => rfl)) (nomark _)) (pss_one (ps_ret pe_bl)) pss_nil)
      (pss_one (ps_ret (pe_cmpR op_eq (pe_meth (pv 3) T.cl_Hand T.m_Hand_lead (ok_Hand_lead T) (hr.mono (by decide)) T.bb_Hand_lead .nil pass0 (pa_cons (pe_op op_add (pv 7) (pv 4)) (pa_cons pe_int pa_nil))) (pe_op op_add (pe_meth (pv 2) T.cl_Hand T.m_Hand_lead (ok_Hand_lead T) (hr.mono (by decide)) T.bb_Hand_lead .nil pass0 (pa_cons (pv 7) (pa_cons pe_int pa_nil))) (pv 4)) (nomark _)))))))))))), ?_⟩
    -- homes
    refine ⟨_, rfl, h, dx, _, rfl, gh, hf_no d b (m := "homes") (by decide +kernel) (by decide +kernel), h, d, b, L, ss, rfl, hA.A, h0, fun p1 hs H1 _ S1 g1 HM hl1 => ⟨p1, rfl, ⟨_, SqL.of g1⟩, fun D hD => ?_⟩⟩
    refine lc_list (K := K) (a := p1) (xs := hs.map V.int) (fun i' H' => Same H1 H' ∧ H' D = some (.lst (((hs.take i').map fun z => (z + by') % L).map V.int))) ⟨same_upd hD, upd_same⟩ (fun i' H' _ ⟨S, _⟩ => SqL.of (S _ _ g1)) ?_ ?_
    · rintro i' y H2 hi' ⟨S2, gD⟩
      obtain ⟨z, hz, rfl⟩ := at_ints hi'
      have hi2 := (List.getElem?_eq_some_iff.mp hz).1
      refine ⟨rfl, yes_ite ?_⟩
      refine ⟨_, rfl, _, rfl, _, _, rfl, rfl, _, rfl, _, _, rfl, rfl, hL, _, gD, small1000 (by simp; omega), same_set S2 hD, ?_⟩
      rw [take_snoc hz, List.map_append, List.map_append]
      exact upd_same
    rintro H2 ⟨S2, gD⟩
    rw [List.take_of_length_le (by simp)] at gD
    refine ⟨D, _, rfl, SqL.of gD, by simp; omega, fun rs p3 hperm hsrt hp3 => ?_⟩
    have S3 := same_upd (o := HO.lst (rs.map V.int)) hp3
    have g3 : (upd H2 p3 (HO.lst (rs.map V.int))) p3 = some (HO.lst (rs.map V.int)) := upd_same
    generalize upd H2 p3 (HO.lst (rs.map V.int)) = H3 at S3 g3 ⊢
    have S13 := (S1.trans S2).trans S3
    have A3 := A0.sm S13
    -- paces, homes
    refine ⟨fun σ' H' => σ' = [some (.ref t), some (.int L), some (.ref h), some (.ref h2), some (.int by'), some (.ref p3), none, none, none, none, none, none] ∧ Same H3 H', ?_, ?_⟩
    · refine ⟨_, rfl, h2, dy, _, rfl, S13 _ _ gg, hf_no d2 b2 (m := "pace") (by decide +kernel) (by decide +kernel), h2, d2, b2, L, qs, rfl, hB.A.same S13, q0, fun H4 r1 pr1 S4 hr1 P1 _ => ?_⟩
      refine ⟨_, rfl, h, dx, _, rfl, S4 _ _ (S13 _ _ gh), hf_no d b (m := "pace") (by decide +kernel) (by decide +kernel), h, d, b, L, ss, rfl, (hA.A.same S13).same S4, h0, fun H5 r2 pr2 S5 hr2 P2 _ => ?_⟩
      obtain rfl := P1.one hL F' (pace_moved hf P2)
      refine ⟨_, _, dp_mono S5 _ _ hr1, hr2, shaped_enc1 _, shaped_enc1 _, _, rfl, ?_⟩
      rw [SeqAt.eqv_refl _ (SeqAt.canLay_of_shaped (shaped_enc1 _))]
      refine iteF ?_
      have S45 := S4.trans S5
      refine ⟨_, rfl, h2, dy, _, rfl, S45 _ _ (S13 _ _ gg), hf_no d2 b2 (m := "homes") (by decide +kernel) (by decide +kernel), h2, d2, b2, L, qs, rfl, (hB.A.same S13).same S45, q0, fun p4 hs' H6 _ S6 g6 HM' _ => ?_⟩
      have pm := homes_moved hL F' hf F HM HM'
      obtain rfl : rs = hs' := rise_ext (lt_of_le_nodup rs hsrt ((hperm.trans pm).nodup_iff.mpr (rise_nodup HM'.rise))) HM'.rise fun z => (hperm.trans pm).mem_iff
      refine ⟨_, rfl, _, _, .lst (SqL.of g6) (dpAll_ints rs), .lst (SqL.of ((S45.trans S6) _ _ g3)) (dpAll_ints rs), shaped_ints _, shaped_ints _, _, rfl, ?_⟩
      rw [SeqAt.eqv_refl _ (SeqAt.canLay_of_shaped (shaped_ints _))]
      exact iteF ⟨rfl, S45.trans S6⟩
    rintro σ4 H4 ⟨rfl, S4⟩
    have A4 := A3.sm S4
    have b4 : (4 * L).natAbs < 2 ^ 43 := by rw [Int.natAbs_mul]; exact Nat.lt_of_lt_of_le (Nat.mul_lt_mul_of_le_of_lt (Nat.le_refl 4) hLb (by decide)) (by decide)
    have b3 : (3 * L).natAbs < 2 ^ 43 := by rw [Int.natAbs_mul]; exact Nat.lt_of_lt_of_le (Nat.mul_lt_mul_of_le_of_lt (Nat.le_refl 3) hLb (by decide)) (by decide)
    -- spot
    refine ⟨fun σ' H' => ∃ sp : Int, σ' = [some (.ref t), some (.int L), some (.ref h), some (.ref h2), some (.int by'), some (.ref p3), none, some (.int sp), none, none, none, none] ∧ sp.natAbs < 2 ^ 43 ∧ At H H' t g (n + 60), ?_, ?_⟩
    · refine ⟨_, rfl, _, rfl, _, _, rfl, rfl, wide_mul (a := 10) (by decide) hLb (by decide) (by decide) (by decide), t, g, n, 4 * L, rfl, A4.T, by omega, lt_up b4 (by decide), hb _ (by omega), fun H5 s s0 s1 T5 k5 => ?_⟩
      refine ⟨_, rfl, _, _, rfl, rfl, wide_mul (a := 10) (by decide) hLb (by decide) (by decide) (by decide), _, _, rfl, rfl, ?_⟩
      exact ⟨s - 2 * L, rfl, Nat.lt_of_le_of_lt (by clear hLb hLb2 b3; omega) b4, A4.step T5 k5⟩
    rintro σ5 H5 ⟨sp, rfl, spb, A5⟩
    -- goal
    refine ⟨fun σ' H' => ∃ go : Int, σ' = [some (.ref t), some (.int L), some (.ref h), some (.ref h2), some (.int by'), some (.ref p3), none, some (.int sp), some (.int go), none, none, none] ∧ go.natAbs < 2 ^ 45 ∧ At H H' t g (n + 120), ?_, ?_⟩
    · refine ⟨_, rfl, _, rfl, _, rfl, _, _, rfl, rfl, wide_mul (a := 10) (by decide) hLb (by decide) (by decide) (by decide), t, g, n + 60, 3 * L, rfl, A5.T, by omega, lt_up b3 (by decide), hb _ (by omega), fun H6 s s0 s1 T6 k6 => ?_⟩
      refine ⟨_, _, rfl, rfl, ?_⟩
      refine ⟨sp + s, rfl, ?_, A5.step T6 k6⟩
      have e1 : (2 : Nat) ^ 45 = 2 ^ 43 * 4 := by decide
      rw [e1]
      clear hLb2
      omega
    rintro σ6 H6 ⟨go, rfl, gob, A6⟩
    have hA6 := hA.keep T0 A6.k
    have hB6 := hB.keep T0 A6.k
    have spm : (sp + by').natAbs < 2 ^ 91 := add_lt (lt_up spb (by decide)) hbb
    have gom : (go + by').natAbs < 2 ^ 91 := add_lt (lt_up gob (by decide)) hbb
    -- back
    refine ⟨fun σ' H' => σ' = [some (.ref t), some (.int L), some (.ref h), some (.ref h2), some (.int by'), some (.ref p3), none, some (.int sp), some (.int go), none, none, none] ∧ Same H6 H', ?_, ?_⟩
    · obtain ⟨dx8, gh8⟩ := hA6.A.ex
      obtain ⟨dy8, gg8⟩ := hB6.A.ex
      refine ⟨_, rfl, h2, dy8, _, rfl, gg8, nb2, _, rfl, _, rfl, _, _, rfl, rfl, h2, d2, b2, L, _, qs, rfl, hB6.A, q0, lt_up spm (by decide), fun v1 H9 S9 hv1 => ?_⟩
      refine ⟨_, rfl, h, dx8, _, rfl, S9 _ _ gh8, nb, _, rfl, h, d, b, L, sp, ss, rfl, hA6.A.same S9, h0, lt_up spb (by decide), fun v2 H10 S10 hv2 => ?_⟩
      obtain rfl : bkf L qs (sp + by') = v1 := bst_of hv1
      obtain rfl : bkf L ss sp = v2 := bst_of hv2
      rw [back_moved hL h0 q0 hf sp]
      exact ⟨_, rfl, _, _, rfl, rfl, rfl, _, rfl, ite2 (fun c => (by simp at c : False).elim) (fun _ => ⟨rfl, S9.trans S10⟩)⟩
    rintro σ7 H7 ⟨rfl, S7⟩
    have A7 := A6.sm S7
    have hA7 := hA6.same S7
    have hB7 := hB6.same S7
    -- uses
    refine ⟨fun σ' H' => σ' = [some (.ref t), some (.int L), some (.ref h), some (.ref h2), some (.int by'), some (.ref p3), none, some (.int sp), some (.int go), none, none, none] ∧ Same H7 H', ?_, ?_⟩
    · obtain ⟨dx9, gh9⟩ := hA7.A.ex
      obtain ⟨dy9, gg9⟩ := hB7.A.ex
      refine ⟨_, rfl, h2, dy9, _, rfl, gg9, nu2, _, rfl, _, rfl, _, _, rfl, rfl, _, rfl, _, rfl, _, _, rfl, rfl, h2, d2, b2, L, _, _, qs, rfl, hB7.A, q0, lt_up spm (by decide), lt_up gom (by decide), fun H10 r S10 hR => ?_⟩
      refine ⟨_, rfl, h, dx9, _, rfl, S10 _ _ gh9, nu, _, rfl, _, rfl, h, d, b, L, sp, go, ss, rfl, hA7.A.same S10, h0, lt_up spb (by decide), lt_up gob (by decide), fun H11 r' S11 hR' => ?_⟩
      have hR2 : IsReach (fun n => some (gone L qs (sp + by') n)) (go + by') r' := by
        refine IsReach.conv (fun n => ?_) (fun n => ⟨⟨_, rfl⟩, ⟨_, rfl⟩⟩) hR'
        have e1 : gone L qs (sp + by') n = gone L ss sp n + by' := by
          rw [gone_itf, gone_itf, itf_moved hf, show sp + by' - by' = sp by omega]
        constructor
        · intro h m' hm'
          have := h _ rfl
          rw [← Option.some.inj hm', e1]
          omega
        · intro h m' hm'
          have := h _ rfl
          rw [e1] at this
          rw [← Option.some.inj hm']
          omega
      obtain rfl := hR.one hR2
      refine ⟨_, _, dp_uV r, dp_uV r, shaped_uD r, shaped_uD r, _, rfl, ?_⟩
      rw [SeqAt.eqv_refl _ (SeqAt.canLay_of_shaped (shaped_uD r))]
      exact iteF ⟨rfl, S10.trans S11⟩
    rintro σ8 H8 ⟨rfl, S8⟩
    have A8 := A7.sm S8
    have hA8 := hA7.same S8
    have hB8 := hB7.same S8
    -- how long the gates are
    obtain ⟨bo, hbo⟩ : ∃ bo : Int → Int, ∀ z, rnd L (ld L ss) pr z = z → GateAt L (ld L ss) pr (bo z) z := by
      have : ∀ z, ∃ b, rnd L (ld L ss) pr z = z → GateAt L (ld L ss) pr b z := fun z => by
        by_cases c : rnd L (ld L ss) pr z = z
        · obtain ⟨b, hb⟩ := gate_ex hL F c
          exact ⟨b, fun _ => hb⟩
        · exact ⟨0, fun h => absurd h c⟩
      exact Classical.axiomOfChoice this
    have hbo' : ∀ z ∈ hs, GateAt L (ld L ss) pr (bo z) z := fun z hz => hbo z ((per_rnd hL F PO).mp ((HM.mem z).mp hz).2.2)
    obtain ⟨ref, href⟩ : ∃ ref, ref = hs.map fun z => z - bo z := ⟨_, rfl⟩
    refine ⟨_, rfl, _, rfl, (by show 2 ≤ sizeLine; decide), fun tp htp => ?_⟩
    have S9 := same_upd (o := HO.tup [V.ref h2, .ref h]) htp
    have gt : (upd H8 tp (HO.tup [V.ref h2, .ref h])) tp = some (HO.tup [V.ref h2, .ref h]) := upd_same
    have A9 := A8.sm S9
    have hA9 := hA8.same S9
    have hB9 := hB8.same S9
    generalize upd H8 tp (HO.tup [V.ref h2, .ref h]) = H9 at S9 gt A9 hA9 hB9 ⊢
    refine ⟨tp, rfl, ⟨_, SqT.of gt⟩, fun E hE => ?_⟩
    refine lc_tup (K := K) (a := tp) (xs := [V.ref h2, .ref h]) (fun m H' => Same H9 H' ∧ ∃ qs : List Addr, H' E = some (.lst (qs.map V.ref)) ∧ qs.length = m ∧ ∀ q ∈ qs, q ≠ E ∧ ∃ rs : List Int, H' q = some (.lst (rs.map V.int)) ∧ rs.Perm ref ∧ rs.Pairwise (· ≤ ·)) ⟨same_upd hE, [], upd_same, rfl, fun _ z => absurd z (by simp)⟩ (fun m H' _ ⟨S, _⟩ => SqT.of (S _ _ gt)) ?_ ?_
    · rintro m y H10 hm ⟨S10, qq, gE, hql, hq⟩
      have hm2 : m < 2 := (List.getElem?_eq_some_iff.mp hm).1
      obtain ⟨hh, dd, bb, ws, rfl, HW, w0, w28, wsz, wpm⟩ : ∃ (hh dd bb : Addr) (ws : List Pr), y = .ref hh ∧ HandAt Z K H10 hh dd bb L ws ∧ 0 < ws.length ∧ ws.length ≤ 28 ∧ (∀ s ∈ ws, SzP 200 s) ∧ ∀ {hs1 bs1 : List Int} {Y1 Y2 : Int → Prop}, Homes L (ld L ws) Y1 hs1 → Homes L (bkf L ws) Y2 bs1 → (hs1.map fun z => z - gateB L bs1 z).Perm ref := by
        match m, hm with
        | 0, hm =>
          refine ⟨h2, d2, b2, qs, (Option.some.inj hm).symm, hB9.A.same S10, q0, q28, qs2, fun {hs1 bs1 Y1 Y2} M1 M2 => ?_⟩
          rw [href]
          exact (lens_moved hL F' hf F HM M1 hbo' fun z hz => gate_at hL F' (bkf_hand hL q0) (bkf_adj hL q0) PO' (bk_pace hL q0 PO') M1 M2 hz).symm
        | 1, hm =>
          refine ⟨h, d, b, ss, (Option.some.inj hm).symm, hA9.A.same S10, h0, h28, ss2, fun {hs1 bs1 Y1 Y2} M1 M2 => ?_⟩
          obtain rfl : hs1 = hs := M1.same HM
          rw [href]
          have e : (hs1.map fun z => z - gateB L bs1 z) = hs1.map fun z => z - bo z := List.map_congr_left fun z hz => by
            rw [(gate_at hL F (bkf_hand hL h0) (bkf_adj hL h0) PO (bk_pace hL h0 PO) M1 M2 hz).one (hbo' z hz)]
          rw [e]
        | m + 2, hm => simp at hm
      obtain ⟨dz, gz⟩ := HW.ex
      refine ⟨rfl, yes_ite ?_⟩
      refine ⟨_, rfl, hh, dz, _, rfl, gz, hf_no dd bb (m := "gates") (by decide +kernel) (by decide +kernel), hh, dd, bb, L, ws, 200, rfl, HW, w0, w28, hLb2, by decide, by decide, wsz, fun gp gxs H11 hs1 bs1 hgp S11 ggp gdp M1 M2 hl1 => ⟨gp, rfl, ⟨_, SqL.of ggp⟩, fun D2 hD2 => ?_⟩⟩
      have gxl : gxs.length = hs1.length := by rw [dpAll_len gdp, List.length_map]; unfold gatesOf; rw [List.length_map]
      refine lc_list (K := K) (a := gp) (xs := gxs) (fun i' H' => Same H11 H' ∧ H' D2 = some (.lst (((hs1.take i').map fun z => z - gateB L bs1 z).map V.int))) ⟨same_upd hD2, upd_same⟩ (fun i' H' _ ⟨S, _⟩ => SqL.of (S _ _ ggp)) ?_ ?_
      · rintro i' y H12 hi' ⟨S12, gD⟩
        obtain ⟨de, hdi, hdy⟩ := dpAll_get gdp hi'
        obtain ⟨gt', hgt, rfl⟩ := map_at hdi
        obtain ⟨z, hz, rfl⟩ := map_at hgt
        have hi2 := (List.getElem?_eq_some_iff.mp hz).1
        obtain ⟨p', rfl, hp'⟩ := dp_pair (dp_mono S12 _ _ hdy)
        refine ⟨_, _, rfl, hp', rfl, _, _, rfl, _, _, rfl, rfl, rfl, yes_ite ?_⟩
        refine ⟨_, rfl, _, rfl, _, _, rfl, rfl, _, gD, small1000 (by simp; omega), same_set S12 hD2, ?_⟩
        rw [take_snoc hz, List.map_append, List.map_append]
        exact upd_same
      rintro H12 ⟨S12, gD2⟩
      rw [List.take_of_length_le (by omega)] at gD2
      refine ⟨D2, _, rfl, SqL.of gD2, by simp; omega, fun rs q' hperm hsrt hq' => ?_⟩
      have S13' := same_upd (o := HO.lst (rs.map V.int)) hq'
      have g13 : (upd H12 q' (HO.lst (rs.map V.int))) q' = some (HO.lst (rs.map V.int)) := upd_same
      have hqE : q' ≠ E := fun e => by
        have := S12 _ _ (S11 _ _ gE)
        rw [← e, hq'] at this
        cases this
      generalize upd H12 q' (HO.lst (rs.map V.int)) = H13 at S13' g13 ⊢
      have SS := (S11.trans S12).trans S13'
      refine ⟨_, SS _ _ gE, small1000 (by simp; omega), same_set (S10.trans SS) hE, qq ++ [q'], by rw [List.map_append]; exact upd_same, by simp [hql], fun q hq2 => ?_⟩
      rcases List.mem_append.mp hq2 with e | e
      · obtain ⟨n1, rs1, g1', g2', g3'⟩ := hq q e
        exact ⟨n1, rs1, (upd_ne n1).trans (SS _ _ g1'), g2', g3'⟩
      · rw [List.mem_singleton] at e; subst e
        exact ⟨hqE, rs, (upd_ne hqE).trans g13, hperm.trans (wpm M1 M2), hsrt⟩
    rintro H10 ⟨S10, qq, gE, hql, hq⟩
    have hql2 : qq.length = 2 := hql
    obtain ⟨qa, qb, rfl⟩ : ∃ qa qb, qq = [qa, qb] := by
      match qq, hql2 with
      | [qa, qb], _ => exact ⟨qa, qb, rfl⟩
    obtain ⟨_, ra, ga, pa1, pa2⟩ := hq qa (by simp)
    obtain ⟨_, rb, gb, pb1, pb2⟩ := hq qb (by simp)
    obtain rfl : ra = rb := sorted_one (pa1.trans pb1.symm) pa2 pb2
    have A10 := A9.sm S10
    have hA10 := hA9.same S10
    have hB10 := hB9.same S10
    refine ⟨fun σ' H' => σ' = [some (.ref t), some (.int L), some (.ref h), some (.ref h2), some (.int by'), some (.ref p3), none, some (.int sp), some (.int go), some (.ref E), none, none] ∧ Same H10 H', ?_, ?_⟩
    · refine ⟨_, rfl, _, _, _, _, rfl, rfl, SqL.of gE, rfl, _, rfl, _, _, _, _, rfl, rfl, SqL.of gE, rfl, _, _, .lst (SqL.of ga) (dpAll_ints ra), .lst (SqL.of gb) (dpAll_ints ra), shaped_ints _, shaped_ints _, _, rfl, ?_⟩
      rw [SeqAt.eqv_refl _ (SeqAt.canLay_of_shaped (shaped_ints _))]
      exact iteF ⟨rfl, fun _ _ e => e⟩
    rintro σ11 H11 ⟨rfl, S11⟩
    have A11 := A10.sm S11
    obtain ⟨dxl, ghl⟩ := (hA10.same S11).A.ex
    obtain ⟨dyl, ggl⟩ := (hB10.same S11).A.ex
    refine ⟨_, rfl, h2, dyl, _, rfl, ggl, nl2, _, rfl, _, rfl, _, _, rfl, rfl, h2, d2, b2, L, _, 9, qs, rfl, (hB10.same S11).A, q0, lt_up spm (by decide), by decide, by decide, fun H12 S12 => ?_⟩
    refine ⟨_, rfl, h, dxl, _, rfl, S12 _ _ ghl, nl, _, rfl, h, d, b, L, sp, 9, ss, rfl, ((hA10.same S11).same S12).A, h0, lt_up spb (by decide), by decide, by decide, fun H13 S13' => ?_⟩
    have e9 : gone L qs (sp + by') (9 : Int).toNat = gone L ss sp (9 : Int).toNat + by' := by
      rw [gone_itf, gone_itf, itf_moved hf, show sp + by' - by' = sp by omega]
    rw [e9]
    refine ⟨_, rfl, _, _, rfl, rfl, ?_⟩
    have AZ := (A11.sm S12).sm S13'
    have kk := k H13 (AZ.T.up (by omega)) AZ.k
    refine ⟨rfl, ?_⟩
    show Q (V.bl (decide (V.int (gone L ss sp (9 : Int).toNat + by') = V.int (gone L ss sp (9 : Int).toNat + by')))) H13
    rw [decide_eq_true rfl]
    exact kk
theorem ok_law (T : Tx K w mg Z) : FnOk P w K mg base CX0 12 Z.a_law Z.d_law P_law (spLaw K) := by
  refine T.F_law.ok sclaw (fun vs H Q E h => ?_) (fun cdv A outer s H vs Q E hr h => ?_)
  · obtain ⟨a, ns, rfl, _⟩ := h
    rfl
  · obtain ⟨a, ns, rfl, hS, hlen, k⟩ := h
    refine ⟨_, (pss_cons (ps_set (i := 1) sclaw.nd rfl (Or.inl rfl) (pe_call (ok_law_deck T) (hr.mono (by decide)) (by rfl) T.g_law_deck T.F_law_deck.kp T.bb_law_deck .nil pass0 (pa_cons (pv 0) pa_nil)))
      (pss_cons (ps_for PassesOwn.never rfl (pi_range1 (by rfl) T.b_range (pa_cons (pe_op op_add pe_int (pe_callB (call_min2 rfl) (by rfl) T.b_min (by decide +kernel) (pa_cons pe_int (pa_cons (pe_callB (lenK (K := K)) (by rfl) T.b_len (by decide +kernel) (pa_cons (pv 0) pa_nil)) pa_nil)))) pa_nil)) (pg_name (i := 2) sclaw.nd rfl (Or.inl rfl)) (C8.pss_cut (ps_set (i := 3) sclaw.nd rfl (Or.inr rfl) (pe_ix (ixL (K := K)) (pe_lst (pa_cons (pe_op op_add pe_int (pe_call (ok_law_take T) (hr.mono (by decide)) (by rfl) T.g_law_take T.F_law_take.kp T.bb_law_take .nil pass0 (pa_cons (pv 1) (pa_cons pe_int pa_nil)))) (pa_cons (pe_op op_add pe_int (pe_call (ok_law_take T) (hr.mono (by decide)) (by rfl) T.g_law_take T.F_law_take.kp T.bb_law_take .nil pass0 (pa_cons (pv 1) (pa_cons pe_int pa_nil)))) (pa_cons (pe_op op_add pe_int (pe_call (ok_law_below T) (hr.mono (by decide)) (by rfl) T.g_law_below T.F_law_below.kp T.bb_law_below .nil pass0 (pa_cons (pv 1) (pa_cons (pe_op op_pow pe_int pe_int) pa_nil)))) pa_nil)))) (pe_call (ok_law_take T) (hr.mono (by decide)) (by rfl) T.g_law_take T.F_law_take.kp T.bb_law_take .nil pass0 (pa_cons (pv 1) (pa_cons pe_int pa_nil))) (fun _ _ => rfl)))
      (pss_cons (ps_set (i := 4) sclaw.nd rfl (Or.inl rfl) (pe_ix (ixL (K := K)) (pe_lst (pa_cons (pe_call (ok_law_steps_of T) (hr.mono (by decide)) (by rfl) T.g_law_steps_of T.F_law_steps_of.kp T.bb_law_steps_of .nil pass0 (pa_cons (pv 1) (pa_cons (pv 3) pa_nil))) (pa_cons (pe_ix (ixT (K := K)) (pe_call (ok_law_planted T) (hr.mono (by decide)) (by rfl) T.g_law_planted T.F_law_planted.kp T.bb_law_planted .nil pass0 (pa_cons (pv 1) (pa_cons (pv 3) (pa_cons pe_int pa_nil)))) pe_int (fun _ _ => rfl)) pa_nil))) (pe_call (ok_law_take T) (hr.mono (by decide)) (by rfl) T.g_law_take T.F_law_take.kp T.bb_law_take .nil pass0 (pa_cons (pv 1) (pa_cons pe_int pa_nil))) (fun _ _ => rfl)))
      (pss_cons (ps_set (i := 5) sclaw.nd rfl (Or.inl rfl) (pe_make T.mk_Hand (ok_Hand_init T) (hr.mono (by decide)) (by rfl) T.g_Hand T.bb_Hand_init .nil pass0 (pa_cons (pv 3) (pa_cons (pv 4) pa_nil))))
      (C8.pss_cut (ps_set (i := 6) sclaw.nd rfl (Or.inr rfl) (pe_op op_add pe_int (pe_ix (ixL (K := K)) (pe_lst (pa_cons (pe_call (ok_law_take T) (hr.mono (by decide)) (by rfl) T.g_law_take T.F_law_take.kp T.bb_law_take .nil pass0 (pa_cons (pv 1) (pa_cons pe_int pa_nil))) (pa_cons (pe_call (ok_law_below T) (hr.mono (by decide)) (by rfl) T.g_law_below T.F_law_below.kp T.bb_law_below .nil pass0 (pa_cons (pv 1) (pa_cons (pe_op op_pow pe_int pe_int) pa_nil))) pa_nil))) (pe_call (ok_law_take T) (hr.mono (by decide)) (by rfl) T.g_law_take T.F_law_take.kp T.bb_law_take .nil pass0 (pa_cons (pv 1) (pa_cons pe_int pa_nil))) (fun _ _ => rfl))))
      (C8.pss_cut (ps_set (i := 7) sclaw.nd rfl (Or.inr rfl) (pe_op op_mulW (pe_call (ok_law_below T) (hr.mono (by decide)) (by rfl) T.g_law_below T.F_law_below.kp T.bb_law_below .nil pass0 (pa_cons (pv 1) (pa_cons (pe_op op_pow pe_int pe_int) pa_nil))) (pe_ix (ixL (K := K)) (pe_lst (pa_cons pe_int (pa_cons (pe_un un_neg pe_int) pa_nil))) (pe_call (ok_law_take T) (hr.mono (by decide)) (by rfl) T.g_law_take T.F_law_take.kp T.bb_law_take .nil pass0 (pa_cons (pv 1) (pa_cons pe_int pa_nil))) (fun _ _ => rfl))))
      (C8.pss_cut (ps_set (i := 8) sclaw.nd rfl (Or.inr rfl) (pe_op op_sub (pe_call (ok_law_take T) (hr.mono (by decide)) (by rfl) T.g_law_take T.F_law_take.kp T.bb_law_take .nil pass0 (pa_cons (pv 1) (pa_cons pe_int pa_nil))) pe_int))
      (pss_cons (ps_set (i := 9) sclaw.nd rfl (Or.inl rfl) (pe_make T.mk_Hand (ok_Hand_init T) (hr.mono (by decide)) (by rfl) T.g_Hand T.bb_Hand_init .nil pass0 (pa_cons (pe_op op_mulW (pv 3) (pv 6)) (pa_cons (pe_lc (own := [("spot", 10), ("there", 11)]) (g := gTup K 2 (gCons (gName 10) (gCons (gName 11) gNil))) (tt := tYes) rfl sclaw.nd (pi_list (pv 4)) (blkOk_by (own := [("spot", 10), ("there", 11)]) (N := N_law) (sc := defScope slaw) (by decide +kernel)) (fun _ _ _ _ _ => (tupK (K := K) (by rfl) (pgs_cons (pg_name (i := 10) sclaw.nd rfl (Or.inl rfl)) (pgs_cons (pg_name (i := 11) sclaw.nd rfl (Or.inl rfl)) pgs_nil)))) (fun _ _ _ _ _ => pts_nil) (fun _ _ _ _ _ => (pe_tup (pa_cons (pe_op op_mulW (pv 10) (pv 6)) (pa_cons (pe_op op_mulW (pv 11) (pv 6)) pa_nil))))) pa_nil))))
      (C8.pss_cut (ps_if (pt_not (pt_val (pe_call (ok_law_broad_right T) (hr.mono (by decide)) (by rfl) T.g_law_broad_right T.F_law_broad_right.kp T.bb_law_broad_right .nil pass0 (pa_cons (pv 1) (pa_cons (pv 3) (pa_cons (pv 5) (pa_cons (pv 9) (pa_cons (pv 6) pa_nil)))))))) (pss_one (ps_ret pe_bl)) pss_nil)
      (pss_cons (ps_set (i := 12) sclaw.nd rfl (Or.inl rfl) (pe_make T.mk_Hand (ok_Hand_init T) (hr.mono (by decide)) (by rfl) T.g_Hand T.bb_Hand_init .nil pass0 (pa_cons (pv 3) (pa_cons (pe_lc (own := [("spot", 10), ("there", 11)]) (g := gTup K 2 (gCons (gName 10) (gCons (gName 11) gNil))) (tt := tYes) rfl sclaw.nd (pi_list (pv 4)) (blkOk_by (own := [("spot", 10), ("there", 11)]) (N := N_law) (sc := defScope slaw) (by decide +kernel)) (fun _ _ _ _ _ => (tupK (K := K) (by rfl) (pgs_cons (pg_name (i := 10) sclaw.nd rfl (Or.inl rfl)) (pgs_cons (pg_name (i := 11) sclaw.nd rfl (Or.inl rfl)) pgs_nil)))) (fun _ _ _ _ _ => pts_nil) (fun _ _ _ _ _ => (pe_tup (pa_cons (pe_op op_add (pv 10) (pv 7)) (pa_cons (pe_op op_add (pv 11) (pv 7)) pa_nil))))) pa_nil))))
      (C8.pss_cut (ps_if (pt_not (pt_val (pe_call (ok_law_moved_right T) (hr.mono (by decide)) (by rfl) T.g_law_moved_right T.F_law_moved_right.kp T.bb_law_moved_right .nil pass0 (pa_cons (pv 1) (pa_cons (pv 3) (pa_cons (pv 5) (pa_cons (pv 12) (pa_cons (pv 7) pa_nil)))))))) (pss_one (ps_ret pe_bl)) pss_nil)
      (pss_cons (ps_set (i := 13) sclaw.nd rfl (Or.inl rfl) (pe_make T.mk_Hand (ok_Hand_init T) (hr.mono (by decide)) (by rfl) T.g_Hand T.bb_Hand_init .nil pass0 (pa_cons (pv 3) (pa_cons (pe_lc (own := [("spot", 10), ("there", 11)]) (g := gTup K 2 (gCons (gName 10) (gCons (gName 11) gNil))) (tt := tYes) rfl sclaw.nd (pi_list (pv 4)) (blkOk_by (own := [("spot", 10), ("there", 11)]) (N := N_law) (sc := defScope slaw) (by decide +kernel)) (fun _ _ _ _ _ => (tupK (K := K) (by rfl) (pgs_cons (pg_name (i := 10) sclaw.nd rfl (Or.inl rfl)) (pgs_cons (pg_name (i := 11) sclaw.nd rfl (Or.inl rfl)) pgs_nil)))) (fun _ _ _ _ _ => pts_nil) (fun _ _ _ _ _ => (pe_tup (pa_cons (pv 10) (pa_cons (pe_op op_add (pv 11) (pe_op op_mulW (pv 8) (pv 3))) pa_nil))))) pa_nil))))
      (pss_one (ps_if (PW.pt (pw_or (pt_cmpR (neDK (K := K) hr.units) (pe_meth0 (pv 13) T.cl_Hand T.m_Hand_homes (ok_Hand_homes T) (hr.mono (by decide)) T.bb_Hand_homes .nil pass0) (pe_meth0 (pv 5) T.cl_Hand T.m_Hand_homes (ok_Hand_homes T) (hr.mono (by decide)) T.bb_Hand_homes .nil pass0) (nomark _)) (pw_or1 (pt_cmpR (neDK (K := K) hr.units) (pe_meth0 (pv 13) T.cl_Hand T.m_Hand_gates (ok_Hand_gates T) (hr.mono (by decide)) T.bb_Hand_gates .nil pass0) (pe_meth0 (pv 5) T.cl_Hand T.m_Hand_gates (ok_Hand_gates T) (hr.mono (by decide)) T.bb_Hand_gates .nil pass0) (nomark _))))) (pss_one (ps_ret pe_bl)) pss_nil))))))))))))))
      (pss_one (ps_ret pe_bl)))), ?_⟩
    refine ⟨_, rfl, a, ns, rfl, hS, hlen, fun H0 t g T0 S0 ht hg => ?_⟩
    refine ⟨_, rfl, a, _, rfl, .inl (Same.sqL S0 hS), _, _, rfl, _, _, rfl, rfl, ?_⟩
    obtain ⟨cut, hcut⟩ : ∃ cut, cut = (if ((ns.map V.int).length : Int) < 5 then ((ns.map V.int).length : Int) else 5) := ⟨_, rfl⟩
    have hc0 : 0 ≤ cut := by rw [hcut]; split <;> omega
    have hc4 : cut ≤ 5 := by rw [hcut]; split <;> omega
    refine ⟨2 + cut, by rw [hcut], by omega, by omega, ?_⟩
    refine for_range (n := (2 + cut).toNat) (fun i σ' H' => ∃ (u2 u3 u4 u5 u6 u7 u8 u9 u12 u13 : Option V), σ' = [some (.ref a), some (.ref t), u2, u3, u4, u5, u6, u7, u8, u9, none, none, u12, u13] ∧ Tray H' t g (20000 * i)) ⟨_, _, _, _, _, _, _, _, _, _, rfl, T0⟩ ?_ ?_
    rotate_left
    · rintro σ' H' ⟨_, _, _, _, _, _, _, _, _, _, rfl, _⟩
      exact k H'
    rintro i σ' H1 hi ⟨u2, u3, u4, u5, u6, u7, u8, u9, u12, u13, rfl, T1⟩
    have hn : ∀ m, m ≤ 20000 * i + 20000 → m < 2 ^ 40 := fun m hm => Nat.lt_of_le_of_lt (by omega : m ≤ 2000000) (by decide)
    obtain ⟨N, eN⟩ : ∃ N, N = 20000 * i := ⟨_, rfl⟩
    have eN2 : 20000 * (i + 1) = N + 20000 := by omega
    rw [eN2]
    rw [← eN] at T1 hn
    have h60 : ∀ m, m ≤ N + 20000 → m < 2 ^ 60 := fun m hm => Nat.lt_trans (hn m hm) (by decide)
    have h59 : ∀ m, m ≤ N + 20000 → m < 2 ^ 59 := fun m hm => Nat.lt_trans (hn m hm) (by decide)
    have A1 : At H1 H1 t g N := ⟨T1, Keep.refl _ _ _⟩
    -- wide
    refine ⟨fun σ' H' => ∃ L : Int, σ' = [some (.ref a), some (.ref t), some (.int (0 + (i : Nat))), some (.int L), u4, u5, u6, u7, u8, u9, none, none, u12, u13] ∧ 0 < L ∧ L ≤ 10 ^ 10 ∧ At H1 H' t g (N + 70), ?_, ?_⟩
    · refine ⟨_, rfl, t, g, N, 6, rfl, T1, by decide, by decide, h60 _ (by omega), fun H2 c1 c10 c11 T2 k2 => ?_⟩
      have A2 := A1.step T2 k2
      refine ⟨_, _, rfl, rfl, _, rfl, t, g, N + 1, 40, rfl, A2.T, by decide, by decide, h60 _ (by omega), fun H3 c2 c20 c21 T3 k3 => ?_⟩
      have A3 := A2.step T3 k3
      refine ⟨_, _, rfl, rfl, _, rfl, _, _, rfl, rfl, ⟨by decide, by decide, by decide⟩, t, g, N + 2, _, rfl, A3.T, by decide, by decide, h59 _ (by omega), fun H4 c3 c30 c31 T4 k4 => ?_⟩
      have A4 := A3.step T4 k4
      refine ⟨_, _, rfl, rfl, (by show 3 ≤ sizeLine; decide), fun q hq => ?_⟩
      obtain ⟨qt, qg⟩ := A4.T.at_ne hq
      have A5 := A4.new (o := HO.lst [V.int (1 + c1), .int (1 + c2), .int (1 + c3)]) hq
      refine ⟨_, rfl, t, g, N + 62, 3, rfl, A5.T, by decide, by decide, h60 _ (by omega), fun H6 c c0 c1' T6 k6 => ?_⟩
      have A6 := A5.step T6 k6
      have e10 : (10 : Int) ^ (10 : Int).toNat = 10000000000 := by decide
      rw [e10] at c31
      obtain ⟨L, hLa, hL0, hL1⟩ : ∃ L : Int, atI [V.int (1 + c1), .int (1 + c2), .int (1 + c3)] c = some (.int L) ∧ 0 < L ∧ L ≤ 10000000000 := by
        have : c = 0 ∨ c = 1 ∨ c = 2 := by omega
        rcases this with e | e | e <;> subst e
        · exact ⟨_, rfl, by omega, by omega⟩
        · exact ⟨_, rfl, by omega, by omega⟩
        · exact ⟨_, rfl, by omega, by omega⟩
      refine ⟨q, _, _, _, rfl, rfl, SqL.of (k6 _ _ upd_same qt qg), hLa, ?_⟩
      exact ⟨L, rfl, hL0, by have e : (10 : Int) ^ 10 = 10000000000 := by decide
                             rw [e]; exact hL1, A6.up (by omega)⟩
    rintro σ2 H2 ⟨L, rfl, hL, hL10, A2⟩
    have hL30 : L ≤ 10 ^ 30 := by
      have e : (10 : Int) ^ 10 = 10000000000 := by decide
      have e2 : (10 : Int) ^ 30 = 1000000000000000000000000000000 := by decide
      rw [e] at hL10; rw [e2]; omega
    have hLb : L.natAbs < 2 ^ 40 := by
      have e : (10 : Int) ^ 10 = 10000000000 := by decide
      have e2 : (2 : Nat) ^ 40 = 1099511627776 := by decide
      rw [e] at hL10; rw [e2]; omega
    have hLb2 : L.natAbs < 2 ^ 200 := lt_up hLb (by decide)
    have T2 := A2.T
    -- pairs
    refine ⟨_, rfl, _, rfl, t, g, N + 70, L, rfl, T2, Nat.lt_trans (hn _ (by omega)) (by decide), hL, hL30, fun H3 p prs hp B3 lp hp0 hp24 hpsz => ?_⟩
    obtain ⟨pt, pg⟩ := T2.at_ne hp
    refine ⟨_, rfl, _, rfl, t, g, N + 9070, L, 24, rfl, B3.T, Nat.lt_trans (hn _ (by omega)) (by decide), hL, hL30, by decide, by decide, fun H4 q2 p2 r2 spots on tu B4 hq2 hp2 lp2 hr2 SP hsp24 hon htu hplsz => ?_⟩
    obtain ⟨p2t, p2g⟩ := B3.T.at_ne hp2
    have lp4 := lp.keep B3.T B4.k pt pg (noLs_map noL_encP prs)
    refine ⟨_, _, _, _, rfl, rfl, hq2, rfl, (by show 2 ≤ sizeLine; decide), fun l hl => ?_⟩
    obtain ⟨lt, lg⟩ := B4.T.at_ne hl
    have S5 := same_upd (o := HO.lst [V.ref p, .ref p2]) hl
    have gl : (upd H4 l (HO.lst [V.ref p, .ref p2])) l = some (HO.lst [V.ref p, .ref p2]) := upd_same
    have lp5 := lp4.same S5
    have lp25 := lp2.same S5
    have T5 := B4.T.same S5
    generalize upd H4 l (HO.lst [V.ref p, .ref p2]) = H5 at S5 gl lp5 lp25 T5 ⊢
    refine ⟨_, rfl, t, g, N + 11100, 2, rfl, T5.up (by omega), by decide, by decide, h60 _ (by omega), fun H6 c c0 c1 T6 k6 => ?_⟩
    have lp6 := lp5.keep T5 k6 pt pg (noLs_map noL_encP prs)
    have lp26 := lp25.keep T5 k6 p2t p2g (noLs_map noL_encP _)
    obtain ⟨pp, ss, hat, lss6, ppt, ppg, hs0, hs24, hssz⟩ : ∃ (pp : Addr) (ss : List Pr), atI [V.ref p, .ref p2] c = some (.ref pp) ∧ LAt K H6 pp (ss.map encP) ∧ pp ≠ t ∧ pp ≠ g ∧ 0 < ss.length ∧ ss.length ≤ 24 ∧ (∀ s ∈ ss, SzP 110 s) := by
      have : c = 0 ∨ c = 1 := by omega
      rcases this with e | e <;> subst e
      · exact ⟨p, prs, rfl, lp6, pt, pg, hp0, hp24, hpsz⟩
      · exact ⟨p2, _, rfl, lp26, p2t, p2g, by rw [plant_len]; exact SP.ne, by rw [plant_len]; omega, hplsz⟩
    refine ⟨l, _, _, _, rfl, rfl, SqL.of (k6 _ _ gl lt lg), hat, ?_⟩
    have nls := noLs_map noL_encP ss
    have hs28 : ss.length ≤ 28 := by omega
    have ss12 : ∀ s ∈ ss, SzP 112 s := fun s hs => ⟨lt_up (hssz s hs).1 (by decide), lt_up (hssz s hs).2 (by decide)⟩
    have ss2 : ∀ s ∈ ss, SzP 200 s := fun s hs => ⟨lt_up (hssz s hs).1 (by decide), lt_up (hssz s hs).2 (by decide)⟩
    have F := ld_hand hL hs0
    clear lp6 lp26 lp5 lp25 lp4 B4 lp2 lp hr2
    -- hand
    refine ⟨_, rfl, _, rfl, fun h dx hhn hdx hne => ?_⟩
    have Sm : Same H6 (upd (upd H6 dx (.own h)) h (.ins Z.C_Hand dx [])) := same_made hhn hdx
    refine ⟨h, dx, .ref pp, L, ss, rfl, upd_same, (lss6.same Sm).dp, hs0, hs28, hL, hLb2, fun s hs => ⟨lt_up (hssz s hs).1 (by decide), lt_up (hssz s hs).2 (by decide)⟩, fun H7 d b HA7 f1 f2 O7 => ⟨rfl, ?_⟩⟩
    have S7 : Same H6 H7 := fun c o e => O7 c o (Sm c o e) (ne_of_none e hhn)
    have A7 : At H7 H7 t g (N + 11101) := ⟨T6.same S7, Keep.refl _ _ _⟩
    have hA7 : HAt Z K H7 h d b L ss t g := ⟨HA7, fun la dx' e => T6.at_ne (Sm.free (f1 la dx' e)), fun la dx' e => T6.at_ne (Sm.free (f2 la dx' e))⟩
    have lss7 := lss6.same S7
    clear Sm O7 S7 lss6
    -- times
    refine ⟨fun σ' H' => ∃ ti : Int, σ' = [some (.ref a), some (.ref t), some (.int (0 + (i : Nat))), some (.int L), some (.ref pp), some (.ref h), some (.int ti), u7, u8, u9, none, none, u12, u13] ∧ 0 < ti ∧ ti.natAbs < 2 ^ 70 ∧ At H7 H' t g (N + 11163), ?_, ?_⟩
    · refine ⟨_, rfl, t, g, N + 11101, 9, rfl, A7.T, by decide, by decide, h60 _ (by omega), fun H8 m1 m10 m11 T8 k8 => ?_⟩
      have A8 := A7.step T8 k8
      refine ⟨_, rfl, _, _, rfl, rfl, ⟨by decide, by decide, by decide⟩, t, g, N + 11102, _, rfl, A8.T, by decide, by decide, h59 _ (by omega), fun H9 m2 m20 m21 T9 k9 => ?_⟩
      have A9 := A8.step T9 k9
      refine ⟨(by show 2 ≤ sizeLine; decide), fun q hq => ?_⟩
      obtain ⟨qt, qg⟩ := A9.T.at_ne hq
      have A10 := A9.new (o := HO.lst [V.int m1, .int m2]) hq
      refine ⟨_, rfl, t, g, N + 11162, 2, rfl, A10.T, by decide, by decide, h60 _ (by omega), fun H11 c c0 c1' T11 k11 => ?_⟩
      have A11 := A10.step T11 k11
      have e19 : (10 : Int) ^ (19 : Int).toNat = 10000000000000000000 := by decide
      rw [e19] at m21
      obtain ⟨ti, hti, ti0, ti1⟩ : ∃ ti : Int, atI [V.int m1, .int m2] c = some (.int ti) ∧ 0 ≤ ti ∧ ti < 10000000000000000000 := by
        have : c = 0 ∨ c = 1 := by omega
        rcases this with e | e <;> subst e
        · exact ⟨_, rfl, by omega, by omega⟩
        · exact ⟨_, rfl, by omega, by omega⟩
      refine ⟨q, _, _, _, rfl, rfl, SqL.of (k11 _ _ upd_same qt qg), hti, _, _, rfl, rfl, ?_⟩
      refine ⟨1 + ti, rfl, by omega, ?_, A11⟩
      have e2 : (2 : Nat) ^ 70 = 1180591620717411303424 := by decide
      rw [e2]; omega
    rintro σ8 H8 ⟨ti, rfl, ht0, htb, A8⟩
    -- by
    refine ⟨fun σ' H' => ∃ by' : Int, σ' = [some (.ref a), some (.ref t), some (.int (0 + (i : Nat))), some (.int L), some (.ref pp), some (.ref h), some (.int ti), some (.int by'), u8, u9, none, none, u12, u13] ∧ by'.natAbs < 2 ^ 90 ∧ At H7 H' t g (N + 11224), ?_, ?_⟩
    · refine ⟨_, rfl, _, _, rfl, rfl, ⟨by decide, by decide, by decide⟩, t, g, N + 11163, _, rfl, A8.T, by decide, by decide, h59 _ (by omega), fun H9 m2 m20 m21 T9 k9 => ?_⟩
      have A9 := A8.step T9 k9
      refine ⟨_, rfl, (by show 2 ≤ sizeLine; decide), fun q hq => ?_⟩
      obtain ⟨qt, qg⟩ := A9.T.at_ne hq
      have A10 := A9.new (o := HO.lst [V.int 1, .int (-1)]) hq
      refine ⟨_, rfl, t, g, N + 11223, 2, rfl, A10.T, by decide, by decide, h60 _ (by omega), fun H11 c c0 c1' T11 k11 => ?_⟩
      have A11 := A10.step T11 k11
      have e25 : (10 : Int) ^ (25 : Int).toNat = 10000000000000000000000000 := by decide
      rw [e25] at m21
      have m2b : m2.natAbs < 2 ^ 89 := by
        have e2 : (2 : Nat) ^ 89 = 618970019642690137449562112 := by decide
        rw [e2]; omega
      obtain ⟨z, hz, hzb⟩ : ∃ z : Int, atI [V.int 1, .int (-1)] c = some (.int z) ∧ z.natAbs < 2 ^ 1 := by
        have : c = 0 ∨ c = 1 := by omega
        rcases this with e | e <;> subst e
        · exact ⟨1, rfl, by decide⟩
        · exact ⟨-1, rfl, by decide⟩
      refine ⟨q, _, _, _, rfl, rfl, SqL.of (k11 _ _ upd_same qt qg), hz, _, _, rfl, rfl, wide_mul m2b hzb (by decide) (by decide) (by decide), ?_⟩
      refine ⟨m2 * z, rfl, ?_, A11⟩
      rw [Int.natAbs_mul]
      exact Nat.lt_of_lt_of_le (Nat.mul_lt_mul'' m2b hzb) (by decide)
    rintro σ9 H9 ⟨by', rfl, hbb, A9⟩
    -- turns
    refine ⟨fun σ' H' => ∃ kt : Int, σ' = [some (.ref a), some (.ref t), some (.int (0 + (i : Nat))), some (.int L), some (.ref pp), some (.ref h), some (.int ti), some (.int by'), some (.int kt), u9, none, none, u12, u13] ∧ kt.natAbs < 2 ^ 4 ∧ At H7 H' t g (N + 11225), ?_, ?_⟩
    · refine ⟨_, rfl, t, g, N + 11224, 9, rfl, A9.T, by decide, by decide, h60 _ (by omega), fun H10 m1 m10 m11 T10 k10 => ?_⟩
      refine ⟨_, _, rfl, rfl, ?_⟩
      exact ⟨m1 - 4, rfl, Nat.lt_of_le_of_lt (by omega : _ ≤ 4) (by decide), A9.step T10 k10⟩
    rintro σ10 H10 ⟨kt, rfl, hkb, A10⟩
    have hA10 := hA7.keep A7.T A10.k
    have lss10 := lss7.keep A7.T A10.k ppt ppg nls
    -- broad
    obtain ⟨pv, pv1, pv2⟩ := id lss10
    have hpvl : pv.length = ss.length := by rw [dpAll_len pv2, List.length_map]
    have hLtb : (L * ti).natAbs < 2 ^ 110 := by rw [Int.natAbs_mul]; exact Nat.lt_of_lt_of_le (Nat.mul_lt_mul'' hLb htb) (by decide)
    refine ⟨_, rfl, _, rfl, _, _, rfl, rfl, wide_mul hLb htb (by decide) (by decide) (by decide), _, rfl, pp, rfl, ⟨_, SqL.of pv1⟩, fun D hD => ?_⟩
    refine lc_list (K := K) (a := pp) (xs := pv) (fun i' H' => Same H10 H' ∧ ∃ ys, H' D = some (.lst ys) ∧ ys.length = i' ∧ DpAll K H' ys (((ss.take i').map (scP ti)).map encP)) ⟨same_upd hD, [], upd_same, rfl, .nil⟩ (fun i' H' _ ⟨S, _⟩ => SqL.of (S _ _ pv1)) ?_ ?_
    · rintro i' y H11 hi' ⟨S11, ys, gD, hyl, hyd⟩
      obtain ⟨dd, hdi, hdy⟩ := dpAll_get pv2 hi'
      obtain ⟨s', hs', rfl⟩ := map_at hdi
      have hi24 : i' < 24 := by
        have := (List.getElem?_eq_some_iff.mp hs').1
        omega
      have es := hssz s' (List.mem_of_getElem? hs')
      obtain ⟨p', rfl, hp'⟩ := dp_pair (dp_mono S11 _ _ hdy)
      refine ⟨_, _, rfl, hp', rfl, _, _, rfl, _, _, rfl, rfl, rfl, yes_ite ?_⟩
      refine ⟨_, rfl, _, rfl, _, _, rfl, rfl, wide_mul es.1 htb (by decide) (by decide) (by decide), _, rfl, _, rfl, _, _, rfl, rfl, wide_mul es.2 htb (by decide) (by decide) (by decide), (by show 2 ≤ sizeLine; decide), fun q' hq' => ?_⟩
      have Sq := same_upd (o := HO.tup [V.int (s'.1 * ti), .int (s'.2 * ti)]) hq'
      refine ⟨ys, Sq _ _ gD, small1000 (by omega), same_set (S11.trans Sq) hD, _, upd_same, by simp [hyl], ?_⟩
      rw [take_snoc hs', List.map_append, List.map_append]
      exact acc_step (Sq _ _ gD) (noLs_map noL_encP _) rfl (dpAll_mono Sq _ _ hyd) (.tup (SqT.of upd_same) (.cons (.int _) (.cons (.int _) .nil)))
    rintro H11 ⟨S11, ys, gD, hyl, hyd⟩
    rw [List.take_of_length_le (by omega)] at hyd
    have hdp : Dp K H11 (.ref D) (.list ((ss.map (scP ti)).map encP)) := .lst (SqL.of gD) hyd
    have qsz : ∀ s ∈ ss.map (scP ti), SzP 200 s := fun s hs => by
      obtain ⟨s0, hs0', rfl⟩ := List.mem_map.mp hs
      have e := hssz s0 hs0'
      refine ⟨?_, ?_⟩
      · show (s0.1 * ti).natAbs < _
        rw [Int.natAbs_mul]; exact Nat.lt_of_lt_of_le (Nat.mul_lt_mul'' e.1 htb) (by decide)
      · show (s0.2 * ti).natAbs < _
        rw [Int.natAbs_mul]; exact Nat.lt_of_lt_of_le (Nat.mul_lt_mul'' e.2 htb) (by decide)
    refine fun h2 dx2 hhn2 hdx2 hne2 => ?_
    have Sm2 : Same H11 (upd (upd H11 dx2 (.own h2)) h2 (.ins Z.C_Hand dx2 [])) := same_made hhn2 hdx2
    refine ⟨h2, dx2, .ref D, L * ti, _, rfl, upd_same, dp_mono Sm2 _ _ hdp, by rw [List.length_map]; exact hs0, by rw [List.length_map]; exact hs28, Int.mul_pos hL ht0, lt_up hLtb (by decide), fun s hs => ⟨lt_up (qsz s hs).1 (by decide), lt_up (qsz s hs).2 (by decide)⟩, fun H12 d2 b2 HA12 f3 f4 O12 => ⟨rfl, ?_⟩⟩
    have S12 : Same H11 H12 := fun c o e => O12 c o (Sm2 c o e) (ne_of_none e hhn2)
    have A11 := A10.sm S11
    have hB12 : HAt Z K H12 h2 d2 b2 (L * ti) (ss.map (scP ti)) t g := ⟨HA12, fun la dx' e => A11.T.at_ne (Sm2.free (f3 la dx' e)), fun la dx' e => A11.T.at_ne (Sm2.free (f4 la dx' e))⟩
    have A12 := A11.sm S12
    have hA12 := (hA10.same S11).same S12
    have lss12 := (lss10.same S11).same S12
    refine ⟨fun σ' H' => σ' = [some (.ref a), some (.ref t), some (.int (0 + (i : Nat))), some (.int L), some (.ref pp), some (.ref h), some (.int ti), some (.int by'), some (.int kt), some (.ref h2), none, none, u12, u13] ∧ At H7 H' t g (N + 12825) ∧ HAt Z K H' h d b L ss t g ∧ LAt K H' pp (ss.map encP), ?_, ?_⟩
    · refine ⟨_, rfl, _, rfl, _, rfl, _, rfl, _, rfl, t, g, h, d, b, h2, d2, b2, N + 11225, L, ti, ss, rfl, A12.T, hn _ (by omega), hL, hLb, ht0, htb, hA12, hB12, hs0, hs28, ss12, fun H13 T13 k13 => ⟨_, rfl, iteF ⟨rfl, A12.step T13 k13, hA12.keep A12.T k13, lss12.keep A12.T k13 ppt ppg nls⟩⟩⟩
    clear hB12 A12 hA12 lss12 A11 Sm2 O12 S12 S11 hyd gD hdp qsz A10 hA10 lss10 pv1 pv2 hpvl f3 f4 HA12
    rintro σ13 H13 ⟨rfl, A13, hA13, lss13⟩
    -- moved
    obtain ⟨pv, pv1, pv2⟩ := id lss13
    have hpvl : pv.length = ss.length := by rw [dpAll_len pv2, List.length_map]
    refine ⟨_, rfl, _, rfl, pp, rfl, ⟨_, SqL.of pv1⟩, fun D hD => ?_⟩
    refine lc_list (K := K) (a := pp) (xs := pv) (fun i' H' => Same H13 H' ∧ ∃ ys, H' D = some (.lst ys) ∧ ys.length = i' ∧ DpAll K H' ys (((ss.take i').map (mvP by')).map encP)) ⟨same_upd hD, [], upd_same, rfl, .nil⟩ (fun i' H' _ ⟨S, _⟩ => SqL.of (S _ _ pv1)) ?_ ?_
    · rintro i' y H14 hi' ⟨S14, ys, gD, hyl, hyd⟩
      obtain ⟨dd, hdi, hdy⟩ := dpAll_get pv2 hi'
      obtain ⟨s', hs', rfl⟩ := map_at hdi
      have hi24 : i' < 24 := by
        have := (List.getElem?_eq_some_iff.mp hs').1
        omega
      obtain ⟨p', rfl, hp'⟩ := dp_pair (dp_mono S14 _ _ hdy)
      refine ⟨_, _, rfl, hp', rfl, _, _, rfl, _, _, rfl, rfl, rfl, yes_ite ?_⟩
      refine ⟨_, rfl, _, rfl, _, _, rfl, rfl, _, rfl, _, rfl, _, _, rfl, rfl, (by show 2 ≤ sizeLine; decide), fun q' hq' => ?_⟩
      have Sq := same_upd (o := HO.tup [V.int (s'.1 + by'), .int (s'.2 + by')]) hq'
      refine ⟨ys, Sq _ _ gD, small1000 (by omega), same_set (S14.trans Sq) hD, _, upd_same, by simp [hyl], ?_⟩
      rw [take_snoc hs', List.map_append, List.map_append]
      exact acc_step (Sq _ _ gD) (noLs_map noL_encP _) rfl (dpAll_mono Sq _ _ hyd) (.tup (SqT.of upd_same) (.cons (.int _) (.cons (.int _) .nil)))
    rintro H14 ⟨S14, ys, gD, hyl, hyd⟩
    rw [List.take_of_length_le (by omega)] at hyd
    have hdp : Dp K H14 (.ref D) (.list ((ss.map (mvP by')).map encP)) := .lst (SqL.of gD) hyd
    have qsz : ∀ s ∈ ss.map (mvP by'), SzP 200 s := fun s hs => by
      obtain ⟨s0, hs0', rfl⟩ := List.mem_map.mp hs
      have e := hssz s0 hs0'
      exact ⟨lt_up (add_lt e.1 (lt_up hbb (by decide))) (by decide), lt_up (add_lt e.2 (lt_up hbb (by decide))) (by decide)⟩
    refine fun h3 dx3 hhn3 hdx3 hne3 => ?_
    have Sm3 : Same H14 (upd (upd H14 dx3 (.own h3)) h3 (.ins Z.C_Hand dx3 [])) := same_made hhn3 hdx3
    refine ⟨h3, dx3, .ref D, L, _, rfl, upd_same, dp_mono Sm3 _ _ hdp, by rw [List.length_map]; exact hs0, by rw [List.length_map]; exact hs28, hL, hLb2, fun s hs => ⟨lt_up (qsz s hs).1 (by decide), lt_up (qsz s hs).2 (by decide)⟩, fun H15 d3 b3 HA15 f3 f4 O15 => ⟨rfl, ?_⟩⟩
    have S15 : Same H14 H15 := fun c o e => O15 c o (Sm3 c o e) (ne_of_none e hhn3)
    have A14 := A13.sm S14
    have hB15 : HAt Z K H15 h3 d3 b3 L (ss.map (mvP by')) t g := ⟨HA15, fun la dx' e => A14.T.at_ne (Sm3.free (f3 la dx' e)), fun la dx' e => A14.T.at_ne (Sm3.free (f4 la dx' e))⟩
    have A15 := A14.sm S15
    have hA15 := (hA13.same S14).same S15
    have lss15 := (lss13.same S14).same S15
    refine ⟨fun σ' H' => σ' = [some (.ref a), some (.ref t), some (.int (0 + (i : Nat))), some (.int L), some (.ref pp), some (.ref h), some (.int ti), some (.int by'), some (.int kt), some (.ref h2), none, none, some (.ref h3), u13] ∧ At H7 H' t g (N + 13225) ∧ HAt Z K H' h d b L ss t g ∧ LAt K H' pp (ss.map encP), ?_, ?_⟩
    · refine ⟨_, rfl, _, rfl, _, rfl, _, rfl, _, rfl, t, g, h, d, b, h3, d3, b3, N + 12825, L, by', ss, rfl, A15.T, hn _ (by omega), hL, hLb, hbb, hA15, hB15, hs0, hs28, ss12, fun H16 T16 k16 => ⟨_, rfl, iteF ⟨rfl, A15.step T16 k16, hA15.keep A15.T k16, lss15.keep A15.T k16 ppt ppg nls⟩⟩⟩
    clear hB15 A15 hA15 lss15 A14 Sm3 O15 S15 S14 hyd gD hdp qsz A13 hA13 lss13 pv1 pv2 hpvl f3 f4 HA15
    rintro σ16 H16 ⟨rfl, A16, hA16, lss16⟩
    -- more
    obtain ⟨pv, pv1, pv2⟩ := id lss16
    have hpvl : pv.length = ss.length := by rw [dpAll_len pv2, List.length_map]
    have ktb : (kt * L).natAbs < 2 ^ 50 := by rw [Int.natAbs_mul]; exact Nat.lt_of_lt_of_le (Nat.mul_lt_mul'' hkb hLb) (by decide)
    refine ⟨_, rfl, _, rfl, pp, rfl, ⟨_, SqL.of pv1⟩, fun D hD => ?_⟩
    refine lc_list (K := K) (a := pp) (xs := pv) (fun i' H' => Same H16 H' ∧ ∃ ys, H' D = some (.lst ys) ∧ ys.length = i' ∧ DpAll K H' ys (((ss.take i').map fun s => ((s.1, s.2 + kt * L) : Pr)).map encP)) ⟨same_upd hD, [], upd_same, rfl, .nil⟩ (fun i' H' _ ⟨S, _⟩ => SqL.of (S _ _ pv1)) ?_ ?_
    · rintro i' y H17 hi' ⟨S17, ys, gD, hyl, hyd⟩
      obtain ⟨dd, hdi, hdy⟩ := dpAll_get pv2 hi'
      obtain ⟨s', hs', rfl⟩ := map_at hdi
      have hi24 : i' < 24 := by
        have := (List.getElem?_eq_some_iff.mp hs').1
        omega
      obtain ⟨p', rfl, hp'⟩ := dp_pair (dp_mono S17 _ _ hdy)
      refine ⟨_, _, rfl, hp', rfl, _, _, rfl, _, _, rfl, rfl, rfl, yes_ite ?_⟩
      refine ⟨_, rfl, _, rfl, _, rfl, _, rfl, _, _, rfl, rfl, wide_mul hkb hLb (by decide) (by decide) (by decide), _, _, rfl, rfl, (by show 2 ≤ sizeLine; decide), fun q' hq' => ?_⟩
      have Sq := same_upd (o := HO.tup [V.int s'.1, .int (s'.2 + kt * L)]) hq'
      refine ⟨ys, Sq _ _ gD, small1000 (by omega), same_set (S17.trans Sq) hD, _, upd_same, by simp [hyl], ?_⟩
      rw [take_snoc hs', List.map_append, List.map_append]
      exact acc_step (Sq _ _ gD) (noLs_map noL_encP _) rfl (dpAll_mono Sq _ _ hyd) (.tup (SqT.of upd_same) (.cons (.int _) (.cons (.int _) .nil)))
    rintro H17 ⟨S17, ys, gD, hyl, hyd⟩
    rw [List.take_of_length_le (by omega)] at hyd
    have hdp : Dp K H17 (.ref D) (.list ((ss.map fun s => ((s.1, s.2 + kt * L) : Pr)).map encP)) := .lst (SqL.of gD) hyd
    have qsz : ∀ s ∈ ss.map fun s => ((s.1, s.2 + kt * L) : Pr), SzP 200 s := fun s hs => by
      obtain ⟨s0, hs0', rfl⟩ := List.mem_map.mp hs
      have e := hssz s0 hs0'
      exact ⟨lt_up e.1 (by decide), lt_up (add_lt e.2 (lt_up ktb (by decide))) (by decide)⟩
    have em := farther_ld hL hs0 kt
    have q0 : 0 < (ss.map fun s => ((s.1, s.2 + kt * L) : Pr)).length := by rw [List.length_map]; exact hs0
    have q28 : (ss.map fun s => ((s.1, s.2 + kt * L) : Pr)).length ≤ 28 := by rw [List.length_map]; exact hs28
    generalize (ss.map fun s => ((s.1, s.2 + kt * L) : Pr)) = qs at hdp qsz em q0 q28
    refine fun h4 dx4 hhn4 hdx4 hne4 => ?_
    have Sm4 : Same H17 (upd (upd H17 dx4 (.own h4)) h4 (.ins Z.C_Hand dx4 [])) := same_made hhn4 hdx4
    refine ⟨h4, dx4, .ref D, L, qs, rfl, upd_same, dp_mono Sm4 _ _ hdp, q0, q28, hL, hLb2, fun s hs => ⟨lt_up (qsz s hs).1 (by decide), lt_up (qsz s hs).2 (by decide)⟩, fun H18 d4 b4 HA18 f3 f4 O18 => ⟨rfl, ?_⟩⟩
    have S18 : Same H17 H18 := fun c o e => O18 c o (Sm4 c o e) (ne_of_none e hhn4)
    have A18 := (A16.sm S17).sm S18
    have hA18 := (hA16.same S17).same S18
    obtain ⟨pr, PO⟩ := pace_ex hL hs0
    have PO' := pace_farther F PO kt
    have F' := ld_hand hL q0
    obtain ⟨dxa, gha⟩ := hA18.A.ex
    obtain ⟨dxb, ghb⟩ := HA18.ex
    have PQ : PaceOf L (ld L qs) (pr.1 + kt * pr.2, pr.2) := by rw [em]; exact PO'
    have same_homes : ∀ {Y1 Y2 : Int → Prop} {hs1 hs2 : List Int}, Homes L (ld L qs) Y1 hs1 → Homes L (ld L ss) Y2 hs2 → hs1 = hs2 := fun {Y1 Y2 hs1 hs2} M1 M2 => by
      rw [em] at M1
      refine rise_ext M1.rise M2.rise fun z => ?_
      rw [M1.mem, M2.mem, per_farther F]
    refine ⟨_, rfl, h4, dxb, _, rfl, ghb, hf_no d4 b4 (m := "homes") (by decide +kernel) (by decide +kernel), h4, d4, b4, L, qs, rfl, HA18, q0, fun p3 hs1 H19 _ S19 g19 M1 _ => ?_⟩
    refine ⟨_, rfl, h, dxa, _, rfl, S19 _ _ gha, hf_no d b (m := "homes") (by decide +kernel) (by decide +kernel), h, d, b, L, ss, rfl, hA18.A.same S19, hs0, fun p4 hs2 H20 _ S20 g20 M2 _ => ?_⟩
    obtain rfl : hs1 = hs2 := same_homes M1 M2
    refine ⟨_, _, .lst (SqL.of (S20 _ _ g19)) (dpAll_ints hs1), .lst (SqL.of g20) (dpAll_ints hs1), shaped_ints _, shaped_ints _, _, rfl, ?_⟩
    rw [SeqAt.eqv_refl _ (SeqAt.canLay_of_shaped (shaped_ints _))]
    refine iteF ?_
    have S21 := S19.trans S20
    refine ⟨_, rfl, h4, dxb, _, rfl, S21 _ _ ghb, hf_no d4 b4 (m := "gates") (by decide +kernel) (by decide +kernel), h4, d4, b4, L, qs, 200, rfl, HA18.same S21, q0, q28, hLb2, by decide, by decide, qsz, fun p5 xs5 H22 hs3 bs3 _ S22 g22 dp22 M3 B3' _ => ?_⟩
    refine ⟨_, rfl, h, dxa, _, rfl, S22 _ _ (S21 _ _ gha), hf_no d b (m := "gates") (by decide +kernel) (by decide +kernel), h, d, b, L, ss, 200, rfl, (hA18.A.same S21).same S22, hs0, hs28, hLb2, by decide, by decide, ss2, fun p6 xs6 H23 hs4 bs4 _ S23 g23 dp23 M4 B4' _ => ?_⟩
    obtain rfl : hs3 = hs4 := same_homes M3 M4
    have eg : gatesOf L bs3 hs3 = gatesOf L bs4 hs3 := by
      have h1 := gates_eq (L := L) (L' := L) (f' := ld L qs) (pr := (pr.1 + kt * pr.2, pr.2)) (hs := hs3) (bs := bs4) (bs' := bs3) (fun z => z) (fun z hz => gate_at hL F' (bkf_hand hL q0) (bkf_adj hL q0) PQ (bk_pace hL q0 PQ) M3 B3' hz) (fun z hz => by
        rw [em]
        exact gate_farther F kt PO.pos (gate_at hL F (bkf_hand hL hs0) (bkf_adj hL hs0) PO (bk_pace hL hs0 PO) M4 B4' hz))
      rw [List.map_id' hs3] at h1
      rw [h1]
      exact List.map_id' _
    rw [eg] at dp22
    refine ⟨_, _, .lst (SqL.of (S23 _ _ g22)) (dpAll_mono S23 _ _ dp22), .lst (SqL.of g23) dp23, shaped_prs2 _, shaped_prs2 _, _, rfl, ?_⟩
    rw [SeqAt.eqv_refl _ (SeqAt.canLay_of_shaped (shaped_prs2 _))]
    exact iteF ⟨_, _, _, _, _, _, _, _, _, _, rfl, ((A18.sm S21).sm (S22.trans S23)).T.up (by omega)⟩
end
end KA
namespace KA
open PySem PySem.Spec PyProof.Rows L2 DP
theorem g11_of {α : Type} : ∀ {us ws : List α}, (g11 us ws).length = 2 → ∃ a b, us = [a] ∧ ws = [b]
  | [a], [b], _ => ⟨a, b, rfl, rfl⟩
  | [], _, h => nomatch (show (0 : Nat) = 2 from h)
  | [_], [], h => nomatch (show (0 : Nat) = 2 from h)
  | [_], _ :: _ :: _, h => nomatch (show (0 : Nat) = 2 from h)
  | _ :: _ :: _, _, h => nomatch (show (0 : Nat) = 2 from h)
theorem sqt2 {K : PySem.W.Frag} {H : Hp} {t : Addr} {x y : Str} {o : Option Addr} {u v : Tok} {n : Nat} {s : Array (Option Value)} (l : K.lookup t = some ⟨.type "tuple", o, .seq #[.str x u, .str y v] n, s⟩) : SqT K H t [.str x, .str y] :=
  .inr ⟨_, _, n, l, rfl, rfl, (by show 2 ≤ sizeLine; decide), .cons ⟨u, rfl⟩ (.cons ⟨v, rfl⟩ .nil)⟩
theorem sqt3 {K : PySem.W.Frag} {H : Hp} {t : Addr} {x y z : Str} {o : Option Addr} {u v q : Tok} {n : Nat} {s : Array (Option Value)} (l : K.lookup t = some ⟨.type "tuple", o, .seq #[.str x u, .str y v, .str z q] n, s⟩) : SqT K H t [.str x, .str y, .str z] :=
  .inr ⟨_, _, n, l, rfl, rfl, (by show 3 ≤ sizeLine; decide), .cons ⟨u, rfl⟩ (.cons ⟨v, rfl⟩ (.cons ⟨q, rfl⟩ .nil))⟩
theorem all_mk {l : PySem.W.OpenLaw} {w : World} {K : PySem.W.Frag} {h : Heap} {mg : Str → Option Value} {fa : Addr} (X : K.In h) (G : h.Ns mainGlobals mg) (hfa : mg "law" = some (.ref fa))
    {C : Addr}
    {C_Hand : Addr}
    {C_Walk : Addr}
    {f0 : Addr} {od0 an0 : Option Addr} {sl0 : Array (Option Value)} {oc0 kV0 dc0 pm0 cd0 ct0 : Value}
    {f1 : Addr} {od1 an1 : Option Addr} {sl1 : Array (Option Value)} {oc1 kV1 dc1 pm1 cd1 ct1 : Value}
    {f2 : Addr} {od2 an2 : Option Addr} {sl2 : Array (Option Value)} {oc2 kV2 dc2 pm2 cd2 ct2 : Value}
    {f3 : Addr} {od3 an3 : Option Addr} {sl3 : Array (Option Value)} {oc3 kV3 dc3 pm3 cd3 ct3 : Value}
    {f4 : Addr} {od4 an4 : Option Addr} {sl4 : Array (Option Value)} {oc4 kV4 dc4 pm4 cd4 ct4 : Value}
    {f5 : Addr} {od5 an5 : Option Addr} {sl5 : Array (Option Value)} {oc5 kV5 dc5 pm5 cd5 ct5 : Value}
    {f6 : Addr} {od6 an6 : Option Addr} {sl6 : Array (Option Value)} {oc6 kV6 dc6 pm6 cd6 ct6 : Value}
    {f7 : Addr} {od7 an7 : Option Addr} {sl7 : Array (Option Value)} {oc7 kV7 dc7 pm7 cd7 ct7 : Value}
    {f8 : Addr} {od8 an8 : Option Addr} {sl8 : Array (Option Value)} {oc8 kV8 dc8 pm8 cd8 ct8 : Value}
    {f9 : Addr} {od9 an9 : Option Addr} {sl9 : Array (Option Value)} {oc9 kV9 dc9 pm9 cd9 ct9 : Value}
    {f10 : Addr} {od10 an10 : Option Addr} {sl10 : Array (Option Value)} {oc10 kV10 dc10 pm10 cd10 ct10 : Value}
    {f11 : Addr} {od11 an11 : Option Addr} {sl11 : Array (Option Value)} {oc11 kV11 dc11 pm11 cd11 ct11 : Value}
    {f12 : Addr} {od12 an12 : Option Addr} {sl12 : Array (Option Value)} {oc12 kV12 dc12 pm12 cd12 ct12 : Value}
    {f13 : Addr} {od13 an13 : Option Addr} {sl13 : Array (Option Value)} {oc13 kV13 dc13 pm13 cd13 ct13 : Value}
    {f14 : Addr} {od14 an14 : Option Addr} {sl14 : Array (Option Value)} {oc14 kV14 dc14 pm14 cd14 ct14 : Value}
    {f15 : Addr} {od15 an15 : Option Addr} {sl15 : Array (Option Value)} {oc15 kV15 dc15 pm15 cd15 ct15 : Value}
    {f16 : Addr} {od16 an16 : Option Addr} {sl16 : Array (Option Value)} {oc16 kV16 dc16 pm16 cd16 ct16 : Value}
    {f17 : Addr} {od17 an17 : Option Addr} {sl17 : Array (Option Value)} {oc17 kV17 dc17 pm17 cd17 ct17 : Value}
    {f18 : Addr} {od18 an18 : Option Addr} {sl18 : Array (Option Value)} {oc18 kV18 dc18 pm18 cd18 ct18 : Value}
    {f19 : Addr} {od19 an19 : Option Addr} {sl19 : Array (Option Value)} {oc19 kV19 dc19 pm19 cd19 ct19 : Value}
    {f20 : Addr} {od20 an20 : Option Addr} {sl20 : Array (Option Value)} {oc20 kV20 dc20 pm20 cd20 ct20 : Value}
    {f21 : Addr} {od21 an21 : Option Addr} {sl21 : Array (Option Value)} {oc21 kV21 dc21 pm21 cd21 ct21 : Value}
    {f22 : Addr} {od22 an22 : Option Addr} {sl22 : Array (Option Value)} {oc22 kV22 dc22 pm22 cd22 ct22 : Value}
    {f23 : Addr} {od23 an23 : Option Addr} {sl23 : Array (Option Value)} {oc23 kV23 dc23 pm23 cd23 ct23 : Value}
    {f24 : Addr} {od24 an24 : Option Addr} {sl24 : Array (Option Value)} {oc24 kV24 dc24 pm24 cd24 ct24 : Value}
    {f25 : Addr} {od25 an25 : Option Addr} {sl25 : Array (Option Value)} {oc25 kV25 dc25 pm25 cd25 ct25 : Value}
    {f26 : Addr} {od26 an26 : Option Addr} {sl26 : Array (Option Value)} {oc26 kV26 dc26 pm26 cd26 ct26 : Value}
    {f27 : Addr} {od27 an27 : Option Addr} {sl27 : Array (Option Value)} {oc27 kV27 dc27 pm27 cd27 ct27 : Value}
    {f28 : Addr} {od28 an28 : Option Addr} {sl28 : Array (Option Value)} {oc28 kV28 dc28 pm28 cd28 ct28 : Value}
    {f29 : Addr} {od29 an29 : Option Addr} {sl29 : Array (Option Value)} {oc29 kV29 dc29 pm29 cd29 ct29 : Value}
    {f30 : Addr} {od30 an30 : Option Addr} {sl30 : Array (Option Value)} {oc30 kV30 dc30 pm30 cd30 ct30 : Value}
    {f31 : Addr} {od31 an31 : Option Addr} {sl31 : Array (Option Value)} {oc31 kV31 dc31 pm31 cd31 ct31 : Value}
    {f32 : Addr} {od32 an32 : Option Addr} {sl32 : Array (Option Value)} {oc32 kV32 dc32 pm32 cd32 ct32 : Value}
    {f33 : Addr} {od33 an33 : Option Addr} {sl33 : Array (Option Value)} {oc33 kV33 dc33 pm33 cd33 ct33 : Value}
    {f34 : Addr} {od34 an34 : Option Addr} {sl34 : Array (Option Value)} {oc34 kV34 dc34 pm34 cd34 ct34 : Value}
    {f35 : Addr} {od35 an35 : Option Addr} {sl35 : Array (Option Value)} {oc35 kV35 dc35 pm35 cd35 ct35 : Value}
    {f36 : Addr} {od36 an36 : Option Addr} {sl36 : Array (Option Value)} {oc36 kV36 dc36 pm36 cd36 ct36 : Value}
    {f37 : Addr} {od37 an37 : Option Addr} {sl37 : Array (Option Value)} {oc37 kV37 dc37 pm37 cd37 ct37 : Value}
    {f38 : Addr} {od38 an38 : Option Addr} {sl38 : Array (Option Value)} {oc38 kV38 dc38 pm38 cd38 ct38 : Value}
    {f39 : Addr} {od39 an39 : Option Addr} {sl39 : Array (Option Value)} {oc39 kV39 dc39 pm39 cd39 ct39 : Value}
    {f40 : Addr} {od40 an40 : Option Addr} {sl40 : Array (Option Value)} {oc40 kV40 dc40 pm40 cd40 ct40 : Value}
    {dT40 : Addr} {dcl40 : Value} {dod40 : Option Addr} {dn40 : Nat} {dsl40 : Array (Option Value)} {dk40_0 : Tok}
    {f41 : Addr} {od41 an41 : Option Addr} {sl41 : Array (Option Value)} {oc41 kV41 dc41 pm41 cd41 ct41 : Value}
    {f42 : Addr} {od42 an42 : Option Addr} {sl42 : Array (Option Value)} {oc42 kV42 dc42 pm42 cd42 ct42 : Value}
    {f43 : Addr} {od43 an43 : Option Addr} {sl43 : Array (Option Value)} {oc43 kV43 dc43 pm43 cd43 ct43 : Value}
    {f44 : Addr} {od44 an44 : Option Addr} {sl44 : Array (Option Value)} {oc44 kV44 dc44 pm44 cd44 ct44 : Value}
    {f45 : Addr} {od45 an45 : Option Addr} {sl45 : Array (Option Value)} {oc45 kV45 dc45 pm45 cd45 ct45 : Value}
    {f46 : Addr} {od46 an46 : Option Addr} {sl46 : Array (Option Value)} {oc46 kV46 dc46 pm46 cd46 ct46 : Value}
    {f47 : Addr} {od47 an47 : Option Addr} {sl47 : Array (Option Value)} {oc47 kV47 dc47 pm47 cd47 ct47 : Value}
    {tSLOW : Tok}
    {tFAST : Tok}
    {aW aL tS tF : Addr} {es : Array DictEntry} {nW n1 n2 n3 : Nat} {o1 o2 o3 : Option Addr} {s1 s2 s3 : Array (Option Value)} {u1 u2 u3 u4 u5 u6 u7 : Tok}
    (aC : PySem.W.nsIn K mainGlobals "Dark" = some (some (.ref C)))
    (aC_Hand : PySem.W.nsIn K mainGlobals "Hand" = some (some (.ref C_Hand)))
    (aC_Walk : PySem.W.nsIn K mainGlobals "Walk" = some (some (.ref C_Walk)))
    (a0 : PySem.W.nsIn K mainGlobals "_law_deck" = some (some (.ref f0)))
    (l0 : K.lookup f0 = some ⟨oc0, od0, .func (PySem.W.fnOf "_law_deck" "_law_deck" (defArgs slaw_deck) (defBody slaw_deck) (defScope slaw_deck) .none kV0 dc0 pm0 an0 cd0 ct0), sl0⟩)
    (c0 : PySem.W.codeIn K cd0 "_law_deck" = true)
    (k0 : PySem.W.keepIn K (.ref f0) = true)
    (a1 : PySem.W.nsIn K mainGlobals "_law_take" = some (some (.ref f1)))
    (l1 : K.lookup f1 = some ⟨oc1, od1, .func (PySem.W.fnOf "_law_take" "_law_take" (defArgs slaw_take) (defBody slaw_take) (defScope slaw_take) .none kV1 dc1 pm1 an1 cd1 ct1), sl1⟩)
    (c1 : PySem.W.codeIn K cd1 "_law_take" = true)
    (k1 : PySem.W.keepIn K (.ref f1) = true)
    (a2 : PySem.W.nsIn K mainGlobals "_law_below" = some (some (.ref f2)))
    (l2 : K.lookup f2 = some ⟨oc2, od2, .func (PySem.W.fnOf "_law_below" "_law_below" (defArgs slaw_below) (defBody slaw_below) (defScope slaw_below) .none kV2 dc2 pm2 an2 cd2 ct2), sl2⟩)
    (c2 : PySem.W.codeIn K cd2 "_law_below" = true)
    (k2 : PySem.W.keepIn K (.ref f2) = true)
    (a3 : PySem.W.nsIn K mainGlobals "_law_hidden" = some (some (.ref f3)))
    (l3 : K.lookup f3 = some ⟨oc3, od3, .func (PySem.W.fnOf "_law_hidden" "_law_hidden" (defArgs slaw_hidden) (defBody slaw_hidden) (defScope slaw_hidden) .none kV3 dc3 pm3 an3 cd3 ct3), sl3⟩)
    (c3 : PySem.W.codeIn K cd3 "_law_hidden" = true)
    (k3 : PySem.W.keepIn K (.ref f3) = true)
    (a4 : PySem.W.nsIn K mainGlobals "_law_steps_of" = some (some (.ref f4)))
    (l4 : K.lookup f4 = some ⟨oc4, od4, .func (PySem.W.fnOf "_law_steps_of" "_law_steps_of" (defArgs slaw_steps_of) (defBody slaw_steps_of) (defScope slaw_steps_of) .none kV4 dc4 pm4 an4 cd4 ct4), sl4⟩)
    (c4 : PySem.W.codeIn K cd4 "_law_steps_of" = true)
    (k4 : PySem.W.keepIn K (.ref f4) = true)
    (a5 : PySem.W.nsIn K mainGlobals "_law_planted" = some (some (.ref f5)))
    (l5 : K.lookup f5 = some ⟨oc5, od5, .func (PySem.W.fnOf "_law_planted" "_law_planted" (defArgs slaw_planted) (defBody slaw_planted) (defScope slaw_planted) .none kV5 dc5 pm5 an5 cd5 ct5), sl5⟩)
    (c5 : PySem.W.codeIn K cd5 "_law_planted" = true)
    (k5 : PySem.W.keepIn K (.ref f5) = true)
    (a6 : PySem.W.nsIn K mainGlobals "_law_broad_right" = some (some (.ref f6)))
    (l6 : K.lookup f6 = some ⟨oc6, od6, .func (PySem.W.fnOf "_law_broad_right" "_law_broad_right" (defArgs slaw_broad_right) (defBody slaw_broad_right) (defScope slaw_broad_right) .none kV6 dc6 pm6 an6 cd6 ct6), sl6⟩)
    (c6 : PySem.W.codeIn K cd6 "_law_broad_right" = true)
    (k6 : PySem.W.keepIn K (.ref f6) = true)
    (a7 : PySem.W.nsIn K mainGlobals "_law_moved_right" = some (some (.ref f7)))
    (l7 : K.lookup f7 = some ⟨oc7, od7, .func (PySem.W.fnOf "_law_moved_right" "_law_moved_right" (defArgs slaw_moved_right) (defBody slaw_moved_right) (defScope slaw_moved_right) .none kV7 dc7 pm7 an7 cd7 ct7), sl7⟩)
    (c7 : PySem.W.codeIn K cd7 "_law_moved_right" = true)
    (k7 : PySem.W.keepIn K (.ref f7) = true)
    (a8 : PySem.W.nsIn K mainGlobals "side_looks" = some (some (.ref f8)))
    (l8 : K.lookup f8 = some ⟨oc8, od8, .func (PySem.W.fnOf "side_looks" "side_looks" (defArgs sside_looks) (defBody sside_looks) (defScope sside_looks) .none kV8 dc8 pm8 an8 cd8 ct8), sl8⟩)
    (c8 : PySem.W.codeIn K cd8 "side_looks" = true)
    (k8 : PySem.W.keepIn K (.ref f8) = true)
    (a9 : PySem.W.nsIn K mainGlobals "round_looks" = some (some (.ref f9)))
    (l9 : K.lookup f9 = some ⟨oc9, od9, .func (PySem.W.fnOf "round_looks" "round_looks" (defArgs sround_looks) (defBody sround_looks) (defScope sround_looks) .none kV9 dc9 pm9 an9 cd9 ct9), sl9⟩)
    (c9 : PySem.W.codeIn K cd9 "round_looks" = true)
    (k9 : PySem.W.keepIn K (.ref f9) = true)
    (a10 : PySem.W.nsIn K mainGlobals "place_by" = some (some (.ref f10)))
    (l10 : K.lookup f10 = some ⟨oc10, od10, .func (PySem.W.fnOf "place_by" "place_by" (defArgs splace_by) (defBody splace_by) (defScope splace_by) .none kV10 dc10 pm10 an10 cd10 ct10), sl10⟩)
    (c10 : PySem.W.codeIn K cd10 "place_by" = true)
    (k10 : PySem.W.keepIn K (.ref f10) = true)
    (a11 : PySem.W.nsIn K mainGlobals "best_step" = some (some (.ref f11)))
    (l11 : K.lookup f11 = some ⟨oc11, od11, .func (PySem.W.fnOf "best_step" "best_step" (defArgs sbest_step) (defBody sbest_step) (defScope sbest_step) .none kV11 dc11 pm11 an11 cd11 ct11), sl11⟩)
    (c11 : PySem.W.codeIn K cd11 "best_step" = true)
    (k11 : PySem.W.keepIn K (.ref f11) = true)
    (a12 : PySem.W.findIn K (.ref C_Walk) "__init__" = some (some (.ref f12)))
    (i12 : PySem.W.isFn K (.ref f12) = true)
    (l12 : K.lookup f12 = some ⟨oc12, od12, .func (PySem.W.fnOf "__init__" "Walk.__init__" (defArgs sWalk_init) (defBody sWalk_init) (defScope sWalk_init) .none kV12 dc12 pm12 an12 cd12 ct12), sl12⟩)
    (c12 : PySem.W.codeIn K cd12 "Walk.__init__" = true)
    (k12 : PySem.W.keepIn K (.ref f12) = true)
    (a13 : PySem.W.findIn K (.ref C_Walk) "_follow" = some (some (.ref f13)))
    (i13 : PySem.W.isFn K (.ref f13) = true)
    (l13 : K.lookup f13 = some ⟨oc13, od13, .func (PySem.W.fnOf "_follow" "Walk._follow" (defArgs sWalkfollow) (defBody sWalkfollow) (defScope sWalkfollow) .none kV13 dc13 pm13 an13 cd13 ct13), sl13⟩)
    (c13 : PySem.W.codeIn K cd13 "Walk._follow" = true)
    (k13 : PySem.W.keepIn K (.ref f13) = true)
    (a14 : PySem.W.findIn K (.ref C_Walk) "period" = some (some (.ref f14)))
    (i14 : PySem.W.isFn K (.ref f14) = true)
    (l14 : K.lookup f14 = some ⟨oc14, od14, .func (PySem.W.fnOf "period" "Walk.period" (defArgs sWalk_period) (defBody sWalk_period) (defScope sWalk_period) .none kV14 dc14 pm14 an14 cd14 ct14), sl14⟩)
    (c14 : PySem.W.codeIn K cd14 "Walk.period" = true)
    (k14 : PySem.W.keepIn K (.ref f14) = true)
    (a15 : PySem.W.findIn K (.ref C_Walk) "climb" = some (some (.ref f15)))
    (i15 : PySem.W.isFn K (.ref f15) = true)
    (l15 : K.lookup f15 = some ⟨oc15, od15, .func (PySem.W.fnOf "climb" "Walk.climb" (defArgs sWalk_climb) (defBody sWalk_climb) (defScope sWalk_climb) .none kV15 dc15 pm15 an15 cd15 ct15), sl15⟩)
    (c15 : PySem.W.codeIn K cd15 "Walk.climb" = true)
    (k15 : PySem.W.keepIn K (.ref f15) = true)
    (a16 : PySem.W.findIn K (.ref C_Walk) "behind" = some (some (.ref f16)))
    (i16 : PySem.W.isFn K (.ref f16) = true)
    (l16 : K.lookup f16 = some ⟨oc16, od16, .func (PySem.W.fnOf "behind" "Walk.behind" (defArgs sWalk_behind) (defBody sWalk_behind) (defScope sWalk_behind) .none kV16 dc16 pm16 an16 cd16 ct16), sl16⟩)
    (c16 : PySem.W.codeIn K cd16 "Walk.behind" = true)
    (k16 : PySem.W.keepIn K (.ref f16) = true)
    (a17 : PySem.W.findIn K (.ref C_Walk) "reach" = some (some (.ref f17)))
    (i17 : PySem.W.isFn K (.ref f17) = true)
    (l17 : K.lookup f17 = some ⟨oc17, od17, .func (PySem.W.fnOf "reach" "Walk.reach" (defArgs sWalk_reach) (defBody sWalk_reach) (defScope sWalk_reach) .none kV17 dc17 pm17 an17 cd17 ct17), sl17⟩)
    (c17 : PySem.W.codeIn K cd17 "Walk.reach" = true)
    (k17 : PySem.W.keepIn K (.ref f17) = true)
    (a18 : PySem.W.nsIn K mainGlobals "check_round" = some (some (.ref f18)))
    (l18 : K.lookup f18 = some ⟨oc18, od18, .func (PySem.W.fnOf "check_round" "check_round" (defArgs scheck_round) (defBody scheck_round) (defScope scheck_round) .none kV18 dc18 pm18 an18 cd18 ct18), sl18⟩)
    (c18 : PySem.W.codeIn K cd18 "check_round" = true)
    (k18 : PySem.W.keepIn K (.ref f18) = true)
    (a19 : PySem.W.nsIn K mainGlobals "place_behind" = some (some (.ref f19)))
    (l19 : K.lookup f19 = some ⟨oc19, od19, .func (PySem.W.fnOf "place_behind" "place_behind" (defArgs splace_behind) (defBody splace_behind) (defScope splace_behind) .none kV19 dc19 pm19 an19 cd19 ct19), sl19⟩)
    (c19 : PySem.W.codeIn K cd19 "place_behind" = true)
    (k19 : PySem.W.keepIn K (.ref f19) = true)
    (a20 : PySem.W.nsIn K mainGlobals "least_behind" = some (some (.ref f20)))
    (l20 : K.lookup f20 = some ⟨oc20, od20, .func (PySem.W.fnOf "least_behind" "least_behind" (defArgs sleast_behind) (defBody sleast_behind) (defScope sleast_behind) .none kV20 dc20 pm20 an20 cd20 ct20), sl20⟩)
    (c20 : PySem.W.codeIn K cd20 "least_behind" = true)
    (k20 : PySem.W.keepIn K (.ref f20) = true)
    (a21 : PySem.W.nsIn K mainGlobals "most_uses" = some (some (.ref f21)))
    (l21 : K.lookup f21 = some ⟨oc21, od21, .func (PySem.W.fnOf "most_uses" "most_uses" (defArgs smost_uses) (defBody smost_uses) (defScope smost_uses) .none kV21 dc21 pm21 an21 cd21 ct21), sl21⟩)
    (c21 : PySem.W.codeIn K cd21 "most_uses" = true)
    (k21 : PySem.W.keepIn K (.ref f21) = true)
    (a22 : PySem.W.nsIn K mainGlobals "lowest" = some (some (.ref f22)))
    (l22 : K.lookup f22 = some ⟨oc22, od22, .func (PySem.W.fnOf "lowest" "lowest" (defArgs slowest) (defBody slowest) (defScope slowest) .none kV22 dc22 pm22 an22 cd22 ct22), sl22⟩)
    (c22 : PySem.W.codeIn K cd22 "lowest" = true)
    (k22 : PySem.W.keepIn K (.ref f22) = true)
    (a23 : PySem.W.nsIn K mainGlobals "side_pace" = some (some (.ref f23)))
    (l23 : K.lookup f23 = some ⟨oc23, od23, .func (PySem.W.fnOf "side_pace" "side_pace" (defArgs sside_pace) (defBody sside_pace) (defScope sside_pace) .none kV23 dc23 pm23 an23 cd23 ct23), sl23⟩)
    (c23 : PySem.W.codeIn K cd23 "side_pace" = true)
    (k23 : PySem.W.keepIn K (.ref f23) = true)
    (a24 : PySem.W.nsIn K mainGlobals "too_far" = some (some (.ref f24)))
    (l24 : K.lookup f24 = some ⟨oc24, od24, .func (PySem.W.fnOf "too_far" "too_far" (defArgs stoo_far) (defBody stoo_far) (defScope stoo_far) .none kV24 dc24 pm24 an24 cd24 ct24), sl24⟩)
    (c24 : PySem.W.codeIn K cd24 "too_far" = true)
    (k24 : PySem.W.keepIn K (.ref f24) = true)
    (a25 : PySem.W.nsIn K mainGlobals "clash" = some (some (.ref f25)))
    (l25 : K.lookup f25 = some ⟨oc25, od25, .func (PySem.W.fnOf "clash" "clash" (defArgs sclash) (defBody sclash) (defScope sclash) .none kV25 dc25 pm25 an25 cd25 ct25), sl25⟩)
    (c25 : PySem.W.codeIn K cd25 "clash" = true)
    (k25 : PySem.W.keepIn K (.ref f25) = true)
    (a26 : PySem.W.findIn K (.ref C) "__init__" = some (some (.ref f26)))
    (i26 : PySem.W.isFn K (.ref f26) = true)
    (l26 : K.lookup f26 = some ⟨oc26, od26, .func (PySem.W.fnOf "__init__" "Dark.__init__" (defArgs sDark_init) (defBody sDark_init) (defScope sDark_init) .none kV26 dc26 pm26 an26 cd26 ct26), sl26⟩)
    (c26 : PySem.W.codeIn K cd26 "Dark.__init__" = true)
    (k26 : PySem.W.keepIn K (.ref f26) = true)
    (a27 : PySem.W.findIn K (.ref C) "length" = some (some (.ref f27)))
    (i27 : PySem.W.isFn K (.ref f27) = true)
    (l27 : K.lookup f27 = some ⟨oc27, od27, .func (PySem.W.fnOf "length" "Dark.length" (defArgs sDark_length) (defBody sDark_length) (defScope sDark_length) .none kV27 dc27 pm27 an27 cd27 ct27), sl27⟩)
    (c27 : PySem.W.codeIn K cd27 "Dark.length" = true)
    (k27 : PySem.W.keepIn K (.ref f27) = true)
    (a28 : PySem.W.findIn K (.ref C) "hear" = some (some (.ref f28)))
    (i28 : PySem.W.isFn K (.ref f28) = true)
    (l28 : K.lookup f28 = some ⟨oc28, od28, .func (PySem.W.fnOf "hear" "Dark.hear" (defArgs sDark_hear) (defBody sDark_hear) (defScope sDark_hear) .none kV28 dc28 pm28 an28 cd28 ct28), sl28⟩)
    (c28 : PySem.W.codeIn K cd28 "Dark.hear" = true)
    (k28 : PySem.W.keepIn K (.ref f28) = true)
    (a29 : PySem.W.findIn K (.ref C) "looks" = some (some (.ref f29)))
    (i29 : PySem.W.isFn K (.ref f29) = true)
    (l29 : K.lookup f29 = some ⟨oc29, od29, .func (PySem.W.fnOf "looks" "Dark.looks" (defArgs sDark_looks) (defBody sDark_looks) (defScope sDark_looks) .none kV29 dc29 pm29 an29 cd29 ct29), sl29⟩)
    (c29 : PySem.W.codeIn K cd29 "Dark.looks" = true)
    (k29 : PySem.W.keepIn K (.ref f29) = true)
    (a30 : PySem.W.findIn K (.ref C) "least" = some (some (.ref f30)))
    (i30 : PySem.W.isFn K (.ref f30) = true)
    (l30 : K.lookup f30 = some ⟨oc30, od30, .func (PySem.W.fnOf "least" "Dark.least" (defArgs sDark_least) (defBody sDark_least) (defScope sDark_least) .none kV30 dc30 pm30 an30 cd30 ct30), sl30⟩)
    (c30 : PySem.W.codeIn K cd30 "Dark.least" = true)
    (k30 : PySem.W.keepIn K (.ref f30) = true)
    (a31 : PySem.W.findIn K (.ref C) "greatest" = some (some (.ref f31)))
    (i31 : PySem.W.isFn K (.ref f31) = true)
    (l31 : K.lookup f31 = some ⟨oc31, od31, .func (PySem.W.fnOf "greatest" "Dark.greatest" (defArgs sDark_greatest) (defBody sDark_greatest) (defScope sDark_greatest) .none kV31 dc31 pm31 an31 cd31 ct31), sl31⟩)
    (c31 : PySem.W.codeIn K cd31 "Dark.greatest" = true)
    (k31 : PySem.W.keepIn K (.ref f31) = true)
    (a32 : PySem.W.findIn K (.ref C) "_bound" = some (some (.ref f32)))
    (i32 : PySem.W.isFn K (.ref f32) = true)
    (l32 : K.lookup f32 = some ⟨oc32, od32, .func (PySem.W.fnOf "_bound" "Dark._bound" (defArgs sDarkbound) (defBody sDarkbound) (defScope sDarkbound) .none kV32 dc32 pm32 an32 cd32 ct32), sl32⟩)
    (c32 : PySem.W.codeIn K cd32 "Dark._bound" = true)
    (k32 : PySem.W.keepIn K (.ref f32) = true)
    (a33 : PySem.W.findIn K (.ref C) "led_back" = some (some (.ref f33)))
    (i33 : PySem.W.isFn K (.ref f33) = true)
    (l33 : K.lookup f33 = some ⟨oc33, od33, .func (PySem.W.fnOf "led_back" "Dark.led_back" (defArgs sDark_led_back) (defBody sDark_led_back) (defScope sDark_led_back) .none kV33 dc33 pm33 an33 cd33 ct33), sl33⟩)
    (c33 : PySem.W.codeIn K cd33 "Dark.led_back" = true)
    (k33 : PySem.W.keepIn K (.ref f33) = true)
    (a34 : PySem.W.findIn K (.ref C) "_check_word" = some (some (.ref f34)))
    (i34 : PySem.W.isFn K (.ref f34) = true)
    (l34 : K.lookup f34 = some ⟨oc34, od34, .func (PySem.W.fnOf "_check_word" "Dark._check_word" (defArgs sDarkcheck_word) (defBody sDarkcheck_word) (defScope sDarkcheck_word) .none kV34 dc34 pm34 an34 cd34 ct34), sl34⟩)
    (c34 : PySem.W.codeIn K cd34 "Dark._check_word" = true)
    (k34 : PySem.W.keepIn K (.ref f34) = true)
    (a35 : PySem.W.findIn K (.ref C) "_home" = some (some (.ref f35)))
    (i35 : PySem.W.isFn K (.ref f35) = true)
    (l35 : K.lookup f35 = some ⟨oc35, od35, .func (PySem.W.fnOf "_home" "Dark._home" (defArgs sDarkhome) (defBody sDarkhome) (defScope sDarkhome) .none kV35 dc35 pm35 an35 cd35 ct35), sl35⟩)
    (c35 : PySem.W.codeIn K cd35 "Dark._home" = true)
    (k35 : PySem.W.keepIn K (.ref f35) = true)
    (a36 : PySem.W.findIn K (.ref C) "_clashing" = some (some (.ref f36)))
    (i36 : PySem.W.isFn K (.ref f36) = true)
    (l36 : K.lookup f36 = some ⟨oc36, od36, .func (PySem.W.fnOf "_clashing" "Dark._clashing" (defArgs sDarkclashing) (defBody sDarkclashing) (defScope sDarkclashing) .none kV36 dc36 pm36 an36 cd36 ct36), sl36⟩)
    (c36 : PySem.W.codeIn K cd36 "Dark._clashing" = true)
    (k36 : PySem.W.keepIn K (.ref f36) = true)
    (a37 : PySem.W.findIn K (.ref C_Hand) "__init__" = some (some (.ref f37)))
    (i37 : PySem.W.isFn K (.ref f37) = true)
    (l37 : K.lookup f37 = some ⟨oc37, od37, .func (PySem.W.fnOf "__init__" "Hand.__init__" (defArgs sHand_init) (defBody sHand_init) (defScope sHand_init) .none kV37 dc37 pm37 an37 cd37 ct37), sl37⟩)
    (c37 : PySem.W.codeIn K cd37 "Hand.__init__" = true)
    (k37 : PySem.W.keepIn K (.ref f37) = true)
    (a38 : PySem.W.findIn K (.ref C_Hand) "length" = some (some (.ref f38)))
    (i38 : PySem.W.isFn K (.ref f38) = true)
    (l38 : K.lookup f38 = some ⟨oc38, od38, .func (PySem.W.fnOf "length" "Hand.length" (defArgs sHand_length) (defBody sHand_length) (defScope sHand_length) .none kV38 dc38 pm38 an38 cd38 ct38), sl38⟩)
    (c38 : PySem.W.codeIn K cd38 "Hand.length" = true)
    (k38 : PySem.W.keepIn K (.ref f38) = true)
    (a39 : PySem.W.findIn K (.ref C_Hand) "steps" = some (some (.ref f39)))
    (i39 : PySem.W.isFn K (.ref f39) = true)
    (l39 : K.lookup f39 = some ⟨oc39, od39, .func (PySem.W.fnOf "steps" "Hand.steps" (defArgs sHand_steps) (defBody sHand_steps) (defScope sHand_steps) .none kV39 dc39 pm39 an39 cd39 ct39), sl39⟩)
    (c39 : PySem.W.codeIn K cd39 "Hand.steps" = true)
    (k39 : PySem.W.keepIn K (.ref f39) = true)
    (a40 : PySem.W.findIn K (.ref C_Hand) "lead" = some (some (.ref f40)))
    (i40 : PySem.W.isFn K (.ref f40) = true)
    (l40 : K.lookup f40 = some ⟨oc40, od40, .func (PySem.W.fnOf "lead" "Hand.lead" (defArgs sHand_lead) (defBody sHand_lead) (defScope sHand_lead) (.ref dT40) kV40 dc40 pm40 an40 cd40 ct40), sl40⟩)
    (c40 : PySem.W.codeIn K cd40 "Hand.lead" = true)
    (k40 : PySem.W.keepIn K (.ref f40) = true)
    (dt40 : K.lookup dT40 = some ⟨dcl40, dod40, .seq #[.int 1 dk40_0] dn40, dsl40⟩)
    (a41 : PySem.W.findIn K (.ref C_Hand) "pace" = some (some (.ref f41)))
    (i41 : PySem.W.isFn K (.ref f41) = true)
    (l41 : K.lookup f41 = some ⟨oc41, od41, .func (PySem.W.fnOf "pace" "Hand.pace" (defArgs sHand_pace) (defBody sHand_pace) (defScope sHand_pace) .none kV41 dc41 pm41 an41 cd41 ct41), sl41⟩)
    (c41 : PySem.W.codeIn K cd41 "Hand.pace" = true)
    (k41 : PySem.W.keepIn K (.ref f41) = true)
    (a42 : PySem.W.findIn K (.ref C_Hand) "uses" = some (some (.ref f42)))
    (i42 : PySem.W.isFn K (.ref f42) = true)
    (l42 : K.lookup f42 = some ⟨oc42, od42, .func (PySem.W.fnOf "uses" "Hand.uses" (defArgs sHand_uses) (defBody sHand_uses) (defScope sHand_uses) .none kV42 dc42 pm42 an42 cd42 ct42), sl42⟩)
    (c42 : PySem.W.codeIn K cd42 "Hand.uses" = true)
    (k42 : PySem.W.keepIn K (.ref f42) = true)
    (a43 : PySem.W.findIn K (.ref C_Hand) "homes" = some (some (.ref f43)))
    (i43 : PySem.W.isFn K (.ref f43) = true)
    (l43 : K.lookup f43 = some ⟨oc43, od43, .func (PySem.W.fnOf "homes" "Hand.homes" (defArgs sHand_homes) (defBody sHand_homes) (defScope sHand_homes) .none kV43 dc43 pm43 an43 cd43 ct43), sl43⟩)
    (c43 : PySem.W.codeIn K cd43 "Hand.homes" = true)
    (k43 : PySem.W.keepIn K (.ref f43) = true)
    (a44 : PySem.W.findIn K (.ref C_Hand) "back" = some (some (.ref f44)))
    (i44 : PySem.W.isFn K (.ref f44) = true)
    (l44 : K.lookup f44 = some ⟨oc44, od44, .func (PySem.W.fnOf "back" "Hand.back" (defArgs sHand_back) (defBody sHand_back) (defScope sHand_back) .none kV44 dc44 pm44 an44 cd44 ct44), sl44⟩)
    (c44 : PySem.W.codeIn K cd44 "Hand.back" = true)
    (k44 : PySem.W.keepIn K (.ref f44) = true)
    (a45 : PySem.W.findIn K (.ref C_Hand) "led_back" = some (some (.ref f45)))
    (i45 : PySem.W.isFn K (.ref f45) = true)
    (l45 : K.lookup f45 = some ⟨oc45, od45, .func (PySem.W.fnOf "led_back" "Hand.led_back" (defArgs sHand_led_back) (defBody sHand_led_back) (defScope sHand_led_back) .none kV45 dc45 pm45 an45 cd45 ct45), sl45⟩)
    (c45 : PySem.W.codeIn K cd45 "Hand.led_back" = true)
    (k45 : PySem.W.keepIn K (.ref f45) = true)
    (a46 : PySem.W.findIn K (.ref C_Hand) "gates" = some (some (.ref f46)))
    (i46 : PySem.W.isFn K (.ref f46) = true)
    (l46 : K.lookup f46 = some ⟨oc46, od46, .func (PySem.W.fnOf "gates" "Hand.gates" (defArgs sHand_gates) (defBody sHand_gates) (defScope sHand_gates) .none kV46 dc46 pm46 an46 cd46 ct46), sl46⟩)
    (c46 : PySem.W.codeIn K cd46 "Hand.gates" = true)
    (k46 : PySem.W.keepIn K (.ref f46) = true)
    (a47 : PySem.W.nsIn K mainGlobals "law" = some (some (.ref f47)))
    (l47 : K.lookup f47 = some ⟨oc47, od47, .func (PySem.W.fnOf "law" "law" (defArgs slaw) (defBody slaw) (defScope slaw) .none kV47 dc47 pm47 an47 cd47 ct47), sl47⟩)
    (c47 : PySem.W.codeIn K cd47 "law" = true)
    (k47 : PySem.W.keepIn K (.ref f47) = true)
    (pg : PySem.W.plainGet K C Str.empty = true)
    (hd : PySem.W.hasDictIn K C = true)
    (po : PySem.W.plainOver K C = true)
    (sa : PySem.W.findIn K (.ref C) "__setattr__" = some (some (.builtin "object.__setattr__")))
    (mk : PySem.W.makesIn K C = true)
    (kc : PySem.W.keepIn K (.ref C) = true)
    (n_length : PySem.W.findIn K (.ref C) "_length" = some none)
    (n_looks : PySem.W.findIn K (.ref C) "_looks" = some none)
    (pg_Hand : PySem.W.plainGet K C_Hand Str.empty = true)
    (hd_Hand : PySem.W.hasDictIn K C_Hand = true)
    (po_Hand : PySem.W.plainOver K C_Hand = true)
    (sa_Hand : PySem.W.findIn K (.ref C_Hand) "__setattr__" = some (some (.builtin "object.__setattr__")))
    (mk_Hand : PySem.W.makesIn K C_Hand = true)
    (kc_Hand : PySem.W.keepIn K (.ref C_Hand) = true)
    (nHand__dark : PySem.W.findIn K (.ref C_Hand) "_dark" = some none)
    (nHand__back : PySem.W.findIn K (.ref C_Hand) "_back" = some none)
    (pg_Walk : PySem.W.plainGet K C_Walk Str.empty = true)
    (hd_Walk : PySem.W.hasDictIn K C_Walk = true)
    (po_Walk : PySem.W.plainOver K C_Walk = true)
    (sa_Walk : PySem.W.findIn K (.ref C_Walk) "__setattr__" = some (some (.builtin "object.__setattr__")))
    (mk_Walk : PySem.W.makesIn K C_Walk = true)
    (kc_Walk : PySem.W.keepIn K (.ref C_Walk) = true)
    (nWalk_places : PySem.W.findIn K (.ref C_Walk) "places" = some none)
    (nWalk_told_by : PySem.W.findIn K (.ref C_Walk) "told_by" = some none)
    (nWalk_start : PySem.W.findIn K (.ref C_Walk) "start" = some none)
    (b_max : PySem.W.nsIn K mainGlobals "max" = some none)
    (b_min : PySem.W.nsIn K mainGlobals "min" = some none)
    (b_len : PySem.W.nsIn K mainGlobals "len" = some none)
    (b_range : PySem.W.nsIn K mainGlobals "range" = some none)
    (b_sorted : PySem.W.nsIn K mainGlobals "sorted" = some none)
    (b_set : PySem.W.nsIn K mainGlobals "set" = some none)
    (b_abs : PySem.W.nsIn K mainGlobals "abs" = some none)
    (b_list : PySem.W.nsIn K mainGlobals "list" = some none)
    (b_int : PySem.W.nsIn K mainGlobals "int" = some none)
    (b_enumerate : PySem.W.nsIn K mainGlobals "enumerate" = some none)
    (b_divmod : PySem.W.nsIn K mainGlobals "divmod" = some none)
    (g_gcd0 : PySem.W.nsIn K mainGlobals "gcd" = some (some (.builtin "math.gcd")))
    (gSLOW : PySem.W.nsIn K mainGlobals "SLOW" = some (some (.str "slow" tSLOW)))
    (gFAST : PySem.W.nsIn K mainGlobals "FAST" = some (some (.str "fast" tFAST)))
    (gW : PySem.W.nsIn K mainGlobals "WORDS" = some (some (.ref aW)))
    (lW : K.lookup aW = some ⟨.type "dict", none, .dict es nW, #[]⟩)
    (keys : PySem.W.KeysLit w.params es.toList)
    (low : (aW == sysModules) = false)
    (wS : PySem.W.nsIn K aW "slow" = some (some (.ref tS)))
    (wF : PySem.W.nsIn K aW "fast" = some (some (.ref tF)))
    (lS : K.lookup tS = some ⟨.type "tuple", o1, .seq #[.str "at" u1, .str "from" u2] n1, s1⟩)
    (lF : K.lookup tF = some ⟨.type "tuple", o2, .seq #[.str "at" u3, .str "upto" u4] n2, s2⟩)
    (gL : PySem.W.nsIn K mainGlobals "LOOK_WORDS" = some (some (.ref aL)))
    (lL : K.lookup aL = some ⟨.type "tuple", o3, .seq #[.str "at" u5, .str "from" u6, .str "upto" u7] n3, s3⟩) :
    ∃ fd : FuncData, (∀ (s : Shared) (v : Value), BindsTo s fd ⟨[v], []⟩ [("script", v)]) ∧ ∀ base : Heap, K.In base → base.Ns mainGlobals mg → FnOk l.prog w K mg base CX0 12 fa fd ["script"] (spLaw K) := by
  have e := hfa.symm.trans (PySem.W.mg_of X G a47)
  cases e
  have F0 := fun_mk (st := slaw_deck) l0 c0 k0
  have F1 := fun_mk (st := slaw_take) l1 c1 k1
  have F2 := fun_mk (st := slaw_below) l2 c2 k2
  have F3 := fun_mk (st := slaw_hidden) l3 c3 k3
  have F4 := fun_mk (st := slaw_steps_of) l4 c4 k4
  have F5 := fun_mk (st := slaw_planted) l5 c5 k5
  have F6 := fun_mk (st := slaw_broad_right) l6 c6 k6
  have F7 := fun_mk (st := slaw_moved_right) l7 c7 k7
  have F8 := fun_mk (st := sside_looks) l8 c8 k8
  have F9 := fun_mk (st := sround_looks) l9 c9 k9
  have F10 := fun_mk (st := splace_by) l10 c10 k10
  have F11 := fun_mk (st := sbest_step) l11 c11 k11
  have F12 := fun_mk (st := sWalk_init) l12 c12 k12
  have F13 := fun_mk (st := sWalkfollow) l13 c13 k13
  have F14 := fun_mk (st := sWalk_period) l14 c14 k14
  have F15 := fun_mk (st := sWalk_climb) l15 c15 k15
  have F16 := fun_mk (st := sWalk_behind) l16 c16 k16
  have F17 := fun_mk (st := sWalk_reach) l17 c17 k17
  have F18 := fun_mk (st := scheck_round) l18 c18 k18
  have F19 := fun_mk (st := splace_behind) l19 c19 k19
  have F20 := fun_mk (st := sleast_behind) l20 c20 k20
  have F21 := fun_mk (st := smost_uses) l21 c21 k21
  have F22 := fun_mk (st := slowest) l22 c22 k22
  have F23 := fun_mk (st := sside_pace) l23 c23 k23
  have F24 := fun_mk (st := stoo_far) l24 c24 k24
  have F25 := fun_mk (st := sclash) l25 c25 k25
  have F26 := fun_mk (st := sDark_init) l26 c26 k26
  have F27 := fun_mk (st := sDark_length) l27 c27 k27
  have F28 := fun_mk (st := sDark_hear) l28 c28 k28
  have F29 := fun_mk (st := sDark_looks) l29 c29 k29
  have F30 := fun_mk (st := sDark_least) l30 c30 k30
  have F31 := fun_mk (st := sDark_greatest) l31 c31 k31
  have F32 := fun_mk (st := sDarkbound) l32 c32 k32
  have F33 := fun_mk (st := sDark_led_back) l33 c33 k33
  have F34 := fun_mk (st := sDarkcheck_word) l34 c34 k34
  have F35 := fun_mk (st := sDarkhome) l35 c35 k35
  have F36 := fun_mk (st := sDarkclashing) l36 c36 k36
  have F37 := fun_mk (st := sHand_init) l37 c37 k37
  have F38 := fun_mk (st := sHand_length) l38 c38 k38
  have F39 := fun_mk (st := sHand_steps) l39 c39 k39
  have F40 : FunD K "lead" "Hand.lead" (defArgs sHand_lead) (defBody sHand_lead) (defScope sHand_lead) [.int 1] [] f40 (PySem.W.fnOf "lead" "Hand.lead" (defArgs sHand_lead) (defBody sHand_lead) (defScope sHand_lead) (.ref dT40) kV40 dc40 pm40 an40 cd40 ct40) := ⟨⟨_, _, _, _, _, _, _, _, _, _, rfl, l40, c40, .inr ⟨by simp, _, _, [.int 1 dk40_0], _, rfl, dt40, rfl, (.cons ⟨_, rfl⟩ .nil)⟩, .inl rfl⟩, k40⟩
  have B40 : Binds K (PySem.W.fnOf "lead" "Hand.lead" (defArgs sHand_lead) (defBody sHand_lead) (defScope sHand_lead) (.ref dT40) kV40 dc40 pm40 an40 cd40 ct40) P_Hand_lead [] := by
    obtain ⟨ds, hv, hb⟩ := F40.binds1 (ps := P_Hand_lead) 3 1 (by simp) rfl fun T kV doc pm an cdv ct us its h1 h2 => match us, its, h1, h2 with | [_, _, _], [_], _, _ => ⟨_, rfl, rfl⟩
    cases hv; exact hb
  have F41 := fun_mk (st := sHand_pace) l41 c41 k41
  have F42 := fun_mk (st := sHand_uses) l42 c42 k42
  have F43 := fun_mk (st := sHand_homes) l43 c43 k43
  have F44 := fun_mk (st := sHand_back) l44 c44 k44
  have F45 := fun_mk (st := sHand_led_back) l45 c45 k45
  have F46 := fun_mk (st := sHand_gates) l46 c46 k46
  have F47 := fun_mk (st := slaw) l47 c47 k47
  let Z : Ad := {
    a_law_deck := f0,
    d_law_deck := PySem.W.fnOf "_law_deck" "_law_deck" (defArgs slaw_deck) (defBody slaw_deck) (defScope slaw_deck) .none kV0 dc0 pm0 an0 cd0 ct0,
    a_law_take := f1,
    d_law_take := PySem.W.fnOf "_law_take" "_law_take" (defArgs slaw_take) (defBody slaw_take) (defScope slaw_take) .none kV1 dc1 pm1 an1 cd1 ct1,
    a_law_below := f2,
    d_law_below := PySem.W.fnOf "_law_below" "_law_below" (defArgs slaw_below) (defBody slaw_below) (defScope slaw_below) .none kV2 dc2 pm2 an2 cd2 ct2,
    a_law_hidden := f3,
    d_law_hidden := PySem.W.fnOf "_law_hidden" "_law_hidden" (defArgs slaw_hidden) (defBody slaw_hidden) (defScope slaw_hidden) .none kV3 dc3 pm3 an3 cd3 ct3,
    a_law_steps_of := f4,
    d_law_steps_of := PySem.W.fnOf "_law_steps_of" "_law_steps_of" (defArgs slaw_steps_of) (defBody slaw_steps_of) (defScope slaw_steps_of) .none kV4 dc4 pm4 an4 cd4 ct4,
    a_law_planted := f5,
    d_law_planted := PySem.W.fnOf "_law_planted" "_law_planted" (defArgs slaw_planted) (defBody slaw_planted) (defScope slaw_planted) .none kV5 dc5 pm5 an5 cd5 ct5,
    a_law_broad_right := f6,
    d_law_broad_right := PySem.W.fnOf "_law_broad_right" "_law_broad_right" (defArgs slaw_broad_right) (defBody slaw_broad_right) (defScope slaw_broad_right) .none kV6 dc6 pm6 an6 cd6 ct6,
    a_law_moved_right := f7,
    d_law_moved_right := PySem.W.fnOf "_law_moved_right" "_law_moved_right" (defArgs slaw_moved_right) (defBody slaw_moved_right) (defScope slaw_moved_right) .none kV7 dc7 pm7 an7 cd7 ct7,
    a_side_looks := f8,
    d_side_looks := PySem.W.fnOf "side_looks" "side_looks" (defArgs sside_looks) (defBody sside_looks) (defScope sside_looks) .none kV8 dc8 pm8 an8 cd8 ct8,
    a_round_looks := f9,
    d_round_looks := PySem.W.fnOf "round_looks" "round_looks" (defArgs sround_looks) (defBody sround_looks) (defScope sround_looks) .none kV9 dc9 pm9 an9 cd9 ct9,
    a_place_by := f10,
    d_place_by := PySem.W.fnOf "place_by" "place_by" (defArgs splace_by) (defBody splace_by) (defScope splace_by) .none kV10 dc10 pm10 an10 cd10 ct10,
    a_best_step := f11,
    d_best_step := PySem.W.fnOf "best_step" "best_step" (defArgs sbest_step) (defBody sbest_step) (defScope sbest_step) .none kV11 dc11 pm11 an11 cd11 ct11,
    a_Walk_init := f12,
    d_Walk_init := PySem.W.fnOf "__init__" "Walk.__init__" (defArgs sWalk_init) (defBody sWalk_init) (defScope sWalk_init) .none kV12 dc12 pm12 an12 cd12 ct12,
    a_Walkfollow := f13,
    d_Walkfollow := PySem.W.fnOf "_follow" "Walk._follow" (defArgs sWalkfollow) (defBody sWalkfollow) (defScope sWalkfollow) .none kV13 dc13 pm13 an13 cd13 ct13,
    a_Walk_period := f14,
    d_Walk_period := PySem.W.fnOf "period" "Walk.period" (defArgs sWalk_period) (defBody sWalk_period) (defScope sWalk_period) .none kV14 dc14 pm14 an14 cd14 ct14,
    a_Walk_climb := f15,
    d_Walk_climb := PySem.W.fnOf "climb" "Walk.climb" (defArgs sWalk_climb) (defBody sWalk_climb) (defScope sWalk_climb) .none kV15 dc15 pm15 an15 cd15 ct15,
    a_Walk_behind := f16,
    d_Walk_behind := PySem.W.fnOf "behind" "Walk.behind" (defArgs sWalk_behind) (defBody sWalk_behind) (defScope sWalk_behind) .none kV16 dc16 pm16 an16 cd16 ct16,
    a_Walk_reach := f17,
    d_Walk_reach := PySem.W.fnOf "reach" "Walk.reach" (defArgs sWalk_reach) (defBody sWalk_reach) (defScope sWalk_reach) .none kV17 dc17 pm17 an17 cd17 ct17,
    a_check_round := f18,
    d_check_round := PySem.W.fnOf "check_round" "check_round" (defArgs scheck_round) (defBody scheck_round) (defScope scheck_round) .none kV18 dc18 pm18 an18 cd18 ct18,
    a_place_behind := f19,
    d_place_behind := PySem.W.fnOf "place_behind" "place_behind" (defArgs splace_behind) (defBody splace_behind) (defScope splace_behind) .none kV19 dc19 pm19 an19 cd19 ct19,
    a_least_behind := f20,
    d_least_behind := PySem.W.fnOf "least_behind" "least_behind" (defArgs sleast_behind) (defBody sleast_behind) (defScope sleast_behind) .none kV20 dc20 pm20 an20 cd20 ct20,
    a_most_uses := f21,
    d_most_uses := PySem.W.fnOf "most_uses" "most_uses" (defArgs smost_uses) (defBody smost_uses) (defScope smost_uses) .none kV21 dc21 pm21 an21 cd21 ct21,
    a_lowest := f22,
    d_lowest := PySem.W.fnOf "lowest" "lowest" (defArgs slowest) (defBody slowest) (defScope slowest) .none kV22 dc22 pm22 an22 cd22 ct22,
    a_side_pace := f23,
    d_side_pace := PySem.W.fnOf "side_pace" "side_pace" (defArgs sside_pace) (defBody sside_pace) (defScope sside_pace) .none kV23 dc23 pm23 an23 cd23 ct23,
    a_too_far := f24,
    d_too_far := PySem.W.fnOf "too_far" "too_far" (defArgs stoo_far) (defBody stoo_far) (defScope stoo_far) .none kV24 dc24 pm24 an24 cd24 ct24,
    a_clash := f25,
    d_clash := PySem.W.fnOf "clash" "clash" (defArgs sclash) (defBody sclash) (defScope sclash) .none kV25 dc25 pm25 an25 cd25 ct25,
    a_Dark_init := f26,
    d_Dark_init := PySem.W.fnOf "__init__" "Dark.__init__" (defArgs sDark_init) (defBody sDark_init) (defScope sDark_init) .none kV26 dc26 pm26 an26 cd26 ct26,
    a_Dark_length := f27,
    d_Dark_length := PySem.W.fnOf "length" "Dark.length" (defArgs sDark_length) (defBody sDark_length) (defScope sDark_length) .none kV27 dc27 pm27 an27 cd27 ct27,
    a_Dark_hear := f28,
    d_Dark_hear := PySem.W.fnOf "hear" "Dark.hear" (defArgs sDark_hear) (defBody sDark_hear) (defScope sDark_hear) .none kV28 dc28 pm28 an28 cd28 ct28,
    a_Dark_looks := f29,
    d_Dark_looks := PySem.W.fnOf "looks" "Dark.looks" (defArgs sDark_looks) (defBody sDark_looks) (defScope sDark_looks) .none kV29 dc29 pm29 an29 cd29 ct29,
    a_Dark_least := f30,
    d_Dark_least := PySem.W.fnOf "least" "Dark.least" (defArgs sDark_least) (defBody sDark_least) (defScope sDark_least) .none kV30 dc30 pm30 an30 cd30 ct30,
    a_Dark_greatest := f31,
    d_Dark_greatest := PySem.W.fnOf "greatest" "Dark.greatest" (defArgs sDark_greatest) (defBody sDark_greatest) (defScope sDark_greatest) .none kV31 dc31 pm31 an31 cd31 ct31,
    a_Darkbound := f32,
    d_Darkbound := PySem.W.fnOf "_bound" "Dark._bound" (defArgs sDarkbound) (defBody sDarkbound) (defScope sDarkbound) .none kV32 dc32 pm32 an32 cd32 ct32,
    a_Dark_led_back := f33,
    d_Dark_led_back := PySem.W.fnOf "led_back" "Dark.led_back" (defArgs sDark_led_back) (defBody sDark_led_back) (defScope sDark_led_back) .none kV33 dc33 pm33 an33 cd33 ct33,
    a_Darkcheck_word := f34,
    d_Darkcheck_word := PySem.W.fnOf "_check_word" "Dark._check_word" (defArgs sDarkcheck_word) (defBody sDarkcheck_word) (defScope sDarkcheck_word) .none kV34 dc34 pm34 an34 cd34 ct34,
    a_Darkhome := f35,
    d_Darkhome := PySem.W.fnOf "_home" "Dark._home" (defArgs sDarkhome) (defBody sDarkhome) (defScope sDarkhome) .none kV35 dc35 pm35 an35 cd35 ct35,
    a_Darkclashing := f36,
    d_Darkclashing := PySem.W.fnOf "_clashing" "Dark._clashing" (defArgs sDarkclashing) (defBody sDarkclashing) (defScope sDarkclashing) .none kV36 dc36 pm36 an36 cd36 ct36,
    a_Hand_init := f37,
    d_Hand_init := PySem.W.fnOf "__init__" "Hand.__init__" (defArgs sHand_init) (defBody sHand_init) (defScope sHand_init) .none kV37 dc37 pm37 an37 cd37 ct37,
    a_Hand_length := f38,
    d_Hand_length := PySem.W.fnOf "length" "Hand.length" (defArgs sHand_length) (defBody sHand_length) (defScope sHand_length) .none kV38 dc38 pm38 an38 cd38 ct38,
    a_Hand_steps := f39,
    d_Hand_steps := PySem.W.fnOf "steps" "Hand.steps" (defArgs sHand_steps) (defBody sHand_steps) (defScope sHand_steps) .none kV39 dc39 pm39 an39 cd39 ct39,
    a_Hand_lead := f40,
    d_Hand_lead := PySem.W.fnOf "lead" "Hand.lead" (defArgs sHand_lead) (defBody sHand_lead) (defScope sHand_lead) (.ref dT40) kV40 dc40 pm40 an40 cd40 ct40,
    a_Hand_pace := f41,
    d_Hand_pace := PySem.W.fnOf "pace" "Hand.pace" (defArgs sHand_pace) (defBody sHand_pace) (defScope sHand_pace) .none kV41 dc41 pm41 an41 cd41 ct41,
    a_Hand_uses := f42,
    d_Hand_uses := PySem.W.fnOf "uses" "Hand.uses" (defArgs sHand_uses) (defBody sHand_uses) (defScope sHand_uses) .none kV42 dc42 pm42 an42 cd42 ct42,
    a_Hand_homes := f43,
    d_Hand_homes := PySem.W.fnOf "homes" "Hand.homes" (defArgs sHand_homes) (defBody sHand_homes) (defScope sHand_homes) .none kV43 dc43 pm43 an43 cd43 ct43,
    a_Hand_back := f44,
    d_Hand_back := PySem.W.fnOf "back" "Hand.back" (defArgs sHand_back) (defBody sHand_back) (defScope sHand_back) .none kV44 dc44 pm44 an44 cd44 ct44,
    a_Hand_led_back := f45,
    d_Hand_led_back := PySem.W.fnOf "led_back" "Hand.led_back" (defArgs sHand_led_back) (defBody sHand_led_back) (defScope sHand_led_back) .none kV45 dc45 pm45 an45 cd45 ct45,
    a_Hand_gates := f46,
    d_Hand_gates := PySem.W.fnOf "gates" "Hand.gates" (defArgs sHand_gates) (defBody sHand_gates) (defScope sHand_gates) .none kV46 dc46 pm46 an46 cd46 ct46,
    a_law := fa,
    d_law := PySem.W.fnOf "law" "law" (defArgs slaw) (defBody slaw) (defScope slaw) .none kV47 dc47 pm47 an47 cd47 ct47,
    C := C,
    C_Hand := C_Hand,
    C_Walk := C_Walk,
    v_SLOW := .str "slow" tSLOW,
    v_FAST := .str "fast" tFAST,
    a_WORDS := aW,
    a_LW := aL,
    t_slow := tS,
    t_fast := tF }
  have T : Tx K w mg Z := {
    F_law_deck := F0,
    bb_law_deck := F0.binds (ps := P_law_deck) fun _ _ _ _ _ _ us hl => match us, hl with | [_], _ => rfl,
    g_law_deck := PySem.W.mg_of X G a0,
    F_law_take := F1,
    bb_law_take := F1.binds (ps := P_law_take) fun _ _ _ _ _ _ us hl => match us, hl with | [_, _], _ => rfl,
    g_law_take := PySem.W.mg_of X G a1,
    F_law_below := F2,
    bb_law_below := F2.binds (ps := P_law_below) fun _ _ _ _ _ _ us hl => match us, hl with | [_, _], _ => rfl,
    g_law_below := PySem.W.mg_of X G a2,
    F_law_hidden := F3,
    bb_law_hidden := F3.binds (ps := P_law_hidden) fun _ _ _ _ _ _ us hl => match us, hl with | [_, _, _], _ => rfl,
    g_law_hidden := PySem.W.mg_of X G a3,
    F_law_steps_of := F4,
    bb_law_steps_of := F4.binds (ps := P_law_steps_of) fun _ _ _ _ _ _ us hl => match us, hl with | [_, _], _ => rfl,
    g_law_steps_of := PySem.W.mg_of X G a4,
    F_law_planted := F5,
    bb_law_planted := F5.binds (ps := P_law_planted) fun _ _ _ _ _ _ us hl => match us, hl with | [_, _, _], _ => rfl,
    g_law_planted := PySem.W.mg_of X G a5,
    F_law_broad_right := F6,
    bb_law_broad_right := F6.binds (ps := P_law_broad_right) fun _ _ _ _ _ _ us hl => match us, hl with | [_, _, _, _, _], _ => rfl,
    g_law_broad_right := PySem.W.mg_of X G a6,
    F_law_moved_right := F7,
    bb_law_moved_right := F7.binds (ps := P_law_moved_right) fun _ _ _ _ _ _ us hl => match us, hl with | [_, _, _, _, _], _ => rfl,
    g_law_moved_right := PySem.W.mg_of X G a7,
    F_side_looks := F8,
    bb_side_looks := F8.binds (ps := P_side_looks) fun _ _ _ _ _ _ us hl => match us, hl with | [_, _], _ => rfl,
    g_side_looks := PySem.W.mg_of X G a8,
    F_round_looks := F9,
    bb_round_looks := F9.binds (ps := P_round_looks) fun _ _ _ _ _ _ us hl => match us, hl with | [_, _], _ => rfl,
    g_round_looks := PySem.W.mg_of X G a9,
    F_place_by := F10,
    bb_place_by := F10.binds (ps := P_place_by) fun _ _ _ _ _ _ us hl => match us, hl with | [_, _, _, _], _ => rfl,
    g_place_by := PySem.W.mg_of X G a10,
    F_best_step := F11,
    bb_best_step := F11.binds (ps := P_best_step) fun _ _ _ _ _ _ us hl => match us, hl with | [_, _, _, _], _ => rfl,
    g_best_step := PySem.W.mg_of X G a11,
    F_Walk_init := F12,
    bb_Walk_init := F12.binds (ps := P_Walk_init) fun _ _ _ _ _ _ us hl => match us, hl with | [_, _, _, _], _ => rfl,
    F_Walkfollow := F13,
    bb_Walkfollow := F13.binds (ps := P_Walkfollow) fun _ _ _ _ _ _ us hl => match us, hl with | [_, _, _, _], _ => rfl,
    m_Walkfollow := ⟨a13, i13, k13⟩,
    F_Walk_period := F14,
    bb_Walk_period := F14.binds (ps := P_Walk_period) fun _ _ _ _ _ _ us hl => match us, hl with | [_], _ => rfl,
    m_Walk_period := ⟨a14, i14, k14⟩,
    F_Walk_climb := F15,
    bb_Walk_climb := F15.binds (ps := P_Walk_climb) fun _ _ _ _ _ _ us hl => match us, hl with | [_], _ => rfl,
    m_Walk_climb := ⟨a15, i15, k15⟩,
    F_Walk_behind := F16,
    bb_Walk_behind := F16.binds (ps := P_Walk_behind) fun _ _ _ _ _ _ us hl => match us, hl with | [_, _], _ => rfl,
    m_Walk_behind := ⟨a16, i16, k16⟩,
    F_Walk_reach := F17,
    bb_Walk_reach := F17.binds (ps := P_Walk_reach) fun _ _ _ _ _ _ us hl => match us, hl with | [_, _], _ => rfl,
    m_Walk_reach := ⟨a17, i17, k17⟩,
    F_check_round := F18,
    bb_check_round := F18.binds (ps := P_check_round) fun _ _ _ _ _ _ us hl => match us, hl with | [_], _ => rfl,
    g_check_round := PySem.W.mg_of X G a18,
    F_place_behind := F19,
    bb_place_behind := F19.binds (ps := P_place_behind) fun _ _ _ _ _ _ us hl => match us, hl with | [_, _, _, _], _ => rfl,
    g_place_behind := PySem.W.mg_of X G a19,
    F_least_behind := F20,
    bb_least_behind := F20.binds (ps := P_least_behind) fun _ _ _ _ _ _ us hl => match us, hl with | [_, _, _], _ => rfl,
    g_least_behind := PySem.W.mg_of X G a20,
    F_most_uses := F21,
    bb_most_uses := F21.binds (ps := P_most_uses) fun _ _ _ _ _ _ us hl => match us, hl with | [_, _, _], _ => rfl,
    g_most_uses := PySem.W.mg_of X G a21,
    F_lowest := F22,
    bb_lowest := F22.binds (ps := P_lowest) fun _ _ _ _ _ _ us hl => match us, hl with | [_, _], _ => rfl,
    g_lowest := PySem.W.mg_of X G a22,
    F_side_pace := F23,
    bb_side_pace := F23.binds (ps := P_side_pace) fun _ _ _ _ _ _ us hl => match us, hl with | [_, _], _ => rfl,
    g_side_pace := PySem.W.mg_of X G a23,
    F_too_far := F24,
    bb_too_far := F24.binds (ps := P_too_far) fun _ _ _ _ _ _ us hl => match us, hl with | [_, _, _], _ => rfl,
    g_too_far := PySem.W.mg_of X G a24,
    F_clash := F25,
    bb_clash := F25.binds (ps := P_clash) fun _ _ _ _ _ _ us hl => match us, hl with | [_, _, _], _ => rfl,
    g_clash := PySem.W.mg_of X G a25,
    F_Dark_init := F26,
    bb_Dark_init := F26.binds (ps := P_Dark_init) fun _ _ _ _ _ _ us hl => match us, hl with | [_, _], _ => rfl,
    F_Dark_length := F27,
    bb_Dark_length := F27.binds (ps := P_Dark_length) fun _ _ _ _ _ _ us hl => match us, hl with | [_], _ => rfl,
    m_Dark_length := ⟨a27, i27, k27⟩,
    F_Dark_hear := F28,
    bb_Dark_hear := F28.binds (ps := P_Dark_hear) fun _ _ _ _ _ _ us hl => match us, hl with | [_, _, _, _], _ => rfl,
    m_Dark_hear := ⟨a28, i28, k28⟩,
    F_Dark_looks := F29,
    bb_Dark_looks := F29.binds (ps := P_Dark_looks) fun _ _ _ _ _ _ us hl => match us, hl with | [_], _ => rfl,
    m_Dark_looks := ⟨a29, i29, k29⟩,
    F_Dark_least := F30,
    bb_Dark_least := F30.binds (ps := P_Dark_least) fun _ _ _ _ _ _ us hl => match us, hl with | [_, _], _ => rfl,
    m_Dark_least := ⟨a30, i30, k30⟩,
    F_Dark_greatest := F31,
    bb_Dark_greatest := F31.binds (ps := P_Dark_greatest) fun _ _ _ _ _ _ us hl => match us, hl with | [_, _], _ => rfl,
    m_Dark_greatest := ⟨a31, i31, k31⟩,
    F_Darkbound := F32,
    bb_Darkbound := F32.binds (ps := P_Darkbound) fun _ _ _ _ _ _ us hl => match us, hl with | [_, _, _], _ => rfl,
    m_Darkbound := ⟨a32, i32, k32⟩,
    F_Dark_led_back := F33,
    bb_Dark_led_back := F33.binds (ps := P_Dark_led_back) fun _ _ _ _ _ _ us hl => match us, hl with | [_], _ => rfl,
    m_Dark_led_back := ⟨a33, i33, k33⟩,
    F_Darkcheck_word := F34,
    bb_Darkcheck_word := F34.binds (ps := P_Darkcheck_word) fun _ _ _ _ _ _ us hl => match us, hl with | [_, _], _ => rfl,
    m_Darkcheck_word := ⟨a34, i34, k34⟩,
    F_Darkhome := F35,
    bb_Darkhome := F35.binds (ps := P_Darkhome) fun _ _ _ _ _ _ us hl => match us, hl with | [_, _, _, _], _ => rfl,
    m_Darkhome := ⟨a35, i35, k35⟩,
    F_Darkclashing := F36,
    bb_Darkclashing := F36.binds (ps := P_Darkclashing) fun _ _ _ _ _ _ us hl => match us, hl with | [_, _], _ => rfl,
    m_Darkclashing := ⟨a36, i36, k36⟩,
    F_Hand_init := F37,
    bb_Hand_init := F37.binds (ps := P_Hand_init) fun _ _ _ _ _ _ us hl => match us, hl with | [_, _, _], _ => rfl,
    F_Hand_length := F38,
    bb_Hand_length := F38.binds (ps := P_Hand_length) fun _ _ _ _ _ _ us hl => match us, hl with | [_], _ => rfl,
    m_Hand_length := ⟨a38, i38, k38⟩,
    F_Hand_steps := F39,
    bb_Hand_steps := F39.binds (ps := P_Hand_steps) fun _ _ _ _ _ _ us hl => match us, hl with | [_], _ => rfl,
    m_Hand_steps := ⟨a39, i39, k39⟩,
    bd_Hand_lead := F40.binds1 (ps := P_Hand_lead) 2 0 (by simp) rfl fun T kV doc pm an cdv ct us its h1 h2 => match us, its, h1, h2 with | [_, _], [_], _, _ => ⟨_, rfl, rfl⟩,
    F_Hand_lead := F40,
    bb_Hand_lead := B40,
    m_Hand_lead := ⟨a40, i40, k40⟩,
    F_Hand_pace := F41,
    bb_Hand_pace := F41.binds (ps := P_Hand_pace) fun _ _ _ _ _ _ us hl => match us, hl with | [_], _ => rfl,
    m_Hand_pace := ⟨a41, i41, k41⟩,
    F_Hand_uses := F42,
    bb_Hand_uses := F42.binds (ps := P_Hand_uses) fun _ _ _ _ _ _ us hl => match us, hl with | [_, _, _], _ => rfl,
    m_Hand_uses := ⟨a42, i42, k42⟩,
    F_Hand_homes := F43,
    bb_Hand_homes := F43.binds (ps := P_Hand_homes) fun _ _ _ _ _ _ us hl => match us, hl with | [_], _ => rfl,
    m_Hand_homes := ⟨a43, i43, k43⟩,
    F_Hand_back := F44,
    bb_Hand_back := F44.binds (ps := P_Hand_back) fun _ _ _ _ _ _ us hl => match us, hl with | [_, _], _ => rfl,
    m_Hand_back := ⟨a44, i44, k44⟩,
    F_Hand_led_back := F45,
    bb_Hand_led_back := F45.binds (ps := P_Hand_led_back) fun _ _ _ _ _ _ us hl => match us, hl with | [_], _ => rfl,
    m_Hand_led_back := ⟨a45, i45, k45⟩,
    F_Hand_gates := F46,
    bb_Hand_gates := F46.binds (ps := P_Hand_gates) fun _ _ _ _ _ _ us hl => match us, hl with | [_], _ => rfl,
    m_Hand_gates := ⟨a46, i46, k46⟩,
    F_law := F47,
    bb_law := F47.binds (ps := P_law) fun _ _ _ _ _ _ us hl => match us, hl with | [_], _ => rfl,
    g_law := PySem.W.mg_of X G a47,
    cl := ⟨pg, hd, po, sa⟩,
    g_Dark := PySem.W.mg_of X G aC,
    mk_Dark := ⟨mk, a26, i26, kc⟩,
    n_length := n_length,
    n_looks := n_looks,
    cl_Hand := ⟨pg_Hand, hd_Hand, po_Hand, sa_Hand⟩,
    g_Hand := PySem.W.mg_of X G aC_Hand,
    mk_Hand := ⟨mk_Hand, a37, i37, kc_Hand⟩,
    nHand__dark := nHand__dark,
    nHand__back := nHand__back,
    cl_Walk := ⟨pg_Walk, hd_Walk, po_Walk, sa_Walk⟩,
    g_Walk := PySem.W.mg_of X G aC_Walk,
    mk_Walk := ⟨mk_Walk, a12, i12, kc_Walk⟩,
    nWalk_places := nWalk_places,
    nWalk_told_by := nWalk_told_by,
    nWalk_start := nWalk_start,
    b_max := PySem.W.mg_none_of X G b_max,
    b_min := PySem.W.mg_none_of X G b_min,
    b_len := PySem.W.mg_none_of X G b_len,
    b_range := PySem.W.mg_none_of X G b_range,
    b_sorted := PySem.W.mg_none_of X G b_sorted,
    b_set := PySem.W.mg_none_of X G b_set,
    b_abs := PySem.W.mg_none_of X G b_abs,
    b_list := PySem.W.mg_none_of X G b_list,
    b_int := PySem.W.mg_none_of X G b_int,
    b_enumerate := PySem.W.mg_none_of X G b_enumerate,
    b_divmod := PySem.W.mg_none_of X G b_divmod,
    g_gcd := PySem.W.mg_of X G g_gcd0,
    g_SLOW := PySem.W.mg_of X G gSLOW,
    r_SLOW := ⟨tSLOW, rfl⟩,
    g_FAST := PySem.W.mg_of X G gFAST,
    r_FAST := ⟨tFAST, rfl⟩,
    g_WORDS := PySem.W.mg_of X G gW,
    kd_WORDS := ⟨es, nW, lW, keys, low⟩,
    w_slow := wS,
    w_fast := wF,
    q_slow := fun _ => sqt2 lS,
    q_fast := fun _ => sqt2 lF,
    g_LOOK_WORDS := PySem.W.mg_of X G gL,
    q_LW := fun _ => sqt3 lL }
  exact ⟨PySem.W.fnOf "law" "law" (defArgs slaw) (defBody slaw) (defScope slaw) .none kV47 dc47 pm47 an47 cd47 ct47, fun s v => .of_eq rfl, fun base _ _ => ok_law T⟩
theorem walk {l : PySem.W.OpenLaw} {q : Program} {loose : List Str} {XP : (Str → Option Value) → Heap → Prop} {YP : World → Heap → Prop} {d : DefRec} {K : Params → PySem.W.Frag} (hn : l.most = some 63) (hdf : d.params.defaults = [])
    (hY : ∀ (w : World) (h : Heap), YP w h → (K w.params).In h)
    (F : ∀ (w : World) (mg : Str → Option Value) (fa : Addr) (h : Heap), (K w.params).In h → h.Ns mainGlobals mg → mg d.name = some (.ref fa) →
      ∃ fd : FuncData, (∀ (s : Shared) (u : Value), BindsTo s fd ⟨[u], []⟩ [("script", u)]) ∧ ∀ base : Heap, (K w.params).In base → base.Ns mainGlobals mg → FnOk l.prog w (K w.params) mg base CX0 12 fa fd ["script"] (spLaw (K w.params))) :
    PySem.W.WalkO q loose XP YP l.row.toRowW d [] (fun f vs => PySem.call f vs) :=
  L2.walk_of (n := 63) (k := 12) (x := "script") (CX := fun _ => CX0) (sp := fun w => spLaw (K w.params)) hn (by decide) hdf ⟨rfl, by decide, by decide⟩ hY F (fun _ _ a ns hl _ hS => ⟨a, ns, rfl, hS, hl, fun _ => rfl⟩) fun _ _ _ _ _ z => z
end KA
open PySem PySem.W PyProof.Rows
set_option maxRecDepth 100000 in
set_option maxHeartbeats 0 in
theorem PySem.Challenge.cw_darkpace_k36_whole_dials_widened_holds : PySem.Challenge.rw_darkpace_k36_whole_dials_widened.Holds := by
  w_on; o_law; k_head; (case hw => w_witness2)
  k_fill
  refine KA.walk (l := PySem.Challenge.rw_darkpace_k36_whole_dials_widened) rfl rfl (fun w h Y => PySem.W.kIn_of Y) ?F
  case F =>
    intro w mg fa h KX G hmg
    refine' KA.all_mk KX G hmg ?aC ?aC_Hand ?aC_Walk ?a0 ?l0 ?c0 ?k0 ?a1 ?l1 ?c1 ?k1 ?a2 ?l2 ?c2 ?k2 ?a3 ?l3 ?c3 ?k3 ?a4 ?l4 ?c4 ?k4 ?a5 ?l5 ?c5 ?k5 ?a6 ?l6 ?c6 ?k6 ?a7 ?l7 ?c7 ?k7 ?a8 ?l8 ?c8 ?k8 ?a9 ?l9 ?c9 ?k9 ?a10 ?l10 ?c10 ?k10 ?a11 ?l11 ?c11 ?k11 ?a12 ?i12 ?l12 ?c12 ?k12 ?a13 ?i13 ?l13 ?c13 ?k13 ?a14 ?i14 ?l14 ?c14 ?k14 ?a15 ?i15 ?l15 ?c15 ?k15 ?a16 ?i16 ?l16 ?c16 ?k16 ?a17 ?i17 ?l17 ?c17 ?k17 ?a18 ?l18 ?c18 ?k18 ?a19 ?l19 ?c19 ?k19 ?a20 ?l20 ?c20 ?k20 ?a21 ?l21 ?c21 ?k21 ?a22 ?l22 ?c22 ?k22 ?a23 ?l23 ?c23 ?k23 ?a24 ?l24 ?c24 ?k24 ?a25 ?l25 ?c25 ?k25 ?a26 ?i26 ?l26 ?c26 ?k26 ?a27 ?i27 ?l27 ?c27 ?k27 ?a28 ?i28 ?l28 ?c28 ?k28 ?a29 ?i29 ?l29 ?c29 ?k29 ?a30 ?i30 ?l30 ?c30 ?k30 ?a31 ?i31 ?l31 ?c31 ?k31 ?a32 ?i32 ?l32 ?c32 ?k32 ?a33 ?i33 ?l33 ?c33 ?k33 ?a34 ?i34 ?l34 ?c34 ?k34 ?a35 ?i35 ?l35 ?c35 ?k35 ?a36 ?i36 ?l36 ?c36 ?k36 ?a37 ?i37 ?l37 ?c37 ?k37 ?a38 ?i38 ?l38 ?c38 ?k38 ?a39 ?i39 ?l39 ?c39 ?k39 ?a40 ?i40 ?l40 ?c40 ?k40 ?dt40 ?a41 ?i41 ?l41 ?c41 ?k41 ?a42 ?i42 ?l42 ?c42 ?k42 ?a43 ?i43 ?l43 ?c43 ?k43 ?a44 ?i44 ?l44 ?c44 ?k44 ?a45 ?i45 ?l45 ?c45 ?k45 ?a46 ?i46 ?l46 ?c46 ?k46 ?a47 ?l47 ?c47 ?k47 ?pg ?hd ?po ?sa ?mk ?kc ?n_length ?n_looks ?pg_Hand ?hd_Hand ?po_Hand ?sa_Hand ?mk_Hand ?kc_Hand ?nHand__dark ?nHand__back ?pg_Walk ?hd_Walk ?po_Walk ?sa_Walk ?mk_Walk ?kc_Walk ?nWalk_places ?nWalk_told_by ?nWalk_start ?b_max ?b_min ?b_len ?b_range ?b_sorted ?b_set ?b_abs ?b_list ?b_int ?b_enumerate ?b_divmod ?g_gcd0 ?gSLOW ?gFAST ?gW ?lW ?keys ?low ?wS ?wF ?lS ?lF ?gL ?lL
    (case aC => k_is)
    (case aC_Hand => k_is)
    (case aC_Walk => k_is)
    (case a0 => k_is)
    (case l0 => k_is)
    (case c0 => k_is)
    (case k0 => k_is)
    (case a1 => k_is)
    (case l1 => k_is)
    (case c1 => k_is)
    (case k1 => k_is)
    (case a2 => k_is)
    (case l2 => k_is)
    (case c2 => k_is)
    (case k2 => k_is)
    (case a3 => k_is)
    (case l3 => k_is)
    (case c3 => k_is)
    (case k3 => k_is)
    (case a4 => k_is)
    (case l4 => k_is)
    (case c4 => k_is)
    (case k4 => k_is)
    (case a5 => k_is)
    (case l5 => k_is)
    (case c5 => k_is)
    (case k5 => k_is)
    (case a6 => k_is)
    (case l6 => k_is)
    (case c6 => k_is)
    (case k6 => k_is)
    (case a7 => k_is)
    (case l7 => k_is)
    (case c7 => k_is)
    (case k7 => k_is)
    (case a8 => k_is)
    (case l8 => k_is)
    (case c8 => k_is)
    (case k8 => k_is)
    (case a9 => k_is)
    (case l9 => k_is)
    (case c9 => k_is)
    (case k9 => k_is)
    (case a10 => k_is)
    (case l10 => k_is)
    (case c10 => k_is)
    (case k10 => k_is)
    (case a11 => k_is)
    (case l11 => k_is)
    (case c11 => k_is)
    (case k11 => k_is)
    (case a12 => k_is)
    (case i12 => k_is)
    (case l12 => k_is)
    (case c12 => k_is)
    (case k12 => k_is)
    (case a13 => k_is)
    (case i13 => k_is)
    (case l13 => k_is)
    (case c13 => k_is)
    (case k13 => k_is)
    (case a14 => k_is)
    (case i14 => k_is)
    (case l14 => k_is)
    (case c14 => k_is)
    (case k14 => k_is)
    (case a15 => k_is)
    (case i15 => k_is)
    (case l15 => k_is)
    (case c15 => k_is)
    (case k15 => k_is)
    (case a16 => k_is)
    (case i16 => k_is)
    (case l16 => k_is)
    (case c16 => k_is)
    (case k16 => k_is)
    (case a17 => k_is)
    (case i17 => k_is)
    (case l17 => k_is)
    (case c17 => k_is)
    (case k17 => k_is)
    (case a18 => k_is)
    (case l18 => k_is)
    (case c18 => k_is)
    (case k18 => k_is)
    (case a19 => k_is)
    (case l19 => k_is)
    (case c19 => k_is)
    (case k19 => k_is)
    (case a20 => k_is)
    (case l20 => k_is)
    (case c20 => k_is)
    (case k20 => k_is)
    (case a21 => k_is)
    (case l21 => k_is)
    (case c21 => k_is)
    (case k21 => k_is)
    (case a22 => k_is)
    (case l22 => k_is)
    (case c22 => k_is)
    (case k22 => k_is)
    (case a23 => k_is)
    (case l23 => k_is)
    (case c23 => k_is)
    (case k23 => k_is)
    (case a24 => k_is)
    (case l24 => k_is)
    (case c24 => k_is)
    (case k24 => k_is)
    (case a25 => k_is)
    (case l25 => k_is)
    (case c25 => k_is)
    (case k25 => k_is)
    (case a26 => k_is)
    (case i26 => k_is)
    (case l26 => k_is)
    (case c26 => k_is)
    (case k26 => k_is)
    (case a27 => k_is)
    (case i27 => k_is)
    (case l27 => k_is)
    (case c27 => k_is)
    (case k27 => k_is)
    (case a28 => k_is)
    (case i28 => k_is)
    (case l28 => k_is)
    (case c28 => k_is)
    (case k28 => k_is)
    (case a29 => k_is)
    (case i29 => k_is)
    (case l29 => k_is)
    (case c29 => k_is)
    (case k29 => k_is)
    (case a30 => k_is)
    (case i30 => k_is)
    (case l30 => k_is)
    (case c30 => k_is)
    (case k30 => k_is)
    (case a31 => k_is)
    (case i31 => k_is)
    (case l31 => k_is)
    (case c31 => k_is)
    (case k31 => k_is)
    (case a32 => k_is)
    (case i32 => k_is)
    (case l32 => k_is)
    (case c32 => k_is)
    (case k32 => k_is)
    (case a33 => k_is)
    (case i33 => k_is)
    (case l33 => k_is)
    (case c33 => k_is)
    (case k33 => k_is)
    (case a34 => k_is)
    (case i34 => k_is)
    (case l34 => k_is)
    (case c34 => k_is)
    (case k34 => k_is)
    (case a35 => k_is)
    (case i35 => k_is)
    (case l35 => k_is)
    (case c35 => k_is)
    (case k35 => k_is)
    (case a36 => k_is)
    (case i36 => k_is)
    (case l36 => k_is)
    (case c36 => k_is)
    (case k36 => k_is)
    (case a37 => k_is)
    (case i37 => k_is)
    (case l37 => k_is)
    (case c37 => k_is)
    (case k37 => k_is)
    (case a38 => k_is)
    (case i38 => k_is)
    (case l38 => k_is)
    (case c38 => k_is)
    (case k38 => k_is)
    (case a39 => k_is)
    (case i39 => k_is)
    (case l39 => k_is)
    (case c39 => k_is)
    (case k39 => k_is)
    (case a40 => k_is)
    (case i40 => k_is)
    (case l40 => k_is)
    (case c40 => k_is)
    (case k40 => k_is)
    (case dt40 => k_is)
    (case a41 => k_is)
    (case i41 => k_is)
    (case l41 => k_is)
    (case c41 => k_is)
    (case k41 => k_is)
    (case a42 => k_is)
    (case i42 => k_is)
    (case l42 => k_is)
    (case c42 => k_is)
    (case k42 => k_is)
    (case a43 => k_is)
    (case i43 => k_is)
    (case l43 => k_is)
    (case c43 => k_is)
    (case k43 => k_is)
    (case a44 => k_is)
    (case i44 => k_is)
    (case l44 => k_is)
    (case c44 => k_is)
    (case k44 => k_is)
    (case a45 => k_is)
    (case i45 => k_is)
    (case l45 => k_is)
    (case c45 => k_is)
    (case k45 => k_is)
    (case a46 => k_is)
    (case i46 => k_is)
    (case l46 => k_is)
    (case c46 => k_is)
    (case k46 => k_is)
    (case a47 => k_is)
    (case l47 => k_is)
    (case c47 => k_is)
    (case k47 => k_is)
    (case pg => k_is)
    (case hd => k_is)
    (case po => k_is)
    (case sa => k_is)
    (case mk => k_is)
    (case kc => k_is)
    (case n_length => k_is)
    (case n_looks => k_is)
    (case pg_Hand => k_is)
    (case hd_Hand => k_is)
    (case po_Hand => k_is)
    (case sa_Hand => k_is)
    (case mk_Hand => k_is)
    (case kc_Hand => k_is)
    (case nHand__dark => k_is)
    (case nHand__back => k_is)
    (case pg_Walk => k_is)
    (case hd_Walk => k_is)
    (case po_Walk => k_is)
    (case sa_Walk => k_is)
    (case mk_Walk => k_is)
    (case kc_Walk => k_is)
    (case nWalk_places => k_is)
    (case nWalk_told_by => k_is)
    (case nWalk_start => k_is)
    (case b_max => k_is)
    (case b_min => k_is)
    (case b_len => k_is)
    (case b_range => k_is)
    (case b_sorted => k_is)
    (case b_set => k_is)
    (case b_abs => k_is)
    (case b_list => k_is)
    (case b_int => k_is)
    (case b_enumerate => k_is)
    (case b_divmod => k_is)
    (case g_gcd0 => k_is)
    (case gSLOW => k_is)
    (case gFAST => k_is)
    (case gW => k_is)
    (case lW => k_is)
    (case keys => k_keys)
    (case low => decide +kernel)
    (case wS => k_is)
    (case wF => k_is)
    (case lS => k_is)
    (case lF => k_is)
    (case gL => k_is)
    (case lL => k_is)
