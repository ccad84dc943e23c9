import PyProof.Rows.All
import Wide.All
import OpenK.AllK
import Wide.FinOn
import HandS.ForMost
import HandS.Wide
import HandS.Deep
import HandS.IsInst
import HandS.Strs
import HandS.Codes
import HandS.Gcd
import KE.SortData
import KE.DataMinMax
import HandS.SetFor
import HandS.TupSets
import HandS.SetKeys
import KE.KSuper
import KE.KExcSuper
import HandS.Base
import HandS.Call
import HandS.Exc
import HandS.ExcInit
import HandS.Words
import KE.RegKSuper
import HandS.OwnEq
import KE.KExcIs
import HandS.ExcField
import HandS.ExcValue
import HandS.ExcCtx
import HandS.WordsExc
import HandS.HotCalls
import HandS.Comp
import HandS.List
import HandS.Defaults
import HandS.MakeKwOnly
import HandS.ExcOwn
import HandS.TryOnly
import PySem.Challenge.RW_darkpace_k07_refused_in_order
set_option Elab.async false
set_option linter.all false
set_option maxRecDepth 100000
set_option exponentiation.threshold 3000
set_option maxHeartbeats 16000000
/-! Rules of our own: data under a growing heap, sorted and max and min of data, set of ints, a written dict's item, a method called with a keyword. -/
namespace DP
open PySem PySem.Spec PyProof.Rows L2

theorem rooms {A : Around} {k : Nat} (hr : Room k A) : A.units + 65 < cLine := by have := hr.un; omega

theorem Same.rd {H H' : Hp} {a : Addr} {u : HO} (S : Same H H') (h : Rd H a u) : Rd H' a u := by
  rcases h with h | ⟨o, h⟩
  · exact Or.inl (S _ _ h)
  · exact Or.inr ⟨o, S _ _ h⟩
theorem Same.sqT {K : PySem.W.Frag} {H H' : Hp} {a : Addr} {xs : List V} (S : Same H H') (h : SqT K H a xs) : SqT K H' a xs := by
  rcases h with h | h
  · exact Or.inl (Same.rd S h)
  · exact Or.inr h
theorem Same.sqL {K : PySem.W.Frag} {H H' : Hp} {a : Addr} {xs : List V} (S : Same H H') (h : SqL K H a xs) : SqL K H' a xs := by
  rcases h with h | h
  · exact Or.inl (Same.rd S h)
  · exact Or.inr h
mutual
theorem dp_mono {K : PySem.W.Frag} {H H' : Hp} (S : Same H H') : ∀ (d : PyData) (v : V), Dp K H v d → Dp K H' v d
  | .none, _, h => by cases h; exact .non
  | .bool b, _, h => by cases h; exact .bl _
  | .int b, _, h => by cases h; exact .int _
  | .str b, _, h => by cases h; exact .str _
  | .list ds, _, h => by
    cases h with
    | lst s a => exact .lst (Same.sqL S s) (dpAll_mono S ds _ a)
  | .tuple ds, _, h => by
    cases h with
    | tup s a => exact .tup (Same.sqT S s) (dpAll_mono S ds _ a)
  | .dict _, _, h => by cases h
theorem dpAll_mono {K : PySem.W.Frag} {H H' : Hp} (S : Same H H') : ∀ (ds : List PyData) (vs : List V), DpAll K H vs ds → DpAll K H' vs ds
  | [], _, h => by cases h; exact .nil
  | d :: ds, _, h => by
    cases h with
    | cons a b => exact .cons (dp_mono S d _ a) (dpAll_mono S ds _ b)
end
section
variable {K : PySem.W.Frag} {H : Hp}
theorem dpAll_len : ∀ {vs : List V} {ds : List PyData}, DpAll K H vs ds → vs.length = ds.length
  | _, _, .nil => rfl
  | _, _, .cons _ t => by rw [List.length_cons, List.length_cons, dpAll_len t]
theorem dpAll_get : ∀ {vs : List V} {ds : List PyData} {i : Nat} {v : V}, DpAll K H vs ds → vs[i]? = some v → ∃ d, ds[i]? = some d ∧ Dp K H v d
  | _, _, _, _, .nil, e => by simp at e
  | _, _, 0, _, .cons r _, e => by simp at e; subst e; exact ⟨_, rfl, r⟩
  | _, _, i + 1, v, .cons _ t, e => by
    obtain ⟨d, h1, h2⟩ := dpAll_get (i := i) (v := v) t (by simpa using e)
    exact ⟨d, by simpa using h1, h2⟩
theorem dpAll_get' : ∀ {vs : List V} {ds : List PyData} {i : Nat} {d : PyData}, DpAll K H vs ds → ds[i]? = some d → ∃ v, vs[i]? = some v ∧ Dp K H v d
  | _, _, _, _, .nil, e => by simp at e
  | _, _, 0, _, .cons r _, e => by simp at e; subst e; exact ⟨_, rfl, r⟩
  | _, _, i + 1, v, .cons _ t, e => by
    obtain ⟨d, h1, h2⟩ := dpAll_get' (i := i) (d := v) t (by simpa using e)
    exact ⟨d, by simpa using h1, h2⟩
theorem dpAll_snoc : ∀ {vs : List V} {ds : List PyData} {v : V} {d : PyData}, DpAll K H vs ds → Dp K H v d → DpAll K H (vs ++ [v]) (ds ++ [d])
  | _, _, _, _, .nil, r => .cons r .nil
  | _, _, _, _, .cons q t, r => .cons q (dpAll_snoc t r)
theorem dpAll_app : ∀ {vs ws : List V} {ds es : List PyData}, DpAll K H vs ds → DpAll K H ws es → DpAll K H (vs ++ ws) (ds ++ es)
  | _, _, _, _, .nil, r => r
  | _, _, _, _, .cons q t, r => .cons q (dpAll_app t r)
theorem dpAll_ints : ∀ ns : List Int, DpAll K H (ns.map V.int) (ns.map PyData.int)
  | [] => .nil
  | n :: ns => .cons (.int n) (dpAll_ints ns)
theorem dpAll_int : ∀ {vs : List V} {ns : List Int}, DpAll K H vs (ns.map PyData.int) → vs = ns.map V.int
  | _, [], h => by cases h; rfl
  | _, n :: ns, h => by
    have h' : DpAll K H _ (PyData.int n :: ns.map PyData.int) := h
    cases h' with
    | cons a b =>
      cases a
      rw [dpAll_int b]; rfl
theorem same_upd {H : Hp} {p : Addr} {o : HO} (h : H p = none) : Same H (upd H p o) := fun b u e => by rw [upd_ne (ne_of_none e h)]; exact e
end

section
variable {X : Cx}
/-- sorted(xs): xs a list of alike data, of any length; P is what is known of each -/
def rSortD (K : PySem.W.Frag) {β : Type} (enc : β → PyData) : List V → Hp → VK → Prop := fun vs H Q => ∃ (a : Addr) (xs : List V) (bs : List β), vs = [V.ref a] ∧ SqL K H a xs ∧ DpAll K H xs (bs.map enc) ∧
  PySem.W.AllAlike (bs.map enc) ∧ PySem.W.Sortable (bs.map enc) ∧ (∀ b ∈ bs, (enc b).depth ≤ 60) ∧
  ∀ (p : Addr) (ys : List V) H', H p = none → Same H H' → H' p = some (.lst ys) → DpAll K H' ys ((bs.mergeSort (PySem.W.dataLe false enc)).map enc) → Q (.ref p) H'
theorem each_vals {K : PySem.W.Frag} {H : Hp} {β : Type} {enc : β → PyData} : ∀ {xs : List V} {us : List Value} {bs : List β}, Vals xs us → DpAll K H xs (bs.map enc) → PySem.W.EachIs (fun u b => ∃ x, RelV x u ∧ Dp K H x (enc b)) us bs
  | _, _, [], r, d => by
    have d' : DpAll K H _ [] := d
    cases d'
    cases r
    exact .nil
  | _, _, b :: bs, r, d => by
    have d' : DpAll K H _ (enc b :: bs.map enc) := d
    cases d' with
    | cons d1 d2 =>
      cases r with
      | cons r1 r2 => exact .cons ⟨_, r1, d1⟩ (each_vals r2 d2)
theorem vals_each {K : PySem.W.Frag} {H : Hp} {β : Type} {enc : β → PyData} : ∀ {us : List Value} {bs : List β}, PySem.W.EachIs (fun u b => ∃ x, RelV x u ∧ Dp K H x (enc b)) us bs → ∃ xs, Vals xs us ∧ DpAll K H xs (bs.map enc)
  | _, _, .nil => ⟨[], .nil, .nil⟩
  | _, _, .cons ⟨x, r, d⟩ t => by
    obtain ⟨xs, h1, h2⟩ := vals_each t
    exact ⟨x :: xs, .cons r h1, .cons d h2⟩
theorem cr_sortD {β : Type} (enc : β → PyData) (hu : X.A.units + 65 < cLine) : CallR X (.builtin "sorted") (rSortD X.K enc) := by
  intro pins s σ H vs us Q I r h
  obtain ⟨a, xs, bs, rfl, hs, hd, hal, hk, hdep, q⟩ := h
  obtain ⟨its, rv, hl, hz⟩ := I.list hs
  rw [Vals.ref1 r]
  have hlen : its.length = bs.length := by rw [← rv.length, dpAll_len hd, List.length_map]
  have e := each_vals rv hd
  obtain ⟨as, ra⟩ := Dp.readsAll I _ _ _ hd rv
  refine PySem.W.sorted_data (enc := enc) (bs := bs) (vs := its) hl.isList e (PySem.W.readsAll_each enc ra) hal hk (by rw [← hlen, ← rv.length]; exact hz) (fun b hb => ?_) fun out ho eo => ?_
  · have := hdep b hb
    omega
  · obtain ⟨ys, h1, h2⟩ := vals_each eo
    obtain ⟨ep, he'⟩ := PyProof.Rows.sortedAll_at s.heap its (List.toArray out)
    have hn : H (s.heap.objs.size + 1) = none := I.hok.fresh (Nat.le_succ _)
    have hyl : ys.length ≤ sizeLine := by
      rw [h1.length, ho, ← hlen, ← rv.length]; exact hz
    refine ⟨.ref _, upd H (s.heap.objs.size + 1) (.lst ys), I.laid (t' := s.toks) (fun _ _ => PyProof.Rows.sortedAll_old) (Nat.le_succ _) ⟨hyl, out, ep, h1, he'⟩, rfl, q _ ys _ hn (same_upd hn) upd_same ?_⟩
    exact dpAll_mono (same_upd hn) _ _ h2

/-- max(xs), min(xs): xs a list of alike data -/
def rBestD (K : PySem.W.Frag) (best : PyData → List PyData → PyData) : List V → Hp → VK → Prop := fun vs H Q => ∃ (a : Addr) (xs : List V) (d : PyData) (ds : List PyData), vs = [V.ref a] ∧ SqL K H a xs ∧ DpAll K H xs (d :: ds) ∧
  PySem.W.AlikeAll (d :: ds) ∧ PyData.canLayAll0 (d :: ds) = true ∧ PyData.depthAll (d :: ds) ≤ 60 ∧
  ∀ (x : V), Dp K H x (best d ds) → Q x H
theorem best_end {pins : List (Addr × Obj)} {s : Shared} {σ : L2.St} {H : Hp} {Q : VK} (I : Inv X pins σ H s) {xs : List V} {its : List Value} {as : List Addr} {ds : List PyData} (rv : Vals xs its) (hd : DpAll X.K H xs ds) (ra : ReadsAll s.heap its ds as) (hc : PyData.canLayAll0 ds = true) {i : Nat} {v : Value} {h' : Heap} {tk : Nat} {bs : List Addr} {e : PyData} (hi : its.toArray[i]? = some v)
    (hr : Reads h' v e bs) (he : e.canLay0 = true) (hk : ∀ b o, s.heap.get? b = some o → h'.get? b = some o) (q : ∀ x, Dp X.K H x e → Q x H) : EP X pins σ Q v { heap := h', gens := s.gens, drawn := s.drawn, toks := tk, os := s.os } := by
  have hi' : its[i]? = some v := by simpa using hi
  have hlt : i < its.length := by
    rcases Nat.lt_or_ge i its.length with h | h
    · exact h
    · rw [List.getElem?_eq_none h] at hi'; cases hi'
  obtain ⟨x, hx⟩ : ∃ x, xs[i]? = some x := ⟨xs[i]'(by rw [rv.length]; exact hlt), List.getElem?_eq_getElem _⟩
  obtain ⟨u, hu, ru⟩ := rv.get hx
  have euv : u = v := Option.some.inj (hu.symm.trans hi')
  subst euv
  obtain ⟨d, hdi, hdx⟩ := dpAll_get hd hx
  obtain ⟨as', rx⟩ := Dp.reads I d x u hdx ru
  have rx' : Reads h' u d as' := PyProof.Rows.Reads.keeps hk rx
  have hcd : d.canLay0 = true := by
    have : ∀ (ds : List PyData) (i : Nat), PyData.canLayAll0 ds = true → ds[i]? = some d → d.canLay0 = true := by
      intro ds
      induction ds with
      | nil => intro i _ h; simp at h
      | cons a r ih =>
        intro i h1 h2
        rw [PyData.canLayAll0, Bool.and_eq_true] at h1
        cases i with
        | zero => simp at h2; rw [← h2]; exact h1.1
        | succ i => exact ih i h1.2 (by simpa using h2)
    exact this ds i hc hdi
  have e1 := SeqAt.readOf_eq hcd rx'
  have e2 := SeqAt.readOf_eq he hr
  have ed : d = e := e1.symm.trans e2
  subst ed
  exact ⟨x, H, I.kept hk, ru, q x hdx⟩
theorem canLay_fold (f : PyData → PyData → Bool) : ∀ (ds : List PyData) (d : PyData), PyData.canLayAll0 (d :: ds) = true → (ds.foldl (fun a y => if f a y then y else a) d).canLay0 = true
  | [], d, h => by
    rw [PyData.canLayAll0, Bool.and_eq_true] at h
    exact h.1
  | e :: ds, d, h => by
    rw [PyData.canLayAll0, PyData.canLayAll0, Bool.and_eq_true, Bool.and_eq_true] at h
    rw [List.foldl_cons]
    refine canLay_fold f ds _ ?_
    rw [PyData.canLayAll0, Bool.and_eq_true]
    refine ⟨?_, h.2.2⟩
    split
    · exact h.2.1
    · exact h.1
theorem cr_maxD (hc : X.calm = true) (hu : X.A.units + 65 < cLine) : CallR X (.builtin "max") (rBestD X.K PySem.W.maxD) := by
  intro pins s σ H vs us Q I r h
  obtain ⟨a, xs, d, ds, rfl, hs, hd, hal, hl0, hdep, q⟩ := h
  obtain ⟨its, rv, hl, hz⟩ := I.list hs
  rw [Vals.ref1 r]
  obtain ⟨as, ra⟩ := Dp.readsAll I _ _ _ hd rv
  exact PySem.W.max_list_data (I.ok.hd hc) hl.isList (by simpa using ra) hal (by omega) fun i v h' tk bs hi hr hk => best_end I rv hd ra hl0 hi hr (canLay_fold _ ds d hl0) hk q
theorem cr_minD (hc : X.calm = true) (hu : X.A.units + 65 < cLine) : CallR X (.builtin "min") (rBestD X.K PySem.W.minD) := by
  intro pins s σ H vs us Q I r h
  obtain ⟨a, xs, d, ds, rfl, hs, hd, hal, hl0, hdep, q⟩ := h
  obtain ⟨its, rv, hl, hz⟩ := I.list hs
  rw [Vals.ref1 r]
  obtain ⟨as, ra⟩ := Dp.readsAll I _ _ _ hd rv
  exact PySem.W.min_list_data (I.ok.hd hc) hl.isList (by simpa using ra) hal (by omega) fun i v h' tk bs hi hr hk => best_end I rv hd ra hl0 hi hr (canLay_fold (fun a y => PySem.W.dataLt y a) ds d hl0) hk q
end
end DP
/-! set(xs) of a list of whole numbers, sorted then. -/
namespace DP
open PySem PySem.Spec PyProof.Rows L2
/-- a fresh set -/
abbrev newSet (w : World) : Obj := { cls := .type "set", dict := none, data := .set #[] 0 (.fresh 0 0 (!w.params.followText "set-order")) }
theorem set_of_ints {P : Program} {w : World} {A : Around} {E : Value → Shared → Prop} {s : Shared} {l : Addr} {items : Array Value} (ns : List Int) {Q : Value → Shared → Prop} (hh : A.handled = none) (hl : s.heap.IsList l items) (hit : IntsAre items.toList ns) (hb : ns.length + 1 < scanBound)
    (h : ∀ (h' : Heap) (tk c : Nat), SetR w h' s.heap.objs.size (fun j => decide (j ∈ ns)) c → c ≤ ns.length → (∀ b o, s.heap.get? b = some o → h'.get? b = some o) → Q (.ref s.heap.objs.size) { s with heap := h', toks := tk }) :
    wpAny (model P w) A (call (.type "set") [.ref l]) Q E s := by
  have hisz : items.size = ns.length := (Array.length_toList (xs := items)).symm.trans (IntsAre.length hit)
  have C := F.called_set
  obtain ⟨c, tl, hmro⟩ := C.mro
  have hmade := C.made; have hsub := C.sub
  refine wpAny_call (codeAny_of_tree ?_)
  show wpAny _ _ (callAny (.type "set") _) _ _ _
  refine wpAny_pure ⟨Code.quiet_builtin _ (by decide +kernel), codeAny_builtin F.entry_type_call ?_⟩
  rw [Around.under_plain (weight_type_call_type "set" [.ref l] []) rfl]
  have h1 := C.notType; have h2 := C.canCreate
  have hct := F.typeCall_set_1 (.ref l)
  repeat (any_goals (first | assumption | wp_step))
  refine codeAny_mono (code_set_led1 (.ref l) (E := E) (Q₁ := fun obj s₁ => obj = .ref s.heap.objs.size ∧ s₁ = { s with heap := s.heap.push (newSet w) }) ⟨rfl, rfl⟩) fun r s₁ hr => ?_
  cases r with
  | error e => exact hr
  | ok fl =>
  cases fl with
  | ret obj =>
    obtain ⟨rfl, rfl⟩ := hr
    have hS : (s.heap.push (newSet w)).get? s.heap.objs.size = some (newSet w) := Heap.get?_push_size _ rfl
    have hT : Shared.TypeIs { s with heap := s.heap.push (newSet w) } (.ref s.heap.objs.size) "set" := ⟨_, hS, rfl⟩
    have hli := C.init.lookup; have hbi := C.init.bind (.ref s.heap.objs.size)
    repeat (any_goals (first | assumption | wp_step))
    refine codeAny_mono (codeAny_call_builtin (R := wants (fun r s₂ => r = .none ∧ ∃ h' tk c, s₂ = { s with heap := h', toks := tk } ∧ SetR w h' s.heap.objs.size (fun j => decide (j ∈ ns)) c ∧ c ≤ ns.length ∧ ∀ b o, s.heap.get? b = some o → h'.get? b = some o) E) C.init.plain F.entry_set_init (check_set_init_1 hT ?_)) fun r₂ s₂ hr₂ => ?_
    · obtain ⟨⟨ocls, odict, odata, oslots⟩, hol, hcl, nl, hdl⟩ := hl
      simp only at hcl hdl
      subst hcl hdl
      have hol' : (s.heap.push (newSet w)).get? l = some { cls := .type "list", dict := odict, data := .seq items nl, slots := oslots } := Heap.get?_push_of_some _ hol
      have hsls := F.sub_list_set; have hslf := F.sub_list_frozenset
      have hne : (Value.type "list" == Value.type "dict") = false := by decide
      have hl1 : (s.heap.push (newSet w)).IsList l items := ⟨_, hol', rfl, nl, rfl⟩
      unfold Builtin.«set.__init__» noKeywords Builtin.Frozenset.updateFrom
      generalize hPI : pyIter = PI
      wp_walk
      subst hPI
      refine wpAny_pyIter_list hl1 (wpAny_bind (wpAny_runValue ?_))
      have hlS : l < s.heap.objs.size := Heap.lt_size hol
      have hh3 : A.in1.in1.in1.handled = none := by simp [hh]
      have hz : (s.heap.push (newSet w)).objs.size = s.heap.objs.size + 1 := Heap.size_push ..
      have hneI : l ≠ (s.heap.push (newSet w)).objs.size := by rw [hz]; exact Nat.ne_of_lt (Nat.lt_succ_of_lt hlS)
      have hSf : s.heap.objs.size ∉ [(s.heap.push (newSet w)).objs.size, l] := by
        rw [hz]; simp only [List.mem_cons, List.not_mem_nil, or_false, not_or]; exact ⟨Nat.ne_of_lt (Nat.lt_succ_self _), Nat.ne_of_gt hlS⟩
      have hval : ∀ (i : Nat) (v : Value), items[i]? = some v → ∃ k t, ns[i]? = some k ∧ v = .int k t := fun i v hv => by
        have hi : i < ns.length := hisz ▸ (Array.getElem?_eq_some_iff.mp hv).1
        obtain ⟨t, e⟩ := PyProof.Rows.IntsAre.int_at hit i v (by rw [Array.getElem?_toList]; exact hv)
        exact ⟨ns[i], t, List.getElem?_eq_getElem hi, by rw [e, List.getD_eq_getElem?_getD, List.getElem?_eq_getElem hi]; rfl⟩
      refine set_update_ints ((Walks.list hh3 _ l hneI items).toS) s.heap.objs.size hSf ns hisz hb hval (items.size - 0) 0 _ (by omega) (Nat.zero_le _) ⟨⟨_, Heap.get?_push_size _ rfl, rfl, rfl⟩, (hl1.push _)⟩ ?z0 ?zR
      case z0 => exact ⟨0, Nat.le_refl 0, setR_new_at (Heap.get?_push_of_some _ hS)⟩
      case zR =>
        intro s' c' hm hc' hS'
        obtain ⟨h', g2, d', tk', os'⟩ := s'
        have eg : g2 = s.gens := hm.gens
        have ed : d' = s.drawn := hm.drawn
        have eo : os' = s.os := hm.os
        subst eg ed eo
        rw [hisz] at hc'
        refine wpAny_pure (?_ : wpAny _ _ (ret Value.none) _ _ _)
        refine wpAny_pure ⟨rfl, h', tk', c', rfl, hS', hc', fun b o e => ?_⟩
        have hb0 : b < s.heap.objs.size := Heap.lt_size e
        refine hm.heap b o ?_ (Heap.get?_push_of_some _ (Heap.get?_push_of_some _ e))
        simp only [List.mem_cons, List.not_mem_nil, or_false, not_or]
        exact ⟨Nat.ne_of_lt hb0, by rw [hz]; exact Nat.ne_of_lt (Nat.lt_succ_of_lt hb0)⟩
    · cases r₂ with
      | error e => exact hr₂
      | ok fl₂ =>
      cases fl₂ with
      | ret r =>
        obtain ⟨rfl, h', tk, c', rfl, hS', hc', hk'⟩ := hr₂
        repeat (any_goals (first | assumption | wp_step))
        exact h _ _ _ hS' hc' hk'
      | _ => exact hr₂.elim
  | _ => exact hr.elim
section
variable {X : Cx}
/-- set(xs), xs a list of whole numbers -/
def rSetI (K : PySem.W.Frag) (w : World) : List V → Hp → VK → Prop := fun vs H Q => ∃ (l : Addr) (ns : List Int), vs = [V.ref l] ∧ SqL K H l (ns.map V.int) ∧ ns.length ≤ 60 ∧
  ∀ (a : Addr) (c : Nat), c ≤ ns.length → H a = none → Q (.ref a) (upd H a (SetO w a (fun j => decide (j ∈ ns)) c))
theorem cr_setI (hc : X.calm = true) : CallR X (.type "set") (rSetI X.K X.w) := by
  intro pins s σ H vs us Q I r h
  obtain ⟨l, ns, rfl, hs, hlen, q⟩ := h
  obtain ⟨its, rv, pl, hz⟩ := I.list hs
  rw [Vals.ref1 r]
  have hi : IntsAre its.toArray.toList ns := by simpa using rv.ints
  refine set_of_ints ns (I.ok.hd hc) pl.isList hi (by unfold scanBound; omega) fun h' tk c R hcl hk => ?_
  exact ⟨.ref _, upd H s.heap.objs.size (SetO X.w s.heap.objs.size (fun j => decide (j ∈ ns)) c), I.laid (t' := tk) hk (Nat.le_refl _) (setO_new R), rfl, q _ c hcl (I.hok.fresh (Nat.le_refl _))⟩
/-- d[k], d a written dict -/
theorem ix_kd {d : Addr} {es : Array DictEntry} {n : Nat} (D : KDict X.K X.w d es n) : IxR X (fun x y H Q => ∃ (z : Str) (u0 : Value) (v0 : V), x = .ref d ∧ y = .str z ∧ PySem.W.nsIn X.K d z = some (some u0) ∧ RelV v0 u0 ∧ Q v0 H) := by
  intro value slice pins s σ H x y v u Q I rx ry h hs
  obtain ⟨z, u0, v0, ex, ey, e, r, q⟩ := h
  subst ex ey
  cases rx
  obtain ⟨t, rfl⟩ := ry
  have fin : EP X pins σ Q u0 s := ⟨v0, H, I, r, q⟩
  exact subscriptTail_builtinR (x := u0) (kd_type D I) PySem.F.slot_dict_getitem.lookup
    (wpAny_getItem_of (PySem.strKind_is X.prog X.w z t) (PySem.W.mapOf_K (prog := X.prog) I.kIn D.at_ D.lit) (PySem.W.find_K D.at_ e) ⟨rfl, ⟨v0, H, I.tok _, r, q⟩⟩) hs
end
end DP
/-! The rules with the written part named, for comprehensions; a method called with keywords. -/
namespace DP
open PySem PySem.Spec PyProof.Rows L2
section
variable {X : Cx} {K : PySem.W.Frag}
theorem ixT (h : X.K = K := by rfl) : IxR X (rIxT K) := by subst h; exact ix_tup
theorem ixL (h : X.K = K := by rfl) : IxR X (rIxL K) := by subst h; exact ix_list
theorem inS (h : X.K = K := by rfl) : OpR X (compareOp .In) (rIn K false) := by subst h; exact op_in_seq
theorem notInS (h : X.K = K := by rfl) : OpR X (compareOp .NotIn) (rIn K true) := by subst h; exact op_notIn_seq
theorem eqDK (hu : X.A.units + 64 < cLine) (h : X.K = K := by rfl) : OpR X (compareOp .Eq) (rEqD K) := by subst h; exact op_eqD hu
theorem neDK (hu : X.A.units + 64 < cLine) (h : X.K = K := by rfl) : OpR X (compareOp .NotEq) (rNeD K) := by subst h; exact op_neD hu
theorem inDK (hu : X.A.units + 65 < cLine) (h : X.K = K := by rfl) : OpR X (compareOp .In) (rInD K) := by subst h; exact op_inD hu
theorem notInDK (hu : X.A.units + 65 < cLine) (h : X.K = K := by rfl) : OpR X (compareOp .NotIn) (rNotInD K) := by subst h; exact op_notInD hu
def rLenK (K : PySem.W.Frag) : List V → Hp → VK → Prop := fun xs H Q => ∃ p ys, xs = [V.ref p] ∧ (SqL K H p ys ∨ SqT K H p ys) ∧ Q (.int ys.length) H
theorem lenK (h : X.K = K := by rfl) : CallR X (.builtin "len") (rLenK K) := by subst h; exact call_len_seq
def rListK (K : PySem.W.Frag) : List V → Hp → VK → Prop := fun xs H Q => ∃ p ys, xs = [V.ref p] ∧ (SqL K H p ys ∨ SqT K H p ys) ∧ ∀ l, H l = none → Q (.ref l) (upd H l (.lst ys))
theorem listK (h : X.K = K := by rfl) : CallR X (.type "list") (rListK K) := by subst h; exact call_list_of
theorem maxK (hc : X.calm = true) (h : X.K = K := by rfl) : CallR X (.builtin "max") (rMax K) := by subst h; exact cr_max hc
theorem minK (hc : X.calm = true) (h : X.K = K := by rfl) : CallR X (.builtin "min") (rMin K) := by subst h; exact cr_min hc
theorem maxDK (hc : X.calm = true) (hu : X.A.units + 65 < cLine) (h : X.K = K := by rfl) : CallR X (.builtin "max") (rBestD K PySem.W.maxD) := by subst h; exact cr_maxD hc hu
theorem minDK (hc : X.calm = true) (hu : X.A.units + 65 < cLine) (h : X.K = K := by rfl) : CallR X (.builtin "min") (rBestD K PySem.W.minD) := by subst h; exact cr_minD hc hu
theorem sortK (h : X.K = K := by rfl) : CallR X (.builtin "sorted") (rSorted K) := by subst h; exact cr_sorted
theorem sortDK {β : Type} (enc : β → PyData) (hu : X.A.units + 65 < cLine) (h : X.K = K := by rfl) : CallR X (.builtin "sorted") (rSortD K enc) := by subst h; exact cr_sortD enc hu
theorem setIK {w : World} (hc : X.calm = true) (h : X.K = K := by rfl) (hw : X.w = w := by rfl) : CallR X (.type "set") (rSetI K w) := by subst h hw; exact cr_setI hc
theorem sortedSetK {w : World} (hc : X.calm = true) (hw : X.w = w := by rfl) : CallR X (.builtin "sorted") (rSortedSet w) := by subst hw; exact cr_sortedSet hc
theorem slL (h : X.K = K := by rfl) : SlR X (rSlL K) := by subst h; exact sl_list
theorem isiK (h : X.K = K := by rfl) : CallR X (.builtin "isinstance") (rIsi K) := by subst h; exact call_isi
theorem fldK {o : Expr} {ta : TE} {f : Str} {pos : Pos} (he : PE X o ta) (hb : attributeBase o f X.env (eval o X.env) = eval o X.env := by rfl) (h : X.K = K := by rfl) : PE X (.Attribute o f pos) (tFld K ta f) := by subst h; exact pe_fld he hb
theorem tupK {es : List Expr} {k : Nat} {t : TGs} {n : Nat} {pos : Pos} (hc : X.calm = true) (h1 : PGs X es t) (hn : (assignEach es X.env).length = n := by rfl) (hst : (assignEach es X.env).findIdx? (·.1) = none := by rfl) (h : X.K = K := by rfl) :
    PG X (.Tuple es k pos) (gTup K n t) := by subst h; exact pg_tup hc h1 hn hst
end
section
variable {X : Cx} {CX : CXT} {k : Nat} {f C : Addr} {fd : FuncData} {ps ks : List Str} {sp : Sp} {E : XK} {m : Str} {pos apos : Pos} {o : Expr} {kws : List Keyword} {ta : TE} {tk : TA} {g : List Value → List Value → List Value} {gV : List V → List V → List V}
/-- o.m(k = v, ..) -/
def tMethK (C : Addr) (m : Str) (sp : Sp) (gV : List V → List V → List V) (E : XK) (ta : TE) (tk : TA) : TE := fun σ H Q => ta σ H fun x H1 => ∃ a dx fs, x = .ref a ∧ H1 a = some (.ins C dx fs) ∧ fs.lookup m = none ∧ tk σ H1 fun zs H2 => sp (gV [.ref a] zs) H2 Q E
theorem pe_methK0 {pl : Sem Bool} (he : PE X o ta) (c : Cls X.K C) (hm : Meth X.K C m f) (F : FnOk X.prog X.w X.K X.mg X.base CX k f fd ps sp) (hr : Room k X.A) (hb : KBinds X.K fd ps ks g gV) (hx : Passes CX X E) (hkw : PK X kws tk)
    (hall : (backToKw pos (keywordEach kws X.env)).all (·.1.isSome) = true := by rfl) (hks : (backToKw pos (keywordEach kws X.env)).filterMap (·.1) = ks := by rfl)
    (hpl : ((backTo pos (starEach [] X.env)).any (·.1) || (backToKw pos (keywordEach kws X.env)).any (·.1.isNone)) = false := by rfl)
    (ht : eval (.Call (.Attribute o m apos) [] kws pos) X.env = (do
      let ov ← eval o X.env
      standAt apos.atName
      let (f, first) ← holding [ov] (getMethod ov m pl)
      callWith pos f first (backTo pos (starEach [] X.env)) (backToKw pos (keywordEach kws X.env))) := by rfl) :
    PE X (.Call (.Attribute o m apos) [] kws pos) (tMethK C m sp gV E ta tk) := by
  refine ⟨fun pins s σ H Q I h => ?_⟩
  refine PySem.W.methodCall_KW (pl := pl) (thn (he.run pins s σ H _ I h) fun u s1 ⟨x, H1, I1, rx, a, dx, fs, ex, ea, l, q⟩ => ?_) ht
  subst ex
  obtain rfl : u = Value.ref a := rx
  refine getmeth_ok I1 ea c hm l ?_
  refine PySem.W.callWith_KW0 (first := [.ref a]) (h₀ := X.base) I.ok.mod.kin hm.kp hall ?_ hpl
  refine thn (hkw.run pos pins s1 σ H1 _ I1 q) fun ws s2 ⟨zs, H2, I2, rz, q2⟩ => ⟨I2.kIn, ?_⟩
  rw [hks]
  exact run_fnk (us := [.ref a]) (vs := [.ref a]) F hr hb hx I2 (.cons rfl .nil) rz q2
end
/-- one positional value, one keyword -/
def g11 {α : Type} : List α → List α → List α
  | [a], [b] => [a, b]
  | _, _ => []
theorem g11_rel {vs : List V} {us : List Value} {zs : List V} {ws : List Value} (r : Vals vs us) (q : Vals zs ws) : Vals (g11 vs zs) (g11 us ws) := by
  cases r with
  | nil => exact .nil
  | cons a t =>
    cases t with
    | cons _ _ => exact .nil
    | nil =>
      cases q with
      | nil => exact .nil
      | cons b t =>
        cases t with
        | cons _ _ => exact .nil
        | nil => exact .cons a (.cons b .nil)
end DP
/-! A set of tuples whose parts are plain (whole numbers, texts), made of a list and sorted: over any kind of plain parts. -/
namespace SD
open PySem PySem.Spec PyProof.Rows L2
section
variable {P : Program} {w : World} {κ : Type} [DecidableEq κ] {kn : KeyKind P w κ} {A : Around} {E : Value → Shared → Prop} {s : Shared}
/-- parts are no objects -/
def Plain (kn : KeyKind P w κ) : Prop := ∀ k v, kn.is k v = true → v.scannable = true
abbrev TupAt (kn : KeyKind P w κ) (h : Heap) (p : Addr × List κ) : Prop := IsTupleKey kn h p.2 p.1
abbrev hsh (kn : KeyKind P w κ) (k : List κ) : Int := tupleKeyHash kn k
theorem parts (pl : Plain kn) : ∀ {k : List κ} {vs : List Value}, ItemsAre kn k vs → ∀ v ∈ vs, v.scannable = true
  | _, _, .nil, v, h => by cases h
  | _, _, .cons a t, v, h => by
    rcases List.mem_cons.mp h with e | h
    · rw [e]; exact pl _ _ a
    · exact parts pl t v h
theorem no_class1 (n : Nat) {v : Value} (h : v.scannable = true) : ofAClassStatement n v = pure false := by
  cases n <;> cases v <;> simp_all [Value.scannable, ofAClassStatement]
theorem no_class (pl : Plain kn) {b : Addr} {k : List κ} {Q : Bool → Shared → Prop} (hk : TupAt kn s.heap (b, k)) (q : Q false s) : wpAny (model P w) A (ofAClassStatement 8 (.ref b)) Q E s := by
  have ty := IsTupleKey.typeIs hk
  obtain ⟨o, items, n, ho, _, hd, hi⟩ := hk
  have hp := parts pl hi
  unfold ofAClassStatement
  refine wpAny_bind (wpAny_typeOf ty ?_)
  dsimp only
  simp only [show (("tuple" : String) == "tuple") = true by decide, if_true, Bool.not_true, Bool.false_eq_true, if_false]
  try refine wpAny_bind (wpAny_pure ?_)
  try simp only [Bool.not_true, Bool.false_eq_true, if_false]
  refine wpAny_bind (wpAny_seqItems ho hd ?_)
  dsimp only
  refine wpAny_bind ?_
  rw [← Array.forIn_toList]
  refine wpAny_forIn_list _ (fun rest r s2 => (r.1 = none ∧ s2 = s) ∧ ∀ v ∈ rest, v.scannable = true) _ (fun v rest r s2 hh => ?_) (fun r s2 hh => ?_) _ _ ⟨⟨rfl, rfl⟩, hp⟩
  · obtain ⟨⟨h1, rfl⟩, h2⟩ := hh
    rw [no_class1 _ (h2 v List.mem_cons_self)]
    refine wpAny_bind (wpAny_pure ?_)
    simp only [Bool.false_eq_true, if_false]
    exact wpAny_pure ⟨⟨rfl, rfl⟩, fun u hu => h2 u (List.mem_cons_of_mem _ hu)⟩
  · obtain ⟨⟨h1, rfl⟩, _⟩ := hh
    obtain ⟨r1, r2⟩ := r
    have h1' : r1 = none := h1
    subst h1'
    exact wpAny_pure q
theorem by_value (pl : Plain kn) {b : Addr} {k : List κ} {Q : Bool → Shared → Prop} (hk : TupAt kn s.heap (b, k)) (q : ∀ r, Q r s) : wpAny (model P w) A (hashByValue 8 (.ref b)) Q E s := by
  have ty := IsTupleKey.typeIs hk
  obtain ⟨o, items, n, ho, _, hd, hi⟩ := hk
  have hp := parts pl hi
  unfold hashByValue
  refine wpAny_bind (wpAny_specialOf ty F.slot_tuple_hash.lookup ?_)
  show wpAny _ _ (seqItems? (.ref b) >>= _) _ _ s
  refine wpAny_bind (wpAny_seqItems ho hd ?_)
  refine wpAny_bind ?_
  show wpAny _ _ (forIn items _ _) _ _ s
  rw [← Array.forIn_toList]
  refine wpAny_forIn_list _ (fun rest r s2 => s2 = s ∧ ∀ v ∈ rest, v.scannable = true) _ (fun v rest r s2 hh => ?_) (fun r s2 hh => ?_) _ _ ⟨rfl, hp⟩
  · obtain ⟨rfl, h2⟩ := hh
    rw [hashByValue_scannable _ (h2 v List.mem_cons_self)]
    refine wpAny_bind (wpAny_pure ?_)
    cases plainKind v
    · simp only [Bool.not_false, if_true]
      exact wpAny_pure (show wpAny _ _ (pure false) _ _ _ from wpAny_pure (q false))
    · simp only [Bool.not_true, Bool.false_eq_true, if_false]
      exact wpAny_pure ⟨rfl, fun u hu => h2 u (List.mem_cons_of_mem _ hu)⟩
  · obtain ⟨rfl, _⟩ := hh
    obtain ⟨r1, r2⟩ := r
    cases r1 with
    | none => exact wpAny_pure (q true)
    | some r => exact wpAny_pure (q r)
end
section
variable {P : Program} {w : World} {κ : Type} [DecidableEq κ] {kn : KeyKind P w κ} {A : Around} {E : Value → Shared → Prop} {s : Shared}
/-- looking for a tuple among tuples shows nothing -/
theorem unseen (pl : Plain kn) {b : Addr} {k : List κ} {Q : Bool → Shared → Prop} (hk : TupAt kn s.heap (b, k)) {ys : List Value} (hy : ∀ y ∈ ys, ∃ p : Addr × List κ, y = Value.ref p.1 ∧ TupAt kn s.heap p) (q : Q false s) :
    wpAny (model P w) A (searchCouldBeSeen (.ref b) ys) Q E s := by
  unfold searchCouldBeSeen
  refine wpAny_bind ?_
  refine wpAny_forIn_list _ (fun rest r s2 => (r.1 = none ∧ s2 = s) ∧ ∀ y ∈ rest, ∃ p : Addr × List κ, y = Value.ref p.1 ∧ TupAt kn s.heap p) _ (fun v rest r s2 hh => ?_) (fun r s2 hh => ?_) _ _ ⟨⟨rfl, rfl⟩, hy⟩
  · obtain ⟨⟨h1, rfl⟩, h2⟩ := hh
    obtain ⟨p, rfl, hp⟩ := h2 v List.mem_cons_self
    have more : ∀ y ∈ rest, ∃ p : Addr × List κ, y = Value.ref p.1 ∧ TupAt kn s2.heap p := fun u hu => h2 u (List.mem_cons_of_mem _ hu)
    dsimp only
    cases c : (b == p.1 || (carriedByValue (.ref b) && carriedByValue (.ref p.1))) with
    | true =>
      refine wp_if_pos rfl ?_
      exact wpAny_pure ⟨⟨rfl, rfl⟩, more⟩
    | false =>
      refine wp_if_neg Bool.false_ne_true ?_
      refine wpAny_bind (wpAny_eqIsQuiet_tuple hk ?_)
      simp only [Bool.not_true, Bool.false_eq_true, if_false]
      refine wpAny_bind (wpAny_eqIsQuiet_tuple hp ?_)
      simp only [Bool.not_true, Bool.false_eq_true, if_false]
      refine wpAny_bind (no_class pl hk ?_)
      simp only [Bool.false_eq_true, if_false]
      refine wpAny_bind (no_class pl hp ?_)
      simp only [Bool.false_eq_true, if_false]
      exact wpAny_pure ⟨⟨rfl, rfl⟩, more⟩
  · obtain ⟨⟨h1, rfl⟩, _⟩ := hh
    obtain ⟨r1, r2⟩ := r
    have h1' : r1 = none := h1
    subst h1'
    exact wpAny_pure q
/-- an entry's row -/
def row (kn : KeyKind P w κ) (p : Addr × List κ) : Int × Value := (hsh kn p.2, .ref p.1)
/-- the set at a has the tuples L -/
structure Tb (kn : KeyKind P w κ) (h : Heap) (a : Addr) (L : List (Addr × List κ)) (es : Array (Int × Value)) (ep : Nat) (t : SetTable) : Prop where
  obj : ∃ o, h.get? a = some o ∧ o.ExactSet ∧ o.data = .set es ep t
  rows : es.toList = L.map (row kn)
  tab : TabOk t (L.map fun p => hsh kn p.2)
  one : (L.map Prod.snd).Nodup
  led : w.params.followText "set-order" = true ∨ t.led = true
  room : L.length * 5 < t.mask * 3
  few : L.length < 64
def All (kn : KeyKind P w κ) (h : Heap) (L : List (Addr × List κ)) : Prop := ∀ p ∈ L, TupAt kn h p
variable {a : Addr} {L : List (Addr × List κ)} {es : Array (Int × Value)} {ep : Nat} {t : SetTable}
theorem rows_len {L : List (Addr × List κ)} {es : Array (Int × Value)} (h : es.toList = L.map (row kn)) : es.size = L.length := by
  have e := congrArg List.length h
  rwa [Array.length_toList, List.length_map] at e
theorem tab_len {t : SetTable} {L : List (Addr × List κ)} (T : TabOk t (L.map fun p => hsh kn p.2)) : t.place.size = L.length := by
  have e := T.sz
  rwa [List.length_map] at e
theorem fits_of {t : SetTable} {n : Nat} (h1 : t.place.size = n) (h2 : t.dummies = #[]) (h3 : n ≤ t.mask) : t.fits n = true := by
  unfold SetTable.fits SetTable.fill
  rw [h2, h1, Bool.and_eq_true, beq_iff_eq, decide_eq_true_eq]
  exact ⟨rfl, h3⟩
theorem Tb.fit (R : Tb kn s.heap a L es ep t) : t.fits es.size = true := by
  rw [rows_len R.rows]
  have h := R.room
  exact fits_of (tab_len R.tab) R.tab.dm (by omega)
theorem row_at {L : List (Addr × List κ)} {es : Array (Int × Value)} (h : es.toList = L.map (row kn)) {i : Nat} {p : Addr × List κ} (hp : L[i]? = some p) : es[i]? = some (hsh kn p.2, Value.ref p.1) := by
  rw [← Array.getElem?_toList, h, List.getElem?_map, hp]; rfl
theorem undumb (m : Nat) : ∀ (n : Nat) (p : SetTable.Probe), p.dummy = none → (nth m p n).dummy = none
  | 0, _, h => h
  | n + 1, p, h => undumb m n (adv m p) (by unfold adv; split <;> exact h)
abbrev from0 (m : Nat) (h : Int) : SetTable.Probe := runAt m (SetTable.bits h % (m + 1)) (SetTable.bits h)
/-- the search for x, from step c of its way on -/
theorem seek (pl : Plain kn) (R : Tb kn s.heap a L es ep t) (R2 : All kn s.heap L) {x : Addr} {k : List κ} (hx : TupAt kn s.heap (x, k)) (hu : A.units < cLine) {n : Nat} (hn : n < 10 * SetTable.turns t.mask)
    (free : way t.mask (hsh kn k) n ∉ t.place.toList) (full : ∀ c, c < n → way t.mask (hsh kn k) c ∈ t.place.toList) {Q : SetFound → Shared → Prop} (yes : k ∈ L.map Prod.snd → Q (.there none) s)
    (no : k ∉ L.map Prod.snd → Q (.free (way t.mask (hsh kn k) n) false) s) :
    ∀ (f c : Nat) (stand : Option SetTable.Probe), stand.getD (t.probeStart (hsh kn k)) = nth t.mask (from0 t.mask (hsh kn k)) c → c ≤ n → n - c < f →
      (∀ (i : Nat) p, L[i]? = some p → p.2 = k → ∃ d, (c ≤ d ∧ d < n) ∧ t.place.toList[i]? = some (way t.mask (hsh kn k) d)) →
      wpAny (model P w) A (setSearchFrom a (.ref x) (hsh kn k) true f stand) Q E s := by
  intro f
  induction f with
  | zero => intro c stand _ _ z _; exact absurd z (Nat.not_lt_zero _)
  | succ f ih =>
    intro c stand hs hc hf left
    obtain ⟨o, ho, _, hd⟩ := R.obj
    have gw : ¬ t.gaveWay = true := by
      unfold SetTable.gaveWay
      rw [mask_odd R.tab.mok]; decide
    have shift : ∀ q, nth t.mask (nth t.mask (from0 t.mask (hsh kn k)) c) q = nth t.mask (from0 t.mask (hsh kn k)) (c + q) := fun q => (nth_add t.mask c _ q).symm
    have wj : ∀ q, (nth t.mask (nth t.mask (from0 t.mask (hsh kn k)) c) q).j = way t.mask (hsh kn k) (c + q) := fun q => congrArg SetTable.Probe.j (shift q)
    have hcn : c + (n - c) = n := by omega
    have at_ : ∀ (i : Nat) p, L[i]? = some p → ((es[i]?.map (·.1)).getD 0 : Int) = hsh kn p.2 := fun i p hp => by rw [row_at R.rows hp]; rfl
    rw [setSearchFrom_succ]
    refine wpAny_bind (wpAny_setState_of ho hd R.fit ?_)
    dsimp only
    refine wp_if_neg gw ?_
    try refine wpAny_bind (wpAny_pure ?_)
    rcases go_spec t R.tab.ris R.tab.dm (fun i => (es[i]?.map (·.1)).getD 0) (hsh kn k) (10 * SetTable.turns t.mask) (n - c) _ (undumb t.mask c _ rfl) (by omega) (fun q hq => by rw [wj]; exact full _ (by omega)) (by rw [wj, hcn]; exact free) with ⟨q, i, hq, hi, hh, nb, pr⟩ | ⟨nb, pr⟩
    · have pr2 : t.probe (fun i => (es[i]?.map (·.1)).getD 0) (hsh kn k) (stand.getD (t.probeStart (hsh kn k))) = some (.candidate (way t.mask (hsh kn k) (c + q)) i (nth t.mask (from0 t.mask (hsh kn k)) (c + (q + 1)))) := by
        rw [hs, ← wj, ← shift]; exact pr
      rw [pr2]
      dsimp only
      rw [wj] at hi
      have hil : i < L.length := by
        have h1 := (List.getElem?_eq_some_iff.mp hi).1
        rw [Array.length_toList, tab_len R.tab] at h1
        exact h1
      obtain ⟨p, hp⟩ : ∃ p, L[i]? = some p := ⟨_, List.getElem?_eq_getElem hil⟩
      have hpL := List.mem_of_getElem? hp
      have live : t.slot (way t.mask (hsh kn k) (c + q)) = .live i := slot_live R.tab.ris hi
      have cand : wpAny (model P w) A (searchRest a (.ref x) (hsh kn k) true f es t (way t.mask (hsh kn k) (c + q)) i (nth t.mask (from0 t.mask (hsh kn k)) (c + (q + 1)))) Q E s := by
        unfold searchRest
        rw [row_at R.rows hp]
        dsimp only
        refine wpAny_bind (wpAny_holding (wpAny_eqBool_tuple hu (R2 p hpL) hx ?_))
        refine wpAny_bind (wpAny_setState_of ho hd R.fit ?_)
        dsimp only
        by_cases same : p.2 = k
        · refine wp_if_pos (by simp [same]) (wpAny_pure (yes ?_))
          exact List.mem_map.mpr ⟨p, hpL, same⟩
        · refine wp_if_neg (by simp [same]) ?_
          try refine wpAny_bind (wpAny_pure ?_)
          rw [L2.sameMem]
          dsimp only
          simp only [if_true, live, row_at R.rows hp]
          refine wpAny_bind (wpAny_isSame_ref_self (wpAny_bind (wpAny_pure ?_)))
          simp only [if_true]
          refine wp_if_neg (by simp [same]) ?_
          refine ih (c + (q + 1)) _ rfl (by omega) (by omega) fun i2 p2 h2 hk2 => ?_
          obtain ⟨d, ⟨d1, d2⟩, d3⟩ := left i2 p2 h2 hk2
          refine ⟨d, ⟨?_, d2⟩, d3⟩
          rcases Nat.lt_trichotomy d (c + q) with z | z | z
          · refine absurd ((at_ i2 p2 h2).trans (congrArg (hsh kn) hk2)) (nb (d - c) i2 (by omega) ?_)
            rw [wj, show c + (d - c) = d by omega]; exact d3
          · rw [z] at d3
            have e := (slot_live R.tab.ris d3).symm.trans live
            injection e with e
            rw [e, hp] at h2
            exact absurd ((congrArg Prod.snd (Option.some.inj h2)).trans hk2) same
          · omega
      cases hl : t.led with
      | true =>
        refine wp_if_neg (by simp) ?_
        try refine wpAny_bind (wpAny_pure ?_)
        exact cand
      | false =>
        refine wp_if_pos (by simp) ?_
        refine wpAny_bind (unseen pl hx (fun y hy => ?_) ?_)
        · obtain ⟨e, he, rfl⟩ := List.mem_map.mp hy
          have he2 : e ∈ es.toList := by
            have h3 : e ∈ es ∧ e.1 = hsh kn k := by simpa using he
            simpa using h3.1
          rw [R.rows] at he2
          obtain ⟨p2, hp2, rfl⟩ := List.mem_map.mp he2
          exact ⟨p2, rfl, R2 p2 hp2⟩
        · refine wp_if_neg (by decide) ?_
          try refine wpAny_bind (wpAny_pure ?_)
          exact cand
    · have pr2 : t.probe (fun i => (es[i]?.map (·.1)).getD 0) (hsh kn k) (stand.getD (t.probeStart (hsh kn k))) = some (.empty (way t.mask (hsh kn k) n) none) := by
        have e : way t.mask (hsh kn k) n = (nth t.mask (nth t.mask (from0 t.mask (hsh kn k)) c) (n - c)).j := by rw [wj, hcn]
        rw [hs, e]; exact pr
      rw [pr2]
      dsimp only
      refine wpAny_pure (no fun hm => ?_)
      obtain ⟨p2, h2, hk2⟩ := List.mem_map.mp hm
      obtain ⟨i2, hi2⟩ := List.mem_iff_getElem?.mp h2
      obtain ⟨d, ⟨d1, d2⟩, d3⟩ := left i2 p2 hi2 hk2
      refine absurd ((at_ i2 p2 hi2).trans (congrArg (hsh kn) hk2)) (nb (d - c) i2 (by omega) ?_)
      rw [wj, show c + (d - c) = d by omega]; exact d3
theorem seek0 (pl : Plain kn) (R : Tb kn s.heap a L es ep t) (R2 : All kn s.heap L) {x : Addr} {k : List κ} (hx : TupAt kn s.heap (x, k)) (hu : A.units < cLine) {Q : SetFound → Shared → Prop} (yes : k ∈ L.map Prod.snd → Q (.there none) s)
    (no : ∀ n, k ∉ L.map Prod.snd → way t.mask (hsh kn k) n ∉ t.place.toList → (∀ c, c < n → way t.mask (hsh kn k) c ∈ t.place.toList) → Q (.free (way t.mask (hsh kn k) n) false) s) :
    wpAny (model P w) A (setSearch a (.ref x) (hsh kn k) true) Q E s := by
  have hr := R.room
  obtain ⟨n, hn, h1, h2⟩ := R.tab.first (by rw [List.length_map]; omega) (hsh kn k)
  have small : n < 100000 := by
    have : SetTable.turns t.mask ≤ 142 := by
      unfold SetTable.turns
      rcases R.tab.mok with e | e | e <;> omega
    omega
  unfold setSearch
  refine seek pl R R2 hx hu hn h1 h2 yes (fun c => no n c h1 h2) 100000 0 none rfl (Nat.zero_le _) (by omega) fun i p hp hk => ?_
  have hi : (L.map fun p => hsh kn p.2)[i]? = some (hsh kn k) := by rw [List.getElem?_map, hp, ← hk]; rfl
  have hil : i < t.place.toList.length := by
    rw [Array.length_toList, tab_len R.tab]
    exact (List.getElem?_eq_some_iff.mp hp).1
  have hj := List.getElem?_eq_getElem hil
  obtain ⟨d, hd, e⟩ := R.tab.before h1 hi hj
  exact ⟨d, ⟨Nat.zero_le _, hd⟩, by rw [hj, e]⟩
end
section
variable {P : Program} {w : World} {κ : Type} [DecidableEq κ] {kn : KeyKind P w κ} {A : Around} {E : Value → Shared → Prop} {s : Shared}
theorem tup_but {h h' : Heap} {p : Addr × List κ} {a : Addr} {o : Obj} {es : Array (Int × Value)} {ep : Nat} {t : SetTable} (hp : TupAt kn h p) (ho : h.get? a = some o) (hd : o.data = .set es ep t) (hs : Heap.SameBut a h h') : TupAt kn h' p := by
  obtain ⟨o2, its, n, ho2, hc, hd2, hi⟩ := hp
  have ne : p.1 ≠ a := fun e => by
    rw [e, ho] at ho2
    rw [← Option.some.inj ho2, hd] at hd2
    exact nomatch hd2
  exact ⟨o2, its, n, (hs.2 p.1 ne).trans ho2, hc, hd2, hi⟩
theorem tup_keep {h h' : Heap} {p : Addr × List κ} (hp : TupAt kn h p) (hk : ∀ c o, h.get? c = some o → h'.get? c = some o) : TupAt kn h' p := by
  obtain ⟨o2, its, n, ho2, r⟩ := hp
  exact ⟨o2, its, n, hk _ _ ho2, r⟩
theorem mid_perm {α : Type} (L : List α) (p : Nat) (x : α) : (L.take p ++ x :: L.drop p).Perm (x :: L) := by
  have h := List.perm_middle (a := x) (l₁ := L.take p) (l₂ := L.drop p)
  rwa [List.take_append_drop] at h
theorem map_mid {α β : Type} (f : α → β) (L : List α) (p : Nat) (x : α) : (L.take p ++ x :: L.drop p).map f = (L.map f).take p ++ f x :: (L.map f).drop p := by
  rw [List.map_append, List.map_cons, List.map_take, List.map_drop]
/-- the rows in another order -/
theorem reorder {L : List (Addr × List κ)} {es : Array (Int × Value)} {order : Array Nat} (hr : es.toList = L.map (row kn)) (hp : order.toList.Perm (List.range L.length)) :
    ∃ M : List (Addr × List κ), (order.filterMap (es[·]?)).toList = M.map (row kn) ∧ M.Perm L ∧ (M.map fun p => hsh kn p.2) = order.toList.map fun i => (es.map (·.1)).getD i 0 := by
  have each : ∀ l : List Nat, (∀ i ∈ l, i < L.length) → l.filterMap (fun i => es[i]?) = (l.filterMap fun i => L[i]?).map (row kn) ∧ ((l.filterMap fun i => L[i]?).map fun p => hsh kn p.2) = l.map fun i => (es.map (·.1)).getD i 0 := by
    intro l
    induction l with
    | nil => intro _; exact ⟨rfl, rfl⟩
    | cons i l ih =>
      intro hl
      obtain ⟨e1, e2⟩ := ih fun j hj => hl j (List.mem_cons_of_mem _ hj)
      have hi := hl i List.mem_cons_self
      obtain ⟨p, hp⟩ : ∃ p, L[i]? = some p := ⟨_, List.getElem?_eq_getElem hi⟩
      have hrow := row_at hr hp
      rw [List.filterMap_cons_some hrow, List.filterMap_cons_some hp, List.map_cons, List.map_cons, List.map_cons, e1, e2]
      refine ⟨rfl, ?_⟩
      have e3 : (es.map (·.1))[i]? = some (hsh kn p.2) := by rw [Array.getElem?_map, hrow]; rfl
      have e4 : (es.map (·.1)).getD i 0 = hsh kn p.2 := by simp [Array.getD_eq_getD_getElem?, e3]
      rw [e4]
  obtain ⟨e1, e2⟩ := each order.toList fun i hi => List.mem_range.mp (hp.mem_iff.mp hi)
  refine ⟨_, by first | (rw [Array.toList_filterMap]; exact e1) | simpa using e1, ?_, e2⟩
  have all : (List.range L.length).filterMap (fun i => L[i]?) = L := by
    have z : ∀ n, n ≤ L.length → (List.range n).filterMap (fun i => L[i]?) = L.take n := by
      intro n
      induction n with
      | zero => intro _; rfl
      | succ n ih =>
        intro hn
        rw [List.range_succ, List.filterMap_append, ih (Nat.le_of_lt hn), List.take_succ, List.getElem?_eq_getElem hn, List.filterMap_cons_some (List.getElem?_eq_getElem hn)]; rfl
    rw [z _ (Nat.le_refl _), List.take_length]
  have h := hp.filterMap fun i => L[i]?
  rwa [all] at h
variable {a : Addr} {L : List (Addr × List κ)} {es : Array (Int × Value)} {ep : Nat} {t : SetTable}
/-- a larger table -/
theorem larger {o : Obj} (ho : s.heap.get? a = some o) (hx : o.ExactSet) (hd : o.data = .set es ep t) (rows : es.toList = L.map (row kn)) (sz : t.place.size = es.size) (dm : t.dummies = #[]) (fl : es.size ≤ t.mask)
    (one : (L.map Prod.snd).Nodup) (led : w.params.followText "set-order" = true ∨ t.led = true) (few : L.length < 64) {wanted M : Nat}
    (hw : SetTable.sizeAbove wanted - 1 = M) (hM : MaskOk M) (hw2 : SetTable.sizeAbove wanted ≤ 128) (room : L.length * 5 < M * 3) {Q : Unit → Shared → Prop}
    (q : ∀ h' L' es' ep' t', Heap.SameBut a s.heap h' → Tb kn h' a L' es' ep' t' → L'.Perm L → Q () { s with heap := h' }) : wpAny (model P w) A (setRelay a wanted) Q E s := by
  have hn := rows_len rows
  obtain ⟨t2, order, e, hp, T, em, el, _, _⟩ := relaid_ok t (hs := es.map (·.1)) (wanted := wanted) hw hM (by rw [Array.size_map, hn]; omega)
  rw [Array.size_map, hn] at hp
  obtain ⟨N, r1, r2, r3⟩ := reorder rows hp
  rw [← r3] at T
  have hz : (order.filterMap (es[·]?)).size = es.size := by rw [rows_len r1, r2.length_eq, hn]
  rw [setRelay_eq]
  refine wpAny_bind (wpAny_setState_of ho hd (fits_of sz dm fl) ?_)
  dsimp only
  refine wp_if_neg (by rw [sizeLine_eq]; omega) ?_
  try refine wpAny_bind (wpAny_pure ?_)
  rw [e]
  dsimp only
  refine wpAny_bind ?_
  refine wp_if_neg (by rw [hz]; simp) ?_
  try refine wpAny_bind (wpAny_pure ?_)
  refine wpAny_pure ?_
  dsimp only
  refine wpAny_storeSet_of ho hd ?_ (by rw [hz, hn, sizeLine_eq]; omega)
  have but : Heap.SameBut a s.heap (s.heap.update a (Obj.putSet (order.filterMap (es[·]?)) t2)) := Heap.SameBut.update ..
  refine q _ N _ (ep + 1) t2 but ⟨⟨_, store_at ho hd, ⟨hx.1, hx.2.1, hx.2.2⟩, rfl⟩, r1, T, (r2.map Prod.snd).nodup_iff.mpr one, by rw [el]; exact led, by rw [r2.length_eq, em]; exact room, by rw [r2.length_eq]; exact few⟩ r2
theorem plain_off {t : SetTable} {hs : List Int} (T : TabOk t hs) : TabOk { t with plain := false } hs := ⟨T.ris, T.dm, T.sz, T.mok, T.bd, T.reach⟩
/-- one tuple put in -/
theorem adding (pl : Plain kn) (R : Tb kn s.heap a L es ep t) (R2 : All kn s.heap L) {x : Addr} {k : List κ} (hx : TupAt kn s.heap (x, k)) (hu : A.units < cLine) (few : L.length + 1 < 64) {Q : Bool → Shared → Prop}
    (q : ∀ b h' L' es' ep' t', Heap.SameBut a s.heap h' → Tb kn h' a L' es' ep' t' → (L' = L ∧ k ∈ L.map Prod.snd ∨ L'.Perm ((x, k) :: L)) → Q b { s with heap := h' }) :
    wpAny (model P w) A (setAddHashed a (.ref x) (hsh kn k)) Q E s := by
  obtain ⟨o, ho, hex, hd⟩ := R.obj
  have hn := rows_len R.rows
  have hroom := R.room
  unfold setAddHashed
  refine wpAny_holding ?_
  rw [show (100000 : Nat) = 99999 + 1 from rfl, setAddHashedIn_succ]
  refine wpAny_bind (wpAny_setState_of ho hd R.fit ?_)
  dsimp only
  refine wp_if_neg (by simp [byScan, Value.scannable]) ?_
  try refine wpAny_bind (wpAny_pure ?_)
  refine wpAny_bind (seek0 pl R R2 hx hu (fun hm => ?_) fun n hm free full => ?_)
  · dsimp only
    exact wpAny_pure (q false s.heap L es ep t (Heap.SameBut.refl a s.heap) R (.inl ⟨rfl, hm⟩))
  dsimp only
  refine wpAny_bind (wpAny_setState_of ho hd R.fit ?_)
  dsimp only
  obtain ⟨q1, q2, q3, q4, q5, _, _, _, q9⟩ := R.tab.put free full
  generalize t.put (way t.mask (hsh kn k) n) = pt at q1 q3 q4 q5 q9 ⊢
  obtain ⟨t0, p0⟩ := pt
  dsimp only at q1 q3 q4 q5 q9 ⊢
  subst q1
  generalize SetTable.below t.place (way t.mask (hsh kn k) n) = p at q2 q3 ⊢
  -- whatever the table is called now
  have fin : ∀ t1 : SetTable, TabOk t1 ((L.map fun p => hsh kn p.2).take p ++ hsh kn k :: (L.map fun p => hsh kn p.2).drop p) → t1.mask = t.mask → t1.led = t.led → t1.fill = (L.map fun p => hsh kn p.2).length + 1 →
      wpAny (model P w) A (do
        storeSet a (SetTable.insertAt es p (hsh kn k, .ref x)) t1
        if !false && t1.tooFull then setRelay a (SetTable.grown (es.size + 1))
        return true) Q E s := by
    intro t1 T1 em el ef
    have hins : (SetTable.insertAt es p (hsh kn k, Value.ref x)).toList = (L.take p ++ (x, k) :: L.drop p).map (row kn) := by
      rw [SetTable.toList_insertAt, map_mid, R.rows]; rfl
    have pm := mid_perm L p (x, k)
    have hlen : (L.take p ++ (x, k) :: L.drop p).length = L.length + 1 := pm.length_eq
    have T2 : TabOk t1 ((L.take p ++ (x, k) :: L.drop p).map fun p => hsh kn p.2) := by rw [map_mid]; exact T1
    have one1 : ((L.take p ++ (x, k) :: L.drop p).map Prod.snd).Nodup := by
      refine (pm.map Prod.snd).nodup_iff.mpr ?_
      rw [List.map_cons]
      exact List.nodup_cons.mpr ⟨hm, R.one⟩
    have hsz := rows_len hins
    rw [hlen] at hsz
    generalize SetTable.insertAt es p (hsh kn k, Value.ref x) = es1 at hins hsz ⊢
    generalize L.take p ++ (x, k) :: L.drop p = L1 at pm hlen T2 one1 hins
    refine wpAny_bind (wpAny_storeSet_of ho hd ?_ (by rw [hsz, sizeLine_eq]; omega))
    have but : Heap.SameBut a s.heap (s.heap.update a (Obj.putSet es1 t1)) := Heap.SameBut.update ..
    have ho1 := store_at (es' := es1) (t' := t1) ho hd
    generalize s.heap.update a (Obj.putSet es1 t1) = h1 at but ho1 ⊢
    have led1 : w.params.followText "set-order" = true ∨ t1.led = true := by rw [el]; exact R.led
    cases full1 : t1.tooFull with
    | true =>
      have hb : (L.length + 1) * 5 ≥ t.mask * 3 := by
        have h := full1
        unfold SetTable.tooFull at h
        rw [decide_eq_true_eq, ef, em, List.length_map] at h
        exact h
      have two : (t.mask = 7 ∧ L.length = 4) ∨ (t.mask = 31 ∧ L.length = 18) := by
        rcases R.tab.mok with e | e | e <;> rw [e] at hb hroom
        · exact .inl ⟨e, by omega⟩
        · exact .inr ⟨e, by omega⟩
        · exfalso; omega
      have go : ∀ M, SetTable.sizeAbove (SetTable.grown (es.size + 1)) - 1 = M → MaskOk M → SetTable.sizeAbove (SetTable.grown (es.size + 1)) ≤ 128 → (L.length + 1) * 5 < M * 3 →
          wpAny (model P w) A (setRelay a (SetTable.grown (es.size + 1))) (fun _ s' => wpAny (model P w) A (pure true) Q E s') E { s with heap := h1 } := fun M g1 g2 g3 g4 => by
        refine larger (s := { s with heap := h1 }) ho1 ⟨hex.1, hex.2.1, hex.2.2⟩ rfl hins (by rw [tab_len T2, hsz, hlen]) T2.dm (by rw [hsz, em]; omega) one1 led1 (by rw [hlen]; exact few) g1 g2 g3 (by rw [hlen]; exact g4) ?_
        intro h2 L2 es2 ep2 t2 but2 R3 pm2
        exact wpAny_pure (q true h2 L2 es2 ep2 t2 (but.trans but2) R3 (.inr (pm2.trans pm)))
      first
        | (refine wpAny_bind ?_; refine wp_if_pos (by simp) ?_)
        | (refine wp_if_pos (by simp) ?_; refine wpAny_bind ?_)
      rcases two with ⟨_, e2⟩ | ⟨_, e2⟩
      · exact go 31 (by rw [hn, e2, size_20]) (.inr (.inl rfl)) (by rw [hn, e2, size_20]; decide) (by omega)
      · exact go 127 (by rw [hn, e2, size_76]) (.inr (.inr rfl)) (by rw [hn, e2, size_76]; decide) (by omega)
    | false =>
      first
        | refine wp_if_neg (by simp) ?_
        | (refine wpAny_bind ?_; refine wp_if_neg (by simp) ?_; refine wpAny_pure ?_)
      refine wpAny_pure (q true h1 L1 es1 (ep + 1) t1 but ⟨⟨_, ho1, ⟨hex.1, hex.2.1, hex.2.2⟩, rfl⟩, hins, T2, one1, led1, ?_, by rw [hlen]; exact few⟩ (.inr pm))
      have h := full1
      unfold SetTable.tooFull at h
      rw [decide_eq_false_iff_not, ef, em, List.length_map] at h
      rw [hlen, em]
      omega
  by_cases hpl : t0.plain = true
  · first
      | (refine wpAny_bind ?_; refine wp_if_pos hpl ?_; refine by_value pl hx fun r => ?_)
      | (refine wp_if_pos hpl ?_; refine wpAny_bind (by_value pl hx fun r => ?_))
    cases r with
    | true => simp only [if_true]; exact fin t0 q3 q4 q5 q9
    | false => simp only [Bool.false_eq_true, if_false]; exact fin _ (plain_off q3) q4 q5 q9
  · first
      | (refine wpAny_bind ?_; refine wp_if_neg hpl ?_; refine wpAny_pure ?_)
      | (refine wp_if_neg hpl ?_; refine wpAny_bind (wpAny_pure ?_))
    simp only [if_true]; exact fin t0 q3 q4 q5 q9
end
section
variable {P : Program} {w : World} {κ : Type} [DecidableEq κ] {kn : KeyKind P w κ} {A : Around} {E : Value → Shared → Prop} {s : Shared}
/-- L has what the first i of ks are, each once -/
structure Has (ks : List (Addr × List κ)) (i : Nat) (L : List (Addr × List κ)) : Prop where
  from_ : ∀ p ∈ L, p ∈ ks
  all : ∀ p ∈ ks.take i, p.2 ∈ L.map Prod.snd
  len : L.length ≤ i
theorem has_next {ks L L' : List (Addr × List κ)} {i : Nat} {x : Addr × List κ} (g : Has ks i L) (h : ks[i]? = some x) (c : (L' = L ∧ x.2 ∈ L.map Prod.snd) ∨ L'.Perm (x :: L)) : Has ks (i + 1) L' := by
  have tk : ks.take (i + 1) = ks.take i ++ [x] := by rw [List.take_succ, h]; rfl
  rcases c with ⟨rfl, hm⟩ | pm
  · refine ⟨g.from_, fun p hp => ?_, Nat.le_succ_of_le g.len⟩
    rw [tk] at hp
    rcases List.mem_append.mp hp with z | z
    · exact g.all p z
    · rw [List.mem_singleton.mp z]; exact hm
  · refine ⟨fun p hp => ?_, fun p hp => ?_, by rw [pm.length_eq]; exact Nat.succ_le_succ g.len⟩
    · rcases List.mem_cons.mp (pm.mem_iff.mp hp) with e | z
      · rw [e]; exact List.mem_of_getElem? h
      · exact g.from_ p z
    · rw [(pm.map Prod.snd).mem_iff, List.map_cons, List.mem_cons]
      rw [tk] at hp
      rcases List.mem_append.mp hp with z | z
      · exact .inr (g.all p z)
      · exact .inl (congrArg Prod.snd (List.mem_singleton.mp z))
theorem tb_keep {h h' : Heap} {a : Addr} {L : List (Addr × List κ)} {es : Array (Int × Value)} {ep : Nat} {t : SetTable} (R : Tb kn h a L es ep t) (k : ∀ o, h.get? a = some o → h'.get? a = some o) : Tb kn h' a L es ep t := by
  obtain ⟨o, ho, r⟩ := R.obj
  exact ⟨⟨o, k o ho, r⟩, R.rows, R.tab, R.one, R.led, R.room, R.few⟩
theorem tb_new {h : Heap} {a : Addr} (ho : h.get? a = some (DP.newSet w)) : Tb kn h a [] #[] 0 (.fresh 0 0 (!w.params.followText "set-order")) where
  obj := ⟨_, ho, ⟨rfl, rfl, rfl⟩, rfl⟩
  rows := rfl
  tab := ⟨.nil, rfl, rfl, .inl rfl, fun x h => (by cases h), fun i h j e => (by simp at e)⟩
  one := .nil
  led := by
    cases e : w.params.followText "set-order" with
    | true => exact .inl rfl
    | false => exact .inr rfl
  room := (by decide : 0 * 5 < 7 * 3)
  few := (by decide : 0 < 64)
/-- the loop of set.update over a list of tuples -/
theorem filling (pl : Plain kn) {I : Addr} {fp wr : List Addr} {G : Array GenState → Array GenState → Prop} {n : Nat} {Pv : Nat → Value → Prop} {St : Nat → Shared → Prop} {R : Result → Shared → Prop}
    (W : WalksS P w A.in1 I fp wr G n Pv St) {S : Addr} (hSf : S ∉ fp) {ks : List (Addr × List κ)} (few : ks.length < 64) (val : ∀ i v, Pv i v → ∃ p, ks[i]? = some p ∧ v = .ref p.1)
    {h0 : Heap} (hk : All kn h0 ks) (hS0 : h0.get? S = none) (hw0 : ∀ b ∈ wr, h0.get? b = none) (hu : A.in1.units < cLine)
    (q : ∀ s1 s' L es ep t, Moved (S :: wr) G s1 s' → Tb kn s'.heap S L es ep t → Has ks n L → (∀ b o, h0.get? b = some o → s'.heap.get? b = some o) → s1 = s → R (.ok (.ret .none)) s') :
    ∀ (j i : Nat) (s2 : Shared), n - i = j → i ≤ n → St i s2 → (∀ b o, h0.get? b = some o → s2.heap.get? b = some o) → (∃ L es ep t, Tb kn s2.heap S L es ep t ∧ Has ks i L) → (i = 0 → s2 = s) → (i ≠ 0 → Moved (S :: wr) G s s2) →
      codeAny (model P w) A (.builtin "set.update.loop" ⟨[.ref S, .ref I], []⟩) R s2 := by
  have hSw : S ∉ wr := fun h => hSf (W.sub _ h)
  have inS : ∀ b ∈ wr, b ∈ S :: wr := fun b hb => List.mem_cons_of_mem _ hb
  have still : ∀ {x y : Shared}, Moved wr G x y → (∀ b o, h0.get? b = some o → x.heap.get? b = some o) → ∀ b o, h0.get? b = some o → y.heap.get? b = some o := fun m k b o e => m.heap b o (fun hb => by rw [hw0 b hb] at e; cases e) (k b o e)
  have join : ∀ {i : Nat} {x y : Shared}, (i = 0 → x = s) → (i ≠ 0 → Moved (S :: wr) G s x) → Moved (S :: wr) G x y → Moved (S :: wr) G s y := fun {i x y} e0 e1 m => by
    by_cases c : i = 0
    · rw [← e0 c]; exact m
    · exact Moved.trans W.gtrans (e1 c) m
  intro j
  induction j with
  | zero =>
    intro i s2 hj hi hst kp ⟨L, es, ep, t, T, g⟩ e0 e1
    have hin : i = n := by omega
    subst hin
    refine codeAny_builtin F.entry_set_update_loop ?_
    rw [Around.under_plainId F.plain_set_update_loop _]
    show wpAny _ A.in1 (pyNext (.ref I) >>= _) _ _ s2
    refine wpAny_bind (W.done s2 _ _ hst fun s3 m => ?_)
    exact wpAny_pure (q s s3 L es ep t (join e0 e1 (m.mono inS)) (tb_keep T fun o e => m.heap S o hSw e) g (still m kp) rfl)
  | succ j ih =>
    intro i s2 hj hi hst kp ⟨L, es, ep, t, T, g⟩ e0 e1
    have hlt : i < n := by omega
    refine codeAny_builtin F.entry_set_update_loop ?_
    rw [Around.under_plainId F.plain_set_update_loop _]
    show wpAny _ A.in1 (pyNext (.ref I) >>= _) _ _ s2
    refine wpAny_bind (W.item i s2 _ _ hlt hst fun v s3 hP hst3 m => ?_)
    obtain ⟨p, hp, rfl⟩ := val i v hP
    have kp3 := still m kp
    have T3 : Tb kn s3.heap S L es ep t := tb_keep T fun o e => m.heap S o hSw e
    have hx : TupAt kn s3.heap p := tup_keep (hk p (List.mem_of_getElem? hp)) kp3
    have hL : All kn s3.heap L := fun r hr => tup_keep (hk r (g.from_ r hr)) kp3
    show wpAny _ A.in1 (holding [Value.ref p.1] (setAdd S (.ref p.1)) >>= _) _ _ s3
    refine wpAny_bind (wpAny_holding ?_)
    unfold setAdd
    refine wpAny_holding (wpAny_bind (wpAny_pyHash_tuple hu hx ?_))
    have hlen := (List.getElem?_eq_some_iff.mp hp).1
    refine adding (s := { s3 with toks := s3.toks + (p.2.length + 1) }) pl T3 hL hx hu (by have := g.len; omega) fun b h4 L4 es4 ep4 t4 but T4 c => ?_
    have keepB : ∀ b o, b ≠ S → s3.heap.get? b = some o → h4.get? b = some o := fun b o hb e => (but.2 b hb).trans e
    refine wpAny_pure ⟨plainId_quiet F.plain_set_update_loop _, ih (i + 1) _ (by omega) hlt (W.frame _ s3 _ _ hst3 (Nat.le_add_right _ _) fun b hb o e => keepB b o (fun e2 => hSf (e2 ▸ hb)) e) (fun b o e => keepB b o (fun z => by rw [z, hS0] at e; cases e) (kp3 b o e)) ⟨L4, es4, ep4, t4, T4, has_next g hp c⟩ (fun z => absurd z (Nat.succ_ne_zero _)) fun _ => ?_⟩
    exact join e0 e1 ((m.mono inS).then_heap (Nat.le_add_right _ _) fun b o hb e => keepB b o (fun z => hb (z ▸ List.mem_cons_self)) e)
/-- set(xs) -/
theorem set_made (pl : Plain kn) {l : Addr} {its : Array Value} (ks : List (Addr × List κ)) {Q : Value → Shared → Prop} (hh : A.handled = none) (hl : s.heap.IsList l its) (hit : its.toList = ks.map fun p => Value.ref p.1)
    (hk : All kn s.heap ks) (few : ks.length < 64) (hu : A.units + 3 < cLine)
    (q : ∀ (h' : Heap) (tk : Nat) L es ep t, Tb kn h' s.heap.objs.size L es ep t → Has ks ks.length L → (∀ b o, s.heap.get? b = some o → h'.get? b = some o) → Q (.ref s.heap.objs.size) { s with heap := h', toks := tk }) :
    wpAny (model P w) A (call (.type "set") [.ref l]) Q E s := by
  have hz : its.size = ks.length := by
    have e := congrArg List.length hit
    rwa [Array.length_toList, List.length_map] at e
  have C := F.called_set
  obtain ⟨c, tl, hmro⟩ := C.mro
  have hmade := C.made; have hsub := C.sub
  refine wpAny_call (codeAny_of_tree ?_)
  show wpAny _ _ (callAny (.type "set") _) _ _ _
  refine wpAny_pure ⟨Code.quiet_builtin _ (by decide +kernel), codeAny_builtin F.entry_type_call ?_⟩
  rw [Around.under_plain (weight_type_call_type "set" [.ref l] []) rfl]
  have h1 := C.notType; have h2 := C.canCreate
  have hct := F.typeCall_set_1 (.ref l)
  repeat (any_goals (first | assumption | wp_step))
  refine codeAny_mono (code_set_led1 (.ref l) (E := E) (Q₁ := fun obj s₁ => obj = .ref s.heap.objs.size ∧ s₁ = { s with heap := s.heap.push (DP.newSet w) }) ⟨rfl, rfl⟩) fun r s₁ hr => ?_
  cases r with
  | error e => exact hr
  | ok fl =>
  cases fl with
  | ret obj =>
    obtain ⟨rfl, rfl⟩ := hr
    have hS : (s.heap.push (DP.newSet w)).get? s.heap.objs.size = some (DP.newSet w) := Heap.get?_push_size _ rfl
    have hT : Shared.TypeIs { s with heap := s.heap.push (DP.newSet w) } (.ref s.heap.objs.size) "set" := ⟨_, hS, rfl⟩
    have hli := C.init.lookup; have hbi := C.init.bind (.ref s.heap.objs.size)
    repeat (any_goals (first | assumption | wp_step))
    refine codeAny_mono (codeAny_call_builtin (R := wants (fun r s₂ => r = .none ∧ ∃ h' tk L es ep t, s₂ = { s with heap := h', toks := tk } ∧ Tb kn h' s.heap.objs.size L es ep t ∧ Has ks ks.length L ∧ ∀ b o, s.heap.get? b = some o → h'.get? b = some o) E) C.init.plain F.entry_set_init (check_set_init_1 hT ?_)) fun r₂ s₂ hr₂ => ?_
    · obtain ⟨⟨ocls, odict, odata, oslots⟩, hol, hcl, nl, hdl⟩ := hl
      simp only at hcl hdl
      subst hcl hdl
      have hol' : (s.heap.push (DP.newSet w)).get? l = some { cls := .type "list", dict := odict, data := .seq its nl, slots := oslots } := Heap.get?_push_of_some _ hol
      have hsls := F.sub_list_set; have hslf := F.sub_list_frozenset
      have hne : (Value.type "list" == Value.type "dict") = false := by decide
      have hl1 : (s.heap.push (DP.newSet w)).IsList l its := ⟨_, hol', rfl, nl, rfl⟩
      unfold Builtin.«set.__init__» noKeywords Builtin.Frozenset.updateFrom
      generalize hPI : pyIter = PI
      wp_walk
      subst hPI
      refine wpAny_pyIter_list hl1 (wpAny_bind (wpAny_runValue ?_))
      have hlS : l < s.heap.objs.size := Heap.lt_size hol
      have hh3 : A.in1.in1.in1.handled = none := by simp [hh]
      have sz : (s.heap.push (DP.newSet w)).objs.size = s.heap.objs.size + 1 := Heap.size_push ..
      have neI : l ≠ (s.heap.push (DP.newSet w)).objs.size := by rw [sz]; exact Nat.ne_of_lt (Nat.lt_succ_of_lt hlS)
      have hSf : s.heap.objs.size ∉ [(s.heap.push (DP.newSet w)).objs.size, l] := by
        rw [sz]; simp only [List.mem_cons, List.not_mem_nil, or_false, not_or]; exact ⟨Nat.ne_of_lt (Nat.lt_succ_self _), Nat.ne_of_gt hlS⟩
      have val : ∀ (i : Nat) (v : Value), its[i]? = some v → ∃ p, ks[i]? = some p ∧ v = .ref p.1 := fun i v hv => by
        have e : its.toList[i]? = some v := by rw [Array.getElem?_toList]; exact hv
        rw [hit, List.getElem?_map, Option.map_eq_some_iff] at e
        obtain ⟨p, e1, e2⟩ := e
        exact ⟨p, e1, e2.symm⟩
      have gone : ∀ b, s.heap.objs.size ≤ b → s.heap.get? b = none := fun b hb => by
        cases e : s.heap.get? b with
        | none => rfl
        | some o => exact absurd (Heap.lt_size e) (Nat.not_lt.mpr hb)
      refine filling pl ((Walks.list hh3 _ l neI its).toS) hSf few val hk (gone _ (Nat.le_refl _)) (fun b hb => gone b (by rw [List.mem_singleton.mp hb, sz]; exact Nat.le_succ _)) hu ?fin (its.size - 0) 0 _ (by omega) (Nat.zero_le _) ⟨⟨_, Heap.get?_push_size _ rfl, rfl, rfl⟩, (hl1.push _)⟩ (fun b o e => Heap.get?_push_of_some _ (Heap.get?_push_of_some _ e)) ⟨[], _, _, _, tb_new (Heap.get?_push_of_some _ hS), ⟨fun p h => (by cases h), fun p h => (by simp at h), Nat.le_refl _⟩⟩ (fun _ => rfl) fun z => absurd rfl z
      case fin =>
        intro s1 s' L es ep t m T g k es1
        subst es1
        obtain ⟨h', g2, d', tk', os'⟩ := s'
        have eg : g2 = s.gens := m.gens
        have ed : d' = s.drawn := m.drawn
        have eo : os' = s.os := m.os
        subst eg ed eo
        refine wpAny_pure (?_ : wpAny _ _ (ret Value.none) _ _ _)
        rw [hz] at g
        exact wpAny_pure ⟨rfl, h', tk', L, es, ep, t, rfl, T, g, k⟩
    · cases r₂ with
      | error e => exact hr₂
      | ok fl₂ =>
      cases fl₂ with
      | ret r =>
        obtain ⟨rfl, h', tk, L, es, ep, t, rfl, T, g, k⟩ := hr₂
        repeat (any_goals (first | assumption | wp_step))
        exact q _ _ _ _ _ _ T g k
      | _ => exact hr₂.elim
  | _ => exact hr.elim
end
end SD
/-! The rules: set(xs) of a list of tuples of whole numbers and texts; sorted of such a set. -/
namespace SD
open PySem PySem.Spec PyProof.Rows L2 DP
theorem mix_plain (P : Program) (w : World) : Plain (mixKind P w) := fun k v h => by
  rcases keyIs_shape h with ⟨i, t, _, rfl⟩ | ⟨x, t, _, rfl⟩ <;> rfl
/-- a set with the tuples L -/
def SetDO (P : Program) (w : World) (a : Addr) (L : List (Addr × List Key)) : HO := .ext fun h => ∃ es ep t, Tb (mixKind P w) h a L es ep t
theorem set_new {P : Program} {w : World} {H : Hp} {h : Heap} {a : Addr} {L : List (Addr × List Key)} {es : Array (Int × Value)} {ep : Nat} {t : SetTable} (R : Tb (mixKind P w) h a L es ep t) : ObjOk P w H h a (SetDO P w a L) := by
  have ⟨o, ho, r⟩ := R.obj
  exact ⟨⟨es, ep, t, R⟩, ⟨o, ho⟩, fun h1 h2 ⟨es', ep', t', R'⟩ k => ⟨es', ep', t', tb_keep R' k⟩⟩
theorem keys_of {P : Program} {w : World} : ∀ {k : List Key} {us : List Value}, Vals (k.map kV) us → ItemsAre (mixKind P w) k us
  | [], _, .nil => .nil
  | n :: k, _, .cons r t => .cons (by
      cases n with
      | inl i =>
        obtain ⟨tk, rfl⟩ := r
        simp [mixKind, keyIs, Value.isInt]
      | inr z =>
        obtain ⟨tk, rfl⟩ := r
        simp [mixKind, keyIs, Value.isStrOf]) (keys_of t)
theorem refs_eq : ∀ {ks : List (Addr × List Key)} {us : List Value}, Vals (ks.map fun p => V.ref p.1) us → us = ks.map fun p => Value.ref p.1
  | [], _, .nil => rfl
  | p :: ks, _, .cons r t => by
    cases r
    rw [refs_eq t]; rfl
theorem refs_vals : ∀ (ks : List (Addr × List Key)), Vals (ks.map fun p => V.ref p.1) (ks.map fun p => Value.ref p.1)
  | [] => .nil
  | p :: ks => .cons rfl (refs_vals ks)
def kD : Key → PyData
  | .inl i => .int i
  | .inr z => .str z
section
variable {X : Cx}
theorem tup_inv {pins : List (Addr × Obj)} {σ : L2.St} {H : Hp} {s : Shared} {p : Addr × List Key} (I : Inv X pins σ H s) (h : SqT X.K H p.1 (p.2.map kV)) : TupAt (mixKind X.prog X.w) s.heap p := by
  obtain ⟨its, r, ⟨o, ho, hc, n, hd⟩, _⟩ := I.tuple h
  exact ⟨o, its.toArray, n, ho, hc, hd, by simpa using keys_of r⟩
/-- the tuples of the list stand there -/
def Stand (K : PySem.W.Frag) (H : Hp) (ks : List (Addr × List Key)) : Prop := ∀ p ∈ ks, SqT K H p.1 (p.2.map kV)
theorem Stand.same {K : PySem.W.Frag} {H H' : Hp} {ks : List (Addr × List Key)} (h : Stand K H ks) (S : Same H H') : Stand K H' ks := fun p hp => Same.sqT S (h p hp)
def rSetD (K : PySem.W.Frag) (P : Program) (w : World) : List V → Hp → VK → Prop := fun xs H Q => ∃ (l : Addr) (ks : List (Addr × List Key)), xs = [V.ref l] ∧ SqL K H l (ks.map fun p => V.ref p.1) ∧ Stand K H ks ∧ ks.length < 64 ∧
  ∀ a L, H a = none → (∀ p ∈ L, p ∈ ks) → (∀ p ∈ ks, p.2 ∈ L.map Prod.snd) → (L.map Prod.snd).Nodup → Q (.ref a) (upd H a (SetDO P w a L))
theorem cr_setD (hc : X.calm = true) (hu : X.A.units + 64 < cLine) : CallR X (.type "set") (rSetD X.K X.prog X.w) := by
  intro pins s σ H xs us Q I r h
  obtain ⟨l, ks, rfl, hl, hk, few, q⟩ := h
  rw [Vals.ref1 r]
  obtain ⟨its, rv, pl, hz⟩ := I.list hl
  refine set_made (P := X.prog) (w := X.w) (mix_plain _ _) ks (I.ok.hd hc) pl.isList (by simpa using refs_eq rv) (fun p hp => tup_inv I (hk p hp)) few (by omega) fun h' tk L es ep t T g k => ?_
  refine ⟨.ref s.heap.objs.size, upd H s.heap.objs.size (SetDO X.prog X.w s.heap.objs.size L), I.laid (t' := tk) k (Nat.le_refl _) (set_new T), rfl, q _ L (I.hok.fresh (Nat.le_refl _)) g.from_ (fun p hp => ?_) T.one⟩
  exact g.all p (by rw [List.take_length]; exact hp)
end
section
variable {P : Program} {w : World} {A : Around} {E : Value → Shared → Prop} {s : Shared}
def encK (p : Addr × List Key) : PyData := .tuple (p.2.map kD)
theorem reads_parts : ∀ {k : List Key} {us : List Value} {h : Heap}, ItemsAre (mixKind P w) k us → ReadsAll h us (k.map kD) []
  | _, _, _, .nil => .nil
  | _, _, h, .cons (k := n) a t => by
    rcases keyIs_shape a with ⟨i, tk, rfl, rfl⟩ | ⟨x, tk, rfl, rfl⟩
    · exact .cons (as := []) (.int _ _) (reads_parts t)
    · exact .cons (as := []) (.str _ _) (reads_parts t)
theorem reads_tup {h : Heap} {p : Addr × List Key} (x : TupAt (mixKind P w) h p) : Reads h (.ref p.1) (encK p) [] := by
  obtain ⟨o, its, n, ho, hc, hd, hi⟩ := x
  exact .tuple ho hc hd (reads_parts hi)
theorem each_refs : ∀ L : List (Addr × List Key), PySem.W.EachIs (fun (u : Value) (p : Addr × List Key) => u = .ref p.1) (L.map fun q => Value.ref q.1) L
  | [] => .nil
  | p :: L => .cons rfl (each_refs L)
theorem of_each : ∀ {us : List Value} {L : List (Addr × List Key)}, PySem.W.EachIs (fun (u : Value) (p : Addr × List Key) => u = .ref p.1) us L → us = L.map fun q => Value.ref q.1
  | _, _, .nil => rfl
  | _, _, .cons a t => by rw [a, of_each t]; rfl
theorem each_reads {h : Heap} : ∀ {L : List (Addr × List Key)} {a : Addr}, All (mixKind P w) h L → PySem.W.EachIs (fun (u : Value) (p : Addr × List Key) => ∃ as, Reads h u (encK p) as ∧ a ∉ as) (L.map fun q => Value.ref q.1) L
  | [], _, _ => .nil
  | p :: L, _, k => .cons ⟨[], reads_tup (k p List.mem_cons_self), by simp⟩ (each_reads fun q hq => k q (List.mem_cons_of_mem _ hq))
/-- what is known of the parts so that tuples can be put in order -/
structure Even (L : List (Addr × List Key)) : Prop where
  alike : ∀ p ∈ L, ∀ q ∈ L, PySem.W.alike (encK p) (encK q) = true
  some_ : ∀ p ∈ L, p.2 ≠ []
theorem Even.sub {L M : List (Addr × List Key)} (e : Even L) (h : ∀ p ∈ M, p ∈ L) : Even M := ⟨fun p hp q hq => e.alike p (h p hp) q (h q hq), fun p hp => e.some_ p (h p hp)⟩
theorem depth_parts : ∀ k : List Key, PyData.depthAll (k.map kD) = 0
  | [] => rfl
  | .inl i :: k => by
    show PyData.depthAll (PyData.int i :: k.map kD) = 0
    rw [PyData.depthAll, depth_parts k]; rfl
  | .inr z :: k => by
    show PyData.depthAll (PyData.str z :: k.map kD) = 0
    rw [PyData.depthAll, depth_parts k]; rfl
theorem depth_tup (p : Addr × List Key) : (encK p).depth = 1 := by
  unfold encK
  rw [PyData.depth, depth_parts]
theorem sorted_set {a : Addr} {L : List (Addr × List Key)} {es : Array (Int × Value)} {ep : Nat} {t : SetTable} {Q : Value → Shared → Prop} (R : Tb (mixKind P w) s.heap a L es ep t) (R2 : All (mixKind P w) s.heap L) (hh : A.handled = none) (hu : A.units + 64 < cLine) (ev : Even L)
    (q : ∀ s' p (out : Array Value) (c : Nat) (M : List (Addr × List Key)), (∀ b o, s.heap.get? b = some o → s'.heap.get? b = some o) → s'.gens = s.gens → s'.os = s.os → s.heap.objs.size ≤ p → M.Perm L →
      s'.heap.get? p = some (seqObj "list" out c) → out.toList = (M.mergeSort (PySem.W.dataLe false encK)).map (fun q => Value.ref q.1) → Q (.ref p) s') :
    wpAny (model P w) A (call (.builtin "sorted") [.ref a]) Q E s := by
  obtain ⟨o, ho, hex, hd⟩ := R.obj
  have hn := rows_len R.rows
  have few := R.few
  refine Calls.call_function_entry kind_sorted plain_sorted entry_sorted (args_sorted1 _) ?_
  unfold Builtin.«sorted»
  refine wpAny_bind (m := checkCount "sorted" 1 1 _) (wpAny_pure ?_)
  refine wpAny_bind (collect_set (A := A.in1) hh ⟨o, ho, hex.1, hd⟩ R.fit (by unfold scanBound; omega) R.tab.ris R.led fun s1 vs k1 hz g1 o1 pm => ?_)
  have hv : es.toList.map (·.2) = L.map fun q => Value.ref q.1 := by
    rw [R.rows, List.map_map]; rfl
  rw [hv] at pm
  -- the values' own list of rows
  obtain ⟨M, eM, pL⟩ : ∃ M : List (Addr × List Key), vs = M.map (fun q => Value.ref q.1) ∧ M.Perm L := by
    have z : ∀ {xs ys : List Value}, xs.Perm ys → ∀ L : List (Addr × List Key), ys = L.map (fun q => Value.ref q.1) → ∃ M : List (Addr × List Key), xs = M.map (fun q => Value.ref q.1) ∧ M.Perm L := by
      intro xs ys pm
      induction pm with
      | nil => intro L e; exact ⟨L, e, .refl _⟩
      | @cons x l1 l2 _ ih =>
        intro L e
        cases L with
        | nil => cases e
        | cons p L =>
          injection e with e1 e2
          obtain ⟨M, e3, p3⟩ := ih L e2
          exact ⟨p :: M, by rw [e1, e3]; rfl, p3.cons p⟩
      | swap x y l =>
        intro L e
        cases L with
        | nil => cases e
        | cons p L =>
          cases L with
          | nil => injection e with _ e2; cases e2
          | cons q L =>
            injection e with e1 e2
            injection e2 with e2 e3
            exact ⟨q :: p :: L, by rw [e1, e2, e3]; rfl, .swap _ _ _⟩
      | trans _ _ ih1 ih2 =>
        intro L e
        obtain ⟨M, e3, p3⟩ := ih2 L e
        obtain ⟨N, e4, p4⟩ := ih1 M e3
        exact ⟨N, e4, p4.trans p3⟩
    exact z pm L rfl
  subst eM
  have hml : M.length < 64 := by rw [pL.length_eq]; exact few
  have evM : Even M := ev.sub fun p hp => pL.mem_iff.mp hp
  refine wpAny_bind (wpAny_newList ?_ (by rw [List.length_map, sizeLine_eq]; omega))
  have hoL : (s1.heap.push (seqObj "list" (M.map fun q => Value.ref q.1).toArray 0)).get? s1.heap.objs.size = some (seqObj "list" (M.map fun q => Value.ref q.1).toArray 0) := Heap.get?_push_size _ rfl
  have stand : All (mixKind P w) (s1.heap.push (seqObj "list" (M.map fun q => Value.ref q.1).toArray 0)) M := fun p hp => tup_keep (R2 p (pL.mem_iff.mp hp)) fun b u e => Heap.get?_push_of_some _ (k1 b u e)
  refine wpAny_bind (wpAny_holding (PySem.W.list_sort_data (enc := encK) (s := { s1 with heap := s1.heap.push (seqObj "list" (M.map fun q => Value.ref q.1).toArray 0) }) hoL (each_refs M) (each_reads stand) (fun d hd' d' hd2 => ?_) (.inl fun d hd' => ?_) (by rw [sizeLine_eq]; omega) (fun p _ => ?_) fun out ho2 eo => ?_))
  · obtain ⟨p, hp, rfl⟩ := List.mem_map.mp hd'
    obtain ⟨p2, hp2, rfl⟩ := List.mem_map.mp hd2
    exact evM.alike p hp p2 hp2
  · obtain ⟨p, hp, rfl⟩ := List.mem_map.mp hd'
    have h2 := evM.some_ p hp
    unfold encK
    cases e : p.2 with
    | nil => exact absurd e h2
    | cons k r => exact ⟨_, _, rfl⟩
  · rw [depth_tup]
    have e : A.in1.units ≤ A.units + 1 := by first | exact Nat.le_refl _ | (show _ ≤ _; simp [Around.in1, Around.units])
    omega
  · obtain ⟨c, hc⟩ := sortedHeap_at (vs := M.map fun q => Value.ref q.1) (out := List.toArray out) hoL
    refine wpAny_pure ⟨_, rfl, q _ s1.heap.objs.size (List.toArray out) c M (fun b u e => ?_) g1 o1 hz pL hc (by simpa using of_each eo)⟩
    have e2 := k1 b u e
    have hlt := Heap.lt_size e2
    show (sortedHeap (s1.heap.push (seqObj "list" (M.map fun q => Value.ref q.1).toArray 0)) s1.heap.objs.size (M.map fun q => Value.ref q.1) (List.toArray out)).get? b = some u
    rw [sortedHeap_old (Nat.ne_of_lt hlt) (by rw [size_push']; exact Nat.lt_succ_of_lt hlt)]
    exact Heap.get?_push_of_some _ e2
end
section
variable {X : Cx}
/-- sorted(a set of tuples) -/
def rSortSetD (K : PySem.W.Frag) (P : Program) (w : World) : List V → Hp → VK → Prop := fun vs H Q => ∃ (a : Addr) (L : List (Addr × List Key)), vs = [V.ref a] ∧ H a = some (SetDO P w a L) ∧ Stand K H L ∧ Even L ∧
  ∀ (M : List (Addr × List Key)) (p : Addr), M.Perm L → H p = none → Q (.ref p) (upd H p (.lst ((M.mergeSort (PySem.W.dataLe false encK)).map fun q => V.ref q.1)))
theorem cr_sortSetD (hc : X.calm = true) (hu : X.A.units + 64 < cLine) : CallR X (.builtin "sorted") (rSortSetD X.K X.prog X.w) := by
  intro pins s σ H vs us Q I r h
  obtain ⟨a, L, rfl, ha, st, ev, q⟩ := h
  obtain ⟨es, ep, t, R⟩ : ∃ es ep t, Tb (mixKind X.prog X.w) s.heap a L es ep t := (I.hok a _ ha).1
  rw [Vals.ref1 r]
  refine sorted_set R (fun p hp => tup_inv I (st p hp)) (I.ok.hd hc) hu ev fun s' p out c M k g o hp pm hg hout => ?_
  have few := R.few
  have hlen : ((M.mergeSort (PySem.W.dataLe false encK)).map fun q => V.ref q.1).length ≤ sizeLine := by rw [List.length_map, List.length_mergeSort, pm.length_eq, sizeLine_eq]; omega
  have hn : H p = none := I.hok.fresh hp
  have hv : Vals ((M.mergeSort (PySem.W.dataLe false encK)).map fun q => V.ref q.1) out.toList := by rw [hout]; exact refs_vals _
  have J : Inv X pins σ (upd H p (.lst ((M.mergeSort (PySem.W.dataLe false encK)).map fun q => V.ref q.1))) { s with heap := s'.heap, gens := s'.gens, drawn := s'.drawn, toks := s'.toks } :=
    I.call (ch := []) (Un.laid k hp hn) (I.hok.laid k hp ⟨hlen, out.toList, c, hv, hg⟩) (by rw [g]; exact I.bare) (fun _ z => nomatch z)
  have e : s' = { s with heap := s'.heap, gens := s'.gens, drawn := s'.drawn, toks := s'.toks } := by
    cases s'; cases s; cases o; rfl
  rw [e]
  exact ⟨.ref p, _, J, rfl, q M p pm hn⟩
theorem setDK {K : PySem.W.Frag} {P : Program} {w : World} (hc : X.calm = true) (hu : X.A.units + 64 < cLine) (h : X.K = K := by rfl) (hp : X.prog = P := by rfl) (hw : X.w = w := by rfl) : CallR X (.type "set") (rSetD K P w) := by subst h hp hw; exact cr_setD hc hu
theorem sortSetDK {K : PySem.W.Frag} {P : Program} {w : World} (hc : X.calm = true) (hu : X.A.units + 64 < cLine) (h : X.K = K := by rfl) (hp : X.prog = P := by rfl) (hw : X.w = w := by rfl) : CallR X (.builtin "sorted") (rSortSetD K P w) := by subst h hp hw; exact cr_sortSetD hc hu
end
end SD
/-! An own error class over ValueError whose __init__ says super().__init__(a text), then self.what = what: what a call of it leaves. -/
namespace ERR
open PySem PySem.W PySem.Calls PyProof.Rows PySem.HandSPX
def eA (p1 p2 : Pos) : Arguments := { posonlyargs := [], args := [{ arg := "self", annotation := none, pos := p1 }, { arg := "what", annotation := none, pos := p2 }], vararg := none, kwonlyargs := [], kw_defaults := [], kwarg := none, defaults := [] }
def eB (txt : Str) (p : Nat → Pos) : List Stmt := [.Expr (.Call (.Attribute (.Call (.Name "super" (p 0)) [] [] (p 1)) "__init__" (p 2)) [.Constant (.str txt) 0 (p 3)] [] (p 4)) (p 5), .Assign [.Attribute (.Name "self" (p 6)) "what" (p 7)] (.Name "what" (p 8)) (p 9)]
def eS : Scope := { kind := .function, names := [("self", .local), ("what", .local), ("__class__", .free), ("super", .globalImplicit)], isGenerator := false, isCoroutine := false, more := [] }
structure ErrT (P : Program) (K : Frag) (C fI : Addr) : Prop where
  cls : ∃ nm q N bs bm sn sub ab col dd k0 k1 k2 k3 k5, K.lookup C = some (excClassObj nm q C N bs bm true sn sub ab col dd k0 k1 k2 k3 k5 "ValueError.__new__") ∧ refsVE bm = true
  sa : findIn K (.ref C) "__setattr__" = some (some (.builtin "object.__setattr__"))
  noW : findIn K (.ref C) "what" = some none
  subV : subIn K (.ref C) (.type "ValueError") = some true
  sup : ks_superIn K C C "__init__" = some (some (.builtin "ValueError.__init__"))
  opq : nsIn K cStatics "thirdparty.any" = some none
  me : mroIn K C (.ref C) = some true
  init : findIn K (.ref C) "__init__" = some (some (.ref fI))
  tyI : typeIn K (.ref fI) = some (.type "function")
  kC : keepIn K (.ref C) = true
  exC : subIn K (.ref C) (.type "BaseException") = some true
  tyC : typeIn K (.ref C) = some (.type "type")
  top : (P.main.scope.names.lookup ("super" : Str)).isSome = false
  fn : ∃ (oc : Value) (od an : Option Addr) (doc pm ct : Value) (osl : Array (Option Value)) (qual txt : Str) (cc cda : Addr) (p1 p2 : Pos) (p : Nat → Pos) (cl ccl : Value) (cld cdd : Option Addr) (csl ccs : Array (Option Value)) (vs : Array Value) (file : Str) (tf : Tok),
    K.lookup fI = some ⟨oc, od, .func (ksFn "__init__" qual (eA p1 p2) (eB txt p) eS .none .none doc pm an (.ref cda) ct cc), osl⟩ ∧ codeIn K (.ref cda) qual = true ∧
    (∀ env : Env, ∃ pl : Sem Bool, eval (.Call (.Attribute (.Call (.Name "super" (p 0)) [] [] (p 1)) "__init__" (p 2)) [.Constant (.str txt) 0 (p 3)] [] (p 4)) env = (do
      let ov ← attributeBase (.Call (.Name "super" (p 0)) [] [] (p 1)) "__init__" env (eval (.Call (.Name "super" (p 0)) [] [] (p 1)) env)
      standAt (p 2).atName
      let (f, first) ← holding [ov] (getMethod ov "__init__" pl)
      callWith (p 4) f first (backTo (p 4) (starEach [.Constant (.str txt) 0 (p 3)] env)) [])) ∧
    K.lookup cc = some ⟨cl, cld, .cell (some (.ref C)), csl⟩ ∧ K.lookup cda = some ⟨ccl, cdd, .fields vs, ccs⟩ ∧ vs[2]? = some (.str file tf) ∧ ((P.main.file : Str) == file) = true
/-- what __init__ leaves of a fresh exception at x -/
structure Left (h h' : Heap) (x C dx t1 : Addr) (v : Value) : Prop where
  keep : ∀ b o, b ≠ x → h.get? b = some o → h'.get? b = some o
  obj : h'.get? x = some { cls := .ref C, dict := some dx, data := .fields #[.ref t1, .none, .none, .none, .bool false, .none] }
  dbig : h.objs.size ≤ dx
  dne : dx ≠ x
  ns : h'.Ns1 dx (fun y => if y = "what" then some v else none)
section
variable {P : Program} {w : World} {A : Around} {E : Value → Shared → Prop} {R : Result → Shared → Prop} {s : Shared} {K : Frag} {mg mb : Str → Option Value} {C fI : Addr}
theorem mw_call {h : Heap} {g : Array GenState} {d : Drawn} {tk : Nat} {os : OsState} {u x t0 : Addr} {rest : List Value} {nm q : Str} {N : Addr} {bs bm : List Value} {sn : List Str} {sub : List Value} {ab : Bool} {col : Option Bool} {dd : Option Addr} {k0 k1 k2 k3 k5 : Option Value} {Q : Value → Shared → Prop}
    (hu : h.get? u = some (kxs_mw "ValueError.__init__" x)) (hx : h.get? x = some (excO C t0)) (hC : h.get? C = some (excClassObj nm q C N bs bm true sn sub ab col dd k0 k1 k2 k3 k5 "ValueError.__new__")) (hz : rest.length ≤ sizeLine)
    (fin : ∀ h', (∀ b o, b ≠ x → h.get? b = some o → h'.get? b = some o) → h'.get? x = some (excO C h.objs.size) → Q .none ⟨h', g, d, tk, os⟩) :
    wpAny (model P w) A (call (.ref u) rest) Q E ⟨h, g, d, tk, os⟩ := by
  have e1 : (Value.type "method-wrapper" == Value.type "method" || Value.type "method-wrapper" == Value.type "builtin_function_or_method" || Value.type "method-wrapper" == Value.type "method-wrapper") = true := by decide
  refine wpAny_call (codeAny_of_tree (show wpAny _ A.in1 (callAny (.ref u) ⟨rest, []⟩) _ _ _ from ?_))
  unfold callAny
  refine wpAny_bind (wpAny_load hu ?_)
  simp only [kxs_mw, e1, if_true]
  refine KFB.if_so (by decide) (wpAny_bind (check_bound_init F.excBase_ValueError.toExcCallFacts hC hx rfl ?_))
  refine wpAny_bind (wpAny_pure (wpAny_pure ⟨plainId_quiet F.excBase_ValueError.init.plain _, codeAny_builtin F.excBase_ValueError.initEntry ?_⟩))
  exact exc_init_tree (cls := .ref C) (t0 := t0) (dv := none) (c2 := .none) (c3 := .none) (b4 := .bool false) hx hz fun h' a1 a2 _ => fin h' a1 a2
theorem err_init (T : ErrT P K C fI) {x t0 : Addr} {v : Value} (X : K.In s.heap) (hlim : s.heap.NoLimit) (G : s.heap.Ns mainGlobals mg) (B : s.heap.Ns builtinsNs mb) (g0 : mg "super" = none) (b0 : mb "super" = some (.type "super"))
    (hx : s.heap.get? x = some (excO C t0)) (hnx : K.lookup x = none) (hroom : A.depth < recursionLimit)
    (hq : ∀ h' tk dx t1, Left s.heap h' x C dx t1 v → R (.ok (.ret .none)) { s with heap := h', toks := tk }) :
    codeAny (model P w) A (.call (.ref fI) ⟨[.ref x, v], []⟩) R s := by
  obtain ⟨oc, od, an, doc, pm, ct, osl, qual, txt, cc, cda, p1, p2, p, cl, ccl, cld, cdd, csl, ccs, vs, file, tf, ho, hcd, hev, hcell, hcode, hvs, hfile⟩ := T.fn
  obtain ⟨nm, q, N, bs, bm, sn, sub, ab, col, dd, k0, k1, k2, k3, k5, hC, hbm⟩ := T.cls
  refine ks_codeAny_call_defAt (fd := ksFn "__init__" qual (eA p1 p2) (eB txt p) eS .none .none doc pm an (.ref cda) ct cc) (body := eB txt p) (binds := [("self", .ref x), ("what", v)]) hroom (X _ _ ho) rfl hlim (codeRec_of X hcd) rfl (BindsTo.of_eq rfl) (show ∀ x ∈ eS.names, x.2 ≠ .cell by decide +kernel) (fun y hy => ?_) (fun h₁ hns k => ?_) rfl rfl rfl
  · simp only [List.mem_cons, List.mem_nil_iff, or_false] at hy
    rcases hy with rfl | rfl <;> rfl
  have X1 : K.In h₁ := X.keeps k
  have hx1 := k _ _ hx
  have hD1 := X1 _ _ hC
  have hxC : x ≠ C := fun e => by rw [e, hC] at hnx; cases hnx
  have hcl : clsIn K C = some { name := nm, bases := bs, mro := .ref C :: bm, ns := N, qualname := q, hasDict := true, slotNames := sn, subclasses := sub, abstract := ab, collection := col, hasDel := false } := by unfold clsIn; rw [hC] <;> rfl
  have I1 : InstAt h₁ x (excO C t0) C none := ⟨hx1, rfl, rfl, trivial⟩
  -- super().__init__(text)
  obtain ⟨pl, hev⟩ := hev (ksEnv qual eS s.heap.objs.size fI (.ref cda) cc)
  refine ks_wpAt_execs_cons (ks_wpAt_Expr_any (ks_wpAt_MethodCall (pl := pl) ?_ hev))
  refine ks_wpAt_super_base (env := ksEnv qual eS s.heap.objs.size fI (.ref cda) cc) rfl rfl rfl rfl (X1 _ _ ho) rfl rfl rfl (X1 _ _ hcode) rfl hvs hfile T.top ?_
  refine ks_loadName_global rfl rfl (loadGlobal_builtin (env := ksEnv qual eS s.heap.objs.size fI (.ref cda) cc) (G.keeps k) g0 (B.keeps k) b0 ⟨rfl, ?_⟩)
  refine wpAny_loadName_free rfl rfl rfl ⟨_, X1 _ _ hcell, rfl⟩ ?_
  refine wpAny_loadName_local (v := .ref x) rfl rfl hns rfl ?_
  refine ks_wpAny_isType_cls hD1 rfl ⟨rfl, ?_⟩
  refine ks_wpAny_call_super hD1 rfl hx1 rfl (fun c e => by cases e) (looks_mroIn X1 T.me) (fun h2 hso k2 => ?_)
  have X2 : K.In h2 := X1.keeps k2
  have I2 : InstAt h2 x (excO C t0) C none := ⟨k2 _ _ hx1, rfl, rfl, trivial⟩
  have hal : alongIn K "__init__" (((Value.ref C :: bm).dropWhile (· != .ref C)).drop 1) = some (some (.builtin "ValueError.__init__")) := by
    have h := T.sup
    unfold ks_superIn at h
    rw [hcl] at h
    exact h
  have hmr : ∀ {M : Model}, Looks M h2 (mroOf (.ref C)) (.ref C :: bm) := fun A Q E s k q => wpAny_bind ((looks_clsIn X2 hcl) A _ E s k (wpAny_pure q))
  refine kxs_getMethod kxs_ValueError hso (looks_opaque X2 T.opq) hmr rfl X2 hal (I2.type.andThen (looks_subIn X2 T.subV)) hxC (by decide) ?_
  refine kxs_callWith (i := "ValueError.__init__") (x := x) rfl (evalArgs_plain ?_)
  refine Calls.spliced_cons (Constant_str (k := 0) (pos := p 3) (Calls.spliced_nil ⟨?_, ?_⟩))
  · exact Heap.get?_push_size h2 rfl
  have kp : ∀ b o, h2.get? b = some o → (h2.push (kxs_mw "ValueError.__init__" x)).get? b = some o := fun b o e => Heap.get?_push_of_some _ e
  refine mw_call (Heap.get?_push_size h2 rfl) (kp _ _ (k2 _ _ hx1)) (kp _ _ (k2 _ _ hD1)) (by rw [sizeLine_eq]; exact (by decide : 1 ≤ 16777216)) fun h3 k3' hx3 => ?_
  have k3 : ∀ b o, b ≠ x → h₁.get? b = some o → h3.get? b = some o := fun b o hb e => k3' b o hb (kp _ _ (k2 _ _ e))
  have X3 : K.In h3 := fun a o e => k3 a o (fun z => by rw [z, hnx] at e; cases e) (X1 a o e)
  -- self.what = what
  have hxL : s.heap.objs.size ≠ x := Nat.ne_of_gt (Heap.lt_size hx)
  have hns3 : h3.Ns s.heap.objs.size (fun y => ([("self", Value.ref x), ("what", v)] : List (Str × Value)).reverse.lookup y) := by
    obtain ⟨oL, es, ep, hL, r⟩ := hns
    exact ⟨oL, es, ep, k3 _ _ hxL hL, r⟩
  have I3 : InstAt h3 x (excO C (h2.push (kxs_mw "ValueError.__init__" x)).objs.size) C none := ⟨hx3, rfl, rfl, trivial⟩
  refine ks_wpAt_execs_cons (wpAt_of_wpAny (plainObj_wpAny_Assign_Attribute ?_))
  refine wpAny_Name (wpAny_loadName_local (v := v) rfl rfl hns3 rfl ?_) (by decide)
  refine wpAny_Name (wpAny_loadName_local (v := .ref x) rfl rfl hns3 rfl ?_) (by decide)
  refine set_plain X3 I3 T.sa ?_
  refine exc_osa X3 hx3 hcl (show refsVE (.ref C :: bm) = true from hbm) rfl T.noW (fun h4 tk4 dx k4 dn dne hx4 hn4 => ?_)
  have sz : s.heap.objs.size ≤ h3.objs.size := Nat.le_of_lt hns3.lt
  refine wpAt_of_wpAny (wpAny_execs_nil (hq h4 tk4 dx _ ⟨fun b o hb e => k4 b o hb (k3 b o hb (k b o e)), hx4, Nat.le_trans sz dn, dne, hn4⟩))
end
end ERR
namespace ERR
open PySem PySem.W PySem.Calls PyProof.Rows PySem.HandSPX
/-- a made error -/
structure Made (h h' : Heap) (e C d : Addr) (v : Value) : Prop where
  keep : ∀ b o, h.get? b = some o → h'.get? b = some o
  new : h.objs.size ≤ e
  obj : ∃ t1 : Addr, h'.get? e = some { cls := .ref C, dict := some d, data := .fields #[.ref t1, .none, .none, .none, .bool false, .none] }
  dbig : h.objs.size ≤ d
  dne : d ≠ e
  ns : h'.Ns1 d (fun y => if y = "what" then some v else none)
section
variable {P : Program} {w : World} {A : Around} {R : Result → Shared → Prop} {s : Shared} {K : Frag} {mg mb : Str → Option Value} {C fI : Addr}
theorem err_made (T : ErrT P K C fI) {v : Value} (X : K.In s.heap) (hlim : s.heap.NoLimit) (G : s.heap.Ns mainGlobals mg) (B : s.heap.Ns builtinsNs mb) (g0 : mg "super" = none) (b0 : mb "super" = some (.type "super")) (hroom : A.depth + 1 < recursionLimit)
    (hq : ∀ h' tk e d, Made s.heap h' e C d v → R (.ok (.ret (.ref e))) { s with heap := h', toks := tk }) :
    codeAny (model P w) A (.call (.ref C) ⟨[v], []⟩) R s := by
  obtain ⟨nm, q, N, bs, bm, sn, sub, ab, col, dd, k0, k1, k2, k3, k5, hC, hbm⟩ := T.cls
  obtain ⟨hp, gs, dr, tk, os⟩ := s
  have up : ∀ b o, hp.get? b = some o → ((hp.push (kdv_tup [v])).push (excO C hp.objs.size)).get? b = some o := fun b o e => Heap.get?_push_of_some _ (Heap.get?_push_of_some _ e)
  have new : ((hp.push (kdv_tup [v])).push (excO C hp.objs.size)).get? (hp.objs.size + 1) = some (excO C hp.objs.size) := by heap_get
  have out : K.lookup (hp.objs.size + 1) = none := by
    cases e : K.lookup (hp.objs.size + 1) with
    | none => rfl
    | some o =>
      have hlt := Heap.lt_size (X _ _ e)
      have hlt' : hp.objs.size + 1 < hp.objs.size := hlt
      omega
  have one : [v].length ≤ sizeLine := by rw [sizeLine_eq]; exact (by decide : 1 ≤ 16777216)
  refine call_own F.excBase_ValueError (fun Y => refsVE_contains Y bm hbm) (X _ _ hC) (looks_findIn X T.init) (fun self => bind_fn X self T.tyI) one ?_
  refine err_init (s := ⟨(hp.push (kdv_tup [v])).push (excO C hp.objs.size), gs, dr, tk, os⟩) T (X.keeps up) (hlim.keeps up) (G.keeps up) (B.keeps up) g0 b0 new out hroom fun h' tk' dx t1 L => ?_
  have z : hp.objs.size + 1 + 1 ≤ dx := by
    have q := L.dbig
    first
      | exact q
      | simpa only [Heap.size_push] using q
  refine ⟨rfl, hq h' tk' (hp.objs.size + 1) dx ⟨fun b o e => L.keep b o (fun eb => ?_) (up b o e), Nat.le_succ _, ⟨t1, L.obj⟩, Nat.le_trans (Nat.le_add_right _ 2) z, L.dne, L.ns⟩⟩
  subst eb
  have hlt : hp.objs.size + 1 < hp.objs.size := Heap.lt_size e
  omega
end
end ERR
namespace L2
open PySem PySem.Spec PyProof.Rows
theorem relO_what {v : V} {u : Value} (r : RelV v u) (f : Str) : RelO (List.lookup f [(("what" : Str), v)]) (if f = "what" then some u else none) := by
  by_cases hw : f = "what"
  · rw [hw, if_pos rfl, show List.lookup ("what" : Str) [(("what" : Str), v)] = some v by simp [List.lookup]]
    exact r
  · have hb : (f == ("what" : Str)) = false := by simpa using hw
    rw [if_neg hw, show List.lookup f [(("what" : Str), v)] = none by simp [List.lookup, hb]]
    trivial
section
variable {X : Cx} {C fI : Addr}
/-- C(e): an error whose own dict is new and holds what -/
def tMkErr (C : Addr) (ta : TA) : St → Hp → XK → Prop := fun σ H Q => ta σ H fun vs H1 => ∃ v, vs = [v] ∧ ∀ d, H1 d = none → Q (.ref C) (some d) (upd H1 d (.xd [(("what" : Str), v)]))
theorem pmk_err {nm : Str} {a : Expr} {ta : TA} {p pos : Pos} {k : Nat} (T : ERR.ErrT X.prog X.K C fI) (hm : X.mg nm = some (.ref C)) (g0 : X.mg "super" = none) (hr : Room k X.A) (ha : PA X [a] ta) (hg : Gl X nm := by rfl) (hdb : (nm == ("__debug__" : Str)) = false := by decide)
    (he : starEach (a :: []) X.env = (false, eval a X.env) :: starEach [] X.env := by rfl) (hpl : (backTo pos (starEach [] X.env)).any (·.1) = false := by rfl) :
    PMk X (.Call (.Name nm p) [a] [] pos) (tMkErr C ta) := by
  intro pins s σ H Q I h
  refine wpAny_Call_Name_kw (ld_glob I hg hm ?_ hdb)
  refine PySem.W.callWith_K (h₀ := X.base) I.ok.mod.kin T.kC (thn (ha.run pos pins s σ H _ I h) fun us s1 ⟨vs, H1, I1, r1, v, ev, q1⟩ => ⟨I1.kIn, ?_⟩) he hpl
  subst ev
  obtain ⟨u, rfl, rv⟩ : ∃ u, us = [u] ∧ RelV v u := by
    cases r1 with
    | cons a b => cases b; exact ⟨_, rfl, a⟩
  obtain ⟨mb, hb, hbb⟩ := I1.mod.blt
  have lim := I1.nolimit
  obtain ⟨hp, gs, dr, tk, os⟩ := s1
  refine wpAny_call (ERR.err_made T I1.kIn lim (I1.mod.glob.keeps I1.bk) (hb.keeps I1.bk) g0 ((hbb "super" (by decide)).trans (by rfl)) (by have := hr.dp; omega) fun h' tk' e d M => ?_)
  obtain ⟨t1, hoe⟩ := M.obj
  obtain ⟨G', f1, f2⟩ := restrict h' fun b => decide (b ≠ e)
  have at_ : ∀ b, b ≠ e → G'.get? b = h'.get? b := fun b hb => f1 b (decide_eq_true hb)
  have gone : G'.get? e = none := f2 e (by simp)
  have lt : ∀ b o, hp.get? b = some o → b ≠ e := fun b o q z => by
    have h1 := Heap.lt_size q
    have h2 := M.new
    rw [z] at h1
    exact absurd h1 (Nat.not_lt.mpr h2)
  have ob : ObjOk X.prog X.w (upd H1 d (.xd [(("what" : Str), v)])) G' d (.xd [(("what" : Str), v)]) := ⟨_, M.ns.at (fun o q => (at_ d M.dne).trans q), fun f => relO_what rv f⟩
  have J : Inv X pins σ (upd H1 d (.xd [(("what" : Str), v)])) ⟨G', gs, dr, tk', os⟩ := I1.laid (t' := tk') (fun b o q => (at_ b (lt b o q)).trans (M.keep b o q)) M.dbig ob
  have nA : (upd H1 d (.xd [(("what" : Str), v)])) e = none := by rw [upd_ne (Ne.symm M.dne)]; exact I1.hok.fresh M.new
  refine ⟨e, _, _, ⟨G', gs, dr, tk', os⟩, _, .ref C, some d, rfl, J, fun b o q => ?_, gone, hoe, ⟨rfl, rfl⟩, rfl, rfl, nA, rfl, I1.bare, raises_own T.exC T.tyC, q1 d (I1.hok.fresh M.dbig)⟩
  by_cases hbe : b = e
  · rw [hbe] at q; exact absurd (q.symm.trans gone) (by simp)
  · exact (at_ b hbe).symm.trans q
end
end L2
/-! The facts of an own error class out of the written part, one by one. -/
namespace ERR
open PySem PySem.W PySem.Calls PyProof.Rows PySem.HandSPX
/-- where the parts of such an __init__ stand -/
def ePos (b : List Stmt) : Nat → Pos := match b with
  | [.Expr (.Call (.Attribute (.Call (.Name _ p0) _ _ p1) _ p2) [.Constant _ _ p3] _ p4) p5, .Assign [.Attribute (.Name _ p6) _ p7] (.Name _ p8) p9] => fun n => match n with
    | 0 => p0 | 1 => p1 | 2 => p2 | 3 => p3 | 4 => p4 | 5 => p5 | 6 => p6 | 7 => p7 | 8 => p8 | _ => p9
  | _ => fun _ => ⟨0, 0, 0, 0⟩
def eTxt (b : List Stmt) : Str := match b with
  | [.Expr (.Call _ [.Constant (.str x) _ _] _ _) _, _] => x
  | _ => ""
/-- an error of the class at S is what «except S» names -/
theorem exm_self {K : Frag} {S : Addr} (h1 : subIn K (.ref S) (.type "BaseException") = some true) (h2 : isClsIn K S = true) (h3 : typeIn K (.ref S) = some (.type "type")) (h4 : subIn K (.ref S) (.ref S) = some true) :
    exmOne K (.ref S) (.ref S) = some true := by
  have e1 : (subIn K (.ref S) (.type "BaseException") == some true) = true := by rw [h1] <;> rfl
  have e2 : ((clsIn K S).isSome && typeIn K (.ref S) == some (.type "type")) = true := by
    have h2' : (clsIn K S).isSome = true := h2
    rw [h2', h3] <;> rfl
  show (if (subIn K (.ref S) (.type "BaseException") == some true) = true then (if ((clsIn K S).isSome && typeIn K (.ref S) == some (.type "type")) = true then subIn K (.ref S) (.ref S) else none) else none) = some true
  rw [if_pos e1, if_pos e2]
  exact h4
theorem errT_mk {P : Program} {K : Frag} {C fI : Addr} (s : Stmt) {qual : Str}
    {nm q : Str} {N : Addr} {bs bm : List Value} {sn : List Str} {sub : List Value} {ab : Bool} {col : Option Bool} {dd : Option Addr} {k0 k1 k2 k3 k5 : Option Value}
    {oc doc pm ct cl ccl : Value} {od an cld cdd : Option Addr} {osl csl ccs : Array (Option Value)} {cc cda : Addr} {vs : Array Value} {file : Str} {tf : Tok}
    (xL : K.lookup C = some (excClassObj nm q C N bs bm true sn sub ab col dd k0 k1 k2 k3 k5 "ValueError.__new__")) (bmv : refsVE bm = true)
    (sa : findIn K (.ref C) "__setattr__" = some (some (.builtin "object.__setattr__")))
    (noW : findIn K (.ref C) "what" = some none)
    (subV : subIn K (.ref C) (.type "ValueError") = some true)
    (sup : ks_superIn K C C "__init__" = some (some (.builtin "ValueError.__init__")))
    (opq : nsIn K cStatics "thirdparty.any" = some none)
    (me : mroIn K C (.ref C) = some true)
    (init : findIn K (.ref C) "__init__" = some (some (.ref fI)))
    (tyI : typeIn K (.ref fI) = some (.type "function"))
    (kC : keepIn K (.ref C) = true)
    (exC : subIn K (.ref C) (.type "BaseException") = some true)
    (tyC : typeIn K (.ref C) = some (.type "type"))
    (top : (P.main.scope.names.lookup ("super" : Str)).isSome = false)
    (l : K.lookup fI = some ⟨oc, od, .func (ksFn "__init__" qual (L2.defArgs s) (L2.defBody s) (L2.defScope s) .none .none doc pm an (.ref cda) ct cc), osl⟩)
    (hA : ∃ p1 p2, L2.defArgs s = eA p1 p2) (hB : L2.defBody s = eB (eTxt (L2.defBody s)) (ePos (L2.defBody s))) (hS : L2.defScope s = eS)
    (hev : ∀ env : Env, ∃ pl : Sem Bool, eval (.Call (.Attribute (.Call (.Name "super" (ePos (L2.defBody s) 0)) [] [] (ePos (L2.defBody s) 1)) "__init__" (ePos (L2.defBody s) 2)) [.Constant (.str (eTxt (L2.defBody s))) 0 (ePos (L2.defBody s) 3)] [] (ePos (L2.defBody s) 4)) env = (do
      let ov ← attributeBase (.Call (.Name "super" (ePos (L2.defBody s) 0)) [] [] (ePos (L2.defBody s) 1)) "__init__" env (eval (.Call (.Name "super" (ePos (L2.defBody s) 0)) [] [] (ePos (L2.defBody s) 1)) env)
      standAt (ePos (L2.defBody s) 2).atName
      let (f, first) ← holding [ov] (getMethod ov "__init__" pl)
      callWith (ePos (L2.defBody s) 4) f first (backTo (ePos (L2.defBody s) 4) (starEach [.Constant (.str (eTxt (L2.defBody s))) 0 (ePos (L2.defBody s) 3)] env)) []))
    (c : codeIn K (.ref cda) qual = true)
    (lc : K.lookup cc = some ⟨cl, cld, .cell (some (.ref C)), csl⟩) (ld : K.lookup cda = some ⟨ccl, cdd, .fields vs, ccs⟩) (hv : vs[2]? = some (.str file tf)) (hf : ((P.main.file : Str) == file) = true) : ErrT P K C fI := by
  obtain ⟨p1, p2, hA⟩ := hA
  rw [hA, hS] at l
  generalize eTxt (L2.defBody s) = txt at hB hev
  generalize ePos (L2.defBody s) = p at hB hev
  rw [hB] at l
  exact { cls := ⟨nm, q, N, bs, bm, sn, sub, ab, col, dd, k0, k1, k2, k3, k5, xL, bmv⟩, sa := sa, noW := noW, subV := subV, sup := sup, opq := opq, me := me, init := init, tyI := tyI, kC := kC, exC := exC, tyC := tyC, top := top,
          fn := ⟨oc, od, an, doc, pm, ct, osl, qual, txt, cc, cda, p1, p2, p, cl, ccl, cld, cdd, csl, ccs, vs, file, tf, l, c, hev, lc, ld, hv, hf⟩ }
end ERR
/-! == and != by an own class's __eq__ and __ne__, whatever they answer. -/
namespace DP
open PySem PySem.Spec PyProof.Rows L2
theorem rooms64 {A : Around} {k : Nat} (hr : Room k A) : A.units + 64 < cLine := by have := hr.un; omega
/-- what isinstance asks of an own class's instances -/
structure IsiC (K : PySem.W.Frag) (C : Addr) : Prop where
  ha : PySem.W.findIn K (.ref C) "__class__" = some (some (.builtin "object.__class__"))
  hn : PySem.W.specialIn K (.builtin "object.__class__") "__get__" = some (some (.builtin "getset_descriptor.__get__"))
  htk : PySem.W.takesIn K (.builtin "object.__class__") = some true
  hm : PySem.W.mroIn K C (.type "object") = some true
theorem kit_self (K : PySem.W.Frag) (C : Addr) : PySem.W.kitOne K (.ref C) (.ref C) = some true := if_pos (beq_self_eq_true _)
theorem kit_no {K : PySem.W.Frag} {S : Addr} {t : Value} (h0 : (t == .ref S) = false) (h2 : PySem.W.isClsIn K S = true) (h3 : PySem.W.typeIn K (.ref S) = some (.type "type")) {b : Option Bool} (h4 : PySem.W.subIn K t (.ref S) = b) : PySem.W.kitOne K t (.ref S) = b := by
  have e2 : ((PySem.W.clsIn K S).isSome && PySem.W.typeIn K (.ref S) == some (.type "type")) = true := by
    have h2' : (PySem.W.clsIn K S).isSome = true := h2
    rw [h2', h3] <;> rfl
  show (if (t == .ref S) = true then some true else if ((PySem.W.clsIn K S).isSome && PySem.W.typeIn K (.ref S) == some (.type "type")) = true then PySem.W.subIn K t (.ref S) else none) = b
  rw [h0, if_neg Bool.false_ne_true, if_pos e2]
  exact h4
section
variable {X : Cx} {CX : CXT} {C f : Addr} {fd : FuncData} {ps : List Str} {sp : Sp} {E : XK} {k : Nat} {op : CmpOp}
/-- the right side: of the same class, a list, a whole number -/
inductive Right (K : PySem.W.Frag) (C : Addr) (H : Hp) : V → Prop
  | ins {b dy gs} : H b = some (.ins C dy gs) → Right K C H (.ref b)
  | lst {b xs} : SqL K H b xs → PySem.W.notFirst K C (.type "list") = true → Right K C H (.ref b)
  | int {i} : PySem.W.notFirst K C (.type "int") = true → Right K C H (.int i)
  | any {v t} : TyX K H v (.type t) → PySem.W.notFirst K C (.type t) = true → Right K C H v
def rOwn (K : PySem.W.Frag) (C : Addr) (sp : Sp) (E : XK) : V → V → Hp → VK → Prop := fun x y H Q => ∃ a dx fs, x = .ref a ∧ H a = some (.ins C dx fs) ∧ Right K C H y ∧ sp [x, y] H (fun v H' => ∃ b, v = .bl b ∧ Q (.bl b) H') E
theorem own_run (F : FnOk X.prog X.w X.K X.mg X.base CX k f fd ps sp) (hs : PySem.W.findIn X.K (.ref C) (cmpInfo op).2.1 = some (some (.ref f))) (hf : PySem.W.isFn X.K (.ref f) = true) (hb : Binds X.K fd ps []) (hx : Passes CX X E) (hr : Room k X.A) : ∀ (pins : List (Addr × Obj)) (s : Shared) (σ : L2.St) (H : Hp) (x y : V) (v u : Value) (Q : VK), Inv X pins σ H s → RelV x v → RelV y u → rOwn X.K C sp E x y H Q → wpAny (model X.prog X.w) X.A (richCompare op v u) (EP X pins σ Q) X.xe s := by
  intro pins s σ H x y v u Q I rx ry hq
  obtain ⟨a, dx, fs, rfl, ha, hy, q⟩ := hq
  cases rx
  obtain ⟨mA, J, _⟩ := ins_get I.hok ha
  obtain ⟨od, J, _⟩ := J.look
  obtain ⟨m, hF⟩ := I.fr
  obtain ⟨tb, hl, hn⟩ : ∃ tb, PySem.W.Looks (model X.prog X.w) s.heap (typeOf u) tb ∧ PySem.W.notFirst X.K C tb = true := by
    cases hy with
    | ins h =>
      cases ry
      obtain ⟨mB, J', _⟩ := ins_get I.hok h
      obtain ⟨od', J', _⟩ := J'.look
      exact ⟨.ref C, J'.type, by simp [PySem.W.notFirst]⟩
    | lst h hn =>
      cases ry
      obtain ⟨its, rv, pl, hz⟩ := I.list h
      exact ⟨_, fun A Q E s1 k q => (by
        obtain ⟨o, ho, hc, r⟩ := pl.isList
        exact wpAny_typeOf_ref (k _ _ ho) (by rw [hc]; exact q)), hn⟩
    | int hn =>
      obtain ⟨t, rfl⟩ := ry
      exact ⟨_, fun A Q E s1 k q => wpAny_pure q, hn⟩
    | any h hn =>
      obtain ⟨Pk, kx, hp, _⟩ := kit_of I ry h
      exact ⟨_, kx.ty _ _ I.kIn hp, hn⟩
  refine PySem.W.cmp_K (op := op) (tb := tb) hr.units0 hF I.ok.mod.kin J hl hn hs hf ?_
  have r2 : Vals [V.ref a, y] [Value.ref a, u] := .cons rfl (.cons ry .nil)
  have hlen := F.len _ _ _ _ q
  refine wpAny_call (codeAny_mono (F.run X.A X.stack s H ⟨[.ref a, u], []⟩ [.ref a, u] [.ref a, y] _ E hr I.env0 (by
    have := hb s [.ref a, u] I.kIn (by simpa using hlen)
    simpa using this) r2 q) fun r s' hq => ?_)
  cases r with
  | error e => exact hx pins σ H s e s' I hq
  | ok fl =>
    cases fl with
    | ret w =>
      obtain ⟨z, H', I', rz, b, ez, q2⟩ := I.after hq
      subst ez
      cases rz
      exact ⟨.bl b, H', I', rfl, q2⟩
    | next => exact hq.elim
    | brk => exact hq.elim
    | cont => exact hq.elim
theorem op_ownEq (F : FnOk X.prog X.w X.K X.mg X.base CX k f fd ps sp) (hs : PySem.W.findIn X.K (.ref C) "__eq__" = some (some (.ref f))) (hf : PySem.W.isFn X.K (.ref f) = true) (hb : Binds X.K fd ps []) (hx : Passes CX X E) (hr : Room k X.A) : OpR X (compareOp .Eq) (rOwn X.K C sp E) := fun pins s σ H x y v u Q I rx ry hq =>
  own_run (op := .Eq) F hs hf hb hx hr pins s σ H x y v u Q I rx ry hq
theorem op_ownNe (F : FnOk X.prog X.w X.K X.mg X.base CX k f fd ps sp) (hs : PySem.W.findIn X.K (.ref C) "__ne__" = some (some (.ref f))) (hf : PySem.W.isFn X.K (.ref f) = true) (hb : Binds X.K fd ps []) (hx : Passes CX X E) (hr : Room k X.A) : OpR X (compareOp .NotEq) (rOwn X.K C sp E) := fun pins s σ H x y v u Q I rx ry hq =>
  own_run (op := .NotEq) F hs hf hb hx hr pins s σ H x y v u Q I rx ry hq
/-- in a comprehension: K named -/
theorem ownEqK {K : PySem.W.Frag} {P : Program} {w : World} {mg : Str → Option Value} {base : Heap} (F : FnOk P w K mg base CX k f fd ps sp) (hs : PySem.W.findIn K (.ref C) "__eq__" = some (some (.ref f))) (hf : PySem.W.isFn K (.ref f) = true) (hb : Binds K fd ps []) (hx : Passes CX X E) (hr : Room k X.A) (h1 : X.prog = P := by rfl) (h2 : X.w = w := by rfl) (h3 : X.K = K := by rfl) (h4 : X.mg = mg := by rfl) (h5 : X.base = base := by rfl) : OpR X (compareOp .Eq) (rOwn K C sp E) := by
  subst h1 h2 h3 h4 h5
  exact op_ownEq F hs hf hb hx hr
end
end DP
/-! A caught error that stays: tracked from the except suite on, asked for its class and its fields wherever it is held. -/
namespace EK
open PySem PySem.Spec PyProof.Rows L2
/-- an error of the class cls at a, its own dict d -/
def ExV (cls : Value) (d : Option Addr) (a : Addr) : HO := .ext fun h => ∃ (oe : Obj) (vs : Array Value), h.get? a = some oe ∧ Zc cls d oe ∧ oe.data = .fields vs
theorem exV_ok {P : Program} {w : World} {H : Hp} {h : Heap} {a : Addr} {cls : Value} {d : Option Addr} {oe : Obj} {vs : Array Value} (e : h.get? a = some oe) (z : Zc cls d oe) (dt : oe.data = .fields vs) : ObjOk P w H h a (ExV cls d a) :=
  ⟨⟨oe, vs, e, z, dt⟩, ⟨oe, e⟩, fun _ _ ⟨o, v, q, r⟩ k => ⟨o, v, k o q, r⟩⟩
section
variable {X : Cx} {pins : List (Addr × Obj)} {σ : L2.St} {H : Hp} {s : Shared}
/-- an object that wasn't there at the entry is tracked from now on -/
theorem track {a : Addr} {o : HO} (I : Inv X pins σ H s) (na : H a = none) (n0 : X.s_0.heap.get? a = none) (nL : a ≠ X.env.locals) (nC : ∀ x c, X.env.cells.lookup x = some c → c ≠ a) (nP : ∀ p ∈ X.pn ++ pins, p.1 ≠ a)
    (ok : ObjOk X.prog X.w (upd H a o) s.heap a o) : Inv X pins σ (upd H a o) s := by
  have keep : ∀ {b : Addr} {u : HO}, H b = some u → upd H a o b = some u := fun {b u} e => by rw [upd_ne (ne_of_none e na)]; exact e
  refine ⟨I.ok, I.os, I.bare, ⟨I.base.keep, I.base.slot, fun b u e n q => ?_, I.base.there, fun b xs e => keep (I.base.tups b xs e), fun b u v e => keep (I.base.frzs b u v e), fun b ps e => ?_⟩, I.loc, I.cell, ?_, fun x c e => ?_, fun p hp => ?_, I.hok.laidN (fun _ _ e => e) na ok, I.len⟩
  · rw [upd_ne (fun z => by rw [z, n0] at e; cases e)]
    exact I.base.free b u e n q
  · obtain ⟨m, z⟩ := I.base.tbls b ps e
    exact ⟨m, keep z⟩
  · rw [upd_ne (Ne.symm nL)]; exact I.free
  · rw [upd_ne (nC x c e)]; exact I.freeC x c e
  · obtain ⟨e, n, ne, nf, dd⟩ := I.pin p hp
    exact ⟨e, by rw [upd_ne (nP p hp)]; exact n, ne, nf, dd⟩
abbrev suite0 (X : Cx) (a : Addr) (pn : List (Addr × Obj)) : Cx := X.suite a pn
theorem to_suite (I : Inv X pins σ H s) (a : Addr) : Inv (X.suite a (X.pn ++ pins)) [] σ H s :=
  ⟨I.ok.suite _ _, I.os, I.bare, I.base, I.loc, I.cell, I.free, I.freeC, fun p hp => by rw [List.append_nil] at hp; exact I.pin p hp, I.hok, I.len⟩
theorem of_suite {a : Addr} {pn' : List (Addr × Obj)} (I : Inv (X.suite a (X.pn ++ pins)) pn' σ H s) (ok : X.Ok) : Inv X pins σ H s :=
  ⟨ok, I.os, I.bare, I.base, I.loc, I.cell, I.free, I.freeC, fun p hp => I.pin p (List.mem_append_left _ hp), I.hok, I.len⟩
end
/-- what 'except x as n' wishes of an error of the body: slot i is n's, the error tracked -/
def wKeep (K : PySem.W.Frag) (c : Value) (i : Nat) (ts : TS) (Wout : WX) (D : Ends) : WX := fun cls d σ H =>
  ∃ b, PySem.W.exmOne K cls c = some b ∧ (b = true → ∀ a, H a = none → ts { nx := fun σ' H' => D.nx (σ'.set i none) H', rt := D.rt, bk := fun σ' H' => D.bk (σ'.set i none) H', ct := fun σ' H' => D.ct (σ'.set i none) H' } (σ.set i (some (.ref a))) (upd H a (ExV cls d a))) ∧
    (b = false → Wout cls d σ H)
section
variable {X : Cx} {x n : Str} {c : Value} {i : Nat} {body suite : List Stmt} {b₀ : Stmt} {np pos pos' : Pos} {tb : WX → TS} {ts : TS} {Wout : WX}
theorem ps_try_keep (hs : X.stack = X.env :: X.outer) (hf : X.env.frame = some X.env.locals) (hex : X.ex = []) (hN : X.N.Nodup) (hi : X.N[i]? = some n) (hln : X.env.kindOf n = some .local) (hc : Names X x c) (tk : Takes X Wout)
    (hb : ∀ (W : WX) (pn : List (Addr × Obj)) (xe : Value → Shared → Prop), Takes (X.tr pn xe) W → PassesOwn (model X.prog X.w) X.A X.env xe → PSs (X.tr pn xe) body (tb W))
    (hsu : ∀ (a : Addr) (pn : List (Addr × Obj)), PSs (X.suite a pn) (b₀ :: suite) ts) :
    PS X (.Try body [.ExceptHandler (some (.Name x np)) (some n) (b₀ :: suite) pos'] [] [] pos) (fun D σ H => tb (wKeep X.K c i ts Wout D) D σ H) := by
  refine ⟨fun pins s σ H D I h => ?_⟩
  have ok := I.ok
  have hfr : X.A.frames = some (X.env :: X.outer) := by rw [ok.frames, hs]
  have hloc : Loc X.env.scope n := .inl hln
  refine wpAny_Try_except (wpAny_mono ((hb (wKeep X.K c i ts Wout D) (X.pn ++ pins) (fun e s₁ => wpAny (model X.prog X.w) X.A (noteFrame e X.env) (fun _ s₂ => wpAny (model X.prog X.w) X.A (setFlight e none) (fun _ s₃ =>
    wpAny (model X.prog X.w) X.A (handleBy e X.env [.ExceptHandler (some (.Name x np)) (some n) (b₀ :: suite) pos']) (SP X pins D) X.xe s₃) X.xe s₂) X.xe s₁) (fun u s' xx => ?_) PassesOwn.looking).run [] s σ H D (I.toTry _) h) (fun f s1 hsp => ?_) (fun e s1 he => he))
  · obtain ⟨a, B, sI, pins', σ', H', cls, d, rfl, J', nb, up, sky, na, os, ag, b, hb1, hyes, hno⟩ := xx
    have J : Inv X pins σ' H' sI := J'.ofTry ok
    have sky' : Sky B (X.env :: X.outer) a (Zc cls d) X.env.locals s'.heap := by rw [← hs]; exact sky
    show wpAny (model X.prog X.w) X.A (noteFrame (.ref a) X.env) _ _ _
    refine Sky.land Zc.steady hfr hf sky' fun h3 fl3 up3 => ?_
    have J3 : Inv X pins σ' H' { s' with heap := h3 } := J.landed nb fl3.1 (up.trans up3) os ag
    obtain ⟨oe3, vs3, he3, hz3, hd3⟩ := fl3.there
    have nfr : a ∉ frs (X.env :: X.outer) := fun hm => by
      obtain ⟨_, o', e', hnf⟩ := fl3.2.2.1.mem hm
      rw [he3] at e'; cases e'
      exact hnf _ hd3
    have nL : a ≠ X.env.locals := fun z => nfr (List.mem_filterMap.mpr ⟨X.env, List.mem_cons_self, by rw [hf, z]⟩)
    have nF : a ∉ X.fs := fun hm => by
      obtain ⟨e, he, q⟩ := List.mem_filterMap.mp hm
      exact nfr (List.mem_filterMap.mpr ⟨e, List.mem_cons_of_mem _ he, q⟩)
    have nB : B.get? a = none := fl3.2.1
    -- it is none of what stood
    have nI : ∀ b o, sI.heap.get? b = some o → b ∉ frs X.stack → b ≠ a := fun b o e hb z => by
      have q := nb b o e hb
      rw [z, nB] at q; cases q
    have nS : a ∉ frs X.stack := by rw [hs]; exact nfr
    have n0 : X.s_0.heap.get? a = none := by
      cases e : X.s_0.heap.get? a with
      | none => rfl
      | some o =>
        obtain ⟨o2, e2⟩ := J.base.there a o e (by rw [hex]; exact fun z => nomatch z)
        exact absurd rfl (nI a o2 e2 nS)
    have nP : ∀ p ∈ X.pn ++ pins, p.1 ≠ a := fun p hp z => by
      obtain ⟨e, _, _, _, _⟩ := J.pin p hp
      exact nI _ _ e (by rw [z]; exact nS) z
    have nC : ∀ x c, X.env.cells.lookup x = some c → c ≠ a := fun x c e z => by
      obtain ⟨v, o, ho, hd⟩ := J3.cell x c e
      rw [z, he3] at ho
      rw [← Option.some.inj ho, hd3] at hd
      exact nomatch hd
    have S3 := J3.suite he3 hd3 na nL nF
    refine wpAny_handleBy_cons (codeAny_handlers_test ?_) (by intro q; cases q)
    have LT : PySem.W.Looks (model X.prog X.w) h3 (typeOf (.ref a)) cls := fun A Q E s k q => wpAny_typeOf_ref (k _ _ he3) (by rw [hz3.1]; exact q)
    have LM := PySem.W.exm_one (M := model X.prog X.w) (J3.kIn) LT hb1
    have test : ∀ {Q : Value → Shared → Prop} {E : Value → Shared → Prop}, Q c { s' with heap := h3 } → wpAny (model X.prog X.w) (X.A.mark (some (.ref a))) (eval (.Name x np) X.env) Q E { s' with heap := h3 } := fun {Q E} q => by
      obtain ⟨hg, hdbg, hm | ⟨hm, hv, hnn⟩⟩ := hc
      · exact ld_glob (X := X.suite a ((a, oe3) :: (X.pn ++ pins))) S3 hg hm q hdbg
      · exact ld_blt (X := X.suite a ((a, oe3) :: (X.pn ++ pins))) S3 hg hm hv q hnn hdbg
    refine test (LM.here ?_)
    cases b with
    | true =>
      refine codeAny_handlers_suite_as (HandSPX.lands_againZ fl3 fun h4 fl4 up4 => ?_)
      have J4 : Inv X pins σ' H' { s' with heap := h4 } := J.landed nb fl4.1 ((up.trans up3).trans up4) os ag
      obtain ⟨oe4, vs4, he4, hz4, hd4⟩ := fl4.there
      have J5 := track (o := ExV cls d a) J4 na n0 nL nC nP (exV_ok he4 hz4 hd4)
      refine store_ok (X := X.suite a (X.pn ++ pins)) (v := .ref a) (to_suite J5 a) hN hi hloc rfl (fun s5 S5 => ?_) (.inr hln)
      refine wpAny_mono ((hsu a (X.pn ++ pins)).run [] s5 _ _ _ S5 (hyes rfl a na)) (fun f s6 hsp => ?_) (fun _ _ z => False.elim z)
      have leave : ∀ {σ6 : L2.St} {H6 : Hp} {Q : Shared → Prop}, Inv (X.suite a (X.pn ++ pins)) [] σ6 H6 s6 → (∀ s7, Inv X pins (σ6.set i none) H6 s7 → Q s7) →
          wpAny (model X.prog X.w) X.A (do bindName X.env n .none; unbindBehindTheSuite X.env n pos') (fun _ s7 => Q s7) X.xe s6 := fun {σ6 H6 Q} S6 hq => gone_ok (of_suite S6 ok) hN hi hln hq
      cases f with
      | next =>
        obtain ⟨σ6, H6, S6, q6⟩ := hsp
        exact leave S6 fun s7 J7 => ⟨_, _, J7, q6⟩
      | brk =>
        obtain ⟨σ6, H6, S6, q6⟩ := hsp
        exact leave S6 fun s7 J7 => ⟨_, _, J7, q6⟩
      | cont =>
        obtain ⟨σ6, H6, S6, q6⟩ := hsp
        exact leave S6 fun s7 J7 => ⟨_, _, J7, q6⟩
      | ret u =>
        obtain ⟨v6, σ6, H6, S6, r6, q6⟩ := hsp
        exact leave S6 fun s7 J7 => ⟨_, _, _, J7, r6, q6⟩
    | false =>
      show wpAny _ X.A (handleBy (.ref a) X.env []) _ _ _
      refine wpAny_handleBy_nil ?_
      obtain ⟨k1, k2, k3, oe, vs, T, oT, ts', he, hz, hd, h1, hr⟩ := id fl3
      unfold PySem.passOn
      refine wpAny_bind (wpAny_field he hd h1 ?_)
      rw [if_neg (show ¬ ((Value.ref T == Value.none) = true) from by simp)]
      have fin : wpAny (model X.prog X.w) X.A (setFlight (.ref a) X.env.frame) (fun _ s4 => wpAny (model X.prog X.w) X.A (throw (.ref a) : Sem Flow) (SP X pins D) X.xe s4) X.xe { s' with heap := h3 } := by
        rw [hf]
        refine HandSPX.setFlight_upZ fl3 fun h4 hh4 up4 => wpAny_throw (tk _ _ ⟨a, B, sI, pins, σ', H', cls, d, rfl, J, nb, (up.trans up3).trans up4, .inr (.inr (by rw [hs]; exact hh4)), na, os, ag, hno rfl⟩)
      first
        | exact wpAny_bind (wpAny_pure (wpAny_bind fin))
        | exact wpAny_bind fin
  · cases f with
    | next =>
      obtain ⟨σ', H', J', q⟩ := hsp
      exact wpAny_execs_nil ⟨σ', H', J'.ofTry ok, q⟩
    | brk =>
      obtain ⟨σ', H', J', q⟩ := hsp
      exact ⟨σ', H', J'.ofTry ok, q⟩
    | cont =>
      obtain ⟨σ', H', J', q⟩ := hsp
      exact ⟨σ', H', J'.ofTry ok, q⟩
    | ret u =>
      obtain ⟨v, σ', H', J', r, q⟩ := hsp
      exact ⟨v, σ', H', J'.ofTry ok, r, q⟩
end
/-- what an own error class's instances are asked -/
structure ExF (K : PySem.W.Frag) (C : Addr) : Prop where
  ga : PySem.W.findIn K (.ref C) "__getattribute__" = some (some (.builtin "BaseException.__getattribute__"))
  gg : PySem.W.findIn K (.ref C) "__getattr__" = some none
  exC : PySem.W.subIn K (.ref C) (.type "BaseException") = some true
  hdC : PySem.W.hasDictIn K C = true
  ha : PySem.W.findIn K (.ref C) "__class__" = some (some (.builtin "object.__class__"))
  hn : PySem.W.specialIn K (.builtin "object.__class__") "__get__" = some (some (.builtin "getset_descriptor.__get__"))
  htk : PySem.W.takesIn K (.builtin "object.__class__") = some true
  hm : PySem.W.mroIn K C (.type "object") = some true
  what : PySem.W.findIn K (.ref C) "what" = some none
section
variable {X : Cx} {K : PySem.W.Frag}
theorem ExF.cl {K : PySem.W.Frag} {C : Addr} (F : ExF K C) : (PySem.W.clsIn K C).isSome = true := by
  have h := F.hdC
  unfold PySem.W.hasDictIn at h
  cases e : PySem.W.clsIn K C with
  | none => rw [e] at h; cases h
  | some _ => rfl
/-- an error held at a, of the class at C, its fields fs -/
def Held (K : PySem.W.Frag) (H : Hp) (a C : Addr) (fs : List (Str × V)) : Prop := ∃ dd, H a = some (ExV (.ref C) (some dd) a) ∧ H dd = some (.xd fs) ∧ ExF K C
theorem Held.same {K : PySem.W.Frag} {H H' : Hp} {a C : Addr} {fs : List (Str × V)} (h : Held K H a C fs) (S : Same H H') : Held K H' a C fs := by
  obtain ⟨dd, h1, h2, h3⟩ := h
  exact ⟨dd, S _ _ h1, S _ _ h2, h3⟩
theorem Held.at {pins : List (Addr × Obj)} {σ : L2.St} {H : Hp} {s : Shared} {a C : Addr} {fs : List (Str × V)} (h : Held X.K H a C fs) (I : Inv X pins σ H s) :
    ∃ oe od, PySem.W.InstAt s.heap a oe C (some od) ∧ ∀ f v, fs.lookup f = some v → ∃ u, PySem.W.lookIn f od = some (some u) ∧ RelV v u := by
  obtain ⟨dd, h1, h2, F⟩ := h
  obtain ⟨oe, vs, e, z, dt⟩ : ∃ (oe : Obj) (vs : Array Value), s.heap.get? a = some oe ∧ Zc (.ref C) (some dd) oe ∧ oe.data = .fields vs := (I.hok a _ h1).1
  have hx : ObjOk X.prog X.w H s.heap dd (.xd fs) := I.hok dd _ h2
  obtain ⟨mA, hns, hr⟩ := hx
  obtain ⟨od, ho, hl⟩ := lookIn_ns hns
  refine ⟨oe, od, ⟨e, z.1, by unfold PySem.W.notCls; rw [dt] <;> rfl, by rw [z.2]; exact ho⟩, fun f v l => ?_⟩
  obtain ⟨u, hu, ru⟩ := RelO.some_of (v := v) (o := mA f) (by rw [← l]; exact hr f)
  exact ⟨u, by rw [hl, hu], ru⟩
/-- isinstance(an error, a class) -/
def rIsiE (K : PySem.W.Frag) : List V → Hp → VK → Prop := fun xs H Q => ∃ (a C : Addr) (fs : List (Str × V)) (c : V) (u : Value) (b : Bool), xs = [.ref a, c] ∧ Held K H a C fs ∧ ClsV c u ∧ PySem.W.kitOne K (.ref C) u = some b ∧ Q (.bl b) H
/-- isinstance(an error, a tuple of classes that was just laid) -/
def rIsiET (K : PySem.W.Frag) : List V → Hp → VK → Prop := fun xs H Q => ∃ (a C : Addr) (fs : List (Str × V)) (tp : Addr) (cs : List V) (us : List Value) (b : Bool), xs = [.ref a, .ref tp] ∧ Held K H a C fs ∧ H tp = some (.tup cs) ∧ Paired ClsV cs us ∧ PySem.W.kitAny K (.ref C) us = some b ∧ Q (.bl b) H
theorem call_isiE (h : X.K = K := by rfl) : CallR X (.builtin "isinstance") (rIsiE K) := by
  subst h
  intro pins s σ H xs us Q I r h
  obtain ⟨a, C, fs, c, u, b, rfl, hh, k, e, q⟩ := h
  obtain ⟨u1, u2, rfl, r1, r2⟩ := vals2 r
  cases (show u1 = Value.ref a from r1)
  have e2 := k.eq r2
  subst e2
  obtain ⟨oe, od, J, _⟩ := hh.at I
  obtain ⟨_, _, _, F⟩ := hh
  exact PySem.W.kia_one (PySem.W.kitx_exc F.cl F.ga F.gg F.exC F.ha F.hn F.htk F.hm) I.kIn J e (fun z => nomatch z) fun tk => ⟨.bl b, H, I.tok tk, rfl, q⟩
theorem call_isiET (h : X.K = K := by rfl) : CallR X (.builtin "isinstance") (rIsiET K) := by
  subst h
  intro pins s σ H xs us Q I r h
  obtain ⟨a, C, fs, tp, cs, ws, b, rfl, hh, hT, k, e, q⟩ := h
  obtain ⟨u1, u2, rfl, r1, r2⟩ := vals2 r
  cases (show u1 = Value.ref a from r1)
  cases (show u2 = Value.ref tp from r2)
  obtain ⟨oe, od, J, _⟩ := hh.at I
  obtain ⟨_, _, _, F⟩ := hh
  obtain ⟨_, its, rv, o, h1, h2, n, h3⟩ := (show ObjOk X.prog X.w H s.heap tp (.tup cs) from I.hok tp _ hT)
  have e3 := ClsV.all k rv
  subst e3
  obtain ⟨oc, od2, dt, sl⟩ := o
  simp only at h2 h3
  subst h2 h3
  exact PySem.W.kia_tup (PySem.W.kitx_exc F.cl F.ga F.gg F.exC F.ha F.hn F.htk F.hm) I.kIn J h1 e (fun z => nomatch z) fun tk => ⟨.bl b, H, I.tok tk, rfl, q⟩
/-- e.f of an error that is held -/
def tExF (K : PySem.W.Frag) (f : Str) (te : TE) : TE := fun σ H Q => te σ H fun x H1 => ∃ (a C : Addr) (fs : List (Str × V)) (v : V), x = .ref a ∧ Held K H1 a C fs ∧ PySem.W.findIn K (.ref C) f = some none ∧ fs.lookup f = some v ∧ Q v H1
theorem pe_exf {e : Expr} {te : TE} {pos : Pos} {n : Str} (he : PE X e te) (hb : attributeBase e n X.env (eval e X.env) = eval e X.env := by rfl) (h : X.K = K := by rfl) : PE X (.Attribute e n pos) (tExF K n te) := by
  subst h
  refine ⟨fun pins s σ H Q I h => attr_of hb (thn (he.run pins s σ H _ I h) fun u s1 hh => ?_)⟩
  obtain ⟨x, H1, I1, rx, a, C, fs, v, ex, hd, hno, l, q⟩ := hh
  subst ex
  obtain rfl : u = Value.ref a := rx
  obtain ⟨oe, od, J, hl⟩ := hd.at I1
  obtain ⟨_, _, _, F⟩ := hd
  obtain ⟨u, hu, ru⟩ := hl _ _ l
  exact HandSPX.exc_get I1.kIn J F.ga F.gg F.exC (PySem.W.findObj_own F.hdC hno rfl hu) (handed_of ru) ⟨v, H1, I1.tok _, ru, q⟩
end
end EK
/-! Own errors that the asker makes and keeps. -/
namespace KN
open PySem PySem.Spec PyProof.Rows L2
/-- C(e) as a value -/
def tErrV (C : Addr) (ta : TA) : TE := fun σ H Q => ta σ H fun vs H1 => ∃ v, vs = [v] ∧ ∀ d e, H1 d = none → H1 e = none → d ≠ e → Q (.ref e) (upd (upd H1 d (.xd [(("what" : Str), v)])) e (EK.ExV (.ref C) (some d) e))
section
variable {X : Cx} {C fI : Addr}
/-- what is laid of an error that was made -/
theorem made_inv {pins : List (Addr × Obj)} {σ : L2.St} {H1 : Hp} {hp h' : Heap} {gs : Array GenState} {dr : Drawn} {tk tk' : Nat} {os : OsState} {e d : Addr} {u : Value} {v : V} (I1 : Inv X pins σ H1 ⟨hp, gs, dr, tk, os⟩) (M : ERR.Made hp h' e C d u) (rv : RelV v u) :
    Inv X pins σ (upd (upd H1 d (.xd [(("what" : Str), v)])) e (EK.ExV (.ref C) (some d) e)) ⟨h', gs, dr, tk', os⟩ ∧ H1 d = none ∧ H1 e = none := by
  obtain ⟨t1, hoe⟩ := M.obj
  obtain ⟨G', f1, f2⟩ := restrict h' fun b => decide (b ≠ e)
  have at_ : ∀ b, b ≠ e → G'.get? b = h'.get? b := fun b hb => f1 b (decide_eq_true hb)
  have gone : G'.get? e = none := f2 e (by simp)
  have lt : ∀ b o, hp.get? b = some o → b ≠ e := fun b o q z => by
    have h1 := Heap.lt_size q
    have h2 := M.new
    rw [z] at h1
    exact absurd h1 (Nat.not_lt.mpr h2)
  have ob : ObjOk X.prog X.w (upd H1 d (.xd [(("what" : Str), v)])) G' d (.xd [(("what" : Str), v)]) := ⟨_, M.ns.at (fun o q => (at_ d M.dne).trans q), fun f => relO_what rv f⟩
  have J : Inv X pins σ (upd H1 d (.xd [(("what" : Str), v)])) ⟨G', gs, dr, tk', os⟩ := I1.laid (t' := tk') (fun b o q => (at_ b (lt b o q)).trans (M.keep b o q)) M.dbig ob
  have nA : (upd H1 d (.xd [(("what" : Str), v)])) e = none := by rw [upd_ne (Ne.symm M.dne)]; exact I1.hok.fresh M.new
  refine ⟨J.laidN (t' := tk') (fun b o q => ?_) gone nA (EK.exV_ok hoe ⟨rfl, rfl⟩ rfl), I1.hok.fresh M.dbig, I1.hok.fresh M.new⟩
  by_cases hbe : b = e
  · rw [hbe] at q; exact absurd (q.symm.trans gone) (by simp)
  · exact (at_ b hbe).symm.trans q
theorem pe_errV {nm : Str} {a : Expr} {ta : TA} {p pos : Pos} {k : Nat} (T : ERR.ErrT X.prog X.K C fI) (hm : X.mg nm = some (.ref C)) (g0 : X.mg "super" = none) (hr : Room k X.A) (ha : PA X [a] ta) (hg : Gl X nm := by rfl) (hdb : (nm == ("__debug__" : Str)) = false := by decide)
    (he : starEach (a :: []) X.env = (false, eval a X.env) :: starEach [] X.env := by rfl) (hpl : (backTo pos (starEach [] X.env)).any (·.1) = false := by rfl) :
    PE X (.Call (.Name nm p) [a] [] pos) (tErrV C ta) := by
  refine ⟨fun pins s σ H Q I h => ?_⟩
  refine wpAny_Call_Name_kw (ld_glob I hg hm ?_ hdb)
  refine PySem.W.callWith_K (h₀ := X.base) I.ok.mod.kin T.kC (thn (ha.run pos pins s σ H _ I h) fun us s1 ⟨vs, H1, I1, r1, v, ev, q1⟩ => ⟨I1.kIn, ?_⟩) he hpl
  subst ev
  obtain ⟨u, rfl, rv⟩ : ∃ u, us = [u] ∧ RelV v u := by
    cases r1 with
    | cons a b => cases b; exact ⟨_, rfl, a⟩
  obtain ⟨mb, hb, hbb⟩ := I1.mod.blt
  have lim := I1.nolimit
  obtain ⟨hp, gs, dr, tk, os⟩ := s1
  refine wpAny_call (ERR.err_made T I1.kIn lim (I1.mod.glob.keeps I1.bk) (hb.keeps I1.bk) g0 ((hbb "super" (by decide)).trans (by rfl)) (by have := hr.dp; omega) fun h' tk' e d M => ?_)
  obtain ⟨J, n1, n2⟩ := made_inv (tk' := tk') I1 M rv
  exact ⟨.ref e, _, J, rfl, q1 d e n1 n2 M.dne⟩
end
end KN
/-! Own errors that the asker makes by name. -/
namespace ERR
open PySem PySem.W PySem.Calls PyProof.Rows PySem.HandSPX
section
variable {P : Program} {w : World} {A : Around} {E : Value → Shared → Prop} {R : Result → Shared → Prop} {s : Shared} {K : Frag} {mg mb : Str → Option Value} {C fI : Addr}
theorem err_initK (T : ErrT P K C fI) {x t0 : Addr} {v : Value} (X : K.In s.heap) (hlim : s.heap.NoLimit) (G : s.heap.Ns mainGlobals mg) (B : s.heap.Ns builtinsNs mb) (g0 : mg "super" = none) (b0 : mb "super" = some (.type "super"))
    (hx : s.heap.get? x = some (excO C t0)) (hnx : K.lookup x = none) (hroom : A.depth < recursionLimit)
    (hq : ∀ h' tk dx t1, Left s.heap h' x C dx t1 v → R (.ok (.ret .none)) { s with heap := h', toks := tk }) :
    codeAny (model P w) A (.call (.ref fI) ⟨[.ref x], [(("what" : Str), v)]⟩) R s := by
  obtain ⟨oc, od, an, doc, pm, ct, osl, qual, txt, cc, cda, p1, p2, p, cl, ccl, cld, cdd, csl, ccs, vs, file, tf, ho, hcd, hev, hcell, hcode, hvs, hfile⟩ := T.fn
  obtain ⟨nm, q, N, bs, bm, sn, sub, ab, col, dd, k0, k1, k2, k3, k5, hC, hbm⟩ := T.cls
  refine ks_codeAny_call_defAt (fd := ksFn "__init__" qual (eA p1 p2) (eB txt p) eS .none .none doc pm an (.ref cda) ct cc) (body := eB txt p) (binds := [("self", .ref x), ("what", v)]) hroom (X _ _ ho) rfl hlim (codeRec_of X hcd) rfl (BindsTo.of_eq rfl) (show ∀ x ∈ eS.names, x.2 ≠ .cell by decide +kernel) (fun y hy => ?_) (fun h₁ hns k => ?_) rfl rfl rfl
  · simp only [List.mem_cons, List.mem_nil_iff, or_false] at hy
    rcases hy with rfl | rfl <;> rfl
  have X1 : K.In h₁ := X.keeps k
  have hx1 := k _ _ hx
  have hD1 := X1 _ _ hC
  have hxC : x ≠ C := fun e => by rw [e, hC] at hnx; cases hnx
  have hcl : clsIn K C = some { name := nm, bases := bs, mro := .ref C :: bm, ns := N, qualname := q, hasDict := true, slotNames := sn, subclasses := sub, abstract := ab, collection := col, hasDel := false } := by unfold clsIn; rw [hC] <;> rfl
  have I1 : InstAt h₁ x (excO C t0) C none := ⟨hx1, rfl, rfl, trivial⟩
  -- super().__init__(text)
  obtain ⟨pl, hev⟩ := hev (ksEnv qual eS s.heap.objs.size fI (.ref cda) cc)
  refine ks_wpAt_execs_cons (ks_wpAt_Expr_any (ks_wpAt_MethodCall (pl := pl) ?_ hev))
  refine ks_wpAt_super_base (env := ksEnv qual eS s.heap.objs.size fI (.ref cda) cc) rfl rfl rfl rfl (X1 _ _ ho) rfl rfl rfl (X1 _ _ hcode) rfl hvs hfile T.top ?_
  refine ks_loadName_global rfl rfl (loadGlobal_builtin (env := ksEnv qual eS s.heap.objs.size fI (.ref cda) cc) (G.keeps k) g0 (B.keeps k) b0 ⟨rfl, ?_⟩)
  refine wpAny_loadName_free rfl rfl rfl ⟨_, X1 _ _ hcell, rfl⟩ ?_
  refine wpAny_loadName_local (v := .ref x) rfl rfl hns rfl ?_
  refine ks_wpAny_isType_cls hD1 rfl ⟨rfl, ?_⟩
  refine ks_wpAny_call_super hD1 rfl hx1 rfl (fun c e => by cases e) (looks_mroIn X1 T.me) (fun h2 hso k2 => ?_)
  have X2 : K.In h2 := X1.keeps k2
  have I2 : InstAt h2 x (excO C t0) C none := ⟨k2 _ _ hx1, rfl, rfl, trivial⟩
  have hal : alongIn K "__init__" (((Value.ref C :: bm).dropWhile (· != .ref C)).drop 1) = some (some (.builtin "ValueError.__init__")) := by
    have h := T.sup
    unfold ks_superIn at h
    rw [hcl] at h
    exact h
  have hmr : ∀ {M : Model}, Looks M h2 (mroOf (.ref C)) (.ref C :: bm) := fun A Q E s k q => wpAny_bind ((looks_clsIn X2 hcl) A _ E s k (wpAny_pure q))
  refine kxs_getMethod kxs_ValueError hso (looks_opaque X2 T.opq) hmr rfl X2 hal (I2.type.andThen (looks_subIn X2 T.subV)) hxC (by decide) ?_
  refine kxs_callWith (i := "ValueError.__init__") (x := x) rfl (evalArgs_plain ?_)
  refine Calls.spliced_cons (Constant_str (k := 0) (pos := p 3) (Calls.spliced_nil ⟨?_, ?_⟩))
  · exact Heap.get?_push_size h2 rfl
  have kp : ∀ b o, h2.get? b = some o → (h2.push (kxs_mw "ValueError.__init__" x)).get? b = some o := fun b o e => Heap.get?_push_of_some _ e
  refine mw_call (Heap.get?_push_size h2 rfl) (kp _ _ (k2 _ _ hx1)) (kp _ _ (k2 _ _ hD1)) (by rw [sizeLine_eq]; exact (by decide : 1 ≤ 16777216)) fun h3 k3' hx3 => ?_
  have k3 : ∀ b o, b ≠ x → h₁.get? b = some o → h3.get? b = some o := fun b o hb e => k3' b o hb (kp _ _ (k2 _ _ e))
  have X3 : K.In h3 := fun a o e => k3 a o (fun z => by rw [z, hnx] at e; cases e) (X1 a o e)
  -- self.what = what
  have hxL : s.heap.objs.size ≠ x := Nat.ne_of_gt (Heap.lt_size hx)
  have hns3 : h3.Ns s.heap.objs.size (fun y => ([("self", Value.ref x), ("what", v)] : List (Str × Value)).reverse.lookup y) := by
    obtain ⟨oL, es, ep, hL, r⟩ := hns
    exact ⟨oL, es, ep, k3 _ _ hxL hL, r⟩
  have I3 : InstAt h3 x (excO C (h2.push (kxs_mw "ValueError.__init__" x)).objs.size) C none := ⟨hx3, rfl, rfl, trivial⟩
  refine ks_wpAt_execs_cons (wpAt_of_wpAny (plainObj_wpAny_Assign_Attribute ?_))
  refine wpAny_Name (wpAny_loadName_local (v := v) rfl rfl hns3 rfl ?_) (by decide)
  refine wpAny_Name (wpAny_loadName_local (v := .ref x) rfl rfl hns3 rfl ?_) (by decide)
  refine set_plain X3 I3 T.sa ?_
  refine exc_osa X3 hx3 hcl (show refsVE (.ref C :: bm) = true from hbm) rfl T.noW (fun h4 tk4 dx k4 dn dne hx4 hn4 => ?_)
  have sz : s.heap.objs.size ≤ h3.objs.size := Nat.le_of_lt hns3.lt
  refine wpAt_of_wpAny (wpAny_execs_nil (hq h4 tk4 dx _ ⟨fun b o hb e => k4 b o hb (k3 b o hb (k b o e)), hx4, Nat.le_trans sz dn, dne, hn4⟩))
end
section
variable {P : Program} {w : World} {A : Around} {E : Value → Shared → Prop} {R : Result → Shared → Prop} {hp : Heap} {gs : Array GenState} {dr : Drawn} {tk : Nat} {os : OsState}
variable {nm q : Str} {C N N' : Addr} {bs bm : List Value} {sn : List Str} {sub : List Value} {ab : Bool} {col : Option Bool} {dd : Option Addr} {k0 k1 k2 k3 k5 : Option Value}
/-- the class's record -/
abbrev IsErr (hp : Heap) (C : Addr) (nm q : Str) (N : Addr) (bs bm : List Value) (sn : List Str) (sub : List Value) (ab : Bool) (col : Option Bool) (dd : Option Addr) (k0 k1 k2 k3 k5 : Option Value) : Prop := hp.get? C = some (excClassObj nm q C N bs bm true sn sub ab col dd k0 k1 k2 k3 k5 "ValueError.__new__")
theorem askedK {kw : List (Str × Value)} {Q : Unit → Shared → Prop} (hbm : refsVE bm = true) (hC : IsErr hp C nm q N bs bm sn sub ab col dd k0 k1 k2 k3 k5) (fin : Q () ⟨hp, gs, dr, tk, os⟩) : wpAny (model P w) A (checkBuiltinCall "ValueError.__new__" ⟨[.ref C], kw⟩) Q E ⟨hp, gs, dr, tk, os⟩ := by
  have F := F.excBase_ValueError
  have inB : (Value.ref C :: bm).contains (.type "ValueError") = true := by rw [List.contains_cons, refsVE_contains "ValueError" bm hbm, F.hasB, Bool.or_true]
  have long := F.noStar
  simp only [checkBuiltinCall, F.newKind, F.newSplit, F.newRow]
  repeat (first | (refine wpAny_loadPart_at hC ?_) | (refine wpAny_isSubtype_exc hC ?_; rw [inB]) | (refine wpAny_staticBase_exc hC ?_) | (refine wpAny_madeBy_exc hC ?_) | (simp only [bne_self_eq_false, Bool.false_eq_true, if_false]) | wp_step)
  exact fin
theorem freshK {kw : List (Str × Value)} (hbm : refsVE bm = true) (hC : IsErr hp C nm q N bs bm sn sub ab col dd k0 k1 k2 k3 k5)
    (fin : R (.ok (.ret (.ref (hp.objs.size + 1)))) ⟨(hp.push (kdv_tup [])).push (excO C hp.objs.size), gs, dr, tk, os⟩) : codeAny (model P w) A (.builtin "ValueError.__new__" ⟨[.ref C], kw⟩) R ⟨hp, gs, dr, tk, os⟩ := by
  have F := F.excBase_ValueError
  have long := F.ends
  have inB : (Value.ref C :: bm).contains (.type "ValueError") = true := by rw [List.contains_cons, refsVE_contains "ValueError" bm hbm, F.hasB, Bool.or_true]
  have inA : (Value.ref C :: bm).contains (.type "AttributeError") = false := by rw [List.contains_cons, refsVE_contains "AttributeError" bm hbm, F.noAttr]; rfl
  have inN : (Value.ref C :: bm).contains (.type "NameError") = false := by rw [List.contains_cons, refsVE_contains "NameError" bm hbm, F.noName]; rfl
  have zero : ([] : List Value).length ≤ sizeLine := Nat.zero_le _
  refine codeAny_builtinAt F.entry (?_ : _)
  unfold Builtin.«BaseException.__new__»
  refine PySem.wpAt_bind ?_
  show PySem.wpAt _ _ _
    (stack >>= _) _ _ _
  refine PySem.wpAt_bind (PySem.wpAt_stack fun _ _ => PySem.wpAt_of_wpAny ?_)
  wp_walk
  refine PySem.wpAt_of_wpAny ?_
  rw [F.owner]
  repeat (first | (with_reducible refine wpAny_madeHere_exc F.canon hC ?_) | (with_reducible refine wpAny_loadPart_at hC ?_) | (with_reducible refine wpAny_isSubtype_exc hC ?_; first | rw [inB] | rw [inA] | rw [inN]) | wp_step)
  show R _ _
  rw [Heap.size_push]
  exact fin
theorem typeK {kw : List (Str × Value)} {Q : Fin → Shared → Prop} (hbm : refsVE bm = true) (hC : IsErr hp C nm q N bs bm sn sub ab col dd k0 k1 k2 k3 k5)
    (hi : Looks (model P w) hp (typeLookup (.ref C) "__init__") (some (.ref N'))) (hb : ∀ self, Looks (model P w) hp (bindSpecial (.ref N') self) (.ref N', [self]))
    (fin : codeAny (model P w) A (.call (.ref N') ⟨[.ref (hp.objs.size + 1)], kw⟩)
      (fun r s' => match r with | .ok (.ret v) => v = .none ∧ Q (.done (.ret (.ref (hp.objs.size + 1)))) s' | .ok _ => False | .error x => E x s') ⟨(hp.push (kdv_tup [])).push (excO C hp.objs.size), gs, dr, tk, os⟩) :
    wpAny (model P w) A (Builtin.«type.__call__» ⟨[.ref C], kw⟩) Q E ⟨hp, gs, dr, tk, os⟩ := by
  have FF := F.excBase_ValueError
  repeat (first | (with_reducible refine wpAny_loadPart_at hC ?_) | (with_reducible refine wpAny_madeBy_exc hC ?_) | wp_step)
  refine codeAny_call_builtin_code (Code.quiet_builtin _ FF.quiet) (askedK hbm hC ?_)
  refine freshK hbm hC (?_ : _)
  show wpAny _ _ _
    _ _ _
  have up : ∀ b o, hp.get? b = some o → ((hp.push (kdv_tup [])).push (excO C hp.objs.size)).get? b = some o := fun b o e => (Heap.get?_push_of_some _ (Heap.get?_push_of_some _ e))
  have hC2 := up _ _ hC
  have there : ((hp.push (kdv_tup [])).push (excO C hp.objs.size)).get? (hp.objs.size + 1) = some (excO C hp.objs.size) := by heap_get
  have inC : (Value.ref C :: bm).contains (.ref C) = true := by simp
  have hi2 := hi.keeps up
  have hb2 := (hb (.ref (hp.objs.size + 1))).keeps up
  unfold isInstance
  repeat (first | (with_reducible refine wpAny_loadPart_at there ?_) | (with_reducible refine wpAny_isSubtype_exc hC2 ?_; rw [inC]) | wp_step)
  show wpAny _ _ (typeLookup (.ref C) _)
    _ _ _
  refine hi2.at (?_ : _)
  refine wpAny_holding (wpAny_bind (hb2.at (?_ : _)))
  refine wpAny_bind (wpAny_call (codeAny_mono fin fun r s2 y => ?_))
  rcases r with x | (v | _ | _ | _) <;> first | exact y | exact y.elim | skip
  obtain ⟨rfl, y⟩ := y
  first | (exact wpAny_pure (wpAny_pure y)) | (wp_walk; exact y)
theorem checkTK {kw : List (Str × Value)} {Q : Unit → Shared → Prop} (hC : IsErr hp C nm q N bs bm sn sub ab col dd k0 k1 k2 k3 k5) (fin : Q () ⟨hp, gs, dr, tk, os⟩) : wpAny (model P w) A (checkBuiltinCall "type.__call__" ⟨[.ref C], kw⟩) Q E ⟨hp, gs, dr, tk, os⟩ := by
  have tcs := tc_sub
  have isT : (⟨hp, gs, dr, tk, os⟩ : Shared).TypeIs (.ref C) "type" := ⟨_, hC, rfl⟩
  simp only [checkBuiltinCall, tc_kind,
    tc_split]
  repeat (any_goals (first | assumption | (with_reducible refine wpAny_loadPart_at hC ?_) | (with_reducible refine wpAny_onRaise ?_) | (with_reducible refine wpAny_map ?_) | wp_step))
theorem callK {kw : List (Str × Value)} (hbm : refsVE bm = true) (hC : IsErr hp C nm q N bs bm sn sub ab col dd k0 k1 k2 k3 k5)
    (hi : Looks (model P w) hp (typeLookup (.ref C) "__init__") (some (.ref N'))) (hb : ∀ self, Looks (model P w) hp (bindSpecial (.ref N') self) (.ref N', [self]))
    (fin : codeAny (model P w) (A.under (.builtin "type.__call__" ⟨[.ref C], kw⟩)) (.call (.ref N') ⟨[.ref (hp.objs.size + 1)], kw⟩) (InitBack (hp.objs.size + 1) R) ⟨(hp.push (kdv_tup [])).push (excO C hp.objs.size), gs, dr, tk, os⟩) :
    codeAny (model P w) A (.call (.ref C) ⟨[], kw⟩) R ⟨hp, gs, dr, tk, os⟩ := by
  have tcl := tc_lookup
  have tcb := tc_bind (.ref C)
  have isT : (⟨hp, gs, dr, tk, os⟩ : Shared).TypeIs (.ref C) "type" := ⟨_, hC, rfl⟩
  refine codeAny_of_tree (?_ : _)
  show wpAny _ _ (callAny (.ref C) _)
    _ _ _
  repeat (any_goals (first | assumption | (with_reducible refine wpAny_loadPart_at hC ?_) | wp_step))
  refine ⟨rfl, ?_⟩
  refine codeAny_call_builtin_at (Code.quiet_builtin _ (by decide +kernel)) entry_typeCall (checkTK hC (typeK hbm hC hi hb ?_))
  refine codeAny_mono fin fun r s2 y => (?_ : _)
  rcases r with x | (v | _ | _ | _) <;> exact y
theorem madeK {K : Frag} {mg mb : Str → Option Value} {fI : Addr} {s : Shared} (T : ErrT P K C fI) {v : Value} (X : K.In s.heap) (hlim : s.heap.NoLimit) (G : s.heap.Ns mainGlobals mg) (B : s.heap.Ns builtinsNs mb) (g0 : mg "super" = none) (b0 : mb "super" = some (.type "super")) (hroom : A.depth + 1 < recursionLimit)
    (fin : ∀ h' tk e d, Made s.heap h' e C d v → R (.ok (.ret (.ref e))) { s with heap := h', toks := tk }) : codeAny (model P w) A (.call (.ref C) ⟨[], [(("what" : Str), v)]⟩) R s := by
  obtain ⟨nm, q, N, bs, bm, sn, sub, ab, col, dd, k0, k1, k2, k3, k5, hC, hbm⟩ := T.cls
  obtain ⟨hp, gs, dr, tk, os⟩ := s
  have up : ∀ b o, hp.get? b = some o → ((hp.push (kdv_tup [])).push (excO C hp.objs.size)).get? b = some o := fun b o e => (Heap.get?_push_of_some _ (Heap.get?_push_of_some _ e))
  have there : ((hp.push (kdv_tup [])).push (excO C hp.objs.size)).get? (hp.objs.size + 1) = some (excO C hp.objs.size) := by heap_get
  have out : K.lookup (hp.objs.size + 1) = none := by
    cases e : K.lookup (hp.objs.size + 1) with
    | none => rfl
    | some o =>
      have l1 : hp.objs.size + 1 < hp.objs.size := Heap.lt_size (X _ _ e)
      omega
  refine callK hbm (X _ _ hC) (looks_findIn X T.init) (fun self => bind_fn X self T.tyI) (?_ : _)
  refine err_initK (s := ⟨(hp.push (kdv_tup [])).push (excO C hp.objs.size), gs, dr, tk, os⟩) T (X.keeps up) (hlim.keeps up) (G.keeps up) (B.keeps up) g0 b0 there out hroom fun h' tk' dx t1 L => (?_ : _)
  have big : hp.objs.size + 1 + 1 ≤ dx := by
    have z := L.dbig
    first
      | exact z
      | simpa only [Heap.size_push] using z
  refine ⟨rfl, fin h' tk' (hp.objs.size + 1) dx ⟨fun b o e => L.keep b o (fun eb => ?_) (up b o e), Nat.le_succ _, ⟨t1, L.obj⟩, Nat.le_trans (Nat.le_add_right _ 2) big, L.dne, L.ns⟩⟩
  subst eb
  have l1 : hp.objs.size + 1 < hp.objs.size := Heap.lt_size e
  omega
end
end ERR
namespace KN
open PySem PySem.Spec PyProof.Rows L2
section
variable {X : Cx} {C fI : Addr}
/-- C(what = e) as a value -/
theorem pe_errVK {nm : Str} {kws : List Keyword} {tk : TA} {p pos : Pos} {k : Nat} (T : ERR.ErrT X.prog X.K C fI) (hm : X.mg nm = some (.ref C)) (g0 : X.mg "super" = none) (hr : Room k X.A) (hkw : PK X kws tk) (hg : Gl X nm := by rfl) (hdb : (nm == ("__debug__" : Str)) = false := by decide)
    (hall : (backToKw pos (keywordEach kws X.env)).all (·.1.isSome) = true := by rfl) (hks : (backToKw pos (keywordEach kws X.env)).filterMap (·.1) = [("what" : Str)] := by rfl)
    (hpl : ((backTo pos (starEach [] X.env)).any (·.1) || (backToKw pos (keywordEach kws X.env)).any (·.1.isNone)) = false := by rfl) : PE X (.Call (.Name nm p) [] kws pos) (tErrV C tk) := by
  refine ⟨fun pins s σ H Q I h => ?_⟩
  refine wpAny_Call_Name_kw (ld_glob I hg hm ?_ hdb)
  refine PySem.W.callWith_KW0 (h₀ := X.base) I.ok.mod.kin T.kC hall ?_ hpl
  refine thn (hkw.run pos pins s σ H _ I h) fun us s1 ⟨vs, H1, I1, r1, v, ev, q1⟩ => ⟨I1.kIn, ?_⟩
  rw [hks]
  subst ev
  obtain ⟨u, rfl, rv⟩ : ∃ u, us = [u] ∧ RelV v u := by
    cases r1 with
    | cons a b => cases b; exact ⟨_, rfl, a⟩
  obtain ⟨mb, hb, hbb⟩ := I1.mod.blt
  have lim := I1.nolimit
  obtain ⟨hp, gs, dr, tk, os⟩ := s1
  refine wpAny_call (ERR.madeK T I1.kIn lim (I1.mod.glob.keeps I1.bk) (hb.keeps I1.bk) g0 ((hbb "super" (by decide)).trans (by rfl)) (by have := hr.dp; omega) fun h' tk' e d M => ?_)
  obtain ⟨J, n1, n2⟩ := made_inv (tk' := tk') I1 M rv
  exact ⟨.ref e, _, J, rfl, q1 d e n1 n2 M.dne⟩
end
end KN
/-! What an own error is, asked by classes above it, beside it, and built in. -/
namespace ERR
open PySem PySem.W PyProof.Rows L2
theorem exm_of {K : Frag} {E S : Addr} (h1 : subIn K (.ref S) (.type "BaseException") = some true) (h2 : isClsIn K S = true) (h3 : typeIn K (.ref S) = some (.type "type")) (h4 : subIn K (.ref E) (.ref S) = some true) :
    exmOne K (.ref E) (.ref S) = some true := by
  have e1 : (subIn K (.ref S) (.type "BaseException") == some true) = true := by rw [h1] <;> rfl
  have e2 : ((clsIn K S).isSome && typeIn K (.ref S) == some (.type "type")) = true := by
    have h2' : (clsIn K S).isSome = true := h2
    rw [h2', h3] <;> rfl
  show (if (subIn K (.ref S) (.type "BaseException") == some true) = true then (if ((clsIn K S).isSome && typeIn K (.ref S) == some (.type "type")) = true then subIn K (.ref E) (.ref S) else none) else none) = some true
  rw [if_pos e1, if_pos e2]
  exact h4
theorem kit_blt {K : Frag} {E : Addr} {T : String} {b : Bool} (hm : kitMeta T = true) (h : subIn K (.ref E) (.type T) = some b) : kitOne K (.ref E) (.type T) = some b := by
  show (if ((Value.ref E) == .type T) = true then some true else (if kitMeta T = true then subIn K (.ref E) (.type T) else none)) = some b
  rw [if_neg (show ¬ ((Value.ref E) == .type T) = true from Bool.false_ne_true), if_pos hm]
  exact h
end ERR
/-! Own errors whose context is None: made, raised and handed on in the layer L2N. -/
namespace KN
open PySem PySem.Spec PyProof.Rows L2
section
variable {X : Cx} {C fI : Addr}
theorem pmk_errN {nm : Str} {a : Expr} {ta : TA} {p pos : Pos} {k : Nat} (T : ERR.ErrT X.prog X.K C fI) (hm : X.mg nm = some (.ref C)) (g0 : X.mg "super" = none) (hr : Room k X.A) (ha : PA X [a] ta) (hg : Gl X nm := by rfl) (hdb : (nm == ("__debug__" : Str)) = false := by decide)
    (he : starEach (a :: []) X.env = (false, eval a X.env) :: starEach [] X.env := by rfl) (hpl : (backTo pos (starEach [] X.env)).any (·.1) = false := by rfl) :
    L2N.PMk X (.Call (.Name nm p) [a] [] pos) (tMkErr C ta) := by
  intro pins s σ H Q I h
  refine wpAny_Call_Name_kw (ld_glob I hg hm ?_ hdb)
  refine PySem.W.callWith_K (h₀ := X.base) I.ok.mod.kin T.kC (thn (ha.run pos pins s σ H _ I h) fun us s1 ⟨vs, H1, I1, r1, v, ev, q1⟩ => ⟨I1.kIn, ?_⟩) he hpl
  subst ev
  obtain ⟨u, rfl, rv⟩ : ∃ u, us = [u] ∧ RelV v u := by
    cases r1 with
    | cons a b => cases b; exact ⟨_, rfl, a⟩
  obtain ⟨mb, hb, hbb⟩ := I1.mod.blt
  have lim := I1.nolimit
  obtain ⟨hp, gs, dr, tk, os⟩ := s1
  refine wpAny_call (ERR.err_made T I1.kIn lim (I1.mod.glob.keeps I1.bk) (hb.keeps I1.bk) g0 ((hbb "super" (by decide)).trans (by rfl)) (by have := hr.dp; omega) fun h' tk' e d M => ?_)
  obtain ⟨t1, hoe⟩ := M.obj
  obtain ⟨G', f1, f2⟩ := restrict h' fun b => decide (b ≠ e)
  have at_ : ∀ b, b ≠ e → G'.get? b = h'.get? b := fun b hb => f1 b (decide_eq_true hb)
  have gone : G'.get? e = none := f2 e (by simp)
  have lt : ∀ b o, hp.get? b = some o → b ≠ e := fun b o q z => by
    have h1 := Heap.lt_size q
    have h2 := M.new
    rw [z] at h1
    exact absurd h1 (Nat.not_lt.mpr h2)
  have ob : ObjOk X.prog X.w (upd H1 d (.xd [(("what" : Str), v)])) G' d (.xd [(("what" : Str), v)]) := ⟨_, M.ns.at (fun o q => (at_ d M.dne).trans q), fun f => relO_what rv f⟩
  have J : Inv X pins σ (upd H1 d (.xd [(("what" : Str), v)])) ⟨G', gs, dr, tk', os⟩ := I1.laid (t' := tk') (fun b o q => (at_ b (lt b o q)).trans (M.keep b o q)) M.dbig ob
  have nA : (upd H1 d (.xd [(("what" : Str), v)])) e = none := by rw [upd_ne (Ne.symm M.dne)]; exact I1.hok.fresh M.new
  refine ⟨e, _, _, ⟨G', gs, dr, tk', os⟩, _, .ref C, some d, rfl, J, fun b o q => ?_, gone, hoe, ⟨rfl, rfl, fun vs q => by cases q; rfl⟩, rfl, rfl, nA, rfl, I1.bare, raises_own T.exC T.tyC, q1 d (I1.hok.fresh M.dbig)⟩
  by_cases hbe : b = e
  · rw [hbe] at q; exact absurd (q.symm.trans gone) (by simp)
  · exact (at_ b hbe).symm.trans q
end
section
variable {P : Program} {w : World} {K : PySem.W.Frag} {mg : Str → Option Value} {base : Heap}
/-- a def that may raise there -/
theorem okN {x qual : Str} {st : Stmt} {f : Addr} {fd : FuncData} {N ps : List Str} {k : Nat} {sp : Sp} (F : Fun K x qual st f fd) (S : FnScope N ps (defScope st)) (len : ∀ vs H Q E, sp vs H Q E → vs.length = ps.length)
    (hbody : ∀ (cdv : Value) (A : Around) (outer : List Env) (s : Shared) (H : Hp) (vs : List V) (Q : VK) (E : XK), Room k (A.deeper (envOfC qual (defScope st) s.heap.objs.size f cdv)) → sp vs H Q E →
      ∃ t, PSs (cxOf (L2N.CX P w) P w K mg base N qual (defScope st) f cdv A outer s H E) (defBody st) t ∧ t { nx := fun _ H' => Q .non H', rt := Q } (start N vs) H) : FnOk P w K mg base (L2N.CX P w) (k + 1) f fd ps sp := by
  obtain ⟨oc, od, kV, doc, pm, an, cdv, ct, osl, rfl, lk, hcd⟩ := F.ex
  exact fn_of lk hcd S len (hbody cdv)
end
end KN
namespace KH
open PySem PySem.Spec PyProof.Rows L2 HotX L2H
section
variable {prog : Program} {w : World} {A : Around} {E : Value → Shared → Prop} {s : Shared}
/-- a StopIteration raised while x1 is handled, asked for by who walks -/
theorem stop_hot {x1 : Addr} {Q : Option Value → Shared → Prop} (hh : A.handled = some (.ref x1)) {o1 : Obj} {vs1 : Array Value} (h1 : s.heap.get? x1 = some o1) (d1 : o1.data = .fields vs1) (c1 : vs1[2]? = some .none) {F : Fin → Shared → Prop} {A' : Around}
    (hk : ∀ h', (∀ b o, s.heap.get? b = some o → h'.get? b = some o) → Q none { s with heap := h' }) :
    wpAny (model prog w) A Builtin.SmallTypes.stopIteration F (fun e s' => wpAny (model prog w) A' (do if ← isInstance e (.type "StopIteration") then pure none else throw e) Q E s') s := by
  show wpAny _ _ (newExc (.type "StopIteration") [] >>= _) _ _ _
  refine wpAny_bind ?_
  simp only [newExc, newTuple]
  refine wpAny_bind (wpAny_newObj_type ?_ (by size_fits))
  refine wpAny_bind (m := firstArgMember _ _) (wpAny_of_eq (a := Value.none) (by first | rfl | (simp only [firstArgMember]; rfl)) ?_)
  refine wpAny_newObj_type ?_ (by size_fits)
  have up : ∀ {b : Addr} {o : Obj}, s.heap.get? b = some o → ∀ {p q : Obj}, ((s.heap.push p).push q).get? b = some o := fun e => Heap.get?_push_of_some _ (Heap.get?_push_of_some _ e)
  refine raiseNew_hot ⟨hh, o1, vs1, up h1, d1, c1⟩ (Nat.ne_of_lt (Heap.lt_size (Heap.get?_push_of_some _ h1))) (Heap.get?_push_size _ rfl) rfl (by first | (simp; done) | (simp; omega) | (simp only [Array.size_append]; simp; omega)) ?_
  refine wpAny_bind (wpAny_isInstance (T := "StopIteration") (b := true) ⟨_, Heap.get?_update_self _ (Heap.get?_push_size _ rfl) rfl, rfl⟩ isSubtype_stop (wpAny_pure (hk _ fun b o e => ?_)))
  rw [Heap.get?_update_other _ _ (Nat.ne_of_gt (Heap.lt_size (Heap.get?_push_of_some _ e)))]
  exact up e
theorem list_end {it l x1 : Addr} {i : Nat} {items : Array Value} {Q : Option Value → Shared → Prop} (hot : HotAt A x1 s.heap) (hne : x1 ≠ it) (hit : s.heap.IsListIter it l i) (hl : s.heap.IsList l items) (hx : items[i]? = none)
    (hQ : ∀ h', Heap.ExtBut it s.heap h' → Q none { s with heap := h' }) : wpAny (model prog w) A (pyNext (.ref it)) Q E s := by
  obtain ⟨o, ho, hc, hd⟩ := id hit
  obtain ⟨ol, hol, _, nl, hdl⟩ := hl
  obtain ⟨hh, o1, vs1, h1, d1, c1⟩ := hot
  unfold pyNext
  refine wpAny_bind (wpAny_attempt (wpAny_callSpecial?_slot (name := Str.ofString "__next__") hit.typeIs slot_listiter_next (wpAny_call_entry slot_listiter_next hit.typeIs entry_listiter_next ?_ (args_listiter_next _))))
  show wpAny _ _ (field (.ref it) 0 >>= _) _ _ s
  refine wpAny_bind (wpAny_field ho hd (x := .ref l) rfl ?_)
  show wpAny _ _ (if (Value.ref l == Value.none) = true then _ else _) _ _ s
  rw [if_neg (show ¬ ((Value.ref l == Value.none) = true) from Bool.false_ne_true)]
  show wpAny _ _ (field (.ref it) 1 >>= _) _ _ s
  refine wpAny_bind (wpAny_field ho hd (x := .int i 0) rfl ?_)
  show wpAny _ _ (seqItems? (.ref l) >>= _) _ _ s
  refine wpAny_bind (wpAny_seqItems hol hdl ?_)
  simp only [Int.toNat_natCast, hx]
  refine wpAny_bind (wpAny_rule (wpAny_bind (wpAny_setField ho hd (by simp) ?_)))
  have other : ∀ b o', b ≠ it → s.heap.get? b = some o' → (s.heap.update it (Obj.mapFields fun x => x.setIfInBounds 0 Value.none)).get? b = some o' := fun b o' n e => by
    rw [Heap.get?_update_other _ _ (Ne.symm n)]; exact e
  exact stop_hot (A := A.in1) (s := { s with heap := s.heap.update it (Obj.mapFields fun x => x.setIfInBounds 0 Value.none) }) hh (other _ _ hne h1) d1 c1 fun h' kp => hQ h' fun b o' n e => kp b o' (other b o' n e)
theorem tup_end {it t x1 : Addr} {i : Nat} {items : Array Value} {Q : Option Value → Shared → Prop} (hot : HotAt A x1 s.heap) (hne : x1 ≠ it) (hit : IsTupIter s.heap it t i) (ht : IsTup s.heap t items) (hx : items[i]? = none)
    (hQ : ∀ h', Heap.ExtBut it s.heap h' → Q none { s with heap := h' }) : wpAny (model prog w) A (pyNext (.ref it)) Q E s := by
  obtain ⟨o, ho, hc, hd⟩ := id hit
  obtain ⟨ol, hol, _, nl, hdl⟩ := ht
  obtain ⟨hh, o1, vs1, h1, d1, c1⟩ := hot
  unfold pyNext
  refine wpAny_bind (wpAny_attempt (wpAny_callSpecial?_slot (name := Str.ofString "__next__") hit.typeIs slot_tupleiter_next (wpAny_call_entry slot_tupleiter_next hit.typeIs entry_tupleiter_next ?_ (args_tupleiter_next _))))
  show wpAny _ _ (field (.ref it) 0 >>= _) _ _ s
  refine wpAny_bind (wpAny_field ho hd (x := .ref t) rfl ?_)
  show wpAny _ _ (if (Value.ref t == Value.none) = true then _ else _) _ _ s
  rw [if_neg (show ¬ ((Value.ref t == Value.none) = true) from Bool.false_ne_true)]
  show wpAny _ _ (field (.ref it) 1 >>= _) _ _ s
  refine wpAny_bind (wpAny_field ho hd (x := .int i 0) rfl ?_)
  show wpAny _ _ (seqItems? (.ref t) >>= _) _ _ s
  refine wpAny_bind (wpAny_seqItems hol hdl ?_)
  simp only [Int.toNat_natCast, hx]
  refine wpAny_bind (wpAny_rule (wpAny_bind (wpAny_setField ho hd (by simp) ?_)))
  have other : ∀ b o', b ≠ it → s.heap.get? b = some o' → (s.heap.update it (Obj.mapFields fun x => x.setIfInBounds 0 Value.none)).get? b = some o' := fun b o' n e => by
    rw [Heap.get?_update_other _ _ (Ne.symm n)]; exact e
  exact stop_hot (A := A.in1) (s := { s with heap := s.heap.update it (Obj.mapFields fun x => x.setIfInBounds 0 Value.none) }) hh (other _ _ hne h1) d1 c1 fun h' kp => hQ h' fun b o' n e => kp b o' (other b o' n e)
/-- a tuple taken apart there -/
theorem unpack_hot {t x1 : Addr} {items : Array Value} {targets : List (Bool × (Value → Sem Unit))} {Q : Unit → Shared → Prop} (hot : HotAt A x1 s.heap) (ht : IsTup s.heap t items) (hn : targets.length = items.size) (hstar : targets.findIdx? (·.1) = none)
    (h : ∀ h', Heap.ExtBut s.heap.objs.size s.heap h' → wpAny (model prog w) A (assignInOrder (targets.map (·.2)) items.toList) Q E { s with heap := h' }) : wpAny (model prog w) A (unpack (.ref t) targets) Q E s := by
  obtain ⟨hh, o1, vs1, h1, d1, c1⟩ := hot
  have hlt : t ≠ s.heap.objs.size := by
    obtain ⟨o, ho, _⟩ := ht
    exact Nat.ne_of_lt (Heap.lt_size ho)
  have hx : x1 ≠ s.heap.objs.size := Nat.ne_of_lt (Heap.lt_size h1)
  unfold unpack
  rw [hn, hstar]
  refine wpAny_bind (wpAny_holding ?_)
  unfold unpackItems
  refine wpAny_bind ?_
  unfold notIterableAtAll
  refine wpAny_bind (wpAny_specialOf ht.typeIs slot_tuple_iter.lookup (wpAny_pure ?_))
  simp only [Bool.false_eq_true, if_false]
  refine wpAny_bind (wpAny_holding (iter_tuple ht (wpAny_bind (wpAny_holding (draw_tuple hlt items.size 0 _ _ ⟨_, Heap.get?_push_size _ rfl, rfl, rfl⟩ (ht.push _) (by omega) fun h₁ hit₁ hs₁ => ?_)))))
  rw [List.drop_zero, List.take_of_length_le (by simp), if_neg (by simp)]
  have k1 : ∀ b o, b ≠ s.heap.objs.size → s.heap.get? b = some o → h₁.get? b = some o := fun b o n e => hs₁.extBut b o n (Heap.get?_push_of_some _ e)
  refine wpAny_bind (wpAny_holding (tup_end ⟨hh, o1, vs1, k1 _ _ hx h1, d1, c1⟩ hx hit₁ ((ht.push _).extBut hs₁.extBut hlt) (by simp) fun h₂ he₂ => ?_))
  simp only [Option.isSome_none, Bool.false_eq_true, if_false]
  exact wpAny_pure (h h₂ fun b o n e => he₂ b o n (k1 b o n e))
end
section
variable {X : Cx} {pos : Pos}
/-- the target of a tuple there -/
theorem pg_tupH {es : List Expr} {k : Nat} {t : TGs} {n : Nat} (hc : HotC X) (h : PGs X es t) (hn : (assignEach es X.env).length = n := by rfl) (hst : (assignEach es X.env).findIdx? (·.1) = none := by rfl) : PG X (.Tuple es k pos) (gTup X.K n t) := by
  refine ⟨fun pins s σ H v u Q I r hw => ?_⟩
  obtain ⟨a, xs, rfl, hq, hl, hw⟩ := hw
  cases r
  obtain ⟨its, rv, ht, hz⟩ := I.tuple hq
  obtain ⟨x1, hot⟩ := hc.at I
  rw [assign_Tuple]
  refine wpAny_bind (wpAny_standAt (unpack_hot hot ht (by simp [hn, ← hl, rv.length]) hst fun h' hx => ?_))
  exact h.run pins _ σ H xs _ Q (I.kept (t' := s.toks) fun b o e => hx b o (Nat.ne_of_lt (Heap.lt_size e)) e) (by simpa using rv) hw
end
theorem walk_listH {P : Program} {w : World} {K : PySem.W.Frag} {tg : Expr} (a it : Addr) : TurnH P w K tg (Itl K a) [it] it (fun i h => h.IsListIter it a i) where
  mem := List.mem_singleton.mpr rfl
  obj := fun i h st b hb => by
    obtain rfl := List.mem_singleton.mp hb
    obtain ⟨o, e, c, d⟩ := st
    exact ⟨o, e, fun v z => by rw [d] at z; cases z⟩
  keep := fun i h h' st k => st.at fun o e => k it (List.mem_singleton.mpr rfl) o e
  item := by
    intro X hP hw hK hc i pins s σ H E I hf st ⟨xs, x, hq, hx⟩
    subst hP hw hK
    obtain ⟨its, rv, p, hz⟩ := I.list hq
    obtain ⟨u, hu, ru⟩ := rv.get hx
    obtain ⟨f0, f1, f2, f3, f4, f5⟩ := hf it (List.mem_singleton.mpr rfl)
    refine wpAny_pyNext_list_item st p.isList (x := u) (by simpa using hu) fun h' st' sb => ?_
    obtain ⟨o, e, c, d⟩ := id st'
    exact ⟨u, rfl, go_of (s := { s with heap := h' }) e c d (by decide) ⟨x, H, I.turned (t' := s.toks) (fun b o n q => (sb.2 b n).trans q) f0 f1 f3 f4 f5, ru, ⟨rfl, fun ys hy => by rw [I.list_inj hy hq]; exact hx⟩, st', fun b hb => (hf b hb).1⟩⟩
  done := by
    intro X hP hw hK hc i pins s σ H E I hf st ⟨xs, hq, hx⟩
    subst hP hw hK
    obtain ⟨its, rv, p, hz⟩ := I.list hq
    obtain ⟨f0, f1, f2, f3, f4, f5⟩ := hf it (List.mem_singleton.mpr rfl)
    have hl := rv.length
    obtain ⟨q, ⟨hh, v1, e1, c1⟩, hp⟩ := hc
    have hm := List.mem_append_left pins hp
    exact list_end ⟨hh, q.2, v1, (I.pin q hm).1, e1, c1⟩ (f5 q hm) st p.isList (by simp; omega) fun h' eb => ⟨rfl, I.turned (t' := s.toks) (fun b o n e => eb b o n e) f0 f1 f3 f4 f5⟩
  self := fun _ _ _ _ _ st h => wpAny_pyIter_listiter st h
section
variable {X : Cx} {tg : Expr}
theorem pi_listH {l : Expr} {tl : TE} (hl : PE X l tl) : PIH X tg l (iList X.K tl) := by
  refine ⟨fun pins s σ H R I h => thn (hl.run pins s σ H _ I h) fun v s1 ⟨x, H1, I1, r1, a, ex, ⟨xs, hq⟩, q⟩ => ?_⟩
  subst ex
  cases r1
  obtain ⟨its, rv, p, hz⟩ := I1.list hq
  refine wpAny_pyIter_list p.isList ⟨s1.heap.objs.size, [s1.heap.objs.size], _, _, H1, rfl, I1.kept (t' := s1.toks) fun b o e => Heap.get?_push_of_some _ e, walk_listH a _, ⟨_, Heap.get?_push_size _ rfl, rfl, rfl⟩, fun b hb => ?_, q⟩
  obtain rfl := List.mem_singleton.mp hb
  exact I1.fpOk (Nat.le_refl _) (I1.hok.fresh (Nat.le_refl _))
end
/-- a block's context that keeps what is handled -/
abbrev blkH (X : Cx) (s : Shared) (H : Hp) (scope : Scope) (cenv : Env) (fp : List Addr) : Cx := { X.blk s H scope cenv fp with pn := X.pn }
theorem blk_ok {X : Cx} {s : Shared} {H : Hp} {scope : Scope} {ce : Env} {fp : List Addr} (o : (X.blk s H scope ce fp).Ok) : (blkH X s H scope ce fp).Ok :=
  ⟨o.mod, o.kind, o.glob, o.blt, o.above, o.inj, o.has, o.cab, o.hd, o.frames, o.stk, o.exf, o.bs, o.bsz, o.noex, o.exfs, o.funs, o.frf⟩
theorem blk_inv {X : Cx} {s s' : Shared} {H : Hp} {scope : Scope} {ce : Env} {fp : List Addr} {σ σ' : L2.St} {pins : List (Addr × Obj)} (I : Inv X pins σ H s) (J : Inv (X.blk s H scope ce fp) [] σ' H s') (hk : ∀ b o, s.heap.get? b = some o → s'.heap.get? b = some o) (hc : ce.locals = s.heap.objs.size) : Inv (blkH X s H scope ce fp) [] σ' H s' := by
  refine ⟨blk_ok J.ok, J.os, J.bare, J.base, J.loc, J.cell, J.free, J.freeC, fun p hp => ?_, J.hok, J.len⟩
  have hp' : p ∈ X.pn ++ pins := by
    rw [show (blkH X s H scope ce fp).pn ++ [] = X.pn from List.append_nil _] at hp
    exact List.mem_append_left _ hp
  obtain ⟨h1, h2, h3, h4, h5⟩ := I.pin p hp'
  refine ⟨hk _ _ h1, h2, ?_, fun z => ?_, h5⟩
  · show p.1 ≠ ce.locals
    rw [hc]; exact Nat.ne_of_lt (Heap.lt_size h1)
  · rcases List.mem_cons.mp (I.stkSub p.1 z) with z | z
    · exact h3 z
    · exact h4 z
section
variable {X : Cx}
/-- a list comprehension within an except suite -/
theorem lc_hot {pins : List (Addr × Obj)} {s : Shared} {σ : L2.St} {H : Hp} {Q : VK} {elt tg iter : Expr} {ifs : List Expr} {scope : Scope} {own : List (Str × Nat)} {pos pos' : Pos} {wi : TI} {g : TG} {tt : TT} {te : TE} {use : Option (Value → Sem Unit)} {Qf : Value → Shared → Prop}
    (hc : HotC X) (hN : X.N.Nodup) (I : Inv X pins σ H s) (hi : PIH X tg iter wi) (ok : BlkOk X.N X.env.scope scope own)
    (hg : ∀ s H C cl fp, PG (blkH X s H scope (compEnvC scope cl C X.env) fp) tg g) (ht : ∀ s H C cl fp, PTs (blkH X s H scope (compEnvC scope cl C X.env) fp) ifs tt) (he : ∀ s H C cl fp, PE (blkH X s H scope (compEnvC scope cl C X.env) fp) elt te)
    (hs : ∀ x, foldedSetIterable iter X.env x = pure x) (h : tLc wi g tt te (own.map (·.2)) σ H Q)
    (hR : ∀ D C s' m H', Inv X pins σ H' s' → Q (.ref D) H' → s'.heap.Ns C m → FpOk X pins H' C → compPost (model X.prog X.w) X.A X.xe use Qf (.ref D) C (.ok .next) s') :
    wpAny (model X.prog X.w) X.A (comprehension (.ListComp elt [⟨tg, iter, ifs, 0⟩] scope pos) scope X.env pos' (newList []) false (eval iter X.env) use) Qf X.xe s := by
  have hfree : ∀ y ∈ scope.names, y.2 = .free → ∃ c, X.env.cells.lookup y.1 = some c := fun y hy e => (ok.free y hy e).elim (fun k => I.ok.has _ (.inl k)) fun k => I.ok.has _ (.inr k)
  refine wpAny_comprehension_free (use := use) rfl hs (closure_ok hfree) ok.kind (fun y hy e => by rw [ok.uniq y hy, e]) (thn (hi.run pins s σ H _ I h) fun xv s1 hx => thn hx fun itv s2 ⟨it, fp, tn, J, H2, e, I2, T, st2, f2, q⟩ => ?_)
  subst e
  refine wpAny_newObj_type (newEnv_comp ?_) (by show 0 ≤ sizeLine; decide)
  obtain ⟨D, hD⟩ : ∃ D, D = s2.heap.objs.size := ⟨_, rfl⟩
  rw [← hD]
  have hDn : H2 D = none := I2.hok.fresh (Nat.le_of_eq hD.symm)
  obtain ⟨W, ⟨m0, w0⟩, turn⟩ := q D hDn
  obtain ⟨s3, hs3⟩ : ∃ s3 : Shared, s3 = { s2 with heap := s2.heap.push { cls := .type "list", data := .seq ([] : List Value).toArray } } := ⟨_, rfl⟩
  have h3 : s3.heap = s2.heap.push { cls := .type "list", data := .seq ([] : List Value).toArray } := by rw [hs3]
  have k3 : ∀ b o, s2.heap.get? b = some o → s3.heap.get? b = some o := fun b o e => by rw [h3]; exact Heap.get?_push_of_some _ e
  have I3 : Inv X pins σ (upd H2 D (.lst [])) s3 := by
    rw [hs3]
    refine I2.laid (t' := s2.toks) (fun b o e => Heap.get?_push_of_some _ e) (Nat.le_of_eq hD.symm) ⟨Nat.zero_le _, [], 0, .nil, ?_⟩
    rw [hD]
    exact Heap.get?_push_size _ rfl
  have f3 : ∀ b ∈ fp, FpOk X pins (upd H2 D (.lst [])) b ∧ b < s3.heap.objs.size := fun b hb => by
    obtain ⟨o, e, _⟩ := T.obj _ _ st2 b hb
    exact ⟨⟨(upd_ne (by rw [hD]; exact Nat.ne_of_lt (Heap.lt_size e))).trans (f2 b hb).1, (f2 b hb).2⟩, Heap.lt_size (k3 b o e)⟩
  have st3 : tn 0 s3.heap := T.keep _ _ _ st2 fun b _ o e => k3 b o e
  have I4' := block_start I3 ok hN f3
  have pg := hg s3 (upd H2 D (.lst [])) s3.heap.objs.size (cellsFrom (s3.heap.objs.size + 1) scope.names (cloFrom X.env.cells scope.names [])) fp
  have pt := ht s3 (upd H2 D (.lst [])) s3.heap.objs.size (cellsFrom (s3.heap.objs.size + 1) scope.names (cloFrom X.env.cells scope.names [])) fp
  have pe := he s3 (upd H2 D (.lst [])) s3.heap.objs.size (cellsFrom (s3.heap.objs.size + 1) scope.names (cloFrom X.env.cells scope.names [])) fp
  have k4 : ∀ b o, s3.heap.get? b = some o → (pushCells (s3.heap.push { cls := .type "dict", data := .dict #[] }) scope.names).get? b = some o := fun b o e => pushCells_keeps _ _ _ _ (Heap.get?_push_of_some _ e)
  have I4 := blk_inv I3 I4' (fun b o e => k4 b o e) rfl
  clear I4'
  rw [hs3.symm.trans rfl] 
  show codeAny _ _ (.compStart (.ListComp elt [⟨tg, iter, ifs, 0⟩] scope pos) 0 (.ref it) (.ref D) (compEnvC scope (cellsFrom (s3.heap.objs.size + 1) scope.names (cloFrom X.env.cells scope.names [])) s3.heap.objs.size X.env)) (compPost (model X.prog X.w) X.A X.xe use Qf (.ref D) s3.heap.objs.size) { s3 with heap := pushCells (s3.heap.push { cls := .type "dict", data := .dict #[] }) scope.names }
  have nfp : ∀ b ∈ fp, (upd H2 D (.lst [])) b = none := fun b hb => (f3 b hb).1.1
  generalize hce : compEnvC scope (cellsFrom (s3.heap.objs.size + 1) scope.names (cloFrom X.env.cells scope.names [])) s3.heap.objs.size X.env = ce at I4 pg pt pe ⊢
  have cL : ce.locals = s3.heap.objs.size := by rw [← hce]; rfl
  generalize upd H2 D (.lst []) = H3 at I3 I4 pg pt pe w0 nfp f3
  obtain ⟨s4, hs4⟩ : ∃ s4 : Shared, s4 = { s3 with heap := pushCells (s3.heap.push { cls := .type "dict", data := .dict #[] }) scope.names } := ⟨_, rfl⟩
  have st4 : tn 0 s4.heap := T.keep _ _ _ st3 fun b _ o e => by rw [hs4]; exact k4 b o e
  rw [← hs4] at I4 ⊢
  have hot : HotC (blkH X s3 H3 scope ce fp) := hc
  have stat : ∀ {σ' : L2.St} {H' : Hp} {s' : Shared}, Inv (blkH X s3 H3 scope ce fp) [] σ' H' s' → (∀ b ∈ fp, H' b = none) → ∀ b ∈ fp, FpOk (blkH X s3 H3 scope ce fp) [] H' b := fun {σ' H' s'} J hn b hb =>
    ⟨hn b hb, (J.ok.exf b hb).1, J.ok.exfs b hb, .inl hb, fun x c e => (J.ok.exf b hb).2 x c e, fun p hp => (f3 b hb).1.2.2.2.2.2 p (by
      rw [show (blkH X s3 H3 scope ce fp).pn ++ [] = X.pn from List.append_nil _] at hp
      exact List.mem_append_left _ hp)⟩
  have loop : codeAny (model X.prog X.w) X.A (.compLoop (.ListComp elt [⟨tg, iter, ifs, 0⟩] scope pos) 0 (.ref it) (.ref D) ce) (compPost (model X.prog X.w) X.A X.xe use Qf (.ref D) s3.heap.objs.size) s4 := by
    refine compLoop_any (fun n s' => ∃ i H', Inv (blkH X s3 H3 scope ce fp) [] (wipe σ (own.map (·.2))) H' s' ∧ tn i s'.heap ∧ (∀ b ∈ fp, H' b = none) ∧ W i n H') ?_ m0 ⟨0, H3, I4, st4, nfp, w0⟩
    rintro n s5 ⟨i, H5, I5, st5, n5, w5⟩
    rcases turn i n H5 w5 with ⟨stop, qq⟩ | ⟨go, Nx, hNx, step⟩
    · refine thnF (T.done (blkH X s3 H3 scope ce fp) rfl rfl rfl hot i [] s5 _ H5 (fun _ _ => False) I5 (stat I5 n5) st5 stop) fun r s6 ⟨hr, I6⟩ => ?_
      subst hr
      have I7 : Inv X pins σ H5 s6 := I3.call' (ch := fp) I6.os I6.base I6.hok I6.bare fun b hb => ⟨(f3 b hb).1.2.2.2.1, (f3 b hb).1.2.1, (f3 b hb).1.2.2.2.2.1, (f3 b hb).1.2.2.2.2.2⟩
      have nC : H5 ce.locals = none := I6.free
      obtain ⟨m, hn, _⟩ := I6.loc
      replace hn : s6.heap.Ns ce.locals m := hn
      rw [cL] at hn nC
      exact hR D s3.heap.objs.size s6 m H5 I7 qq hn (I3.fpOk (Nat.le_refl _) nC)
    · refine thnF (T.item (blkH X s3 H3 scope ce fp) rfl rfl rfl hot i [] s5 _ H5 (fun _ _ => False) I5 (stat I5 n5) st5 go) fun r s6 ⟨u, hr, h6⟩ => ?_
      subst hr
      refine thnF h6 fun _ s7 ⟨x, H7, I7, r7, y7, st7, n7⟩ => ?_
      refine thnF (pg.run _ s7 _ H7 x u _ (I7.pinned (stat I7 n7) (T.obj _ _ st7)) r7 (step x H7 y7)) fun _ s8 ⟨σ8, H8, I8, hw8, q8⟩ => ?_
      refine thnF (pt.run _ s8 σ8 H8 _ I8 q8) fun b s9 ⟨H9, I9, q9⟩ => ?_
      have fin : ∀ {s' : Shared} {H' : Hp}, Inv (blkH X s3 H3 scope ce fp) ([] ++ pinsAt fp s7.heap) σ8 H' s' → Nx H' → ∃ m, m < n ∧ ∃ i H', Inv (blkH X s3 H3 scope ce fp) [] (wipe σ (own.map (·.2))) H' s' ∧ tn i s'.heap ∧ (∀ b ∈ fp, H' b = none) ∧ W i m H' := fun {s' H'} J nx => by
        obtain ⟨m', hm, w'⟩ := hNx H' nx
        have pin' : ∀ b ∈ fp, ∀ o, s7.heap.get? b = some o → s'.heap.get? b = some o ∧ H' b = none := fun b hb o e =>
          ⟨(J.pin (b, o) (List.mem_append_right _ (List.mem_append_right _ (mem_pinsAt hb e)))).1, (J.pin (b, o) (List.mem_append_right _ (List.mem_append_right _ (mem_pinsAt hb e)))).2.1⟩
        refine ⟨m', hm, i + 1, H', (J.unpinned (pins := [])).weak (by rw [← hw8, wipe_length]) (fun j v e => ?_), T.keep _ _ _ st7 fun b hb o e => (pin' b hb o e).1, fun b hb => ?_, w'⟩
        · rw [← hw8] at e
          exact (wipe_some e).1
        · obtain ⟨o, e, _⟩ := T.obj _ _ st7 b hb
          exact (pin' b hb o e).2
      cases b with
      | false => exact fin I9 q9
      | true =>
        refine thnF (pe.run _ s9 σ8 H9 _ I9 q9) fun z s10 ⟨yv, H10, I10, r10, acc, hD10, hz10, nx⟩ => ?_
        exact app_ok (X := blkH X s3 H3 scope ce fp) I10 hD10 hz10 r10 fun s11 I11 => fin I11 nx
  exact codeAny_compStart_list loop (T.self X.A 0 _ _ _ st4 loop)
theorem pe_lcH {elt tg iter : Expr} {ifs : List Expr} {scope : Scope} {own : List (Str × Nat)} {pos : Pos} {wi : TI} {g : TG} {tt : TT} {te : TE} (hc : HotC X) (hN : X.N.Nodup) (hi : PIH X tg iter wi) (ok : BlkOk X.N X.env.scope scope own)
    (hg : ∀ s H C cl fp, PG (blkH X s H scope (compEnvC scope cl C X.env) fp) tg g) (ht : ∀ s H C cl fp, PTs (blkH X s H scope (compEnvC scope cl C X.env) fp) ifs tt) (he : ∀ s H C cl fp, PE (blkH X s H scope (compEnvC scope cl C X.env) fp) elt te)
    (hs : ∀ x, foldedSetIterable iter X.env x = pure x := by intro _; rfl) : PE X (.ListComp elt [⟨tg, iter, ifs, 0⟩] scope pos) (tLc wi g tt te (own.map (·.2))) := by
  refine ⟨fun pins s σ H Q I h => ?_⟩
  rw [eval_ListComp]
  refine lc_hot hc hN I hi ok hg ht he hs h fun D C s' m H' J q hn ⟨f0, f1, f2, f3, f4, f5⟩ => ⟨m, hn, fun h'' sb => ⟨.ref D, H', J.turned (t' := s'.toks) (fun b o n e => (sb.2 b n).trans e) f0 f1 f3 f4 f5, rfl, q⟩⟩
end
end KH
namespace KH
open PySem PySem.Spec PyProof.Rows L2 HotX L2H
/-! ### the error that is handled, asked within the suite and in defs called from it -/
/-- it stands at p, of the class at C, its fields fs -/
def HeldP (K : PySem.W.Frag) (p : Addr × Obj) (H : Hp) (a C : Addr) (fs : List (Str × V)) : Prop := ∃ dd, a = p.1 ∧ Zc (.ref C) (some dd) p.2 ∧ (∃ vs, p.2.data = .fields vs) ∧ H dd = some (.xd fs) ∧ EK.ExF K C
theorem HeldP.same {K : PySem.W.Frag} {p : Addr × Obj} {H H' : Hp} {a C : Addr} {fs : List (Str × V)} (h : HeldP K p H a C fs) (S : Same H H') : HeldP K p H' a C fs := by
  obtain ⟨dd, h1, h2, h3, h4, h5⟩ := h
  exact ⟨dd, h1, h2, h3, S _ _ h4, h5⟩
section
variable {X : Cx} {K : PySem.W.Frag} {p : Addr × Obj}
theorem HeldP.at {pins : List (Addr × Obj)} {σ : L2.St} {H : Hp} {s : Shared} {a C : Addr} {fs : List (Str × V)} (h : HeldP X.K p H a C fs) (hp : p ∈ X.pn) (I : Inv X pins σ H s) :
    ∃ oe od, PySem.W.InstAt s.heap a oe C (some od) ∧ ∀ f v, fs.lookup f = some v → ∃ u, PySem.W.lookIn f od = some (some u) ∧ RelV v u := by
  obtain ⟨dd, rfl, z, ⟨vs, dt⟩, h2, F⟩ := h
  have e := (I.pin p (List.mem_append_left _ hp)).1
  obtain ⟨mA, hns, hr⟩ : ObjOk X.prog X.w H s.heap dd (.xd fs) := I.hok dd _ h2
  obtain ⟨od, ho, hl⟩ := lookIn_ns hns
  refine ⟨p.2, od, ⟨e, z.1, by unfold PySem.W.notCls; rw [dt] <;> rfl, by rw [z.2]; exact ho⟩, fun f v l => ?_⟩
  obtain ⟨u, hu, ru⟩ := RelO.some_of (v := v) (o := mA f) (by rw [← l]; exact hr f)
  exact ⟨u, by rw [hl, hu], ru⟩
def rIsiP (K : PySem.W.Frag) (p : Addr × Obj) : List V → Hp → VK → Prop := fun xs H Q => ∃ (a C : Addr) (fs : List (Str × V)) (c : V) (u : Value) (b : Bool), xs = [.ref a, c] ∧ HeldP K p H a C fs ∧ ClsV c u ∧ PySem.W.kitOne K (.ref C) u = some b ∧ Q (.bl b) H
theorem call_isiP (hp : p ∈ X.pn) (h : X.K = K := by rfl) : CallR X (.builtin "isinstance") (rIsiP K p) := by
  subst h
  intro pins s σ H xs us Q I r h
  obtain ⟨a, C, fs, c, u, b, rfl, hh, k, e, q⟩ := h
  obtain ⟨u1, u2, rfl, r1, r2⟩ := vals2 r
  cases (show u1 = Value.ref a from r1)
  have e2 := k.eq r2
  subst e2
  obtain ⟨oe, od, J, _⟩ := hh.at hp I
  obtain ⟨_, _, _, _, _, F⟩ := hh
  exact PySem.W.kia_one (PySem.W.kitx_exc F.cl F.ga F.gg F.exC F.ha F.hn F.htk F.hm) I.kIn J e (fun z => nomatch z) fun tk => ⟨.bl b, H, I.tok tk, rfl, q⟩
def tExP (K : PySem.W.Frag) (p : Addr × Obj) (f : Str) (te : TE) : TE := fun σ H Q => te σ H fun x H1 => ∃ (a C : Addr) (fs : List (Str × V)) (v : V), x = .ref a ∧ HeldP K p H1 a C fs ∧ PySem.W.findIn K (.ref C) f = some none ∧ fs.lookup f = some v ∧ Q v H1
theorem pe_exP {e : Expr} {te : TE} {pos : Pos} {n : Str} (hp : p ∈ X.pn) (he : PE X e te) (hb : attributeBase e n X.env (eval e X.env) = eval e X.env := by rfl) (h : X.K = K := by rfl) : PE X (.Attribute e n pos) (tExP K p n te) := by
  subst h
  refine ⟨fun pins s σ H Q I h => attr_of hb (thn (he.run pins s σ H _ I h) fun u s1 ⟨x, H1, I1, rx, a, C, fs, v, ex, hd, hno, l, q⟩ => ?_)⟩
  subst ex
  obtain rfl : u = Value.ref a := rx
  obtain ⟨oe, od, J, hl⟩ := hd.at hp I1
  obtain ⟨_, _, _, _, _, F⟩ := hd
  obtain ⟨u, hu, ru⟩ := hl _ _ l
  exact HandSPX.exc_get I1.kIn J F.ga F.gg F.exC (PySem.W.findObj_own F.hdC hno rfl hu) (handed_of ru) ⟨v, H1, I1.tok _, ru, q⟩
end
theorem tupH {X : Cx} {K : PySem.W.Frag} {es : List Expr} {k : Nat} {t : TGs} {n : Nat} {pos : Pos} (hc : HotC X) (h1 : PGs X es t) (hn : (assignEach es X.env).length = n := by rfl) (hst : (assignEach es X.env).findIdx? (·.1) = none := by rfl) (h : X.K = K := by rfl) : PG X (.Tuple es k pos) (gTup K n t) := by
  subst h; exact pg_tupH hc h1 hn hst
/-! ### a def called there, told of the error that is handled -/
structure FnE (P : Program) (w : World) (K : PySem.W.Frag) (mg : Str → Option Value) (base : Heap) (CX : CXT) (k : Nat) (f : Addr) (fd : FuncData) (ps : List Str) (sp : Addr × Obj → Sp) : Prop where
  one : ∀ p₀, ∀ (A : Around) (outer : List Env) (s : Shared) (H : Hp) (args : Args) (us : List Value) (vs : List V) (Q : VK) (E : XK), RoomH k A → Hot1 A p₀ → PinOk outer H s p₀ → Env0 P w K mg base A outer s H → BindsTo s fd args (ps.zip us) → Vals vs us → sp p₀ vs H Q E → codeAny (model P w) A (.call (.ref f) args) (CR CX outer P w H s Q E) s
  len : ∀ p vs H Q E, sp p vs H Q E → vs.length = ps.length
section
variable {P : Program} {w : World} {K : PySem.W.Frag} {mg : Str → Option Value} {base : Heap}
theorem okE {CX : CXT} {x qual : Str} {st : Stmt} {f : Addr} {fd : FuncData} {N ps : List Str} {k : Nat} {sp : Addr × Obj → Sp} (F : Fun K x qual st f fd) (S : FnScope N ps (defScope st)) (len : ∀ p vs H Q E, sp p vs H Q E → vs.length = ps.length)
    (hbody : ∀ (cdv : Value) (A : Around) (outer : List Env) (s : Shared) (H : Hp) (vs : List V) (Q : VK) (E : XK) (p : Addr × Obj), Hot1 A p → RoomH k (A.deeper (envOfC qual (defScope st) s.heap.objs.size f cdv)) → sp p vs H Q E →
      ∃ t, PSs (cxH CX P w K mg base N qual (defScope st) f cdv A outer s H E p) (defBody st) t ∧ t { nx := fun _ H' => Q .non H', rt := Q } (L2.start N vs) H) : FnE P w K mg base CX (k + 1) f fd ps sp := by
  obtain ⟨oc, od, kV, doc, pm, an, cdv, ct, osl, rfl, lk, hcd⟩ := F.ex
  refine ⟨fun p A outer s H args us vs Q E hr hot hpin e0 hb r hsp => ?_, len⟩
  have up := fun b o e => (e0.bs b o e).1
  have KX : K.In s.heap := e0.mod.kin.keeps up
  have names : ∀ y ∈ ps.zip us, (defScope st).names.lookup y.1 = some .local ∨ ((defScope st).names.lookup y.1 = some .cell ∧ ((cellsFrom (s.heap.objs.size + 1) (defScope st).names []).lookup y.1).isSome = true) := fun y hy =>
    (S.par y.1 (List.of_mem_zip (a := y.1) (b := y.2) hy).1).elim .inl fun q => .inr ⟨q, PySem.W.cellsFrom_some _ _ _ (.inl q)⟩
  refine codeAny_call_function hr.depth (KX _ _ lk) rfl S.co S.gen rfl (PySem.W.codeRec_of KX hcd) (hb _ _ _ _ (wpAny_newFunctionEnv_cells S.kind names fun env he s1 x => ?_))
  subst he
  refine ⟨(e0.mod.nolimit.keeps up).keeps x.toInCall.keep, codeAny_func ?_⟩
  obtain ⟨t, ht, hq⟩ := hbody cdv A outer s H vs Q E p hot (hr.deeper _) hsp
  refine wpAny_mono (ht.run [] s1 (L2.start N vs) H _ (inv_startH S hpin e0 (len _ _ _ _ _ hsp) r x) hq) (fun fl s' hs => ?_) fun e s' hs => hs
  cases fl with
  | ret u =>
    obtain ⟨v, σ', H', J, rv, q⟩ := hs
    exact ⟨v, H', J.os, J.bare, J.base, J.hok, rv, q⟩
  | next =>
    obtain ⟨σ', H', J, q⟩ := hs
    exact ⟨.non, H', J.os, J.bare, J.base, J.hok, rfl, q⟩
  | brk => exact hs.elim fun _ z => z.elim fun _ z => z.2.elim
  | cont => exact hs.elim fun _ z => z.elim fun _ z => z.2.elim
end
section
variable {X : Cx} {CX : CXT} {k : Nat} {f : Addr} {fd : FuncData} {ps : List Str} {sp : Addr × Obj → Sp} {E : L2.St → XK} {x : Str} {q pos : Pos} {e : Expr} {es : List Expr} {t : TA}
theorem pe_callE {p : Addr × Obj} (F : FnE X.prog X.w X.K X.mg X.base CX k f fd ps sp) (hr : RoomH k X.A) (hot : Hot1 X.A p) (hp : p ∈ X.pn) (hg : Gl X x) (hm : X.mg x = some (.ref f)) (hk : PySem.W.keepIn X.K (.ref f) = true) (hb : Binds X.K fd ps []) (hx : ∀ σ, PassesAt CX X σ (E σ)) (ha : PA X (e :: es) t)
    (hdb : (x == ("__debug__" : Str)) = false := by decide) (he : starEach (e :: es) X.env = (false, eval e X.env) :: starEach es X.env := by rfl) (hpl : (backTo pos (starEach es X.env)).any (·.1) = false := by rfl) :
    PE X (.Call (.Name x q) (e :: es) [] pos) (tCallS (sp p) E t) := by
  refine ⟨fun pins s σ H Q I h => wpAny_Call_Name_kw (ld_glob I hg hm ?_ hdb)⟩
  refine PySem.W.callWith_K (h₀ := X.base) I.ok.mod.kin hk (thn (ha.run pos pins s σ H _ I h) fun us s1 ⟨vs, H1, I1, r, w⟩ => ⟨I1.kIn, ?_⟩) he hpl
  have b := hb s1 us I1.kIn (by rw [List.append_nil, ← r.length]; exact F.len _ _ _ _ _ w)
  rw [List.append_nil] at b
  obtain ⟨p1, p2, p3, p4, p5⟩ := I1.pin p (List.mem_append_left _ hp)
  refine wpAny_call (codeAny_mono (F.one p X.A X.stack s1 H1 ⟨us, []⟩ us vs Q (E σ) hr hot ⟨p1, p2, fun hm => (List.mem_cons.mp (I1.stkSub p.1 hm)).elim p3 p4, p5⟩ I1.env0 b r w) fun rr s' hq => ?_)
  cases rr with
  | error er => exact hx σ pins H1 s1 er s' I1 hq
  | ok fl =>
    cases fl with
    | ret u => exact I1.after hq
    | next => exact hq.elim
    | brk => exact hq.elim
    | cont => exact hq.elim
end
end KH
/-! Calls by keywords, in any order, with defaults: functions, methods, classes. -/
namespace KW
open PySem PySem.Spec PyProof.Rows L2 DP
/-- those of a list that stand at these places -/
def pick {α : Type} (is : List Nat) (l : List α) : List α := is.filterMap fun i => l[i]?
theorem vals_at : ∀ {vs : List V} {us : List Value} (r : Vals vs us) (i : Nat), (vs[i]? = none ∧ us[i]? = none) ∨ ∃ v u, vs[i]? = some v ∧ us[i]? = some u ∧ RelV v u
  | _, _, .nil, i => .inl ⟨by simp, by simp⟩
  | _, _, .cons h t, 0 => .inr ⟨_, _, rfl, rfl, h⟩
  | _, _, .cons h t, i + 1 => by simpa using vals_at t i
theorem pick_rel {vs : List V} {us : List Value} (r : Vals vs us) : ∀ is : List Nat, Vals (pick is vs) (pick is us)
  | [] => .nil
  | i :: is => by
    unfold pick
    rw [List.filterMap_cons, List.filterMap_cons]
    rcases vals_at r i with ⟨e1, e2⟩ | ⟨v, u, e1, e2, h⟩
    · rw [e1, e2]; exact pick_rel r is
    · rw [e1, e2]; exact .cons h (pick_rel r is)
/-- positional values, then the rest out of the keywords' values and the defaults -/
def gk {α : Type} (is : List Nat) (ds us ws : List α) : List α := us ++ pick is (ws ++ ds)
theorem gk_rel {is : List Nat} {dv vs zs : List V} {ds us ws : List Value} (rd : Vals dv ds) (r : Vals vs us) (rz : Vals zs ws) : Vals (gk is dv vs zs) (gk is ds us ws) := r.append (pick_rel (rz.append rd) is)
/-- all parameters are given -/
theorem kbn0 {K : PySem.W.Frag} {fd : FuncData} {ps ks : List Str} {n : Nat} (is : List Nat) (h : ∀ us ws : List Value, us.length = n → ws.length = ks.length → bindArgs fd ⟨us, ks.zip ws⟩ = pure (ps.zip (gk is [] us ws))) : KBn K fd ps n ks (gk is []) (gk is []) :=
  ⟨fun s us ws _ h1 h2 => .of_eq (h us ws h1 h2), fun r rz => gk_rel .nil r rz⟩
section
variable {K : PySem.W.Frag} {x qual : Str} {params : Arguments} {body : List Stmt} {scope : Scope} {dvs : List V} {f : Addr} {fd : FuncData} {ps : List Str}
/-- the lacking ones stand among the defaults -/
theorem kbnD (F : FunD K x qual params body scope dvs [] f fd) (n : Nat) (ks : List Str) (is : List Nat) (hd : dvs ≠ [])
    (h : ∀ (T : Addr) (kV doc pm : Value) (an : Option Addr) (cdv ct : Value) (us its ws : List Value), us.length = n → its.length = dvs.length → ws.length = ks.length →
      ∃ k, bindArgs (PySem.W.fnOf x qual params body scope (.ref T) kV doc pm an cdv ct) ⟨us, ks.zip ws⟩ = seqItems? (.ref T) >>= k ∧ k (some its.toArray) = pure (ps.zip (gk is its us ws))) : ∃ its : List Value, KBn K fd ps n ks (gk is its) (gk is dvs) := by
  obtain ⟨oc, od, dV, kV, doc, pm, an, cdv, ct, osl, rfl, lk, hcd, hD, hK⟩ := F.ex
  rcases hD with ⟨e, _⟩ | ⟨_, T, o, its, m, rfl, lT, oT, rT⟩
  · exact absurd e hd
  · refine ⟨its, fun s us ws X l1 l2 => ?_, fun r rz => gk_rel rT r rz⟩
    obtain ⟨k, e1, e2⟩ := h T kV doc pm an cdv ct us its ws l1 rT.length.symm l2
    refine BindsTo.of_looks fun M => ?_
    rw [e1]
    exact looks_items X lT oT (.of_pure e2)
end
section
variable {X : Cx} {CX : CXT} {k : Nat} {f C : Addr} {fd : FuncData} {ps ks : List Str} {sp : Sp} {E : XK} {x m : Str} {p pos apos : Pos} {o : Expr} {kws : List Keyword} {ta : TE} {tk : TA} {g : List Value → List Value → List Value} {gV : List V → List V → List V}
def tCallN0 (c : Nat) (sp : Sp) (gV : List V → List V → List V) (E : XK) (tk : TA) : TE := fun σ H Q => tk σ H fun zs H2 => zs.length = c ∧ sp (gV [] zs) H2 Q E
/-- f(k = v, ..) -/
theorem pe_callN0 (F : FnOk X.prog X.w X.K X.mg X.base CX k f fd ps sp) (hr : Room k X.A) (hg : Gl X x) (hm : X.mg x = some (.ref f)) (hk : PySem.W.keepIn X.K (.ref f) = true) (hb : KBn X.K fd ps 0 ks g gV) (hx : Passes CX X E) (hkw : PK X kws tk)
    (hall : (backToKw pos (keywordEach kws X.env)).all (·.1.isSome) = true := by rfl) (hks : (backToKw pos (keywordEach kws X.env)).filterMap (·.1) = ks := by rfl) (hdb : (x == ("__debug__" : Str)) = false := by decide)
    (hpl : ((backTo pos (starEach [] X.env)).any (·.1) || (backToKw pos (keywordEach kws X.env)).any (·.1.isNone)) = false := by rfl) :
    PE X (.Call (.Name x p) [] kws pos) (tCallN0 ks.length sp gV E tk) := by
  refine ⟨fun pins s σ H Q I h => ?_⟩
  refine wpAny_Call_Name_kw (ld_glob I hg hm ?_ hdb)
  refine PySem.W.callWith_KW0 (h₀ := X.base) I.ok.mod.kin hk hall ?_ hpl
  refine thn (hkw.run pos pins s σ H _ I h) fun ws s2 ⟨zs, H2, I2, rz, l2, q2⟩ => ⟨I2.kIn, ?_⟩
  rw [hks]
  exact run_fnN (us := []) (vs := []) F hr hb hx I2 .nil rz rfl l2 q2
def tMethN (C : Addr) (m : Str) (c : Nat) (sp : Sp) (gV : List V → List V → List V) (E : XK) (ta : TE) (tk : TA) : TE := fun σ H Q => ta σ H fun x H1 => ∃ a dx fs, x = .ref a ∧ H1 a = some (.ins C dx fs) ∧ fs.lookup m = none ∧ tk σ H1 fun zs H2 => zs.length = c ∧ sp (gV [.ref a] zs) H2 Q E
/-- o.m(k = v, ..) -/
theorem pe_methN {pl : Sem Bool} (he : PE X o ta) (c : Cls X.K C) (hm : Meth X.K C m f) (F : FnOk X.prog X.w X.K X.mg X.base CX k f fd ps sp) (hr : Room k X.A) (hb : KBn X.K fd ps 1 ks g gV) (hx : Passes CX X E) (hkw : PK X kws tk)
    (hall : (backToKw pos (keywordEach kws X.env)).all (·.1.isSome) = true := by rfl) (hks : (backToKw pos (keywordEach kws X.env)).filterMap (·.1) = ks := by rfl)
    (hpl : ((backTo pos (starEach [] X.env)).any (·.1) || (backToKw pos (keywordEach kws X.env)).any (·.1.isNone)) = false := by rfl)
    (ht : eval (.Call (.Attribute o m apos) [] kws pos) X.env = (do
      let ov ← eval o X.env
      standAt apos.atName
      let (f, first) ← holding [ov] (getMethod ov m pl)
      callWith pos f first (backTo pos (starEach [] X.env)) (backToKw pos (keywordEach kws X.env))) := by rfl) :
    PE X (.Call (.Attribute o m apos) [] kws pos) (tMethN C m ks.length sp gV E ta tk) := by
  refine ⟨fun pins s σ H Q I h => ?_⟩
  refine PySem.W.methodCall_KW (pl := pl) (thn (he.run pins s σ H _ I h) fun u s1 ⟨x, H1, I1, rx, a, dx, fs, ex, ea, l, q⟩ => ?_) ht
  subst ex
  obtain rfl : u = Value.ref a := rx
  refine getmeth_ok I1 ea c hm l ?_
  refine PySem.W.callWith_KW0 (first := [.ref a]) (h₀ := X.base) I.ok.mod.kin hm.kp hall ?_ hpl
  refine thn (hkw.run pos pins s1 σ H1 _ I1 q) fun ws s2 ⟨zs, H2, I2, rz, l2, q2⟩ => ⟨I2.kIn, ?_⟩
  rw [hks]
  exact run_fnN (us := [.ref a]) (vs := [.ref a]) F hr hb hx I2 (.cons rfl .nil) rz rfl l2 q2
end
section
variable {P : Program} {w : World} {K : PySem.W.Frag} {mg : Str → Option Value} {base : Heap} {x qual : Str} {st : Stmt} {dvs : List V} {f : Addr} {fd : FuncData}
/-- a def with defaults, by its body -/
theorem FunD.okN {N ps : List Str} {k : Nat} {sp : Sp} (F : FunD K x qual (defArgs st) (defBody st) (defScope st) dvs [] f fd) (S : FnScope N ps (defScope st)) (len : ∀ vs H Q E, sp vs H Q E → vs.length = ps.length)
    (hbody : ∀ (cdv : Value) (A : Around) (outer : List Env) (s : Shared) (H : Hp) (vs : List V) (Q : VK) (E : XK), Room k (A.deeper (envOfC qual (defScope st) s.heap.objs.size f cdv)) → sp vs H Q E →
      ∃ t, PSs (cxOf CX0 P w K mg base N qual (defScope st) f cdv A outer s H E).nox (defBody st) t ∧ t { nx := fun _ H' => Q .non H', rt := Q } (start N vs) H) : FnOk P w K mg base CX0 (k + 1) f fd ps sp :=
  F.ok S len fun cdv A outer s H vs Q E hr hsp => by
    obtain ⟨t, h, q⟩ := hbody cdv A outer s H vs Q E hr hsp
    exact ⟨t, h.nox, q⟩
end
end KW
/-! Calls in a try's body: methods and classes, by place and by keywords; what they let out is asked at the slots of the call. -/
namespace KW
open PySem PySem.Spec PyProof.Rows L2 DP
section
variable {P : Program} {w : World} {K : PySem.W.Frag} {mg : Str → Option Value} {base : Heap} {CX : CXT} {k : Nat} {f : Addr} {fd : FuncData} {ps : List Str} {sp sq : Sp}
/-- a def that lets out nothing keeps its promise where others may let out something -/
theorem ok_may (F : FnOk P w K mg base CX0 k f fd ps sp) : FnOk P w K mg base CX k f fd ps sp := by
  refine ⟨F.len, fun A outer s H args us vs Q E hr he hb hv hs => ?_⟩
  have h := F.run A outer s H args us vs Q E hr he hb hv hs
  refine codeAny_mono h fun r s' q => ?_
  cases r with
  | error e => exact False.elim q
  | ok fl => cases fl <;> exact q
/-- either of two promises -/
theorem ok_or (F : FnOk P w K mg base CX k f fd ps sp) (G : FnOk P w K mg base CX k f fd ps sq) : FnOk P w K mg base CX k f fd ps (fun vs H Q E => sp vs H Q E ∨ sq vs H Q E) :=
  ⟨fun vs H Q E h => h.elim (F.len vs H Q E) (G.len vs H Q E), fun A outer s H args us vs Q E hr he hb hv h => h.elim (F.run A outer s H args us vs Q E hr he hb hv) (G.run A outer s H args us vs Q E hr he hb hv)⟩
end
section
variable {X : Cx} {CX : CXT} {k : Nat} {f C : Addr} {fd : FuncData} {ps ks : List Str} {sp : Sp} {E : L2.St → XK} {x m : Str} {p pos apos : Pos} {e o : Expr} {es : List Expr} {kws : List Keyword} {ta : TE} {t tk : TA} {g : List Value → List Value → List Value} {gV : List V → List V → List V}
/-- o.m(e, ..) -/
def tMethX (C : Addr) (m : Str) (sp : Sp) (E : L2.St → XK) (ta : TE) (t : TA) : TE := fun σ H Q => ta σ H fun x H1 => ∃ a dx fs, x = .ref a ∧ H1 a = some (.ins C dx fs) ∧ fs.lookup m = none ∧ t σ H1 fun vs H2 => sp (.ref a :: vs) H2 Q (E σ)
theorem pe_methX {pl : Sem Bool} (he : PE X o ta) (c : Cls X.K C) (hm : Meth X.K C m f) (F : FnOk X.prog X.w X.K X.mg X.base CX k f fd ps sp) (hr : Room k X.A) (hb : Binds X.K fd ps []) (hx : ∀ σ, PassesAt CX X σ (E σ)) (ha : PA X (e :: es) t)
    (hst : starEach (e :: es) X.env = (false, eval e X.env) :: starEach es X.env := by rfl) (hpl : (backTo pos (starEach es X.env)).any (·.1) = false := by rfl)
    (ht : eval (.Call (.Attribute o m apos) (e :: es) [] pos) X.env = (do let ov ← eval o X.env; standAt apos.atName; let (f, first) ← holding [ov] (getMethod ov m pl); callWith pos f first (backTo pos (starEach (e :: es) X.env)) (backToKw pos (keywordEach [] X.env))) := by rfl) :
    PE X (.Call (.Attribute o m apos) (e :: es) [] pos) (tMethX C m sp E ta t) := ⟨fun pins s σ H Q I h => by
  refine PySem.W.methodCall_KW (pl := pl) (thn (he.run pins s σ H _ I h) fun u s1 hh => ?_) ht
  obtain ⟨x, H1, I1, rx, a, dx, fs, ex, ea, l, q⟩ := hh
  subst ex
  obtain rfl : u = Value.ref a := rx
  refine getmeth_ok I1 ea c hm l (PySem.W.callWith_K (first := [.ref a]) (h₀ := X.base) I.ok.mod.kin hm.kp (thn (ha.run pos pins s1 σ H1 _ I1 q) fun us s2 hh => ?_) hst hpl)
  obtain ⟨vs, H2, I2, r, q2⟩ := hh
  exact ⟨I2.kIn, run_fnS (us := .ref a :: us) (vs := .ref a :: vs) F hr hb (hx σ) I2 (.cons rfl r) q2⟩⟩
/-- the callee runs, with keywords -/
theorem run_kwX {n : Nat} {pins : List (Addr × Obj)} {σ : L2.St} {H : Hp} {s : Shared} {Q : VK} {us ws : List Value} {vs zs : List V} (F : FnOk X.prog X.w X.K X.mg X.base CX k f fd ps sp) (hr : Room k X.A) (hb : KBn X.K fd ps n ks g gV) (hx : PassesAt CX X σ (E σ))
    (I : Inv X pins σ H s) (r : Vals vs us) (rz : Vals zs ws) (l1 : vs.length = n) (l2 : zs.length = ks.length) (h : sp (gV vs zs) H Q (E σ)) : wpAny (model X.prog X.w) X.A (call (.ref f) us (ks.zip ws)) (EP X pins σ Q) X.xe s := by
  have n1 : us.length = n := by rw [← r.length, l1]
  refine wpAny_call (codeAny_mono (F.run X.A X.stack s H ⟨us, ks.zip ws⟩ (g us ws) (gV vs zs) Q (E σ) hr I.env0 (hb.to s us ws I.kIn n1 (rz.length.symm.trans l2)) (hb.rel r rz) h) fun r s' hq => ?_)
  cases r with
  | error e => exact hx pins H s e s' I hq
  | ok fl =>
    cases fl with
    | ret u => exact I.after hq
    | next => exact False.elim hq
    | brk => exact False.elim hq
    | cont => exact False.elim hq
def tCallNX (c : Nat) (sp : Sp) (gV : List V → List V → List V) (E : L2.St → XK) (tk : TA) : TE := fun σ H Q => tk σ H fun zs H2 => zs.length = c ∧ sp (gV [] zs) H2 Q (E σ)
/-- f(k = v, ..) -/
theorem pe_callNX (F : FnOk X.prog X.w X.K X.mg X.base CX k f fd ps sp) (hr : Room k X.A) (hg : Gl X x) (hm : X.mg x = some (.ref f)) (hk : PySem.W.keepIn X.K (.ref f) = true) (hb : KBn X.K fd ps 0 ks g gV) (hx : ∀ σ, PassesAt CX X σ (E σ)) (hkw : PK X kws tk)
    (hall : (backToKw pos (keywordEach kws X.env)).all (·.1.isSome) = true := by rfl) (hks : (backToKw pos (keywordEach kws X.env)).filterMap (·.1) = ks := by rfl) (hdb : (x == ("__debug__" : Str)) = false := by decide)
    (hpl : ((backTo pos (starEach [] X.env)).any (·.1) || (backToKw pos (keywordEach kws X.env)).any (·.1.isNone)) = false := by rfl) :
    PE X (.Call (.Name x p) [] kws pos) (tCallNX ks.length sp gV E tk) := ⟨fun pins s σ H Q I h => by
  refine wpAny_Call_Name_kw (ld_glob I hg hm ?_ hdb)
  refine PySem.W.callWith_KW0 (h₀ := X.base) I.ok.mod.kin hk hall ?_ hpl
  refine thn (hkw.run pos pins s σ H _ I h) fun ws s2 hh => ?_
  obtain ⟨zs, H2, I2, rz, l2, q2⟩ := hh
  refine ⟨I2.kIn, ?_⟩
  rw [hks]
  exact run_kwX (us := []) (vs := []) F hr hb (hx σ) I2 .nil rz rfl l2 q2⟩
def tMethNX (C : Addr) (m : Str) (c : Nat) (sp : Sp) (gV : List V → List V → List V) (E : L2.St → XK) (ta : TE) (tk : TA) : TE := fun σ H Q => ta σ H fun x H1 => ∃ a dx fs, x = .ref a ∧ H1 a = some (.ins C dx fs) ∧ fs.lookup m = none ∧ tk σ H1 fun zs H2 => zs.length = c ∧ sp (gV [.ref a] zs) H2 Q (E σ)
/-- o.m(k = v, ..) -/
theorem pe_methNX {pl : Sem Bool} (he : PE X o ta) (c : Cls X.K C) (hm : Meth X.K C m f) (F : FnOk X.prog X.w X.K X.mg X.base CX k f fd ps sp) (hr : Room k X.A) (hb : KBn X.K fd ps 1 ks g gV) (hx : ∀ σ, PassesAt CX X σ (E σ)) (hkw : PK X kws tk)
    (hall : (backToKw pos (keywordEach kws X.env)).all (·.1.isSome) = true := by rfl) (hks : (backToKw pos (keywordEach kws X.env)).filterMap (·.1) = ks := by rfl)
    (hpl : ((backTo pos (starEach [] X.env)).any (·.1) || (backToKw pos (keywordEach kws X.env)).any (·.1.isNone)) = false := by rfl)
    (ht : eval (.Call (.Attribute o m apos) [] kws pos) X.env = (do let ov ← eval o X.env; standAt apos.atName; let (f, first) ← holding [ov] (getMethod ov m pl); callWith pos f first (backTo pos (starEach [] X.env)) (backToKw pos (keywordEach kws X.env))) := by rfl) :
    PE X (.Call (.Attribute o m apos) [] kws pos) (tMethNX C m ks.length sp gV E ta tk) := ⟨fun pins s σ H Q I h => by
  refine PySem.W.methodCall_KW (pl := pl) (thn (he.run pins s σ H _ I h) fun u s1 hh => ?_) ht
  obtain ⟨x, H1, I1, rx, a, dx, fs, ex, ea, l, q⟩ := hh
  subst ex
  obtain rfl : u = Value.ref a := rx
  refine getmeth_ok I1 ea c hm l (PySem.W.callWith_KW0 (first := [.ref a]) (h₀ := X.base) I.ok.mod.kin hm.kp hall ?_ hpl)
  refine thn (hkw.run pos pins s1 σ H1 _ I1 q) fun ws s2 hh => ?_
  obtain ⟨zs, H2, I2, rz, l2, q2⟩ := hh
  refine ⟨I2.kIn, ?_⟩
  rw [hks]
  exact run_kwX (us := [.ref a]) (vs := [.ref a]) F hr hb (hx σ) I2 (.cons rfl .nil) rz rfl l2 q2⟩
/-- C(e, ..), C(k = v, ..) -/
def tMakeX (C : Addr) (sp : Sp) (E : L2.St → XK) (t : TA) : TE := fun σ H Q => t σ H fun vs H1 => ∀ x dx, H1 x = none → H1 dx = none → dx ≠ x →
  sp (.ref x :: vs) (upd (upd H1 dx (.own x)) x (.ins C dx [])) (fun v H2 => v = .non ∧ Q (.ref x) H2) (E σ)
def tMakeNX (C : Addr) (c : Nat) (sp : Sp) (gV : List V → List V → List V) (E : L2.St → XK) (tk : TA) : TE := fun σ H Q => tk σ H fun zs H1 => zs.length = c ∧ ∀ x dx, H1 x = none → H1 dx = none → dx ≠ x →
  sp (gV [.ref x] zs) (upd (upd H1 dx (.own x)) x (.ins C dx [])) (fun v H2 => v = .non ∧ Q (.ref x) H2) (E σ)
theorem pe_makeX (M : Mk X.K C f) (F : FnOk X.prog X.w X.K X.mg X.base CX k f fd ps sp) (hr : Room (k + 1) X.A) (hg : Gl X x) (hm : X.mg x = some (.ref C)) (hb : Binds X.K fd ps []) (hx : ∀ σ, PassesAt CX X σ (E σ)) (ha : PA X (e :: es) t)
    (hdb : (x == ("__debug__" : Str)) = false := by decide) (he : starEach (e :: es) X.env = (false, eval e X.env) :: starEach es X.env := by rfl) (hpl : (backTo pos (starEach es X.env)).any (·.1) = false := by rfl) :
    PE X (.Call (.Name x p) (e :: es) [] pos) (tMakeX C sp E t) := ⟨fun pins s σ H Q I h => by
  refine wpAny_Call_Name_kw (ld_glob I hg hm ?_ hdb)
  refine PySem.W.callWith_K (h₀ := X.base) I.ok.mod.kin M.kp (thn (ha.run pos pins s σ H _ I h) fun us s1 hh => ?_) he hpl
  obtain ⟨vs, H1, I1, r, q⟩ := hh
  refine ⟨I1.kIn, ?_⟩
  have hq := q (s1.heap.objs.size + 1) s1.heap.objs.size (I1.hok.fresh (Nat.le_succ _)) (I1.hok.fresh (Nat.le_refl _)) (Nat.ne_of_lt (Nat.lt_succ_self _))
  have I2 := Inv.made (C := C) I1
  have r2 : Vals (V.ref (s1.heap.objs.size + 1) :: vs) (Value.ref (s1.heap.objs.size + 1) :: us) := .cons rfl r
  have hl : (Value.ref (s1.heap.objs.size + 1) :: us).length = ps.length := by rw [← r2.length]; exact F.len _ _ _ _ hq
  have hb2 := hb _ (Value.ref (s1.heap.objs.size + 1) :: us) I2.kIn (by simpa using hl)
  rw [List.append_nil] at hb2
  refine wpAny_call (make_map (f := f) I1.kIn M.makes M.init (beq_iff_eq.mp M.fn) (codeAny_mono (F.run _ X.stack _ _ ⟨Value.ref (s1.heap.objs.size + 1) :: us, []⟩ (Value.ref (s1.heap.objs.size + 1) :: us) _ _ (E σ) (hr.make C us []) (I2.env0.make C us []) hb2 r2 hq) fun z s' hq' => ?_))
  cases z with
  | error e => exact hx σ pins _ _ e s' I2 hq'
  | ok fl =>
    cases fl with
    | ret u =>
      obtain ⟨v, H', I3, rv, ev, q3⟩ := I2.after hq'
      subst ev
      exact ⟨rv, ⟨V.ref (s1.heap.objs.size + 1), H', I3, rfl, q3⟩⟩
    | next => exact False.elim hq'
    | brk => exact False.elim hq'
    | cont => exact False.elim hq'⟩
theorem pe_makeNX (M : Mk X.K C f) (F : FnOk X.prog X.w X.K X.mg X.base CX k f fd ps sp) (hr : Room (k + 1) X.A) (hg : Gl X x) (hm : X.mg x = some (.ref C)) (hb : KBn X.K fd ps 1 ks g gV) (hx : ∀ σ, PassesAt CX X σ (E σ)) (hkw : PK X kws tk)
    (hall : (backToKw pos (keywordEach kws X.env)).all (·.1.isSome) = true := by rfl) (hks : (backToKw pos (keywordEach kws X.env)).filterMap (·.1) = ks := by rfl) (hdb : (x == ("__debug__" : Str)) = false := by decide)
    (hpl : ((backTo pos (starEach [] X.env)).any (·.1) || (backToKw pos (keywordEach kws X.env)).any (·.1.isNone)) = false := by rfl) :
    PE X (.Call (.Name x p) [] kws pos) (tMakeNX C ks.length sp gV E tk) := ⟨fun pins s σ H Q I h => by
  refine wpAny_Call_Name_kw (ld_glob I hg hm ?_ hdb)
  refine PySem.W.callWith_KW0 (h₀ := X.base) I.ok.mod.kin M.kp hall ?_ hpl
  refine thn (hkw.run pos pins s σ H _ I h) fun ws s1 hh => ?_
  obtain ⟨zs, H1, I1, rz, l2, q⟩ := hh
  refine ⟨I1.kIn, ?_⟩
  rw [hks]
  have hq := q (s1.heap.objs.size + 1) s1.heap.objs.size (I1.hok.fresh (Nat.le_succ _)) (I1.hok.fresh (Nat.le_refl _)) (Nat.ne_of_lt (Nat.lt_succ_self _))
  have I2 := Inv.made (C := C) I1
  have r1 : Vals [V.ref (s1.heap.objs.size + 1)] [Value.ref (s1.heap.objs.size + 1)] := .cons rfl .nil
  have r2 := hb.rel r1 rz
  refine wpAny_call (make_map (f := f) I1.kIn M.makes M.init (beq_iff_eq.mp M.fn) (codeAny_mono (F.run _ X.stack _ _ ⟨[Value.ref (s1.heap.objs.size + 1)], ks.zip ws⟩ (g [Value.ref (s1.heap.objs.size + 1)] ws) _ _ (E σ) (hr.make C [] (ks.zip ws))
    (I2.env0.make C [] (ks.zip ws)) (hb.to _ [Value.ref (s1.heap.objs.size + 1)] ws I2.kIn rfl (rz.length.symm.trans l2)) r2 hq) fun z s' hq' => ?_))
  cases z with
  | error e => exact hx σ pins _ _ e s' I2 hq'
  | ok fl =>
    cases fl with
    | ret u =>
      obtain ⟨v, H', I3, rv, ev, q3⟩ := I2.after hq'
      subst ev
      exact ⟨rv, ⟨V.ref (s1.heap.objs.size + 1), H', I3, rfl, q3⟩⟩
    | next => exact False.elim hq'
    | brk => exact False.elim hq'
    | cont => exact False.elim hq'⟩
end
end KW
namespace KA
open PySem PySem.Spec PyProof.Rows L2 DP
def top (i : Nat) : Stmt := PySem.Challenge.pw_darkpace_k07_refused_in_order.main.body.getD i (.Pass ⟨0, 0, 0, 0⟩)
abbrev slaw_tray : Stmt := top 27
abbrev N_law_tray : List Str := ["script", "fold", "great", "cell", "much"]
abbrev P_law_tray : List Str := ["script"]
theorem sclaw_tray : FnScope N_law_tray P_law_tray (defScope slaw_tray) := ⟨rfl, rfl, rfl, by decide +kernel, rfl, by decide +kernel, by decide +kernel⟩
abbrev slaw_draw : Stmt := top 28
abbrev N_law_draw : List Str := ["tray", "many", "found", "mixed"]
abbrev P_law_draw : List Str := ["tray", "many"]
theorem sclaw_draw : FnScope N_law_draw P_law_draw (defScope slaw_draw) := ⟨rfl, rfl, rfl, by decide +kernel, rfl, by decide +kernel, by decide +kernel⟩
abbrev slaw_great : Stmt := top 29
abbrev N_law_great : List Str := ["tray", "found", "k"]
abbrev P_law_great : List Str := ["tray"]
theorem sclaw_great : FnScope N_law_great P_law_great (defScope slaw_great) := ⟨rfl, rfl, rfl, by decide +kernel, rfl, by decide +kernel, by decide +kernel⟩
abbrev slaw_alike : Stmt := top 30
abbrev N_law_alike : List Str := ["found", "due", "k"]
abbrev P_law_alike : List Str := ["found", "due"]
theorem sclaw_alike : FnScope N_law_alike P_law_alike (defScope slaw_alike) := ⟨rfl, rfl, rfl, by decide +kernel, rfl, by decide +kernel, by decide +kernel⟩
abbrev slaw_length : Stmt := top 31
abbrev N_law_length : List Str := ["tray", "lot"]
abbrev P_law_length : List Str := ["tray"]
theorem sclaw_length : FnScope N_law_length P_law_length (defScope slaw_length) := ⟨rfl, rfl, rfl, by decide +kernel, rfl, by decide +kernel, by decide +kernel⟩
abbrev slaw_lead : Stmt := top 32
abbrev N_law_lead : List Str := ["size", "steps", "spot", "here", "there"]
abbrev P_law_lead : List Str := ["size", "steps", "spot"]
theorem sclaw_lead : FnScope N_law_lead P_law_lead (defScope slaw_lead) := ⟨rfl, rfl, rfl, by decide +kernel, rfl, by decide +kernel, by decide +kernel⟩
abbrev slaw_secret : Stmt := top 33
abbrev N_law_secret : List Str := ["tray", "size", "spots", "k", "rises", "spot", "lot", "base"]
abbrev P_law_secret : List Str := ["tray", "size"]
theorem sclaw_secret : FnScope N_law_secret P_law_secret (defScope slaw_secret) := ⟨rfl, rfl, rfl, by decide +kernel, rfl, by decide +kernel, by decide +kernel⟩
abbrev slaw_true_look : Stmt := top 34
abbrev N_law_true_look : List Str := ["tray", "size", "steps", "spot", "off", "said", "sign", "turn"]
abbrev P_law_true_look : List Str := ["tray", "size", "steps"]
theorem sclaw_true_look : FnScope N_law_true_look P_law_true_look (defScope slaw_true_look) := ⟨rfl, rfl, rfl, by decide +kernel, rfl, by decide +kernel, by decide +kernel⟩
abbrev slaw_known : Stmt := top 35
abbrev N_law_known : List Str := ["tray", "size", "most", "steps", "many", "turn"]
abbrev P_law_known : List Str := ["tray", "size", "most"]
theorem sclaw_known : FnScope N_law_known P_law_known (defScope slaw_known) := ⟨rfl, rfl, rfl, by decide +kernel, rfl, by decide +kernel, by decide +kernel⟩
abbrev slaw_home : Stmt := top 36
abbrev N_law_home : List Str := ["size", "look", "back"]
abbrev P_law_home : List Str := ["size", "look"]
theorem sclaw_home : FnScope N_law_home P_law_home (defScope slaw_home) := ⟨rfl, rfl, rfl, by decide +kernel, rfl, by decide +kernel, by decide +kernel⟩
abbrev slaw_any_look : Stmt := top 38
abbrev N_law_any_look : List Str := ["tray", "size", "said", "spot", "off"]
abbrev P_law_any_look : List Str := ["tray", "size"]
theorem sclaw_any_look : FnScope N_law_any_look P_law_any_look (defScope slaw_any_look) := ⟨rfl, rfl, rfl, by decide +kernel, rfl, by decide +kernel, by decide +kernel⟩
abbrev slaw_made : Stmt := top 39
abbrev N_law_made : List Str := ["size", "known", "made", "look"]
abbrev P_law_made : List Str := ["size", "known"]
theorem sclaw_made : FnScope N_law_made P_law_made (defScope slaw_made) := ⟨rfl, rfl, rfl, by decide +kernel, rfl, by decide +kernel, by decide +kernel⟩
abbrev slaw_kind : Stmt := top 40
abbrev N_law_kind : List Str := ["e", "some", "word", "so"]
abbrev P_law_kind : List Str := ["e"]
theorem sclaw_kind : FnScope N_law_kind P_law_kind (defScope slaw_kind) := ⟨rfl, rfl, rfl, by decide +kernel, rfl, by decide +kernel, by decide +kernel⟩
abbrev slaw_asked : Stmt := top 41
abbrev N_law_asked : List Str := ["made", "way", "look", "caught", "e"]
abbrev P_law_asked : List Str := ["made", "way", "look"]
theorem sclaw_asked : FnScope N_law_asked P_law_asked (defScope slaw_asked) := ⟨rfl, rfl, rfl, by decide +kernel, rfl, by decide +kernel, by decide +kernel⟩
abbrev slaw_lengths_right : Stmt := top 42
abbrev N_law_lengths_right : List Str := ["tray", "size", "named", "caught", "made", "e"]
abbrev P_law_lengths_right : List Str := ["tray"]
theorem sclaw_lengths_right : FnScope N_law_lengths_right P_law_lengths_right (defScope slaw_lengths_right) := ⟨rfl, rfl, rfl, by decide +kernel, rfl, by decide +kernel, by decide +kernel⟩
abbrev slaw_made_right : Stmt := top 43
abbrev N_law_made_right : List Str := ["told", "made", "other", "names", "one", "name"]
abbrev P_law_made_right : List Str := ["told"]
theorem sclaw_made_right : FnScope N_law_made_right P_law_made_right (defScope slaw_made_right) := ⟨rfl, rfl, rfl, by decide +kernel, rfl, by decide +kernel, by decide +kernel⟩
abbrev sside_looks : Stmt := top 18
abbrev N_side_looks : List Str := ["looks", "side", "words", "look"]
abbrev P_side_looks : List Str := ["looks", "side"]
theorem scside_looks : FnScope N_side_looks P_side_looks (defScope sside_looks) := ⟨rfl, rfl, rfl, by decide +kernel, rfl, by decide +kernel, by decide +kernel⟩
abbrev splace_by : Stmt := top 19
abbrev N_place_by : List Str := ["look", "side", "x", "length", "_", "start", "end"]
abbrev P_place_by : List Str := ["look", "side", "x", "length"]
theorem scplace_by : FnScope N_place_by P_place_by (defScope splace_by) := ⟨rfl, rfl, rfl, by decide +kernel, rfl, by decide +kernel, by decide +kernel⟩
abbrev sbest_step : Stmt := top 20
abbrev N_best_step : List Str := ["looks", "side", "x", "length", "steps", "look"]
abbrev P_best_step : List Str := ["looks", "side", "x", "length"]
theorem scbest_step : FnScope N_best_step P_best_step (defScope sbest_step) := ⟨rfl, rfl, rfl, by decide +kernel, rfl, by decide +kernel, by decide +kernel⟩
abbrev stoo_far : Stmt := top 23
abbrev N_too_far : List Str := ["low", "high", "length"]
abbrev P_too_far : List Str := ["low", "high", "length"]
theorem sctoo_far : FnScope N_too_far P_too_far (defScope stoo_far) := ⟨rfl, rfl, rfl, by decide +kernel, rfl, by decide +kernel, by decide +kernel⟩
abbrev sclash : Stmt := top 24
abbrev N_clash : List Str := ["look", "other", "length"]
abbrev P_clash : List Str := ["look", "other", "length"]
theorem scclash : FnScope N_clash P_clash (defScope sclash) := ⟨rfl, rfl, rfl, by decide +kernel, rfl, by decide +kernel, by decide +kernel⟩
abbrev sDark_init : Stmt := inClass (top 25) 0
abbrev N_Dark_init : List Str := ["self", "length"]
abbrev P_Dark_init : List Str := ["self", "length"]
theorem scDark_init : FnScope N_Dark_init P_Dark_init (defScope sDark_init) := ⟨rfl, rfl, rfl, by decide +kernel, rfl, by decide +kernel, by decide +kernel⟩
abbrev sDark_length : Stmt := inClass (top 25) 3
abbrev N_Dark_length : List Str := ["self"]
abbrev P_Dark_length : List Str := ["self"]
theorem scDark_length : FnScope N_Dark_length P_Dark_length (defScope sDark_length) := ⟨rfl, rfl, rfl, by decide +kernel, rfl, by decide +kernel, by decide +kernel⟩
abbrev sDark_hear : Stmt := inClass (top 25) 4
abbrev N_Dark_hear : List Str := ["self", "word", "x", "y", "look", "other"]
abbrev P_Dark_hear : List Str := ["self", "word", "x", "y"]
theorem scDark_hear : FnScope N_Dark_hear P_Dark_hear (defScope sDark_hear) := ⟨rfl, rfl, rfl, by decide +kernel, rfl, by decide +kernel, by decide +kernel⟩
abbrev sDark_drop : Stmt := inClass (top 25) 5
abbrev N_Dark_drop : List Str := ["self", "word", "x", "y", "look", "other"]
abbrev P_Dark_drop : List Str := ["self", "word", "x", "y"]
theorem scDark_drop : FnScope N_Dark_drop P_Dark_drop (defScope sDark_drop) := ⟨rfl, rfl, rfl, by decide +kernel, rfl, by decide +kernel, by decide +kernel⟩
abbrev sDark_looks : Stmt := inClass (top 25) 6
abbrev N_Dark_looks : List Str := ["self"]
abbrev P_Dark_looks : List Str := ["self"]
theorem scDark_looks : FnScope N_Dark_looks P_Dark_looks (defScope sDark_looks) := ⟨rfl, rfl, rfl, by decide +kernel, rfl, by decide +kernel, by decide +kernel⟩
abbrev sDark_may : Stmt := inClass (top 25) 9
abbrev N_Dark_may : List Str := ["self", "word", "x", "y"]
abbrev P_Dark_may : List Str := ["self", "word", "x", "y"]
theorem scDark_may : FnScope N_Dark_may P_Dark_may (defScope sDark_may) := ⟨rfl, rfl, rfl, by decide +kernel, rfl, by decide +kernel, by decide +kernel⟩
abbrev sDark_sure : Stmt := inClass (top 25) 10
abbrev N_Dark_sure : List Str := ["self", "word", "x", "y", "low", "high", "sure_from", "sure_upto"]
abbrev P_Dark_sure : List Str := ["self", "word", "x", "y"]
theorem scDark_sure : FnScope N_Dark_sure P_Dark_sure (defScope sDark_sure) := ⟨rfl, rfl, rfl, by decide +kernel, rfl, by decide +kernel, by decide +kernel⟩
abbrev sDarkcheck_word : Stmt := inClass (top 25) 12
abbrev N_Darkcheck_word : List Str := ["self", "word"]
abbrev P_Darkcheck_word : List Str := ["self", "word"]
theorem scDarkcheck_word : FnScope N_Darkcheck_word P_Darkcheck_word (defScope sDarkcheck_word) := ⟨rfl, rfl, rfl, by decide +kernel, rfl, by decide +kernel, by decide +kernel⟩
abbrev sDarkhome : Stmt := inClass (top 25) 13
abbrev N_Darkhome : List Str := ["self", "word", "x", "y", "turns"]
abbrev P_Darkhome : List Str := ["self", "word", "x", "y"]
theorem scDarkhome : FnScope N_Darkhome P_Darkhome (defScope sDarkhome) := ⟨rfl, rfl, rfl, by decide +kernel, rfl, by decide +kernel, by decide +kernel⟩
abbrev sDarkclashing : Stmt := inClass (top 25) 14
abbrev N_Darkclashing : List Str := ["self", "look", "other"]
abbrev P_Darkclashing : List Str := ["self", "look"]
theorem scDarkclashing : FnScope N_Darkclashing P_Darkclashing (defScope sDarkclashing) := ⟨rfl, rfl, rfl, by decide +kernel, rfl, by decide +kernel, by decide +kernel⟩
abbrev sDarkbound : Stmt := inClass (top 25) 15
abbrev N_Darkbound : List Str := ["self", "side", "x", "step"]
abbrev P_Darkbound : List Str := ["self", "side", "x"]
theorem scDarkbound : FnScope N_Darkbound P_Darkbound (defScope sDarkbound) := ⟨rfl, rfl, rfl, by decide +kernel, rfl, by decide +kernel, by decide +kernel⟩
abbrev sDark_least : Stmt := inClass (top 25) 7
abbrev N_Dark_least : List Str := ["self", "x"]
abbrev P_Dark_least : List Str := ["self", "x"]
theorem scDark_least : FnScope N_Dark_least P_Dark_least (defScope sDark_least) := ⟨rfl, rfl, rfl, by decide +kernel, rfl, by decide +kernel, by decide +kernel⟩
abbrev sDark_greatest : Stmt := inClass (top 25) 8
abbrev N_Dark_greatest : List Str := ["self", "x"]
abbrev P_Dark_greatest : List Str := ["self", "x"]
theorem scDark_greatest : FnScope N_Dark_greatest P_Dark_greatest (defScope sDark_greatest) := ⟨rfl, rfl, rfl, by decide +kernel, rfl, by decide +kernel, by decide +kernel⟩
abbrev slaw : Stmt := top 44
abbrev N_law : List Str := ["script", "tray", "odd", "told", "k", "size", "known", "look", "made", "before", "turn", "bad", "way", "here"]
abbrev P_law : List Str := ["script"]
theorem sclaw : FnScope N_law P_law (defScope slaw) := ⟨rfl, rfl, rfl, by decide +kernel, rfl, by decide +kernel, by decide +kernel⟩
structure Ad where
  C : Addr
  a_law_tray : Addr
  d_law_tray : FuncData
  a_law_draw : Addr
  d_law_draw : FuncData
  a_law_great : Addr
  d_law_great : FuncData
  a_law_alike : Addr
  d_law_alike : FuncData
  a_law_length : Addr
  d_law_length : FuncData
  a_law_lead : Addr
  d_law_lead : FuncData
  a_law_secret : Addr
  d_law_secret : FuncData
  a_law_true_look : Addr
  d_law_true_look : FuncData
  a_law_known : Addr
  d_law_known : FuncData
  a_law_home : Addr
  d_law_home : FuncData
  a_law_any_look : Addr
  d_law_any_look : FuncData
  a_law_made : Addr
  d_law_made : FuncData
  a_law_kind : Addr
  d_law_kind : FuncData
  a_law_asked : Addr
  d_law_asked : FuncData
  a_law_lengths_right : Addr
  d_law_lengths_right : FuncData
  a_law_made_right : Addr
  d_law_made_right : FuncData
  a_side_looks : Addr
  d_side_looks : FuncData
  a_place_by : Addr
  d_place_by : FuncData
  a_best_step : Addr
  d_best_step : FuncData
  a_too_far : Addr
  d_too_far : FuncData
  a_clash : Addr
  d_clash : FuncData
  a_Dark_init : Addr
  d_Dark_init : FuncData
  a_Dark_length : Addr
  d_Dark_length : FuncData
  a_Dark_hear : Addr
  d_Dark_hear : FuncData
  a_Dark_drop : Addr
  d_Dark_drop : FuncData
  a_Dark_looks : Addr
  d_Dark_looks : FuncData
  a_Dark_may : Addr
  d_Dark_may : FuncData
  a_Dark_sure : Addr
  d_Dark_sure : FuncData
  a_Darkcheck_word : Addr
  d_Darkcheck_word : FuncData
  a_Darkhome : Addr
  d_Darkhome : FuncData
  a_Darkclashing : Addr
  d_Darkclashing : FuncData
  a_Darkbound : Addr
  d_Darkbound : FuncData
  a_Dark_least : Addr
  d_Dark_least : FuncData
  a_Dark_greatest : Addr
  d_Dark_greatest : FuncData
  a_law : Addr
  d_law : FuncData
  v_SLOW : Value
  v_FAST : Value
  a_WORDS : Addr
  a_LW : Addr
  t_slow : Addr
  t_fast : Addr
structure Tx (K : PySem.W.Frag) (w : World) (mg : Str → Option Value) (Z : Ad) : Prop where
  F_law_tray : Fun K "_law_tray" "_law_tray" slaw_tray Z.a_law_tray Z.d_law_tray
  bb_law_tray : Binds K Z.d_law_tray P_law_tray []
  g_law_tray : mg "_law_tray" = some (.ref Z.a_law_tray)
  F_law_draw : Fun K "_law_draw" "_law_draw" slaw_draw Z.a_law_draw Z.d_law_draw
  bb_law_draw : Binds K Z.d_law_draw P_law_draw []
  g_law_draw : mg "_law_draw" = some (.ref Z.a_law_draw)
  F_law_great : Fun K "_law_great" "_law_great" slaw_great Z.a_law_great Z.d_law_great
  bb_law_great : Binds K Z.d_law_great P_law_great []
  g_law_great : mg "_law_great" = some (.ref Z.a_law_great)
  F_law_alike : Fun K "_law_alike" "_law_alike" slaw_alike Z.a_law_alike Z.d_law_alike
  bb_law_alike : Binds K Z.d_law_alike P_law_alike []
  g_law_alike : mg "_law_alike" = some (.ref Z.a_law_alike)
  F_law_length : Fun K "_law_length" "_law_length" slaw_length Z.a_law_length Z.d_law_length
  bb_law_length : Binds K Z.d_law_length P_law_length []
  g_law_length : mg "_law_length" = some (.ref Z.a_law_length)
  F_law_lead : Fun K "_law_lead" "_law_lead" slaw_lead Z.a_law_lead Z.d_law_lead
  bb_law_lead : Binds K Z.d_law_lead P_law_lead []
  g_law_lead : mg "_law_lead" = some (.ref Z.a_law_lead)
  F_law_secret : Fun K "_law_secret" "_law_secret" slaw_secret Z.a_law_secret Z.d_law_secret
  bb_law_secret : Binds K Z.d_law_secret P_law_secret []
  g_law_secret : mg "_law_secret" = some (.ref Z.a_law_secret)
  F_law_true_look : Fun K "_law_true_look" "_law_true_look" slaw_true_look Z.a_law_true_look Z.d_law_true_look
  bb_law_true_look : Binds K Z.d_law_true_look P_law_true_look []
  g_law_true_look : mg "_law_true_look" = some (.ref Z.a_law_true_look)
  F_law_known : Fun K "_law_known" "_law_known" slaw_known Z.a_law_known Z.d_law_known
  bb_law_known : Binds K Z.d_law_known P_law_known []
  g_law_known : mg "_law_known" = some (.ref Z.a_law_known)
  F_law_home : Fun K "_law_home" "_law_home" slaw_home Z.a_law_home Z.d_law_home
  bb_law_home : Binds K Z.d_law_home P_law_home []
  g_law_home : mg "_law_home" = some (.ref Z.a_law_home)
  F_law_any_look : Fun K "_law_any_look" "_law_any_look" slaw_any_look Z.a_law_any_look Z.d_law_any_look
  bb_law_any_look : Binds K Z.d_law_any_look P_law_any_look []
  g_law_any_look : mg "_law_any_look" = some (.ref Z.a_law_any_look)
  F_law_made : Fun K "_law_made" "_law_made" slaw_made Z.a_law_made Z.d_law_made
  bb_law_made : Binds K Z.d_law_made P_law_made []
  g_law_made : mg "_law_made" = some (.ref Z.a_law_made)
  F_law_kind : Fun K "_law_kind" "_law_kind" slaw_kind Z.a_law_kind Z.d_law_kind
  bb_law_kind : Binds K Z.d_law_kind P_law_kind []
  g_law_kind : mg "_law_kind" = some (.ref Z.a_law_kind)
  F_law_asked : Fun K "_law_asked" "_law_asked" slaw_asked Z.a_law_asked Z.d_law_asked
  bb_law_asked : Binds K Z.d_law_asked P_law_asked []
  g_law_asked : mg "_law_asked" = some (.ref Z.a_law_asked)
  F_law_lengths_right : Fun K "_law_lengths_right" "_law_lengths_right" slaw_lengths_right Z.a_law_lengths_right Z.d_law_lengths_right
  bb_law_lengths_right : Binds K Z.d_law_lengths_right P_law_lengths_right []
  g_law_lengths_right : mg "_law_lengths_right" = some (.ref Z.a_law_lengths_right)
  F_law_made_right : Fun K "_law_made_right" "_law_made_right" slaw_made_right Z.a_law_made_right Z.d_law_made_right
  bb_law_made_right : Binds K Z.d_law_made_right P_law_made_right []
  g_law_made_right : mg "_law_made_right" = some (.ref Z.a_law_made_right)
  F_side_looks : Fun K "side_looks" "side_looks" sside_looks Z.a_side_looks Z.d_side_looks
  bb_side_looks : Binds K Z.d_side_looks P_side_looks []
  g_side_looks : mg "side_looks" = some (.ref Z.a_side_looks)
  F_place_by : Fun K "place_by" "place_by" splace_by Z.a_place_by Z.d_place_by
  bb_place_by : Binds K Z.d_place_by P_place_by []
  g_place_by : mg "place_by" = some (.ref Z.a_place_by)
  F_best_step : Fun K "best_step" "best_step" sbest_step Z.a_best_step Z.d_best_step
  bb_best_step : Binds K Z.d_best_step P_best_step []
  g_best_step : mg "best_step" = some (.ref Z.a_best_step)
  F_too_far : Fun K "too_far" "too_far" stoo_far Z.a_too_far Z.d_too_far
  bb_too_far : Binds K Z.d_too_far P_too_far []
  g_too_far : mg "too_far" = some (.ref Z.a_too_far)
  F_clash : Fun K "clash" "clash" sclash Z.a_clash Z.d_clash
  bb_clash : Binds K Z.d_clash P_clash []
  g_clash : mg "clash" = some (.ref Z.a_clash)
  F_Dark_init : Fun K "__init__" "Dark.__init__" sDark_init Z.a_Dark_init Z.d_Dark_init
  bb_Dark_init : Binds K Z.d_Dark_init P_Dark_init []
  F_Dark_length : Fun K "length" "Dark.length" sDark_length Z.a_Dark_length Z.d_Dark_length
  bb_Dark_length : Binds K Z.d_Dark_length P_Dark_length []
  m_Dark_length : Meth K Z.C "length" Z.a_Dark_length
  F_Dark_hear : Fun K "hear" "Dark.hear" sDark_hear Z.a_Dark_hear Z.d_Dark_hear
  bb_Dark_hear : Binds K Z.d_Dark_hear P_Dark_hear []
  m_Dark_hear : Meth K Z.C "hear" Z.a_Dark_hear
  F_Dark_drop : Fun K "drop" "Dark.drop" sDark_drop Z.a_Dark_drop Z.d_Dark_drop
  bb_Dark_drop : Binds K Z.d_Dark_drop P_Dark_drop []
  m_Dark_drop : Meth K Z.C "drop" Z.a_Dark_drop
  F_Dark_looks : Fun K "looks" "Dark.looks" sDark_looks Z.a_Dark_looks Z.d_Dark_looks
  bb_Dark_looks : Binds K Z.d_Dark_looks P_Dark_looks []
  m_Dark_looks : Meth K Z.C "looks" Z.a_Dark_looks
  F_Dark_may : Fun K "may" "Dark.may" sDark_may Z.a_Dark_may Z.d_Dark_may
  bb_Dark_may : Binds K Z.d_Dark_may P_Dark_may []
  m_Dark_may : Meth K Z.C "may" Z.a_Dark_may
  F_Dark_sure : Fun K "sure" "Dark.sure" sDark_sure Z.a_Dark_sure Z.d_Dark_sure
  bb_Dark_sure : Binds K Z.d_Dark_sure P_Dark_sure []
  m_Dark_sure : Meth K Z.C "sure" Z.a_Dark_sure
  F_Darkcheck_word : Fun K "_check_word" "Dark._check_word" sDarkcheck_word Z.a_Darkcheck_word Z.d_Darkcheck_word
  bb_Darkcheck_word : Binds K Z.d_Darkcheck_word P_Darkcheck_word []
  m_Darkcheck_word : Meth K Z.C "_check_word" Z.a_Darkcheck_word
  F_Darkhome : Fun K "_home" "Dark._home" sDarkhome Z.a_Darkhome Z.d_Darkhome
  bb_Darkhome : Binds K Z.d_Darkhome P_Darkhome []
  m_Darkhome : Meth K Z.C "_home" Z.a_Darkhome
  F_Darkclashing : Fun K "_clashing" "Dark._clashing" sDarkclashing Z.a_Darkclashing Z.d_Darkclashing
  bb_Darkclashing : Binds K Z.d_Darkclashing P_Darkclashing []
  m_Darkclashing : Meth K Z.C "_clashing" Z.a_Darkclashing
  F_Darkbound : Fun K "_bound" "Dark._bound" sDarkbound Z.a_Darkbound Z.d_Darkbound
  bb_Darkbound : Binds K Z.d_Darkbound P_Darkbound []
  m_Darkbound : Meth K Z.C "_bound" Z.a_Darkbound
  F_Dark_least : Fun K "least" "Dark.least" sDark_least Z.a_Dark_least Z.d_Dark_least
  bb_Dark_least : Binds K Z.d_Dark_least P_Dark_least []
  m_Dark_least : Meth K Z.C "least" Z.a_Dark_least
  F_Dark_greatest : Fun K "greatest" "Dark.greatest" sDark_greatest Z.a_Dark_greatest Z.d_Dark_greatest
  bb_Dark_greatest : Binds K Z.d_Dark_greatest P_Dark_greatest []
  m_Dark_greatest : Meth K Z.C "greatest" Z.a_Dark_greatest
  F_law : Fun K "law" "law" slaw Z.a_law Z.d_law
  bb_law : Binds K Z.d_law P_law []
  g_law : mg "law" = some (.ref Z.a_law)
  kn_Dark_init_length : KBn K Z.d_Dark_init P_Dark_init 1 ["length"] (KW.gk [0] []) (KW.gk [0] [])
  cl : Cls K Z.C
  g_Dark : mg "Dark" = some (.ref Z.C)
  mk_Dark : Mk K Z.C Z.a_Dark_init
  n_length : NoAttr K Z.C "_length"
  n_looks : NoAttr K Z.C "_looks"
  b_max : mg "max" = none
  b_min : mg "min" = none
  b_len : mg "len" = none
  b_range : mg "range" = none
  b_sorted : mg "sorted" = none
  b_set : mg "set" = none
  b_isinstance : mg "isinstance" = none
  b_list : mg "list" = none
  b_tuple : mg "tuple" = none
  b_bool : mg "bool" = none
  b_int : mg "int" = none
  b_str : mg "str" = none
  b_super : mg "super" = none
  b_ValueError : mg "ValueError" = none
  g_SLOW : mg "SLOW" = some Z.v_SLOW
  r_SLOW : RelV (.str "slow") Z.v_SLOW
  g_FAST : mg "FAST" = some Z.v_FAST
  r_FAST : RelV (.str "fast") Z.v_FAST
  g_WORDS : mg "WORDS" = some (.ref Z.a_WORDS)
  kd_WORDS : ∃ es n, KDict K w Z.a_WORDS es n
  w_slow : PySem.W.nsIn K Z.a_WORDS "slow" = some (some (.ref Z.t_slow))
  w_fast : PySem.W.nsIn K Z.a_WORDS "fast" = some (some (.ref Z.t_fast))
  q_slow : ∀ H, SqT K H Z.t_slow [.str "at", .str "from"]
  q_fast : ∀ H, SqT K H Z.t_fast [.str "at", .str "upto"]
  g_LOOK_WORDS : mg "LOOK_WORDS" = some (.ref Z.a_LW)
  q_LW : ∀ H, SqT K H Z.a_LW [.str "at", .str "from", .str "upto"]
structure AdX where
  c_NoLength : Addr
  i_NoLength : Addr
  c_NoWord : Addr
  i_NoWord : Addr
  c_Clash : Addr
  i_Clash : Addr
  c_NoLook : Addr
  i_NoLook : Addr
  c_NoRound : Addr
  i_NoRound : Addr
  c_NoUses : Addr
  i_NoUses : Addr
  c_NoSide : Addr
  i_NoSide : Addr
  c_NoRing : Addr
  i_NoRing : Addr
  c_NoSteps : Addr
  i_NoSteps : Addr
  c_NoBottom : Addr
  i_NoBottom : Addr
  c_NoText : Addr
  i_NoText : Addr
  c_DialError : Addr
structure Ex (P : Program) (K : PySem.W.Frag) (mg : Str → Option Value) (Y : AdX) : Prop where
  NoLength : ERR.ErrT P K Y.c_NoLength Y.i_NoLength
  g_NoLength : mg "NoLength" = some (.ref Y.c_NoLength)
  m_NoLength : PySem.W.exmOne K (.ref Y.c_NoLength) (.ref Y.c_NoLength) = some true
  NoWord : ERR.ErrT P K Y.c_NoWord Y.i_NoWord
  g_NoWord : mg "NoWord" = some (.ref Y.c_NoWord)
  m_NoWord : PySem.W.exmOne K (.ref Y.c_NoWord) (.ref Y.c_NoWord) = some true
  Clash : ERR.ErrT P K Y.c_Clash Y.i_Clash
  g_Clash : mg "Clash" = some (.ref Y.c_Clash)
  m_Clash : PySem.W.exmOne K (.ref Y.c_Clash) (.ref Y.c_Clash) = some true
  NoLook : ERR.ErrT P K Y.c_NoLook Y.i_NoLook
  g_NoLook : mg "NoLook" = some (.ref Y.c_NoLook)
  m_NoLook : PySem.W.exmOne K (.ref Y.c_NoLook) (.ref Y.c_NoLook) = some true
  NoRound : ERR.ErrT P K Y.c_NoRound Y.i_NoRound
  g_NoRound : mg "NoRound" = some (.ref Y.c_NoRound)
  m_NoRound : PySem.W.exmOne K (.ref Y.c_NoRound) (.ref Y.c_NoRound) = some true
  NoUses : ERR.ErrT P K Y.c_NoUses Y.i_NoUses
  g_NoUses : mg "NoUses" = some (.ref Y.c_NoUses)
  m_NoUses : PySem.W.exmOne K (.ref Y.c_NoUses) (.ref Y.c_NoUses) = some true
  NoSide : ERR.ErrT P K Y.c_NoSide Y.i_NoSide
  g_NoSide : mg "NoSide" = some (.ref Y.c_NoSide)
  m_NoSide : PySem.W.exmOne K (.ref Y.c_NoSide) (.ref Y.c_NoSide) = some true
  NoRing : ERR.ErrT P K Y.c_NoRing Y.i_NoRing
  g_NoRing : mg "NoRing" = some (.ref Y.c_NoRing)
  m_NoRing : PySem.W.exmOne K (.ref Y.c_NoRing) (.ref Y.c_NoRing) = some true
  NoSteps : ERR.ErrT P K Y.c_NoSteps Y.i_NoSteps
  g_NoSteps : mg "NoSteps" = some (.ref Y.c_NoSteps)
  m_NoSteps : PySem.W.exmOne K (.ref Y.c_NoSteps) (.ref Y.c_NoSteps) = some true
  NoBottom : ERR.ErrT P K Y.c_NoBottom Y.i_NoBottom
  g_NoBottom : mg "NoBottom" = some (.ref Y.c_NoBottom)
  m_NoBottom : PySem.W.exmOne K (.ref Y.c_NoBottom) (.ref Y.c_NoBottom) = some true
  NoText : ERR.ErrT P K Y.c_NoText Y.i_NoText
  g_NoText : mg "NoText" = some (.ref Y.c_NoText)
  m_NoText : PySem.W.exmOne K (.ref Y.c_NoText) (.ref Y.c_NoText) = some true
  g_DialError : mg "DialError" = some (.ref Y.c_DialError)
  d_NoLength : PySem.W.exmOne K (.ref Y.c_NoLength) (.ref Y.c_DialError) = some true
  x_NoLength : EK.ExF K Y.c_NoLength
  kv_NoLength : PySem.W.kitOne K (.ref Y.c_NoLength) (.type "ValueError") = some true
  k_NoLength_NoWord : PySem.W.kitOne K (.ref Y.c_NoLength) (.ref Y.c_NoWord) = some false
  k_NoLength_Clash : PySem.W.kitOne K (.ref Y.c_NoLength) (.ref Y.c_Clash) = some false
  k_NoLength_NoLook : PySem.W.kitOne K (.ref Y.c_NoLength) (.ref Y.c_NoLook) = some false
  k_NoLength_NoRound : PySem.W.kitOne K (.ref Y.c_NoLength) (.ref Y.c_NoRound) = some false
  k_NoLength_NoUses : PySem.W.kitOne K (.ref Y.c_NoLength) (.ref Y.c_NoUses) = some false
  k_NoLength_NoSide : PySem.W.kitOne K (.ref Y.c_NoLength) (.ref Y.c_NoSide) = some false
  k_NoLength_NoRing : PySem.W.kitOne K (.ref Y.c_NoLength) (.ref Y.c_NoRing) = some false
  k_NoLength_NoSteps : PySem.W.kitOne K (.ref Y.c_NoLength) (.ref Y.c_NoSteps) = some false
  k_NoLength_NoBottom : PySem.W.kitOne K (.ref Y.c_NoLength) (.ref Y.c_NoBottom) = some false
  k_NoLength_NoText : PySem.W.kitOne K (.ref Y.c_NoLength) (.ref Y.c_NoText) = some false
  d_NoWord : PySem.W.exmOne K (.ref Y.c_NoWord) (.ref Y.c_DialError) = some true
  x_NoWord : EK.ExF K Y.c_NoWord
  kv_NoWord : PySem.W.kitOne K (.ref Y.c_NoWord) (.type "ValueError") = some true
  k_NoWord_NoLength : PySem.W.kitOne K (.ref Y.c_NoWord) (.ref Y.c_NoLength) = some false
  k_NoWord_Clash : PySem.W.kitOne K (.ref Y.c_NoWord) (.ref Y.c_Clash) = some false
  k_NoWord_NoLook : PySem.W.kitOne K (.ref Y.c_NoWord) (.ref Y.c_NoLook) = some false
  k_NoWord_NoRound : PySem.W.kitOne K (.ref Y.c_NoWord) (.ref Y.c_NoRound) = some false
  k_NoWord_NoUses : PySem.W.kitOne K (.ref Y.c_NoWord) (.ref Y.c_NoUses) = some false
  k_NoWord_NoSide : PySem.W.kitOne K (.ref Y.c_NoWord) (.ref Y.c_NoSide) = some false
  k_NoWord_NoRing : PySem.W.kitOne K (.ref Y.c_NoWord) (.ref Y.c_NoRing) = some false
  k_NoWord_NoSteps : PySem.W.kitOne K (.ref Y.c_NoWord) (.ref Y.c_NoSteps) = some false
  k_NoWord_NoBottom : PySem.W.kitOne K (.ref Y.c_NoWord) (.ref Y.c_NoBottom) = some false
  k_NoWord_NoText : PySem.W.kitOne K (.ref Y.c_NoWord) (.ref Y.c_NoText) = some false
  d_Clash : PySem.W.exmOne K (.ref Y.c_Clash) (.ref Y.c_DialError) = some true
  x_Clash : EK.ExF K Y.c_Clash
  kv_Clash : PySem.W.kitOne K (.ref Y.c_Clash) (.type "ValueError") = some true
  k_Clash_NoLength : PySem.W.kitOne K (.ref Y.c_Clash) (.ref Y.c_NoLength) = some false
  k_Clash_NoWord : PySem.W.kitOne K (.ref Y.c_Clash) (.ref Y.c_NoWord) = some false
  k_Clash_NoLook : PySem.W.kitOne K (.ref Y.c_Clash) (.ref Y.c_NoLook) = some false
  k_Clash_NoRound : PySem.W.kitOne K (.ref Y.c_Clash) (.ref Y.c_NoRound) = some false
  k_Clash_NoUses : PySem.W.kitOne K (.ref Y.c_Clash) (.ref Y.c_NoUses) = some false
  k_Clash_NoSide : PySem.W.kitOne K (.ref Y.c_Clash) (.ref Y.c_NoSide) = some false
  k_Clash_NoRing : PySem.W.kitOne K (.ref Y.c_Clash) (.ref Y.c_NoRing) = some false
  k_Clash_NoSteps : PySem.W.kitOne K (.ref Y.c_Clash) (.ref Y.c_NoSteps) = some false
  k_Clash_NoBottom : PySem.W.kitOne K (.ref Y.c_Clash) (.ref Y.c_NoBottom) = some false
  k_Clash_NoText : PySem.W.kitOne K (.ref Y.c_Clash) (.ref Y.c_NoText) = some false
  d_NoLook : PySem.W.exmOne K (.ref Y.c_NoLook) (.ref Y.c_DialError) = some true
  x_NoLook : EK.ExF K Y.c_NoLook
  kv_NoLook : PySem.W.kitOne K (.ref Y.c_NoLook) (.type "ValueError") = some true
  k_NoLook_NoLength : PySem.W.kitOne K (.ref Y.c_NoLook) (.ref Y.c_NoLength) = some false
  k_NoLook_NoWord : PySem.W.kitOne K (.ref Y.c_NoLook) (.ref Y.c_NoWord) = some false
  k_NoLook_Clash : PySem.W.kitOne K (.ref Y.c_NoLook) (.ref Y.c_Clash) = some false
  k_NoLook_NoRound : PySem.W.kitOne K (.ref Y.c_NoLook) (.ref Y.c_NoRound) = some false
  k_NoLook_NoUses : PySem.W.kitOne K (.ref Y.c_NoLook) (.ref Y.c_NoUses) = some false
  k_NoLook_NoSide : PySem.W.kitOne K (.ref Y.c_NoLook) (.ref Y.c_NoSide) = some false
  k_NoLook_NoRing : PySem.W.kitOne K (.ref Y.c_NoLook) (.ref Y.c_NoRing) = some false
  k_NoLook_NoSteps : PySem.W.kitOne K (.ref Y.c_NoLook) (.ref Y.c_NoSteps) = some false
  k_NoLook_NoBottom : PySem.W.kitOne K (.ref Y.c_NoLook) (.ref Y.c_NoBottom) = some false
  k_NoLook_NoText : PySem.W.kitOne K (.ref Y.c_NoLook) (.ref Y.c_NoText) = some false
  d_NoRound : PySem.W.exmOne K (.ref Y.c_NoRound) (.ref Y.c_DialError) = some true
  x_NoRound : EK.ExF K Y.c_NoRound
  kv_NoRound : PySem.W.kitOne K (.ref Y.c_NoRound) (.type "ValueError") = some true
  k_NoRound_NoLength : PySem.W.kitOne K (.ref Y.c_NoRound) (.ref Y.c_NoLength) = some false
  k_NoRound_NoWord : PySem.W.kitOne K (.ref Y.c_NoRound) (.ref Y.c_NoWord) = some false
  k_NoRound_Clash : PySem.W.kitOne K (.ref Y.c_NoRound) (.ref Y.c_Clash) = some false
  k_NoRound_NoLook : PySem.W.kitOne K (.ref Y.c_NoRound) (.ref Y.c_NoLook) = some false
  k_NoRound_NoUses : PySem.W.kitOne K (.ref Y.c_NoRound) (.ref Y.c_NoUses) = some false
  k_NoRound_NoSide : PySem.W.kitOne K (.ref Y.c_NoRound) (.ref Y.c_NoSide) = some false
  k_NoRound_NoRing : PySem.W.kitOne K (.ref Y.c_NoRound) (.ref Y.c_NoRing) = some false
  k_NoRound_NoSteps : PySem.W.kitOne K (.ref Y.c_NoRound) (.ref Y.c_NoSteps) = some false
  k_NoRound_NoBottom : PySem.W.kitOne K (.ref Y.c_NoRound) (.ref Y.c_NoBottom) = some false
  k_NoRound_NoText : PySem.W.kitOne K (.ref Y.c_NoRound) (.ref Y.c_NoText) = some false
  d_NoUses : PySem.W.exmOne K (.ref Y.c_NoUses) (.ref Y.c_DialError) = some true
  x_NoUses : EK.ExF K Y.c_NoUses
  kv_NoUses : PySem.W.kitOne K (.ref Y.c_NoUses) (.type "ValueError") = some true
  k_NoUses_NoLength : PySem.W.kitOne K (.ref Y.c_NoUses) (.ref Y.c_NoLength) = some false
  k_NoUses_NoWord : PySem.W.kitOne K (.ref Y.c_NoUses) (.ref Y.c_NoWord) = some false
  k_NoUses_Clash : PySem.W.kitOne K (.ref Y.c_NoUses) (.ref Y.c_Clash) = some false
  k_NoUses_NoLook : PySem.W.kitOne K (.ref Y.c_NoUses) (.ref Y.c_NoLook) = some false
  k_NoUses_NoRound : PySem.W.kitOne K (.ref Y.c_NoUses) (.ref Y.c_NoRound) = some false
  k_NoUses_NoSide : PySem.W.kitOne K (.ref Y.c_NoUses) (.ref Y.c_NoSide) = some false
  k_NoUses_NoRing : PySem.W.kitOne K (.ref Y.c_NoUses) (.ref Y.c_NoRing) = some false
  k_NoUses_NoSteps : PySem.W.kitOne K (.ref Y.c_NoUses) (.ref Y.c_NoSteps) = some false
  k_NoUses_NoBottom : PySem.W.kitOne K (.ref Y.c_NoUses) (.ref Y.c_NoBottom) = some false
  k_NoUses_NoText : PySem.W.kitOne K (.ref Y.c_NoUses) (.ref Y.c_NoText) = some false
  d_NoSide : PySem.W.exmOne K (.ref Y.c_NoSide) (.ref Y.c_DialError) = some true
  x_NoSide : EK.ExF K Y.c_NoSide
  kv_NoSide : PySem.W.kitOne K (.ref Y.c_NoSide) (.type "ValueError") = some true
  k_NoSide_NoLength : PySem.W.kitOne K (.ref Y.c_NoSide) (.ref Y.c_NoLength) = some false
  k_NoSide_NoWord : PySem.W.kitOne K (.ref Y.c_NoSide) (.ref Y.c_NoWord) = some false
  k_NoSide_Clash : PySem.W.kitOne K (.ref Y.c_NoSide) (.ref Y.c_Clash) = some false
  k_NoSide_NoLook : PySem.W.kitOne K (.ref Y.c_NoSide) (.ref Y.c_NoLook) = some false
  k_NoSide_NoRound : PySem.W.kitOne K (.ref Y.c_NoSide) (.ref Y.c_NoRound) = some false
  k_NoSide_NoUses : PySem.W.kitOne K (.ref Y.c_NoSide) (.ref Y.c_NoUses) = some false
  k_NoSide_NoRing : PySem.W.kitOne K (.ref Y.c_NoSide) (.ref Y.c_NoRing) = some false
  k_NoSide_NoSteps : PySem.W.kitOne K (.ref Y.c_NoSide) (.ref Y.c_NoSteps) = some false
  k_NoSide_NoBottom : PySem.W.kitOne K (.ref Y.c_NoSide) (.ref Y.c_NoBottom) = some false
  k_NoSide_NoText : PySem.W.kitOne K (.ref Y.c_NoSide) (.ref Y.c_NoText) = some false
  d_NoRing : PySem.W.exmOne K (.ref Y.c_NoRing) (.ref Y.c_DialError) = some true
  x_NoRing : EK.ExF K Y.c_NoRing
  kv_NoRing : PySem.W.kitOne K (.ref Y.c_NoRing) (.type "ValueError") = some true
  k_NoRing_NoLength : PySem.W.kitOne K (.ref Y.c_NoRing) (.ref Y.c_NoLength) = some false
  k_NoRing_NoWord : PySem.W.kitOne K (.ref Y.c_NoRing) (.ref Y.c_NoWord) = some false
  k_NoRing_Clash : PySem.W.kitOne K (.ref Y.c_NoRing) (.ref Y.c_Clash) = some false
  k_NoRing_NoLook : PySem.W.kitOne K (.ref Y.c_NoRing) (.ref Y.c_NoLook) = some false
  k_NoRing_NoRound : PySem.W.kitOne K (.ref Y.c_NoRing) (.ref Y.c_NoRound) = some false
  k_NoRing_NoUses : PySem.W.kitOne K (.ref Y.c_NoRing) (.ref Y.c_NoUses) = some false
  k_NoRing_NoSide : PySem.W.kitOne K (.ref Y.c_NoRing) (.ref Y.c_NoSide) = some false
  k_NoRing_NoSteps : PySem.W.kitOne K (.ref Y.c_NoRing) (.ref Y.c_NoSteps) = some false
  k_NoRing_NoBottom : PySem.W.kitOne K (.ref Y.c_NoRing) (.ref Y.c_NoBottom) = some false
  k_NoRing_NoText : PySem.W.kitOne K (.ref Y.c_NoRing) (.ref Y.c_NoText) = some false
  d_NoSteps : PySem.W.exmOne K (.ref Y.c_NoSteps) (.ref Y.c_DialError) = some true
  x_NoSteps : EK.ExF K Y.c_NoSteps
  kv_NoSteps : PySem.W.kitOne K (.ref Y.c_NoSteps) (.type "ValueError") = some true
  k_NoSteps_NoLength : PySem.W.kitOne K (.ref Y.c_NoSteps) (.ref Y.c_NoLength) = some false
  k_NoSteps_NoWord : PySem.W.kitOne K (.ref Y.c_NoSteps) (.ref Y.c_NoWord) = some false
  k_NoSteps_Clash : PySem.W.kitOne K (.ref Y.c_NoSteps) (.ref Y.c_Clash) = some false
  k_NoSteps_NoLook : PySem.W.kitOne K (.ref Y.c_NoSteps) (.ref Y.c_NoLook) = some false
  k_NoSteps_NoRound : PySem.W.kitOne K (.ref Y.c_NoSteps) (.ref Y.c_NoRound) = some false
  k_NoSteps_NoUses : PySem.W.kitOne K (.ref Y.c_NoSteps) (.ref Y.c_NoUses) = some false
  k_NoSteps_NoSide : PySem.W.kitOne K (.ref Y.c_NoSteps) (.ref Y.c_NoSide) = some false
  k_NoSteps_NoRing : PySem.W.kitOne K (.ref Y.c_NoSteps) (.ref Y.c_NoRing) = some false
  k_NoSteps_NoBottom : PySem.W.kitOne K (.ref Y.c_NoSteps) (.ref Y.c_NoBottom) = some false
  k_NoSteps_NoText : PySem.W.kitOne K (.ref Y.c_NoSteps) (.ref Y.c_NoText) = some false
  d_NoBottom : PySem.W.exmOne K (.ref Y.c_NoBottom) (.ref Y.c_DialError) = some true
  x_NoBottom : EK.ExF K Y.c_NoBottom
  kv_NoBottom : PySem.W.kitOne K (.ref Y.c_NoBottom) (.type "ValueError") = some true
  k_NoBottom_NoLength : PySem.W.kitOne K (.ref Y.c_NoBottom) (.ref Y.c_NoLength) = some false
  k_NoBottom_NoWord : PySem.W.kitOne K (.ref Y.c_NoBottom) (.ref Y.c_NoWord) = some false
  k_NoBottom_Clash : PySem.W.kitOne K (.ref Y.c_NoBottom) (.ref Y.c_Clash) = some false
  k_NoBottom_NoLook : PySem.W.kitOne K (.ref Y.c_NoBottom) (.ref Y.c_NoLook) = some false
  k_NoBottom_NoRound : PySem.W.kitOne K (.ref Y.c_NoBottom) (.ref Y.c_NoRound) = some false
  k_NoBottom_NoUses : PySem.W.kitOne K (.ref Y.c_NoBottom) (.ref Y.c_NoUses) = some false
  k_NoBottom_NoSide : PySem.W.kitOne K (.ref Y.c_NoBottom) (.ref Y.c_NoSide) = some false
  k_NoBottom_NoRing : PySem.W.kitOne K (.ref Y.c_NoBottom) (.ref Y.c_NoRing) = some false
  k_NoBottom_NoSteps : PySem.W.kitOne K (.ref Y.c_NoBottom) (.ref Y.c_NoSteps) = some false
  k_NoBottom_NoText : PySem.W.kitOne K (.ref Y.c_NoBottom) (.ref Y.c_NoText) = some false
  d_NoText : PySem.W.exmOne K (.ref Y.c_NoText) (.ref Y.c_DialError) = some true
  x_NoText : EK.ExF K Y.c_NoText
  kv_NoText : PySem.W.kitOne K (.ref Y.c_NoText) (.type "ValueError") = some true
  k_NoText_NoLength : PySem.W.kitOne K (.ref Y.c_NoText) (.ref Y.c_NoLength) = some false
  k_NoText_NoWord : PySem.W.kitOne K (.ref Y.c_NoText) (.ref Y.c_NoWord) = some false
  k_NoText_Clash : PySem.W.kitOne K (.ref Y.c_NoText) (.ref Y.c_Clash) = some false
  k_NoText_NoLook : PySem.W.kitOne K (.ref Y.c_NoText) (.ref Y.c_NoLook) = some false
  k_NoText_NoRound : PySem.W.kitOne K (.ref Y.c_NoText) (.ref Y.c_NoRound) = some false
  k_NoText_NoUses : PySem.W.kitOne K (.ref Y.c_NoText) (.ref Y.c_NoUses) = some false
  k_NoText_NoSide : PySem.W.kitOne K (.ref Y.c_NoText) (.ref Y.c_NoSide) = some false
  k_NoText_NoRing : PySem.W.kitOne K (.ref Y.c_NoText) (.ref Y.c_NoRing) = some false
  k_NoText_NoSteps : PySem.W.kitOne K (.ref Y.c_NoText) (.ref Y.c_NoSteps) = some false
  k_NoText_NoBottom : PySem.W.kitOne K (.ref Y.c_NoText) (.ref Y.c_NoBottom) = some false
end KA
/-! Looks in plain Lean. -/
namespace KA
open PySem PySem.Spec PyProof.Rows L2 DP
/-- a look: word, x, y -/
abbrev Lk := Str × Int × Int
def encL (l : Lk) : PyData := .tuple [.str l.1, .int l.2.1, .int l.2.2]
def WordOk (x : Str) : Prop := x = "at" ∨ x = "from" ∨ x = "upto"
def SideOk (x : Str) : Prop := x = "slow" ∨ x = "fast"
/-- the words of a side, by truth -/
def onSide (sd x : Str) : Bool := if sd = "slow" then (decide (x = "at") || decide (x = "from")) else (decide (x = "at") || decide (x = "upto"))
/-- where a look alone tells that x is led -/
def plc (sd : Str) (l : Lk) (x L : Int) : Int := if sd = "slow" then l.2.2 + (x - l.2.1) / L * L else l.2.2 - (l.2.1 - x) / L * L
def Sized (n : Nat) (l : Lk) : Prop := l.2.1.natAbs < 2 ^ n ∧ l.2.2.natAbs < 2 ^ n
theorem slow_ne : ¬ (("fast" : Str) = "slow") := by decide +kernel
theorem plc_slow (l : Lk) (x L : Int) : plc "slow" l x L = l.2.2 + (x - l.2.1) / L * L := if_pos rfl
theorem plc_fast (l : Lk) (x L : Int) : plc "fast" l x L = l.2.2 - (l.2.1 - x) / L * L := if_neg slow_ne
def tooFar (a b : Lk) (L : Int) : Bool := onSide "slow" a.1 && onSide "fast" b.1 && decide (b.2.2 < plc "slow" a b.2.1 L)
def clashB (a b : Lk) (L : Int) : Bool := tooFar a b L || tooFar b a L
/-- brought home -/
def home (L : Int) (l : Lk) : Lk := (l.1, l.2.1 - l.2.1 / L * L, l.2.2 - l.2.1 / L * L)
theorem nat_div {a L : Int} (h : 0 < L) : (a / L).natAbs ≤ a.natAbs + 1 := Nat.le_succ_of_le (Int.natAbs_ediv_le_natAbs a L)
theorem sub_lt {a b : Int} {n : Nat} (ha : a.natAbs < 2 ^ n) (hb : b.natAbs < 2 ^ n) : (a - b).natAbs < 2 ^ (n + 1) := by
  rw [Nat.pow_succ]; omega
theorem add_lt {a b : Int} {n : Nat} (ha : a.natAbs < 2 ^ n) (hb : b.natAbs < 2 ^ n) : (a + b).natAbs < 2 ^ (n + 1) := by
  rw [Nat.pow_succ]; omega
theorem div_lt {a L : Int} {n : Nat} (h : 0 < L) (ha : a.natAbs < 2 ^ n) : (a / L).natAbs < 2 ^ (n + 1) := by
  have := nat_div (a := a) h
  have h1 : 1 ≤ 2 ^ n := Nat.one_le_two_pow
  rw [Nat.pow_succ]; omega
theorem lt_up {a : Int} {m n : Nat} (ha : a.natAbs < 2 ^ m) (h : m ≤ n) : a.natAbs < 2 ^ n := Nat.lt_of_lt_of_le ha (Nat.pow_le_pow_right (by decide) h)
section
variable {K : PySem.W.Frag} {H : Hp}
theorem dp_look {v : V} {l : Lk} (h : Dp K H v (encL l)) : ∃ a, v = .ref a ∧ SqT K H a [.str l.1, .int l.2.1, .int l.2.2] := by
  have h' : Dp K H v (.tuple [.str l.1, .int l.2.1, .int l.2.2]) := h
  cases h' with
  | tup s a =>
    cases a with
    | cons a1 a =>
      cases a with
      | cons a2 a =>
        cases a with
        | cons a3 a =>
          cases a; cases a1; cases a2; cases a3
          exact ⟨_, rfl, s⟩
theorem dp_list {v : V} {ds : List PyData} (h : Dp K H v (.list ds)) : ∃ a xs, v = .ref a ∧ SqL K H a xs ∧ DpAll K H xs ds := by
  cases h with
  | lst s a => exact ⟨_, _, rfl, s, a⟩
end
theorem decl_words {x : Str} (h : WordOk x) : inV (.str x) [.str "at", .str "from"] = onSide "slow" x ∧ inV (.str x) [.str "at", .str "upto"] = onSide "fast" x ∧ inV (.str x) [.str "at", .str "from", .str "upto"] = true := by
  rcases h with e | e | e <;> subst e <;> decide +kernel
theorem yes_ite {σ : L2.St} {H : Hp} {A B : Hp → Prop} (h : A H) : tYes σ H (fun b H3 => if b = true then A H3 else B H3) := by
  show (if true = true then A H else B H)
  rw [if_pos rfl]
  exact h
/-- data without lists: tuples, numbers, texts -/
def noL : PyData → Bool
  | .list _ => false
  | .dict _ => false
  | .tuple xs => noLs xs
  | _ => true
where noLs : List PyData → Bool
  | [] => true
  | x :: xs => noL x && noLs xs
/-- tuples stand -/
def Tups (H H' : Hp) : Prop := ∀ b xs, Rd H b (.tup xs) → Rd H' b (.tup xs)
theorem Tups.of_same {H H' : Hp} (S : Same H H') : Tups H H' := fun _ _ h => DP.Same.rd S h
theorem Tups.upd_lst {H : Hp} {D : Addr} {ys : List V} {o : HO} (h : H D = some (.lst ys)) : Tups H (upd H D o) := fun b xs hb => by
  have hn : b ≠ D := by
    rintro rfl
    rcases hb with e | ⟨q, e⟩ <;> rw [h] at e <;> cases e
  rcases hb with e | ⟨q, e⟩
  · exact .inl ((upd_ne hn).trans e)
  · exact .inr ⟨q, (upd_ne hn).trans e⟩
theorem Tups.upd_ins {H : Hp} {D C dx : Addr} {fs : List (Str × V)} {o : HO} (h : H D = some (.ins C dx fs)) : Tups H (upd H D o) := fun b xs hb => by
  have hn : b ≠ D := by
    rintro rfl
    rcases hb with e | ⟨q, e⟩ <;> rw [h] at e <;> cases e
  rcases hb with e | ⟨q, e⟩
  · exact .inl ((upd_ne hn).trans e)
  · exact .inr ⟨q, (upd_ne hn).trans e⟩
theorem Tups.trans {H H1 H2 : Hp} (a : Tups H H1) (b : Tups H1 H2) : Tups H H2 := fun c xs h => b c xs (a c xs h)
section
variable {K : PySem.W.Frag} {H H' : Hp}
mutual
theorem dp_tups (S : Tups H H') : ∀ (d : PyData) (v : V), noL d = true → Dp K H v d → Dp K H' v d
  | .none, _, _, h => by cases h; exact .non
  | .bool _, _, _, h => by cases h; exact .bl _
  | .int _, _, _, h => by cases h; exact .int _
  | .str _, _, _, h => by cases h; exact .str _
  | .list _, _, n, _ => by simp [noL] at n
  | .dict _, _, n, _ => by simp [noL] at n
  | .tuple ds, _, n, h => by
    cases h with
    | tup s a =>
      refine .tup ?_ (dpAll_tups S ds _ (by simpa [noL] using n) a)
      rcases s with s | s
      · exact .inl (S _ _ s)
      · exact .inr s
theorem dpAll_tups (S : Tups H H') : ∀ (ds : List PyData) (vs : List V), noL.noLs ds = true → DpAll K H vs ds → DpAll K H' vs ds
  | [], _, _, h => by cases h; exact .nil
  | d :: ds, _, n, h => by
    rw [noL.noLs, Bool.and_eq_true] at n
    cases h with
    | cons a b => exact .cons (dp_tups S d _ n.1 a) (dpAll_tups S ds _ n.2 b)
end
theorem noLs_map {β : Type} {enc : β → PyData} (h : ∀ b, noL (enc b) = true) : ∀ bs : List β, noL.noLs (bs.map enc) = true
  | [] => rfl
  | b :: bs => by
    show noL.noLs (enc b :: bs.map enc) = true
    rw [noL.noLs, h b, noLs_map h bs]; rfl
theorem noL_encL (l : Lk) : noL (encL l) = true := rfl
/-- one more at the list that a comprehension makes -/
theorem acc_step {D : Addr} {ys : List V} {ds : List PyData} {y : V} {d : PyData} (hD : H D = some (.lst ys)) (hn : noL.noLs ds = true) (hd : noL d = true) (h : DpAll K H ys ds) (hy : Dp K H y d) :
    DpAll K (upd H D (.lst (ys ++ [y]))) (ys ++ [y]) (ds ++ [d]) :=
  dpAll_snoc (dpAll_tups (Tups.upd_lst hD) _ _ hn h) (dp_tups (Tups.upd_lst hD) _ _ hd hy)
end
theorem same_set {H : Hp} {p : Addr} {o : HO} {H1 : Hp} (S : Same H H1) (hn : H p = none) : Same H (upd H1 p o) := fun b u e => by rw [upd_ne (ne_of_none e hn)]; exact S b u e
theorem take_snoc {α : Type} : ∀ {l : List α} {i : Nat} {x : α}, l[i]? = some x → l.take (i + 1) = l.take i ++ [x]
  | [], i, x, h => by simp at h
  | a :: l, 0, x, h => by
    have e : a = x := Option.some.inj h
    subst e
    rfl
  | a :: l, i + 1, x, h => by
    have ih := take_snoc (l := l) (i := i) (x := x) h
    show a :: l.take (i + 1) = a :: l.take i ++ [x]
    rw [ih]; rfl
theorem map_at {α β : Type} {f : α → β} {l : List α} {i : Nat} {y : β} (h : (l.map f)[i]? = some y) : ∃ x, l[i]? = some x ∧ y = f x := by
  rw [List.getElem?_map] at h
  cases e : l[i]? with
  | none => rw [e] at h; cases h
  | some x => rw [e] at h; exact ⟨x, rfl, (Option.some.inj h).symm⟩
end KA
namespace KA
open PySem PySem.Spec PyProof.Rows L2 DP
/-- what stood stands, but at t and g -/
def Keep (t g : Addr) (H H' : Hp) : Prop := ∀ b o, H b = some o → b ≠ t → b ≠ g → H' b = some o
theorem Keep.refl (t g : Addr) (H : Hp) : Keep t g H H := fun _ _ h _ _ => h
theorem Keep.trans {t g : Addr} {H H1 H2 : Hp} (a : Keep t g H H1) (b : Keep t g H1 H2) : Keep t g H H2 := fun c o h x y => b c o (a c o h x y) x y
/-- the tray: at t, its great numbers at g; no more than n draws so far went by the fold -/
structure Tray (H : Hp) (t g : Addr) (n : Nat) : Prop where
  ex : ∃ (gs : List Int) (l f c : Int), H t = some (.lst [.ref g, .int l, .int f, .int c]) ∧ H g = some (.lst (gs.map V.int)) ∧ gs.length ≤ 63 ∧ (∀ x ∈ gs, 0 ≤ x) ∧ 0 ≤ l ∧ 0 ≤ f ∧ f < 2 ^ 61 ∧ 0 ≤ c ∧ c ≤ (n : Int)
  ne : t ≠ g
theorem Tray.same {H H' : Hp} {t g : Addr} {n : Nat} (T : Tray H t g n) (S : Same H H') : Tray H' t g n := by
  obtain ⟨⟨gs, l, f, c, h1, h2, r⟩, hne⟩ := T
  exact ⟨⟨gs, l, f, c, S _ _ h1, S _ _ h2, r⟩, hne⟩
theorem Keep.of_same {t g : Addr} {H H' : Hp} (S : Same H H') : Keep t g H H' := fun b o e _ _ => S b o e
def spDraw : Sp := fun vs H Q _ => ∃ (t g : Addr) (n : Nat) (m : Int), vs = [.ref t, .int m] ∧ Tray H t g n ∧ 0 < m ∧ m.natAbs < 2 ^ 1000 ∧ n < 2 ^ 60 ∧
  ∀ (H' : Hp) (r : Int), 0 ≤ r → r < m → Tray H' t g (n + 1) → Keep t g H H' → Q (.int r) H'
/-- the length of the list at g -/
def lenAt (H : Hp) (g : Addr) : Nat := match H g with | some (.lst xs) => xs.length | _ => 0
theorem lenAt_of {H : Hp} {g : Addr} {xs : List V} (h : H g = some (.lst xs)) : lenAt H g = xs.length := by unfold lenAt; rw [h]
theorem shaped_ints (ns : List Int) : SeqAt.shaped (.list (ns.map .int)) = true := by
  have h1 : ∀ ns : List Int, PyData.canLayAll0 (ns.map .int) = true := by
    intro ns
    induction ns with
    | nil => rfl
    | cons a r ih => simp [PyData.canLayAll0, PyData.canLay0, ih]
  have h2 : ∀ ns : List Int, PyData.depthAll (ns.map .int) = 0 := PySem.W.depth_ints
  unfold SeqAt.shaped
  simp [PyData.canLay0, PyData.depth, h1, h2]
theorem pow_lt {i : Int} {a n : Nat} (h : i.natAbs < 2 ^ a) (h0 : n ≠ 0) : (i ^ n).natAbs < 2 ^ (a * n) := by
  rw [Int.natAbs_pow, Nat.pow_mul]
  exact Nat.pow_lt_pow_left h h0
theorem seqIx0 {n : Nat} (h : 0 < n) : seqIndex? 0 n = some 0 := by
  unfold seqIndex?
  simp
  omega
theorem while_post {c : TT} {tb : TS} {D : Ends} {σ : L2.St} {H : Hp} (Pv : L2.St → Hp → Prop) (μ : L2.St → Hp → Nat) (Po : L2.St → Hp → Prop) (h0 : Pv σ H)
    (hs : ∀ σ H, Pv σ H → c σ H fun b H1 => if b = true then tb { D with nx := fun σ' H' => Pv σ' H' ∧ μ σ' H' < μ σ H, ct := fun σ' H' => Pv σ' H' ∧ μ σ' H' < μ σ H, bk := D.nx } σ H1 else Po σ H1)
    (hd : ∀ σ H, Po σ H → D.nx σ H) (mono : ∀ σ H Q Q', (∀ b H1, Q b H1 → Q' b H1) → c σ H Q → c σ H Q') : tWhile c tb D σ H :=
  while_by Pv μ h0 (fun σ1 H1 p => mono σ1 H1 _ _ (fun b H2 q => by
    cases b with
    | true => exact q
    | false => exact hd _ _ q) (hs σ1 H1 p)) mono
section
variable {P : Program} {w : World} {K : PySem.W.Frag} {mg : Str → Option Value} {base : Heap} {Z : Ad}
theorem ok_law_draw (T : Tx K w mg Z) : FnOk P w K mg base CX0 1 Z.a_law_draw Z.d_law_draw P_law_draw (spDraw) := by
  refine T.F_law_draw.ok sclaw_draw (fun vs H Q E h => ?_) (fun cdv A outer s H vs Q E hr h => ?_)
  · obtain ⟨t, g, n, m, rfl, _⟩ := h
    rfl
  · obtain ⟨t, g, n, m, rfl, ⟨ht, hne⟩, hm, hmb, hn, k⟩ := h
    refine ⟨_, (C8.pss_cut (ps_while PassesOwn.never (PW.pt (pw_and (pt_cmpR op_lt (pe_ix (ixL (K := K)) (pv 0) pe_int (fun _ _ => rfl)) pe_int (nomark _)) (pw_and1 (pt_cmpR (neDK (K := K) hr.units) (pe_ix (ixL (K := K)) (pv 0) pe_int (fun _ _ => rfl)) (pe_lst pa_nil) (nomark _))))) (pss_one (ps_asg (pe_bm PySem.F.plainAttrs_list PySem.F.slot_list_pop PySem.F.type_list_pop mt_popAt (pe_ix (ixL (K := K)) (pv 0) pe_int (fun _ _ => rfl)) (pa_cons pe_int pa_nil)) (pg_sub (pv 0) pe_int set_list))))
      (C8.pss_cut (ps_if (pt_cmpR op_ge (pe_ix (ixL (K := K)) (pv 0) pe_int (fun _ _ => rfl)) pe_int (nomark _)) (pss_cons (ps_set (i := 2) sclaw_draw.nd rfl (Or.inl rfl) (pe_op op_mod (pe_ix (ixL (K := K)) (pv 0) pe_int (fun _ _ => rfl)) (pv 1)))
      (pss_cons (ps_asg (pe_op op_fdivW (pe_ix (ixL (K := K)) (pv 0) pe_int (fun _ _ => rfl)) (pv 1)) (pg_sub (pv 0) pe_int set_list))
      (pss_one (ps_ret (pv 2))))) pss_nil)
      (pss_cons (ps_asg (pe_op op_add (pe_ix (ixL (K := K)) (pv 0) pe_int (fun _ _ => rfl)) pe_int) (pg_sub (pv 0) pe_int set_list))
      (pss_cons (ps_set (i := 3) sclaw_draw.nd rfl (Or.inl rfl) (pe_op op_mod (pe_op op_add (pe_op op_mulW (pe_op op_add (pe_ix (ixL (K := K)) (pv 0) pe_int (fun _ _ => rfl)) pe_int) (pe_op op_pow (pe_op op_add (pe_ix (ixL (K := K)) (pv 0) pe_int (fun _ _ => rfl)) pe_int) pe_int)) (pe_op op_mulW pe_int (pe_ix (ixL (K := K)) (pv 0) pe_int (fun _ _ => rfl)))) (pe_op op_sub (pe_op op_pow pe_int pe_int) pe_int)))
      (pss_one (ps_ret (pe_op op_mod (pe_op op_fdivW (pe_op op_mod (pe_op op_pow (pv 3) pe_int) (pe_op op_add (pe_op op_pow pe_int pe_int) pe_int)) pe_int) (pv 1)))))))), ?_⟩
    -- while tray[1] < 2 and tray[0] != []
    refine ⟨fun σ' H' => σ' = [some (.ref t), some (.int m), none, none] ∧ Tray H' t g n ∧ Keep t g H H', ?_, ?_⟩
    · refine while_post (fun σ' H' => σ' = [some (.ref t), some (.int m), none, none] ∧ Tray H' t g n ∧ Keep t g H H') (fun _ H' => lenAt H' g) (fun σ' H' => σ' = [some (.ref t), some (.int m), none, none] ∧ Tray H' t g n ∧ Keep t g H H') ⟨rfl, ⟨ht, hne⟩, Keep.refl _ _ _⟩ ?_ (fun _ _ q => q) ?_
      · rintro σ1 H1 ⟨rfl, ⟨⟨gs, l, f, c, h1, h2, hl, hge, hl0, hf0, hf1, hc0, hc1⟩, _⟩, kp⟩
        refine ⟨_, rfl, _, _, _, _, rfl, rfl, SqL.of h1, rfl, _, _, rfl, rfl, _, rfl, ?_⟩
        refine ite2 (fun hlt => ?_) (fun hnl => ?_)
        · refine ⟨_, rfl, _, _, _, _, rfl, rfl, SqL.of h1, rfl, (by show 0 ≤ sizeLine; decide), fun p hp => ?_⟩
          have g2 : (upd H1 p (.lst [])) g = some (.lst (gs.map V.int)) := (upd_ne (ne_of_none h2 hp)).trans h2
          have g1 : (upd H1 p (.lst [])) t = some (.lst [.ref g, .int l, .int f, .int c]) := (upd_ne (ne_of_none h1 hp)).trans h1
          have kp1 : Keep t g H (upd H1 p (.lst [])) := fun b o e n1 n2 => (upd_ne (ne_of_none (kp b o e n1 n2) hp)).trans (kp b o e n1 n2)
          refine ⟨_, _, .lst (SqL.of g2) (dpAll_ints gs), .lst (SqL.of upd_same) .nil, shaped_ints gs, rfl, _, rfl, ?_⟩
          cases gs with
          | nil => exact iteF ⟨rfl, ⟨⟨[], l, f, c, g1, g2, hl, hge, hl0, hf0, hf1, hc0, hc1⟩, hne⟩, kp1⟩
          | cons y ys =>
            refine iteT ?_
            -- tray[1] = tray[0].pop(0)
            refine ⟨_, rfl, _, _, _, _, rfl, rfl, SqL.of g1, rfl, .inl ⟨rfl, _, SqL.of g2⟩, _, _, _, 0, _, rfl, rfl, g2, by decide, by decide, seqIx0 (by simp), rfl, ?_⟩
            refine ⟨_, rfl, _, _, _, 1, rfl, rfl, (upd_ne hne).trans g1, rfl, ?_⟩
            refine ⟨⟨rfl, ⟨⟨ys, y, f, c, upd_same, (upd_ne (Ne.symm hne)).trans upd_same, ?_, ?_, ?_, hf0, hf1, hc0, hc1⟩, hne⟩, ?_⟩, ?_⟩
            · simp at hl; omega
            · exact fun x hx => hge x (List.mem_cons_of_mem _ hx)
            · exact hge y List.mem_cons_self
            · exact fun b o e n1 n2 => (upd_ne n1).trans ((upd_ne n2).trans (kp1 b o e n1 n2))
            · rw [lenAt_of ((upd_ne (Ne.symm hne)).trans upd_same), lenAt_of h2]
              simp
        · exact iteF ⟨rfl, ⟨⟨gs, l, f, c, h1, h2, hl, hge, hl0, hf0, hf1, hc0, hc1⟩, hne⟩, kp⟩
      · intro σ1 H1 Q1 Q2 hQ hc
        obtain ⟨v, hv, p, xs, i, x, e1, e2, hs, ha, i1, j1, e3, e4, k1, ek, hif⟩ := hc
        refine ⟨v, hv, p, xs, i, x, e1, e2, hs, ha, i1, j1, e3, e4, k1, ek, ?_⟩
        cases k1 with
        | false => exact hQ _ _ hif
        | true =>
          obtain ⟨v, hv, p, xs, i, x, e1, e2, hs, ha, hz, hp⟩ := hif
          refine ⟨v, hv, p, xs, i, x, e1, e2, hs, ha, hz, fun p' np => ?_⟩
          obtain ⟨d, e, d1, d2, s1, s2, b, eb, q⟩ := hp p' np
          exact ⟨d, e, d1, d2, s1, s2, b, eb, hQ _ _ q⟩
    · rintro σ1 H1 ⟨rfl, ⟨⟨gs, l, f, c, h1, h2, hl, hge, hl0, hf0, hf1, hc0, hc1⟩, _⟩, kp⟩
      refine ⟨fun σ' H' => σ' = [some (.ref t), some (.int m), none, none] ∧ H' = H1, ?_, ?_⟩
      · refine ⟨_, rfl, _, _, _, _, rfl, rfl, SqL.of h1, rfl, _, _, rfl, rfl, _, rfl, ?_⟩
        refine ite2 (fun hge2 => ?_) (fun _ => ⟨rfl, rfl⟩)
        refine ⟨_, rfl, _, _, _, _, rfl, rfl, SqL.of h1, rfl, _, rfl, _, _, rfl, rfl, hm, ?_⟩
        refine ⟨_, rfl, _, _, _, _, rfl, rfl, SqL.of h1, rfl, _, rfl, _, _, rfl, rfl, wide_div hm hmb (by decide) (by decide), _, rfl, _, _, _, 1, rfl, rfl, h1, rfl, _, rfl, ?_⟩
        refine k _ _ (Int.emod_nonneg _ (by omega)) (Int.emod_lt_of_pos _ hm) ⟨⟨gs, l / m, f, c, upd_same, (upd_ne (Ne.symm hne)).trans h2, hl, hge, Int.ediv_nonneg hl0 (by omega), hf0, hf1, hc0, by push_cast; omega⟩, hne⟩ fun b o e n1 n2 => (upd_ne n1).trans (kp b o e n1 n2)
      · rintro σ2 H2 ⟨rfl, rfl⟩
        refine ⟨_, rfl, _, _, _, _, rfl, rfl, SqL.of h1, rfl, _, _, rfl, rfl, _, rfl, _, _, _, 3, rfl, rfl, h1, rfl, ?_⟩
        have g1 : (upd H2 t (.lst (List.set [.ref g, .int l, .int f, .int c] 3 (.int (c + 1))))) t = some (.lst [.ref g, .int l, .int f, .int (c + 1)]) := upd_same
        have bf : (f + 5).natAbs < 2 ^ 63 := by omega
        have bc : (c + 1 + 2).natAbs < 2 ^ 61 := by omega
        have b3 : ((c + 1 + 2) ^ (3 : Int).toNat).natAbs < 2 ^ (61 * 3) := pow_lt bc (by decide)
        refine ⟨_, rfl, _, _, _, _, rfl, rfl, SqL.of g1, rfl, _, _, rfl, rfl, _, rfl, _, _, _, _, rfl, rfl, SqL.of g1, rfl, _, _, rfl, rfl, _, _, rfl, rfl, ⟨by decide, by decide, Nat.lt_trans bc (by decide)⟩, _, _, rfl, rfl, wide_mul bf b3 (by decide) (by decide) (by decide), ?_⟩
        refine ⟨_, rfl, _, _, _, _, rfl, rfl, SqL.of g1, rfl, _, _, rfl, rfl, wide_mul (a := 30) (b := 61) (by decide) (by omega) (by decide) (by decide) (by decide), _, _, rfl, rfl, ?_⟩
        refine ⟨_, _, rfl, rfl, ⟨by decide, by decide, by decide⟩, _, _, rfl, rfl, _, _, rfl, rfl, (by show (0 : Int) < _; decide), ?_⟩
        have hx0 := Int.emod_nonneg ((f + 5) * (c + 1 + 2) ^ (3 : Int).toNat + 1000003 * (c + 1)) (show (2 : Int) ^ (61 : Int).toNat - 1 ≠ 0 by decide)
        have hx1 := Int.emod_lt_of_pos ((f + 5) * (c + 1 + 2) ^ (3 : Int).toNat + 1000003 * (c + 1)) (show (0 : Int) < (2 : Int) ^ (61 : Int).toNat - 1 by decide)
        have e61 : (2 : Int) ^ (61 : Int).toNat - 1 = 2305843009213693951 := by decide
        rw [e61] at hx0 hx1
        refine ⟨_, rfl, _, _, rfl, rfl, ⟨by decide, by decide, ?_⟩, _, _, rfl, rfl, ⟨by decide, by decide, by decide⟩, _, _, rfl, rfl, _, _, rfl, rfl, (by show (0 : Int) < _; decide), _, _, rfl, rfl, wide_div (b := 10) (by decide) (by decide) (by decide) (by decide), _, rfl, _, _, rfl, rfl, hm, ?_⟩
        · show (((f + 5) * (c + 1 + 2) ^ (3 : Int).toNat + 1000003 * (c + 1)) % ((2 : Int) ^ (61 : Int).toNat - 1)).natAbs < 2 ^ 64
          rw [e61]
          omega
        · refine k _ _ (Int.emod_nonneg _ (by omega)) (Int.emod_lt_of_pos _ hm) ⟨⟨gs, l, f, c + 1, g1, (upd_ne (Ne.symm hne)).trans h2, hl, hge, hl0, hf0, hf1, by omega, by push_cast; omega⟩, hne⟩ fun b o e n1 n2 => (upd_ne n1).trans (kp b o e n1 n2)
end
end KA
namespace KA
open PySem PySem.Spec PyProof.Rows L2 DP
def spPlace (K : PySem.W.Frag) : Sp := fun vs H Q _ => ∃ (v : V) (l : Lk) (sd : Str) (x L : Int), vs = [v, .str sd, .int x, .int L] ∧ Dp K H v (encL l) ∧ SideOk sd ∧ 0 < L ∧ L.natAbs < 2 ^ 200 ∧ x.natAbs < 2 ^ 400 ∧ Sized 400 l ∧ Q (.int (plc sd l x L)) H
def spFar (K : PySem.W.Frag) (f : Lk → Lk → Int → Bool) : Sp := fun vs H Q _ => ∃ (v u : V) (a b : Lk) (L : Int), vs = [v, u, .int L] ∧ Dp K H v (encL a) ∧ Dp K H u (encL b) ∧ WordOk a.1 ∧ WordOk b.1 ∧ 0 < L ∧ L.natAbs < 2 ^ 200 ∧ Sized 400 a ∧ Sized 400 b ∧ Q (.bl (f a b L)) H
section
variable {P : Program} {w : World} {K : PySem.W.Frag} {mg : Str → Option Value} {base : Heap} {Z : Ad}
theorem ok_place_by (T : Tx K w mg Z) : FnOk P w K mg base CX0 1 Z.a_place_by Z.d_place_by P_place_by (spPlace K) := by
  refine T.F_place_by.ok scplace_by (fun vs H Q E h => ?_) (fun cdv A outer s H vs Q E hr h => ?_)
  · obtain ⟨v, l, sd, x, L, rfl, _⟩ := h
    rfl
  · obtain ⟨v, l, sd, x, L, rfl, hv, hsd, hL, hLb, hx, hl, k⟩ := h
    obtain ⟨a, rfl, ha⟩ := dp_look hv
    refine ⟨_, (pss_cons (ps_asg (pv 0) (tupK (K := K) (by rfl) (pgs_cons (pg_name (i := 4) scplace_by.nd rfl (Or.inl rfl)) (pgs_cons (pg_name (i := 5) scplace_by.nd rfl (Or.inl rfl)) (pgs_cons (pg_name (i := 6) scplace_by.nd rfl (Or.inl rfl)) pgs_nil)))))
      (C8.pss_cut (ps_if (pt_cmpR op_eq (pv 1) (pe_glob rfl T.g_SLOW T.r_SLOW) (nomark _)) (pss_one (ps_ret (pe_op op_add (pv 6) (pe_op op_mulW (pe_op op_fdivW (pe_op op_sub (pv 2) (pv 5)) (pv 3)) (pv 3))))) pss_nil)
      (pss_one (ps_ret (pe_op op_sub (pv 6) (pe_op op_mulW (pe_op op_fdivW (pe_op op_sub (pv 5) (pv 2)) (pv 3)) (pv 3))))))), ?_⟩
    refine ⟨_, rfl, _, _, rfl, ha, rfl, _, _, rfl, _, _, rfl, _, _, rfl, rfl, ?_⟩
    have e1 : (x - l.2.1).natAbs < 2 ^ 401 := sub_lt hx hl.1
    have e2 : (l.2.1 - x).natAbs < 2 ^ 401 := sub_lt hl.1 hx
    rcases hsd with e | e
    · subst e
      rw [plc_slow] at k
      refine ⟨fun _ _ => False, ⟨_, rfl, rfl, _, rfl, iteT ⟨_, rfl, _, rfl, _, rfl, _, _, rfl, rfl, _, rfl, _, _, rfl, rfl, wide_div hL hLb (by decide) (by decide), _, rfl, _, _, rfl, rfl, wide_mul (div_lt hL e1) hLb (by decide) (by decide) (by decide), _, _, rfl, rfl, k⟩⟩, fun _ _ z => z.elim⟩
    · subst e
      rw [plc_fast] at k
      refine ⟨fun σ' H' => σ' = [some (.ref a), some (.str "fast"), some (.int x), some (.int L), some (.str l.1), some (.int l.2.1), some (.int l.2.2)] ∧ H' = H, ⟨_, rfl, rfl, _, rfl, ?_⟩, ?_⟩
      · have e3 : decide (V.str "fast" = V.str "slow") = false := by decide +kernel
        rw [e3]
        exact iteF ⟨rfl, rfl⟩
      · rintro σ1 H1 ⟨rfl, rfl⟩
        exact ⟨_, rfl, _, rfl, _, rfl, _, _, rfl, rfl, _, rfl, _, _, rfl, rfl, wide_div hL hLb (by decide) (by decide), _, rfl, _, _, rfl, rfl, wide_mul (div_lt hL e2) hLb (by decide) (by decide) (by decide), _, _, rfl, rfl, k⟩
theorem ok_too_far (T : Tx K w mg Z) : FnOk P w K mg base CX0 2 Z.a_too_far Z.d_too_far P_too_far (spFar K tooFar) := by
  refine T.F_too_far.ok sctoo_far (fun vs H Q E h => ?_) (fun cdv A outer s H vs Q E hr h => ?_)
  · obtain ⟨v, u, a, b, L, rfl, _⟩ := h
    rfl
  · obtain ⟨v, u, a, b, L, rfl, hv, hu, wa, wb, hL, hLb, sa, sb, k⟩ := h
    obtain ⟨p, rfl, hp⟩ := dp_look hv
    obtain ⟨q, rfl, hq⟩ := dp_look hu
    obtain ⟨es, n, DW⟩ := T.kd_WORDS
    obtain ⟨da1, da2, _⟩ := decl_words wa
    obtain ⟨db1, db2, _⟩ := decl_words wb
    refine ⟨_, (C8.pss_cut (ps_if (PW.pt (pw_or (pt_cmpR (notInS (K := K)) (pe_ix (ixT (K := K)) (pv 0) pe_int (fun _ _ => rfl)) (pe_ix (ix_kd DW) (pe_glob (v := .ref Z.a_WORDS) rfl T.g_WORDS rfl) (pe_glob rfl T.g_SLOW T.r_SLOW) (fun _ _ => rfl)) (by rfl)) (pw_or1 (pt_cmpR (notInS (K := K)) (pe_ix (ixT (K := K)) (pv 1) pe_int (fun _ _ => rfl)) (pe_ix (ix_kd DW) (pe_glob (v := .ref Z.a_WORDS) rfl T.g_WORDS rfl) (pe_glob rfl T.g_FAST T.r_FAST) (fun _ _ => rfl)) (by rfl))))) (pss_one (ps_ret pe_bl)) pss_nil)
      (pss_one (ps_ret (pe_cmpR op_gt (pe_call (ok_place_by T) (hr.mono (by decide)) (by rfl) T.g_place_by T.F_place_by.kp T.bb_place_by .nil pass0 (pa_cons (pv 0) (pa_cons (pe_glob rfl T.g_SLOW T.r_SLOW) (pa_cons (pe_ix (ixT (K := K)) (pv 1) pe_int (fun _ _ => rfl)) (pa_cons (pv 2) pa_nil))))) (pe_ix (ixT (K := K)) (pv 1) pe_int (fun _ _ => rfl)) (nomark _))))), ?_⟩
    unfold tooFar at k
    refine ⟨fun σ' H' => σ' = [some (.ref p), some (.ref q), some (.int L)] ∧ H' = H ∧ onSide "slow" a.1 = true ∧ onSide "fast" b.1 = true, ?_, ?_⟩
    · refine ⟨_, rfl, _, _, _, _, rfl, rfl, hp, rfl, _, _, .ref Z.t_slow, rfl, rfl, T.w_slow, rfl, _, _, rfl, .inr (T.q_slow _), rfl, rfl, _, rfl, ?_⟩
      cases c1 : onSide "slow" a.1 with
      | false =>
        rw [c1] at da1 k
        have : (if true = true then !inV (V.str a.1) [V.str "at", V.str "from"] else inV (V.str a.1) [V.str "at", V.str "from"]) = true := by rw [if_pos rfl, da1]; rfl
        rw [this]
        exact iteT (iteT k)
      | true =>
        rw [c1] at da1
        have : (if true = true then !inV (V.str a.1) [V.str "at", V.str "from"] else inV (V.str a.1) [V.str "at", V.str "from"]) = false := by rw [if_pos rfl, da1]; rfl
        rw [this]
        refine iteF ⟨_, rfl, _, _, _, _, rfl, rfl, hq, rfl, _, _, .ref Z.t_fast, rfl, rfl, T.w_fast, rfl, _, _, rfl, .inr (T.q_fast _), rfl, rfl, _, rfl, ?_⟩
        cases c2 : onSide "fast" b.1 with
        | false =>
          rw [c2] at db2
          rw [c1, c2] at k
          have : (if true = true then !inV (V.str b.1) [V.str "at", V.str "upto"] else inV (V.str b.1) [V.str "at", V.str "upto"]) = true := by rw [if_pos rfl, db2]; rfl
          rw [this]
          exact iteT k
        | true =>
          rw [c2] at db2
          have : (if true = true then !inV (V.str b.1) [V.str "at", V.str "upto"] else inV (V.str b.1) [V.str "at", V.str "upto"]) = false := by rw [if_pos rfl, db2]; rfl
          rw [this]
          exact iteF ⟨rfl, rfl, rfl, rfl⟩
    · rintro σ1 H1 ⟨rfl, rfl, c1, c2⟩
      rw [c1, c2] at k
      refine ⟨_, rfl, _, rfl, _, _, _, _, rfl, rfl, hq, rfl, _, rfl, ?_⟩
      exact ⟨_, a, "slow", b.2.1, L, rfl, hv, .inl rfl, hL, hLb, sb.1, sa, _, rfl, _, _, _, _, rfl, rfl, hq, rfl, _, _, rfl, rfl, k⟩
theorem ok_clash (T : Tx K w mg Z) : FnOk P w K mg base CX0 3 Z.a_clash Z.d_clash P_clash (spFar K clashB) := by
  refine T.F_clash.ok scclash (fun vs H Q E h => ?_) (fun cdv A outer s H vs Q E hr h => ?_)
  · obtain ⟨v, u, a, b, L, rfl, _⟩ := h
    rfl
  · obtain ⟨v, u, a, b, L, rfl, hv, hu, wa, wb, hL, hLb, sa, sb, k⟩ := h
    refine ⟨_, (pss_one (ps_ret (pe_or (pe_call (ok_too_far T) (hr.mono (by decide)) (by rfl) T.g_too_far T.F_too_far.kp T.bb_too_far .nil pass0 (pa_cons (pv 0) (pa_cons (pv 1) (pa_cons (pv 2) pa_nil)))) (pe_one (pe_call (ok_too_far T) (hr.mono (by decide)) (by rfl) T.g_too_far T.F_too_far.kp T.bb_too_far .nil pass0 (pa_cons (pv 1) (pa_cons (pv 0) (pa_cons (pv 2) pa_nil)))))))), ?_⟩
    unfold clashB at k
    refine ⟨_, rfl, _, rfl, _, rfl, v, u, a, b, L, rfl, hv, hu, wa, wb, hL, hLb, sa, sb, _, rfl, ?_⟩
    cases c : tooFar a b L with
    | true => rw [c] at k; exact iteT k
    | false =>
      rw [c] at k
      exact iteF ⟨_, rfl, _, rfl, _, rfl, u, v, b, a, L, rfl, hu, hv, wb, wa, hL, hLb, sb, sa, k⟩
end
end KA
namespace KA
open PySem PySem.Spec PyProof.Rows L2 DP
def sideOf (sd : Str) (ls : List Lk) : List Lk := ls.filter fun l => onSide sd l.1
def spSide (K : PySem.W.Frag) : Sp := fun vs H Q _ => ∃ (v : V) (ls : List Lk) (sd : Str), vs = [v, .str sd] ∧ Dp K H v (.list (ls.map encL)) ∧ SideOk sd ∧ (∀ l ∈ ls, WordOk l.1) ∧ ls.length ≤ 1000 ∧
  ∀ H' r, Same H H' → Dp K H' r (.list ((sideOf sd ls).map encL)) → Q r H'
/-- a step: where, by which look -/
def encS (sd : Str) (x L : Int) (l : Lk) : PyData := .tuple [.int (plc sd l x L), encL l]
/-- the best step's place -/
def IsBest (sd : Str) (ls : List Lk) (x L m : Int) : Prop := (∃ l ∈ ls, plc sd l x L = m) ∧ ∀ l ∈ ls, if sd = "slow" then plc sd l x L ≤ m else m ≤ plc sd l x L
def spBest (K : PySem.W.Frag) : Sp := fun vs H Q _ => ∃ (v : V) (ls : List Lk) (sd : Str) (x L : Int), vs = [v, .str sd, .int x, .int L] ∧ Dp K H v (.list (ls.map encL)) ∧ SideOk sd ∧ (∀ l ∈ ls, WordOk l.1 ∧ Sized 400 l) ∧ ls.length ≤ 1000 ∧ 0 < L ∧ L.natAbs < 2 ^ 200 ∧ x.natAbs < 2 ^ 400 ∧
  (ls = [] → Q .non H) ∧ ∀ H' r l, l ∈ ls → Same H H' → IsBest sd ls x L (plc sd l x L) → Dp K H' r (encS sd x L l) → Q r H'
/-! ### the best step -/
theorem alike_step (sd : Str) (x L : Int) (a b : Lk) : PySem.W.alike (encS sd x L a) (encS sd x L b) = true := by simp [encS, encL, PySem.W.alike, PySem.W.alikeAll]
theorem steps_alike (sd : Str) (x L : Int) (ls : List Lk) : PySem.W.AlikeAll (ls.map (encS sd x L)) := by
  refine ⟨fun a ha b hb => ?_, fun a ha => ?_⟩
  · obtain ⟨p, _, rfl⟩ := List.mem_map.mp ha
    obtain ⟨q, _, rfl⟩ := List.mem_map.mp hb
    exact alike_step _ _ _ _ _
  · obtain ⟨p, _, rfl⟩ := List.mem_map.mp ha
    exact fun e => by cases e
theorem lay_look {l : Lk} (h : WordOk l.1) : (encL l).canLay0 = true := by
  obtain ⟨a, b, c⟩ := l
  have h : WordOk a := h
  rcases h with e | e | e <;> subst e <;> simp [encL, PyData.canLay0, PyData.canLayAll0] <;> decide +kernel
theorem steps_lay (sd : Str) (x L : Int) : ∀ ls : List Lk, (∀ l ∈ ls, WordOk l.1) → PyData.canLayAll0 (ls.map (encS sd x L)) = true
  | [], _ => rfl
  | l :: ls, h => by
    have h1 := lay_look (h l List.mem_cons_self)
    have h2 := steps_lay sd x L ls fun q hq => h q (List.mem_cons_of_mem _ hq)
    show PyData.canLayAll0 (encS sd x L l :: ls.map (encS sd x L)) = true
    simp [PyData.canLayAll0, h2, encS, PyData.canLay0, h1]
theorem steps_depth (sd : Str) (x L : Int) : ∀ ls : List Lk, PyData.depthAll (ls.map (encS sd x L)) ≤ 60
  | [] => by simp [PyData.depthAll]
  | l :: ls => by
    have h2 := steps_depth sd x L ls
    show PyData.depthAll (encS sd x L l :: ls.map (encS sd x L)) ≤ 60
    have h3 : (encS sd x L l).depth = 2 := by simp [encS, encL, PyData.depth, PyData.depthAll]
    rw [PyData.depthAll, h3]
    omega
/-- a greater place is a greater step -/
theorem lt_step {sd : Str} {x L : Int} {a b : Lk} (h : plc sd a x L < plc sd b x L) : PySem.W.dataLt (encS sd x L a) (encS sd x L b) = true := by
  unfold encS
  rw [PySem.W.dataLt_tuple, PySem.W.dataLt_cons (by simp [PySem.W.alike])]
  have e : PyData.eqv (.int (plc sd a x L)) (.int (plc sd b x L)) = false := by simp [PyData.eqv]; omega
  rw [e, if_neg Bool.false_ne_true, PySem.W.dataLt_int]
  exact decide_eq_true h
theorem le_step {sd : Str} {x L : Int} {a b : Lk} (h : PySem.W.dataLt (encS sd x L a) (encS sd x L b) = true) : plc sd a x L ≤ plc sd b x L := by
  unfold encS at h
  rw [PySem.W.dataLt_tuple, PySem.W.dataLt_cons (by simp [PySem.W.alike])] at h
  by_cases e : plc sd a x L = plc sd b x L
  · omega
  · have e' : PyData.eqv (.int (plc sd a x L)) (.int (plc sd b x L)) = false := by simp [PyData.eqv]; omega
    rw [e', if_neg Bool.false_ne_true, PySem.W.dataLt_int] at h
    have := of_decide_eq_true h
    omega
theorem max_go (x L : Int) : ∀ (ls : List Lk) (l : Lk), ∃ q, (q = l ∨ q ∈ ls) ∧ (ls.map (encS "slow" x L)).foldl (fun a y => if PySem.W.dataLt a y then y else a) (encS "slow" x L l) = encS "slow" x L q ∧ plc "slow" l x L ≤ plc "slow" q x L ∧ ∀ p ∈ ls, plc "slow" p x L ≤ plc "slow" q x L
  | [], l => ⟨l, .inl rfl, rfl, Int.le_refl _, fun _ h => by cases h⟩
  | y :: ls, l => by
    rw [List.map_cons, List.foldl_cons]
    cases c : PySem.W.dataLt (encS "slow" x L l) (encS "slow" x L y) with
    | true =>
      rw [if_pos rfl]
      obtain ⟨q, hq, e, h1, h2⟩ := max_go x L ls y
      have := le_step c
      refine ⟨q, ?_, e, by omega, fun p hp => ?_⟩
      · rcases hq with e | e
        · subst e; exact .inr List.mem_cons_self
        · exact .inr (List.mem_cons_of_mem _ e)
      · rcases List.mem_cons.mp hp with e | e
        · subst e; exact h1
        · exact h2 p e
    | false =>
      rw [if_neg Bool.false_ne_true]
      obtain ⟨q, hq, e, h1, h2⟩ := max_go x L ls l
      refine ⟨q, ?_, e, h1, fun p hp => ?_⟩
      · rcases hq with e | e
        · exact .inl e
        · exact .inr (List.mem_cons_of_mem _ e)
      · rcases List.mem_cons.mp hp with e | e
        · subst e
          by_cases hlt : plc "slow" l x L < plc "slow" p x L
          · rw [lt_step hlt] at c; cases c
          · omega
        · exact h2 p e
theorem max_step (x L : Int) (l : Lk) (ls : List Lk) : ∃ q, q ∈ l :: ls ∧ PySem.W.maxD (encS "slow" x L l) (ls.map (encS "slow" x L)) = encS "slow" x L q ∧ IsBest "slow" (l :: ls) x L (plc "slow" q x L) := by
  obtain ⟨q, hq, e, h1, h2⟩ := max_go x L ls l
  have hm : q ∈ l :: ls := by
    rcases hq with e | e
    · subst e; exact List.mem_cons_self
    · exact List.mem_cons_of_mem _ e
  refine ⟨q, hm, e, ⟨q, hm, rfl⟩, fun p hp => ?_⟩
  rw [if_pos rfl]
  rcases List.mem_cons.mp hp with e | e
  · subst e; exact h1
  · exact h2 p e
theorem min_go (x L : Int) : ∀ (ls : List Lk) (l : Lk), ∃ q, (q = l ∨ q ∈ ls) ∧ (ls.map (encS "fast" x L)).foldl (fun a y => if PySem.W.dataLt y a then y else a) (encS "fast" x L l) = encS "fast" x L q ∧ plc "fast" q x L ≤ plc "fast" l x L ∧ ∀ p ∈ ls, plc "fast" q x L ≤ plc "fast" p x L
  | [], l => ⟨l, .inl rfl, rfl, Int.le_refl _, fun _ h => by cases h⟩
  | y :: ls, l => by
    rw [List.map_cons, List.foldl_cons]
    cases c : PySem.W.dataLt (encS "fast" x L y) (encS "fast" x L l) with
    | true =>
      rw [if_pos rfl]
      obtain ⟨q, hq, e, h1, h2⟩ := min_go x L ls y
      have := le_step c
      refine ⟨q, ?_, e, by omega, fun p hp => ?_⟩
      · rcases hq with e | e
        · subst e; exact .inr List.mem_cons_self
        · exact .inr (List.mem_cons_of_mem _ e)
      · rcases List.mem_cons.mp hp with e | e
        · subst e; exact h1
        · exact h2 p e
    | false =>
      rw [if_neg Bool.false_ne_true]
      obtain ⟨q, hq, e, h1, h2⟩ := min_go x L ls l
      refine ⟨q, ?_, e, h1, fun p hp => ?_⟩
      · rcases hq with e | e
        · exact .inl e
        · exact .inr (List.mem_cons_of_mem _ e)
      · rcases List.mem_cons.mp hp with e | e
        · subst e
          by_cases hlt : plc "fast" p x L < plc "fast" l x L
          · rw [lt_step hlt] at c; cases c
          · omega
        · exact h2 p e
theorem min_step (x L : Int) (l : Lk) (ls : List Lk) : ∃ q, q ∈ l :: ls ∧ PySem.W.minD (encS "fast" x L l) (ls.map (encS "fast" x L)) = encS "fast" x L q ∧ IsBest "fast" (l :: ls) x L (plc "fast" q x L) := by
  obtain ⟨q, hq, e, h1, h2⟩ := min_go x L ls l
  have hm : q ∈ l :: ls := by
    rcases hq with e | e
    · subst e; exact List.mem_cons_self
    · exact List.mem_cons_of_mem _ e
  refine ⟨q, hm, e, ⟨q, hm, rfl⟩, fun p hp => ?_⟩
  rw [if_neg slow_ne]
  rcases List.mem_cons.mp hp with e | e
  · subst e; exact h1
  · exact h2 p e
section
variable {P : Program} {w : World} {K : PySem.W.Frag} {mg : Str → Option Value} {base : Heap} {Z : Ad}
theorem words_side {sd x : Str} (hs : SideOk sd) (hx : WordOk x) : inV (.str x) (if sd = "slow" then [.str "at", .str "from"] else [.str "at", .str "upto"]) = onSide sd x := by
  obtain ⟨h1, h2, _⟩ := decl_words hx
  rcases hs with e | e
  · subst e; rw [if_pos rfl]; exact h1
  · subst e; rw [if_neg slow_ne]; exact h2
theorem ok_side_looks (T : Tx K w mg Z) : FnOk P w K mg base CX0 1 Z.a_side_looks Z.d_side_looks P_side_looks (spSide K) := by
  refine T.F_side_looks.ok scside_looks (fun vs H Q E h => ?_) (fun cdv A outer s H vs Q E hr h => ?_)
  · obtain ⟨v, ls, sd, rfl, _⟩ := h
    rfl
  · obtain ⟨v, ls, sd, rfl, hv, hsd, hw, hlen, k⟩ := h
    obtain ⟨a, xs, rfl, ha, hd⟩ := dp_list hv
    obtain ⟨es, n, DW⟩ := T.kd_WORDS
    have hxl : xs.length = ls.length := by rw [dpAll_len hd, List.length_map]
    obtain ⟨tw, htw, hqw⟩ : ∃ tw, PySem.W.nsIn K Z.a_WORDS sd = some (some (.ref tw)) ∧ ∀ H, SqT K H tw (if sd = "slow" then [.str "at", .str "from"] else [.str "at", .str "upto"]) := by
      rcases hsd with e | e
      · subst e; exact ⟨_, T.w_slow, fun H => by rw [if_pos rfl]; exact T.q_slow H⟩
      · subst e; exact ⟨_, T.w_fast, fun H => by rw [if_neg slow_ne]; exact T.q_fast H⟩
    refine ⟨_, (pss_cons (ps_set (i := 2) scside_looks.nd rfl (Or.inr rfl) (pe_ix (ix_kd DW) (pe_glob (v := .ref Z.a_WORDS) rfl T.g_WORDS rfl) (pv 1) (fun _ _ => rfl)))
      (pss_one (ps_ret (pe_lc (own := [("look", 3)]) (g := gName 3) (tt := _) rfl scside_looks.nd (pi_list (pv 0)) (blkOk_by (own := [("look", 3)]) (N := N_side_looks) (sc := defScope sside_looks) (by decide +kernel)) (fun _ _ _ _ _ => (pg_name (i := 3) scside_looks.nd rfl (Or.inl rfl))) (fun _ _ _ _ _ => (pts_one (pt_cmpR (inS (K := K)) (pe_ix (ixT (K := K)) (pv 3) pe_int (fun _ _ => rfl)) (pv 2) (by rfl)))) (fun _ _ _ _ _ => (pv 3)))))), ?_⟩
    refine ⟨_, rfl, sd, _, .ref tw, rfl, rfl, htw, rfl, _, rfl, a, rfl, ⟨_, ha⟩, fun D hD => ?_⟩
    refine lc_list (K := K) (a := a) (xs := xs) (fun i H' => Same H H' ∧ ∃ ys, H' D = some (.lst ys) ∧ ys.length ≤ i ∧ DpAll K H' ys ((sideOf sd (ls.take i)).map encL)) ⟨same_upd hD, [], upd_same, Nat.le_refl _, .nil⟩ (fun i H' _ ⟨S, _⟩ => Same.sqL S ha) ?_ ?_
    · rintro i y H' hi ⟨S, ys, hD', hyl, hds⟩
      obtain ⟨d, hdi, hdy⟩ := dpAll_get hd hi
      obtain ⟨l, hl, rfl⟩ := map_at hdi
      have hwl := hw l (List.mem_of_getElem? hl)
      have hdy' := dp_mono S _ _ hdy
      obtain ⟨p, rfl, hp⟩ := dp_look hdy'
      refine ⟨rfl, _, rfl, _, _, _, _, rfl, rfl, hp, rfl, _, rfl, _, _, rfl, .inr (hqw _), rfl, ?_, _, rfl, ?_⟩
      · split <;> rfl
      · have e1 : (if false = true then !inV (V.str l.1) (if sd = "slow" then [V.str "at", V.str "from"] else [V.str "at", V.str "upto"]) else inV (V.str l.1) (if sd = "slow" then [V.str "at", V.str "from"] else [V.str "at", V.str "upto"])) = onSide sd l.1 := by
          rw [if_neg Bool.false_ne_true]; exact words_side hsd hwl
        rw [e1]
        have e2 : sideOf sd (ls.take (i + 1)) = sideOf sd (ls.take i) ++ (if onSide sd l.1 = true then [l] else []) := by
          rw [take_snoc hl]; unfold sideOf; rw [List.filter_append]
          cases c : onSide sd l.1 <;> simp [c]
        cases c : onSide sd l.1 with
        | false =>
          refine iteF ⟨S, ys, hD', by omega, ?_⟩
          rw [e2, c]
          simpa using hds
        | true =>
          refine iteT ⟨_, rfl, ys, hD', ?_, ?_, _, upd_same, by simp; omega, ?_⟩
          · have : ys.length ≤ 1000 := by
              have := (List.getElem?_eq_some_iff.mp hl).1
              omega
            exact small1000 this
          · exact same_set S hD
          · rw [e2, c, if_pos rfl, List.map_append]
            exact acc_step hD' (noLs_map noL_encL _) rfl hds hdy'
    · rintro H' ⟨S, ys, hD', hyl, hds⟩
      refine k H' _ S ?_
      rw [List.take_of_length_le (by rw [hxl]; exact Nat.le_refl _)] at hds
      exact .lst (SqL.of hD') hds
theorem ok_best_step (T : Tx K w mg Z) : FnOk P w K mg base CX0 2 Z.a_best_step Z.d_best_step P_best_step (spBest K) := by
  refine T.F_best_step.ok scbest_step (fun vs H Q E h => ?_) (fun cdv A outer s H vs Q E hr h => ?_)
  · obtain ⟨v, ls, sd, x, L, rfl, _⟩ := h
    rfl
  · obtain ⟨v, ls, sd, x, L, rfl, hv, hsd, hw, hlen, hL, hLb, hx, k0, k⟩ := h
    obtain ⟨a, xs, rfl, ha, hd⟩ := dp_list hv
    have hxl : xs.length = ls.length := by rw [dpAll_len hd, List.length_map]
    refine ⟨_, (C8.pss_cut (ps_if (pt_not (pt_truth (pv 0) (by intro _; rfl))) (pss_one (ps_ret pe_non)) pss_nil)
      (pss_cons (ps_setLc (i := 4) (own := [("look", 5)]) (g := gName 5) (tt := tYes) rfl scbest_step.nd rfl rfl (sw_true rfl rfl rfl (by decide +kernel)) (pi_list (pv 0)) (blkOk_by (own := [("look", 5)]) (N := N_best_step) (sc := defScope sbest_step) (by decide +kernel)) (fun _ _ _ _ _ => (pg_name (i := 5) scbest_step.nd rfl (Or.inl rfl))) (fun _ _ _ _ _ => pts_nil) (fun _ _ _ _ _ => (pe_tup (pa_cons (pe_call (ok_place_by T) (hr.mono (by decide)) (by rfl) T.g_place_by T.F_place_by.kp T.bb_place_by .nil pass0 (pa_cons (pv 5) (pa_cons (pv 1) (pa_cons (pv 2) (pa_cons (pv 3) pa_nil))))) (pa_cons (pv 5) pa_nil)))))
      (pss_one (ps_ret (pe_ifExp (pt_cmpR op_eq (pv 1) (pe_glob rfl T.g_SLOW T.r_SLOW) (nomark _)) (pe_callB (maxDK (K := K) rfl (rooms hr)) (by rfl) T.b_max (by decide +kernel) (pa_cons (pv 4) pa_nil)) (pe_callB (minDK (K := K) rfl (rooms hr)) (by rfl) T.b_min (by decide +kernel) (pa_cons (pv 4) pa_nil))))))), ?_⟩
    refine ⟨fun σ' H' => σ' = [some (.ref a), some (.str sd), some (.int x), some (.int L), none, none] ∧ H' = H ∧ ls ≠ [], ?_, ?_⟩
    · refine ⟨_, rfl, _, .inl ⟨xs, ha, rfl⟩, ?_⟩
      cases ls with
      | nil =>
        have e : xs = [] := List.eq_nil_of_length_eq_zero hxl
        subst e
        exact iteT (k0 rfl)
      | cons l ls =>
        cases xs with
        | nil => simp at hxl
        | cons y ys => exact iteF ⟨rfl, rfl, by simp⟩
    · rintro σ1 H1 ⟨rfl, rfl, hne⟩
      refine ⟨_, rfl, a, rfl, ⟨_, ha⟩, fun D hD => ?_⟩
      refine lc_list (K := K) (a := a) (xs := xs) (fun i H' => Same H1 H' ∧ ∃ ys, H' D = some (.lst ys) ∧ ys.length ≤ i ∧ DpAll K H' ys ((ls.take i).map (encS sd x L))) ⟨same_upd hD, [], upd_same, Nat.le_refl _, .nil⟩ (fun i H' _ ⟨S, _⟩ => Same.sqL S ha) ?_ ?_
      · rintro i y H' hi ⟨S, ys, hD', hyl, hds⟩
        obtain ⟨d, hdi, hdy⟩ := dpAll_get hd hi
        obtain ⟨l, hl, rfl⟩ := map_at hdi
        have hwl := hw l (List.mem_of_getElem? hl)
        have hdy' := dp_mono S _ _ hdy
        refine ⟨rfl, yes_ite ?_⟩
        refine ⟨_, rfl, _, rfl, _, rfl, _, rfl, y, l, sd, x, L, rfl, hdy', hsd, hL, hLb, hx, hwl.2, _, rfl, (by show 2 ≤ sizeLine; decide), fun p hp => ?_⟩
        have hD2 : (upd H' p (.tup [.int (plc sd l x L), y])) D = some (.lst ys) := (upd_ne (ne_of_none hD' hp)).trans hD'
        have S2 := same_upd (o := HO.tup [.int (plc sd l x L), y]) hp
        refine ⟨ys, hD2, ?_, same_set (S.trans S2) hD, _, upd_same, by simp; omega, ?_⟩
        · have := (List.getElem?_eq_some_iff.mp hl).1
          exact small1000 (by omega)
        · rw [take_snoc hl, List.map_append]
          exact acc_step hD2 (noLs_map (fun _ => rfl) _) rfl (dpAll_mono S2 _ _ hds) (.tup (SqT.of upd_same) (.cons (.int _) (.cons (dp_mono S2 _ _ hdy') .nil)))
      · rintro H' ⟨S, ys, hD', hyl, hds⟩
        rw [List.take_of_length_le (by rw [hxl]; exact Nat.le_refl _)] at hds
        refine ⟨_, rfl, rfl, _, rfl, ?_⟩
        have hd0 : ∃ l ls', ls = l :: ls' := by
          cases ls with
          | nil => exact absurd rfl hne
          | cons l ls' => exact ⟨l, ls', rfl⟩
        obtain ⟨l, ls', rfl⟩ := hd0
        have hal := steps_alike sd x L (l :: ls')
        have hlay := steps_lay sd x L (l :: ls') (fun q hq => (hw q hq).1)
        have hdep := steps_depth sd x L (l :: ls')
        rcases hsd with e | e
        · subst e
          refine iteT ⟨_, rfl, D, ys, _, _, rfl, SqL.of hD', hds, hal, hlay, hdep, fun r hr => ?_⟩
          obtain ⟨q, hq, e, hb⟩ := max_step x L l ls'
          rw [e] at hr
          exact k H' r q hq S hb hr
        · subst e
          have e3 : decide (V.str "fast" = V.str "slow") = false := by decide +kernel
          rw [e3]
          refine iteF ⟨_, rfl, D, ys, _, _, rfl, SqL.of hD', hds, hal, hlay, hdep, fun r hr => ?_⟩
          obtain ⟨q, hq, e, hb⟩ := min_step x L l ls'
          rw [e] at hr
          exact k H' r q hq S hb hr
end
end KA
namespace KA
open PySem PySem.Spec PyProof.Rows L2 DP
/-- a Dark's fields -/
def df (L : Int) (la : Addr) : List (Str × V) := [("_length", .int L), ("_looks", .ref la)]
theorem ne_ll : ¬ (("_looks" : Str) = "_length") := by decide +kernel
theorem ne_ll' : ¬ (("_length" : Str) = "_looks") := by decide +kernel
theorem df_length (L : Int) (la : Addr) : (df L la).lookup ("_length" : Str) = some (.int L) := by simp [df, List.lookup]
theorem df_looks (L : Int) (la : Addr) : (df L la).lookup ("_looks" : Str) = some (.ref la) := by
  have h : (("_looks" : Str) == ("_length" : Str)) = false := by decide +kernel
  simp [df, List.lookup, h]
theorem df_no (L : Int) (la : Addr) {m : Str} (h1 : (m == ("_length" : Str)) = false) (h2 : (m == ("_looks" : Str)) = false) : (df L la).lookup m = none := by simp [df, List.lookup, h1, h2]
theorem df_put1 (v : V) : putF "_length" v [] = [(("_length" : Str), v)] := rfl
theorem df_put2 (L : Int) (la : Addr) : putF "_looks" (.ref la) [("_length", .int L)] = df L la := by
  show (if ("_length" : Str) = "_looks" then _ else _) = _
  rw [if_neg ne_ll']; rfl
theorem df_put3 (L : Int) (la lb : Addr) : putF "_looks" (.ref lb) (df L la) = df L lb := by
  show (if ("_length" : Str) = "_looks" then _ else (("_length" : Str), V.int L) :: putF "_looks" (.ref lb) [("_looks", .ref la)]) = _
  rw [if_neg ne_ll']
  show (("_length" : Str), V.int L) :: (if ("_looks" : Str) = "_looks" then _ else _) = _
  rw [if_pos rfl]; rfl
/-- what is free there was free before -/
structure FreeIn (H H' : Hp) : Prop where
  free : ∀ {b : Addr}, H' b = none → H b = none
structure DarkAt (Z : Ad) (K : PySem.W.Frag) (H : Hp) (d : Addr) (L : Int) (ls : List Lk) : Prop where
  ex : ∃ dx la vs, H d = some (.ins Z.C dx (df L la)) ∧ H la = some (.lst vs) ∧ DpAll K H vs (ls.map encL)
  pos : 0 < L
  big : L.natAbs < 2 ^ 200
  ok : ∀ l ∈ ls, WordOk l.1 ∧ Sized 302 l
  len : ls.length ≤ 60
theorem DarkAt.same {Z : Ad} {K : PySem.W.Frag} {H H' : Hp} {d : Addr} {L : Int} {ls : List Lk} (D : DarkAt Z K H d L ls) (S : Same H H') : DarkAt Z K H' d L ls := by
  obtain ⟨dx, la, vs, h1, h2, h3⟩ := D.ex
  exact ⟨⟨dx, la, vs, S _ _ h1, S _ _ h2, dpAll_mono S _ _ h3⟩, D.pos, D.big, D.ok, D.len⟩
theorem Sized.up {m n : Nat} {l : Lk} (h : Sized m l) (hm : m ≤ n) : Sized n l := ⟨lt_up h.1 hm, lt_up h.2 hm⟩
theorem df_inj {C C' dx dx' : Addr} {L L' : Int} {la la' : Addr} (h : some (HO.ins C dx (df L la)) = some (HO.ins C' dx' (df L' la'))) : la = la' := by
  have h1 : df L la = df L' la' := by injection h with h; injection h
  simp [df] at h1
  exact h1.2
def spInit (Z : Ad) (K : PySem.W.Frag) : Sp := fun vs H Q _ => ∃ (d dx : Addr) (L : Int), vs = [.ref d, .int L] ∧ H d = some (.ins Z.C dx []) ∧ 0 < L ∧ L.natAbs < 2 ^ 200 ∧ ∀ H' : Hp, DarkAt Z K H' d L [] → (∀ la dx, H' d = some (.ins Z.C dx (df L la)) → H la = none) → (∀ b o, H b = some o → b ≠ d → H' b = some o) → Q .non H'
def spLooks (Z : Ad) (K : PySem.W.Frag) : Sp := fun vs H Q _ => ∃ (d : Addr) (L : Int) (ls : List Lk), vs = [.ref d] ∧ DarkAt Z K H d L ls ∧ ∀ (p : Addr) (xs : List V) (H' : Hp), H p = none → Same H H' → H' p = some (.lst xs) → DpAll K H' xs (ls.map encL) → Q (.ref p) H'
def spWord : Sp := fun vs H Q _ => ∃ (d : V) (x : Str), vs = [d, .str x] ∧ WordOk x ∧ Q .non H
def spHome (Z : Ad) (K : PySem.W.Frag) : Sp := fun vs H Q _ => ∃ (d : Addr) (L : Int) (ls : List Lk) (l : Lk), vs = [.ref d, .str l.1, .int l.2.1, .int l.2.2] ∧ DarkAt Z K H d L ls ∧ WordOk l.1 ∧ Sized 300 l ∧ ∀ H' r, Same H H' → Dp K H' r (encL (home L l)) → Q r H'
def spClashing (Z : Ad) (K : PySem.W.Frag) : Sp := fun vs H Q _ => ∃ (d : Addr) (v : V) (L : Int) (ls : List Lk) (l : Lk), vs = [.ref d, v] ∧ DarkAt Z K H d L ls ∧ Dp K H v (encL l) ∧ WordOk l.1 ∧ Sized 302 l ∧
  (ls.find? (fun o => clashB l o L) = none → Q .non H) ∧ ∀ o r, ls.find? (fun o => clashB l o L) = some o → Dp K H r (encL o) → Q r H
/-- what is heard -/
def heard (L : Int) (ls : List Lk) (l : Lk) : List Lk := if home L l ∈ ls then ls else (ls ++ [home L l]).mergeSort (PySem.W.dataLe false encL)
def spHear (Z : Ad) (K : PySem.W.Frag) : Sp := fun vs H Q _ => ∃ (d : Addr) (L : Int) (ls : List Lk) (l : Lk), vs = [.ref d, .str l.1, .int l.2.1, .int l.2.2] ∧ DarkAt Z K H d L ls ∧ WordOk l.1 ∧ Sized 300 l ∧ ls.length < 60 ∧ (∀ o ∈ ls, clashB (home L l) o L = false) ∧
  ∀ H', DarkAt Z K H' d L (heard L ls l) → (∀ la dx, H' d = some (.ins Z.C dx (df L la)) → (∃ dx', H d = some (.ins Z.C dx' (df L la))) ∨ H la = none) → (∀ b o, H b = some o → b ≠ d → H' b = some o) → Q .non H'
def spBound (Z : Ad) (K : PySem.W.Frag) : Sp := fun vs H Q _ => ∃ (d : Addr) (L : Int) (ls : List Lk) (sd : Str) (x : Int), vs = [.ref d, .str sd, .int x] ∧ DarkAt Z K H d L ls ∧ SideOk sd ∧ x.natAbs < 2 ^ 400 ∧
  (sideOf sd ls = [] → ∀ H', Same H H' → Q .non H') ∧ ∀ m H', Same H H' → IsBest sd (sideOf sd ls) x L m → Q (.int m) H'
/-- what a side tells of x: None, or the best place -/
def Tells (sd : Str) (ls : List Lk) (x L : Int) (v : V) : Prop := (sideOf sd ls = [] ∧ v = .non) ∨ ∃ m, v = .int m ∧ IsBest sd (sideOf sd ls) x L m
def spSideOf (Z : Ad) (K : PySem.W.Frag) (sd : Str) : Sp := fun vs H Q _ => ∃ (d : Addr) (L : Int) (ls : List Lk) (x : Int), vs = [.ref d, .int x] ∧ DarkAt Z K H d L ls ∧ x.natAbs < 2 ^ 400 ∧
  ∀ v H', Same H H' → Tells sd ls x L v → Q v H'
theorem same_put {H : Hp} {d C dx : Addr} {fs fs' : List (Str × V)} (h : H d = some (.ins C dx fs)) : FreeIn H (upd H d (.ins C dx fs')) := ⟨fun {b} hb => by
  by_cases e : b = d
  · subst e; rw [upd_same] at hb; cases hb
  · rw [upd_ne e] at hb; exact hb⟩
theorem emod_small {x L : Int} (h : 0 < L) (hb : L.natAbs < 2 ^ 200) : (x - x / L * L).natAbs < 2 ^ 200 := by
  have e : x - x / L * L = x % L := by
    have := Int.mul_ediv_add_emod x L
    rw [Int.mul_comm (x / L) L]; omega
  rw [e]
  have h1 := Int.emod_nonneg x (show L ≠ 0 by omega)
  have h2 := Int.emod_lt_of_pos x h
  have h3 : (x % L).natAbs ≤ L.natAbs := by clear hb; omega
  exact Nat.lt_of_le_of_lt h3 hb
theorem home_sized {L : Int} {l : Lk} (h : 0 < L) (hb : L.natAbs < 2 ^ 200) (hl : Sized 300 l) : Sized 302 (home L l) := by
  have h0 := emod_small (x := l.2.1) h hb
  refine ⟨lt_up h0 (by decide), ?_⟩
  show (l.2.2 - l.2.1 / L * L).natAbs < 2 ^ 302
  have e : l.2.2 - l.2.1 / L * L = l.2.2 + ((l.2.1 - l.2.1 / L * L) - l.2.1) := by omega
  rw [e]
  have h1 : ((l.2.1 - l.2.1 / L * L) - l.2.1).natAbs < 2 ^ 301 := sub_lt (lt_up h0 (by decide)) hl.1
  exact add_lt (lt_up hl.2 (by decide)) h1
section
variable {P : Program} {w : World} {K : PySem.W.Frag} {mg : Str → Option Value} {base : Heap} {Z : Ad}
theorem ok_Dark_init (T : Tx K w mg Z) : FnOk P w K mg base CX0 1 Z.a_Dark_init Z.d_Dark_init P_Dark_init (spInit Z K) := by
  refine T.F_Dark_init.ok scDark_init (fun vs H Q E h => ?_) (fun cdv A outer s H vs Q E hr h => ?_)
  · obtain ⟨d, dx, L, rfl, _⟩ := h
    rfl
  · obtain ⟨d, dx, L, rfl, hd, hL, hLb, k⟩ := h
    refine ⟨_, (C8.pss_cut (ps_if (pt_cmpR op_lt (pv 1) pe_int (nomark _)) (pss_one ps_never) pss_nil)
      (pss_cons (ps_fld (pv 0) (pv 1) rfl)
      (pss_one (ps_fld (pv 0) (pe_lst pa_nil) rfl)))), ?_⟩
    refine ⟨fun σ' H' => σ' = [some (.ref d), some (.int L)] ∧ H' = H, ?_, ?_⟩
    · refine ⟨_, rfl, _, _, rfl, rfl, _, rfl, ?_⟩
      exact ite2 (fun c => (by have c' := of_decide_eq_true c; omega : False)) (fun _ => ⟨rfl, rfl⟩)
    · rintro σ1 H1 ⟨rfl, rfl⟩
      refine ⟨_, rfl, _, rfl, d, Z.C, dx, [], rfl, hd, T.cl, T.n_length, (by show 0 < 1000; decide), ?_⟩
      refine ⟨(by show 0 ≤ sizeLine; decide), fun p hp => ?_⟩
      have h1 : (upd H1 d (.ins Z.C dx (putF "_length" (.int L) []))) d = some (.ins Z.C dx [("_length", .int L)]) := upd_same
      have hdp : d ≠ p := ne_of_none h1 hp
      refine ⟨_, rfl, d, Z.C, dx, [("_length", .int L)], rfl, (upd_ne hdp).trans h1, T.cl, T.n_looks, (by show 1 < 1000; decide), ?_⟩
      refine k _ ⟨⟨dx, p, [], Eq.trans upd_same (congrArg (fun q => some (HO.ins Z.C dx q)) (df_put2 L p)), (upd_ne (Ne.symm hdp)).trans upd_same, .nil⟩, hL, hLb, (fun _ z => absurd z (by simp)), Nat.zero_le _⟩ (fun la' dx' e => ?_) fun b o e hb => ?_
      · rw [upd_same, df_put2] at e
        rw [← df_inj e]
        exact (same_put hd).free hp
      have e1 : (upd H1 d (.ins Z.C dx (putF "_length" (.int L) []))) b = some o := (upd_ne hb).trans e
      exact (upd_ne hb).trans ((upd_ne (ne_of_none e1 hp)).trans e1)
theorem ok_Dark_looks (T : Tx K w mg Z) : FnOk P w K mg base CX0 1 Z.a_Dark_looks Z.d_Dark_looks P_Dark_looks (spLooks Z K) := by
  refine T.F_Dark_looks.ok scDark_looks (fun vs H Q E h => ?_) (fun cdv A outer s H vs Q E hr h => ?_)
  · obtain ⟨d, L, ls, rfl, _⟩ := h
    rfl
  · obtain ⟨d, L, ls, rfl, D, k⟩ := h
    obtain ⟨dx, la, xs, h1, h2, h3⟩ := D.ex
    refine ⟨_, (pss_one (ps_ret (pe_callTy (listK (K := K)) (by rfl) T.b_list (by decide +kernel) (pa_cons (fldK (K := K) (pv 0) rfl) pa_nil)))), ?_⟩
    refine ⟨_, rfl, d, Z.C, dx, _, _, rfl, h1, T.cl, T.n_looks, df_looks _ _, la, xs, rfl, .inl (SqL.of h2), fun p hp => ?_⟩
    exact k p xs _ hp (same_upd hp) upd_same (dpAll_mono (same_upd hp) _ _ h3)
theorem ok_Darkcheck_word (T : Tx K w mg Z) : FnOk P w K mg base CX0 1 Z.a_Darkcheck_word Z.d_Darkcheck_word P_Darkcheck_word (spWord) := by
  refine T.F_Darkcheck_word.ok scDarkcheck_word (fun vs H Q E h => ?_) (fun cdv A outer s H vs Q E hr h => ?_)
  · obtain ⟨d, x, rfl, _⟩ := h
    rfl
  · obtain ⟨d, x, rfl, hx, k⟩ := h
    refine ⟨_, (pss_one (ps_if (pt_cmpR (notInS (K := K)) (pv 1) (pe_glob (v := .ref Z.a_LW) rfl T.g_LOOK_WORDS rfl) (by rfl)) (pss_one ps_never) pss_nil)), ?_⟩
    obtain ⟨_, _, e⟩ := decl_words hx
    refine ⟨_, rfl, _, _, rfl, .inr (T.q_LW _), rfl, rfl, _, rfl, ?_⟩
    have e2 : (if true = true then !inV (V.str x) [V.str "at", V.str "from", V.str "upto"] else inV (V.str x) [V.str "at", V.str "from", V.str "upto"]) = false := by rw [if_pos rfl, e]; rfl
    rw [e2]
    exact iteF k
theorem ok_Darkhome (T : Tx K w mg Z) : FnOk P w K mg base CX0 2 Z.a_Darkhome Z.d_Darkhome P_Darkhome (spHome Z K) := by
  refine T.F_Darkhome.ok scDarkhome (fun vs H Q E h => ?_) (fun cdv A outer s H vs Q E hr h => ?_)
  · obtain ⟨d, L, ls, l, rfl, _⟩ := h
    rfl
  · obtain ⟨d, L, ls, l, rfl, D, hw, hl, k⟩ := h
    obtain ⟨dx, la, xs, h1, h2, h3⟩ := D.ex
    refine ⟨_, (pss_cons (ps_expr (pe_meth (pv 0) T.cl T.m_Darkcheck_word (ok_Darkcheck_word T) (hr.mono (by decide)) T.bb_Darkcheck_word .nil pass0 (pa_cons (pv 1) pa_nil)))
      (pss_cons (ps_set (i := 4) scDarkhome.nd rfl (Or.inl rfl) (pe_op op_fdivW (pv 2) (fldK (K := K) (pv 0) rfl)))
      (pss_one (ps_ret (pe_tup (pa_cons (pv 1) (pa_cons (pe_op op_sub (pv 2) (pe_op op_mulW (pv 4) (fldK (K := K) (pv 0) rfl))) (pa_cons (pe_op op_sub (pv 3) (pe_op op_mulW (pv 4) (fldK (K := K) (pv 0) rfl))) pa_nil)))))))), ?_⟩
    refine ⟨_, rfl, d, dx, _, rfl, h1, df_no _ _ (by decide +kernel) (by decide +kernel), _, rfl, _, _, rfl, hw, ?_⟩
    refine ⟨_, rfl, _, rfl, d, Z.C, dx, _, _, rfl, h1, T.cl, T.n_length, df_length _ _, _, _, rfl, rfl, wide_div D.pos D.big (by decide) (by decide), ?_⟩
    have b1 : (l.2.1 / L).natAbs < 2 ^ 301 := div_lt D.pos hl.1
    refine ⟨_, rfl, _, rfl, _, rfl, _, rfl, d, Z.C, dx, _, _, rfl, h1, T.cl, T.n_length, df_length _ _, _, _, rfl, rfl, wide_mul b1 D.big (by decide) (by decide) (by decide), _, _, rfl, rfl, ?_⟩
    refine ⟨_, rfl, _, rfl, _, rfl, d, Z.C, dx, _, _, rfl, h1, T.cl, T.n_length, df_length _ _, _, _, rfl, rfl, wide_mul b1 D.big (by decide) (by decide) (by decide), _, _, rfl, rfl, (by show 3 ≤ sizeLine; decide), fun p hp => ?_⟩
    exact k _ _ (same_upd hp) (.tup (SqT.of upd_same) (.cons (.str _) (.cons (.int _) (.cons (.int _) .nil))))
theorem ok_Darkclashing (T : Tx K w mg Z) : FnOk P w K mg base CX0 4 Z.a_Darkclashing Z.d_Darkclashing P_Darkclashing (spClashing Z K) := by
  refine T.F_Darkclashing.ok scDarkclashing (fun vs H Q E h => ?_) (fun cdv A outer s H vs Q E hr h => ?_)
  · obtain ⟨d, v, L, ls, l, rfl, _⟩ := h
    rfl
  · obtain ⟨d, v, L, ls, l, rfl, D, hv, hw, hl, k0, k⟩ := h
    obtain ⟨dx, la, xs, h1, h2, h3⟩ := D.ex
    have hxl : xs.length = ls.length := by rw [dpAll_len h3, List.length_map]
    refine ⟨_, (pss_cons (ps_for PassesOwn.never rfl (pi_list (fldK (K := K) (pv 0) rfl)) (pg_name (i := 2) scDarkclashing.nd rfl (Or.inl rfl)) (pss_one (ps_if (pt_val (pe_call (ok_clash T) (hr.mono (by decide)) (by rfl) T.g_clash T.F_clash.kp T.bb_clash .nil pass0 (pa_cons (pv 1) (pa_cons (pv 2) (pa_cons (fldK (K := K) (pv 0) rfl) pa_nil))))) (pss_one (ps_ret (pv 2))) pss_nil)))
      (pss_one (ps_ret pe_non))), ?_⟩
    refine ⟨_, rfl, d, Z.C, dx, _, _, rfl, h1, T.cl, T.n_looks, df_looks _ _, la, rfl, ⟨_, SqL.of h2⟩, ?_⟩
    refine for_list (K := K) (a := la) (xs := xs) (fun i σ' H' => ∃ u, σ' = [some (.ref d), some v, u] ∧ H' = H ∧ (ls.take i).find? (fun o => clashB l o L) = none) ⟨none, rfl, rfl, rfl⟩ (fun i σ' H' _ ⟨_, _, e, _⟩ => by rw [e]; exact SqL.of h2) ?_ ?_
    · rintro i y σ' H' hi ⟨u, rfl, rfl, hno⟩
      obtain ⟨e, hdi, hdy⟩ := dpAll_get h3 hi
      obtain ⟨o, ho, rfl⟩ := map_at hdi
      have hok := D.ok o (List.mem_of_getElem? ho)
      refine ⟨_, rfl, _, rfl, _, rfl, d, Z.C, dx, _, _, rfl, h1, T.cl, T.n_length, df_length _ _, v, y, l, o, L, rfl, hv, hdy, hw, hok.1, D.pos, D.big, hl.up (by decide), hok.2.up (by decide), _, rfl, ?_⟩
      have hsp : ls = ls.take i ++ o :: ls.drop (i + 1) := by
        have h4 := List.getElem?_eq_some_iff.mp ho
        obtain ⟨h5, h6⟩ := h4
        rw [← h6, List.getElem_cons_drop, List.take_append_drop]
      cases c : clashB l o L with
      | true =>
        refine iteT ⟨_, rfl, k o y ?_ hdy⟩
        rw [hsp, List.find?_append, hno, List.find?_cons, c]
        rfl
      | false =>
        refine iteF ⟨_, rfl, rfl, ?_⟩
        rw [take_snoc ho, List.find?_append, hno, List.find?_cons, c]
        rfl
    · rintro σ' H' ⟨u, rfl, rfl, hno⟩
      rw [List.take_of_length_le (by rw [hxl]; exact Nat.le_refl _)] at hno
      exact k0 hno
theorem alike_looks (ls : List Lk) : PySem.W.AllAlike (ls.map encL) := PySem.W.AllAlike.of fun _ _ => by simp [encL, PySem.W.alike, PySem.W.alikeAll]
theorem depth_look (l : Lk) : (encL l).depth = 1 := by simp [encL, PyData.depth, PyData.depthAll]
theorem shaped_look {l : Lk} (h : WordOk l.1) : SeqAt.shaped (encL l) = true := by
  unfold SeqAt.shaped
  rw [lay_look h, depth_look]; rfl
theorem lay_looks : ∀ ls : List Lk, (∀ l ∈ ls, WordOk l.1) → PyData.canLayAll0 (ls.map encL) = true
  | [], _ => rfl
  | l :: ls, h => by
    show PyData.canLayAll0 (encL l :: ls.map encL) = true
    rw [PyData.canLayAll0, lay_look (h l List.mem_cons_self), lay_looks ls fun q hq => h q (List.mem_cons_of_mem _ hq)]; rfl
theorem depth_looks : ∀ ls : List Lk, PyData.depthAll (ls.map encL) ≤ 1
  | [] => by simp [PyData.depthAll]
  | l :: ls => by
    show PyData.depthAll (encL l :: ls.map encL) ≤ 1
    rw [PyData.depthAll, depth_look]
    have := depth_looks ls
    omega
theorem shaped_looks {ls : List Lk} (h : ∀ l ∈ ls, WordOk l.1) : SeqAt.shaped (.list (ls.map encL)) = true := by
  unfold SeqAt.shaped
  rw [PyData.canLay0, lay_looks ls h, PyData.depth]
  have := depth_looks ls
  simp; omega
theorem eqv_look (a b : Lk) : PyData.eqv (encL a) (encL b) = decide (a = b) := by
  obtain ⟨a1, a2, a3⟩ := a
  obtain ⟨b1, b2, b3⟩ := b
  simp [encL, PyData.eqv, PyData.eqvAll]
  by_cases h1 : a1 = b1 <;> by_cases h2 : a2 = b2 <;> by_cases h3 : a3 = b3 <;> simp [h1, h2, h3]
theorem any_look (ls : List Lk) (l : Lk) : ((ls.map encL).any fun z => PyData.eqv z (encL l)) = decide (l ∈ ls) := by
  rw [List.any_map]
  rw [Bool.eq_iff_iff, List.any_eq_true, decide_eq_true_eq]
  constructor
  · rintro ⟨o, ho, e⟩
    have e' : decide (o = l) = true := by rw [← eqv_look]; exact e
    rw [← of_decide_eq_true e']; exact ho
  · intro h
    exact ⟨l, h, by show PyData.eqv (encL l) (encL l) = true; rw [eqv_look]; simp⟩
theorem heard_mem {L : Int} {ls : List Lk} {l o : Lk} : o ∈ heard L ls l ↔ o ∈ ls ∨ o = home L l := by
  unfold heard
  by_cases c : home L l ∈ ls
  · rw [if_pos c]
    exact ⟨.inl, fun h => h.elim id fun e => e ▸ c⟩
  · rw [if_neg c, (List.mergeSort_perm _ _).mem_iff, List.mem_append, List.mem_singleton]
theorem heard_len (L : Int) (ls : List Lk) (l : Lk) : (heard L ls l).length ≤ ls.length + 1 := by
  unfold heard
  split
  · omega
  · rw [(List.mergeSort_perm _ _).length_eq, List.length_append]; simp
theorem ok_Dark_hear (T : Tx K w mg Z) : FnOk P w K mg base CX0 5 Z.a_Dark_hear Z.d_Dark_hear P_Dark_hear (spHear Z K) := by
  refine T.F_Dark_hear.ok scDark_hear (fun vs H Q E h => ?_) (fun cdv A outer s H vs Q E hr h => ?_)
  · obtain ⟨d, L, ls, l, rfl, _⟩ := h
    rfl
  · obtain ⟨d, L, ls, l, rfl, D, hw, hl, hlen, hno, k⟩ := h
    obtain ⟨dx, la, xs, h1, h2, h3⟩ := D.ex
    have hfind : ls.find? (fun o => clashB (home L l) o L) = none := List.find?_eq_none.mpr fun o ho => by rw [hno o ho]; exact Bool.false_ne_true
    have hsz := home_sized D.pos D.big hl
    refine ⟨_, (pss_cons (ps_set (i := 4) scDark_hear.nd rfl (Or.inl rfl) (pe_meth (pv 0) T.cl T.m_Darkhome (ok_Darkhome T) (hr.mono (by decide)) T.bb_Darkhome .nil pass0 (pa_cons (pv 1) (pa_cons (pv 2) (pa_cons (pv 3) pa_nil)))))
      (pss_cons (ps_set (i := 5) scDark_hear.nd rfl (Or.inl rfl) (pe_meth (pv 0) T.cl T.m_Darkclashing (ok_Darkclashing T) (hr.mono (by decide)) T.bb_Darkclashing .nil pass0 (pa_cons (pv 4) pa_nil)))
      (C8.pss_cut (ps_if (pt_cmpR op_notN (pv 5) pe_non (nomark _)) (pss_one ps_never) pss_nil)
      (pss_one (ps_if (pt_cmpR (notInDK (K := K) (rooms hr)) (pv 4) (fldK (K := K) (pv 0) rfl) (by rfl)) (pss_one (ps_fld (pv 0) (pe_callB (sortDK (K := K) encL (rooms hr)) (by rfl) T.b_sorted (by decide +kernel) (pa_cons (pe_op op_cat (fldK (K := K) (pv 0) rfl) (pe_lst (pa_cons (pv 4) pa_nil))) pa_nil)) rfl)) pss_nil))))), ?_⟩
    refine ⟨_, rfl, d, dx, _, rfl, h1, df_no _ _ (by decide +kernel) (by decide +kernel), _, rfl, _, rfl, _, rfl, d, L, ls, l, rfl, D, hw, hl, fun H1 r S hr => ?_⟩
    have D1 := D.same S
    refine ⟨_, rfl, d, dx, _, rfl, S _ _ h1, df_no _ _ (by decide +kernel) (by decide +kernel), _, rfl, d, r, L, ls, home L l, rfl, D1, hr, hw, hsz, fun _ => ?_, fun o r ho => ?_⟩
    · refine ⟨fun σ' H' => σ' = [some (.ref d), some (.str l.1), some (.int l.2.1), some (.int l.2.2), some r, some .non] ∧ H' = H1, ?_, ?_⟩
      · exact ⟨_, rfl, rfl, _, rfl, iteF ⟨rfl, rfl⟩⟩
      · rintro σ2 H2 ⟨rfl, rfl⟩
        have hwords : ∀ o ∈ ls, WordOk o.1 := fun o ho => (D.ok o ho).1
        have hds := dpAll_mono S _ _ h3
        refine ⟨_, rfl, _, rfl, d, Z.C, dx, _, _, rfl, S _ _ h1, T.cl, T.n_looks, df_looks _ _, encL (home L l), ls.map encL, hr, .lst (SqL.of (S _ _ h2)) hds, shaped_look hw, shaped_looks hwords, _, rfl, ?_⟩
        rw [any_look]
        have fin : ∀ H', DarkAt Z K H' d L (heard L ls l) → (∀ la dx, H' d = some (.ins Z.C dx (df L la)) → (∃ dx', H d = some (.ins Z.C dx' (df L la))) ∨ H la = none) → (∀ b o, H2 b = some o → b ≠ d → H' b = some o) → Q .non H' := fun H' DD ff kk => k H' DD ff fun b o e hb => kk b o (S b o e) hb
        have okH : ∀ o ∈ heard L ls l, WordOk o.1 ∧ Sized 302 o := fun o ho => by
          rcases heard_mem.mp ho with h | h
          · exact D.ok o h
          · subst h; exact ⟨hw, hsz⟩
        have lenH : (heard L ls l).length ≤ 60 := Nat.le_trans (heard_len L ls l) hlen
        by_cases c : home L l ∈ ls
        · have e : (!decide (home L l ∈ ls)) = false := by simp [c]
          rw [e]
          refine iteF (fin H2 ?_ (fun la' dx' e => ?_) fun _ _ e _ => e)
          · have eh : heard L ls l = ls := if_pos c
            rw [eh]; exact D1
          · have e2 := e.symm.trans (S _ _ h1)
            rw [df_inj e2]
            exact .inl ⟨dx, h1⟩
        · have e : (!decide (home L l ∈ ls)) = true := by simp [c]
          rw [e]
          refine iteT ⟨_, rfl, d, Z.C, dx, _, _, rfl, S _ _ h1, T.cl, T.n_looks, df_looks _ _, _, rfl, (by show 1 ≤ sizeLine; decide), fun p hp => ?_⟩
          have S2 := same_upd (o := HO.lst [r]) hp
          have h2' := S2 _ _ (S _ _ h2)
          refine ⟨la, p, xs, [r], rfl, rfl, h2', upd_same, ?_, fun p2 hp2 => ?_⟩
          · have : xs.length = ls.length := by rw [dpAll_len h3, List.length_map]
            exact Nat.le_of_lt (small1000 (by simp; omega))
          have S3 := S2.trans (same_upd (o := HO.lst (xs ++ [r])) hp2)
          have hall : DpAll K (upd (upd H2 p (.lst [r])) p2 (.lst (xs ++ [r]))) (xs ++ [r]) ((ls ++ [home L l]).map encL) := by
            rw [List.map_append]
            exact dpAll_snoc (dpAll_mono S3 _ _ hds) (dp_mono S3 _ _ hr)
          refine ⟨p2, xs ++ [r], ls ++ [home L l], rfl, SqL.of upd_same, hall, alike_looks _, PySem.W.Sortable.tuples fun _ => ⟨_, _, rfl⟩, fun b _ => by rw [depth_look]; decide, fun p3 ys H3 hp3 S4 hy hys => ?_⟩
          have S5 := S3.trans S4
          have h1' := S5 _ _ (S _ _ h1)
          have hd3 : d ≠ p3 := fun e => by
            subst e
            rw [(S3 _ _ (S _ _ h1))] at hp3
            cases hp3
          refine ⟨_, rfl, d, Z.C, dx, df L la, rfl, h1', T.cl, T.n_looks, (by show 2 < 1000; decide), ?_⟩
          refine fin _ ⟨⟨dx, p3, ys, Eq.trans upd_same (congrArg (fun q => some (HO.ins Z.C dx q)) (df_put3 L la p3)), (upd_ne (Ne.symm hd3)).trans hy, ?_⟩, D.pos, D.big, okH, lenH⟩ (fun la' dx' e => ?_) fun b o e hb => (upd_ne hb).trans (S5 _ _ e)
          rotate_left
          · rw [upd_same, df_put3] at e
            rw [← df_inj e]
            exact .inr (S.free (S3.free hp3))
          have eh : heard L ls l = (ls ++ [home L l]).mergeSort (PySem.W.dataLe false encL) := if_neg c
          rw [eh]
          exact dpAll_tups (Tups.upd_ins h1') _ _ (noLs_map noL_encL _) hys
    · rw [hfind] at ho; cases ho
theorem ok_Darkbound (T : Tx K w mg Z) : FnOk P w K mg base CX0 3 Z.a_Darkbound Z.d_Darkbound P_Darkbound (spBound Z K) := by
  refine T.F_Darkbound.ok scDarkbound (fun vs H Q E h => ?_) (fun cdv A outer s H vs Q E hr h => ?_)
  · obtain ⟨d, L, ls, sd, x, rfl, _⟩ := h
    rfl
  · obtain ⟨d, L, ls, sd, x, rfl, D, hsd, hx, k0, k⟩ := h
    obtain ⟨dx, la, xs, h1, h2, h3⟩ := D.ex
    refine ⟨_, (pss_cons (ps_set (i := 3) scDarkbound.nd rfl (Or.inl rfl) (pe_call (ok_best_step T) (hr.mono (by decide)) (by rfl) T.g_best_step T.F_best_step.kp T.bb_best_step .nil pass0 (pa_cons (pe_call (ok_side_looks T) (hr.mono (by decide)) (by rfl) T.g_side_looks T.F_side_looks.kp T.bb_side_looks .nil pass0 (pa_cons (fldK (K := K) (pv 0) rfl) (pa_cons (pv 1) pa_nil))) (pa_cons (pv 1) (pa_cons (pv 2) (pa_cons (fldK (K := K) (pv 0) rfl) pa_nil))))))
      (pss_one (ps_ret (pe_ifExp (pt_cmpR op_isN (pv 3) pe_non (nomark _)) pe_non (pe_ix (ixT (K := K)) (pv 3) pe_int (fun _ _ => rfl)))))), ?_⟩
    refine ⟨_, rfl, d, Z.C, dx, _, _, rfl, h1, T.cl, T.n_looks, df_looks _ _, _, rfl, .ref la, ls, sd, rfl, .lst (SqL.of h2) h3, hsd, fun l hl => (D.ok l hl).1, Nat.le_trans D.len (by decide), fun H1 r S hr => ?_⟩
    refine ⟨_, rfl, _, rfl, _, rfl, d, Z.C, dx, _, _, rfl, S _ _ h1, T.cl, T.n_length, df_length _ _, ?_⟩
    refine ⟨r, sideOf sd ls, sd, x, L, rfl, hr, hsd, fun l hl => ⟨(D.ok l (List.mem_filter.mp hl).1).1, (D.ok l (List.mem_filter.mp hl).1).2.up (by decide)⟩, Nat.le_trans (List.length_filter_le _ _) (Nat.le_trans D.len (by decide)), D.pos, D.big, hx, fun e => ?_, fun H2 r2 l hl S2 hb hr2 => ?_⟩
    · exact ⟨_, rfl, rfl, _, rfl, iteT (k0 e _ S)⟩
    · have hr2' : Dp K H2 r2 (.tuple [.int (plc sd l x L), encL l]) := hr2
      cases hr2' with
      | tup s a =>
        cases a with
        | cons a1 a =>
          cases a1
          cases a with
          | cons a2 a =>
          cases a
          refine ⟨_, rfl, rfl, _, rfl, ?_⟩
          refine iteF ⟨_, rfl, _, _, _, _, rfl, rfl, s, rfl, ?_⟩
          exact k _ _ (S.trans S2) hb
theorem ok_Dark_least (T : Tx K w mg Z) : FnOk P w K mg base CX0 4 Z.a_Dark_least Z.d_Dark_least P_Dark_least (spSideOf Z K "slow") := by
  refine T.F_Dark_least.ok scDark_least (fun vs H Q E h => ?_) (fun cdv A outer s H vs Q E hr h => ?_)
  · obtain ⟨d, L, ls, x, rfl, _⟩ := h
    rfl
  · obtain ⟨d, L, ls, x, rfl, D, hx, k⟩ := h
    obtain ⟨dx, la, xs, h1, h2, h3⟩ := D.ex
    refine ⟨_, (pss_one (ps_ret (pe_meth (pv 0) T.cl T.m_Darkbound (ok_Darkbound T) (hr.mono (by decide)) T.bb_Darkbound .nil pass0 (pa_cons (pe_glob rfl T.g_SLOW T.r_SLOW) (pa_cons (pv 1) pa_nil))))), ?_⟩
    exact ⟨_, rfl, d, dx, _, rfl, h1, df_no _ _ (by decide +kernel) (by decide +kernel), _, rfl, d, L, ls, "slow", x, rfl, D, .inl rfl, hx, fun e H1 S => k _ H1 S (.inl ⟨e, rfl⟩), fun m H1 S hb => k _ H1 S (.inr ⟨m, rfl, hb⟩)⟩
theorem ok_Dark_greatest (T : Tx K w mg Z) : FnOk P w K mg base CX0 4 Z.a_Dark_greatest Z.d_Dark_greatest P_Dark_greatest (spSideOf Z K "fast") := by
  refine T.F_Dark_greatest.ok scDark_greatest (fun vs H Q E h => ?_) (fun cdv A outer s H vs Q E hr h => ?_)
  · obtain ⟨d, L, ls, x, rfl, _⟩ := h
    rfl
  · obtain ⟨d, L, ls, x, rfl, D, hx, k⟩ := h
    obtain ⟨dx, la, xs, h1, h2, h3⟩ := D.ex
    refine ⟨_, (pss_one (ps_ret (pe_meth (pv 0) T.cl T.m_Darkbound (ok_Darkbound T) (hr.mono (by decide)) T.bb_Darkbound .nil pass0 (pa_cons (pe_glob rfl T.g_FAST T.r_FAST) (pa_cons (pv 1) pa_nil))))), ?_⟩
    exact ⟨_, rfl, d, dx, _, rfl, h1, df_no _ _ (by decide +kernel) (by decide +kernel), _, rfl, d, L, ls, "fast", x, rfl, D, .inr rfl, hx, fun e H1 S => k _ H1 S (.inl ⟨e, rfl⟩), fun m H1 S hb => k _ H1 S (.inr ⟨m, rfl, hb⟩)⟩
end
end KA
namespace KA
open PySem PySem.Spec PyProof.Rows L2 DP
def spTray (K : PySem.W.Frag) : Sp := fun vs H Q _ => ∃ (a : Addr) (ns : List Int), vs = [.ref a] ∧ SqL K H a (ns.map V.int) ∧ ns.length ≤ 63 ∧ ∀ (H' : Hp) (t g : Addr), Tray H' t g 0 → Same H H' → H t = none → H g = none → Q (.ref t) H'
def spGreat : Sp := fun vs H Q _ => ∃ (t g : Addr) (n : Nat), vs = [.ref t] ∧ Tray H t g n ∧ n < 2 ^ 50 ∧ ∀ (H' : Hp) (r : Int), 0 ≤ r → r < 10 ^ 59 → Tray H' t g (n + 4) → Keep t g H H' → Q (.int r) H'
def spLength : Sp := fun vs H Q _ => ∃ (t g : Addr) (n : Nat), vs = [.ref t] ∧ Tray H t g n ∧ n < 2 ^ 49 ∧ ∀ (H' : Hp) (r : Int), 0 < r → r ≤ 10 ^ 30 → Tray H' t g (n + 10) → Keep t g H H' → Q (.int r) H'
theorem Tray.up {H : Hp} {t g : Addr} {m n : Nat} (T : Tray H t g m) (h : m ≤ n) : Tray H t g n := by
  obtain ⟨⟨gs, l, f, c, h1, h2, hl, hge, hl0, hf0, hf1, hc0, hc1⟩, hne⟩ := T
  exact ⟨⟨gs, l, f, c, h1, h2, hl, hge, hl0, hf0, hf1, hc0, by omega⟩, hne⟩
theorem pow_ten : (10 : Int) ^ (14 : Int).toNat = 10 ^ 14 ∧ (10 : Int) ^ (15 : Int).toNat = 10 ^ 15 ∧ (10 : Int) ^ (29 : Int).toNat = 10 ^ 29 ∧ (10 : Int) ^ (31 : Int).toNat = 10 ^ 31 ∧ (10 : Int) ^ (57 : Int).toNat = 10 ^ 57 := ⟨rfl, rfl, rfl, rfl, rfl⟩
section
variable {P : Program} {w : World} {K : PySem.W.Frag} {mg : Str → Option Value} {base : Heap} {Z : Ad}
theorem ok_law_tray (T : Tx K w mg Z) : FnOk P w K mg base CX0 1 Z.a_law_tray Z.d_law_tray P_law_tray (spTray K) := by
  refine T.F_law_tray.ok sclaw_tray (fun vs H Q E h => ?_) (fun cdv A outer s H vs Q E hr h => ?_)
  · obtain ⟨a, ns, rfl, _⟩ := h
    rfl
  · obtain ⟨a, ns, rfl, hS, hlen, k⟩ := h
    refine ⟨_, (pss_cons (ps_set (i := 1) sclaw_tray.nd rfl (Or.inl rfl) pe_int)
      (pss_cons (ps_set (i := 2) sclaw_tray.nd rfl (Or.inl rfl) (pe_lst pa_nil))
      (pss_cons (ps_for PassesOwn.never rfl (pi_list (pv 0)) (pg_name (i := 3) sclaw_tray.nd rfl (Or.inl rfl)) (pss_cons (ps_set (i := 1) sclaw_tray.nd rfl (Or.inl rfl) (pe_op op_mod (pe_op op_add (pe_op op_mulW (pv 1) pe_int) (pv 3)) (pe_op op_sub (pe_op op_pow pe_int pe_int) pe_int)))
      (pss_cons (ps_set (i := 4) sclaw_tray.nd rfl (Or.inl rfl) (pe_callB (call_max2 rfl) (by rfl) T.b_max (by decide +kernel) (pa_cons (pv 3) (pa_cons (pe_op op_sub pe_int (pv 3)) pa_nil))))
      (pss_one (ps_if (pt_cmpR op_ge (pv 4) (pe_op op_pow pe_int pe_int) (nomark _)) (pss_one (ps_expr (pe_bm PySem.F.plainAttrs_list PySem.F.slot_list_append PySem.F.type_list_append mt_append (pv 2) (pa_cons (pe_op op_sub (pv 4) (pe_op op_pow pe_int pe_int)) pa_nil)))) pss_nil)))))
      (pss_one (ps_ret (pe_lst (pa_cons (pv 2) (pa_cons pe_int (pa_cons (pv 1) (pa_cons pe_int pa_nil)))))))))), ?_⟩
    refine ⟨(by show 0 ≤ sizeLine; decide), fun G hG => ?_⟩
    refine ⟨_, rfl, a, rfl, ⟨_, Same.sqL (same_upd hG) hS⟩, ?_⟩
    refine for_list (K := K) (a := a) (xs := ns.map V.int) (fun i σ' H' => ∃ (gs : List Int) (f : Int) (u v : Option V), σ' = [some (.ref a), some (.int f), some (.ref G), u, v] ∧ Same H H' ∧ H' G = some (.lst (gs.map V.int)) ∧ gs.length ≤ i ∧ (∀ x ∈ gs, 0 ≤ x) ∧ 0 ≤ f ∧ f < 2 ^ 61)
      ⟨[], 314159265358979, none, none, rfl, same_upd hG, upd_same, Nat.le_refl _, (fun _ z => absurd z (by simp)), by decide, by decide⟩ (fun i σ' H' _ ⟨_, _, _, _, _, S, _⟩ => Same.sqL S hS) ?_ ?_
    · rintro i y σ' H' hi ⟨gs, f, u, v, rfl, S, hg, hgl, hge, hf0, hf1⟩
      obtain ⟨z, hz, rfl⟩ := map_at hi
      have hi63 : i < 63 := by
        have := (List.getElem?_eq_some_iff.mp hz).1
        omega
      have bf : f.natAbs < 2 ^ 61 := by omega
      refine ⟨_, rfl, _, _, rfl, rfl, wide_mul (b := 30) bf (by decide) (by decide) (by decide) (by decide), _, rfl, _, _, rfl, rfl, ?_⟩
      refine ⟨_, _, rfl, rfl, ⟨by decide, by decide, by decide⟩, _, _, rfl, rfl, _, _, rfl, rfl, (by show (0 : Int) < _; decide), ?_⟩
      have hx0 := Int.emod_nonneg (f * 1000003 + z) (show (2 : Int) ^ (61 : Int).toNat - 1 ≠ 0 by decide)
      have hx1 := Int.emod_lt_of_pos (f * 1000003 + z) (show (0 : Int) < (2 : Int) ^ (61 : Int).toNat - 1 by decide)
      have e61 : (2 : Int) ^ (61 : Int).toNat - 1 = 2305843009213693951 := by decide
      refine ⟨_, rfl, _, rfl, _, _, rfl, rfl, _, _, rfl, _, rfl, _, _, rfl, rfl, ⟨by decide, by decide, by decide⟩, _, _, rfl, rfl, _, rfl, ?_⟩
      refine ite2 (fun c => ?_) (fun _ => ?_)
      · refine ⟨_, rfl, .inl ⟨rfl, _, SqL.of hg⟩, _, rfl, _, _, rfl, rfl, ⟨by decide, by decide, by decide⟩, _, _, rfl, rfl, G, _, _, rfl, rfl, hg, ?_, ?_⟩
        · exact small1000 (by simp; omega)
        · have c' := of_decide_eq_true c
          refine ⟨gs ++ [(if 0 - z > z then 0 - z else z) - 10 ^ (18 : Int).toNat], _, _, _, rfl, same_set S hG, ?_, ?_, ?_, hx0, by rw [e61] at hx1; rw [e61]; omega⟩
          · rw [List.map_append]; exact upd_same
          · simp; omega
          · intro x hx
            rcases List.mem_append.mp hx with h | h
            · exact hge x h
            · rw [List.mem_singleton] at h
              subst h
              omega
      · exact ⟨gs, _, _, _, rfl, S, hg, by omega, hge, hx0, by rw [e61] at hx1; rw [e61]; omega⟩
    · rintro σ' H' ⟨gs, f, u, v, rfl, S, hg, hgl, hge, hf0, hf1⟩
      refine ⟨_, rfl, _, rfl, (by show 4 ≤ sizeLine; decide), fun t ht => ?_⟩
      have hgt : G ≠ t := ne_of_none hg ht
      refine k _ t G ⟨⟨gs, 0, f, 0, upd_same, (upd_ne hgt).trans hg, ?_, hge, Int.le_refl _, hf0, hf1, Int.le_refl _, Int.le_refl _⟩, Ne.symm hgt⟩ (same_set S (S.free ht)) (S.free ht) hG
      rw [List.length_map] at hgl
      omega
theorem ok_law_great (T : Tx K w mg Z) : FnOk P w K mg base CX0 2 Z.a_law_great Z.d_law_great P_law_great (spGreat) := by
  refine T.F_law_great.ok sclaw_great (fun vs H Q E h => ?_) (fun cdv A outer s H vs Q E hr h => ?_)
  · obtain ⟨t, g, n, rfl, _⟩ := h
    rfl
  · obtain ⟨t, g, n, rfl, hT, hn, k⟩ := h
    refine ⟨_, (pss_cons (ps_set (i := 1) sclaw_great.nd rfl (Or.inl rfl) (pe_call (ok_law_draw T) (hr.mono (by decide)) (by rfl) T.g_law_draw T.F_law_draw.kp T.bb_law_draw .nil pass0 (pa_cons (pv 0) (pa_cons (pe_op op_pow pe_int pe_int) pa_nil))))
      (pss_cons (ps_for PassesOwn.never rfl (pi_range1 (by rfl) T.b_range (pa_cons pe_int pa_nil)) (pg_name (i := 2) sclaw_great.nd rfl (Or.inl rfl)) (pss_one (ps_set (i := 1) sclaw_great.nd rfl (Or.inl rfl) (pe_op op_add (pe_op op_mulW (pv 1) (pe_op op_pow pe_int pe_int)) (pe_call (ok_law_draw T) (hr.mono (by decide)) (by rfl) T.g_law_draw T.F_law_draw.kp T.bb_law_draw .nil pass0 (pa_cons (pv 0) (pa_cons (pe_op op_pow pe_int pe_int) pa_nil)))))))
      (pss_one (ps_ret (pv 1))))), ?_⟩
    refine ⟨_, rfl, _, _, rfl, rfl, ⟨by decide, by decide, by decide⟩, t, g, n, _, rfl, hT, by decide, by decide, Nat.lt_trans hn (by decide), fun H1 r h0 h1 T1 k1 => ?_⟩
    refine ⟨3, rfl, by decide, by decide, ?_⟩
    refine for_range (n := 3) (fun i σ' H' => ∃ (r : Int) (u : Option V), σ' = [some (.ref t), some (.int r), u] ∧ 0 ≤ r ∧ r < 10 ^ 14 * (10 ^ 15) ^ i ∧ Tray H' t g (n + 1 + i) ∧ Keep t g H H') ⟨r, none, rfl, h0, by simpa using h1, T1, k1⟩ ?_ ?_
    · rintro i σ' H' hi ⟨r, u, rfl, r0, r1, T2, k2⟩
      have hb : (10 : Int) ^ 14 * (10 ^ 15) ^ i ≤ 10 ^ 14 * (10 ^ 15) ^ 2 := by
        have : i = 0 ∨ i = 1 ∨ i = 2 := by omega
        rcases this with e | e | e <;> subst e <;> decide
      have rb : r.natAbs < 2 ^ 200 := by
        have : r < 10 ^ 14 * (10 ^ 15) ^ 2 := Int.lt_of_lt_of_le r1 hb
        have e : (10 : Int) ^ 14 * (10 ^ 15) ^ 2 = 100000000000000000000000000000000000000000000 := by decide
        rw [e] at this
        have e2 : (2 : Nat) ^ 200 = 1606938044258990275541962092341162602522202993782792835301376 := by decide
        rw [e2]; omega
      refine ⟨_, rfl, _, _, rfl, rfl, ⟨by decide, by decide, by decide⟩, _, _, rfl, rfl, wide_mul (b := 60) rb (by decide) (by decide) (by decide) (by decide), ?_⟩
      refine ⟨_, rfl, _, _, rfl, rfl, ⟨by decide, by decide, by decide⟩, t, g, n + 1 + i, _, rfl, T2, by decide, by decide, (by omega), fun H3 q q0 q1 T3 k3 => ?_⟩
      refine ⟨_, _, rfl, rfl, ?_⟩
      have e15 : (10 : Int) ^ (15 : Int).toNat = 1000000000000000 := by decide
      rw [e15] at q1
      refine ⟨_, _, rfl, ?_, ?_, T3, k2.trans k3⟩
      · rw [e15]; omega
      · rw [e15, Int.pow_succ (10 ^ 15) i, ← Int.mul_assoc]
        generalize (10 : Int) ^ 14 * (10 ^ 15) ^ i = B at r1 ⊢
        have e : (10 : Int) ^ 15 = 1000000000000000 := by decide
        rw [e]; omega
    · rintro σ' H' ⟨r, u, rfl, r0, r1, T2, k2⟩
      refine ⟨_, rfl, k _ _ r0 ?_ (T2.up (by omega)) k2⟩
      exact Int.lt_of_lt_of_le r1 (by decide)
theorem ok_law_length (T : Tx K w mg Z) : FnOk P w K mg base CX0 3 Z.a_law_length Z.d_law_length P_law_length (spLength) := by
  refine T.F_law_length.ok sclaw_length (fun vs H Q E h => ?_) (fun cdv A outer s H vs Q E hr h => ?_)
  · obtain ⟨t, g, n, rfl, _⟩ := h
    rfl
  · obtain ⟨t, g, n, rfl, hT, hn, k⟩ := h
    refine ⟨_, (pss_cons (ps_set (i := 1) sclaw_length.nd rfl (Or.inl rfl) (pe_call (ok_law_draw T) (hr.mono (by decide)) (by rfl) T.g_law_draw T.F_law_draw.kp T.bb_law_draw .nil pass0 (pa_cons (pv 0) (pa_cons pe_int pa_nil))))
      (C8.pss_cut (ps_if (pt_cmpR op_eq (pv 1) pe_int (nomark _)) (pss_one (ps_ret (pe_callB (call_max2 rfl) (by rfl) T.b_max (by decide +kernel) (pa_cons pe_int (pa_cons (pe_op op_fdivW (pe_call (ok_law_great T) (hr.mono (by decide)) (by rfl) T.g_law_great T.F_law_great.kp T.bb_law_great .nil pass0 (pa_cons (pv 0) pa_nil)) (pe_op op_pow pe_int pe_int)) pa_nil))))) pss_nil)
      (pss_one (ps_ret (pe_op op_add pe_int (pe_call (ok_law_draw T) (hr.mono (by decide)) (by rfl) T.g_law_draw T.F_law_draw.kp T.bb_law_draw .nil pass0 (pa_cons (pv 0) (pa_cons (pe_ix (ixL (K := K)) (pe_lst (pa_cons pe_int (pa_cons pe_int (pa_cons pe_int (pa_cons pe_int (pa_cons pe_int pa_nil)))))) (pv 1) (fun _ _ => rfl)) pa_nil)))))))), ?_⟩
    have hn2 : n < 2 ^ 60 := Nat.lt_trans hn (by decide)
    have hn3 : n + 1 < 2 ^ 50 := Nat.lt_of_lt_of_le (Nat.add_lt_add_right hn 1) (by decide)
    refine ⟨_, rfl, t, g, n, _, rfl, hT, by decide, by decide, hn2, fun H1 lot l0 l1 T1 k1 => ?_⟩
    refine ⟨fun σ' H' => σ' = [some (.ref t), some (.int lot)] ∧ H' = H1 ∧ lot ≠ 5, ?_, ?_⟩
    · refine ⟨_, rfl, rfl, _, rfl, ?_⟩
      refine ite2 (fun c => ?_) (fun c => ⟨rfl, rfl, fun e => c (by rw [e]; decide)⟩)
      refine ⟨_, rfl, t, g, n + 1, rfl, T1, hn3, fun H2 r r0 r1 T2 k2 => ?_⟩
      refine ⟨_, _, rfl, rfl, ⟨by decide, by decide, by decide⟩, _, _, rfl, rfl, wide_div (b := 100) (by decide) (by decide) (by decide) (by decide), _, _, rfl, ?_⟩
      have e29 : (10 : Int) ^ (29 : Int).toNat = 100000000000000000000000000000 := by decide
      have e59 : (10 : Int) ^ 59 = 100000000000000000000000000000000000000000000000000000000000 := by decide
      have e30 : (10 : Int) ^ 30 = 1000000000000000000000000000000 := by decide
      rw [e59] at r1
      refine k _ _ ?_ ?_ (T2.up (by omega)) (k1.trans k2)
      · split <;> omega
      · rw [e29, e30]; split <;> omega
    · rintro σ' H' ⟨rfl, rfl, h5⟩
      have hc : ∃ m : Int, atI [V.int 3, .int 5, .int 12, .int 12, .int 400] lot = some (.int m) ∧ 0 < m ∧ m ≤ 400 := by
        have : lot = 0 ∨ lot = 1 ∨ lot = 2 ∨ lot = 3 ∨ lot = 4 := by omega
        rcases this with e | e | e | e | e <;> subst e
        · exact ⟨3, rfl, by decide, by decide⟩
        · exact ⟨5, rfl, by decide, by decide⟩
        · exact ⟨12, rfl, by decide, by decide⟩
        · exact ⟨12, rfl, by decide, by decide⟩
        · exact ⟨400, rfl, by decide, by decide⟩
      obtain ⟨m, hm, m0, m1⟩ := hc
      have hmb : m.natAbs < 2 ^ 1000 := Nat.lt_of_le_of_lt (by omega : m.natAbs ≤ 400) (by decide)
      refine ⟨_, rfl, (by show 5 ≤ sizeLine; decide), fun p hp => ?_⟩
      refine ⟨_, rfl, p, _, _, _, rfl, rfl, SqL.of upd_same, hm, ?_⟩
      have T2 : Tray (upd H' p (.lst [V.int 3, .int 5, .int 12, .int 12, .int 400])) t g (n + 1) := T1.same (same_upd hp)
      refine ⟨t, g, n + 1, m, rfl, T2, m0, hmb, Nat.lt_trans hn3 (by decide), fun H3 r r0 r1 T3 k3 => ?_⟩
      refine ⟨_, _, rfl, rfl, k _ _ (by omega) ?_ (T3.up (by omega)) (k1.trans ((Keep.of_same (same_upd hp)).trans k3))⟩
      have e30 : (10 : Int) ^ 30 = 1000000000000000000000000000000 := by decide
      rw [e30]; omega
end
end KA
namespace KA
open PySem PySem.Spec PyProof.Rows L2 DP
abbrev Pr := Int × Int
def encP (p : Pr) : PyData := .tuple [.int p.1, .int p.2]
theorem noL_encP (p : Pr) : noL (encP p) = true := rfl
/-- where each step leads x -/
def leads (L : Int) (steps : List Pr) (x : Int) : List Int := steps.map fun s => s.2 + (x - s.1) / L * L
def IsMaxL (l : List Int) (m : Int) : Prop := m ∈ l ∧ ∀ y ∈ l, y ≤ m
def StepsOk (L : Int) (steps : List Pr) : Prop := steps ≠ [] ∧ steps.length ≤ 20 ∧ ∀ s ∈ steps, 0 ≤ s.1 ∧ s.1 < L ∧ s.2.natAbs < 2 ^ 196
/-- a list of data at p, tracked -/
def LAt (K : PySem.W.Frag) (H : Hp) (p : Addr) (ds : List PyData) : Prop := ∃ vs, H p = some (.lst vs) ∧ DpAll K H vs ds
theorem LAt.dp {K : PySem.W.Frag} {H : Hp} {p : Addr} {ds : List PyData} (h : LAt K H p ds) : Dp K H (.ref p) (.list ds) := by
  obtain ⟨vs, h1, h2⟩ := h
  exact .lst (SqL.of h1) h2
theorem LAt.same {K : PySem.W.Frag} {H H' : Hp} {p : Addr} {ds : List PyData} (h : LAt K H p ds) (S : Same H H') : LAt K H' p ds := by
  obtain ⟨vs, h1, h2⟩ := h
  exact ⟨vs, S _ _ h1, dpAll_mono S _ _ h2⟩
theorem Keep.tups {H H' : Hp} {t g : Addr} {n : Nat} (T : Tray H t g n) (k : Keep t g H H') : Tups H H' := fun b xs hb => by
  obtain ⟨⟨gs, l, f, c, h1, h2, r⟩, hne⟩ := T
  rcases hb with e | ⟨q, e⟩
  · refine .inl (k b _ e ?_ ?_) <;> rintro rfl
    · rw [h1] at e; cases e
    · rw [h2] at e; cases e
  · refine .inr ⟨q, k b _ e ?_ ?_⟩ <;> rintro rfl
    · rw [h1] at e; cases e
    · rw [h2] at e; cases e
theorem LAt.keep {K : PySem.W.Frag} {H H' : Hp} {t g p : Addr} {n : Nat} {ds : List PyData} (h : LAt K H p ds) (T : Tray H t g n) (k : Keep t g H H') (h1 : p ≠ t) (h2 : p ≠ g) (hn : noL.noLs ds = true) : LAt K H' p ds := by
  obtain ⟨vs, a, b⟩ := h
  exact ⟨vs, k _ _ a h1 h2, dpAll_tups (Keep.tups T k) _ _ hn b⟩
theorem Tray.at_ne {H : Hp} {t g p : Addr} {n : Nat} (T : Tray H t g n) (hp : H p = none) : p ≠ t ∧ p ≠ g := by
  obtain ⟨⟨gs, l, f, c, h1, h2, r⟩, hne⟩ := T
  exact ⟨Ne.symm (ne_of_none h1 hp), Ne.symm (ne_of_none h2 hp)⟩
theorem Keep.free {H H' : Hp} {t g p : Addr} {n : Nat} (T : Tray H t g n) (k : Keep t g H H') (hp : H' p = none) (T' : ∃ m, Tray H' t g m) : H p = none := by
  obtain ⟨m, T'⟩ := T'
  obtain ⟨h1, h2⟩ := T'.at_ne hp
  cases e : H p with
  | none => rfl
  | some o =>
    rw [k p o e h1 h2] at hp
    cases hp
def spLead (K : PySem.W.Frag) : Sp := fun vs H Q _ => ∃ (v : V) (L x : Int) (steps : List Pr), vs = [.int L, v, .int x] ∧ Dp K H v (.list (steps.map encP)) ∧ 0 < L ∧ L.natAbs < 2 ^ 200 ∧ x.natAbs < 2 ^ 300 ∧ StepsOk L steps ∧ ∀ m H', Same H H' → IsMaxL (leads L steps x) m → Q (.int m) H'
def spSecret (K : PySem.W.Frag) : Sp := fun vs H Q _ => ∃ (t g : Addr) (n : Nat) (L : Int), vs = [.ref t, .int L] ∧ Tray H t g n ∧ n < 2 ^ 45 ∧ 0 < L ∧ L ≤ 10 ^ 30 ∧
  ∀ (H' : Hp) (p : Addr) (steps : List Pr), H p = none → Tray H' t g (n + 30) → Keep t g H H' → LAt K H' p (steps.map encP) → StepsOk L steps → Q (.ref p) H'
theorem dp_pair {K : PySem.W.Frag} {H : Hp} {v : V} {p : Pr} (h : Dp K H v (encP p)) : ∃ a, v = .ref a ∧ SqT K H a [.int p.1, .int p.2] := by
  have h' : Dp K H v (.tuple [.int p.1, .int p.2]) := h
  cases h' with
  | tup s a =>
    cases a with
    | cons a1 a =>
      cases a with
      | cons a2 a =>
        cases a; cases a1; cases a2
        exact ⟨_, rfl, s⟩
section
variable {P : Program} {w : World} {K : PySem.W.Frag} {mg : Str → Option Value} {base : Heap} {Z : Ad}
theorem ok_law_lead (T : Tx K w mg Z) : FnOk P w K mg base CX0 1 Z.a_law_lead Z.d_law_lead P_law_lead (spLead K) := by
  refine T.F_law_lead.ok sclaw_lead (fun vs H Q E h => ?_) (fun cdv A outer s H vs Q E hr h => ?_)
  · obtain ⟨v, L, x, steps, rfl, _⟩ := h
    rfl
  · obtain ⟨v, L, x, steps, rfl, hv, hL, hLb, hx, ⟨hne, hlen, hst⟩, k⟩ := h
    obtain ⟨a, xs, rfl, ha, hd⟩ := dp_list hv
    have hxl : xs.length = steps.length := by rw [dpAll_len hd, List.length_map]
    refine ⟨_, (pss_one (ps_ret (pe_callB (maxK (K := K) rfl) (by rfl) T.b_max (by decide +kernel) (pa_cons (pe_lc (own := [("here", 3), ("there", 4)]) (g := gTup K 2 (gCons (gName 3) (gCons (gName 4) gNil))) (tt := tYes) rfl sclaw_lead.nd (pi_list (pv 1)) (blkOk_by (own := [("here", 3), ("there", 4)]) (N := N_law_lead) (sc := defScope slaw_lead) (by decide +kernel)) (fun _ _ _ _ _ => (tupK (K := K) (by rfl) (pgs_cons (pg_name (i := 3) sclaw_lead.nd rfl (Or.inl rfl)) (pgs_cons (pg_name (i := 4) sclaw_lead.nd rfl (Or.inl rfl)) pgs_nil)))) (fun _ _ _ _ _ => pts_nil) (fun _ _ _ _ _ => (pe_op op_add (pv 4) (pe_op op_mulW (pe_op op_fdivW (pe_op op_sub (pv 2) (pv 3)) (pv 0)) (pv 0))))) pa_nil)))), ?_⟩
    refine ⟨_, rfl, a, rfl, ⟨_, ha⟩, fun D hD => ?_⟩
    refine lc_list (K := K) (a := a) (xs := xs) (fun i H' => Same H H' ∧ H' D = some (.lst ((leads L (steps.take i) x).map V.int))) ⟨same_upd hD, upd_same⟩ (fun i H' _ ⟨S, _⟩ => Same.sqL S ha) ?_ ?_
    · rintro i y H' hi ⟨S, hD'⟩
      obtain ⟨d, hdi, hdy⟩ := dpAll_get hd hi
      obtain ⟨l, hl, rfl⟩ := map_at hdi
      obtain ⟨s0, s1, s2⟩ := hst l (List.mem_of_getElem? hl)
      obtain ⟨p, rfl, hp⟩ := dp_pair (dp_mono S _ _ hdy)
      have b1 : l.1.natAbs < 2 ^ 300 := Nat.lt_of_le_of_lt (by clear hLb; omega : l.1.natAbs ≤ L.natAbs) (Nat.lt_trans hLb (by decide))
      refine ⟨_, _, rfl, hp, rfl, _, _, rfl, _, _, rfl, rfl, rfl, yes_ite ?_⟩
      refine ⟨_, rfl, _, rfl, _, rfl, _, _, rfl, rfl, _, rfl, _, _, rfl, rfl, wide_div hL hLb (by decide) (by decide), _, rfl, _, _, rfl, rfl, wide_mul (div_lt hL (sub_lt hx b1)) hLb (by decide) (by decide) (by decide), _, _, rfl, rfl, ?_⟩
      refine ⟨_, hD', ?_, same_set S hD, ?_⟩
      · have : i < steps.length := (List.getElem?_eq_some_iff.mp hl).1
        exact small1000 (by simp [leads]; omega)
      · have e : leads L (steps.take (i + 1)) x = leads L (steps.take i) x ++ [l.2 + (x - l.1) / L * L] := by
          unfold leads; rw [take_snoc hl, List.map_append]; rfl
        rw [e, List.map_append]
        exact upd_same
    · rintro H' ⟨S, hD'⟩
      rw [List.take_of_length_le (by rw [hxl]; exact Nat.le_refl _)] at hD'
      refine ⟨D, leads L steps x, rfl, SqL.of hD', ?_, fun m h1 h2 => k m H' S ⟨h1, h2⟩⟩
      have : 0 < steps.length := List.length_pos_iff.mpr hne
      simpa [leads] using this
end
end KA
namespace KA
open PySem PySem.Spec PyProof.Rows L2 DP
theorem small_nat {L : Int} {a : Int} {n : Nat} (h0 : 0 ≤ a) (h1 : a ≤ L) (hL : L.natAbs < 2 ^ n) : a.natAbs < 2 ^ n := Nat.lt_of_le_of_lt (by omega : a.natAbs ≤ L.natAbs) hL
theorem bigL {L : Int} (h0 : 0 < L) (h : L ≤ 10 ^ 30) : L.natAbs < 2 ^ 100 := by
  have e : (10 : Int) ^ 30 = 1000000000000000000000000000000 := by decide
  have e2 : (2 : Nat) ^ 100 = 1267650600228229401496703205376 := by decide
  rw [e] at h; rw [e2]; omega
/-- what the tray's calls keep of the frame: the tray, all else, so far m draws -/
structure At (H Hc : Hp) (t g : Addr) (m : Nat) : Prop where
  T : Tray Hc t g m
  k : Keep t g H Hc
theorem At.step {H H1 H2 : Hp} {t g : Addr} {m m' : Nat} (a : At H H1 t g m) (T : Tray H2 t g m') (k : Keep t g H1 H2) : At H H2 t g m' := ⟨T, a.k.trans k⟩
theorem At.up {H Hc : Hp} {t g : Addr} {m m' : Nat} (a : At H Hc t g m) (h : m ≤ m') : At H Hc t g m' := ⟨a.T.up h, a.k⟩
theorem At.new {H H1 : Hp} {t g p : Addr} {m : Nat} {o : HO} (a : At H H1 t g m) (hp : H1 p = none) : At H (upd H1 p o) t g m := ⟨a.T.same (same_upd hp), a.k.trans (Keep.of_same (same_upd hp))⟩
theorem At.free {H H1 : Hp} {t g p : Addr} {m : Nat} (a : At H H1 t g m) (hp : H1 p = none) : H p = none := by
  obtain ⟨h1, h2⟩ := a.T.at_ne hp
  cases e : H p with
  | none => rfl
  | some o =>
    rw [a.k p o e h1 h2] at hp
    cases hp
/-- a list that a comprehension makes is changed: it is new -/
theorem At.acc {H H1 : Hp} {t g D : Addr} {m : Nat} {o : HO} (a : At H H1 t g m) (hD : H D = none) (h1 : D ≠ t) (h2 : D ≠ g) : At H (upd H1 D o) t g m := by
  obtain ⟨⟨⟨gs, l, f, c, e1, e2, r⟩, hne⟩, k⟩ := a
  exact ⟨⟨⟨gs, l, f, c, (upd_ne (Ne.symm h1)).trans e1, (upd_ne (Ne.symm h2)).trans e2, r⟩, hne⟩, fun b o e n1 n2 => (upd_ne (ne_of_none e hD)).trans (k b o e n1 n2)⟩
section
variable {P : Program} {w : World} {K : PySem.W.Frag} {mg : Str → Option Value} {base : Heap} {Z : Ad}
theorem ok_law_secret (T : Tx K w mg Z) : FnOk P w K mg base CX0 3 Z.a_law_secret Z.d_law_secret P_law_secret (spSecret K) := by
  refine T.F_law_secret.ok sclaw_secret (fun vs H Q E h => ?_) (fun cdv A outer s H vs Q E hr h => ?_)
  · obtain ⟨t, g, n, L, rfl, _⟩ := h
    rfl
  · obtain ⟨t, g, n, L, rfl, hT, hn, hL, hL30, k⟩ := h
    have hLb := bigL hL hL30
    have hb : ∀ m, m ≤ n + 30 → m < 2 ^ 49 := fun m hm => Nat.lt_of_le_of_lt hm (Nat.lt_of_lt_of_le (Nat.add_lt_add_right hn 30) (by decide))
    have hb' : ∀ m, m ≤ n + 30 → m < 2 ^ 60 := fun m hm => Nat.lt_trans (hb m hm) (by decide)
    refine ⟨_, (pss_cons (ps_set (i := 2) sclaw_secret.nd rfl (Or.inr rfl) (pe_callB (sortedSetK (w := w) rfl) (by rfl) T.b_sorted (by decide +kernel) (pa_cons (pe_callTy (setIK (K := K) (w := w) rfl) (by rfl) T.b_set (by decide +kernel) (pa_cons (pe_lc (own := [("k", 3)]) (g := gName 3) (tt := tYes) rfl sclaw_secret.nd (pi_range1 (by rfl) T.b_range (pa_cons (pe_op op_add pe_int (pe_call (ok_law_draw T) (hr.mono (by decide)) (by rfl) T.g_law_draw T.F_law_draw.kp T.bb_law_draw .nil pass0 (pa_cons (pv 0) (pa_cons pe_int pa_nil)))) pa_nil)) (blkOk_by (own := [("k", 3)]) (N := N_law_secret) (sc := defScope slaw_secret) (by decide +kernel)) (fun _ _ _ _ _ => (pg_name (i := 3) sclaw_secret.nd rfl (Or.inl rfl))) (fun _ _ _ _ _ => pts_nil) (fun _ _ _ _ _ => (pe_call (ok_law_draw T) (hr.mono (by decide)) (by rfl) T.g_law_draw T.F_law_draw.kp T.bb_law_draw .nil pass0 (pa_cons (pv 0) (pa_cons (pv 1) pa_nil))))) pa_nil)) pa_nil)))
      (pss_cons (ps_set (i := 4) sclaw_secret.nd rfl (Or.inr rfl) (pe_callB (sortK (K := K)) (by rfl) T.b_sorted (by decide +kernel) (pa_cons (pe_lc (own := [("spot", 5)]) (g := gName 5) (tt := tYes) rfl sclaw_secret.nd (pi_list (pv 2)) (blkOk_by (own := [("spot", 5)]) (N := N_law_secret) (sc := defScope slaw_secret) (by decide +kernel)) (fun _ _ _ _ _ => (pg_name (i := 5) sclaw_secret.nd rfl (Or.inl rfl))) (fun _ _ _ _ _ => pts_nil) (fun _ _ _ _ _ => (pe_call (ok_law_draw T) (hr.mono (by decide)) (by rfl) T.g_law_draw T.F_law_draw.kp T.bb_law_draw .nil pass0 (pa_cons (pv 0) (pa_cons (pe_op op_add (pv 1) pe_int) pa_nil))))) pa_nil)))
      (pss_cons (ps_set (i := 6) sclaw_secret.nd rfl (Or.inl rfl) (pe_call (ok_law_draw T) (hr.mono (by decide)) (by rfl) T.g_law_draw T.F_law_draw.kp T.bb_law_draw .nil pass0 (pa_cons (pv 0) (pa_cons pe_int pa_nil))))
      (pss_cons (ps_set (i := 7) sclaw_secret.nd rfl (Or.inr rfl) (pe_ix (ixL (K := K)) (pe_lst (pa_cons pe_int (pa_cons (pe_call (ok_law_draw T) (hr.mono (by decide)) (by rfl) T.g_law_draw T.F_law_draw.kp T.bb_law_draw .nil pass0 (pa_cons (pv 0) (pa_cons (pe_op op_add (pv 1) pe_int) pa_nil))) (pa_cons (pe_op op_sub (pe_call (ok_law_draw T) (hr.mono (by decide)) (by rfl) T.g_law_draw T.F_law_draw.kp T.bb_law_draw .nil pass0 (pa_cons (pv 0) (pa_cons (pe_op op_add (pe_op op_mulW pe_int (pv 1)) pe_int) pa_nil))) (pe_op op_mulW pe_int (pv 1))) pa_nil)))) (pe_op op_mod (pv 6) pe_int) (fun _ _ => rfl)))
      (C8.pss_cut (ps_if (pt_cmpR op_eq (pv 6) pe_int (nomark _)) (pss_one (ps_set (i := 7) sclaw_secret.nd rfl (Or.inr rfl) (pe_op op_sub (pe_op op_fdivW (pe_call (ok_law_great T) (hr.mono (by decide)) (by rfl) T.g_law_great T.F_law_great.kp T.bb_law_great .nil pass0 (pa_cons (pv 0) pa_nil)) pe_int) (pe_op op_pow pe_int pe_int)))) pss_nil)
      (pss_one (ps_ret (pe_lc (own := [("k", 3)]) (g := gName 3) (tt := tYes) rfl sclaw_secret.nd (pi_range1 (by rfl) T.b_range (pa_cons (pe_callB (lenK (K := K)) (by rfl) T.b_len (by decide +kernel) (pa_cons (pv 2) pa_nil)) pa_nil)) (blkOk_by (own := [("k", 3)]) (N := N_law_secret) (sc := defScope slaw_secret) (by decide +kernel)) (fun _ _ _ _ _ => (pg_name (i := 3) sclaw_secret.nd rfl (Or.inl rfl))) (fun _ _ _ _ _ => pts_nil) (fun _ _ _ _ _ => (pe_tup (pa_cons (pe_ix (ixL (K := K)) (pv 2) (pv 3) (fun _ _ => rfl)) (pa_cons (pe_op op_add (pv 7) (pe_ix (ixL (K := K)) (pv 4) (pv 3) (fun _ _ => rfl))) pa_nil)))))))))))), ?_⟩
    -- spots = sorted(set([_law_draw(tray, size) for k in range(1 + _law_draw(tray, 6))]))
    refine ⟨_, rfl, t, g, n, 6, rfl, hT, by decide, by decide, hb' _ (by omega), fun H1 d0 d1 d2 T1 k1 => ?_⟩
    have A1 : At H H1 t g (n + 1) := ⟨T1, k1⟩
    refine ⟨_, _, rfl, rfl, 1 + d0, rfl, by omega, by omega, fun D hD => ?_⟩
    obtain ⟨Dt, Dg⟩ := T1.at_ne hD
    have hDH := A1.free hD
    refine lc_range (lo := 0) (n := (1 + d0).toNat) (fun i H' => At H H' t g (n + 1 + i) ∧ ∃ ns : List Int, H' D = some (.lst (ns.map V.int)) ∧ ns.length = i ∧ ∀ x ∈ ns, 0 ≤ x ∧ x < L) ⟨A1.new hD, [], upd_same, rfl, fun _ z => absurd z (by simp)⟩ ?_ ?_
    · rintro i H' hi ⟨A, ns, hd, hl, hx⟩
      have hi6 : i < 6 := by omega
      refine ⟨rfl, yes_ite ?_⟩
      refine ⟨_, rfl, _, rfl, t, g, n + 1 + i, L, rfl, A.T, hL, lt_up hLb (by decide), hb' _ (by omega), fun H2 r r0 r1 T2 k2 => ?_⟩
      have hd2 := k2 _ _ hd Dt Dg
      refine ⟨_, hd2, small1000 (by simp; omega), (A.step T2 k2).acc hDH Dt Dg, ns ++ [r], ?_, by simp [hl], fun x hx' => ?_⟩
      · rw [List.map_append]; exact upd_same
      · rcases List.mem_append.mp hx' with h | h
        · exact hx x h
        · rw [List.mem_singleton] at h; subst h; exact ⟨r0, r1⟩
    rintro H2 ⟨A2, ns, hd, hnl, hx⟩
    refine ⟨D, ns, rfl, SqL.of hd, by omega, fun q c hc hq => ?_⟩
    refine ⟨q, _, c, rfl, upd_same, by omega, fun ss p hpw hmem hsl hp => ?_⟩
    have A3 := (A2.new (o := SetO w q (fun j => decide (j ∈ ns)) c) hq).new (o := HO.lst (ss.map V.int)) hp
    generalize eH3 : upd (upd H2 q (SetO w q (fun j => decide (j ∈ ns)) c)) p (.lst (ss.map V.int)) = H3 at A3 ⊢
    have hp3 : H3 p = some (.lst (ss.map V.int)) := by rw [← eH3]; exact upd_same
    have hpH : H p = none := (A2.new (o := SetO w q (fun j => decide (j ∈ ns)) c) hq).free hp
    obtain ⟨pt, pg⟩ := (A2.new (o := SetO w q (fun j => decide (j ∈ ns)) c) hq).T.at_ne hp
    have hss : ∀ x ∈ ss, 0 ≤ x ∧ x < L := fun x hx' => hx x (of_decide_eq_true ((hmem x).mp hx'))
    have hss6 : ss.length ≤ 6 := by rw [hsl]; omega
    have hssne : ss ≠ [] := by
      cases ns with
      | nil => simp at hnl; omega
      | cons y r =>
        intro e
        have : y ∈ ss := (hmem y).mpr (by simp)
        rw [e] at this; cases this
    have A3' : At H H3 t g (n + 7) := A3.up (by omega)
    -- rises = sorted([_law_draw(tray, size + 1) for spot in spots])
    refine ⟨_, rfl, p, rfl, ⟨_, SqL.of hp3⟩, fun D2 hD2 => ?_⟩
    obtain ⟨D2t, D2g⟩ := A3'.T.at_ne hD2
    have hD2H := A3'.free hD2
    have hD2p : p ≠ D2 := ne_of_none hp3 hD2
    refine lc_list (K := K) (a := p) (xs := ss.map V.int) (fun i H' => At H H' t g (n + 7 + i) ∧ H' p = some (.lst (ss.map V.int)) ∧ ∃ ns : List Int, H' D2 = some (.lst (ns.map V.int)) ∧ ns.length = i ∧ ∀ x ∈ ns, 0 ≤ x ∧ x ≤ L)
      ⟨A3'.new hD2, (upd_ne hD2p).trans hp3, [], upd_same, rfl, fun _ z => absurd z (by simp)⟩ (fun i H' _ ⟨_, h, _⟩ => SqL.of h) ?_ ?_
    · rintro i y H' hi ⟨A, hpk, ns2, hd, hl, hx2⟩
      have hi6 : i < 6 := by
        have := (List.getElem?_eq_some_iff.mp hi).1
        rw [List.length_map] at this; omega
      refine ⟨rfl, yes_ite ?_⟩
      refine ⟨_, rfl, _, rfl, _, _, rfl, rfl, t, g, n + 7 + i, L + 1, rfl, A.T, by omega, lt_up (add_lt hLb (show (1 : Int).natAbs < 2 ^ 100 by decide)) (by decide), hb' _ (by omega), fun H4 r r0 r1 T4 k4 => ?_⟩
      have hd2 := k4 _ _ hd D2t D2g
      refine ⟨_, hd2, small1000 (by simp; omega), (A.step T4 k4).acc hD2H D2t D2g, (upd_ne hD2p).trans (k4 _ _ hpk pt pg), ns2 ++ [r], ?_, by simp [hl], fun x hx' => ?_⟩
      · rw [List.map_append]; exact upd_same
      · rcases List.mem_append.mp hx' with h | h
        · exact hx2 x h
        · rw [List.mem_singleton] at h; subst h; exact ⟨r0, by omega⟩
    rintro H4 ⟨A4, hp4, ns2, hd2, hnl2, hx2⟩
    rw [List.length_map] at A4 hnl2
    refine ⟨D2, ns2, rfl, SqL.of hd2, by omega, fun rs p2 hperm hsrt hp2 => ?_⟩
    have hrl : rs.length = ss.length := by rw [hperm.length_eq, hnl2]
    have hrs : ∀ x ∈ rs, 0 ≤ x ∧ x ≤ L := fun x hx' => hx2 x (hperm.mem_iff.mp hx')
    obtain ⟨p2t, p2g⟩ := A4.T.at_ne hp2
    have hp2p : p ≠ p2 := ne_of_none hp4 hp2
    have A5 : At H (upd H4 p2 (.lst (rs.map V.int))) t g (n + 13) := (A4.new hp2).up (by omega)
    have hp5 : (upd H4 p2 (.lst (rs.map V.int))) p = some (.lst (ss.map V.int)) := (upd_ne hp2p).trans hp4
    have hq5 : (upd H4 p2 (.lst (rs.map V.int))) p2 = some (.lst (rs.map V.int)) := upd_same
    generalize upd H4 p2 (.lst (rs.map V.int)) = H5 at A5 hp5 hq5 ⊢
    -- lot = _law_draw(tray, 6)
    refine ⟨_, rfl, t, g, n + 13, 6, rfl, A5.T, by decide, by decide, hb' _ (by omega), fun H6 lot l0 l1 T6 k6 => ?_⟩
    have A6 := A5.step T6 k6
    have hp6 := k6 _ _ hp5 pt pg
    have hq6 := k6 _ _ hq5 p2t p2g
    -- base = [0, _law_draw(tray, size + 1), _law_draw(tray, 4 * size + 1) - 2 * size][lot % 3]
    refine ⟨_, rfl, _, rfl, _, _, rfl, rfl, t, g, n + 14, L + 1, rfl, A6.T, by omega, lt_up (add_lt hLb (show (1 : Int).natAbs < 2 ^ 100 by decide)) (by decide), hb' _ (by omega), fun H7 b1 c0 c1 T7 k7 => ?_⟩
    have A7 := A6.step T7 k7
    have b4 : (4 * L).natAbs < 2 ^ 103 := by rw [Int.natAbs_mul]; exact Nat.lt_of_lt_of_le (Nat.mul_lt_mul_of_le_of_lt (Nat.le_refl 4) hLb (by decide)) (by decide)
    refine ⟨_, rfl, _, rfl, _, _, rfl, rfl, wide_mul (a := 10) (by decide) hLb (by decide) (by decide) (by decide), _, _, rfl, rfl, t, g, n + 15, 4 * L + 1, rfl, A7.T, by omega, lt_up (add_lt b4 (show (1 : Int).natAbs < 2 ^ 103 by decide)) (by decide), hb' _ (by omega), fun H8 b2 f0 f1 T8 k8 => ?_⟩
    have A8 := A7.step T8 k8
    refine ⟨_, rfl, _, _, rfl, rfl, wide_mul (a := 10) (by decide) hLb (by decide) (by decide) (by decide), _, _, rfl, rfl, (by show 3 ≤ sizeLine; decide), fun p3 hp3 => ?_⟩
    have hp8 := k8 _ _ (k7 _ _ hp6 pt pg) pt pg
    have hq8 := k8 _ _ (k7 _ _ hq6 p2t p2g) p2t p2g
    have hbase : ∃ b : Int, atI [V.int 0, .int b1, .int (b2 - 2 * L)] (lot % 3) = some (.int b) ∧ b.natAbs < 2 ^ 193 := by
      have e1 : b1.natAbs < 2 ^ 193 := by
        have : b1.natAbs < 2 ^ 101 := small_nat c0 (by omega : b1 ≤ L) (lt_up hLb (by decide))
        exact lt_up this (by decide)
      have e2 : (b2 - 2 * L).natAbs < 2 ^ 193 := by
        have : (b2 - 2 * L).natAbs ≤ (4 * L).natAbs := by clear hLb b4; omega
        exact Nat.lt_of_le_of_lt this (lt_up b4 (by decide))
      have : lot % 3 = 0 ∨ lot % 3 = 1 ∨ lot % 3 = 2 := by omega
      rcases this with e | e | e <;> rw [e]
      · exact ⟨0, rfl, by decide⟩
      · exact ⟨b1, rfl, e1⟩
      · exact ⟨b2 - 2 * L, rfl, e2⟩
    obtain ⟨b, hbi, hbb⟩ := hbase
    refine ⟨_, rfl, _, _, rfl, rfl, (by show (0 : Int) < 3; decide), p3, _, _, _, rfl, rfl, SqL.of upd_same, hbi, ?_⟩
    have A9 : At H _ t g (n + 16) := A8.new (o := HO.lst [V.int 0, .int b1, .int (b2 - 2 * L)]) hp3
    have hp9 := (same_upd (o := HO.lst [V.int 0, .int b1, .int (b2 - 2 * L)]) hp3) _ _ hp8
    have hq9 := (same_upd (o := HO.lst [V.int 0, .int b1, .int (b2 - 2 * L)]) hp3) _ _ hq8
    generalize upd H8 p3 (.lst [V.int 0, .int b1, .int (b2 - 2 * L)]) = H9 at A9 hp9 hq9 ⊢
    -- if lot == 5: base = _law_great(tray) // 10 - 10 ** 57
    refine ⟨fun σ' H' => ∃ b : Int, σ' = [some (.ref t), some (.int L), some (.ref p), none, some (.ref p2), none, some (.int lot), some (.int b)] ∧ b.natAbs < 2 ^ 194 ∧ At H H' t g (n + 20) ∧ H' p = some (.lst (ss.map V.int)) ∧ H' p2 = some (.lst (rs.map V.int)), ?_, ?_⟩
    · refine ⟨_, rfl, rfl, _, rfl, ?_⟩
      refine ite2 (fun _ => ?_) (fun _ => ⟨b, rfl, lt_up hbb (by decide), A9.up (by omega), hp9, hq9⟩)
      refine ⟨_, rfl, t, g, n + 16, rfl, A9.T, Nat.lt_trans (hb _ (by omega)) (by decide), fun H10 r r0 r1 T10 k10 => ?_⟩
      refine ⟨_, _, rfl, rfl, wide_div (b := 10) (by decide) (by decide) (by decide) (by decide), _, _, rfl, rfl, ⟨by decide, by decide, by decide⟩, _, _, rfl, rfl, ?_⟩
      refine ⟨_, rfl, ?_, (A9.step T10 k10).up (by omega), k10 _ _ hp9 pt pg, k10 _ _ hq9 p2t p2g⟩
      have e57 : (10 : Int) ^ (57 : Int).toNat = 10 ^ 57 := rfl
      show (r / 10 - (10 : Int) ^ (57 : Int).toNat).natAbs < 2 ^ 194
      rw [e57]
      exact Nat.lt_of_le_of_lt (by omega : _ ≤ 10 ^ 58) (by decide)
    rintro σ' H10 ⟨b, rfl, hbb, A10, hp10, hq10⟩
    -- return [(spots[k], base + rises[k]) for k in range(len(spots))]
    refine ⟨_, rfl, p, _, rfl, .inl (SqL.of hp10), _, rfl, ?_, ?_, fun D3 hD3 => ?_⟩
    · exact Int.le_trans (by decide) (Int.natCast_nonneg _)
    · have : ((ss.map V.int).length : Int) ≤ 6 := by rw [List.length_map]; omega
      exact Int.lt_of_le_of_lt this (by decide)
    obtain ⟨D3t, D3g⟩ := A10.T.at_ne hD3
    have hD3H := A10.free hD3
    have hD3p : p ≠ D3 := ne_of_none hp10 hD3
    have hD3q : p2 ≠ D3 := ne_of_none hq10 hD3
    have hzl : (List.zipWith (fun s r => ((s, b + r) : Pr)) ss rs).length = ss.length := by rw [List.length_zipWith, hrl]; omega
    refine lc_range (lo := 0) (n := ((ss.map V.int).length : Int).toNat) (fun i H' => At H H' t g (n + 20) ∧ H' p = some (.lst (ss.map V.int)) ∧ H' p2 = some (.lst (rs.map V.int)) ∧ ∃ vs, H' D3 = some (.lst vs) ∧ vs.length = i ∧ DpAll K H' vs (((List.zipWith (fun s r => ((s, b + r) : Pr)) ss rs).take i).map encP))
      ⟨A10.new hD3, (upd_ne hD3p).trans hp10, (upd_ne hD3q).trans hq10, [], upd_same, rfl, .nil⟩ ?_ ?_
    · rintro i H' hi ⟨A, hpk, hqk, vs, hd, hvl, hds⟩
      have hi' : i < ss.length := by simpa using hi
      have hss' : ss[i]? = some ss[i] := List.getElem?_eq_getElem hi'
      have hrs' : rs[i]? = some (rs[i]'(by omega)) := List.getElem?_eq_getElem (by omega)
      refine ⟨rfl, yes_ite ?_⟩
      refine ⟨_, rfl, _, rfl, p, _, _, .int ss[i], rfl, rfl, SqL.of hpk, at_of (j := i) (by simp) (by rw [List.getElem?_map, hss']; rfl), _, rfl, _, rfl, _, rfl, p2, _, _, .int (rs[i]'(by omega)), rfl, rfl, SqL.of hqk, at_of (j := i) (by simp) (by rw [List.getElem?_map, hrs']; rfl), _, _, rfl, rfl, (by show 2 ≤ sizeLine; decide), fun p4 hp4 => ?_⟩
      have S4 := same_upd (o := HO.tup [V.int ss[i], .int (b + rs[i]'(by omega))]) hp4
      have hd4 := S4 _ _ hd
      refine ⟨vs, hd4, small1000 (by omega), (A.new hp4).acc hD3H D3t D3g, (upd_ne hD3p).trans (S4 _ _ hpk), (upd_ne hD3q).trans (S4 _ _ hqk), _, upd_same, by simp [hvl], ?_⟩
      have hz : (List.zipWith (fun s r => ((s, b + r) : Pr)) ss rs)[i]? = some (ss[i], b + rs[i]'(by omega)) := by
        simp [List.getElem?_zipWith, hss', hrs']
      rw [take_snoc hz, List.map_append]
      exact acc_step hd4 (noLs_map noL_encP _) rfl (dpAll_mono S4 _ _ hds) (.tup (SqT.of upd_same) (.cons (.int _) (.cons (.int _) .nil)))
    · rintro H' ⟨A, hpk, hqk, vs, hd, hvl, hds⟩
      have e : ((ss.map V.int).length : Int).toNat = ss.length := by simp
      rw [e, List.take_of_length_le (by rw [hzl]; exact Nat.le_refl _)] at hds
      refine k H' D3 _ hD3H (A.T.up (by omega)) A.k ⟨vs, hd, hds⟩ ⟨fun e => ?_, by rw [hzl]; omega, fun s hs => ?_⟩
      · have := congrArg List.length e
        rw [hzl] at this
        exact hssne (List.eq_nil_of_length_eq_zero this)
      · obtain ⟨i, hi, e⟩ := List.getElem_of_mem hs
        rw [List.getElem_zipWith] at e
        rw [hzl] at hi
        have h1 := hss _ (List.getElem_mem hi)
        have h2 := hrs (rs[i]'(by omega)) (List.getElem_mem _)
        rw [← e]
        refine ⟨h1.1, h1.2, ?_⟩
        exact lt_up (add_lt hbb (small_nat h2.1 h2.2 (lt_up hLb (by decide)))) (by decide)
end
end KA
namespace KA
open PySem PySem.Spec PyProof.Rows L2 DP
/-- a look that the hidden hand is as -/
structure TrueLk (L : Int) (steps : List Pr) (l : Lk) : Prop where
  word : WordOk l.1
  sz : Sized 270 l
  nr : (l.2.2 - l.2.1).natAbs < 2 ^ 199
  ex : ∃ x k m, l.2.1 = x + k * L ∧ IsMaxL (leads L steps x) m ∧ (l.1 = "at" → l.2.2 = m + k * L) ∧ (l.1 = "from" → l.2.2 ≤ m + k * L) ∧ (l.1 = "upto" → m + k * L ≤ l.2.2)
def spTrue (K : PySem.W.Frag) : Sp := fun vs H Q _ => ∃ (t g p : Addr) (n : Nat) (L : Int) (steps : List Pr), vs = [.ref t, .int L, .ref p] ∧ Tray H t g n ∧ n < 2 ^ 46 ∧ 0 < L ∧ L ≤ 10 ^ 30 ∧ LAt K H p (steps.map encP) ∧ StepsOk L steps ∧ p ≠ t ∧ p ≠ g ∧
  ∀ (H' : Hp) (r : V) (l : Lk), At H H' t g (n + 30) → Dp K H' r (encL l) → TrueLk L steps l → Q r H'
theorem lead_bound {L x m : Int} {steps : List Pr} (hL : 0 < L) (hLb : L.natAbs < 2 ^ 100) (hx0 : 0 ≤ x) (hx1 : x < L) (hs : StepsOk L steps) (hm : IsMaxL (leads L steps x) m) : m.natAbs < 2 ^ 197 := by
  obtain ⟨s, hs', e⟩ := List.mem_map.mp hm.1
  obtain ⟨s0, s1, s2⟩ := hs.2.2 s hs'
  have h1 := Int.mul_ediv_add_emod (x - s.1) L
  have h2 := Int.emod_nonneg (x - s.1) (show L ≠ 0 by omega)
  have h3 := Int.emod_lt_of_pos (x - s.1) hL
  rw [Int.mul_comm] at h1
  have h4 : ((x - s.1) / L * L).natAbs < 2 ^ 102 := by
    have e2 : (2 : Nat) ^ 102 = 2 ^ 100 * 4 := by decide
    rw [e2]
    generalize (2 : Nat) ^ 100 = B at hLb ⊢
    generalize (x - s.1) / L * L = d at h1 ⊢
    clear s2 e hm hs
    omega
  rw [← e]
  exact add_lt s2 (lt_up h4 (by decide))
section
variable {P : Program} {w : World} {K : PySem.W.Frag} {mg : Str → Option Value} {base : Heap} {Z : Ad}
theorem ok_law_true_look (T : Tx K w mg Z) : FnOk P w K mg base CX0 3 Z.a_law_true_look Z.d_law_true_look P_law_true_look (spTrue K) := by
  refine T.F_law_true_look.ok sclaw_true_look (fun vs H Q E h => ?_) (fun cdv A outer s H vs Q E hr h => ?_)
  · obtain ⟨t, g, p, n, L, steps, rfl, _⟩ := h
    rfl
  · obtain ⟨t, g, p, n, L, steps, rfl, hT, hn, hL, hL30, hp, hst, hpt, hpg, k⟩ := h
    have hLb := bigL hL hL30
    have hb : ∀ m, m ≤ n + 30 → m < 2 ^ 49 := fun m hm => Nat.lt_of_le_of_lt hm (Nat.lt_of_lt_of_le (Nat.add_lt_add_right hn 30) (by decide))
    have hb' : ∀ m, m ≤ n + 30 → m < 2 ^ 60 := fun m hm => Nat.lt_trans (hb m hm) (by decide)
    have A0 : At H H t g n := ⟨hT, Keep.refl _ _ _⟩
    have hsl : 0 < steps.length := List.length_pos_iff.mpr hst.1
    have nl := noLs_map noL_encP steps
    refine ⟨_, (pss_cons (ps_set (i := 3) sclaw_true_look.nd rfl (Or.inl rfl) (pe_ix (ixL (K := K)) (pe_lst (pa_cons (pe_ix (ixT (K := K)) (pe_ix (ixL (K := K)) (pv 2) (pe_call (ok_law_draw T) (hr.mono (by decide)) (by rfl) T.g_law_draw T.F_law_draw.kp T.bb_law_draw .nil pass0 (pa_cons (pv 0) (pa_cons (pe_callB (lenK (K := K)) (by rfl) T.b_len (by decide +kernel) (pa_cons (pv 2) pa_nil)) pa_nil))) (fun _ _ => rfl)) pe_int (fun _ _ => rfl)) (pa_cons (pe_call (ok_law_draw T) (hr.mono (by decide)) (by rfl) T.g_law_draw T.F_law_draw.kp T.bb_law_draw .nil pass0 (pa_cons (pv 0) (pa_cons (pv 1) pa_nil))) pa_nil))) (pe_call (ok_law_draw T) (hr.mono (by decide)) (by rfl) T.g_law_draw T.F_law_draw.kp T.bb_law_draw .nil pass0 (pa_cons (pv 0) (pa_cons pe_int pa_nil))) (fun _ _ => rfl)))
      (pss_cons (ps_set (i := 4) sclaw_true_look.nd rfl (Or.inl rfl) (pe_ix (ixL (K := K)) (pe_lst (pa_cons pe_int (pa_cons (pe_call (ok_law_draw T) (hr.mono (by decide)) (by rfl) T.g_law_draw T.F_law_draw.kp T.bb_law_draw .nil pass0 (pa_cons (pv 0) (pa_cons pe_int pa_nil))) (pa_cons (pe_call (ok_law_draw T) (hr.mono (by decide)) (by rfl) T.g_law_draw T.F_law_draw.kp T.bb_law_draw .nil pass0 (pa_cons (pv 0) (pa_cons (pe_op op_add (pv 1) pe_int) pa_nil))) pa_nil)))) (pe_call (ok_law_draw T) (hr.mono (by decide)) (by rfl) T.g_law_draw T.F_law_draw.kp T.bb_law_draw .nil pass0 (pa_cons (pv 0) (pa_cons pe_int pa_nil))) (fun _ _ => rfl)))
      (pss_cons (ps_asg (pe_ix (ixL (K := K)) (pe_lst (pa_cons (pe_tup (pa_cons pe_str (pa_cons pe_int pa_nil))) (pa_cons (pe_tup (pa_cons pe_str (pa_cons (pe_un un_neg pe_int) pa_nil))) (pa_cons (pe_tup (pa_cons pe_str (pa_cons pe_int pa_nil))) pa_nil)))) (pe_call (ok_law_draw T) (hr.mono (by decide)) (by rfl) T.g_law_draw T.F_law_draw.kp T.bb_law_draw .nil pass0 (pa_cons (pv 0) (pa_cons pe_int pa_nil))) (fun _ _ => rfl)) (tupK (K := K) (by rfl) (pgs_cons (pg_name (i := 5) sclaw_true_look.nd rfl (Or.inl rfl)) (pgs_cons (pg_name (i := 6) sclaw_true_look.nd rfl (Or.inl rfl)) pgs_nil))))
      (pss_cons (ps_set (i := 7) sclaw_true_look.nd rfl (Or.inl rfl) (pe_lst (pa_cons pe_int (pa_cons (pe_op op_sub (pe_call (ok_law_draw T) (hr.mono (by decide)) (by rfl) T.g_law_draw T.F_law_draw.kp T.bb_law_draw .nil pass0 (pa_cons (pv 0) (pa_cons pe_int pa_nil))) pe_int) (pa_cons (pe_op op_fdivW (pe_call (ok_law_great T) (hr.mono (by decide)) (by rfl) T.g_law_great T.F_law_great.kp T.bb_law_great .nil pass0 (pa_cons (pv 0) pa_nil)) (pe_op op_pow pe_int pe_int)) pa_nil)))))
      (pss_cons (ps_set (i := 7) sclaw_true_look.nd rfl (Or.inl rfl) (pe_op op_mulW (pe_ix (ixL (K := K)) (pv 7) (pe_ix (ixL (K := K)) (pe_lst (pa_cons pe_int (pa_cons pe_int (pa_cons pe_int (pa_cons pe_int (pa_cons pe_int pa_nil)))))) (pe_call (ok_law_draw T) (hr.mono (by decide)) (by rfl) T.g_law_draw T.F_law_draw.kp T.bb_law_draw .nil pass0 (pa_cons (pv 0) (pa_cons pe_int pa_nil))) (fun _ _ => rfl)) (fun _ _ => rfl)) (pv 1)))
      (pss_one (ps_ret (pe_tup (pa_cons (pv 5) (pa_cons (pe_op op_add (pv 3) (pv 7)) (pa_cons (pe_op op_add (pe_op op_add (pe_call (ok_law_lead T) (hr.mono (by decide)) (by rfl) T.g_law_lead T.F_law_lead.kp T.bb_law_lead .nil pass0 (pa_cons (pv 1) (pa_cons (pv 2) (pa_cons (pv 3) pa_nil)))) (pe_op op_mulW (pv 6) (pv 4))) (pv 7)) pa_nil))))))))))), ?_⟩
    -- spot
    obtain ⟨vs, hv1, hv2⟩ := hp
    have hvl : vs.length = steps.length := by rw [dpAll_len hv2, List.length_map]
    have hvb : (vs.length : Int).natAbs < 2 ^ 1000 := Nat.lt_of_le_of_lt (by rw [hvl]; exact hst.2.1 : vs.length ≤ 20) (by decide)
    refine ⟨_, rfl, _, rfl, _, rfl, p, vs, rfl, .inl (SqL.of hv1), t, g, n, (vs.length : Int), rfl, hT, by omega, hvb, hb' _ (by omega), fun H1 i0 i1 i2 T1 k1 => ?_⟩
    have A1 := A0.step T1 k1
    have hp1 := (show LAt K H p (steps.map encP) from ⟨vs, hv1, hv2⟩).keep hT k1 hpt hpg nl
    obtain ⟨vs1, hw1, hw2⟩ := hp1
    have hwl : vs1.length = steps.length := by rw [dpAll_len hw2, List.length_map]
    have hi : i0.toNat < steps.length := by omega
    obtain ⟨s0, hs0⟩ : ∃ s0, steps[i0.toNat]? = some s0 := ⟨steps[i0.toNat], List.getElem?_eq_getElem hi⟩
    obtain ⟨v0, hv0, hd0⟩ := dpAll_get' hw2 (show (steps.map encP)[i0.toNat]? = some (encP s0) by rw [List.getElem?_map, hs0]; rfl)
    obtain ⟨a0, rfl, hq0⟩ := dp_pair hd0
    obtain ⟨sx0, sx1, sx2⟩ := hst.2.2 s0 (List.mem_of_getElem? hs0)
    refine ⟨p, vs1, _, _, rfl, rfl, SqL.of hw1, at_of (j := i0.toNat) (by omega) hv0, a0, _, _, _, rfl, rfl, hq0, rfl, ?_⟩
    refine ⟨_, rfl, _, rfl, t, g, n + 1, L, rfl, T1, hL, lt_up hLb (by decide), hb' _ (by omega), fun H2 x1 x2 x3 T2 k2 => ?_⟩
    have A2 := A1.step T2 k2
    refine ⟨(by show 2 ≤ sizeLine; decide), fun q hq => ?_⟩
    obtain ⟨qt, qg⟩ := T2.at_ne hq
    have A3 := A2.new (o := HO.lst [V.int s0.1, .int x1]) hq
    refine ⟨_, rfl, t, g, n + 2, 2, rfl, A3.T, by decide, by decide, hb' _ (by omega), fun H3 c0 c1 c2 T3 k3 => ?_⟩
    have A4 := A3.step T3 k3
    have hspot : ∃ x : Int, atI [V.int s0.1, .int x1] c0 = some (.int x) ∧ 0 ≤ x ∧ x < L := by
      have : c0 = 0 ∨ c0 = 1 := by omega
      rcases this with e | e <;> subst e
      · exact ⟨s0.1, rfl, sx0, sx1⟩
      · exact ⟨x1, rfl, x2, x3⟩
    obtain ⟨x, hxi, hx0, hx1⟩ := hspot
    refine ⟨q, _, _, _, rfl, rfl, SqL.of (k3 _ _ upd_same qt qg), hxi, ?_⟩
    have hp4 : LAt K H3 p (steps.map encP) := by
      have h1 : LAt K H1 p (steps.map encP) := ⟨vs1, hw1, hw2⟩
      exact ((h1.keep T1 k2 hpt hpg nl).same (same_upd hq)).keep A3.T k3 hpt hpg nl
    clear hv0 hd0 hq0 hw1 hw2 hv1 hv2
    -- off
    refine ⟨_, rfl, t, g, n + 3, 3, rfl, A4.T, by decide, by decide, hb' _ (by omega), fun H4 o1 o2 o3 T4 k4 => ?_⟩
    have A5 := A4.step T4 k4
    refine ⟨_, rfl, _, rfl, _, _, rfl, rfl, t, g, n + 4, L + 1, rfl, T4, by omega, lt_up (add_lt hLb (show (1 : Int).natAbs < 2 ^ 100 by decide)) (by decide), hb' _ (by omega), fun H5 r1 r2 r3 T5 k5 => ?_⟩
    have A6 := A5.step T5 k5
    refine ⟨(by show 3 ≤ sizeLine; decide), fun q2 hq2 => ?_⟩
    obtain ⟨q2t, q2g⟩ := T5.at_ne hq2
    have A7 := A6.new (o := HO.lst [V.int 0, .int o1, .int r1]) hq2
    refine ⟨_, rfl, t, g, n + 5, 3, rfl, A7.T, by decide, by decide, hb' _ (by omega), fun H6 d0 d1 d2 T6 k6 => ?_⟩
    have A8 := A7.step T6 k6
    have hoff : ∃ x : Int, atI [V.int 0, .int o1, .int r1] d0 = some (.int x) ∧ 0 ≤ x ∧ x.natAbs < 2 ^ 101 := by
      have : d0 = 0 ∨ d0 = 1 ∨ d0 = 2 := by omega
      rcases this with e | e | e <;> subst e
      · exact ⟨0, rfl, by decide, by decide⟩
      · exact ⟨o1, rfl, o2, Nat.lt_of_le_of_lt (by omega : o1.natAbs ≤ 3) (by decide)⟩
      · exact ⟨r1, rfl, r2, small_nat r2 (by omega : r1 ≤ L) (lt_up hLb (by decide))⟩
    obtain ⟨off, hoi, hoff0, hoffb⟩ := hoff
    refine ⟨q2, _, _, _, rfl, rfl, SqL.of (k6 _ _ upd_same q2t q2g), hoi, ?_⟩
    have hp8 : LAt K H6 p (steps.map encP) := (((hp4.keep A4.T k4 hpt hpg nl).keep T4 k5 hpt hpg nl).same (same_upd hq2)).keep A7.T k6 hpt hpg nl
    -- said, sign
    refine ⟨(by show 2 ≤ sizeLine; decide), fun p1 hp1 => ?_⟩
    have B1 := A8.new (o := HO.tup [V.str "at", .int 0]) hp1
    refine ⟨_, rfl, (by show 2 ≤ sizeLine; decide), fun p2 hp2 => ?_⟩
    have B2 := B1.new (o := HO.tup [V.str "from", .int (-1)]) hp2
    refine ⟨(by show 2 ≤ sizeLine; decide), fun p3 hp3 => ?_⟩
    have B3 := B2.new (o := HO.tup [V.str "upto", .int 1]) hp3
    have w3 : (upd (upd (upd H6 p1 (.tup [V.str "at", .int 0])) p2 (.tup [V.str "from", .int (-1)])) p3 (.tup [V.str "upto", .int 1])) p3 = some (.tup [V.str "upto", .int 1]) := upd_same
    have w2 := (same_upd (o := HO.tup [V.str "upto", .int 1]) hp3) p2 _ (upd_same (H := upd H6 p1 (.tup [V.str "at", .int 0])) (o := HO.tup [V.str "from", .int (-1)]))
    have w1 := (same_upd (o := HO.tup [V.str "upto", .int 1]) hp3) p1 _ ((same_upd (o := HO.tup [V.str "from", .int (-1)]) hp2) p1 _ (upd_same (H := H6) (o := HO.tup [V.str "at", .int 0])))
    have hp9 := ((hp8.same (same_upd (o := HO.tup [V.str "at", .int 0]) hp1)).same (same_upd (o := HO.tup [V.str "from", .int (-1)]) hp2)).same (same_upd (o := HO.tup [V.str "upto", .int 1]) hp3)
    refine ⟨(by show 3 ≤ sizeLine; decide), fun q3 hq3 => ?_⟩
    obtain ⟨q3t, q3g⟩ := B3.T.at_ne hq3
    have hp10 := hp9.same (same_upd (o := HO.lst [V.ref p1, .ref p2, .ref p3]) hq3)
    have S10 := same_upd (o := HO.lst [V.ref p1, .ref p2, .ref p3]) hq3
    have B4 := B3.new (o := HO.lst [V.ref p1, .ref p2, .ref p3]) hq3
    refine ⟨_, rfl, t, g, n + 6, 3, rfl, B4.T, by decide, by decide, hb' _ (by omega), fun H7 e0 e1 e2 T7 k7 => ?_⟩
    have B5 := B4.step T7 k7
    have hp11 := hp10.keep B4.T k7 hpt hpg nl
    have tp := Keep.tups B4.T k7
    have hsaid : ∃ (pp : Addr) (wd : Str) (sg : Int), atI [V.ref p1, .ref p2, .ref p3] e0 = some (.ref pp) ∧ SqT K H7 pp [.str wd, .int sg] ∧ (wd = "at" ∧ sg = 0 ∨ wd = "from" ∧ sg = -1 ∨ wd = "upto" ∧ sg = 1) := by
      have : e0 = 0 ∨ e0 = 1 ∨ e0 = 2 := by omega
      rcases this with e | e | e <;> subst e
      · exact ⟨p1, "at", 0, rfl, .inl (tp _ _ (.inl (S10 _ _ w1))), .inl ⟨rfl, rfl⟩⟩
      · exact ⟨p2, "from", -1, rfl, .inl (tp _ _ (.inl (S10 _ _ w2))), .inr (.inl ⟨rfl, rfl⟩)⟩
      · exact ⟨p3, "upto", 1, rfl, .inl (tp _ _ (.inl (S10 _ _ w3))), .inr (.inr ⟨rfl, rfl⟩)⟩
    obtain ⟨pp, wd, sg, hpi, hpp, hws⟩ := hsaid
    refine ⟨q3, _, _, _, rfl, rfl, SqL.of (k7 _ _ upd_same q3t q3g), hpi, ?_⟩
    refine ⟨pp, _, rfl, hpp, rfl, _, _, rfl, _, _, rfl, rfl, ?_⟩
    -- turn
    refine ⟨_, rfl, t, g, n + 7, 5, rfl, T7, by decide, by decide, hb' _ (by omega), fun H8 f0 f1 f2 T8 k8 => ?_⟩
    have B6 := B5.step T8 k8
    refine ⟨_, _, rfl, rfl, _, rfl, t, g, n + 8, rfl, T8, Nat.lt_trans (hb _ (by omega)) (by decide), fun H9 g0 g1 g2 T9 k9 => ?_⟩
    have B7 := B6.step T9 k9
    refine ⟨_, _, rfl, rfl, ⟨by decide, by decide, by decide⟩, _, _, rfl, rfl, wide_div (b := 110) (by decide) (by decide) (by decide) (by decide), (by show 3 ≤ sizeLine; decide), fun q4 hq4 => ?_⟩
    obtain ⟨q4t, q4g⟩ := T9.at_ne hq4
    have B8 := B7.new (o := HO.lst [V.int 0, .int (f0 - 2), .int (g0 / 10 ^ (31 : Int).toNat)]) hq4
    have hp12 := ((hp11.keep T7 k8 hpt hpg nl).keep T8 k9 hpt hpg nl).same (same_upd (o := HO.lst [V.int 0, .int (f0 - 2), .int (g0 / 10 ^ (31 : Int).toNat)]) hq4)
    -- turn = turn[..] * size
    refine ⟨_, rfl, (by show 5 ≤ sizeLine; decide), fun q5 hq5 => ?_⟩
    obtain ⟨q5t, q5g⟩ := B8.T.at_ne hq5
    have B9 := B8.new (o := HO.lst [V.int 0, .int 0, .int 1, .int 1, .int 2]) hq5
    have hp13 := hp12.same (same_upd (o := HO.lst [V.int 0, .int 0, .int 1, .int 1, .int 2]) hq5)
    have hq4' := (same_upd (o := HO.lst [V.int 0, .int 0, .int 1, .int 1, .int 2]) hq5) q4 _ (upd_same (H := H9) (o := HO.lst [V.int 0, .int (f0 - 2), .int (g0 / 10 ^ (31 : Int).toNat)]))
    refine ⟨_, rfl, t, g, n + 12, 5, rfl, B9.T, by decide, by decide, hb' _ (by omega), fun H10 h0 h1 h2 T10 k10 => ?_⟩
    have B10 := B9.step T10 k10
    have hp14 := hp13.keep B9.T k10 hpt hpg nl
    have hturn : ∃ (j kk : Int), atI [V.int 0, .int 0, .int 1, .int 1, .int 2] h0 = some (.int j) ∧ atI [V.int 0, .int (f0 - 2), .int (g0 / 10 ^ (31 : Int).toNat)] j = some (.int kk) ∧ kk.natAbs < 2 ^ 169 := by
      have c1 : (f0 - 2).natAbs < 2 ^ 169 := Nat.lt_of_le_of_lt (by omega : (f0 - 2).natAbs ≤ 7) (by decide)
      have c2 : (g0 / 10 ^ (31 : Int).toNat).natAbs < 2 ^ 169 := by
        have h1 : g0 / 10 ^ (31 : Int).toNat ≤ 10 ^ 59 / 10 ^ (31 : Int).toNat := Int.ediv_le_ediv (by decide) (Int.le_of_lt g2)
        have h0 : 0 ≤ g0 / 10 ^ (31 : Int).toNat := Int.ediv_nonneg g1 (by decide)
        exact small_nat h0 h1 (by decide)
      have : h0 = 0 ∨ h0 = 1 ∨ h0 = 2 ∨ h0 = 3 ∨ h0 = 4 := by omega
      rcases this with e | e | e | e | e <;> subst e
      · exact ⟨0, 0, rfl, rfl, by decide⟩
      · exact ⟨0, 0, rfl, rfl, by decide⟩
      · exact ⟨1, _, rfl, rfl, c1⟩
      · exact ⟨1, _, rfl, rfl, c1⟩
      · exact ⟨2, _, rfl, rfl, c2⟩
    obtain ⟨j, kk, hj, hkk, hkb⟩ := hturn
    refine ⟨q5, _, _, _, rfl, rfl, SqL.of (k10 _ _ upd_same q5t q5g), hj, q4, _, _, _, rfl, rfl, SqL.of (k10 _ _ hq4' q4t q4g), hkk, ?_⟩
    refine ⟨_, rfl, _, _, rfl, rfl, wide_mul hkb hLb (by decide) (by decide) (by decide), ?_⟩
    have hkL : (kk * L).natAbs < 2 ^ 269 := wide_lt hkb hLb
    -- the look
    have hxb : x.natAbs < 2 ^ 100 := small_nat hx0 (Int.le_of_lt hx1) hLb
    refine ⟨_, rfl, _, rfl, _, rfl, _, _, rfl, rfl, _, rfl, _, rfl, _, rfl, .ref p, L, x, steps, rfl, hp14.dp, hL, lt_up hLb (by decide), lt_up hxb (by decide), hst, fun m H11 S11 hm => ?_⟩
    have hmb := lead_bound hL hLb hx0 hx1 hst hm
    have hsgb : sg.natAbs < 2 ^ 2 := by rcases hws with ⟨_, e⟩ | ⟨_, e⟩ | ⟨_, e⟩ <;> rw [e] <;> decide
    have hso : (sg * off).natAbs < 2 ^ (2 + 101) := wide_lt hsgb hoffb
    refine ⟨_, rfl, _, rfl, _, _, rfl, rfl, wide_mul hsgb hoffb (by decide) (by decide) (by decide), _, _, rfl, rfl, _, rfl, _, _, rfl, rfl, (by show 3 ≤ sizeLine; decide), fun q6 hq6 => ?_⟩
    have B11 : At H H11 t g (n + 13) := ⟨B10.T.same S11, B10.k.trans (Keep.of_same S11)⟩
    refine k _ _ (wd, x + kk * L, m + sg * off + kk * L) ((B11.new hq6).up (by omega)) (.tup (SqT.of upd_same) (.cons (.str _) (.cons (.int _) (.cons (.int _) .nil)))) ⟨?_, ⟨?_, ?_⟩, ?_, x, kk, m, rfl, hm, fun e => ?_, fun e => ?_, fun e => ?_⟩
    · rcases hws with ⟨e, _⟩ | ⟨e, _⟩ | ⟨e, _⟩
      · exact .inl e
      · exact .inr (.inl e)
      · exact .inr (.inr e)
    · exact add_lt (lt_up hxb (by decide)) hkL
    · exact add_lt (lt_up (add_lt hmb (lt_up hso (by decide))) (by decide)) hkL
    · show (m + sg * off + kk * L - (x + kk * L)).natAbs < 2 ^ 199
      have e0 : m + sg * off + kk * L - (x + kk * L) = m + sg * off - x := by omega
      rw [e0]
      exact sub_lt (add_lt hmb (lt_up hso (by decide))) (lt_up hxb (by decide))
    · have e' : wd = "at" := e
      show m + sg * off + kk * L = m + kk * L
      rcases hws with ⟨_, es⟩ | ⟨ew, _⟩ | ⟨ew, _⟩
      · rw [es]; omega
      · rw [e'] at ew; exact absurd ew (by decide +kernel)
      · rw [e'] at ew; exact absurd ew (by decide +kernel)
    · have e' : wd = "from" := e
      show m + sg * off + kk * L ≤ m + kk * L
      rcases hws with ⟨ew, _⟩ | ⟨_, es⟩ | ⟨ew, _⟩
      · rw [e'] at ew; exact absurd ew (by decide +kernel)
      · rw [es]; omega
      · rw [e'] at ew; exact absurd ew (by decide +kernel)
    · have e' : wd = "upto" := e
      show m + kk * L ≤ m + sg * off + kk * L
      rcases hws with ⟨ew, _⟩ | ⟨ew, _⟩ | ⟨_, es⟩
      · rw [e'] at ew; exact absurd ew (by decide +kernel)
      · rw [e'] at ew; exact absurd ew (by decide +kernel)
      · rw [es]; omega
end
end KA
namespace KA
open PySem PySem.Spec PyProof.Rows L2 DP
def spKnown (K : PySem.W.Frag) : Sp := fun vs H Q _ => ∃ (t g : Addr) (n : Nat) (L most : Int), vs = [.ref t, .int L, .int most] ∧ Tray H t g n ∧ n < 2 ^ 44 ∧ 0 < L ∧ L ≤ 10 ^ 30 ∧ 0 ≤ most ∧ most ≤ 40 ∧
  ∀ (H' : Hp) (p : Addr) (ls : List Lk) (steps : List Pr), H p = none → At H H' t g (n + 2000) → LAt K H' p (ls.map encL) → (∀ l ∈ ls, TrueLk L steps l) → StepsOk L steps → (ls.length : Int) ≤ most → Q (.ref p) H'
def spLawSide (K : PySem.W.Frag) (sd : Str) : Sp := fun vs H Q _ => ∃ (v : V) (L x : Int) (ls : List Lk), vs = [.int L, v, .int x] ∧ Dp K H v (.list (ls.map encL)) ∧ 0 < L ∧ L.natAbs < 2 ^ 200 ∧ x.natAbs < 2 ^ 400 ∧ (∀ l ∈ ls, WordOk l.1 ∧ Sized 400 l) ∧ ls.length ≤ 100 ∧
  ∀ v H', Same H H' → Tells sd ls x L v → Q v H'
section
variable {P : Program} {w : World} {K : PySem.W.Frag} {mg : Str → Option Value} {base : Heap} {Z : Ad}
theorem ok_law_known (T : Tx K w mg Z) : FnOk P w K mg base CX0 4 Z.a_law_known Z.d_law_known P_law_known (spKnown K) := by
  refine T.F_law_known.ok sclaw_known (fun vs H Q E h => ?_) (fun cdv A outer s H vs Q E hr h => ?_)
  · obtain ⟨t, g, n, L, most, rfl, _⟩ := h
    rfl
  · obtain ⟨t, g, n, L, most, rfl, hT, hn, hL, hL30, hm0, hm1, k⟩ := h
    have hb : ∀ m, m ≤ n + 2000 → m < 2 ^ 46 := fun m hm => Nat.lt_of_le_of_lt hm (Nat.lt_of_lt_of_le (Nat.add_lt_add_right hn 2000) (by decide))
    have hb' : ∀ m, m ≤ n + 2000 → m < 2 ^ 60 := fun m hm => Nat.lt_trans (hb m hm) (by decide)
    have A0 : At H H t g n := ⟨hT, Keep.refl _ _ _⟩
    refine ⟨_, (pss_cons (ps_set (i := 3) sclaw_known.nd rfl (Or.inr rfl) (pe_call (ok_law_secret T) (hr.mono (by decide)) (by rfl) T.g_law_secret T.F_law_secret.kp T.bb_law_secret .nil pass0 (pa_cons (pv 0) (pa_cons (pv 1) pa_nil))))
      (pss_cons (ps_set (i := 4) sclaw_known.nd rfl (Or.inl rfl) (pe_call (ok_law_draw T) (hr.mono (by decide)) (by rfl) T.g_law_draw T.F_law_draw.kp T.bb_law_draw .nil pass0 (pa_cons (pv 0) (pa_cons (pe_ix (ixL (K := K)) (pe_lst (pa_cons pe_int (pa_cons pe_int (pa_cons (pe_op op_add (pv 2) pe_int) pa_nil)))) (pe_call (ok_law_draw T) (hr.mono (by decide)) (by rfl) T.g_law_draw T.F_law_draw.kp T.bb_law_draw .nil pass0 (pa_cons (pv 0) (pa_cons pe_int pa_nil))) (fun _ _ => rfl)) pa_nil))))
      (pss_one (ps_ret (pe_lc (own := [("turn", 5)]) (g := gName 5) (tt := tYes) rfl sclaw_known.nd (pi_range1 (by rfl) T.b_range (pa_cons (pe_callB (call_min2 rfl) (by rfl) T.b_min (by decide +kernel) (pa_cons (pv 2) (pa_cons (pv 4) pa_nil))) pa_nil)) (blkOk_by (own := [("turn", 5)]) (N := N_law_known) (sc := defScope slaw_known) (by decide +kernel)) (fun _ _ _ _ _ => (pg_name (i := 5) sclaw_known.nd rfl (Or.inl rfl))) (fun _ _ _ _ _ => pts_nil) (fun _ _ _ _ _ => (pe_call (ok_law_true_look T) (hr.mono (by decide)) (by rfl) T.g_law_true_look T.F_law_true_look.kp T.bb_law_true_look .nil pass0 (pa_cons (pv 0) (pa_cons (pv 1) (pa_cons (pv 3) pa_nil)))))))))), ?_⟩
    refine ⟨_, rfl, _, rfl, t, g, n, L, rfl, hT, Nat.lt_trans hn (by decide), hL, hL30, fun H1 p steps hp T1 k1 l1 hst => ?_⟩
    have A1 := A0.step T1 k1
    obtain ⟨hpt, hpg⟩ := hT.at_ne hp
    have nl := noLs_map noL_encP steps
    refine ⟨_, rfl, _, rfl, _, _, rfl, rfl, (by show 3 ≤ sizeLine; decide), fun q hq => ?_⟩
    obtain ⟨qt, qg⟩ := T1.at_ne hq
    have A2 := A1.new (o := HO.lst [V.int 4, .int 9, .int (most + 1)]) hq
    refine ⟨_, rfl, t, g, n + 30, 3, rfl, A2.T, by decide, by decide, hb' _ (by omega), fun H2 c0 c1 c2 T2 k2 => ?_⟩
    have A3 := A2.step T2 k2
    have l3 := (l1.same (same_upd (o := HO.lst [V.int 4, .int 9, .int (most + 1)]) hq)).keep A2.T k2 hpt hpg nl
    have hmany : ∃ j : Int, atI [V.int 4, .int 9, .int (most + 1)] c0 = some (.int j) ∧ 0 < j ∧ j ≤ 41 := by
      have : c0 = 0 ∨ c0 = 1 ∨ c0 = 2 := by omega
      rcases this with e | e | e <;> subst e
      · exact ⟨4, rfl, by decide, by decide⟩
      · exact ⟨9, rfl, by decide, by decide⟩
      · exact ⟨most + 1, rfl, by omega, by omega⟩
    obtain ⟨j, hj, hj0, hj1⟩ := hmany
    refine ⟨q, _, _, _, rfl, rfl, SqL.of (k2 _ _ upd_same qt qg), hj, t, g, n + 31, j, rfl, A3.T, hj0, Nat.lt_of_le_of_lt (by omega : j.natAbs ≤ 41) (by decide), hb' _ (by omega), fun H3 m m0 m1 T3 k3 => ?_⟩
    have A4 := A3.step T3 k3
    have l4 := l3.keep A3.T k3 hpt hpg nl
    have hmin : 0 ≤ (if m < most then m else most) ∧ (if m < most then m else most) ≤ most := by split <;> omega
    refine ⟨_, rfl, _, rfl, _, _, rfl, _, rfl, Int.le_trans (by decide) hmin.1, Int.lt_of_le_of_lt hmin.2 (Int.lt_of_le_of_lt hm1 (by decide)), fun D hD => ?_⟩
    obtain ⟨Dt, Dg⟩ := T3.at_ne hD
    have hDH := A4.free hD
    obtain ⟨vs4, hp4, _⟩ := id l4
    have hDp : p ≠ D := ne_of_none hp4 hD
    refine lc_range (lo := 0) (n := (if m < most then m else most).toNat) (fun i H' => At H H' t g (n + 40 + 30 * i) ∧ LAt K H' p (steps.map encP) ∧ ∃ (vs : List V) (ls : List Lk), H' D = some (.lst vs) ∧ DpAll K H' vs (ls.map encL) ∧ ls.length = i ∧ ∀ l ∈ ls, TrueLk L steps l)
      ⟨(A4.new hD).up (by omega), l4.same (same_upd hD), [], [], upd_same, .nil, rfl, fun _ z => absurd z (by simp)⟩ ?_ ?_
    · rintro i H' hi ⟨A, lp, vs, ls, hd, hds, hl, htr⟩
      have hi40 : i < 40 := by omega
      refine ⟨rfl, yes_ite ?_⟩
      refine ⟨_, rfl, _, rfl, _, rfl, t, g, p, n + 40 + 30 * i, L, steps, rfl, A.T, hb _ (by omega), hL, hL30, lp, hst, hpt, hpg, fun H5 r l A5 hr hl5 => ?_⟩
      have hd5 := A5.k _ _ hd Dt Dg
      have hds5 := dpAll_tups (Keep.tups A.T A5.k) _ _ (noLs_map noL_encL ls) hds
      obtain ⟨vp, hvp, hvq⟩ := lp.keep A.T A5.k hpt hpg nl
      have hvl : vs.length = ls.length := by rw [dpAll_len hds, List.length_map]
      refine ⟨vs, hd5, small1000 (by omega), ((A.step A5.T A5.k).acc hDH Dt Dg).up (by omega), ⟨vp, (upd_ne hDp).trans hvp, dpAll_tups (Tups.upd_lst hd5) _ _ nl hvq⟩, _, ls ++ [l], upd_same, ?_, by simp [hl], fun o ho => ?_⟩
      · rw [List.map_append]
        exact acc_step hd5 (noLs_map noL_encL _) rfl hds5 hr
      · rcases List.mem_append.mp ho with h | h
        · exact htr o h
        · rw [List.mem_singleton] at h; subst h; exact hl5
    · rintro H' ⟨A, lp, vs, ls, hd, hds, hl, htr⟩
      refine k H' D ls steps hDH (A.up (by omega)) ⟨vs, hd, hds⟩ htr hst (by omega)
end
end KA
namespace KA
open PySem PySem.Spec PyProof.Rows L2 DP
/-- no list of it is long -/
def fewD : PyData → Bool
  | .list xs => decide (xs.length ≤ 1000) && fewDs xs
  | .tuple xs => decide (xs.length ≤ 1000) && fewDs xs
  | _ => true
where fewDs : List PyData → Bool
  | [] => true
  | x :: xs => fewD x && fewDs xs
def tyName : PyData → String
  | .none => "NoneType"
  | .bool _ => "bool"
  | .int _ => "int"
  | .str _ => "str"
  | .list _ => "list"
  | .tuple _ => "tuple"
  | .dict _ => "dict"
theorem ty_of {K : PySem.W.Frag} {H : Hp} {v : V} {d : PyData} (h : Dp K H v d) : TyX K H v (.type (tyName d)) := by
  cases h with
  | non => exact .base .non
  | bl b => exact .base (.bl b)
  | int i => exact .base (.int i)
  | str x => exact .base (.str x)
  | lst s a =>
    rcases s with (s | ⟨o, s⟩) | ⟨o, its, n, e, c, _⟩
    · exact .base (.lst s)
    · exact .base (.frz s)
    · exact .kList e c
  | tup s a =>
    rcases s with (s | ⟨o, s⟩) | ⟨o, its, n, e, c, _⟩
    · exact .base (.tup s)
    · exact .fTuple s
    · exact .kTuple e c
theorem isi {K : PySem.W.Frag} {H : Hp} {v : V} {d : PyData} {C : String} {b : Bool} {Q : VK} (h : Dp K H v d) (hk : kitB (tyName d) C = some b) (q : Q (.bl b) H) : rIsi K [v, .ty C] H Q :=
  ⟨v, .ty C, _, .type C, b, rfl, ClsV.ty C, ty_of h, kit_ty hk, q⟩
def spAlike (K : PySem.W.Frag) (n : Nat) : Sp := fun vs H Q _ => ∃ (v u : V) (d : PyData), vs = [v, u] ∧ Dp K H v d ∧ Dp K H u d ∧ fewD d = true ∧ d.depth < n ∧ Q (.bl true) H
theorem few_at : ∀ {ds : List PyData} {i : Nat} {d : PyData}, fewD.fewDs ds = true → ds[i]? = some d → fewD d = true
  | [], _, _, _, h => by simp at h
  | a :: r, 0, d, n, h => by
    rw [fewD.fewDs, Bool.and_eq_true] at n
    have e : a = d := Option.some.inj h
    subst e; exact n.1
  | a :: r, i + 1, d, n, h => by
    rw [fewD.fewDs, Bool.and_eq_true] at n
    exact few_at n.2 (by simpa using h)
theorem depth_at : ∀ {ds : List PyData} {i : Nat} {d : PyData}, ds[i]? = some d → d.depth ≤ PyData.depthAll ds
  | [], _, _, h => by simp at h
  | a :: r, 0, d, h => by
    have e : a = d := Option.some.inj h
    subst e; rw [PyData.depthAll]; omega
  | a :: r, i + 1, d, h => by
    have := depth_at (ds := r) (i := i) (d := d) (by simpa using h)
    rw [PyData.depthAll]; omega
theorem ix_any {K : PySem.W.Frag} {H : Hp} {p : Addr} {xs : List V} {i : Int} {x : V} {Q : VK} (s : SqL K H p xs ∨ SqT K H p xs) (h : atI xs i = some x) (q : Q x H) : rIx K (.ref p) (.int i) H Q := by
  rcases s with s | s
  · exact .inl ⟨p, xs, i, x, rfl, rfl, s, h, q⟩
  · exact .inr (.inl ⟨p, xs, i, x, rfl, rfl, s, h, q⟩)
section
variable {P : Program} {w : World} {K : PySem.W.Frag} {mg : Str → Option Value} {base : Heap} {Z : Ad}
/-- what the loop asks: the items alike, by the promise one level down -/
theorem ok_law_alike_of {k n : Nat} (T : Tx K w mg Z) (ih : FnOk P w K mg base CX0 k Z.a_law_alike Z.d_law_alike P_law_alike (spAlike K n)) : FnOk P w K mg base CX0 (k + 1) Z.a_law_alike Z.d_law_alike P_law_alike (spAlike K (n + 1)) := by
  refine T.F_law_alike.ok sclaw_alike (fun vs H Q E h => ?_) (fun cdv A outer s H vs Q E hr h => ?_)
  · obtain ⟨v, u, d, rfl, _⟩ := h
    rfl
  · obtain ⟨v, u, d, rfl, hv, hu, hf, hd, k⟩ := h
    -- the data's kinds: what the tests answer
    have ty := ty_of hu
    refine ⟨_, (C8.pss_cut (ps_if (pt_cmpR op_isN (pv 1) pe_non (nomark _)) (pss_one (ps_ret (pe_cmpR op_isN (pv 0) pe_non (nomark _)))) pss_nil)
      (C8.pss_cut (ps_if (pt_val (pe_callB (isiK (K := K)) (by rfl) T.b_isinstance (by decide +kernel) (pa_cons (pv 1) (pa_cons (pe_bltn (v := .ty "bool") (by rfl) T.b_bool (by decide +kernel) rfl) pa_nil)))) (pss_one (ps_ret (pe_and (pe_callB (isiK (K := K)) (by rfl) T.b_isinstance (by decide +kernel) (pa_cons (pv 0) (pa_cons (pe_bltn (v := .ty "bool") (by rfl) T.b_bool (by decide +kernel) rfl) pa_nil))) (pe_one (pe_cmpR op_eq (pv 0) (pv 1) (nomark _)))))) pss_nil)
      (C8.pss_cut (ps_if (pt_val (pe_callB (isiK (K := K)) (by rfl) T.b_isinstance (by decide +kernel) (pa_cons (pv 1) (pa_cons (pe_bltn (v := .ty "int") (by rfl) T.b_int (by decide +kernel) rfl) pa_nil)))) (pss_one (ps_ret (pe_and (pe_callB (isiK (K := K)) (by rfl) T.b_isinstance (by decide +kernel) (pa_cons (pv 0) (pa_cons (pe_bltn (v := .ty "int") (by rfl) T.b_int (by decide +kernel) rfl) pa_nil))) (pe_and (pe_not (pe_callB (isiK (K := K)) (by rfl) T.b_isinstance (by decide +kernel) (pa_cons (pv 0) (pa_cons (pe_bltn (v := .ty "bool") (by rfl) T.b_bool (by decide +kernel) rfl) pa_nil)))) (pe_one (pe_cmpR op_eq (pv 0) (pv 1) (nomark _))))))) pss_nil)
      (C8.pss_cut (ps_if (pt_val (pe_callB (isiK (K := K)) (by rfl) T.b_isinstance (by decide +kernel) (pa_cons (pv 1) (pa_cons (pe_bltn (v := .ty "str") (by rfl) T.b_str (by decide +kernel) rfl) pa_nil)))) (pss_one (ps_ret (pe_and (pe_callB (isiK (K := K)) (by rfl) T.b_isinstance (by decide +kernel) (pa_cons (pv 0) (pa_cons (pe_bltn (v := .ty "str") (by rfl) T.b_str (by decide +kernel) rfl) pa_nil))) (pe_one (pe_cmpR op_eq (pv 0) (pv 1) (nomark _)))))) pss_nil)
      (C8.pss_cut (ps_if (PW.pt (pw_or (pt_cmpR (neDK (K := K) hr.units) (pe_callB (isiK (K := K)) (by rfl) T.b_isinstance (by decide +kernel) (pa_cons (pv 0) (pa_cons (pe_bltn (v := .ty "list") (by rfl) T.b_list (by decide +kernel) rfl) pa_nil))) (pe_callB (isiK (K := K)) (by rfl) T.b_isinstance (by decide +kernel) (pa_cons (pv 1) (pa_cons (pe_bltn (v := .ty "list") (by rfl) T.b_list (by decide +kernel) rfl) pa_nil))) (nomark _)) (pw_or1 (pt_cmpR (neDK (K := K) hr.units) (pe_callB (isiK (K := K)) (by rfl) T.b_isinstance (by decide +kernel) (pa_cons (pv 0) (pa_cons (pe_bltn (v := .ty "tuple") (by rfl) T.b_tuple (by decide +kernel) rfl) pa_nil))) (pe_callB (isiK (K := K)) (by rfl) T.b_isinstance (by decide +kernel) (pa_cons (pv 1) (pa_cons (pe_bltn (v := .ty "tuple") (by rfl) T.b_tuple (by decide +kernel) rfl) pa_nil))) (nomark _))))) (pss_one (ps_ret pe_bl)) pss_nil)
      (C8.pss_cut (ps_if (pt_cmpR op_ne (pe_callB (lenK (K := K)) (by rfl) T.b_len (by decide +kernel) (pa_cons (pv 0) pa_nil)) (pe_callB (lenK (K := K)) (by rfl) T.b_len (by decide +kernel) (pa_cons (pv 1) pa_nil)) (nomark _)) (pss_one (ps_ret pe_bl)) pss_nil)
      (pss_cons (ps_for PassesOwn.never rfl (pi_range1 (by rfl) T.b_range (pa_cons (pe_callB (lenK (K := K)) (by rfl) T.b_len (by decide +kernel) (pa_cons (pv 1) pa_nil)) pa_nil)) (pg_name (i := 2) sclaw_alike.nd rfl (Or.inl rfl)) (pss_one (ps_if (pt_not (pt_val (pe_call ih hr (by rfl) T.g_law_alike T.F_law_alike.kp T.bb_law_alike .nil pass0 (pa_cons (pe_ix ix_seq (pv 0) (pv 2) (fun _ _ => rfl)) (pa_cons (pe_ix ix_seq (pv 1) (pv 2) (fun _ _ => rfl)) pa_nil))))) (pss_one (ps_ret pe_bl)) pss_nil)))
      (pss_one (ps_ret pe_bl))))))))), ?_⟩
    refine ⟨fun σ' H' => σ' = [some v, some u, none] ∧ H' = H ∧ d ≠ .none, ?_, ?_⟩
    · refine ⟨_, rfl, rfl, _, rfl, ?_⟩
      cases hu with
      | non =>
        cases hv
        exact iteT ⟨_, rfl, rfl, k⟩
      | bl b => exact iteF ⟨rfl, rfl, fun e => by cases e⟩
      | int b => exact iteF ⟨rfl, rfl, fun e => by cases e⟩
      | str b => exact iteF ⟨rfl, rfl, fun e => by cases e⟩
      | lst s a => exact iteF ⟨rfl, rfl, fun e => by cases e⟩
      | tup s a => exact iteF ⟨rfl, rfl, fun e => by cases e⟩
    rintro σ1 H1 ⟨rfl, rfl, n1⟩
    refine ⟨fun σ' H' => σ' = [some v, some u, none] ∧ H' = H1 ∧ ∀ b, d ≠ .bool b, ?_, ?_⟩
    · cases hu with
      | non => exact absurd rfl n1
      | bl b =>
        have hv' := hv
        cases hv
        exact ⟨_, rfl, ⟨_, _, _, _, true, rfl, .ty _, ty_of (.bl b), kit_ty (by simp only [tyName]; decide +kernel), _, rfl, iteT ⟨_, rfl, ⟨_, _, _, _, true, rfl, .ty _, ty_of hv', kit_ty (by simp only [tyName]; decide +kernel), _, rfl, iteT ⟨_, rfl, _, rfl, rfl, (by simpa using k)⟩⟩⟩⟩⟩
      | int b => exact ⟨_, rfl, ⟨_, _, _, _, false, rfl, .ty _, ty_of (.int b), kit_ty (by simp only [tyName]; decide +kernel), _, rfl, iteF ⟨rfl, rfl, fun _ e => by cases e⟩⟩⟩
      | str b => exact ⟨_, rfl, ⟨_, _, _, _, false, rfl, .ty _, ty_of (.str b), kit_ty (by simp only [tyName]; decide +kernel), _, rfl, iteF ⟨rfl, rfl, fun _ e => by cases e⟩⟩⟩
      | lst s a => exact ⟨_, rfl, ⟨_, _, _, _, false, rfl, .ty _, ty_of (.lst s a), kit_ty (by simp only [tyName]; decide +kernel), _, rfl, iteF ⟨rfl, rfl, fun _ e => by cases e⟩⟩⟩
      | tup s a => exact ⟨_, rfl, ⟨_, _, _, _, false, rfl, .ty _, ty_of (.tup s a), kit_ty (by simp only [tyName]; decide +kernel), _, rfl, iteF ⟨rfl, rfl, fun _ e => by cases e⟩⟩⟩
    rintro σ2 H2 ⟨rfl, rfl, n2⟩
    refine ⟨fun σ' H' => σ' = [some v, some u, none] ∧ H' = H2 ∧ ∀ b, d ≠ .int b, ?_, ?_⟩
    · cases hu with
      | non => exact absurd rfl n1
      | bl b => exact absurd rfl (n2 b)
      | int b =>
        have hv' := hv
        cases hv
        exact ⟨_, rfl, ⟨_, _, _, _, true, rfl, .ty _, ty_of (.int b), kit_ty (by simp only [tyName]; decide +kernel), _, rfl, iteT ⟨_, rfl, ⟨_, _, _, _, true, rfl, .ty _, ty_of hv', kit_ty (by simp only [tyName]; decide +kernel), _, rfl, iteT ⟨_, rfl, ⟨_, _, _, _, false, rfl, .ty _, ty_of hv', kit_ty (by simp only [tyName]; decide +kernel), _, rfl, _, rfl, iteT ⟨_, rfl, _, rfl, rfl, (by simpa using k)⟩⟩⟩⟩⟩⟩⟩
      | str b => exact ⟨_, rfl, ⟨_, _, _, _, false, rfl, .ty _, ty_of (.str b), kit_ty (by simp only [tyName]; decide +kernel), _, rfl, iteF ⟨rfl, rfl, fun _ e => by cases e⟩⟩⟩
      | lst s a => exact ⟨_, rfl, ⟨_, _, _, _, false, rfl, .ty _, ty_of (.lst s a), kit_ty (by simp only [tyName]; decide +kernel), _, rfl, iteF ⟨rfl, rfl, fun _ e => by cases e⟩⟩⟩
      | tup s a => exact ⟨_, rfl, ⟨_, _, _, _, false, rfl, .ty _, ty_of (.tup s a), kit_ty (by simp only [tyName]; decide +kernel), _, rfl, iteF ⟨rfl, rfl, fun _ e => by cases e⟩⟩⟩
    rintro σ3 H3 ⟨rfl, rfl, n3⟩
    refine ⟨fun σ' H' => σ' = [some v, some u, none] ∧ H' = H3 ∧ ∀ b, d ≠ .str b, ?_, ?_⟩
    · cases hu with
      | non => exact absurd rfl n1
      | bl b => exact absurd rfl (n2 b)
      | int b => exact absurd rfl (n3 b)
      | str b =>
        have hv' := hv
        cases hv
        exact ⟨_, rfl, ⟨_, _, _, _, true, rfl, .ty _, ty_of (.str b), kit_ty (by simp only [tyName]; decide +kernel), _, rfl, iteT ⟨_, rfl, ⟨_, _, _, _, true, rfl, .ty _, ty_of hv', kit_ty (by simp only [tyName]; decide +kernel), _, rfl, iteT ⟨_, rfl, _, rfl, rfl, (by simpa using k)⟩⟩⟩⟩⟩
      | lst s a => exact ⟨_, rfl, ⟨_, _, _, _, false, rfl, .ty _, ty_of (.lst s a), kit_ty (by simp only [tyName]; decide +kernel), _, rfl, iteF ⟨rfl, rfl, fun _ e => by cases e⟩⟩⟩
      | tup s a => exact ⟨_, rfl, ⟨_, _, _, _, false, rfl, .ty _, ty_of (.tup s a), kit_ty (by simp only [tyName]; decide +kernel), _, rfl, iteF ⟨rfl, rfl, fun _ e => by cases e⟩⟩⟩
    rintro σ4 H4 ⟨rfl, rfl, n4⟩
    -- a list or a tuple
    obtain ⟨p, q, xs, ys, ds, ev, eu, sx, sy, hx, hy, hl, hfw, hdp, hty⟩ : ∃ (p q : Addr) (xs ys : List V) (ds : List PyData), v = .ref p ∧ u = .ref q ∧ (SqL K H4 p xs ∨ SqT K H4 p xs) ∧ (SqL K H4 q ys ∨ SqT K H4 q ys) ∧ DpAll K H4 xs ds ∧ DpAll K H4 ys ds ∧ ds.length ≤ 1000 ∧ fewD.fewDs ds = true ∧ PyData.depthAll ds < n ∧ (tyName d = "list" ∨ tyName d = "tuple") := by
      cases hu with
      | non => exact absurd rfl n1
      | bl b => exact absurd rfl (n2 b)
      | int b => exact absurd rfl (n3 b)
      | str b => exact absurd rfl (n4 b)
      | lst s a =>
        cases hv with
        | lst s' a' =>
          rw [fewD, Bool.and_eq_true, decide_eq_true_eq] at hf
          rw [PyData.depth] at hd
          exact ⟨_, _, _, _, _, rfl, rfl, .inl s', .inl s, a', a, hf.1, hf.2, by omega, .inl rfl⟩
      | tup s a =>
        cases hv with
        | tup s' a' =>
          rw [fewD, Bool.and_eq_true, decide_eq_true_eq] at hf
          rw [PyData.depth] at hd
          exact ⟨_, _, _, _, _, rfl, rfl, .inr s', .inr s, a', a, hf.1, hf.2, by omega, .inr rfl⟩
    have lx := dpAll_len hx
    have ly := dpAll_len hy
    refine ⟨fun σ' H' => σ' = [some v, some u, none] ∧ H' = H4, ?_, ?_⟩
    · obtain ⟨b1, e1⟩ : ∃ b, kitB (tyName d) "list" = some b := by
        rcases hty with e | e <;> rw [e]
        · exact ⟨true, by decide +kernel⟩
        · exact ⟨false, by decide +kernel⟩
      obtain ⟨b2, e2⟩ : ∃ b, kitB (tyName d) "tuple" = some b := by
        rcases hty with e | e <;> rw [e]
        · exact ⟨false, by decide +kernel⟩
        · exact ⟨true, by decide +kernel⟩
      refine ⟨_, rfl, ⟨_, _, _, _, _, rfl, .ty _, ty_of hv, kit_ty e1, _, rfl, ⟨_, _, _, _, _, rfl, .ty _, ty_of hu, kit_ty e1, .bool b1, .bool b1, .bl _, .bl _, rfl, rfl, _, rfl, ?_⟩⟩⟩
      have d1 : (!PyData.eqv (.bool b1) (.bool b1)) = false := by cases b1 <;> decide +kernel
      rw [d1]
      refine iteF ⟨_, rfl, ⟨_, _, _, _, _, rfl, .ty _, ty_of hv, kit_ty e2, _, rfl, ⟨_, _, _, _, _, rfl, .ty _, ty_of hu, kit_ty e2, .bool b2, .bool b2, .bl _, .bl _, rfl, rfl, _, rfl, ?_⟩⟩⟩
      have d2 : (!PyData.eqv (.bool b2) (.bool b2)) = false := by cases b2 <;> decide +kernel
      rw [d2]
      exact iteF ⟨rfl, rfl⟩
    rintro σ5 H5 ⟨rfl, rfl⟩
    refine ⟨fun σ' H' => σ' = [some v, some u, none] ∧ H' = H5, ?_, ?_⟩
    · subst ev eu
      refine ⟨_, rfl, p, xs, rfl, sx, _, rfl, q, ys, rfl, sy, rfl, _, rfl, ?_⟩
      have d1 : (!decide (V.int (xs.length : Int) = V.int (ys.length : Int))) = false := by rw [lx, ly]; simp
      rw [d1]
      exact iteF ⟨rfl, rfl⟩
    rintro σ6 H6 ⟨rfl, rfl⟩
    subst ev eu
    refine ⟨_, rfl, q, ys, rfl, sy, (ys.length : Int), rfl, ?_, ?_, ?_⟩
    · exact Int.le_trans (by decide) (Int.natCast_nonneg _)
    · have : (ys.length : Int) ≤ 1000 := by rw [ly]; exact_mod_cast hl
      exact Int.lt_of_le_of_lt this (by decide)
    refine for_range (n := (ys.length : Int).toNat) (fun i σ' H' => ∃ w0, σ' = [some (.ref p), some (.ref q), w0] ∧ H' = H6) ⟨none, rfl, rfl⟩ ?_ ?_
    · rintro i σ' H' hi ⟨w0, rfl, rfl⟩
      have hi' : i < ds.length := by rw [← ly]; simpa using hi
      obtain ⟨e, he⟩ : ∃ e, ds[i]? = some e := ⟨ds[i], List.getElem?_eq_getElem hi'⟩
      obtain ⟨x, hxi, hxe⟩ := dpAll_get' hx he
      obtain ⟨y, hyi, hye⟩ := dpAll_get' hy he
      refine ⟨_, rfl, _, rfl, ?_⟩
      refine ix_any (K := K) sx (at_of (by simp) hxi) ?_
      refine ⟨_, rfl, _, rfl, ?_⟩
      refine ix_any (K := K) sy (at_of (by simp) hyi) ?_
      exact ⟨x, y, e, rfl, hxe, hye, few_at hfw he, Nat.lt_of_le_of_lt (depth_at he) hdp, _, rfl, iteF ⟨_, rfl, rfl⟩⟩
    · rintro σ' H' ⟨w0, rfl, rfl⟩
      exact k
theorem ok_law_alike0 (T : Tx K w mg Z) : FnOk P w K mg base CX0 1 Z.a_law_alike Z.d_law_alike P_law_alike (spAlike K 0) := by
  refine T.F_law_alike.ok sclaw_alike (fun vs H Q E h => ?_) (fun cdv A outer s H vs Q E hr h => ?_)
  · obtain ⟨v, u, d, rfl, _⟩ := h
    rfl
  · obtain ⟨v, u, d, rfl, hv, hu, hf, hd, k⟩ := h
    exact absurd hd (Nat.not_lt_zero _)
theorem ok_law_alike (T : Tx K w mg Z) : ∀ n, FnOk P w K mg base CX0 (n + 1) Z.a_law_alike Z.d_law_alike P_law_alike (spAlike K n)
  | 0 => ok_law_alike0 T
  | n + 1 => ok_law_alike_of T (ok_law_alike T n)
end
end KA
namespace KA
open PySem PySem.Spec PyProof.Rows L2 DP
/-! ### the hidden hand -/
theorem leads_shift {L x k : Int} (hL : 0 < L) (steps : List Pr) : leads L steps (x + k * L) = (leads L steps x).map (· + k * L) := by
  unfold leads
  rw [List.map_map]
  refine List.map_congr_left fun s _ => ?_
  show s.2 + (x + k * L - s.1) / L * L = s.2 + (x - s.1) / L * L + k * L
  have e : x + k * L - s.1 = (x - s.1) + k * L := by omega
  rw [e, Int.add_mul_ediv_right _ _ (by omega), Int.add_mul]
  omega
theorem max_shift {L x k m : Int} (hL : 0 < L) {steps : List Pr} (h : IsMaxL (leads L steps x) m) : IsMaxL (leads L steps (x + k * L)) (m + k * L) := by
  rw [leads_shift hL]
  refine ⟨List.mem_map.mpr ⟨m, h.1, rfl⟩, fun y hy => ?_⟩
  obtain ⟨z, hz, e⟩ := List.mem_map.mp hy
  have := h.2 z hz
  have e' : z + k * L = y := e
  omega
theorem max_mono {L x x' m m' : Int} (hL : 0 < L) {steps : List Pr} (hx : x ≤ x') (h : IsMaxL (leads L steps x) m) (h' : IsMaxL (leads L steps x') m') : m ≤ m' := by
  obtain ⟨s, hs, e⟩ := List.mem_map.mp h.1
  have h1 := h'.2 _ (List.mem_map.mpr ⟨s, hs, rfl⟩)
  have h2 : (x - s.1) / L ≤ (x' - s.1) / L := Int.ediv_le_ediv hL (by omega)
  have h3 := Int.mul_le_mul_of_nonneg_right h2 (Int.le_of_lt hL)
  omega
theorem max_one {l : List Int} {m m' : Int} (h : IsMaxL l m) (h' : IsMaxL l m') : m = m' := by
  have := h.2 _ h'.1
  have := h'.2 _ h.1
  omega
/-- what a true look says, wherever it stands -/
def Says (L : Int) (steps : List Pr) (l : Lk) : Prop := ∃ x k m, l.2.1 = x + k * L ∧ IsMaxL (leads L steps x) m ∧ (l.1 = "at" → l.2.2 = m + k * L) ∧ (l.1 = "from" → l.2.2 ≤ m + k * L) ∧ (l.1 = "upto" → m + k * L ≤ l.2.2)
theorem says_home {L : Int} {steps : List Pr} {l : Lk} (h : Says L steps l) : Says L steps (home L l) := by
  obtain ⟨x, k, m, h1, h2, h3, h4, h5⟩ := h
  refine ⟨x, k - l.2.1 / L, m, ?_, h2, fun e => ?_, fun e => ?_, fun e => ?_⟩
  · show l.2.1 - l.2.1 / L * L = x + (k - l.2.1 / L) * L
    rw [Int.sub_mul]; omega
  · have := h3 e
    show l.2.2 - l.2.1 / L * L = m + (k - l.2.1 / L) * L
    rw [Int.sub_mul]; omega
  · have := h4 e
    show l.2.2 - l.2.1 / L * L ≤ m + (k - l.2.1 / L) * L
    rw [Int.sub_mul]; omega
  · have := h5 e
    show m + (k - l.2.1 / L) * L ≤ l.2.2 - l.2.1 / L * L
    rw [Int.sub_mul]; omega
theorem side_low {x : Str} (h : onSide "slow" x = true) : x = "at" ∨ x = "from" := by
  unfold onSide at h
  rw [if_pos rfl, Bool.or_eq_true, decide_eq_true_eq, decide_eq_true_eq] at h
  exact h
theorem side_high {x : Str} (h : onSide "fast" x = true) : x = "at" ∨ x = "upto" := by
  unfold onSide at h
  rw [if_neg slow_ne, Bool.or_eq_true, decide_eq_true_eq, decide_eq_true_eq] at h
  exact h
theorem no_far {L : Int} (hL : 0 < L) {steps : List Pr} {a b : Lk} (ha : Says L steps a) (hb : Says L steps b) : tooFar a b L = false := by
  unfold tooFar
  cases c1 : onSide "slow" a.1 with
  | false => rfl
  | true =>
    cases c2 : onSide "fast" b.1 with
    | false => rfl
    | true =>
      rw [Bool.true_and, Bool.true_and, decide_eq_false_iff_not, plc_slow]
      obtain ⟨x, k, m, h1, h2, h3, h4, h5⟩ := ha
      obtain ⟨x', k', m', h1', h2', h3', h4', h5'⟩ := hb
      have low : a.2.2 ≤ m + k * L := by
        rcases side_low c1 with e | e
        · exact Int.le_of_eq (h3 e)
        · exact h4 e
      have high : m' + k' * L ≤ b.2.2 := by
        rcases side_high c2 with e | e
        · exact Int.le_of_eq (h3' e).symm
        · exact h5' e
      have hj : (b.2.1 - a.2.1) / L * L ≤ b.2.1 - a.2.1 := by
        have := Int.mul_ediv_add_emod (b.2.1 - a.2.1) L
        have h0 := Int.emod_nonneg (b.2.1 - a.2.1) (show L ≠ 0 by omega)
        rw [Int.mul_comm] at this
        omega
      generalize (b.2.1 - a.2.1) / L = j at hj ⊢
      have hx : x + (k + j - k') * L ≤ x' := by
        rw [Int.sub_mul, Int.add_mul]; omega
      have := max_mono hL hx (max_shift hL h2) h2'
      rw [Int.sub_mul, Int.add_mul] at this
      omega
theorem no_clash {L : Int} (hL : 0 < L) {steps : List Pr} {a b : Lk} (ha : Says L steps a) (hb : Says L steps b) : clashB a b L = false := by
  unfold clashB
  rw [no_far hL ha hb, no_far hL hb ha]; rfl
theorem TrueLk.says {L : Int} {steps : List Pr} {l : Lk} (h : TrueLk L steps l) : Says L steps l := h.ex
/-! ### what a Dark tells and what the looks tell -/
theorem plc_home {L : Int} (hL : 0 < L) (sd : Str) (l : Lk) (x : Int) : plc sd (home L l) x L = plc sd l x L := by
  unfold plc home
  split
  · show l.2.2 - l.2.1 / L * L + (x - (l.2.1 - l.2.1 / L * L)) / L * L = l.2.2 + (x - l.2.1) / L * L
    have e : x - (l.2.1 - l.2.1 / L * L) = (x - l.2.1) + l.2.1 / L * L := by omega
    rw [e, Int.add_mul_ediv_right _ _ (by omega), Int.add_mul]; omega
  · show l.2.2 - l.2.1 / L * L - (l.2.1 - l.2.1 / L * L - x) / L * L = l.2.2 - (l.2.1 - x) / L * L
    have e : l.2.1 - l.2.1 / L * L - x = (l.2.1 - x) + (-(l.2.1 / L)) * L := by rw [Int.neg_mul]; omega
    rw [e, Int.add_mul_ediv_right _ _ (by omega), Int.add_mul, Int.neg_mul]; omega
theorem fold_mem {L : Int} : ∀ (ls acc : List Lk) (o : Lk), o ∈ ls.foldl (heard L) acc ↔ o ∈ acc ∨ ∃ l ∈ ls, o = home L l
  | [], acc, o => by simp
  | l :: ls, acc, o => by
    rw [List.foldl_cons, fold_mem ls, heard_mem]
    constructor
    · rintro ((h | h) | ⟨q, hq, e⟩)
      · exact .inl h
      · exact .inr ⟨l, List.mem_cons_self, h⟩
      · exact .inr ⟨q, List.mem_cons_of_mem _ hq, e⟩
    · rintro (h | ⟨q, hq, e⟩)
      · exact .inl (.inl h)
      · rcases List.mem_cons.mp hq with h | h
        · subst h; exact .inl (.inr e)
        · exact .inr ⟨q, h, e⟩
theorem fold_len {L : Int} : ∀ (ls acc : List Lk), (ls.foldl (heard L) acc).length ≤ acc.length + ls.length
  | [], acc => by simp
  | l :: ls, acc => by
    have h1 := fold_len (L := L) ls (heard L acc l)
    have h2 := heard_len L acc l
    rw [List.foldl_cons, List.length_cons]; omega
theorem mem_side {sd : Str} {ls : List Lk} {l : Lk} : l ∈ sideOf sd ls ↔ l ∈ ls ∧ onSide sd l.1 = true := by
  unfold sideOf; rw [List.mem_filter]
/-- the best of the looks is the best of them brought home -/
theorem best_home {L : Int} (hL : 0 < L) {sd : Str} {ls hs : List Lk} {x m : Int} (hh : ∀ o, o ∈ hs ↔ ∃ l ∈ ls, o = home L l) (h : IsBest sd (sideOf sd hs) x L m) : IsBest sd (sideOf sd ls) x L m := by
  obtain ⟨⟨o, ho, e⟩, h2⟩ := h
  obtain ⟨ho1, ho2⟩ := mem_side.mp ho
  obtain ⟨l, hl, rfl⟩ := (hh o).mp ho1
  rw [plc_home hL] at e
  refine ⟨⟨l, mem_side.mpr ⟨hl, ho2⟩, e⟩, fun q hq => ?_⟩
  obtain ⟨hq1, hq2⟩ := mem_side.mp hq
  have := h2 (home L q) (mem_side.mpr ⟨(hh _).mpr ⟨q, hq1, rfl⟩, hq2⟩)
  rw [plc_home hL] at this
  exact this
theorem best_one {sd : Str} {ls : List Lk} {x L m m' : Int} (h : IsBest sd ls x L m) (h' : IsBest sd ls x L m') : m = m' := by
  obtain ⟨⟨a, ha, ea⟩, h2⟩ := h
  obtain ⟨⟨b, hb, eb⟩, h2'⟩ := h'
  have q1 := h2 b hb
  have q2 := h2' a ha
  rw [eb] at q1
  rw [ea] at q2
  split at q1 <;> split at q2 <;> first | omega | (exfalso; simp_all)
theorem side_nil {L : Int} {sd : Str} {ls hs : List Lk} (hh : ∀ o, o ∈ hs ↔ ∃ l ∈ ls, o = home L l) : sideOf sd hs = [] ↔ sideOf sd ls = [] := by
  constructor
  · intro h
    refine List.eq_nil_iff_forall_not_mem.mpr fun l hl => ?_
    obtain ⟨h1, h2⟩ := mem_side.mp hl
    have : home L l ∈ sideOf sd hs := mem_side.mpr ⟨(hh _).mpr ⟨l, h1, rfl⟩, h2⟩
    rw [h] at this; cases this
  · intro h
    refine List.eq_nil_iff_forall_not_mem.mpr fun o ho => ?_
    obtain ⟨h1, h2⟩ := mem_side.mp ho
    obtain ⟨l, hl, rfl⟩ := (hh o).mp h1
    have : l ∈ sideOf sd ls := mem_side.mpr ⟨hl, h2⟩
    rw [h] at this; cases this
def spMade (Z : Ad) (K : PySem.W.Frag) : Sp := fun vs H Q _ => ∃ (v : V) (L : Int) (ls : List Lk), vs = [.int L, v] ∧ Dp K H v (.list (ls.map encL)) ∧ 0 < L ∧ L.natAbs < 2 ^ 200 ∧ (∀ l ∈ ls, WordOk l.1 ∧ Sized 300 l) ∧ (∀ a ∈ ls, ∀ b ∈ ls, clashB a b L = false) ∧ ls.length ≤ 58 ∧
  ∀ (H' : Hp) (d : Addr), H d = none → Same H H' → DarkAt Z K H' d L (ls.foldl (heard L) []) → (∀ la dx, H' d = some (.ins Z.C dx (df L la)) → H la = none) → Q (.ref d) H'
theorem plc_shift {L : Int} (hL : 0 < L) (sd : Str) (l : Lk) (x k : Int) : plc sd l (x + k * L) L = plc sd l x L + k * L := by
  unfold plc
  split
  · have e : x + k * L - l.2.1 = (x - l.2.1) + k * L := by omega
    rw [e, Int.add_mul_ediv_right _ _ (by omega), Int.add_mul]; omega
  · have e : l.2.1 - (x + k * L) = (l.2.1 - x) + (-k) * L := by rw [Int.neg_mul]; omega
    rw [e, Int.add_mul_ediv_right _ _ (by omega), Int.add_mul, Int.neg_mul]; omega
theorem far_home {L : Int} (hL : 0 < L) (a b : Lk) : tooFar (home L a) (home L b) L = tooFar a b L := by
  unfold tooFar
  have e1 : (home L b).2.2 = b.2.2 - b.2.1 / L * L := rfl
  have e2 : (home L b).2.1 = b.2.1 + (-(b.2.1 / L)) * L := by show b.2.1 - b.2.1 / L * L = _; rw [Int.neg_mul]; omega
  rw [e1, e2, plc_home hL, plc_shift hL, Int.neg_mul]
  congr 1
  rw [decide_eq_decide]
  constructor <;> intro h <;> omega
theorem clash_home {L : Int} (hL : 0 < L) (a b : Lk) : clashB (home L a) (home L b) L = clashB a b L := by
  unfold clashB
  rw [far_home hL, far_home hL]
def spSpot (K : PySem.W.Frag) : Sp := fun vs H Q _ => ∃ (t g p : Addr) (n : Nat) (L : Int) (ls : List Lk), vs = [.ref t, .int L, .ref p] ∧ Tray H t g n ∧ n < 2 ^ 44 ∧ 0 < L ∧ L ≤ 10 ^ 30 ∧ LAt K H p (ls.map encL) ∧ p ≠ t ∧ p ≠ g ∧ (∀ l ∈ ls, WordOk l.1 ∧ Sized 270 l) ∧ ls.length ≤ 100 ∧
  ∀ (H' : Hp) (r : Int), At H H' t g (n + 20) → r.natAbs < 2 ^ 280 → Q (.int r) H'
section
variable {P : Program} {w : World} {K : PySem.W.Frag} {mg : Str → Option Value} {base : Heap} {Z : Ad}
theorem ok_law_made (T : Tx K w mg Z) : FnOk P w K mg base CX0 6 Z.a_law_made Z.d_law_made P_law_made (spMade Z K) := by
  refine T.F_law_made.ok sclaw_made (fun vs H Q E h => ?_) (fun cdv A outer s H vs Q E hr h => ?_)
  · obtain ⟨v, L, ls, rfl, _⟩ := h
    rfl
  · obtain ⟨v, L, ls, rfl, hv, hL, hLb, htr, hnc, hlen, k⟩ := h
    obtain ⟨a, xs, rfl, ha, hd⟩ := dp_list hv
    have hxl : xs.length = ls.length := by rw [dpAll_len hd, List.length_map]
    refine ⟨_, (pss_cons (ps_set (i := 2) sclaw_made.nd rfl (Or.inl rfl) (pe_make T.mk_Dark (ok_Dark_init T) (hr.mono (by decide)) (by rfl) T.g_Dark T.bb_Dark_init .nil pass0 (pa_cons (pv 0) pa_nil)))
      (pss_cons (ps_for PassesOwn.never rfl (pi_list (pv 1)) (pg_name (i := 3) sclaw_made.nd rfl (Or.inl rfl)) (pss_one (ps_expr (pe_meth (pv 2) T.cl T.m_Dark_hear (ok_Dark_hear T) (hr.mono (by decide)) T.bb_Dark_hear .nil pass0 (pa_cons (pe_ix (ixT (K := K)) (pv 3) pe_int (fun _ _ => rfl)) (pa_cons (pe_ix (ixT (K := K)) (pv 3) pe_int (fun _ _ => rfl)) (pa_cons (pe_ix (ixT (K := K)) (pv 3) pe_int (fun _ _ => rfl)) pa_nil)))))))
      (pss_one (ps_ret (pv 2))))), ?_⟩
    refine ⟨_, rfl, fun d dx hdn hdx hne => ?_⟩
    have S0 : Same H (upd (upd H dx (.own d)) d (.ins Z.C dx [])) := fun b o e => by
      rw [upd_ne (ne_of_none e hdn), upd_ne (ne_of_none e hdx)]; exact e
    refine ⟨d, dx, L, rfl, upd_same, hL, hLb, fun H1 D1 f1 k1 => ⟨rfl, ?_⟩⟩
    have S1 : Same H H1 := fun b o e => k1 b o (S0 b o e) (ne_of_none e hdn)
    refine ⟨_, rfl, a, rfl, ⟨_, Same.sqL S1 ha⟩, ?_⟩
    refine for_list (K := K) (a := a) (xs := xs) (fun i σ' H' => ∃ u, σ' = [some (.int L), some (.ref a), some (.ref d), u] ∧ Same H H' ∧ DarkAt Z K H' d L ((ls.take i).foldl (heard L) []) ∧ ∀ la dx, H' d = some (.ins Z.C dx (df L la)) → H la = none) ⟨none, rfl, S1, D1, fun la dx e => S0.free (f1 la dx e)⟩ (fun i σ' H' _ ⟨_, _, S, _⟩ => Same.sqL S ha) ?_ ?_
    · rintro i y σ' H' hi ⟨u, rfl, S, D, F⟩
      obtain ⟨e, hdi, hdy⟩ := dpAll_get hd hi
      obtain ⟨l, hl, rfl⟩ := map_at hdi
      have hlm := List.mem_of_getElem? hl
      have hi' : i < ls.length := (List.getElem?_eq_some_iff.mp hl).1
      obtain ⟨p, rfl, hp⟩ := dp_look (dp_mono S _ _ hdy)
      obtain ⟨dx', la, vs, g1, g2, g3⟩ := id D.ex
      have hfl := fold_len (L := L) (ls.take i) []
      refine ⟨_, rfl, d, dx', _, rfl, g1, df_no _ _ (by decide +kernel) (by decide +kernel), ?_⟩
      refine ⟨_, rfl, _, _, _, _, rfl, rfl, hp, rfl, _, rfl, _, _, _, _, rfl, rfl, hp, rfl, _, rfl, _, _, _, _, rfl, rfl, hp, rfl, ?_⟩
      refine ⟨d, L, _, l, rfl, D, (htr l hlm).1, (htr l hlm).2, ?_, fun o ho => ?_, fun H2 D2 f2 k2 => ?_⟩
      · rw [List.length_take] at hfl; simp at hfl; omega
      · obtain h | ⟨q, hq, e⟩ := (fold_mem _ _ _).mp ho
        · cases h
        · rw [e]
          rw [clash_home hL]
          exact hnc l hlm q (List.mem_of_mem_take hq)
      · refine ⟨_, rfl, fun b o e => k2 b o (S b o e) (ne_of_none e hdn), ?_⟩
        rw [take_snoc hl, List.foldl_append]
        refine ⟨D2, fun la dx e => ?_⟩
        rcases f2 la dx e with ⟨dx', h⟩ | h
        · exact F la dx' h
        · exact S.free h
    · rintro σ' H' ⟨u, rfl, S, D, F⟩
      rw [List.take_of_length_le (by rw [hxl]; exact Nat.le_refl _)] at D
      exact ⟨_, rfl, k H' d hdn S D F⟩
end
end KA
namespace KA
open PySem PySem.Spec PyProof.Rows L2 DP
theorem tells_home {L : Int} (hL : 0 < L) {sd : Str} {ls hs : List Lk} {x : Int} {v u : V} (hh : ∀ o, o ∈ hs ↔ ∃ l ∈ ls, o = home L l) (h : Tells sd ls x L v) (h' : Tells sd hs x L u) : u = v := by
  rcases h with ⟨e, rfl⟩ | ⟨m, rfl, b⟩
  · rcases h' with ⟨_, rfl⟩ | ⟨m, rfl, b⟩
    · rfl
    · obtain ⟨⟨l, hl, _⟩, _⟩ := b
      rw [(side_nil hh).mpr e] at hl; cases hl
  · rcases h' with ⟨e, rfl⟩ | ⟨m', rfl, b'⟩
    · obtain ⟨⟨l, hl, _⟩, _⟩ := b
      rw [(side_nil hh).mp e] at hl; cases hl
    · rw [best_one b (best_home hL hh b')]
theorem DarkAt.keep {Z : Ad} {K : PySem.W.Frag} {H H' : Hp} {t g d : Addr} {n : Nat} {L : Int} {ls : List Lk} (D : DarkAt Z K H d L ls) (T : Tray H t g n) (k : Keep t g H H') (hla : ∀ la dx, H d = some (.ins Z.C dx (df L la)) → la ≠ t ∧ la ≠ g) :
    DarkAt Z K H' d L ls ∧ ∀ la dx, H' d = some (.ins Z.C dx (df L la)) → la ≠ t ∧ la ≠ g := by
  obtain ⟨dx, la, vs, h1, h2, h3⟩ := D.ex
  obtain ⟨a1, a2⟩ := hla la dx h1
  have hd : d ≠ t ∧ d ≠ g := by
    obtain ⟨⟨gs, l, f, c, e1, e2, r⟩, hne⟩ := T
    refine ⟨?_, ?_⟩ <;> rintro rfl
    · rw [h1] at e1; cases e1
    · rw [h1] at e2; cases e2
  have h1' := k _ _ h1 hd.1 hd.2
  refine ⟨⟨⟨dx, la, vs, h1', k _ _ h2 a1 a2, dpAll_tups (Keep.tups T k) _ _ (noLs_map noL_encL ls) h3⟩, D.pos, D.big, D.ok, D.len⟩, fun la' dx' e => ?_⟩
  rw [h1'] at e
  rw [← df_inj e]
  exact ⟨a1, a2⟩
/-- what a Dark tells, told by the looks that it heard -/
theorem tells_ls {L : Int} (hL : 0 < L) {sd : Str} {ls hs : List Lk} {x : Int} {v : V} (hh : ∀ o, o ∈ hs ↔ ∃ l ∈ ls, o = home L l) (h : Tells sd hs x L v) : Tells sd ls x L v := by
  rcases h with ⟨e, rfl⟩ | ⟨m, rfl, b⟩
  · exact .inl ⟨(side_nil hh).mp e, rfl⟩
  · exact .inr ⟨m, rfl, best_home hL hh b⟩
def vmap (φ : Int → Int) : V → V | .int m => .int (φ m) | _ => .non
def Flat (v : V) : Prop := v = .non ∨ ∃ m, v = .int m
theorem tells_flat' {sd : Str} {ls : List Lk} {x L : Int} {v : V} (h : Tells sd ls x L v) : Flat v := by
  rcases h with ⟨_, rfl⟩ | ⟨m, rfl, _⟩
  · exact .inl rfl
  · exact .inr ⟨m, rfl⟩
theorem flat_map {v : V} (h : Flat v) (φ : Int → Int) : Flat (vmap φ v) := by
  rcases h with rfl | ⟨m, rfl⟩
  · exact .inl rfl
  · exact .inr ⟨_, rfl⟩
theorem flat_dp {v : V} (h : Flat v) : ∃ d, fewD d = true ∧ d.depth = 0 ∧ ∀ (K : PySem.W.Frag) (H : Hp), Dp K H v d := by
  rcases h with rfl | ⟨m, rfl⟩
  · exact ⟨.none, rfl, rfl, fun K H => .non⟩
  · exact ⟨.int m, rfl, rfl, fun K H => .int m⟩
/-- looks changed, places changed: what is told is changed -/
theorem tells_map {sd sd' : Str} {f : Lk → Lk} {φ : Int → Int} {ls : List Lk} {x x' L L' : Int} {v : V} (hside : ∀ l ∈ ls, onSide sd' (f l).1 = onSide sd l.1) (hplc : ∀ l ∈ ls, plc sd' (f l) x' L' = φ (plc sd l x L))
    (hmono : ∀ a b, (if sd = "slow" then a ≤ b else b ≤ a) → if sd' = "slow" then φ a ≤ φ b else φ b ≤ φ a) (h : Tells sd ls x L v) : Tells sd' (ls.map f) x' L' (vmap φ v) := by
  rcases h with ⟨e, rfl⟩ | ⟨m, rfl, ⟨l, hl, em⟩, hb⟩
  · refine .inl ⟨List.eq_nil_iff_forall_not_mem.mpr fun o ho => ?_, rfl⟩
    obtain ⟨h1, h2⟩ := mem_side.mp ho
    obtain ⟨l, hl, rfl⟩ := List.mem_map.mp h1
    rw [hside l hl] at h2
    have : l ∈ sideOf sd ls := mem_side.mpr ⟨hl, h2⟩
    rw [e] at this; cases this
  · obtain ⟨h1, h2⟩ := mem_side.mp hl
    refine .inr ⟨φ m, rfl, ⟨f l, mem_side.mpr ⟨List.mem_map.mpr ⟨l, h1, rfl⟩, by rw [hside l h1]; exact h2⟩, by rw [hplc l h1, em]⟩, fun o ho => ?_⟩
    obtain ⟨g1, g2⟩ := mem_side.mp ho
    obtain ⟨q, hq, rfl⟩ := List.mem_map.mp g1
    rw [hside q hq] at g2
    have h3 := hb q (mem_side.mpr ⟨hq, g2⟩)
    rw [hplc q hq]
    refine hmono _ _ ?_
    split at h3
    · rw [if_pos (by assumption)]; exact h3
    · rw [if_neg (by assumption)]; exact h3
theorem far_map {f : Lk → Lk} {L L' : Int} {a b : Lk} (h1 : onSide "slow" (f a).1 = onSide "slow" a.1) (h2 : onSide "fast" (f b).1 = onSide "fast" b.1) (h3 : (f b).2.2 < plc "slow" (f a) (f b).2.1 L' ↔ b.2.2 < plc "slow" a b.2.1 L) : tooFar (f a) (f b) L' = tooFar a b L := by
  unfold tooFar
  rw [h1, h2]
  congr 1
  rw [decide_eq_decide]
  exact h3
/-- moved -/
def mv (off : Int) (l : Lk) : Lk := (l.1, l.2.1 + off, l.2.2 + off)
theorem plc_mv (sd : Str) (off : Int) (l : Lk) (x L : Int) : plc sd (mv off l) (x + off) L = plc sd l x L + off := by
  unfold plc
  split
  · show l.2.2 + off + (x + off - (l.2.1 + off)) / L * L = l.2.2 + (x - l.2.1) / L * L + off
    have e : x + off - (l.2.1 + off) = x - l.2.1 := by omega
    rw [e]; omega
  · show l.2.2 + off - (l.2.1 + off - (x + off)) / L * L = l.2.2 - (l.2.1 - x) / L * L + off
    have e : l.2.1 + off - (x + off) = l.2.1 - x := by omega
    rw [e]; omega
theorem far_mv (off : Int) (a b : Lk) (L : Int) : tooFar (mv off a) (mv off b) L = tooFar a b L := by
  refine far_map rfl rfl ?_
  show b.2.2 + off < plc "slow" (mv off a) (b.2.1 + off) L ↔ _
  rw [plc_mv]; omega
theorem clash_mv (off : Int) (a b : Lk) (L : Int) : clashB (mv off a) (mv off b) L = clashB a b L := by
  unfold clashB
  rw [far_mv, far_mv]
/-- so many times -/
def gr (m : Int) (l : Lk) : Lk := (l.1, l.2.1 * m, l.2.2 * m)
theorem div_gr {a m r L : Int} (hm : 0 < m) (hL : 0 < L) (h0 : 0 ≤ r) (h1 : r < m) : (a * m + r) / (L * m) = a / L := by
  have e : (a * m + r) / m = a := by
    rw [Int.add_comm, Int.add_mul_ediv_right _ _ (by omega), Int.ediv_eq_zero_of_lt h0 h1, Int.zero_add]
  have e2 : (a * m + r) / (m * L) = (a * m + r) / m / L := (Int.ediv_ediv_of_nonneg (Int.le_of_lt hm)).symm
  rw [Int.mul_comm L m, e2, e]
theorem plc_gr_slow {m r L : Int} (hm : 0 < m) (hL : 0 < L) (h0 : 0 ≤ r) (h1 : r < m) (l : Lk) (x : Int) : plc "slow" (gr m l) (x * m + r) (L * m) = plc "slow" l x L * m := by
  rw [plc_slow, plc_slow]
  show l.2.2 * m + (x * m + r - l.2.1 * m) / (L * m) * (L * m) = (l.2.2 + (x - l.2.1) / L * L) * m
  have e : x * m + r - l.2.1 * m = (x - l.2.1) * m + r := by rw [Int.sub_mul]; omega
  rw [e, div_gr hm hL h0 h1, Int.add_mul, Int.mul_assoc]
theorem plc_gr_fast {m r L : Int} (hm : 0 < m) (hL : 0 < L) (h0 : 0 ≤ r) (h1 : r < m) (l : Lk) (x : Int) : plc "fast" (gr m l) (x * m - r) (L * m) = plc "fast" l x L * m := by
  rw [plc_fast, plc_fast]
  show l.2.2 * m - (l.2.1 * m - (x * m - r)) / (L * m) * (L * m) = (l.2.2 - (l.2.1 - x) / L * L) * m
  have e : l.2.1 * m - (x * m - r) = (l.2.1 - x) * m + r := by rw [Int.sub_mul]; omega
  rw [e, div_gr hm hL h0 h1, Int.sub_mul, Int.mul_assoc]
theorem far_gr {m L : Int} (hm : 0 < m) (hL : 0 < L) (a b : Lk) : tooFar (gr m a) (gr m b) (L * m) = tooFar a b L := by
  refine far_map rfl rfl ?_
  show b.2.2 * m < plc "slow" (gr m a) (b.2.1 * m) (L * m) ↔ _
  have e := plc_gr_slow hm hL (Int.le_refl 0) hm a b.2.1
  rw [Int.add_zero] at e
  rw [e]
  exact Int.mul_lt_mul_right hm
theorem clash_gr {m L : Int} (hm : 0 < m) (hL : 0 < L) (a b : Lk) : clashB (gr m a) (gr m b) (L * m) = clashB a b L := by
  unfold clashB
  rw [far_gr hm hL, far_gr hm hL]
/-- the other way about -/
def sw (x : Str) : Str := if x = "from" then "upto" else if x = "upto" then "from" else "at"
def ot (l : Lk) : Lk := (sw l.1, 0 - l.2.1, 0 - l.2.2)
theorem sw_ok {x : Str} (h : WordOk x) : WordOk (sw x) ∧ onSide "slow" (sw x) = onSide "fast" x ∧ onSide "fast" (sw x) = onSide "slow" x := by
  rcases h with rfl | rfl | rfl <;> exact ⟨by unfold WordOk; decide +kernel, by decide +kernel, by decide +kernel⟩
theorem plc_ot_slow (l : Lk) (x L : Int) : plc "slow" (ot l) (0 - x) L = 0 - plc "fast" l x L := by
  rw [plc_slow, plc_fast]
  show 0 - l.2.2 + (0 - x - (0 - l.2.1)) / L * L = 0 - (l.2.2 - (l.2.1 - x) / L * L)
  have e : 0 - x - (0 - l.2.1) = l.2.1 - x := by omega
  rw [e]; omega
theorem plc_ot_fast (l : Lk) (x L : Int) : plc "fast" (ot l) (0 - x) L = 0 - plc "slow" l x L := by
  rw [plc_slow, plc_fast]
  show 0 - l.2.2 - (0 - l.2.1 - (0 - x)) / L * L = 0 - (l.2.2 + (x - l.2.1) / L * L)
  have e : 0 - l.2.1 - (0 - x) = x - l.2.1 := by omega
  rw [e]; omega
theorem far_ot {a b : Lk} (ha : WordOk a.1) (hb : WordOk b.1) (L : Int) : tooFar (ot a) (ot b) L = tooFar b a L := by
  unfold tooFar
  have e1 : onSide "slow" (ot a).1 = onSide "fast" a.1 := (sw_ok ha).2.1
  have e2 : onSide "fast" (ot b).1 = onSide "slow" b.1 := (sw_ok hb).2.2
  rw [e1, e2, Bool.and_comm (onSide "fast" a.1)]
  congr 1
  rw [decide_eq_decide]
  show 0 - b.2.2 < plc "slow" (ot a) (0 - b.2.1) L ↔ a.2.2 < plc "slow" b a.2.1 L
  rw [plc_ot_slow, plc_fast, plc_slow]
  omega
theorem clash_ot {a b : Lk} (ha : WordOk a.1) (hb : WordOk b.1) (L : Int) : clashB (ot a) (ot b) L = clashB a b L := by
  unfold clashB
  rw [far_ot ha hb, far_ot hb ha, Bool.or_comm]
/-- may -/
def mayB (L : Int) (hs : List Lk) (l : Lk) : Bool := !hs.any fun o => clashB (home L l) o L
theorem may_ls {L : Int} (hL : 0 < L) {ls hs : List Lk} (hh : ∀ o, o ∈ hs ↔ ∃ l ∈ ls, o = home L l) (l : Lk) : mayB L hs l = !ls.any fun q => clashB l q L := by
  unfold mayB
  congr 1
  rw [Bool.eq_iff_iff, List.any_eq_true, List.any_eq_true]
  constructor
  · rintro ⟨o, ho, e⟩
    obtain ⟨q, hq, rfl⟩ := (hh o).mp ho
    rw [clash_home hL] at e
    exact ⟨q, hq, e⟩
  · rintro ⟨q, hq, e⟩
    exact ⟨_, (hh _).mpr ⟨q, hq, rfl⟩, by rw [clash_home hL]; exact e⟩
theorem any_map {f : Lk → Lk} {L L' : Int} {ls : List Lk} {l : Lk} (h : ∀ q ∈ ls, clashB (f l) (f q) L' = clashB l q L) : ((ls.map f).any fun q => clashB (f l) q L') = ls.any fun q => clashB l q L := by
  rw [List.any_map, Bool.eq_iff_iff, List.any_eq_true, List.any_eq_true]
  constructor
  · rintro ⟨q, hq, e⟩
    exact ⟨q, hq, by rw [← h q hq]; exact e⟩
  · rintro ⟨q, hq, e⟩
    exact ⟨q, hq, by show clashB (f l) (f q) L' = true; rw [h q hq]; exact e⟩
end KA
namespace KA
open PySem PySem.Spec PyProof.Rows L2 DP
def spLHome (K : PySem.W.Frag) : Sp := fun vs H Q _ => ∃ (v : V) (L : Int) (l : Lk), vs = [.int L, v] ∧ Dp K H v (encL l) ∧ 0 < L ∧ L.natAbs < 2 ^ 200 ∧ Sized 300 l ∧ ∀ r H', Same H H' → Dp K H' r (encL (home L l)) → Q r H'
section
variable {P : Program} {w : World} {K : PySem.W.Frag} {mg : Str → Option Value} {base : Heap} {Z : Ad}
theorem ok_law_home (T : Tx K w mg Z) : FnOk P w K mg base CX0 1 Z.a_law_home Z.d_law_home P_law_home (spLHome K) := by
  refine T.F_law_home.ok sclaw_home (fun vs H Q E h => ?_) (fun cdv A outer s H vs Q E hr h => ?_)
  · obtain ⟨v, L, l, rfl, _⟩ := h
    rfl
  · obtain ⟨v, L, l, rfl, hv, hL, hLb, hl, k⟩ := h
    obtain ⟨p, rfl, hp⟩ := dp_look hv
    refine ⟨_, (pss_cons (ps_set (i := 2) sclaw_home.nd rfl (Or.inl rfl) (pe_op op_mulW (pe_op op_fdivW (pe_ix (ixT (K := K)) (pv 1) pe_int (fun _ _ => rfl)) (pv 0)) (pv 0)))
      (pss_one (ps_ret (pe_tup (pa_cons (pe_ix (ixT (K := K)) (pv 1) pe_int (fun _ _ => rfl)) (pa_cons (pe_op op_sub (pe_ix (ixT (K := K)) (pv 1) pe_int (fun _ _ => rfl)) (pv 2)) (pa_cons (pe_op op_sub (pe_ix (ixT (K := K)) (pv 1) pe_int (fun _ _ => rfl)) (pv 2)) pa_nil))))))), ?_⟩
    have b1 : (l.2.1 / L).natAbs < 2 ^ 301 := div_lt hL hl.1
    refine ⟨_, rfl, _, _, _, _, rfl, rfl, hp, rfl, _, rfl, _, _, rfl, rfl, wide_div hL hLb (by decide) (by decide), _, rfl, _, _, rfl, rfl, wide_mul b1 hLb (by decide) (by decide) (by decide), ?_⟩
    refine ⟨_, rfl, _, _, _, _, rfl, rfl, hp, rfl, ?_⟩
    refine ⟨_, rfl, _, _, _, _, rfl, rfl, hp, rfl, _, rfl, _, _, rfl, rfl, ?_⟩
    refine ⟨_, rfl, _, _, _, _, rfl, rfl, hp, rfl, _, rfl, _, _, rfl, rfl, (by show 3 ≤ sizeLine; decide), fun q hq => ?_⟩
    exact k _ _ (same_upd hq) (.tup (SqT.of upd_same) (.cons (.str _) (.cons (.int _) (.cons (.int _) .nil))))
end
end KA
namespace KA
open PySem PySem.Spec PyProof.Rows L2 DP
/-! ### looks in order, each once -/
def leL (a b : Lk) : Bool := PySem.W.dataLe false encL a b
theorem leL_iff {a b : Lk} : leL a b = true ↔ (listOrd itemOrd).kle (PySem.W.keyToks (encL a)) (PySem.W.keyToks (encL b)) := by
  show (!PyProof.Rows.lexLt itemOrd (PySem.W.keyToks (encL b)) (PySem.W.keyToks (encL a))) = true ↔ PyProof.Rows.lexLt itemOrd (PySem.W.keyToks (encL b)) (PySem.W.keyToks (encL a)) = false
  cases PyProof.Rows.lexLt itemOrd (PySem.W.keyToks (encL b)) (PySem.W.keyToks (encL a)) <;> simp
theorem leL_trans (a b c : Lk) (h1 : leL a b = true) (h2 : leL b c = true) : leL a c = true := leL_iff.mpr (KeyOrd.kle_trans (leL_iff.mp h1) (leL_iff.mp h2))
theorem leL_total (a b : Lk) : (leL a b || leL b a) = true := by
  rw [Bool.or_eq_true]
  cases e : (listOrd itemOrd).blt (PySem.W.keyToks (encL b)) (PySem.W.keyToks (encL a)) with
  | false => exact .inl (leL_iff.mpr e)
  | true => exact .inr (leL_iff.mpr (KeyOrd.kle_of_klt (O := listOrd itemOrd) e))
theorem toks_inj {a b : Lk} (h : PySem.W.keyToks (encL a) = PySem.W.keyToks (encL b)) : a = b := by
  obtain ⟨⟨a1⟩, a2, a3⟩ := a
  obtain ⟨⟨b1⟩, b2, b3⟩ := b
  simp [encL, PySem.W.keyToks, PySem.W.keyToksAll] at h
  obtain ⟨h1, h2, h3⟩ := h
  rw [h1, h2, h3]
theorem leL_anti (a b : Lk) (h1 : leL a b = true) (h2 : leL b a = true) : a = b := toks_inj (KeyOrd.kle_antisymm (leL_iff.mp h1) (leL_iff.mp h2))
structure Canon (ms : List Lk) (S : Lk → Prop) : Prop where
  nd : ms.Nodup
  srt : ms.Pairwise (fun a b => leL a b = true)
  mem : ∀ o, o ∈ ms ↔ S o
theorem Canon.eq {ms ns : List Lk} {S S' : Lk → Prop} (a : Canon ms S) (b : Canon ns S') (h : ∀ o, S o ↔ S' o) : ms = ns :=
  List.Perm.eq_of_pairwise (fun x y _ _ h1 h2 => leL_anti x y h1 h2) a.srt b.srt ((List.perm_ext_iff_of_nodup a.nd b.nd).mpr fun o => (a.mem o).trans ((h o).trans (b.mem o).symm))
theorem Canon.iff {ms : List Lk} {S S' : Lk → Prop} (a : Canon ms S) (h : ∀ o, S o ↔ S' o) : Canon ms S' := ⟨a.nd, a.srt, fun o => (a.mem o).trans (h o)⟩
theorem canon_nil : Canon [] (fun _ => False) := ⟨.nil, .nil, fun o => by simp⟩
theorem canon_sort {ms : List Lk} (nd : ms.Nodup) : Canon (ms.mergeSort leL) (fun o => o ∈ ms) := ⟨(List.mergeSort_perm _ _).nodup_iff.mpr nd, List.pairwise_mergeSort leL_trans leL_total _, fun o => (List.mergeSort_perm _ _).mem_iff⟩
theorem heard_canon {L : Int} {hs : List Lk} {S : Lk → Prop} (c : Canon hs S) (l : Lk) : Canon (heard L hs l) (fun o => S o ∨ o = home L l) := by
  refine ⟨?_, ?_, fun o => ?_⟩
  · unfold heard
    split
    · exact c.nd
    · rename_i h
      exact (List.mergeSort_perm _ _).nodup_iff.mpr (List.nodup_append.mpr ⟨c.nd, List.pairwise_singleton _ _, fun a ha b hb e => h (by rw [List.mem_singleton] at hb; rw [← hb, ← e]; exact ha)⟩)
  · unfold heard
    split
    · exact c.srt
    · exact List.pairwise_mergeSort leL_trans leL_total _
  · rw [heard_mem, c.mem]
theorem fold_canon {L : Int} : ∀ (ls hs : List Lk) {S : Lk → Prop}, Canon hs S → Canon (ls.foldl (heard L) hs) (fun o => S o ∨ ∃ l ∈ ls, o = home L l)
  | [], hs, S, c => c.iff fun o => by simp
  | l :: ls, hs, S, c => (fold_canon ls _ (heard_canon c l)).iff fun o => by
    constructor
    · rintro ((h | h) | ⟨q, hq, h⟩)
      · exact .inl h
      · exact .inr ⟨l, List.mem_cons_self, h⟩
      · exact .inr ⟨q, List.mem_cons_of_mem _ hq, h⟩
    · rintro (h | ⟨q, hq, h⟩)
      · exact .inl (.inl h)
      · rcases List.mem_cons.mp hq with e | e
        · exact .inl (.inr (e ▸ h))
        · exact .inr ⟨q, e, h⟩
theorem fold0_canon (L : Int) (ls : List Lk) : Canon (ls.foldl (heard L) []) (fun o => ∃ l ∈ ls, o = home L l) := (fold_canon ls [] canon_nil).iff fun o => by simp
theorem filter_canon {hs : List Lk} {S : Lk → Prop} (c : Canon hs S) (q : Lk → Bool) : Canon (hs.filter q) (fun o => S o ∧ q o = true) := ⟨c.nd.filter _, c.srt.filter _, fun o => by rw [List.mem_filter, c.mem]⟩
/-! ### a set of looks, sorted -/
def keyL (l : Lk) : List Key := [.inr l.1, .inl l.2.1, .inl l.2.2]
theorem keyL_inj {a b : Lk} (h : keyL a = keyL b) : a = b := by
  obtain ⟨a1, a2, a3⟩ := a
  obtain ⟨b1, b2, b3⟩ := b
  simp [keyL] at h
  obtain ⟨h1, h2, h3⟩ := h
  rw [h1, h2, h3]
section
variable {K : PySem.W.Frag} {H : Hp}
theorem look_rows : ∀ {ls : List Lk} {xs : List V}, DpAll K H xs (ls.map encL) → ∃ ks : List (Addr × List Key), xs = ks.map (fun p => V.ref p.1) ∧ ks.map Prod.snd = ls.map keyL ∧ SD.Stand K H ks
  | [], xs, h => by
    have h' : DpAll K H xs [] := h
    cases h'
    exact ⟨[], rfl, rfl, fun p hp => by cases hp⟩
  | l :: ls, xs, h => by
    have h' : DpAll K H xs (encL l :: ls.map encL) := h
    cases h' with
    | cons h1 h2 =>
      obtain ⟨ks, e1, e2, st⟩ := look_rows h2
      obtain ⟨a, rfl, ha⟩ := dp_look h1
      refine ⟨(a, keyL l) :: ks, by rw [e1]; rfl, by rw [List.map_cons, e2]; rfl, fun p hp => ?_⟩
      rcases List.mem_cons.mp hp with e | e
      · rw [e]; exact ha
      · exact st p e
theorem rows_look : ∀ {ms : List Lk} {M : List (Addr × List Key)}, M.map Prod.snd = ms.map keyL → SD.Stand K H M → DpAll K H (M.map fun p => V.ref p.1) (ms.map encL)
  | [], [], _, _ => .nil
  | [], _ :: _, e, _ => by cases e
  | _ :: _, [], e, _ => by cases e
  | l :: ms, p :: M, e, st => by
    injection e with e1 e2
    have h1 := st p List.mem_cons_self
    rw [e1] at h1
    exact .cons (.tup h1 (.cons (.str _) (.cons (.int _) (.cons (.int _) .nil)))) (rows_look e2 fun q hq => st q (List.mem_cons_of_mem _ hq))
theorem keys_back : ∀ {ks : List (List Key)} {ls : List Lk}, (∀ k ∈ ks, ∃ l ∈ ls, k = keyL l) → ∃ ms : List Lk, ks = ms.map keyL ∧ ∀ m ∈ ms, m ∈ ls
  | [], _, _ => ⟨[], rfl, fun _ h => by cases h⟩
  | k :: ks, ls, h => by
    obtain ⟨l, hl, e⟩ := h k List.mem_cons_self
    obtain ⟨ms, e2, h2⟩ := keys_back (ks := ks) (ls := ls) fun q hq => h q (List.mem_cons_of_mem _ hq)
    refine ⟨l :: ms, by rw [e, e2]; rfl, fun m hm => ?_⟩
    rcases List.mem_cons.mp hm with z | z
    · rw [z]; exact hl
    · exact h2 m z
/-- sorted(set(looks)) -/
theorem set_sorted {P : Program} {w : World} {l : Addr} {xs : List V} {ls : List Lk} (hl : SqL K H l xs) (hd : DpAll K H xs (ls.map encL)) (hlen : ls.length < 64) {Q : VK}
    (q : ∀ p ys H' ms, Same H H' → H p = none → H' p = some (.lst ys) → DpAll K H' ys (ms.map encL) → Canon ms (fun o => o ∈ ls) → Q (.ref p) H') :
    SD.rSetD K P w [.ref l] H (fun v H' => SD.rSortSetD K P w [v] H' Q) := by
  obtain ⟨ks, e1, e2, st⟩ := look_rows hd
  have hkl : ks.length = ls.length := by rw [← List.length_map (f := Prod.snd), e2, List.length_map]
  subst e1
  refine ⟨l, ks, rfl, hl, st, by rw [hkl]; exact hlen, fun a M ha hM hall hone => ?_⟩
  have S1 := same_upd (o := SD.SetDO P w a M) ha
  have stM : SD.Stand K (upd H a (SD.SetDO P w a M)) M := SD.Stand.same (fun p hp => st p (hM p hp)) S1
  have inl : ∀ p ∈ M, ∃ l ∈ ls, p.2 = keyL l := fun p hp => by
    have h1 : p.2 ∈ ks.map Prod.snd := List.mem_map.mpr ⟨p, hM p hp, rfl⟩
    rw [e2] at h1
    obtain ⟨l, hl, e⟩ := List.mem_map.mp h1
    exact ⟨l, hl, e.symm⟩
  refine ⟨a, M, rfl, upd_same, stM, ⟨fun p hp p2 hp2 => ?_, fun p hp => ?_⟩, fun N p pm hp => ?_⟩
  · obtain ⟨l1, _, e1⟩ := inl p hp
    obtain ⟨l2, _, e2⟩ := inl p2 hp2
    unfold SD.encK
    rw [e1, e2]
    simp [keyL, SD.kD, PySem.W.alike, PySem.W.alikeAll]
  · obtain ⟨l1, _, e1⟩ := inl p hp
    rw [e1]; simp [keyL]
  · obtain ⟨ms, em, hms⟩ := keys_back (ks := N.map Prod.snd) (ls := ls) fun k hk => by
      obtain ⟨p, hp, e⟩ := List.mem_map.mp hk
      obtain ⟨l, hl, e2⟩ := inl p (pm.mem_iff.mp hp)
      exact ⟨l, hl, by rw [← e, e2]⟩
    have ndk : (ms.map keyL).Nodup := by rw [← em]; exact (pm.map Prod.snd).nodup_iff.mpr hone
    have nd : ms.Nodup := List.Pairwise.of_map keyL (fun _ _ hne e => hne (congrArg keyL e)) ndk
    have hsort : (N.mergeSort (PySem.W.dataLe false SD.encK)).map Prod.snd = (ms.mergeSort leL).map keyL := by
      rw [List.map_mergeSort (f := Prod.snd) (r := PySem.W.dataLe false SD.encK) (s := fun a b => PySem.W.dataLe false SD.encK (0, a) (0, b)) (fun a _ b _ => rfl), em]
      rw [List.map_mergeSort (f := keyL) (r := leL) (s := fun a b => PySem.W.dataLe false SD.encK (0, a) (0, b)) (fun a _ b _ => rfl)]
    have S2 := same_upd (o := HO.lst ((N.mergeSort (PySem.W.dataLe false SD.encK)).map fun q => V.ref q.1)) hp
    refine q p _ _ (ms.mergeSort leL) (S1.trans S2) (S1.free hp) upd_same (rows_look hsort (SD.Stand.same (fun r hr => stM r (pm.mem_iff.mp ((List.mergeSort_perm _ _).mem_iff.mp hr))) S2)) ((canon_sort nd).iff fun o => ⟨hms o, fun ho => ?_⟩)
    have h1 : keyL o ∈ ks.map Prod.snd := by rw [e2]; exact List.mem_map.mpr ⟨o, ho, rfl⟩
    obtain ⟨p2, hp2, e3⟩ := List.mem_map.mp h1
    have h2 := hall p2 hp2
    rw [e3, ← (pm.map Prod.snd).mem_iff, em] at h2
    obtain ⟨m, hm, e4⟩ := List.mem_map.mp h2
    rw [← keyL_inj e4]; exact hm
end
end KA
namespace KA
open PySem PySem.Spec PyProof.Rows L2 DP
def spLen (Z : Ad) (K : PySem.W.Frag) : Sp := fun vs H Q _ => ∃ (d : Addr) (L : Int) (ls : List Lk), vs = [.ref d] ∧ DarkAt Z K H d L ls ∧ Q (.int L) H
theorem eqv_looks : ∀ a b : List Lk, PyData.eqvAll (a.map encL) (b.map encL) = decide (a = b)
  | [], [] => rfl
  | [], y :: b => by simp [PyData.eqvAll]
  | x :: a, [] => by simp [PyData.eqvAll]
  | x :: a, y :: b => by
    rw [List.map_cons, List.map_cons, PyData.eqvAll, eqv_look, eqv_looks a b]
    by_cases h1 : x = y <;> by_cases h2 : a = b <;> simp [h1, h2]
def spDEq (Z : Ad) (K : PySem.W.Frag) : Sp := fun vs H Q _ => ∃ (a : Addr) (L : Int) (ls : List Lk) (y : V), vs = [.ref a, y] ∧ DarkAt Z K H a L ls ∧
  ((∃ b L2 ls2, y = .ref b ∧ DarkAt Z K H b L2 ls2 ∧ Q (.bl (decide (L = L2) && decide (ls = ls2))) H) ∨ (((∃ i, y = .int i) ∨ ∃ p xs, y = .ref p ∧ H p = some (.lst xs)) ∧ Q (.bl false) H))
def spDrop (Z : Ad) (K : PySem.W.Frag) : Sp := fun vs H Q _ => ∃ (d : Addr) (L : Int) (ls : List Lk) (l : Lk), vs = [.ref d, .str l.1, .int l.2.1, .int l.2.2] ∧ DarkAt Z K H d L ls ∧ WordOk l.1 ∧ Sized 300 l ∧ home L l ∈ ls ∧
  ∀ H', DarkAt Z K H' d L (ls.filter fun o => !decide (o = home L l)) → (∀ la dx, H' d = some (.ins Z.C dx (df L la)) → H la = none) → (∀ b o, H b = some o → b ≠ d → H' b = some o) → Q .non H'
section
variable {P : Program} {w : World} {K : PySem.W.Frag} {mg : Str → Option Value} {base : Heap} {Z : Ad}
theorem ok_Dark_length (T : Tx K w mg Z) : FnOk P w K mg base CX0 1 Z.a_Dark_length Z.d_Dark_length P_Dark_length (spLen Z K) := by
  refine T.F_Dark_length.ok scDark_length (fun vs H Q E h => ?_) (fun cdv A outer s H vs Q E hr h => ?_)
  · obtain ⟨d, L, ls, rfl, _⟩ := h
    rfl
  · obtain ⟨d, L, ls, rfl, D, k⟩ := h
    obtain ⟨dx, la, xs, h1, h2, h3⟩ := id D.ex
    refine ⟨_, (pss_one (ps_ret (fldK (K := K) (pv 0) rfl))), ?_⟩
    exact ⟨_, rfl, d, Z.C, dx, _, _, rfl, h1, T.cl, T.n_length, df_length _ _, k⟩
theorem ok_Dark_drop (T : Tx K w mg Z) : FnOk P w K mg base CX0 5 Z.a_Dark_drop Z.d_Dark_drop P_Dark_drop (spDrop Z K) := by
  refine T.F_Dark_drop.ok scDark_drop (fun vs H Q E h => ?_) (fun cdv A outer s H vs Q E hr h => ?_)
  · obtain ⟨d, L, ls, l, rfl, _⟩ := h
    rfl
  · obtain ⟨d, L, ls, l, rfl, D, hw, hl, hin, k⟩ := h
    obtain ⟨dx, la, xs, h1, h2, h3⟩ := id D.ex
    have hxl : xs.length = ls.length := by rw [dpAll_len h3, List.length_map]
    have hwd : ∀ l ∈ ls, WordOk l.1 := fun l hl => (D.ok l hl).1
    refine ⟨_, (pss_cons (ps_set (i := 4) scDark_drop.nd rfl (Or.inr rfl) (pe_meth (pv 0) T.cl T.m_Darkhome (ok_Darkhome T) (hr.mono (by decide)) T.bb_Darkhome .nil pass0 (pa_cons (pv 1) (pa_cons (pv 2) (pa_cons (pv 3) pa_nil)))))
      (C8.pss_cut (ps_if (pt_cmpR (notInDK (K := K) (rooms hr)) (pv 4) (fldK (K := K) (pv 0) rfl) (by rfl)) (pss_one ps_never) pss_nil)
      (pss_one (ps_fld (pv 0) (pe_lc (own := [("other", 5)]) (g := gName 5) (tt := _) rfl scDark_drop.nd (pi_list (fldK (K := K) (pv 0) rfl)) (blkOk_by (own := [("other", 5)]) (N := N_Dark_drop) (sc := defScope sDark_drop) (by decide +kernel)) (fun _ _ _ _ _ => (pg_name (i := 5) scDark_drop.nd rfl (Or.inl rfl))) (fun _ _ _ _ _ => (pts_one (pt_cmpR (neDK (K := K) hr.units) (pv 5) (pv 4) (nomark _)))) (fun _ _ _ _ _ => (pv 5))) rfl)))), ?_⟩
    refine ⟨_, rfl, d, dx, _, rfl, h1, df_no _ _ (by decide +kernel) (by decide +kernel), _, rfl, _, rfl, _, rfl, d, L, ls, l, rfl, D, hw, hl, fun H1 r S hr => ?_⟩
    refine ⟨fun σ' H' => σ' = [some (.ref d), some (.str l.1), some (.int l.2.1), some (.int l.2.2), some r, none] ∧ H' = H1, ?_, ?_⟩
    · refine ⟨_, rfl, _, rfl, d, Z.C, dx, _, _, rfl, S _ _ h1, T.cl, T.n_looks, df_looks _ _, encL (home L l), ls.map encL, hr, .lst (SqL.of (S _ _ h2)) (dpAll_mono S _ _ h3), shaped_look hw, shaped_looks hwd, _, rfl, ?_⟩
      rw [any_look]
      have e : (!decide (home L l ∈ ls)) = false := by simp [hin]
      rw [e]
      exact iteF ⟨rfl, rfl⟩
    · rintro σ' H' ⟨rfl, rfl⟩
      have h1' := S _ _ h1
      have h2' := S _ _ h2
      have h3' := dpAll_mono S _ _ h3
      refine ⟨_, rfl, d, Z.C, dx, _, _, rfl, h1', T.cl, T.n_looks, df_looks _ _, la, rfl, ⟨_, SqL.of h2'⟩, fun D1 hD => ?_⟩
      refine lc_list (K := K) (a := la) (xs := xs) (fun i H2 => Same H' H2 ∧ ∃ ys, H2 D1 = some (.lst ys) ∧ ys.length ≤ i ∧ DpAll K H2 ys (((ls.take i).filter fun o => !decide (o = home L l)).map encL)) ⟨same_upd hD, [], upd_same, Nat.le_refl _, .nil⟩ (fun i H2 _ ⟨S2, _⟩ => SqL.of (S2 _ _ h2')) ?_ ?_
      · rintro i y H2 hi ⟨S2, ys, hd, hyl, hds⟩
        obtain ⟨e, hdi, hdy⟩ := dpAll_get h3' hi
        obtain ⟨o, ho, rfl⟩ := map_at hdi
        have hok := D.ok o (List.mem_of_getElem? ho)
        have hdy2 := dp_mono S2 _ _ hdy
        have hi' : i < ls.length := (List.getElem?_eq_some_iff.mp ho).1
        refine ⟨rfl, _, rfl, _, rfl, encL o, encL (home L l), hdy2, dp_mono S2 _ _ hr, shaped_look hok.1, shaped_look hw, _, rfl, ?_⟩
        rw [eqv_look]
        have e2 : (ls.take (i + 1)).filter (fun o => !decide (o = home L l)) = (ls.take i).filter (fun o => !decide (o = home L l)) ++ (if (!decide (o = home L l)) = true then [o] else []) := by
          rw [take_snoc ho, List.filter_append]
          cases c : (!decide (o = home L l)) <;> simp [c]
        cases c : (!decide (o = home L l)) with
        | false =>
          refine iteF ⟨S2, ys, hd, by omega, ?_⟩
          rw [e2, c]
          simpa using hds
        | true =>
          refine iteT ⟨_, rfl, ys, hd, small1000 (by have := D.len; omega), same_set S2 hD, _, upd_same, by simp; omega, ?_⟩
          rw [e2, c, if_pos rfl, List.map_append]
          exact acc_step hd (noLs_map noL_encL _) rfl hds hdy2
      · rintro H2 ⟨S2, ys, hd, hyl, hds⟩
        rw [List.take_of_length_le (by rw [hxl]; exact Nat.le_refl _)] at hds
        have h1'' := S2 _ _ h1'
        have hdD : d ≠ D1 := ne_of_none h1' hD
        refine ⟨_, rfl, d, Z.C, dx, df L la, rfl, h1'', T.cl, T.n_looks, (by show 2 < 1000; decide), ?_⟩
        refine k _ ⟨⟨dx, D1, ys, Eq.trans upd_same (congrArg (fun q => some (HO.ins Z.C dx q)) (df_put3 L la D1)), (upd_ne (Ne.symm hdD)).trans hd, dpAll_tups (Tups.upd_ins h1'') _ _ (noLs_map noL_encL _) hds⟩, D.pos, D.big, fun o ho => D.ok o (List.mem_filter.mp ho).1, Nat.le_trans (List.length_filter_le _ _) D.len⟩ (fun la' dx' e => ?_) fun b o e hb => (upd_ne hb).trans (S2 _ _ (S _ _ e))
        rw [upd_same, df_put3] at e
        rw [← df_inj e]
        exact S.free hD
end
end KA
namespace KA
open PySem PySem.Spec PyProof.Rows L2 DP
/-! ### an error, told by its classes -/
/-- a class, asked of all -/
structure KdA (K : PySem.W.Frag) (Y : AdX) (C : Addr) (b : Nat → Bool) : Prop where
  f0 : PySem.W.kitOne K (.ref C) (.ref Y.c_NoLength) = some (b 0)
  f1 : PySem.W.kitOne K (.ref C) (.ref Y.c_NoWord) = some (b 1)
  f2 : PySem.W.kitOne K (.ref C) (.ref Y.c_Clash) = some (b 2)
  f3 : PySem.W.kitOne K (.ref C) (.ref Y.c_NoLook) = some (b 3)
  f4 : PySem.W.kitOne K (.ref C) (.ref Y.c_NoRound) = some (b 4)
  f5 : PySem.W.kitOne K (.ref C) (.ref Y.c_NoUses) = some (b 5)
  f6 : PySem.W.kitOne K (.ref C) (.ref Y.c_NoSide) = some (b 6)
  f7 : PySem.W.kitOne K (.ref C) (.ref Y.c_NoRing) = some (b 7)
  f8 : PySem.W.kitOne K (.ref C) (.ref Y.c_NoSteps) = some (b 8)
  f9 : PySem.W.kitOne K (.ref C) (.ref Y.c_NoBottom) = some (b 9)
  f10 : PySem.W.kitOne K (.ref C) (.ref Y.c_NoText) = some (b 10)
  kv : PySem.W.kitOne K (.ref C) (.type "ValueError") = some true
  x : EK.ExF K C
def encSB (p : Str × Bool) : PyData := .tuple [.str p.1, .bool p.2]
def kinds (b : Nat → Bool) : List (Str × Bool) := [("NoLength", b 0), ("NoWord", b 1), ("Clash", b 2), ("NoLook", b 3), ("NoRound", b 4), ("NoUses", b 5), ("NoSide", b 6), ("NoRing", b 7), ("NoSteps", b 8), ("NoBottom", b 9), ("NoText", b 10)]
/-- the names of the classes that it is of -/
def names (b : Nat → Bool) : List Str := ((kinds b).filter fun p => p.2).map Prod.fst
theorem names_len (b : Nat → Bool) : (names b).length ≤ 11 := by
  unfold names
  rw [List.length_map]
  exact Nat.le_trans (List.length_filter_le _ _) (by simp [kinds])
theorem noL_encSB (p : Str × Bool) : noL (encSB p) = true := rfl
theorem dp_sb {K : PySem.W.Frag} {H : Hp} {v : V} {p : Str × Bool} (h : Dp K H v (encSB p)) : ∃ a, v = .ref a ∧ SqT K H a [.str p.1, .bl p.2] := by
  cases h with
  | tup s q =>
    cases q with
    | cons q1 q =>
      cases q1
      cases q with
      | cons q2 q =>
        cases q2
        cases q
        exact ⟨_, rfl, s⟩
theorem dpAll_cat {K : PySem.W.Frag} {H : Hp} : ∀ {xs ys : List V} {ds es : List PyData}, DpAll K H xs ds → DpAll K H ys es → DpAll K H (xs ++ ys) (ds ++ es)
  | _, _, _, _, .nil, h => h
  | _, _, _, _, .cons a b, h => .cons a (dpAll_cat b h)
def spKindP (K : PySem.W.Frag) (Y : AdX) (p : Addr × Obj) : Sp := fun vs H Q _ => ∃ (a C : Addr) (b : Nat → Bool) (u : V) (du : PyData), vs = [.ref a] ∧ KH.HeldP K p H a C [(("what" : Str), u)] ∧ KdA K Y C b ∧ Dp K H u du ∧
  ∀ H' p ys, H p = none → Same H H' → H' p = some (.lst ys) → DpAll K H' ys ((names b).map .str ++ [du, .bool true]) → Q (.ref p) H'
section
variable {P : Program} {w : World} {K : PySem.W.Frag} {mg : Str → Option Value} {base : Heap} {Z : Ad} {Y : AdX}
theorem okE_law_kind (T : Tx K w mg Z) (X : Ex P K mg Y) : KH.FnE P w K mg base CX0 1 Z.a_law_kind Z.d_law_kind P_law_kind (spKindP K Y) := by
  refine KH.okE T.F_law_kind sclaw_kind (fun p vs H Q E h => ?_) (fun cdv A outer s H vs Q E p hot hr h => ?_)
  · obtain ⟨a, C, b, u, du, rfl, _⟩ := h
    rfl
  · obtain ⟨a, C, b, u, du, rfl, hh, kd, hu, k⟩ := h
    have hpn : p ∈ [p] := List.mem_singleton.mpr rfl
    have hotc : L2H.HotC (L2H.cxH CX0 P w K mg base N_law_kind "_law_kind" (defScope slaw_kind) Z.a_law_kind cdv A outer s H E p) := ⟨p, hot, hpn⟩
    refine ⟨_, (pss_cons (ps_set (i := 1) sclaw_kind.nd rfl (Or.inl rfl) (pe_lst (pa_cons (pe_tup (pa_cons pe_str (pa_cons (pe_callB (KH.call_isiP (K := K) (p := p) hpn) (by rfl) T.b_isinstance (by decide +kernel) (pa_cons (pv 0) (pa_cons (pe_glob (v := .ref Y.c_NoLength) rfl X.g_NoLength rfl) pa_nil))) pa_nil))) (pa_cons (pe_tup (pa_cons pe_str (pa_cons (pe_callB (KH.call_isiP (K := K) (p := p) hpn) (by rfl) T.b_isinstance (by decide +kernel) (pa_cons (pv 0) (pa_cons (pe_glob (v := .ref Y.c_NoWord) rfl X.g_NoWord rfl) pa_nil))) pa_nil))) (pa_cons (pe_tup (pa_cons pe_str (pa_cons (pe_callB (KH.call_isiP (K := K) (p := p) hpn) (by rfl) T.b_isinstance (by decide +kernel) (pa_cons (pv 0) (pa_cons (pe_glob (v := .ref Y.c_Clash) rfl X.g_Clash rfl) pa_nil))) pa_nil))) pa_nil)))))
      (pss_cons (ps_set (i := 1) sclaw_kind.nd rfl (Or.inl rfl) (pe_op op_cat (pv 1) (pe_lst (pa_cons (pe_tup (pa_cons pe_str (pa_cons (pe_callB (KH.call_isiP (K := K) (p := p) hpn) (by rfl) T.b_isinstance (by decide +kernel) (pa_cons (pv 0) (pa_cons (pe_glob (v := .ref Y.c_NoLook) rfl X.g_NoLook rfl) pa_nil))) pa_nil))) (pa_cons (pe_tup (pa_cons pe_str (pa_cons (pe_callB (KH.call_isiP (K := K) (p := p) hpn) (by rfl) T.b_isinstance (by decide +kernel) (pa_cons (pv 0) (pa_cons (pe_glob (v := .ref Y.c_NoRound) rfl X.g_NoRound rfl) pa_nil))) pa_nil))) pa_nil)))))
      (pss_cons (ps_set (i := 1) sclaw_kind.nd rfl (Or.inl rfl) (pe_op op_cat (pv 1) (pe_lst (pa_cons (pe_tup (pa_cons pe_str (pa_cons (pe_callB (KH.call_isiP (K := K) (p := p) hpn) (by rfl) T.b_isinstance (by decide +kernel) (pa_cons (pv 0) (pa_cons (pe_glob (v := .ref Y.c_NoUses) rfl X.g_NoUses rfl) pa_nil))) pa_nil))) (pa_cons (pe_tup (pa_cons pe_str (pa_cons (pe_callB (KH.call_isiP (K := K) (p := p) hpn) (by rfl) T.b_isinstance (by decide +kernel) (pa_cons (pv 0) (pa_cons (pe_glob (v := .ref Y.c_NoSide) rfl X.g_NoSide rfl) pa_nil))) pa_nil))) pa_nil)))))
      (pss_cons (ps_set (i := 1) sclaw_kind.nd rfl (Or.inl rfl) (pe_op op_cat (pv 1) (pe_lst (pa_cons (pe_tup (pa_cons pe_str (pa_cons (pe_callB (KH.call_isiP (K := K) (p := p) hpn) (by rfl) T.b_isinstance (by decide +kernel) (pa_cons (pv 0) (pa_cons (pe_glob (v := .ref Y.c_NoRing) rfl X.g_NoRing rfl) pa_nil))) pa_nil))) (pa_cons (pe_tup (pa_cons pe_str (pa_cons (pe_callB (KH.call_isiP (K := K) (p := p) hpn) (by rfl) T.b_isinstance (by decide +kernel) (pa_cons (pv 0) (pa_cons (pe_glob (v := .ref Y.c_NoSteps) rfl X.g_NoSteps rfl) pa_nil))) pa_nil))) pa_nil)))))
      (pss_cons (ps_set (i := 1) sclaw_kind.nd rfl (Or.inl rfl) (pe_op op_cat (pv 1) (pe_lst (pa_cons (pe_tup (pa_cons pe_str (pa_cons (pe_callB (KH.call_isiP (K := K) (p := p) hpn) (by rfl) T.b_isinstance (by decide +kernel) (pa_cons (pv 0) (pa_cons (pe_glob (v := .ref Y.c_NoBottom) rfl X.g_NoBottom rfl) pa_nil))) pa_nil))) (pa_cons (pe_tup (pa_cons pe_str (pa_cons (pe_callB (KH.call_isiP (K := K) (p := p) hpn) (by rfl) T.b_isinstance (by decide +kernel) (pa_cons (pv 0) (pa_cons (pe_glob (v := .ref Y.c_NoText) rfl X.g_NoText rfl) pa_nil))) pa_nil))) pa_nil)))))
      (pss_one (ps_ret (pe_op op_cat (KH.pe_lcH (own := [("word", 2), ("so", 3)]) (g := gTup K 2 (gCons (gName 2) (gCons (gName 3) gNil))) (tt := _) hotc sclaw_kind.nd (KH.pi_listH (pv 1)) (blkOk_by (own := [("word", 2), ("so", 3)]) (N := N_law_kind) (sc := defScope slaw_kind) (by decide +kernel)) (fun _ _ _ _ _ => (KH.tupH (K := K) hotc (pgs_cons (pg_name (i := 2) sclaw_kind.nd rfl (Or.inl rfl)) (pgs_cons (pg_name (i := 3) sclaw_kind.nd rfl (Or.inl rfl)) pgs_nil)))) (fun _ _ _ _ _ => (pts_one (pt_val (pv 3)))) (fun _ _ _ _ _ => (pv 2))) (pe_lst (pa_cons (KH.pe_exP (K := K) (p := p) hpn (pv 0)) (pa_cons (pe_callB (KH.call_isiP (K := K) (p := p) hpn) (by rfl) T.b_isinstance (by decide +kernel) (pa_cons (pv 0) (pa_cons (pe_bltn (v := .ty "ValueError") (by rfl) T.b_ValueError (by decide +kernel) rfl) pa_nil))) pa_nil))))))))))), ?_⟩
    have S0 : Same H H := fun _ _ e => e
    have hh0 := hh
    refine ⟨_, rfl, a, C, _, _, _, b 0, rfl, hh0, .own _, kd.f0, (by show 2 ≤ sizeLine; decide), fun t0 h0 => ?_⟩
    have q1 := same_upd (o := HO.tup [V.str "NoLength", .bl (b 0)]) h0
    have d0 : Dp K (upd H t0 (HO.tup [V.str "NoLength", .bl (b 0)])) (.ref t0) (encSB ("NoLength", b 0)) := .tup (SqT.of upd_same) (.cons (.str _) (.cons (.bl _) .nil))
    have S1 := S0.trans q1
    have hh1 := hh0.same q1
    generalize upd H t0 (HO.tup [V.str "NoLength", .bl (b 0)]) = H1 at S1 hh1 d0 q1 ⊢
    refine ⟨_, rfl, a, C, _, _, _, b 1, rfl, hh1, .own _, kd.f1, (by show 2 ≤ sizeLine; decide), fun t1 h1 => ?_⟩
    have q2 := same_upd (o := HO.tup [V.str "NoWord", .bl (b 1)]) h1
    have d1 : Dp K (upd H1 t1 (HO.tup [V.str "NoWord", .bl (b 1)])) (.ref t1) (encSB ("NoWord", b 1)) := .tup (SqT.of upd_same) (.cons (.str _) (.cons (.bl _) .nil))
    have S2 := S1.trans q2
    have hh2 := hh1.same q2
    generalize upd H1 t1 (HO.tup [V.str "NoWord", .bl (b 1)]) = H2 at S2 hh2 d1 q2 ⊢
    have d0 := dp_mono q2 _ _ d0
    refine ⟨_, rfl, a, C, _, _, _, b 2, rfl, hh2, .own _, kd.f2, (by show 2 ≤ sizeLine; decide), fun t2 h2 => ?_⟩
    have q3 := same_upd (o := HO.tup [V.str "Clash", .bl (b 2)]) h2
    have d2 : Dp K (upd H2 t2 (HO.tup [V.str "Clash", .bl (b 2)])) (.ref t2) (encSB ("Clash", b 2)) := .tup (SqT.of upd_same) (.cons (.str _) (.cons (.bl _) .nil))
    have S3 := S2.trans q3
    have hh3 := hh2.same q3
    generalize upd H2 t2 (HO.tup [V.str "Clash", .bl (b 2)]) = H3 at S3 hh3 d2 q3 ⊢
    have d0 := dp_mono q3 _ _ d0
    have d1 := dp_mono q3 _ _ d1
    refine ⟨(by show 3 ≤ sizeLine; decide), fun l0 hl0 => ?_⟩
    have q4 := same_upd (o := HO.lst [V.ref t0, V.ref t1, V.ref t2]) hl0
    have gl0 : (upd H3 l0 (HO.lst [V.ref t0, V.ref t1, V.ref t2])) l0 = some (.lst [V.ref t0, V.ref t1, V.ref t2]) := upd_same
    have S4 := S3.trans q4
    have hh4 := hh3.same q4
    have dl0 : DpAll K (upd H3 l0 (HO.lst [V.ref t0, V.ref t1, V.ref t2])) [V.ref t0, V.ref t1, V.ref t2] [encSB ("NoLength", b 0), encSB ("NoWord", b 1), encSB ("Clash", b 2)] := .cons (dp_mono q4 _ _ d0) (.cons (dp_mono q4 _ _ d1) (.cons (dp_mono q4 _ _ d2) (.nil)))
    generalize upd H3 l0 (HO.lst [V.ref t0, V.ref t1, V.ref t2]) = H4 at S4 hh4 gl0 dl0 q4 ⊢
    obtain ⟨x1, ex1⟩ : ∃ x, x = [V.ref t0, V.ref t1, V.ref t2] := ⟨_, rfl⟩
    rw [← ex1] at gl0 dl0
    have g1 := gl0
    have ds1 := dl0
    have xl1 : x1.length = 3 := by rw [ex1]; rfl
    refine ⟨_, rfl, _, rfl, a, C, _, _, _, b 3, rfl, hh4, .own _, kd.f3, (by show 2 ≤ sizeLine; decide), fun t3 h3 => ?_⟩
    have q5 := same_upd (o := HO.tup [V.str "NoLook", .bl (b 3)]) h3
    have d3 : Dp K (upd H4 t3 (HO.tup [V.str "NoLook", .bl (b 3)])) (.ref t3) (encSB ("NoLook", b 3)) := .tup (SqT.of upd_same) (.cons (.str _) (.cons (.bl _) .nil))
    have S5 := S4.trans q5
    have hh5 := hh4.same q5
    generalize upd H4 t3 (HO.tup [V.str "NoLook", .bl (b 3)]) = H5 at S5 hh5 d3 q5 ⊢
    have g1 := q5 _ _ g1
    have ds1 := dpAll_mono q5 _ _ ds1
    refine ⟨_, rfl, a, C, _, _, _, b 4, rfl, hh5, .own _, kd.f4, (by show 2 ≤ sizeLine; decide), fun t4 h4 => ?_⟩
    have q6 := same_upd (o := HO.tup [V.str "NoRound", .bl (b 4)]) h4
    have d4 : Dp K (upd H5 t4 (HO.tup [V.str "NoRound", .bl (b 4)])) (.ref t4) (encSB ("NoRound", b 4)) := .tup (SqT.of upd_same) (.cons (.str _) (.cons (.bl _) .nil))
    have S6 := S5.trans q6
    have hh6 := hh5.same q6
    generalize upd H5 t4 (HO.tup [V.str "NoRound", .bl (b 4)]) = H6 at S6 hh6 d4 q6 ⊢
    have d3 := dp_mono q6 _ _ d3
    have g1 := q6 _ _ g1
    have ds1 := dpAll_mono q6 _ _ ds1
    refine ⟨(by show 2 ≤ sizeLine; decide), fun l1 hl1 => ?_⟩
    have q7 := same_upd (o := HO.lst [V.ref t3, V.ref t4]) hl1
    have gl1 : (upd H6 l1 (HO.lst [V.ref t3, V.ref t4])) l1 = some (.lst [V.ref t3, V.ref t4]) := upd_same
    have S7 := S6.trans q7
    have hh7 := hh6.same q7
    have dl1 : DpAll K (upd H6 l1 (HO.lst [V.ref t3, V.ref t4])) [V.ref t3, V.ref t4] [encSB ("NoLook", b 3), encSB ("NoRound", b 4)] := .cons (dp_mono q7 _ _ d3) (.cons (dp_mono q7 _ _ d4) (.nil))
    have g1 := q7 _ _ g1
    have ds1 := dpAll_mono q7 _ _ ds1
    generalize upd H6 l1 (HO.lst [V.ref t3, V.ref t4]) = H7 at S7 hh7 gl1 dl1 q7 g1 ds1 ⊢
    refine ⟨l0, l1, x1, _, rfl, rfl, g1, gl1, Nat.le_trans (by rw [xl1]; simp : _ ≤ 100) (by decide), fun c1 hc1 => ?_⟩
    have q8 := same_upd (o := HO.lst (x1 ++ [V.ref t3, V.ref t4])) hc1
    have g2 : (upd H7 c1 (HO.lst (x1 ++ [V.ref t3, V.ref t4]))) c1 = some (.lst (x1 ++ [V.ref t3, V.ref t4])) := upd_same
    have S8 := S7.trans q8
    have hh8 := hh7.same q8
    have ds2 := dpAll_mono q8 _ _ (dpAll_cat ds1 dl1)
    generalize upd H7 c1 (HO.lst (x1 ++ [V.ref t3, V.ref t4])) = H8 at S8 hh8 g2 ds2 q8 ⊢
    obtain ⟨x2, ex2⟩ : ∃ x, x = x1 ++ [V.ref t3, V.ref t4] := ⟨_, rfl⟩
    rw [← ex2] at g2 ds2
    have xl2 : x2.length = 5 := by rw [ex2, List.length_append, xl1]; rfl
    refine ⟨_, rfl, _, rfl, a, C, _, _, _, b 5, rfl, hh8, .own _, kd.f5, (by show 2 ≤ sizeLine; decide), fun t5 h5 => ?_⟩
    have q9 := same_upd (o := HO.tup [V.str "NoUses", .bl (b 5)]) h5
    have d5 : Dp K (upd H8 t5 (HO.tup [V.str "NoUses", .bl (b 5)])) (.ref t5) (encSB ("NoUses", b 5)) := .tup (SqT.of upd_same) (.cons (.str _) (.cons (.bl _) .nil))
    have S9 := S8.trans q9
    have hh9 := hh8.same q9
    generalize upd H8 t5 (HO.tup [V.str "NoUses", .bl (b 5)]) = H9 at S9 hh9 d5 q9 ⊢
    have g2 := q9 _ _ g2
    have ds2 := dpAll_mono q9 _ _ ds2
    refine ⟨_, rfl, a, C, _, _, _, b 6, rfl, hh9, .own _, kd.f6, (by show 2 ≤ sizeLine; decide), fun t6 h6 => ?_⟩
    have q10 := same_upd (o := HO.tup [V.str "NoSide", .bl (b 6)]) h6
    have d6 : Dp K (upd H9 t6 (HO.tup [V.str "NoSide", .bl (b 6)])) (.ref t6) (encSB ("NoSide", b 6)) := .tup (SqT.of upd_same) (.cons (.str _) (.cons (.bl _) .nil))
    have S10 := S9.trans q10
    have hh10 := hh9.same q10
    generalize upd H9 t6 (HO.tup [V.str "NoSide", .bl (b 6)]) = H10 at S10 hh10 d6 q10 ⊢
    have d5 := dp_mono q10 _ _ d5
    have g2 := q10 _ _ g2
    have ds2 := dpAll_mono q10 _ _ ds2
    refine ⟨(by show 2 ≤ sizeLine; decide), fun l2 hl2 => ?_⟩
    have q11 := same_upd (o := HO.lst [V.ref t5, V.ref t6]) hl2
    have gl2 : (upd H10 l2 (HO.lst [V.ref t5, V.ref t6])) l2 = some (.lst [V.ref t5, V.ref t6]) := upd_same
    have S11 := S10.trans q11
    have hh11 := hh10.same q11
    have dl2 : DpAll K (upd H10 l2 (HO.lst [V.ref t5, V.ref t6])) [V.ref t5, V.ref t6] [encSB ("NoUses", b 5), encSB ("NoSide", b 6)] := .cons (dp_mono q11 _ _ d5) (.cons (dp_mono q11 _ _ d6) (.nil))
    have g2 := q11 _ _ g2
    have ds2 := dpAll_mono q11 _ _ ds2
    generalize upd H10 l2 (HO.lst [V.ref t5, V.ref t6]) = H11 at S11 hh11 gl2 dl2 q11 g2 ds2 ⊢
    refine ⟨c1, l2, x2, _, rfl, rfl, g2, gl2, Nat.le_trans (by rw [xl2]; simp : _ ≤ 100) (by decide), fun c2 hc2 => ?_⟩
    have q12 := same_upd (o := HO.lst (x2 ++ [V.ref t5, V.ref t6])) hc2
    have g3 : (upd H11 c2 (HO.lst (x2 ++ [V.ref t5, V.ref t6]))) c2 = some (.lst (x2 ++ [V.ref t5, V.ref t6])) := upd_same
    have S12 := S11.trans q12
    have hh12 := hh11.same q12
    have ds3 := dpAll_mono q12 _ _ (dpAll_cat ds2 dl2)
    generalize upd H11 c2 (HO.lst (x2 ++ [V.ref t5, V.ref t6])) = H12 at S12 hh12 g3 ds3 q12 ⊢
    obtain ⟨x3, ex3⟩ : ∃ x, x = x2 ++ [V.ref t5, V.ref t6] := ⟨_, rfl⟩
    rw [← ex3] at g3 ds3
    have xl3 : x3.length = 7 := by rw [ex3, List.length_append, xl2]; rfl
    refine ⟨_, rfl, _, rfl, a, C, _, _, _, b 7, rfl, hh12, .own _, kd.f7, (by show 2 ≤ sizeLine; decide), fun t7 h7 => ?_⟩
    have q13 := same_upd (o := HO.tup [V.str "NoRing", .bl (b 7)]) h7
    have d7 : Dp K (upd H12 t7 (HO.tup [V.str "NoRing", .bl (b 7)])) (.ref t7) (encSB ("NoRing", b 7)) := .tup (SqT.of upd_same) (.cons (.str _) (.cons (.bl _) .nil))
    have S13 := S12.trans q13
    have hh13 := hh12.same q13
    generalize upd H12 t7 (HO.tup [V.str "NoRing", .bl (b 7)]) = H13 at S13 hh13 d7 q13 ⊢
    have g3 := q13 _ _ g3
    have ds3 := dpAll_mono q13 _ _ ds3
    refine ⟨_, rfl, a, C, _, _, _, b 8, rfl, hh13, .own _, kd.f8, (by show 2 ≤ sizeLine; decide), fun t8 h8 => ?_⟩
    have q14 := same_upd (o := HO.tup [V.str "NoSteps", .bl (b 8)]) h8
    have d8 : Dp K (upd H13 t8 (HO.tup [V.str "NoSteps", .bl (b 8)])) (.ref t8) (encSB ("NoSteps", b 8)) := .tup (SqT.of upd_same) (.cons (.str _) (.cons (.bl _) .nil))
    have S14 := S13.trans q14
    have hh14 := hh13.same q14
    generalize upd H13 t8 (HO.tup [V.str "NoSteps", .bl (b 8)]) = H14 at S14 hh14 d8 q14 ⊢
    have d7 := dp_mono q14 _ _ d7
    have g3 := q14 _ _ g3
    have ds3 := dpAll_mono q14 _ _ ds3
    refine ⟨(by show 2 ≤ sizeLine; decide), fun l3 hl3 => ?_⟩
    have q15 := same_upd (o := HO.lst [V.ref t7, V.ref t8]) hl3
    have gl3 : (upd H14 l3 (HO.lst [V.ref t7, V.ref t8])) l3 = some (.lst [V.ref t7, V.ref t8]) := upd_same
    have S15 := S14.trans q15
    have hh15 := hh14.same q15
    have dl3 : DpAll K (upd H14 l3 (HO.lst [V.ref t7, V.ref t8])) [V.ref t7, V.ref t8] [encSB ("NoRing", b 7), encSB ("NoSteps", b 8)] := .cons (dp_mono q15 _ _ d7) (.cons (dp_mono q15 _ _ d8) (.nil))
    have g3 := q15 _ _ g3
    have ds3 := dpAll_mono q15 _ _ ds3
    generalize upd H14 l3 (HO.lst [V.ref t7, V.ref t8]) = H15 at S15 hh15 gl3 dl3 q15 g3 ds3 ⊢
    refine ⟨c2, l3, x3, _, rfl, rfl, g3, gl3, Nat.le_trans (by rw [xl3]; simp : _ ≤ 100) (by decide), fun c3 hc3 => ?_⟩
    have q16 := same_upd (o := HO.lst (x3 ++ [V.ref t7, V.ref t8])) hc3
    have g4 : (upd H15 c3 (HO.lst (x3 ++ [V.ref t7, V.ref t8]))) c3 = some (.lst (x3 ++ [V.ref t7, V.ref t8])) := upd_same
    have S16 := S15.trans q16
    have hh16 := hh15.same q16
    have ds4 := dpAll_mono q16 _ _ (dpAll_cat ds3 dl3)
    generalize upd H15 c3 (HO.lst (x3 ++ [V.ref t7, V.ref t8])) = H16 at S16 hh16 g4 ds4 q16 ⊢
    obtain ⟨x4, ex4⟩ : ∃ x, x = x3 ++ [V.ref t7, V.ref t8] := ⟨_, rfl⟩
    rw [← ex4] at g4 ds4
    have xl4 : x4.length = 9 := by rw [ex4, List.length_append, xl3]; rfl
    refine ⟨_, rfl, _, rfl, a, C, _, _, _, b 9, rfl, hh16, .own _, kd.f9, (by show 2 ≤ sizeLine; decide), fun t9 h9 => ?_⟩
    have q17 := same_upd (o := HO.tup [V.str "NoBottom", .bl (b 9)]) h9
    have d9 : Dp K (upd H16 t9 (HO.tup [V.str "NoBottom", .bl (b 9)])) (.ref t9) (encSB ("NoBottom", b 9)) := .tup (SqT.of upd_same) (.cons (.str _) (.cons (.bl _) .nil))
    have S17 := S16.trans q17
    have hh17 := hh16.same q17
    generalize upd H16 t9 (HO.tup [V.str "NoBottom", .bl (b 9)]) = H17 at S17 hh17 d9 q17 ⊢
    have g4 := q17 _ _ g4
    have ds4 := dpAll_mono q17 _ _ ds4
    refine ⟨_, rfl, a, C, _, _, _, b 10, rfl, hh17, .own _, kd.f10, (by show 2 ≤ sizeLine; decide), fun t10 h10 => ?_⟩
    have q18 := same_upd (o := HO.tup [V.str "NoText", .bl (b 10)]) h10
    have d10 : Dp K (upd H17 t10 (HO.tup [V.str "NoText", .bl (b 10)])) (.ref t10) (encSB ("NoText", b 10)) := .tup (SqT.of upd_same) (.cons (.str _) (.cons (.bl _) .nil))
    have S18 := S17.trans q18
    have hh18 := hh17.same q18
    generalize upd H17 t10 (HO.tup [V.str "NoText", .bl (b 10)]) = H18 at S18 hh18 d10 q18 ⊢
    have d9 := dp_mono q18 _ _ d9
    have g4 := q18 _ _ g4
    have ds4 := dpAll_mono q18 _ _ ds4
    refine ⟨(by show 2 ≤ sizeLine; decide), fun l4 hl4 => ?_⟩
    have q19 := same_upd (o := HO.lst [V.ref t9, V.ref t10]) hl4
    have gl4 : (upd H18 l4 (HO.lst [V.ref t9, V.ref t10])) l4 = some (.lst [V.ref t9, V.ref t10]) := upd_same
    have S19 := S18.trans q19
    have hh19 := hh18.same q19
    have dl4 : DpAll K (upd H18 l4 (HO.lst [V.ref t9, V.ref t10])) [V.ref t9, V.ref t10] [encSB ("NoBottom", b 9), encSB ("NoText", b 10)] := .cons (dp_mono q19 _ _ d9) (.cons (dp_mono q19 _ _ d10) (.nil))
    have g4 := q19 _ _ g4
    have ds4 := dpAll_mono q19 _ _ ds4
    generalize upd H18 l4 (HO.lst [V.ref t9, V.ref t10]) = H19 at S19 hh19 gl4 dl4 q19 g4 ds4 ⊢
    refine ⟨c3, l4, x4, _, rfl, rfl, g4, gl4, Nat.le_trans (by rw [xl4]; simp : _ ≤ 100) (by decide), fun c4 hc4 => ?_⟩
    have q20 := same_upd (o := HO.lst (x4 ++ [V.ref t9, V.ref t10])) hc4
    have g5 : (upd H19 c4 (HO.lst (x4 ++ [V.ref t9, V.ref t10]))) c4 = some (.lst (x4 ++ [V.ref t9, V.ref t10])) := upd_same
    have S20 := S19.trans q20
    have hh20 := hh19.same q20
    have ds5 := dpAll_mono q20 _ _ (dpAll_cat ds4 dl4)
    generalize upd H19 c4 (HO.lst (x4 ++ [V.ref t9, V.ref t10])) = H20 at S20 hh20 g5 ds5 q20 ⊢
    obtain ⟨x5, ex5⟩ : ∃ x, x = x4 ++ [V.ref t9, V.ref t10] := ⟨_, rfl⟩
    rw [← ex5] at g5 ds5
    have xl5 : x5.length = 11 := by rw [ex5, List.length_append, xl4]; rfl
    have ds : DpAll K H20 x5 ((kinds b).map encSB) := ds5
    refine ⟨_, rfl, c4, rfl, ⟨_, SqL.of g5⟩, fun D hD => ?_⟩
    refine lc_list (K := K) (a := c4) (xs := x5) (fun i' H' => Same H20 H' ∧ ∃ ys, H' D = some (.lst ys) ∧ ys.length ≤ i' ∧ DpAll K H' ys (((((kinds b).take i').filter fun p => p.2).map Prod.fst).map .str)) ⟨same_upd hD, [], upd_same, Nat.le_refl _, .nil⟩ (fun i' H' _ ⟨S, _⟩ => SqL.of (S _ _ g5)) ?_ ?_
    · rintro i' y H' hi' ⟨S, ys, gD, hyl, hyd⟩
      have hi11 : i' < 11 := by
        have := (List.getElem?_eq_some_iff.mp hi').1
        omega
      obtain ⟨e, hdi, hdy⟩ := dpAll_get ds hi'
      obtain ⟨pr, hpr, rfl⟩ := map_at hdi
      obtain ⟨p', rfl, hp'⟩ := dp_sb (dp_mono S _ _ hdy)
      refine ⟨_, _, rfl, hp', rfl, _, _, rfl, _, _, rfl, rfl, rfl, _, rfl, _, rfl, ?_⟩
      rw [take_snoc hpr, List.filter_append, List.map_append, List.map_append]
      cases eb : pr.2 with
      | true =>
        refine iteT ⟨_, rfl, ys, gD, Nat.lt_of_le_of_lt (by omega : ys.length ≤ 11) (by decide), same_set S hD, _, upd_same, by simp; omega, ?_⟩
        have e2 : [pr].filter (fun p => p.2) = [pr] := by simp [eb]
        rw [e2]
        exact dpAll_snoc (dpAll_tups (Tups.upd_lst gD) _ _ (noLs_map (fun _ => rfl) _) hyd) (.str _)
      | false =>
        refine iteF ⟨S, ys, gD, by omega, ?_⟩
        have e2 : [pr].filter (fun p => p.2) = [] := by simp [eb]
        rw [e2]
        simpa using hyd
    rintro H' ⟨S, ys, gD, hyl, hyd⟩
    rw [List.take_of_length_le (by rw [xl5]; simp [kinds])] at hyd
    have hhC := hh20.same S
    refine ⟨_, rfl, a, C, _, _, rfl, hhC, kd.x.what, rfl, _, rfl, a, C, _, _, _, true, rfl, hhC, .ty _, kd.kv, (by show 2 ≤ sizeLine; decide), fun q hq => ?_⟩
    have Sq := same_upd (o := HO.lst [u, V.bl true]) hq
    refine ⟨D, q, ys, [u, V.bl true], rfl, rfl, Sq _ _ gD, upd_same, Nat.le_trans (by simp; omega : ys.length + [u, V.bl true].length ≤ 100) (by decide), fun p hp => ?_⟩
    have Sp := same_upd (o := HO.lst (ys ++ [u, V.bl true])) hp
    have SA := ((S20.trans S).trans Sq).trans Sp
    refine k _ p _ (((S20.trans S).trans Sq).free hp) SA upd_same (dpAll_cat ?_ (.cons (dp_mono SA _ _ hu) (.cons (.bl true) .nil)))
    exact dpAll_mono Sp _ _ (dpAll_mono Sq _ _ hyd)
end
end KA
namespace KA
open PySem PySem.Spec PyProof.Rows L2 DP
/-! ### an error that is kept, told by its classes -/
def spKindC (K : PySem.W.Frag) (Y : AdX) : Sp := fun vs H Q _ => ∃ (a C : Addr) (b : Nat → Bool) (u : V) (du : PyData), vs = [.ref a] ∧ EK.Held K H a C [(("what" : Str), u)] ∧ KdA K Y C b ∧ Dp K H u du ∧
  ∀ H' p ys, H p = none → Same H H' → H' p = some (.lst ys) → DpAll K H' ys ((names b).map .str ++ [du, .bool true]) → Q (.ref p) H'
section
variable {P : Program} {w : World} {K : PySem.W.Frag} {mg : Str → Option Value} {base : Heap} {Z : Ad} {Y : AdX}
theorem ok_law_kind (T : Tx K w mg Z) (X : Ex P K mg Y) : FnOk P w K mg base CX0 2 Z.a_law_kind Z.d_law_kind P_law_kind (spKindC K Y) := by
  refine T.F_law_kind.ok sclaw_kind (fun vs H Q E h => ?_) (fun cdv A outer s H vs Q E hr h => ?_)
  · obtain ⟨a, C, b, u, du, rfl, _⟩ := h
    rfl
  · obtain ⟨a, C, b, u, du, rfl, hh, kd, hu, k⟩ := h
    refine ⟨_, (pss_cons (ps_set (i := 1) sclaw_kind.nd rfl (Or.inl rfl) (pe_lst (pa_cons (pe_tup (pa_cons pe_str (pa_cons (pe_callB (EK.call_isiE (K := K)) (by rfl) T.b_isinstance (by decide +kernel) (pa_cons (pv 0) (pa_cons (pe_glob (v := .ref Y.c_NoLength) rfl X.g_NoLength rfl) pa_nil))) pa_nil))) (pa_cons (pe_tup (pa_cons pe_str (pa_cons (pe_callB (EK.call_isiE (K := K)) (by rfl) T.b_isinstance (by decide +kernel) (pa_cons (pv 0) (pa_cons (pe_glob (v := .ref Y.c_NoWord) rfl X.g_NoWord rfl) pa_nil))) pa_nil))) (pa_cons (pe_tup (pa_cons pe_str (pa_cons (pe_callB (EK.call_isiE (K := K)) (by rfl) T.b_isinstance (by decide +kernel) (pa_cons (pv 0) (pa_cons (pe_glob (v := .ref Y.c_Clash) rfl X.g_Clash rfl) pa_nil))) pa_nil))) pa_nil)))))
      (pss_cons (ps_set (i := 1) sclaw_kind.nd rfl (Or.inl rfl) (pe_op op_cat (pv 1) (pe_lst (pa_cons (pe_tup (pa_cons pe_str (pa_cons (pe_callB (EK.call_isiE (K := K)) (by rfl) T.b_isinstance (by decide +kernel) (pa_cons (pv 0) (pa_cons (pe_glob (v := .ref Y.c_NoLook) rfl X.g_NoLook rfl) pa_nil))) pa_nil))) (pa_cons (pe_tup (pa_cons pe_str (pa_cons (pe_callB (EK.call_isiE (K := K)) (by rfl) T.b_isinstance (by decide +kernel) (pa_cons (pv 0) (pa_cons (pe_glob (v := .ref Y.c_NoRound) rfl X.g_NoRound rfl) pa_nil))) pa_nil))) pa_nil)))))
      (pss_cons (ps_set (i := 1) sclaw_kind.nd rfl (Or.inl rfl) (pe_op op_cat (pv 1) (pe_lst (pa_cons (pe_tup (pa_cons pe_str (pa_cons (pe_callB (EK.call_isiE (K := K)) (by rfl) T.b_isinstance (by decide +kernel) (pa_cons (pv 0) (pa_cons (pe_glob (v := .ref Y.c_NoUses) rfl X.g_NoUses rfl) pa_nil))) pa_nil))) (pa_cons (pe_tup (pa_cons pe_str (pa_cons (pe_callB (EK.call_isiE (K := K)) (by rfl) T.b_isinstance (by decide +kernel) (pa_cons (pv 0) (pa_cons (pe_glob (v := .ref Y.c_NoSide) rfl X.g_NoSide rfl) pa_nil))) pa_nil))) pa_nil)))))
      (pss_cons (ps_set (i := 1) sclaw_kind.nd rfl (Or.inl rfl) (pe_op op_cat (pv 1) (pe_lst (pa_cons (pe_tup (pa_cons pe_str (pa_cons (pe_callB (EK.call_isiE (K := K)) (by rfl) T.b_isinstance (by decide +kernel) (pa_cons (pv 0) (pa_cons (pe_glob (v := .ref Y.c_NoRing) rfl X.g_NoRing rfl) pa_nil))) pa_nil))) (pa_cons (pe_tup (pa_cons pe_str (pa_cons (pe_callB (EK.call_isiE (K := K)) (by rfl) T.b_isinstance (by decide +kernel) (pa_cons (pv 0) (pa_cons (pe_glob (v := .ref Y.c_NoSteps) rfl X.g_NoSteps rfl) pa_nil))) pa_nil))) pa_nil)))))
      (pss_cons (ps_set (i := 1) sclaw_kind.nd rfl (Or.inl rfl) (pe_op op_cat (pv 1) (pe_lst (pa_cons (pe_tup (pa_cons pe_str (pa_cons (pe_callB (EK.call_isiE (K := K)) (by rfl) T.b_isinstance (by decide +kernel) (pa_cons (pv 0) (pa_cons (pe_glob (v := .ref Y.c_NoBottom) rfl X.g_NoBottom rfl) pa_nil))) pa_nil))) (pa_cons (pe_tup (pa_cons pe_str (pa_cons (pe_callB (EK.call_isiE (K := K)) (by rfl) T.b_isinstance (by decide +kernel) (pa_cons (pv 0) (pa_cons (pe_glob (v := .ref Y.c_NoText) rfl X.g_NoText rfl) pa_nil))) pa_nil))) pa_nil)))))
      (pss_one (ps_ret (pe_op op_cat (pe_lc (own := [("word", 2), ("so", 3)]) (g := gTup K 2 (gCons (gName 2) (gCons (gName 3) gNil))) (tt := _) rfl sclaw_kind.nd (pi_list (pv 1)) (blkOk_by (own := [("word", 2), ("so", 3)]) (N := N_law_kind) (sc := defScope slaw_kind) (by decide +kernel)) (fun _ _ _ _ _ => (tupK (K := K) (by rfl) (pgs_cons (pg_name (i := 2) sclaw_kind.nd rfl (Or.inl rfl)) (pgs_cons (pg_name (i := 3) sclaw_kind.nd rfl (Or.inl rfl)) pgs_nil)))) (fun _ _ _ _ _ => (pts_one (pt_val (pv 3)))) (fun _ _ _ _ _ => (pv 2))) (pe_lst (pa_cons (EK.pe_exf (K := K) (pv 0)) (pa_cons (pe_callB (EK.call_isiE (K := K)) (by rfl) T.b_isinstance (by decide +kernel) (pa_cons (pv 0) (pa_cons (pe_bltn (v := .ty "ValueError") (by rfl) T.b_ValueError (by decide +kernel) rfl) pa_nil))) pa_nil))))))))))), ?_⟩
    have S0 : Same H H := fun _ _ e => e
    have hh0 := hh
    refine ⟨_, rfl, a, C, _, _, _, b 0, rfl, hh0, .own _, kd.f0, (by show 2 ≤ sizeLine; decide), fun t0 h0 => ?_⟩
    have q1 := same_upd (o := HO.tup [V.str "NoLength", .bl (b 0)]) h0
    have d0 : Dp K (upd H t0 (HO.tup [V.str "NoLength", .bl (b 0)])) (.ref t0) (encSB ("NoLength", b 0)) := .tup (SqT.of upd_same) (.cons (.str _) (.cons (.bl _) .nil))
    have S1 := S0.trans q1
    have hh1 := hh0.same q1
    generalize upd H t0 (HO.tup [V.str "NoLength", .bl (b 0)]) = H1 at S1 hh1 d0 q1 ⊢
    refine ⟨_, rfl, a, C, _, _, _, b 1, rfl, hh1, .own _, kd.f1, (by show 2 ≤ sizeLine; decide), fun t1 h1 => ?_⟩
    have q2 := same_upd (o := HO.tup [V.str "NoWord", .bl (b 1)]) h1
    have d1 : Dp K (upd H1 t1 (HO.tup [V.str "NoWord", .bl (b 1)])) (.ref t1) (encSB ("NoWord", b 1)) := .tup (SqT.of upd_same) (.cons (.str _) (.cons (.bl _) .nil))
    have S2 := S1.trans q2
    have hh2 := hh1.same q2
    generalize upd H1 t1 (HO.tup [V.str "NoWord", .bl (b 1)]) = H2 at S2 hh2 d1 q2 ⊢
    have d0 := dp_mono q2 _ _ d0
    refine ⟨_, rfl, a, C, _, _, _, b 2, rfl, hh2, .own _, kd.f2, (by show 2 ≤ sizeLine; decide), fun t2 h2 => ?_⟩
    have q3 := same_upd (o := HO.tup [V.str "Clash", .bl (b 2)]) h2
    have d2 : Dp K (upd H2 t2 (HO.tup [V.str "Clash", .bl (b 2)])) (.ref t2) (encSB ("Clash", b 2)) := .tup (SqT.of upd_same) (.cons (.str _) (.cons (.bl _) .nil))
    have S3 := S2.trans q3
    have hh3 := hh2.same q3
    generalize upd H2 t2 (HO.tup [V.str "Clash", .bl (b 2)]) = H3 at S3 hh3 d2 q3 ⊢
    have d0 := dp_mono q3 _ _ d0
    have d1 := dp_mono q3 _ _ d1
    refine ⟨(by show 3 ≤ sizeLine; decide), fun l0 hl0 => ?_⟩
    have q4 := same_upd (o := HO.lst [V.ref t0, V.ref t1, V.ref t2]) hl0
    have gl0 : (upd H3 l0 (HO.lst [V.ref t0, V.ref t1, V.ref t2])) l0 = some (.lst [V.ref t0, V.ref t1, V.ref t2]) := upd_same
    have S4 := S3.trans q4
    have hh4 := hh3.same q4
    have dl0 : DpAll K (upd H3 l0 (HO.lst [V.ref t0, V.ref t1, V.ref t2])) [V.ref t0, V.ref t1, V.ref t2] [encSB ("NoLength", b 0), encSB ("NoWord", b 1), encSB ("Clash", b 2)] := .cons (dp_mono q4 _ _ d0) (.cons (dp_mono q4 _ _ d1) (.cons (dp_mono q4 _ _ d2) (.nil)))
    generalize upd H3 l0 (HO.lst [V.ref t0, V.ref t1, V.ref t2]) = H4 at S4 hh4 gl0 dl0 q4 ⊢
    obtain ⟨x1, ex1⟩ : ∃ x, x = [V.ref t0, V.ref t1, V.ref t2] := ⟨_, rfl⟩
    rw [← ex1] at gl0 dl0
    have g1 := gl0
    have ds1 := dl0
    have xl1 : x1.length = 3 := by rw [ex1]; rfl
    refine ⟨_, rfl, _, rfl, a, C, _, _, _, b 3, rfl, hh4, .own _, kd.f3, (by show 2 ≤ sizeLine; decide), fun t3 h3 => ?_⟩
    have q5 := same_upd (o := HO.tup [V.str "NoLook", .bl (b 3)]) h3
    have d3 : Dp K (upd H4 t3 (HO.tup [V.str "NoLook", .bl (b 3)])) (.ref t3) (encSB ("NoLook", b 3)) := .tup (SqT.of upd_same) (.cons (.str _) (.cons (.bl _) .nil))
    have S5 := S4.trans q5
    have hh5 := hh4.same q5
    generalize upd H4 t3 (HO.tup [V.str "NoLook", .bl (b 3)]) = H5 at S5 hh5 d3 q5 ⊢
    have g1 := q5 _ _ g1
    have ds1 := dpAll_mono q5 _ _ ds1
    refine ⟨_, rfl, a, C, _, _, _, b 4, rfl, hh5, .own _, kd.f4, (by show 2 ≤ sizeLine; decide), fun t4 h4 => ?_⟩
    have q6 := same_upd (o := HO.tup [V.str "NoRound", .bl (b 4)]) h4
    have d4 : Dp K (upd H5 t4 (HO.tup [V.str "NoRound", .bl (b 4)])) (.ref t4) (encSB ("NoRound", b 4)) := .tup (SqT.of upd_same) (.cons (.str _) (.cons (.bl _) .nil))
    have S6 := S5.trans q6
    have hh6 := hh5.same q6
    generalize upd H5 t4 (HO.tup [V.str "NoRound", .bl (b 4)]) = H6 at S6 hh6 d4 q6 ⊢
    have d3 := dp_mono q6 _ _ d3
    have g1 := q6 _ _ g1
    have ds1 := dpAll_mono q6 _ _ ds1
    refine ⟨(by show 2 ≤ sizeLine; decide), fun l1 hl1 => ?_⟩
    have q7 := same_upd (o := HO.lst [V.ref t3, V.ref t4]) hl1
    have gl1 : (upd H6 l1 (HO.lst [V.ref t3, V.ref t4])) l1 = some (.lst [V.ref t3, V.ref t4]) := upd_same
    have S7 := S6.trans q7
    have hh7 := hh6.same q7
    have dl1 : DpAll K (upd H6 l1 (HO.lst [V.ref t3, V.ref t4])) [V.ref t3, V.ref t4] [encSB ("NoLook", b 3), encSB ("NoRound", b 4)] := .cons (dp_mono q7 _ _ d3) (.cons (dp_mono q7 _ _ d4) (.nil))
    have g1 := q7 _ _ g1
    have ds1 := dpAll_mono q7 _ _ ds1
    generalize upd H6 l1 (HO.lst [V.ref t3, V.ref t4]) = H7 at S7 hh7 gl1 dl1 q7 g1 ds1 ⊢
    refine ⟨l0, l1, x1, _, rfl, rfl, g1, gl1, Nat.le_trans (by rw [xl1]; simp : _ ≤ 100) (by decide), fun c1 hc1 => ?_⟩
    have q8 := same_upd (o := HO.lst (x1 ++ [V.ref t3, V.ref t4])) hc1
    have g2 : (upd H7 c1 (HO.lst (x1 ++ [V.ref t3, V.ref t4]))) c1 = some (.lst (x1 ++ [V.ref t3, V.ref t4])) := upd_same
    have S8 := S7.trans q8
    have hh8 := hh7.same q8
    have ds2 := dpAll_mono q8 _ _ (dpAll_cat ds1 dl1)
    generalize upd H7 c1 (HO.lst (x1 ++ [V.ref t3, V.ref t4])) = H8 at S8 hh8 g2 ds2 q8 ⊢
    obtain ⟨x2, ex2⟩ : ∃ x, x = x1 ++ [V.ref t3, V.ref t4] := ⟨_, rfl⟩
    rw [← ex2] at g2 ds2
    have xl2 : x2.length = 5 := by rw [ex2, List.length_append, xl1]; rfl
    refine ⟨_, rfl, _, rfl, a, C, _, _, _, b 5, rfl, hh8, .own _, kd.f5, (by show 2 ≤ sizeLine; decide), fun t5 h5 => ?_⟩
    have q9 := same_upd (o := HO.tup [V.str "NoUses", .bl (b 5)]) h5
    have d5 : Dp K (upd H8 t5 (HO.tup [V.str "NoUses", .bl (b 5)])) (.ref t5) (encSB ("NoUses", b 5)) := .tup (SqT.of upd_same) (.cons (.str _) (.cons (.bl _) .nil))
    have S9 := S8.trans q9
    have hh9 := hh8.same q9
    generalize upd H8 t5 (HO.tup [V.str "NoUses", .bl (b 5)]) = H9 at S9 hh9 d5 q9 ⊢
    have g2 := q9 _ _ g2
    have ds2 := dpAll_mono q9 _ _ ds2
    refine ⟨_, rfl, a, C, _, _, _, b 6, rfl, hh9, .own _, kd.f6, (by show 2 ≤ sizeLine; decide), fun t6 h6 => ?_⟩
    have q10 := same_upd (o := HO.tup [V.str "NoSide", .bl (b 6)]) h6
    have d6 : Dp K (upd H9 t6 (HO.tup [V.str "NoSide", .bl (b 6)])) (.ref t6) (encSB ("NoSide", b 6)) := .tup (SqT.of upd_same) (.cons (.str _) (.cons (.bl _) .nil))
    have S10 := S9.trans q10
    have hh10 := hh9.same q10
    generalize upd H9 t6 (HO.tup [V.str "NoSide", .bl (b 6)]) = H10 at S10 hh10 d6 q10 ⊢
    have d5 := dp_mono q10 _ _ d5
    have g2 := q10 _ _ g2
    have ds2 := dpAll_mono q10 _ _ ds2
    refine ⟨(by show 2 ≤ sizeLine; decide), fun l2 hl2 => ?_⟩
    have q11 := same_upd (o := HO.lst [V.ref t5, V.ref t6]) hl2
    have gl2 : (upd H10 l2 (HO.lst [V.ref t5, V.ref t6])) l2 = some (.lst [V.ref t5, V.ref t6]) := upd_same
    have S11 := S10.trans q11
    have hh11 := hh10.same q11
    have dl2 : DpAll K (upd H10 l2 (HO.lst [V.ref t5, V.ref t6])) [V.ref t5, V.ref t6] [encSB ("NoUses", b 5), encSB ("NoSide", b 6)] := .cons (dp_mono q11 _ _ d5) (.cons (dp_mono q11 _ _ d6) (.nil))
    have g2 := q11 _ _ g2
    have ds2 := dpAll_mono q11 _ _ ds2
    generalize upd H10 l2 (HO.lst [V.ref t5, V.ref t6]) = H11 at S11 hh11 gl2 dl2 q11 g2 ds2 ⊢
    refine ⟨c1, l2, x2, _, rfl, rfl, g2, gl2, Nat.le_trans (by rw [xl2]; simp : _ ≤ 100) (by decide), fun c2 hc2 => ?_⟩
    have q12 := same_upd (o := HO.lst (x2 ++ [V.ref t5, V.ref t6])) hc2
    have g3 : (upd H11 c2 (HO.lst (x2 ++ [V.ref t5, V.ref t6]))) c2 = some (.lst (x2 ++ [V.ref t5, V.ref t6])) := upd_same
    have S12 := S11.trans q12
    have hh12 := hh11.same q12
    have ds3 := dpAll_mono q12 _ _ (dpAll_cat ds2 dl2)
    generalize upd H11 c2 (HO.lst (x2 ++ [V.ref t5, V.ref t6])) = H12 at S12 hh12 g3 ds3 q12 ⊢
    obtain ⟨x3, ex3⟩ : ∃ x, x = x2 ++ [V.ref t5, V.ref t6] := ⟨_, rfl⟩
    rw [← ex3] at g3 ds3
    have xl3 : x3.length = 7 := by rw [ex3, List.length_append, xl2]; rfl
    refine ⟨_, rfl, _, rfl, a, C, _, _, _, b 7, rfl, hh12, .own _, kd.f7, (by show 2 ≤ sizeLine; decide), fun t7 h7 => ?_⟩
    have q13 := same_upd (o := HO.tup [V.str "NoRing", .bl (b 7)]) h7
    have d7 : Dp K (upd H12 t7 (HO.tup [V.str "NoRing", .bl (b 7)])) (.ref t7) (encSB ("NoRing", b 7)) := .tup (SqT.of upd_same) (.cons (.str _) (.cons (.bl _) .nil))
    have S13 := S12.trans q13
    have hh13 := hh12.same q13
    generalize upd H12 t7 (HO.tup [V.str "NoRing", .bl (b 7)]) = H13 at S13 hh13 d7 q13 ⊢
    have g3 := q13 _ _ g3
    have ds3 := dpAll_mono q13 _ _ ds3
    refine ⟨_, rfl, a, C, _, _, _, b 8, rfl, hh13, .own _, kd.f8, (by show 2 ≤ sizeLine; decide), fun t8 h8 => ?_⟩
    have q14 := same_upd (o := HO.tup [V.str "NoSteps", .bl (b 8)]) h8
    have d8 : Dp K (upd H13 t8 (HO.tup [V.str "NoSteps", .bl (b 8)])) (.ref t8) (encSB ("NoSteps", b 8)) := .tup (SqT.of upd_same) (.cons (.str _) (.cons (.bl _) .nil))
    have S14 := S13.trans q14
    have hh14 := hh13.same q14
    generalize upd H13 t8 (HO.tup [V.str "NoSteps", .bl (b 8)]) = H14 at S14 hh14 d8 q14 ⊢
    have d7 := dp_mono q14 _ _ d7
    have g3 := q14 _ _ g3
    have ds3 := dpAll_mono q14 _ _ ds3
    refine ⟨(by show 2 ≤ sizeLine; decide), fun l3 hl3 => ?_⟩
    have q15 := same_upd (o := HO.lst [V.ref t7, V.ref t8]) hl3
    have gl3 : (upd H14 l3 (HO.lst [V.ref t7, V.ref t8])) l3 = some (.lst [V.ref t7, V.ref t8]) := upd_same
    have S15 := S14.trans q15
    have hh15 := hh14.same q15
    have dl3 : DpAll K (upd H14 l3 (HO.lst [V.ref t7, V.ref t8])) [V.ref t7, V.ref t8] [encSB ("NoRing", b 7), encSB ("NoSteps", b 8)] := .cons (dp_mono q15 _ _ d7) (.cons (dp_mono q15 _ _ d8) (.nil))
    have g3 := q15 _ _ g3
    have ds3 := dpAll_mono q15 _ _ ds3
    generalize upd H14 l3 (HO.lst [V.ref t7, V.ref t8]) = H15 at S15 hh15 gl3 dl3 q15 g3 ds3 ⊢
    refine ⟨c2, l3, x3, _, rfl, rfl, g3, gl3, Nat.le_trans (by rw [xl3]; simp : _ ≤ 100) (by decide), fun c3 hc3 => ?_⟩
    have q16 := same_upd (o := HO.lst (x3 ++ [V.ref t7, V.ref t8])) hc3
    have g4 : (upd H15 c3 (HO.lst (x3 ++ [V.ref t7, V.ref t8]))) c3 = some (.lst (x3 ++ [V.ref t7, V.ref t8])) := upd_same
    have S16 := S15.trans q16
    have hh16 := hh15.same q16
    have ds4 := dpAll_mono q16 _ _ (dpAll_cat ds3 dl3)
    generalize upd H15 c3 (HO.lst (x3 ++ [V.ref t7, V.ref t8])) = H16 at S16 hh16 g4 ds4 q16 ⊢
    obtain ⟨x4, ex4⟩ : ∃ x, x = x3 ++ [V.ref t7, V.ref t8] := ⟨_, rfl⟩
    rw [← ex4] at g4 ds4
    have xl4 : x4.length = 9 := by rw [ex4, List.length_append, xl3]; rfl
    refine ⟨_, rfl, _, rfl, a, C, _, _, _, b 9, rfl, hh16, .own _, kd.f9, (by show 2 ≤ sizeLine; decide), fun t9 h9 => ?_⟩
    have q17 := same_upd (o := HO.tup [V.str "NoBottom", .bl (b 9)]) h9
    have d9 : Dp K (upd H16 t9 (HO.tup [V.str "NoBottom", .bl (b 9)])) (.ref t9) (encSB ("NoBottom", b 9)) := .tup (SqT.of upd_same) (.cons (.str _) (.cons (.bl _) .nil))
    have S17 := S16.trans q17
    have hh17 := hh16.same q17
    generalize upd H16 t9 (HO.tup [V.str "NoBottom", .bl (b 9)]) = H17 at S17 hh17 d9 q17 ⊢
    have g4 := q17 _ _ g4
    have ds4 := dpAll_mono q17 _ _ ds4
    refine ⟨_, rfl, a, C, _, _, _, b 10, rfl, hh17, .own _, kd.f10, (by show 2 ≤ sizeLine; decide), fun t10 h10 => ?_⟩
    have q18 := same_upd (o := HO.tup [V.str "NoText", .bl (b 10)]) h10
    have d10 : Dp K (upd H17 t10 (HO.tup [V.str "NoText", .bl (b 10)])) (.ref t10) (encSB ("NoText", b 10)) := .tup (SqT.of upd_same) (.cons (.str _) (.cons (.bl _) .nil))
    have S18 := S17.trans q18
    have hh18 := hh17.same q18
    generalize upd H17 t10 (HO.tup [V.str "NoText", .bl (b 10)]) = H18 at S18 hh18 d10 q18 ⊢
    have d9 := dp_mono q18 _ _ d9
    have g4 := q18 _ _ g4
    have ds4 := dpAll_mono q18 _ _ ds4
    refine ⟨(by show 2 ≤ sizeLine; decide), fun l4 hl4 => ?_⟩
    have q19 := same_upd (o := HO.lst [V.ref t9, V.ref t10]) hl4
    have gl4 : (upd H18 l4 (HO.lst [V.ref t9, V.ref t10])) l4 = some (.lst [V.ref t9, V.ref t10]) := upd_same
    have S19 := S18.trans q19
    have hh19 := hh18.same q19
    have dl4 : DpAll K (upd H18 l4 (HO.lst [V.ref t9, V.ref t10])) [V.ref t9, V.ref t10] [encSB ("NoBottom", b 9), encSB ("NoText", b 10)] := .cons (dp_mono q19 _ _ d9) (.cons (dp_mono q19 _ _ d10) (.nil))
    have g4 := q19 _ _ g4
    have ds4 := dpAll_mono q19 _ _ ds4
    generalize upd H18 l4 (HO.lst [V.ref t9, V.ref t10]) = H19 at S19 hh19 gl4 dl4 q19 g4 ds4 ⊢
    refine ⟨c3, l4, x4, _, rfl, rfl, g4, gl4, Nat.le_trans (by rw [xl4]; simp : _ ≤ 100) (by decide), fun c4 hc4 => ?_⟩
    have q20 := same_upd (o := HO.lst (x4 ++ [V.ref t9, V.ref t10])) hc4
    have g5 : (upd H19 c4 (HO.lst (x4 ++ [V.ref t9, V.ref t10]))) c4 = some (.lst (x4 ++ [V.ref t9, V.ref t10])) := upd_same
    have S20 := S19.trans q20
    have hh20 := hh19.same q20
    have ds5 := dpAll_mono q20 _ _ (dpAll_cat ds4 dl4)
    generalize upd H19 c4 (HO.lst (x4 ++ [V.ref t9, V.ref t10])) = H20 at S20 hh20 g5 ds5 q20 ⊢
    obtain ⟨x5, ex5⟩ : ∃ x, x = x4 ++ [V.ref t9, V.ref t10] := ⟨_, rfl⟩
    rw [← ex5] at g5 ds5
    have xl5 : x5.length = 11 := by rw [ex5, List.length_append, xl4]; rfl
    have ds : DpAll K H20 x5 ((kinds b).map encSB) := ds5
    refine ⟨_, rfl, c4, rfl, ⟨_, SqL.of g5⟩, fun D hD => ?_⟩
    refine lc_list (K := K) (a := c4) (xs := x5) (fun i' H' => Same H20 H' ∧ ∃ ys, H' D = some (.lst ys) ∧ ys.length ≤ i' ∧ DpAll K H' ys (((((kinds b).take i').filter fun p => p.2).map Prod.fst).map .str)) ⟨same_upd hD, [], upd_same, Nat.le_refl _, .nil⟩ (fun i' H' _ ⟨S, _⟩ => SqL.of (S _ _ g5)) ?_ ?_
    · rintro i' y H' hi' ⟨S, ys, gD, hyl, hyd⟩
      have hi11 : i' < 11 := by
        have := (List.getElem?_eq_some_iff.mp hi').1
        omega
      obtain ⟨e, hdi, hdy⟩ := dpAll_get ds hi'
      obtain ⟨pr, hpr, rfl⟩ := map_at hdi
      obtain ⟨p', rfl, hp'⟩ := dp_sb (dp_mono S _ _ hdy)
      refine ⟨_, _, rfl, hp', rfl, _, _, rfl, _, _, rfl, rfl, rfl, _, rfl, _, rfl, ?_⟩
      rw [take_snoc hpr, List.filter_append, List.map_append, List.map_append]
      cases eb : pr.2 with
      | true =>
        refine iteT ⟨_, rfl, ys, gD, Nat.lt_of_le_of_lt (by omega : ys.length ≤ 11) (by decide), same_set S hD, _, upd_same, by simp; omega, ?_⟩
        have e2 : [pr].filter (fun p => p.2) = [pr] := by simp [eb]
        rw [e2]
        exact dpAll_snoc (dpAll_tups (Tups.upd_lst gD) _ _ (noLs_map (fun _ => rfl) _) hyd) (.str _)
      | false =>
        refine iteF ⟨S, ys, gD, by omega, ?_⟩
        have e2 : [pr].filter (fun p => p.2) = [] := by simp [eb]
        rw [e2]
        simpa using hyd
    rintro H' ⟨S, ys, gD, hyl, hyd⟩
    rw [List.take_of_length_le (by rw [xl5]; simp [kinds])] at hyd
    have hhC := hh20.same S
    refine ⟨_, rfl, a, C, _, _, rfl, hhC, kd.x.what, rfl, _, rfl, a, C, _, _, _, true, rfl, hhC, .ty _, kd.kv, (by show 2 ≤ sizeLine; decide), fun q hq => ?_⟩
    have Sq := same_upd (o := HO.lst [u, V.bl true]) hq
    refine ⟨D, q, ys, [u, V.bl true], rfl, rfl, Sq _ _ gD, upd_same, Nat.le_trans (by simp; omega : ys.length + [u, V.bl true].length ≤ 100) (by decide), fun p hp => ?_⟩
    have Sp := same_upd (o := HO.lst (ys ++ [u, V.bl true])) hp
    have SA := ((S20.trans S).trans Sq).trans Sp
    refine k _ p _ (((S20.trans S).trans Sq).free hp) SA upd_same (dpAll_cat ?_ (.cons (dp_mono SA _ _ hu) (.cons (.bl true) .nil)))
    exact dpAll_mono Sp _ _ (dpAll_mono Sq _ _ hyd)
end
end KA
namespace KA
open PySem PySem.Spec PyProof.Rows L2 DP
theorem home_home {L : Int} (hL : 0 < L) (l : Lk) : home L (home L l) = home L l := by
  have e : (home L l).2.1 / L = 0 := by
    show (l.2.1 - l.2.1 / L * L) / L = 0
    rw [Int.sub_mul_ediv_right _ _ (by omega : L ≠ 0), Int.sub_self]
  show ((home L l).1, (home L l).2.1 - (home L l).2.1 / L * L, (home L l).2.2 - (home L l).2.1 / L * L) = home L l
  rw [e, Int.zero_mul, Int.sub_zero, Int.sub_zero]
def spAnyLook (K : PySem.W.Frag) : Sp := fun vs H Q _ => ∃ (t g : Addr) (n : Nat) (L : Int), vs = [.ref t, .int L] ∧ Tray H t g n ∧ n < 2 ^ 44 ∧ 0 < L ∧ L ≤ 10 ^ 30 ∧ ∀ (H' : Hp) (r : V) (l : Lk), At H H' t g (n + 10) → Dp K H' r (encL l) → WordOk l.1 → Sized 110 l → Q r H'
section
variable {P : Program} {w : World} {K : PySem.W.Frag} {mg : Str → Option Value} {base : Heap} {Z : Ad} {Y : AdX}
theorem ok_law_any_look (T : Tx K w mg Z) : FnOk P w K mg base CX0 2 Z.a_law_any_look Z.d_law_any_look P_law_any_look (spAnyLook K) := by
  refine T.F_law_any_look.ok sclaw_any_look (fun vs H Q E h => ?_) (fun cdv A outer s H vs Q E hr h => ?_)
  · obtain ⟨t, g, n, L, rfl, _⟩ := h
    rfl
  · obtain ⟨t, g, n, L, rfl, hT, hn, hL, hL30, k⟩ := h
    have hLb := bigL hL hL30
    have hb' : ∀ m, m ≤ n + 30 → m < 2 ^ 60 := fun m hm => Nat.lt_of_le_of_lt hm (Nat.lt_of_lt_of_le (Nat.add_lt_add_right hn 30) (by decide))
    have A0 : At H H t g n := ⟨hT, Keep.refl _ _ _⟩
    have b3 : (3 * L).natAbs < 2 ^ 102 := wide_lt (show (3 : Int).natAbs < 2 ^ 2 by decide) hLb
    have b4 : (4 * L).natAbs < 2 ^ 103 := wide_lt (show (4 : Int).natAbs < 2 ^ 3 by decide) hLb
    have b2 : (2 * L).natAbs < 2 ^ 102 := wide_lt (show (2 : Int).natAbs < 2 ^ 2 by decide) hLb
    refine ⟨_, (pss_cons (ps_set (i := 2) sclaw_any_look.nd rfl (Or.inl rfl) (pe_ix (ixL (K := K)) (pe_lst (pa_cons pe_str (pa_cons pe_str (pa_cons pe_str pa_nil)))) (pe_call (ok_law_draw T) (hr.mono (by decide)) (by rfl) T.g_law_draw T.F_law_draw.kp T.bb_law_draw .nil pass0 (pa_cons (pv 0) (pa_cons pe_int pa_nil))) (fun _ _ => rfl)))
      (pss_cons (ps_set (i := 3) sclaw_any_look.nd rfl (Or.inl rfl) (pe_op op_sub (pe_call (ok_law_draw T) (hr.mono (by decide)) (by rfl) T.g_law_draw T.F_law_draw.kp T.bb_law_draw .nil pass0 (pa_cons (pv 0) (pa_cons (pe_op op_mulW pe_int (pv 1)) pa_nil))) (pv 1)))
      (C8.pss_cut (ps_set (i := 4) sclaw_any_look.nd rfl (Or.inl rfl) (pe_ix (ixL (K := K)) (pe_lst (pa_cons pe_int (pa_cons (pe_op op_sub (pe_call (ok_law_draw T) (hr.mono (by decide)) (by rfl) T.g_law_draw T.F_law_draw.kp T.bb_law_draw .nil pass0 (pa_cons (pv 0) (pa_cons pe_int pa_nil))) pe_int) (pa_cons (pe_op op_sub (pe_call (ok_law_draw T) (hr.mono (by decide)) (by rfl) T.g_law_draw T.F_law_draw.kp T.bb_law_draw .nil pass0 (pa_cons (pv 0) (pa_cons (pe_op op_mulW pe_int (pv 1)) pa_nil))) (pe_op op_mulW pe_int (pv 1))) pa_nil)))) (pe_call (ok_law_draw T) (hr.mono (by decide)) (by rfl) T.g_law_draw T.F_law_draw.kp T.bb_law_draw .nil pass0 (pa_cons (pv 0) (pa_cons pe_int pa_nil))) (fun _ _ => rfl)))
      (pss_one (ps_ret (pe_tup (pa_cons (pv 2) (pa_cons (pv 3) (pa_cons (pe_op op_add (pv 3) (pv 4)) pa_nil))))))))), ?_⟩
    refine ⟨(by show 3 ≤ sizeLine; decide), fun q hq => ?_⟩
    obtain ⟨qt, qg⟩ := hT.at_ne hq
    have A1 := A0.new (o := HO.lst [V.str "at", .str "from", .str "upto"]) hq
    refine ⟨_, rfl, t, g, n, 3, rfl, A1.T, by decide, by decide, hb' _ (by omega), fun H2 c c0 c1 T2 k2 => ?_⟩
    have A2 := A1.step T2 k2
    obtain ⟨wd, hw, hwk⟩ : ∃ wd : Str, atI [V.str "at", .str "from", .str "upto"] c = some (.str wd) ∧ WordOk wd := by
      have : c = 0 ∨ c = 1 ∨ c = 2 := by omega
      rcases this with e | e | e <;> subst e
      · exact ⟨"at", rfl, .inl rfl⟩
      · exact ⟨"from", rfl, .inr (.inl rfl)⟩
      · exact ⟨"upto", rfl, .inr (.inr rfl)⟩
    refine ⟨q, _, _, _, rfl, rfl, SqL.of (k2 _ _ upd_same qt qg), hw, ?_⟩
    refine ⟨_, rfl, _, rfl, _, _, rfl, rfl, wide_mul (show (3 : Int).natAbs < 2 ^ 2 by decide) hLb (by decide) (by decide) (by decide), t, g, n + 1, 3 * L, rfl, T2, by omega, lt_up b3 (by decide), hb' _ (by omega), fun H3 s s0 s1 T3 k3 => ?_⟩
    have A3 := A2.step T3 k3
    refine ⟨_, rfl, _, _, rfl, rfl, ?_⟩
    have hsb : (s - L).natAbs < 2 ^ 104 := by
      have e1 : (2 : Nat) ^ 104 = 2 ^ 102 * 4 := by decide
      rw [e1]
      have : (2 : Nat) ^ 100 * 4 = 2 ^ 102 := by decide
      generalize (2 : Nat) ^ 102 = B at b3 this ⊢
      omega
    refine ⟨fun σ' H' => ∃ f : Int, σ' = [some (.ref t), some (.int L), some (.str wd), some (.int (s - L)), some (.int f)] ∧ f.natAbs < 2 ^ 105 ∧ At H H' t g (n + 5), ?_, ?_⟩
    · refine ⟨_, rfl, t, g, n + 2, 3, rfl, A3.T, by decide, by decide, hb' _ (by omega), fun H4 f1 f10 f11 T4 k4 => ?_⟩
      have A4 := A3.step T4 k4
      refine ⟨_, _, rfl, rfl, _, rfl, _, rfl, _, _, rfl, rfl, wide_mul (show (4 : Int).natAbs < 2 ^ 3 by decide) hLb (by decide) (by decide) (by decide), t, g, n + 3, 4 * L, rfl, A4.T, by omega, lt_up b4 (by decide), hb' _ (by omega), fun H5 f2 f20 f21 T5 k5 => ?_⟩
      have A5 := A4.step T5 k5
      refine ⟨_, rfl, _, _, rfl, rfl, wide_mul (show (2 : Int).natAbs < 2 ^ 2 by decide) hLb (by decide) (by decide) (by decide), _, _, rfl, rfl, (by show 3 ≤ sizeLine; decide), fun p hp => ?_⟩
      obtain ⟨pt, pg⟩ := A5.T.at_ne hp
      have A6 := A5.new (o := HO.lst [V.int 0, .int (f1 - 1), .int (f2 - 2 * L)]) hp
      refine ⟨_, rfl, t, g, n + 4, 3, rfl, A6.T, by decide, by decide, hb' _ (by omega), fun H7 e e0 e1 T7 k7 => ?_⟩
      obtain ⟨f, hf, hfb⟩ : ∃ f : Int, atI [V.int 0, .int (f1 - 1), .int (f2 - 2 * L)] e = some (.int f) ∧ f.natAbs < 2 ^ 105 := by
        have : e = 0 ∨ e = 1 ∨ e = 2 := by omega
        rcases this with q | q | q <;> subst q
        · exact ⟨0, rfl, by decide⟩
        · exact ⟨_, rfl, Nat.lt_of_le_of_lt (by omega : (f1 - 1).natAbs ≤ 3) (by decide)⟩
        · exact ⟨_, rfl, lt_up (m := 104) (sub_lt (small_nat f20 (Int.le_of_lt f21) b4) (lt_up b2 (by decide))) (by decide)⟩
      refine ⟨p, _, _, _, rfl, rfl, SqL.of (k7 _ _ upd_same pt pg), hf, ?_⟩
      exact ⟨f, rfl, hfb, A6.step T7 k7⟩
    rintro σ8 H8 ⟨f, rfl, hfb, A8⟩
    refine ⟨_, rfl, _, rfl, _, rfl, _, rfl, _, _, rfl, rfl, (by show 3 ≤ sizeLine; decide), fun p hp => ?_⟩
    exact k _ _ (wd, s - L, s - L + f) ((A8.new hp).up (by omega)) (.tup (SqT.of upd_same) (.cons (.str _) (.cons (.int _) (.cons (.int _) .nil)))) hwk ⟨lt_up hsb (by decide), lt_up (add_lt (lt_up hsb (by decide)) hfb) (by decide)⟩
end
end KA
namespace KA
open PySem PySem.Spec PyProof.Rows L2 DP
/-! ### what is refused -/
theorem no_word {x : Str} (h : ¬ WordOk x) : inV (V.str x) [V.str "at", .str "from", .str "upto"] = false := by
  cases e : inV (V.str x) [V.str "at", .str "from", .str "upto"] with
  | false => rfl
  | true =>
    exfalso
    apply h
    simp [inV] at e
    rcases e with e | e | e
    · exact .inl (beq_iff_eq.mp (show (("at" : Str) == x) = true from e)).symm
    · exact .inr (.inl (beq_iff_eq.mp (show (("from" : Str) == x) = true from e)).symm)
    · exact .inr (.inr (beq_iff_eq.mp (show (("upto" : Str) == x) = true from e)).symm)
/-- raised: an error of this class that holds this -/
def Raises (CL : Addr) (v : V) (H : Hp) (E : XK) : Prop := ∀ (dd : Addr) (H' : Hp), Same H H' → H' dd = some (.xd [(("what" : Str), v)]) → H dd = none → E (.ref CL) (some dd) H'
theorem Raises.same {CL : Addr} {v : V} {H H1 : Hp} {E : XK} (R : Raises CL v H E) (S : Same H H1) : Raises CL v H1 E := fun dd H' S' h n => R dd H' (S.trans S') h (S.free n)
def spWordX (CL : Addr) : Sp := fun vs H Q E => ∃ (d : V) (x : Str), vs = [d, .str x] ∧ ¬ WordOk x ∧ Raises CL (.str x) H E
def spBad (Z : Ad) (K : PySem.W.Frag) (CL : Addr) : Sp := fun vs H Q E => ∃ (d : Addr) (L : Int) (ls : List Lk) (x : Str) (a b : Int), vs = [.ref d, .str x, .int a, .int b] ∧ DarkAt Z K H d L ls ∧ ¬ WordOk x ∧ Raises CL (.str x) H E
def spDropX0 (Z : Ad) (K : PySem.W.Frag) (CL : Addr) : Sp := fun vs H Q E => ∃ (d : Addr) (L : Int) (ls : List Lk) (l : Lk), vs = [.ref d, .str l.1, .int l.2.1, .int l.2.2] ∧ DarkAt Z K H d L ls ∧ WordOk l.1 ∧ Sized 300 l ∧ home L l ∉ ls ∧
  ∀ (dd : Addr) (v : V) (H' : Hp), Same H H' → H' dd = some (.xd [(("what" : Str), v)]) → Dp K H' v (encL (home L l)) → H dd = none → E (.ref CL) (some dd) H'
def spBadDrop (Z : Ad) (K : PySem.W.Frag) (CW CL : Addr) : Sp := fun vs H Q E => spBad Z K CW vs H Q E ∨ spDropX0 Z K CL vs H Q E
def spNoLen (CL : Addr) : Sp := fun vs H Q E => ∃ (d dx : Addr) (L : Int), vs = [.ref d, .int L] ∧ L < 1 ∧ Raises CL (.int L) H E
section
variable {P : Program} {w : World} {K : PySem.W.Frag} {mg : Str → Option Value} {base : Heap} {Z : Ad} {Y : AdX}
theorem okX_Darkcheck_word0 (T : Tx K w mg Z) (X : Ex P K mg Y) : FnOk P w K mg base (L2N.CX P w) 1 Z.a_Darkcheck_word Z.d_Darkcheck_word P_Darkcheck_word (spWordX Y.c_NoWord) := by
  refine KN.okN T.F_Darkcheck_word scDarkcheck_word (fun vs H Q E h => ?_) (fun cdv A outer s H vs Q E hr h => ?_)
  · obtain ⟨d, x, rfl, _⟩ := h
    rfl
  · obtain ⟨d, x, rfl, hx, R⟩ := h
    refine ⟨_, (pss_one (ps_if (pt_cmpR (notInS (K := K)) (pv 1) (pe_glob (v := .ref Z.a_LW) rfl T.g_LOOK_WORDS rfl) (by rfl)) (pss_one (L2N.ps_raise rfl (L2N.takes_of rfl rfl rfl rfl) (KN.pmk_errN X.NoWord X.g_NoWord T.b_super hr (pa_cons (pv 1) pa_nil)))) pss_nil)), ?_⟩
    refine ⟨_, rfl, _, _, rfl, .inr (T.q_LW _), rfl, rfl, _, rfl, ?_⟩
    have e2 : (if true = true then !inV (V.str x) [V.str "at", V.str "from", V.str "upto"] else inV (V.str x) [V.str "at", V.str "from", V.str "upto"]) = true := by rw [if_pos rfl, no_word hx]; rfl
    rw [e2]
    exact iteT ⟨_, rfl, _, rfl, fun dd hdd => R dd _ (same_upd hdd) upd_same hdd⟩
def spWordR (CL : Addr) : Sp := fun vs H Q E => spWordX CL vs H Q E ∨ spWord vs H Q E
theorem okX_Darkcheck_word (T : Tx K w mg Z) (X : Ex P K mg Y) : FnOk P w K mg base (L2N.CX P w) 1 Z.a_Darkcheck_word Z.d_Darkcheck_word P_Darkcheck_word (spWordR Y.c_NoWord) :=
  KW.ok_or (okX_Darkcheck_word0 T X) (KW.ok_may (ok_Darkcheck_word T))
theorem okX_Darkhome0 (T : Tx K w mg Z) (X : Ex P K mg Y) : FnOk P w K mg base (L2N.CX P w) 2 Z.a_Darkhome Z.d_Darkhome P_Darkhome (spBad Z K Y.c_NoWord) := by
  refine KN.okN T.F_Darkhome scDarkhome (fun vs H Q E h => ?_) (fun cdv A outer s H vs Q E hr h => ?_)
  · obtain ⟨d, L, ls, x, a, b, rfl, _⟩ := h
    rfl
  · obtain ⟨d, L, ls, x, a, b, rfl, D, hx, R⟩ := h
    obtain ⟨dx, la, xs, h1, h2, h3⟩ := D.ex
    refine ⟨_, (pss_cons (ps_expr (pe_meth (pv 0) T.cl T.m_Darkcheck_word (okX_Darkcheck_word T X) (hr.mono (by decide)) T.bb_Darkcheck_word .nil (L2N.passes_call (L2N.takes_of rfl rfl rfl rfl) (fun _ _ _ _ h => h)) (pa_cons (pv 1) pa_nil)))
      (pss_cons (ps_set (i := 4) scDarkhome.nd rfl (Or.inl rfl) (pe_op op_fdivW (pv 2) (fldK (K := K) (pv 0) rfl)))
      (pss_one (ps_ret (pe_tup (pa_cons (pv 1) (pa_cons (pe_op op_sub (pv 2) (pe_op op_mulW (pv 4) (fldK (K := K) (pv 0) rfl))) (pa_cons (pe_op op_sub (pv 3) (pe_op op_mulW (pv 4) (fldK (K := K) (pv 0) rfl))) pa_nil)))))))), ?_⟩
    exact ⟨_, rfl, d, dx, _, rfl, h1, df_no _ _ (by decide +kernel) (by decide +kernel), _, rfl, .inl ⟨_, _, rfl, hx, R⟩⟩
def spHomeR (Z : Ad) (K : PySem.W.Frag) (CL : Addr) : Sp := fun vs H Q E => spBad Z K CL vs H Q E ∨ spHome Z K vs H Q E
theorem okX_Darkhome (T : Tx K w mg Z) (X : Ex P K mg Y) : FnOk P w K mg base (L2N.CX P w) 2 Z.a_Darkhome Z.d_Darkhome P_Darkhome (spHomeR Z K Y.c_NoWord) :=
  KW.ok_or (okX_Darkhome0 T X) (KW.ok_may (ok_Darkhome T))
theorem okX_Dark_hear (T : Tx K w mg Z) (X : Ex P K mg Y) : FnOk P w K mg base (L2N.CX P w) 5 Z.a_Dark_hear Z.d_Dark_hear P_Dark_hear (spBad Z K Y.c_NoWord) := by
  refine KN.okN T.F_Dark_hear scDark_hear (fun vs H Q E h => ?_) (fun cdv A outer s H vs Q E hr h => ?_)
  · obtain ⟨d, L, ls, x, a, b, rfl, _⟩ := h
    rfl
  · obtain ⟨d, L, ls, x, a, b, rfl, D, hx, R⟩ := h
    obtain ⟨dx, la, xs, h1, h2, h3⟩ := id D.ex
    refine ⟨_, (pss_cons (ps_set (i := 4) scDark_hear.nd rfl (Or.inl rfl) (pe_meth (pv 0) T.cl T.m_Darkhome (okX_Darkhome T X) (hr.mono (by decide)) T.bb_Darkhome .nil (L2N.passes_call (L2N.takes_of rfl rfl rfl rfl) (fun _ _ _ _ h => h)) (pa_cons (pv 1) (pa_cons (pv 2) (pa_cons (pv 3) pa_nil)))))
      (pss_cons (ps_set (i := 5) scDark_hear.nd rfl (Or.inl rfl) (pe_meth (pv 0) T.cl T.m_Darkclashing (ok_Darkclashing T) (hr.mono (by decide)) T.bb_Darkclashing .nil pass0 (pa_cons (pv 4) pa_nil)))
      (C8.pss_cut (ps_if (pt_cmpR op_notN (pv 5) pe_non (nomark _)) (pss_one (L2N.ps_raise rfl (L2N.takes_of rfl rfl rfl rfl) (KN.pmk_errN X.Clash X.g_Clash T.b_super hr (pa_cons (pe_tup (pa_cons (pv 4) (pa_cons (pv 5) pa_nil))) pa_nil)))) pss_nil)
      (pss_one (ps_if (pt_cmpR (notInDK (K := K) (rooms hr)) (pv 4) (fldK (K := K) (pv 0) rfl) (by rfl)) (pss_one (ps_fld (pv 0) (pe_callB (sortDK (K := K) encL (rooms hr)) (by rfl) T.b_sorted (by decide +kernel) (pa_cons (pe_op op_cat (fldK (K := K) (pv 0) rfl) (pe_lst (pa_cons (pv 4) pa_nil))) pa_nil)) rfl)) pss_nil))))), ?_⟩
    exact ⟨_, rfl, d, dx, _, rfl, h1, df_no _ _ (by decide +kernel) (by decide +kernel), _, rfl, _, rfl, _, rfl, .inl ⟨d, L, ls, x, a, b, rfl, D, hx, R⟩⟩
theorem okX_Dark_may (T : Tx K w mg Z) (X : Ex P K mg Y) : FnOk P w K mg base (L2N.CX P w) 5 Z.a_Dark_may Z.d_Dark_may P_Dark_may (spBad Z K Y.c_NoWord) := by
  refine KN.okN T.F_Dark_may scDark_may (fun vs H Q E h => ?_) (fun cdv A outer s H vs Q E hr h => ?_)
  · obtain ⟨d, L, ls, x, a, b, rfl, _⟩ := h
    rfl
  · obtain ⟨d, L, ls, x, a, b, rfl, D, hx, R⟩ := h
    obtain ⟨dx, la, xs, h1, h2, h3⟩ := id D.ex
    refine ⟨_, (pss_one (ps_ret (pe_cmpR op_isN (pe_meth (pv 0) T.cl T.m_Darkclashing (ok_Darkclashing T) (hr.mono (by decide)) T.bb_Darkclashing .nil pass0 (pa_cons (pe_meth (pv 0) T.cl T.m_Darkhome (okX_Darkhome T X) (hr.mono (by decide)) T.bb_Darkhome .nil (L2N.passes_call (L2N.takes_of rfl rfl rfl rfl) (fun _ _ _ _ h => h)) (pa_cons (pv 1) (pa_cons (pv 2) (pa_cons (pv 3) pa_nil)))) pa_nil)) pe_non (nomark _)))), ?_⟩
    exact ⟨_, rfl, d, dx, _, rfl, h1, df_no _ _ (by decide +kernel) (by decide +kernel), _, rfl, d, dx, _, rfl, h1, df_no _ _ (by decide +kernel) (by decide +kernel), _, rfl, _, rfl, _, rfl, .inl ⟨d, L, ls, x, a, b, rfl, D, hx, R⟩⟩
theorem okX_Dark_sure (T : Tx K w mg Z) (X : Ex P K mg Y) : FnOk P w K mg base (L2N.CX P w) 5 Z.a_Dark_sure Z.d_Dark_sure P_Dark_sure (spBad Z K Y.c_NoWord) := by
  refine KN.okN T.F_Dark_sure scDark_sure (fun vs H Q E h => ?_) (fun cdv A outer s H vs Q E hr h => ?_)
  · obtain ⟨d, L, ls, x, a, b, rfl, _⟩ := h
    rfl
  · obtain ⟨d, L, ls, x, a, b, rfl, D, hx, R⟩ := h
    obtain ⟨dx, la, xs, h1, h2, h3⟩ := id D.ex
    refine ⟨_, (pss_cons (ps_expr (pe_meth (pv 0) T.cl T.m_Darkcheck_word (okX_Darkcheck_word T X) (hr.mono (by decide)) T.bb_Darkcheck_word .nil (L2N.passes_call (L2N.takes_of rfl rfl rfl rfl) (fun _ _ _ _ h => h)) (pa_cons (pv 1) pa_nil)))
      (pss_cons (ps_par (i := 4) (j := 5) (by rfl) scDark_sure.nd rfl rfl (by decide) rfl rfl (pa_cons (pe_meth (pv 0) T.cl T.m_Dark_least (ok_Dark_least T) (hr.mono (by decide)) T.bb_Dark_least .nil pass0 (pa_cons (pv 2) pa_nil)) (pa_cons (pe_meth (pv 0) T.cl T.m_Dark_greatest (ok_Dark_greatest T) (hr.mono (by decide)) T.bb_Dark_greatest .nil pass0 (pa_cons (pv 2) pa_nil)) pa_nil)) (by rfl))
      (pss_cons (ps_set (i := 6) scDark_sure.nd rfl (Or.inl rfl) (pe_and (pe_cmpR op_notN (pv 4) pe_non (nomark _)) (pe_one (pe_cmpR op_ge (pv 4) (pv 3) (nomark _)))))
      (pss_cons (ps_set (i := 7) scDark_sure.nd rfl (Or.inl rfl) (pe_and (pe_cmpR op_notN (pv 5) pe_non (nomark _)) (pe_one (pe_cmpR op_le (pv 5) (pv 3) (nomark _)))))
      (C8.pss_cut (ps_if (pt_cmpR op_eq (pv 1) pe_str (nomark _)) (pss_one (ps_ret (pv 6))) pss_nil)
      (C8.pss_cut (ps_if (pt_cmpR op_eq (pv 1) pe_str (nomark _)) (pss_one (ps_ret (pv 7))) pss_nil)
      (pss_one (ps_ret (pe_and (pv 6) (pe_one (pv 7))))))))))), ?_⟩
    exact ⟨_, rfl, d, dx, _, rfl, h1, df_no _ _ (by decide +kernel) (by decide +kernel), _, rfl, .inl ⟨_, _, rfl, hx, R⟩⟩
theorem okX_Dark_drop0 (T : Tx K w mg Z) (X : Ex P K mg Y) : FnOk P w K mg base (L2N.CX P w) 6 Z.a_Dark_drop Z.d_Dark_drop P_Dark_drop (spBadDrop Z K Y.c_NoWord Y.c_NoLook) := by
  refine KN.okN T.F_Dark_drop scDark_drop (fun vs H Q E h => ?_) (fun cdv A outer s H vs Q E hr h => ?_)
  · rcases h with ⟨d, L, ls, x, a, b, rfl, _⟩ | ⟨d, L, ls, l, rfl, _⟩ <;> rfl
  · refine ⟨_, (pss_cons (ps_set (i := 4) scDark_drop.nd rfl (Or.inr rfl) (pe_meth (pv 0) T.cl T.m_Darkhome (okX_Darkhome T X) (hr.mono (by decide)) T.bb_Darkhome .nil (L2N.passes_call (L2N.takes_of rfl rfl rfl rfl) (fun _ _ _ _ h => h)) (pa_cons (pv 1) (pa_cons (pv 2) (pa_cons (pv 3) pa_nil)))))
      (C8.pss_cut (ps_if (pt_cmpR (notInDK (K := K) (rooms hr)) (pv 4) (fldK (K := K) (pv 0) rfl) (by rfl)) (pss_one (L2N.ps_raise rfl (L2N.takes_of rfl rfl rfl rfl) (KN.pmk_errN X.NoLook X.g_NoLook T.b_super hr (pa_cons (pv 4) pa_nil)))) pss_nil)
      (pss_one (ps_fld (pv 0) (pe_lc (own := [("other", 5)]) (g := gName 5) (tt := _) rfl scDark_drop.nd (pi_list (fldK (K := K) (pv 0) rfl)) (blkOk_by (own := [("other", 5)]) (N := N_Dark_drop) (sc := defScope sDark_drop) (by decide +kernel)) (fun _ _ _ _ _ => (pg_name (i := 5) scDark_drop.nd rfl (Or.inl rfl))) (fun _ _ _ _ _ => (pts_one (pt_cmpR (neDK (K := K) hr.units) (pv 5) (pv 4) (nomark _)))) (fun _ _ _ _ _ => (pv 5))) rfl)))), ?_⟩
    rcases h with ⟨d, L, ls, x, a, b, rfl, D, hx, R⟩ | ⟨d, L, ls, l, rfl, D, hw, hl, hin, kx⟩
    · obtain ⟨dx, la, xs, h1, h2, h3⟩ := id D.ex
      exact ⟨_, rfl, d, dx, _, rfl, h1, df_no _ _ (by decide +kernel) (by decide +kernel), _, rfl, _, rfl, _, rfl, .inl ⟨d, L, ls, x, a, b, rfl, D, hx, R⟩⟩
    · obtain ⟨dx, la, xs, h1, h2, h3⟩ := id D.ex
      have hwd : ∀ l ∈ ls, WordOk l.1 := fun l hl => (D.ok l hl).1
      refine ⟨_, rfl, d, dx, _, rfl, h1, df_no _ _ (by decide +kernel) (by decide +kernel), _, rfl, _, rfl, _, rfl, .inr ⟨d, L, ls, l, rfl, D, hw, hl, fun H1 r S hr => ?_⟩⟩
      refine ⟨fun _ _ => False, ?_, fun _ _ z => z.elim⟩
      refine ⟨_, rfl, _, rfl, d, Z.C, dx, _, _, rfl, S _ _ h1, T.cl, T.n_looks, df_looks _ _, encL (home L l), ls.map encL, hr, .lst (SqL.of (S _ _ h2)) (dpAll_mono S _ _ h3), shaped_look hw, shaped_looks hwd, _, rfl, ?_⟩
      rw [any_look]
      have e : (!decide (home L l ∈ ls)) = true := by simp [hin]
      rw [e]
      refine iteT ⟨_, rfl, _, rfl, fun dd hdd => ?_⟩
      have S3 := same_upd (o := HO.xd [(("what" : Str), r)]) hdd
      exact kx dd r _ (S.trans S3) upd_same (dp_mono S3 _ _ hr) (S.free hdd)
theorem okX_Dark_drop (T : Tx K w mg Z) (X : Ex P K mg Y) : FnOk P w K mg base (L2N.CX P w) 6 Z.a_Dark_drop Z.d_Dark_drop P_Dark_drop (spBadDrop Z K Y.c_NoWord Y.c_NoLook) := okX_Dark_drop0 T X
theorem okX_Dark_init (T : Tx K w mg Z) (X : Ex P K mg Y) : FnOk P w K mg base (L2N.CX P w) 2 Z.a_Dark_init Z.d_Dark_init P_Dark_init (spNoLen Y.c_NoLength) := by
  refine KN.okN T.F_Dark_init scDark_init (fun vs H Q E h => ?_) (fun cdv A outer s H vs Q E hr h => ?_)
  · obtain ⟨d, dx, L, rfl, _⟩ := h
    rfl
  · obtain ⟨d, dx, L, rfl, hL, R⟩ := h
    refine ⟨_, (C8.pss_cut (ps_if (pt_cmpR op_lt (pv 1) pe_int (nomark _)) (pss_one (L2N.ps_raise rfl (L2N.takes_of rfl rfl rfl rfl) (KN.pmk_errN X.NoLength X.g_NoLength T.b_super hr (pa_cons (pv 1) pa_nil)))) pss_nil)
      (pss_cons (ps_fld (pv 0) (pv 1) rfl)
      (pss_one (ps_fld (pv 0) (pe_lst pa_nil) rfl)))), ?_⟩
    refine ⟨fun _ _ => False, ?_, fun _ _ z => z.elim⟩
    refine ⟨_, rfl, _, _, rfl, rfl, _, rfl, ite2 (fun c => ?_) (fun c => absurd hL fun h => c (decide_eq_true h))⟩
    exact ⟨_, rfl, _, rfl, fun dd hdd => R dd _ (same_upd hdd) upd_same hdd⟩
end
end KA
namespace KA
open PySem PySem.Spec PyProof.Rows L2 DP
theorem pe_imp {X : Cx} {e : Expr} {t t' : TE} (h : PE X e t) (i : ∀ σ H Q, t' σ H Q → t σ H Q) : PE X e t' := ⟨fun pins s σ H Q I q => h.run pins s σ H Q I (i σ H Q q)⟩
theorem takesN0 {X : Cx} : L2N.Takes X (fun _ _ _ _ => False) := fun _ _ x => by
  obtain ⟨_, _, _, _, _, _, _, _, _, _, _, _, _, _, _, _, z⟩ := x
  exact z.elim
/-- what `_law_kind` is asked, by what is known of the caught error -/
def spKindO (K : PySem.W.Frag) (Y : AdX) (a : Addr) (cls : Value) (d : Option Addr) : Sp := fun vs H Q _ => ∃ (C dd : Addr) (b : Nat → Bool) (u : V) (du : PyData), vs = [.ref a] ∧ cls = .ref C ∧ d = some dd ∧ H dd = some (.xd [(("what" : Str), u)]) ∧ EK.ExF K C ∧ KdA K Y C b ∧ Dp K H u du ∧
  ∀ H' p ys, H p = none → Same H H' → H' p = some (.lst ys) → DpAll K H' ys ((names b).map .str ++ [du, .bool true]) → Q (.ref p) H'
theorem kind_of {K : PySem.W.Frag} {Y : AdX} {a : Addr} {oe : Obj} {cls : Value} {d : Option Addr} (hz : L2N.Zn cls d oe) (hd : ∃ vs, oe.data = .fields vs) {vs : List V} {H : Hp} {Q : VK} {E : XK} (h : spKindO K Y a cls d vs H Q E) : spKindP K Y (a, oe) vs H Q E := by
  obtain ⟨C, dd, b, u, du, rfl, rfl, rfl, h1, h2, h3, h4, k⟩ := h
  exact ⟨a, C, b, u, du, rfl, ⟨dd, rfl, hz.zc, hd, h1, h2⟩, h3, h4, k⟩
theorem imp4 {K : PySem.W.Frag} {Y : AdX} {a : Addr} {oe : Obj} {cls : Value} {d : Option Addr} (hz : L2N.Zn cls d oe) (hd : ∃ vs, oe.data = .fields vs) {σ : L2.St} {H : Hp} {Q : VK} (h : tCallS (spKindO K Y a cls d) (fun _ => E0) (tCons (tVar 4) tNil) σ H Q) : tCallS (spKindP K Y (a, oe)) (fun _ => E0) (tCons (tVar 4) tNil) σ H Q := by
  obtain ⟨v, hv, q⟩ := h
  exact ⟨v, hv, kind_of (E := E0) hz hd q⟩
theorem imp5 {K : PySem.W.Frag} {Y : AdX} {a : Addr} {oe : Obj} {cls : Value} {d : Option Addr} (hz : L2N.Zn cls d oe) (hd : ∃ vs, oe.data = .fields vs) {σ : L2.St} {H : Hp} {Q : VK} (h : tCallS (spKindO K Y a cls d) (fun _ => E0) (tCons (tVar 5) tNil) σ H Q) : tCallS (spKindP K Y (a, oe)) (fun _ => E0) (tCons (tVar 5) tNil) σ H Q := by
  obtain ⟨v, hv, q⟩ := h
  exact ⟨v, hv, kind_of (E := E0) hz hd q⟩
theorem kd_NoLength {P : Program} {K : PySem.W.Frag} {mg : Str → Option Value} {Y : AdX} (X : Ex P K mg Y) : KdA K Y Y.c_NoLength (fun i => decide (i = 0)) :=
  ⟨kit_self K _, X.k_NoLength_NoWord, X.k_NoLength_Clash, X.k_NoLength_NoLook, X.k_NoLength_NoRound, X.k_NoLength_NoUses, X.k_NoLength_NoSide, X.k_NoLength_NoRing, X.k_NoLength_NoSteps, X.k_NoLength_NoBottom, X.k_NoLength_NoText, X.kv_NoLength, X.x_NoLength⟩
theorem names_NoLength : names (fun i => decide (i = 0)) = [("NoLength" : Str)] := rfl
theorem kd_NoWord {P : Program} {K : PySem.W.Frag} {mg : Str → Option Value} {Y : AdX} (X : Ex P K mg Y) : KdA K Y Y.c_NoWord (fun i => decide (i = 1)) :=
  ⟨X.k_NoWord_NoLength, kit_self K _, X.k_NoWord_Clash, X.k_NoWord_NoLook, X.k_NoWord_NoRound, X.k_NoWord_NoUses, X.k_NoWord_NoSide, X.k_NoWord_NoRing, X.k_NoWord_NoSteps, X.k_NoWord_NoBottom, X.k_NoWord_NoText, X.kv_NoWord, X.x_NoWord⟩
theorem names_NoWord : names (fun i => decide (i = 1)) = [("NoWord" : Str)] := rfl
theorem kd_Clash {P : Program} {K : PySem.W.Frag} {mg : Str → Option Value} {Y : AdX} (X : Ex P K mg Y) : KdA K Y Y.c_Clash (fun i => decide (i = 2)) :=
  ⟨X.k_Clash_NoLength, X.k_Clash_NoWord, kit_self K _, X.k_Clash_NoLook, X.k_Clash_NoRound, X.k_Clash_NoUses, X.k_Clash_NoSide, X.k_Clash_NoRing, X.k_Clash_NoSteps, X.k_Clash_NoBottom, X.k_Clash_NoText, X.kv_Clash, X.x_Clash⟩
theorem names_Clash : names (fun i => decide (i = 2)) = [("Clash" : Str)] := rfl
theorem kd_NoLook {P : Program} {K : PySem.W.Frag} {mg : Str → Option Value} {Y : AdX} (X : Ex P K mg Y) : KdA K Y Y.c_NoLook (fun i => decide (i = 3)) :=
  ⟨X.k_NoLook_NoLength, X.k_NoLook_NoWord, X.k_NoLook_Clash, kit_self K _, X.k_NoLook_NoRound, X.k_NoLook_NoUses, X.k_NoLook_NoSide, X.k_NoLook_NoRing, X.k_NoLook_NoSteps, X.k_NoLook_NoBottom, X.k_NoLook_NoText, X.kv_NoLook, X.x_NoLook⟩
theorem names_NoLook : names (fun i => decide (i = 3)) = [("NoLook" : Str)] := rfl
theorem kd_NoRound {P : Program} {K : PySem.W.Frag} {mg : Str → Option Value} {Y : AdX} (X : Ex P K mg Y) : KdA K Y Y.c_NoRound (fun i => decide (i = 4)) :=
  ⟨X.k_NoRound_NoLength, X.k_NoRound_NoWord, X.k_NoRound_Clash, X.k_NoRound_NoLook, kit_self K _, X.k_NoRound_NoUses, X.k_NoRound_NoSide, X.k_NoRound_NoRing, X.k_NoRound_NoSteps, X.k_NoRound_NoBottom, X.k_NoRound_NoText, X.kv_NoRound, X.x_NoRound⟩
theorem names_NoRound : names (fun i => decide (i = 4)) = [("NoRound" : Str)] := rfl
theorem kd_NoUses {P : Program} {K : PySem.W.Frag} {mg : Str → Option Value} {Y : AdX} (X : Ex P K mg Y) : KdA K Y Y.c_NoUses (fun i => decide (i = 5)) :=
  ⟨X.k_NoUses_NoLength, X.k_NoUses_NoWord, X.k_NoUses_Clash, X.k_NoUses_NoLook, X.k_NoUses_NoRound, kit_self K _, X.k_NoUses_NoSide, X.k_NoUses_NoRing, X.k_NoUses_NoSteps, X.k_NoUses_NoBottom, X.k_NoUses_NoText, X.kv_NoUses, X.x_NoUses⟩
theorem names_NoUses : names (fun i => decide (i = 5)) = [("NoUses" : Str)] := rfl
theorem kd_NoSide {P : Program} {K : PySem.W.Frag} {mg : Str → Option Value} {Y : AdX} (X : Ex P K mg Y) : KdA K Y Y.c_NoSide (fun i => decide (i = 6)) :=
  ⟨X.k_NoSide_NoLength, X.k_NoSide_NoWord, X.k_NoSide_Clash, X.k_NoSide_NoLook, X.k_NoSide_NoRound, X.k_NoSide_NoUses, kit_self K _, X.k_NoSide_NoRing, X.k_NoSide_NoSteps, X.k_NoSide_NoBottom, X.k_NoSide_NoText, X.kv_NoSide, X.x_NoSide⟩
theorem names_NoSide : names (fun i => decide (i = 6)) = [("NoSide" : Str)] := rfl
theorem kd_NoRing {P : Program} {K : PySem.W.Frag} {mg : Str → Option Value} {Y : AdX} (X : Ex P K mg Y) : KdA K Y Y.c_NoRing (fun i => decide (i = 7)) :=
  ⟨X.k_NoRing_NoLength, X.k_NoRing_NoWord, X.k_NoRing_Clash, X.k_NoRing_NoLook, X.k_NoRing_NoRound, X.k_NoRing_NoUses, X.k_NoRing_NoSide, kit_self K _, X.k_NoRing_NoSteps, X.k_NoRing_NoBottom, X.k_NoRing_NoText, X.kv_NoRing, X.x_NoRing⟩
theorem names_NoRing : names (fun i => decide (i = 7)) = [("NoRing" : Str)] := rfl
theorem kd_NoSteps {P : Program} {K : PySem.W.Frag} {mg : Str → Option Value} {Y : AdX} (X : Ex P K mg Y) : KdA K Y Y.c_NoSteps (fun i => decide (i = 8)) :=
  ⟨X.k_NoSteps_NoLength, X.k_NoSteps_NoWord, X.k_NoSteps_Clash, X.k_NoSteps_NoLook, X.k_NoSteps_NoRound, X.k_NoSteps_NoUses, X.k_NoSteps_NoSide, X.k_NoSteps_NoRing, kit_self K _, X.k_NoSteps_NoBottom, X.k_NoSteps_NoText, X.kv_NoSteps, X.x_NoSteps⟩
theorem names_NoSteps : names (fun i => decide (i = 8)) = [("NoSteps" : Str)] := rfl
theorem kd_NoBottom {P : Program} {K : PySem.W.Frag} {mg : Str → Option Value} {Y : AdX} (X : Ex P K mg Y) : KdA K Y Y.c_NoBottom (fun i => decide (i = 9)) :=
  ⟨X.k_NoBottom_NoLength, X.k_NoBottom_NoWord, X.k_NoBottom_Clash, X.k_NoBottom_NoLook, X.k_NoBottom_NoRound, X.k_NoBottom_NoUses, X.k_NoBottom_NoSide, X.k_NoBottom_NoRing, X.k_NoBottom_NoSteps, kit_self K _, X.k_NoBottom_NoText, X.kv_NoBottom, X.x_NoBottom⟩
theorem names_NoBottom : names (fun i => decide (i = 9)) = [("NoBottom" : Str)] := rfl
theorem kd_NoText {P : Program} {K : PySem.W.Frag} {mg : Str → Option Value} {Y : AdX} (X : Ex P K mg Y) : KdA K Y Y.c_NoText (fun i => decide (i = 10)) :=
  ⟨X.k_NoText_NoLength, X.k_NoText_NoWord, X.k_NoText_Clash, X.k_NoText_NoLook, X.k_NoText_NoRound, X.k_NoText_NoUses, X.k_NoText_NoSide, X.k_NoText_NoRing, X.k_NoText_NoSteps, X.k_NoText_NoBottom, kit_self K _, X.kv_NoText, X.x_NoText⟩
theorem names_NoText : names (fun i => decide (i = 10)) = [("NoText" : Str)] := rfl
def wordD (x : Str) : PyData := .list [.str "NoWord", .str x, .bool true]
def lookD (l : Lk) : PyData := .list [.str "NoLook", encL l, .bool true]
def spAsked (Z : Ad) (K : PySem.W.Frag) : Sp := fun vs H Q _ => ∃ (d p : Addr) (L : Int) (hs : List Lk) (way : Int) (x : Str) (a b : Int), vs = [.ref d, .int way, .ref p] ∧ DarkAt Z K H d L hs ∧ SqT K H p [.str x, .int a, .int b] ∧
  ((¬ WordOk x ∧ ∀ H' q, Same H H' → Dp K H' (.ref q) (wordD x) → Q (.ref q) H') ∨ (way = 1 ∧ ∃ l : Lk, l = (x, a, b) ∧ WordOk x ∧ Sized 300 l ∧ home L l ∉ hs ∧ ∀ H' q, Same H H' → Dp K H' (.ref q) (lookD (home L l)) → Q (.ref q) H'))
section
variable {P : Program} {w : World} {K : PySem.W.Frag} {mg : Str → Option Value} {base : Heap} {Z : Ad} {Y : AdX}
theorem ok_law_asked (T : Tx K w mg Z) (X : Ex P K mg Y) : FnOk P w K mg base CX0 9 Z.a_law_asked Z.d_law_asked P_law_asked (spAsked Z K) := by
  refine T.F_law_asked.ok sclaw_asked (fun vs H Q E h => ?_) (fun cdv A outer s H vs Q E hr h => ?_)
  · obtain ⟨d, p, L, hs, way, x, a, b, rfl, _⟩ := h
    rfl
  · obtain ⟨d, p, L, hs, way, x, a0, b0, rfl, D, hp, hk⟩ := h
    refine ⟨_, (pss_cons (ps_set (i := 3) sclaw_asked.nd rfl (Or.inl rfl) (pe_lst pa_nil))
      (pss_cons (L2N.ps_try_as (i := 4) (tb := fun W => tIfS (tTest (tOp rEq (tVar 1) (tC (.int 0)))) (tDrop (KW.tMethX Z.C "hear" (spBad Z K Y.c_NoWord) (WE W) (tVar 0) (tCons (tOp (rIxT K) (tVar 2) (tC (.int 0))) (tCons (tOp (rIxT K) (tVar 2) (tC (.int 1))) (tCons (tOp (rIxT K) (tVar 2) (tC (.int 2))) tNil))))) (tIfS (tTest (tOp rEq (tVar 1) (tC (.int 1)))) (tDrop (KW.tMethX Z.C "drop" (spBadDrop Z K Y.c_NoWord Y.c_NoLook) (WE W) (tVar 0) (tCons (tOp (rIxT K) (tVar 2) (tC (.int 0))) (tCons (tOp (rIxT K) (tVar 2) (tC (.int 1))) (tCons (tOp (rIxT K) (tVar 2) (tC (.int 2))) tNil))))) (tIfS (tTest (tOp rEq (tVar 1) (tC (.int 2)))) (tDrop (KW.tMethX Z.C "may" (spBad Z K Y.c_NoWord) (WE W) (tVar 0) (tCons (tOp (rIxT K) (tVar 2) (tC (.int 0))) (tCons (tOp (rIxT K) (tVar 2) (tC (.int 1))) (tCons (tOp (rIxT K) (tVar 2) (tC (.int 2))) tNil))))) (tDrop (KW.tMethX Z.C "sure" (spBad Z K Y.c_NoWord) (WE W) (tVar 0) (tCons (tOp (rIxT K) (tVar 2) (tC (.int 0))) (tCons (tOp (rIxT K) (tVar 2) (tC (.int 1))) (tCons (tOp (rIxT K) (tVar 2) (tC (.int 2))) tNil)))))))) (Wout := fun _ _ _ _ => False) rfl rfl sclaw_asked.nd rfl rfl ⟨rfl, by decide, Or.inl X.g_DialError⟩ takesN0
        (fun W pn xe tk _ => (pss_one (ps_if (pt_cmpR op_eq (pv 1) pe_int (nomark _)) (pss_one (ps_expr (KW.pe_methX (pv 0) T.cl T.m_Dark_hear (okX_Dark_hear T X) (hr.mono (by decide)) T.bb_Dark_hear (fun σ => L2N.passAt tk σ) (pa_cons (pe_ix (ixT (K := K)) (pv 2) pe_int (fun _ _ => rfl)) (pa_cons (pe_ix (ixT (K := K)) (pv 2) pe_int (fun _ _ => rfl)) (pa_cons (pe_ix (ixT (K := K)) (pv 2) pe_int (fun _ _ => rfl)) pa_nil)))))) (pss_one (ps_if (pt_cmpR op_eq (pv 1) pe_int (nomark _)) (pss_one (ps_expr (KW.pe_methX (pv 0) T.cl T.m_Dark_drop (okX_Dark_drop T X) (hr.mono (by decide)) T.bb_Dark_drop (fun σ => L2N.passAt tk σ) (pa_cons (pe_ix (ixT (K := K)) (pv 2) pe_int (fun _ _ => rfl)) (pa_cons (pe_ix (ixT (K := K)) (pv 2) pe_int (fun _ _ => rfl)) (pa_cons (pe_ix (ixT (K := K)) (pv 2) pe_int (fun _ _ => rfl)) pa_nil)))))) (pss_one (ps_if (pt_cmpR op_eq (pv 1) pe_int (nomark _)) (pss_one (ps_expr (KW.pe_methX (pv 0) T.cl T.m_Dark_may (okX_Dark_may T X) (hr.mono (by decide)) T.bb_Dark_may (fun σ => L2N.passAt tk σ) (pa_cons (pe_ix (ixT (K := K)) (pv 2) pe_int (fun _ _ => rfl)) (pa_cons (pe_ix (ixT (K := K)) (pv 2) pe_int (fun _ _ => rfl)) (pa_cons (pe_ix (ixT (K := K)) (pv 2) pe_int (fun _ _ => rfl)) pa_nil)))))) (pss_one (ps_expr (KW.pe_methX (pv 0) T.cl T.m_Dark_sure (okX_Dark_sure T X) (hr.mono (by decide)) T.bb_Dark_sure (fun σ => L2N.passAt tk σ) (pa_cons (pe_ix (ixT (K := K)) (pv 2) pe_int (fun _ _ => rfl)) (pa_cons (pe_ix (ixT (K := K)) (pv 2) pe_int (fun _ _ => rfl)) (pa_cons (pe_ix (ixT (K := K)) (pv 2) pe_int (fun _ _ => rfl)) pa_nil)))))))))))))
        (fun a oe cls dd pn hz hd => (pss_one (ps_set (i := 3) sclaw_asked.nd rfl (Or.inl rfl) (pe_imp (t' := tCallS (spKindO K Y a cls dd) (fun _ => E0) (tCons (tVar 4) tNil)) (KH.pe_callE (p := (a, oe)) (E := fun _ => E0) (okE_law_kind T X) (L2H.RoomH.mono (k := 8) ⟨hr.dp, hr.un⟩ (show 1 ≤ 8 by decide)) ⟨rfl, hd.choose, hd.choose_spec, hz.2.2 _ hd.choose_spec⟩ List.mem_cons_self (by rfl) T.g_law_kind T.F_law_kind.kp T.bb_law_kind (fun _ _ _ _ _ _ _ z => z.elim) (pa_cons (pv 4) pa_nil)) (fun σ H Q q => imp4 hz hd q))))))
      (pss_one (ps_ret (pv 3))))), ?_⟩
    refine ⟨(by show 0 ≤ sizeLine; decide), fun e0 he0 => ?_⟩
    have S1 := same_upd (o := HO.lst ([] : List V)) he0
    have D1 := D.same S1
    have hp1 := Same.sqT S1 hp
    generalize upd H e0 (HO.lst ([] : List V)) = H1 at S1 D1 hp1 ⊢
    obtain ⟨dx, la, vs, g1, _, _⟩ := id D1.ex
    rcases hk with ⟨hx, k⟩ | ⟨rfl, l, rfl, hw, hl, hin, k⟩
    · refine ⟨_, rfl, rfl, _, rfl, ite2 (fun _ => ?_) (fun _ => ⟨_, rfl, rfl, _, rfl, ite2 (fun _ => ?_) (fun _ => ⟨_, rfl, rfl, _, rfl, ite2 (fun _ => ?_) (fun _ => ?_)⟩)⟩)⟩
      · refine ⟨_, rfl, d, dx, _, rfl, g1, df_no _ _ (by decide +kernel) (by decide +kernel), _, rfl, p, _, _, _, rfl, rfl, hp1, rfl, _, rfl, p, _, _, _, rfl, rfl, hp1, rfl, _, rfl, p, _, _, _, rfl, rfl, hp1, rfl, d, L, hs, x, a0, b0, rfl, D1, hx, fun dd H2 S2 hd hn => ⟨true, X.d_NoWord, fun _ a ha => ?_, fun q => Bool.noConfusion q⟩⟩
        refine ⟨_, rfl, Y.c_NoWord, dd, _, .str x, _, rfl, rfl, rfl, hd, X.x_NoWord, kd_NoWord X, .str x, fun H4 p4 ys h4 S4 g4 d4 => ?_⟩
        rw [names_NoWord] at d4
        exact ⟨_, rfl, k H4 p4 ((S1.trans S2).trans S4) (.lst (SqL.of g4) d4)⟩
      · refine ⟨_, rfl, d, dx, _, rfl, g1, df_no _ _ (by decide +kernel) (by decide +kernel), _, rfl, p, _, _, _, rfl, rfl, hp1, rfl, _, rfl, p, _, _, _, rfl, rfl, hp1, rfl, _, rfl, p, _, _, _, rfl, rfl, hp1, rfl, .inl ⟨d, L, hs, x, a0, b0, rfl, D1, hx, fun dd H2 S2 hd hn => ⟨true, X.d_NoWord, fun _ a ha => ?_, fun q => Bool.noConfusion q⟩⟩⟩
        refine ⟨_, rfl, Y.c_NoWord, dd, _, .str x, _, rfl, rfl, rfl, hd, X.x_NoWord, kd_NoWord X, .str x, fun H4 p4 ys h4 S4 g4 d4 => ?_⟩
        rw [names_NoWord] at d4
        exact ⟨_, rfl, k H4 p4 ((S1.trans S2).trans S4) (.lst (SqL.of g4) d4)⟩
      · refine ⟨_, rfl, d, dx, _, rfl, g1, df_no _ _ (by decide +kernel) (by decide +kernel), _, rfl, p, _, _, _, rfl, rfl, hp1, rfl, _, rfl, p, _, _, _, rfl, rfl, hp1, rfl, _, rfl, p, _, _, _, rfl, rfl, hp1, rfl, d, L, hs, x, a0, b0, rfl, D1, hx, fun dd H2 S2 hd hn => ⟨true, X.d_NoWord, fun _ a ha => ?_, fun q => Bool.noConfusion q⟩⟩
        refine ⟨_, rfl, Y.c_NoWord, dd, _, .str x, _, rfl, rfl, rfl, hd, X.x_NoWord, kd_NoWord X, .str x, fun H4 p4 ys h4 S4 g4 d4 => ?_⟩
        rw [names_NoWord] at d4
        exact ⟨_, rfl, k H4 p4 ((S1.trans S2).trans S4) (.lst (SqL.of g4) d4)⟩
      · refine ⟨_, rfl, d, dx, _, rfl, g1, df_no _ _ (by decide +kernel) (by decide +kernel), _, rfl, p, _, _, _, rfl, rfl, hp1, rfl, _, rfl, p, _, _, _, rfl, rfl, hp1, rfl, _, rfl, p, _, _, _, rfl, rfl, hp1, rfl, d, L, hs, x, a0, b0, rfl, D1, hx, fun dd H2 S2 hd hn => ⟨true, X.d_NoWord, fun _ a ha => ?_, fun q => Bool.noConfusion q⟩⟩
        refine ⟨_, rfl, Y.c_NoWord, dd, _, .str x, _, rfl, rfl, rfl, hd, X.x_NoWord, kd_NoWord X, .str x, fun H4 p4 ys h4 S4 g4 d4 => ?_⟩
        rw [names_NoWord] at d4
        exact ⟨_, rfl, k H4 p4 ((S1.trans S2).trans S4) (.lst (SqL.of g4) d4)⟩
    · refine ⟨_, rfl, rfl, _, rfl, ite2 (fun c => ?_) (fun _ => ⟨_, rfl, rfl, _, rfl, ite2 (fun _ => ?_) (fun c => absurd (decide_eq_true rfl) c)⟩)⟩
      · have := of_decide_eq_true c
        injection this with h
        exact absurd h (by decide)
      refine ⟨_, rfl, d, dx, _, rfl, g1, df_no _ _ (by decide +kernel) (by decide +kernel), _, rfl, p, _, _, _, rfl, rfl, hp1, rfl, _, rfl, p, _, _, _, rfl, rfl, hp1, rfl, _, rfl, p, _, _, _, rfl, rfl, hp1, rfl, .inr ⟨d, L, hs, (x, a0, b0), rfl, D1, hw, hl, hin, fun dd v H2 S2 hd hv hn => ⟨true, X.d_NoLook, fun _ a ha => ?_, fun q => Bool.noConfusion q⟩⟩⟩
      refine ⟨_, rfl, Y.c_NoLook, dd, _, v, _, rfl, rfl, rfl, hd, X.x_NoLook, kd_NoLook X, hv, fun H4 p4 ys h4 S4 g4 d4 => ?_⟩
      rw [names_NoLook] at d4
      exact ⟨_, rfl, k H4 p4 ((S1.trans S2).trans S4) (.lst (SqL.of g4) d4)⟩
end
end KA
namespace KA
open PySem PySem.Spec PyProof.Rows L2 DP
def lenD (n : Int) : PyData := .list [.str "NoLength", .int n, .bool true]
def spLenR : Sp := fun vs H Q _ => ∃ (t g : Addr) (n : Nat), vs = [.ref t] ∧ Tray H t g n ∧ n < 2 ^ 44 ∧ ∀ H', Tray H' t g (n + 10) → Keep t g H H' → Q (.bl true) H'
section
variable {P : Program} {w : World} {K : PySem.W.Frag} {mg : Str → Option Value} {base : Heap} {Z : Ad} {Y : AdX}
theorem ok_law_lengths_right (T : Tx K w mg Z) (X : Ex P K mg Y) : FnOk P w K mg base CX0 9 Z.a_law_lengths_right Z.d_law_lengths_right P_law_lengths_right spLenR := by
  refine T.F_law_lengths_right.ok sclaw_lengths_right (fun vs H Q E h => ?_) (fun cdv A outer s H vs Q E hr h => ?_)
  · obtain ⟨t, g, n, rfl, _⟩ := h
    rfl
  · obtain ⟨t, g, n, rfl, hT, hn, k⟩ := h
    refine ⟨_, (pss_cons (ps_for PassesOwn.never rfl (pi_list (pe_lst (pa_cons pe_int (pa_cons (pe_un un_neg pe_int) (pa_cons (pe_op op_sub (pe_op op_sub pe_int pe_int) (pe_call (ok_law_great T) (hr.mono (by decide)) (by rfl) T.g_law_great T.F_law_great.kp T.bb_law_great .nil pass0 (pa_cons (pv 0) pa_nil))) pa_nil))))) (pg_name (i := 1) sclaw_lengths_right.nd rfl (Or.inl rfl)) (pss_one (ps_for PassesOwn.never rfl (pi_tup (pe_tup (pa_cons pe_bl (pa_cons pe_bl pa_nil)))) (pg_name (i := 2) sclaw_lengths_right.nd rfl (Or.inl rfl)) (pss_cons (ps_set (i := 3) sclaw_lengths_right.nd rfl (Or.inl rfl) (pe_lst pa_nil))
      (pss_cons (L2N.ps_try_as (i := 5) (tb := fun W => tSeq (tAsg (tIf (tB (tVar 2)) (KW.tMakeNX Z.C 1 (spNoLen Y.c_NoLength) (KW.gk [0] []) (WE W) (tCons (tVar 1) tNil)) (KW.tMakeX Z.C (spNoLen Y.c_NoLength) (WE W) (tCons (tVar 1) tNil))) (gName 4)) tNever) (Wout := fun _ _ _ _ => False) rfl rfl sclaw_lengths_right.nd rfl rfl ⟨rfl, by decide, Or.inl X.g_DialError⟩ takesN0
        (fun W pn xe tk _ => (pss_cons (ps_set (i := 4) sclaw_lengths_right.nd rfl (Or.inl rfl) (pe_ifExp (pt_val (pv 2)) (KW.pe_makeNX T.mk_Dark (okX_Dark_init T X) (hr.mono (by decide)) (by rfl) T.g_Dark T.kn_Dark_init_length (fun σ => L2N.passAt tk σ) (pk_cons (pv 1) pk_nil)) (KW.pe_makeX T.mk_Dark (okX_Dark_init T X) (hr.mono (by decide)) (by rfl) T.g_Dark T.bb_Dark_init (fun σ => L2N.passAt tk σ) (pa_cons (pv 1) pa_nil)))) pss_never))
        (fun a oe cls dd pn hz hd => (pss_one (ps_set (i := 3) sclaw_lengths_right.nd rfl (Or.inl rfl) (pe_imp (t' := tCallS (spKindO K Y a cls dd) (fun _ => E0) (tCons (tVar 5) tNil)) (KH.pe_callE (p := (a, oe)) (E := fun _ => E0) (okE_law_kind T X) (L2H.RoomH.mono (k := 8) ⟨hr.dp, hr.un⟩ (show 1 ≤ 8 by decide)) ⟨rfl, hd.choose, hd.choose_spec, hz.2.2 _ hd.choose_spec⟩ List.mem_cons_self (by rfl) T.g_law_kind T.F_law_kind.kp T.bb_law_kind (fun _ _ _ _ _ _ _ z => z.elim) (pa_cons (pv 5) pa_nil)) (fun σ H Q q => imp5 hz hd q))))))
      (pss_one (ps_if (pt_not (pt_val (pe_call (ok_law_alike T 4) (hr.mono (by decide)) (by rfl) T.g_law_alike T.F_law_alike.kp T.bb_law_alike .nil pass0 (pa_cons (pv 3) (pa_cons (pe_lst (pa_cons pe_str (pa_cons (pv 1) (pa_cons pe_bl pa_nil)))) pa_nil))))) (pss_one (ps_ret pe_bl)) pss_nil)))))))
      (pss_one (ps_ret pe_bl))), ?_⟩
    refine ⟨_, rfl, _, _, rfl, rfl, _, rfl, t, g, n, rfl, hT, Nat.lt_trans hn (by decide), fun H1 r r0 r1 T1 k1 => ⟨_, _, rfl, rfl, (by show 3 ≤ sizeLine; decide), fun q hq => ?_⟩⟩
    have Sq := same_upd (o := HO.lst [V.int 0, .int (-1), .int (0 - 1 - r)]) hq
    have gq : (upd H1 q (HO.lst [V.int 0, .int (-1), .int (0 - 1 - r)])) q = some (.lst [V.int 0, .int (-1), .int (0 - 1 - r)]) := upd_same
    have gets : ∀ (i : Nat) (y : V), [V.int 0, .int (-1), .int (0 - 1 - r)][i]? = some y → ∃ m : Int, y = .int m ∧ m < 1 := fun i y hi => by
      have hi3 : i < 3 := (List.getElem?_eq_some_iff.mp hi).1
      have : i = 0 ∨ i = 1 ∨ i = 2 := by omega
      rcases this with rfl | rfl | rfl
      · exact ⟨0, (Option.some.inj hi).symm, by decide⟩
      · exact ⟨-1, (Option.some.inj hi).symm, by decide⟩
      · exact ⟨0 - 1 - r, (Option.some.inj hi).symm, by omega⟩
    generalize upd H1 q (HO.lst [V.int 0, .int (-1), .int (0 - 1 - r)]) = H2 at Sq gq ⊢
    refine ⟨q, rfl, ⟨_, SqL.of gq⟩, ?_⟩
    refine for_list (K := K) (a := q) (xs := [V.int 0, .int (-1), .int (0 - 1 - r)]) (fun i σ' H' => ∃ u1 u2 u3 u4 u5 : Option V, σ' = [some (.ref t), u1, u2, u3, u4, u5] ∧ Same H2 H') ⟨_, _, _, _, _, rfl, fun _ _ e => e⟩ (fun i σ' H' _ ⟨_, _, _, _, _, _, S⟩ => SqL.of (S _ _ gq)) ?_ ?_
    rotate_left
    · rintro σ' H3 ⟨u1, u2, u3, u4, u5, rfl, S3⟩
      exact k H3 ((T1.same (Sq.trans S3)).up (by omega)) (k1.trans (Keep.of_same (Sq.trans S3)))
    rintro i y σ' H3 hi ⟨u1, u2, u3, u4, u5, rfl, S3⟩
    obtain ⟨m, rfl, hm⟩ := gets i y hi
    refine ⟨(by show 2 ≤ sizeLine; decide), fun tp htp => ?_⟩
    have St := same_upd (o := HO.tup [V.bl false, .bl true]) htp
    have gt : (upd H3 tp (HO.tup [V.bl false, .bl true])) tp = some (.tup [V.bl false, .bl true]) := upd_same
    have S4 := S3.trans St
    generalize upd H3 tp (HO.tup [V.bl false, .bl true]) = H4 at St gt S4 ⊢
    refine ⟨tp, rfl, ⟨_, SqT.of gt⟩, ?_⟩
    refine for_tup (K := K) (a := tp) (xs := [V.bl false, .bl true]) (fun i σ' H' => ∃ u2 u3 u4 u5 : Option V, σ' = [some (.ref t), some (.int m), u2, u3, u4, u5] ∧ Same H4 H') ⟨_, _, _, _, rfl, fun _ _ e => e⟩ (fun i σ' H' _ ⟨_, _, _, _, _, S⟩ => SqT.of (S _ _ gt)) ?_ ?_
    rotate_left
    · rintro σ' H5 ⟨u2, u3, u4, u5, rfl, S5⟩
      exact ⟨_, _, _, _, _, rfl, S4.trans S5⟩
    rintro j y σ' H5 hj ⟨u2, u3, u4, u5, rfl, S5⟩
    obtain ⟨b, rfl⟩ : ∃ b : Bool, y = .bl b := by
      have hj2 : j < 2 := (List.getElem?_eq_some_iff.mp hj).1
      have : j = 0 ∨ j = 1 := by omega
      rcases this with rfl | rfl
      · exact ⟨false, (Option.some.inj hj).symm⟩
      · exact ⟨true, (Option.some.inj hj).symm⟩
    refine ⟨(by show 0 ≤ sizeLine; decide), fun e0 he0 => ?_⟩
    have S6 := S5.trans (same_upd (o := HO.lst ([] : List V)) he0)
    generalize upd H5 e0 (HO.lst ([] : List V)) = H6 at S6 ⊢
    have S5x : Same H4 H6 := S6
    have fin : ∀ (dx x : Addr) (H7 : Hp), H6 dx = none → H6 x = none → dx ≠ x → Same (upd (upd H6 dx (.own x)) x (.ins Z.C dx [])) H7 → ∀ (dd : Addr), H7 dd = some (.xd [(("what" : Str), V.int m)]) → Same H6 H7 := fun dx x H7 h1 h2 hne S dd _ c o e => S c o (by
      rw [upd_ne (ne_of_none e h2), upd_ne (ne_of_none e h1)]; exact e)
    refine ⟨_, rfl, b, rfl, ?_⟩
    cases b with
    | true =>
      refine ⟨_, rfl, rfl, fun x dx hx hdx hne => ⟨x, dx, m, rfl, hm, fun dd H7 S7 hd hn => ⟨true, X.d_NoLength, fun _ a ha => ?_, fun q => Bool.noConfusion q⟩⟩⟩
      have S67 := fin dx x H7 hdx hx hne S7 dd hd
      refine ⟨_, rfl, Y.c_NoLength, dd, _, .int m, _, rfl, rfl, rfl, hd, X.x_NoLength, kd_NoLength X, .int m, fun H8 p4 ys h8 S8 g8 d8 => ?_⟩
      rw [names_NoLength] at d8
      refine ⟨_, rfl, _, rfl, (by show 3 ≤ sizeLine; decide), fun q4 hq4 => ?_⟩
      have S9 := same_upd (o := HO.lst [V.str "NoLength", .int m, .bl true]) hq4
      have S49 := (S5x.trans S67).trans (S8.trans S9)
      refine ⟨.ref p4, .ref q4, lenD m, rfl, .lst (SqL.of (S9 _ _ g8)) (dpAll_mono S9 _ _ d8), .lst (SqL.of upd_same) (.cons (.str _) (.cons (.int _) (.cons (.bl _) .nil))), rfl, by simp [lenD, PyData.depth, PyData.depthAll], _, rfl, iteF ⟨_, _, _, _, rfl, S49⟩⟩
    | false =>
      refine ⟨_, rfl, fun x dx hx hdx hne => ⟨x, dx, m, rfl, hm, fun dd H7 S7 hd hn => ⟨true, X.d_NoLength, fun _ a ha => ?_, fun q => Bool.noConfusion q⟩⟩⟩
      have S67 := fin dx x H7 hdx hx hne S7 dd hd
      refine ⟨_, rfl, Y.c_NoLength, dd, _, .int m, _, rfl, rfl, rfl, hd, X.x_NoLength, kd_NoLength X, .int m, fun H8 p4 ys h8 S8 g8 d8 => ?_⟩
      rw [names_NoLength] at d8
      refine ⟨_, rfl, _, rfl, (by show 3 ≤ sizeLine; decide), fun q4 hq4 => ?_⟩
      have S9 := same_upd (o := HO.lst [V.str "NoLength", .int m, .bl true]) hq4
      have S49 := (S5x.trans S67).trans (S8.trans S9)
      refine ⟨.ref p4, .ref q4, lenD m, rfl, .lst (SqL.of (S9 _ _ g8)) (dpAll_mono S9 _ _ d8), .lst (SqL.of upd_same) (.cons (.str _) (.cons (.int _) (.cons (.bl _) .nil))), rfl, by simp [lenD, PyData.depth, PyData.depthAll], _, rfl, iteF ⟨_, _, _, _, rfl, S49⟩⟩
end
end KA
namespace KA
open PySem PySem.Spec PyProof.Rows L2 DP
def clN : List Str := ["NoLength", "NoWord", "Clash", "NoLook", "NoRound", "NoUses", "NoSide", "NoRing", "NoSteps", "NoBottom", "NoText"]
theorem names_n {n : Nat} (h : n < 11) : ∃ x, clN[n]? = some x ∧ names (fun i => decide (i = n)) = [x] := by
  have : n = 0 ∨ n = 1 ∨ n = 2 ∨ n = 3 ∨ n = 4 ∨ n = 5 ∨ n = 6 ∨ n = 7 ∨ n = 8 ∨ n = 9 ∨ n = 10 := by omega
  rcases this with e | e | e | e | e | e | e | e | e | e | e <;> subst e <;> exact ⟨_, rfl, rfl⟩
theorem kit_exm {K : PySem.W.Frag} {t c : Value} (h : PySem.W.exmOne K t c = some true) : PySem.W.kitOne K t c = some true := by
  unfold PySem.W.exmOne at h
  unfold PySem.W.kitOne
  split at h
  · split
    · rfl
    · exact h
  · cases h
/-- errors that are kept, each with what it was made with, each of the class of its number -/
inductive Es (K : PySem.W.Frag) (Y : AdX) (H : Hp) (v : V) : List V → List Nat → Prop
  | nil : Es K Y H v [] []
  | cons {a C : Addr} {n : Nat} {vs : List V} {ns : List Nat} : EK.Held K H a C [(("what" : Str), v)] → KdA K Y C (fun i => decide (i = n)) → PySem.W.kitOne K (.ref C) (.ref Y.c_DialError) = some true → n < 11 → Es K Y H v vs ns → Es K Y H v (.ref a :: vs) (n :: ns)
theorem Es.same {K : PySem.W.Frag} {Y : AdX} {H H' : Hp} {v : V} (S : Same H H') : ∀ {vs : List V} {ns : List Nat}, Es K Y H v vs ns → Es K Y H' v vs ns
  | _, _, .nil => .nil
  | _, _, .cons h k d n r => .cons (h.same S) k d n (r.same S)
theorem Es.append {K : PySem.W.Frag} {Y : AdX} {H : Hp} {v : V} : ∀ {vs us : List V} {ns ms : List Nat}, Es K Y H v vs ns → Es K Y H v us ms → Es K Y H v (vs ++ us) (ns ++ ms)
  | _, _, _, _, .nil, q => q
  | _, _, _, _, .cons h k d n r, q => .cons h k d n (r.append q)
theorem Es.length {K : PySem.W.Frag} {Y : AdX} {H : Hp} {v : V} : ∀ {vs : List V} {ns : List Nat}, Es K Y H v vs ns → vs.length = ns.length
  | _, _, .nil => rfl
  | _, _, .cons h k d n r => by simp [r.length]
theorem Es.at {K : PySem.W.Frag} {Y : AdX} {H : Hp} {v : V} : ∀ {vs : List V} {ns : List Nat} {i : Nat} {y : V}, Es K Y H v vs ns → vs[i]? = some y → ∃ (a C : Addr) (n : Nat), ns[i]? = some n ∧ y = .ref a ∧ EK.Held K H a C [(("what" : Str), v)] ∧ KdA K Y C (fun i => decide (i = n)) ∧ PySem.W.kitOne K (.ref C) (.ref Y.c_DialError) = some true ∧ n < 11
  | _, _, i, y, .nil, e => by simp at e
  | _, _, 0, y, .cons (a := a) (C := C) (n := n) h k d l r, e => ⟨a, C, n, rfl, (Option.some.inj e).symm, h, k, d, l⟩
  | _, _, i + 1, y, .cons h k d l r, e => by
    obtain ⟨a, C, n, q⟩ := r.at (i := i) (y := y) (by simpa using e)
    exact ⟨a, C, n, by simpa using q⟩
/-- an error that was made: kept from there -/
theorem made_err {K : PySem.W.Frag} {H : Hp} {v : V} {C d e : Addr} (x : EK.ExF K C) (hd : H d = none) (he : H e = none) (hne : d ≠ e) : ∃ H', H' = upd (upd H d (.xd [(("what" : Str), v)])) e (EK.ExV (.ref C) (some d) e) ∧ Same H H' ∧ EK.Held K H' e C [(("what" : Str), v)] := by
  refine ⟨_, rfl, fun c o q => ?_, d, upd_same, ?_, x⟩
  · have c1 : c ≠ e := fun z => by rw [z, he] at q; cases q
    have c2 : c ≠ d := fun z => by rw [z, hd] at q; cases q
    rw [upd_ne c1, upd_ne c2]
    exact q
  · rw [upd_ne hne]
    exact upd_same
/-- lists of plain things, none of them the one that is being filled -/
inductive RowsD (K : PySem.W.Frag) (H : Hp) (D : Addr) : List V → List PyData → Prop
  | nil : RowsD K H D [] []
  | cons {p : Addr} {ys vs : List V} {ds rs : List PyData} : p ≠ D → H p = some (.lst ys) → DpAll K H ys ds → noL.noLs ds = true → RowsD K H D vs rs → RowsD K H D (.ref p :: vs) (.list ds :: rs)
theorem RowsD.dp {K : PySem.W.Frag} {H : Hp} {D : Addr} : ∀ {vs : List V} {rs : List PyData}, RowsD K H D vs rs → DpAll K H vs rs
  | _, _, .nil => .nil
  | _, _, .cons _ g d _ r => .cons (.lst (SqL.of g) d) r.dp
theorem RowsD.same {K : PySem.W.Frag} {H H' : Hp} {D : Addr} (S : Same H H') : ∀ {vs : List V} {rs : List PyData}, RowsD K H D vs rs → RowsD K H' D vs rs
  | _, _, .nil => .nil
  | _, _, .cons n g d l r => .cons n (S _ _ g) (dpAll_mono S _ _ d) l (r.same S)
theorem RowsD.length {K : PySem.W.Frag} {H : Hp} {D : Addr} : ∀ {vs : List V} {rs : List PyData}, RowsD K H D vs rs → vs.length = rs.length
  | _, _, .nil => rfl
  | _, _, .cons _ _ _ _ r => by simp [r.length]
theorem RowsD.put {K : PySem.W.Frag} {H : Hp} {D : Addr} {xs zs : List V} (hD : H D = some (.lst xs)) : ∀ {vs : List V} {rs : List PyData}, RowsD K H D vs rs → RowsD K (upd H D (.lst zs)) D vs rs
  | _, _, .nil => .nil
  | _, _, .cons n g d l r => .cons n (by rw [upd_ne n]; exact g) (dpAll_tups (Tups.upd_lst hD) _ _ l d) l (r.put hD)
theorem RowsD.snoc {K : PySem.W.Frag} {H : Hp} {D : Addr} {p : Addr} {ys : List V} {ds : List PyData} (n : p ≠ D) (g : H p = some (.lst ys)) (d : DpAll K H ys ds) (l : noL.noLs ds = true) : ∀ {vs : List V} {rs : List PyData}, RowsD K H D vs rs → RowsD K H D (vs ++ [.ref p]) (rs ++ [.list ds])
  | _, _, .nil => .cons n g d l .nil
  | _, _, .cons n' g' d' l' r => .cons n' g' d' l' (r.snoc n g d l)
theorem dpAll_true {K : PySem.W.Frag} {H : Hp} : ∀ n, DpAll K H (List.replicate n (.bl true)) (List.replicate n (.bool true))
  | 0 => .nil
  | n + 1 => .cons (.bl _) (dpAll_true n)
def nos : List Nat := [0, 1, 2, 3, 4, 5, 6, 7, 8, 9, 10]
def nos2 : List Nat := nos ++ nos
def nmD (n : Nat) : Str := (clN[n]?).getD ""
def rowM (dv : PyData) (n : Nat) : PyData := .list [.str (nmD n), dv, .bool true]
theorem few_all {ds : List PyData} (h : ∀ d ∈ ds, fewD d = true) : fewD.fewDs ds = true := by
  induction ds with
  | nil => rfl
  | cons d r ih => rw [fewD.fewDs, h d (by simp), ih fun x hx => h x (by simp [hx])]; rfl
theorem depth_all {ds : List PyData} {n : Nat} (h : ∀ d ∈ ds, d.depth ≤ n) : PyData.depthAll ds ≤ n := by
  induction ds with
  | nil => simp [PyData.depthAll]
  | cons d r ih =>
    rw [PyData.depthAll]
    have h1 := h d (by simp)
    have h2 := ih fun x hx => h x (by simp [hx])
    omega
theorem few_rows {dv : PyData} (h : fewD dv = true) : fewD (.list (nos2.map (rowM dv))) = true := by
  rw [fewD, few_all (by
    intro d hd
    obtain ⟨n, _, rfl⟩ := List.mem_map.mp hd
    simp [rowM, fewD, fewD.fewDs, h])]
  rfl
theorem depth_rows {dv : PyData} (h : dv.depth ≤ 1) : (PyData.list (nos2.map (rowM dv))).depth < 4 := by
  rw [PyData.depth]
  have : PyData.depthAll (nos2.map (rowM dv)) ≤ 2 := depth_all (by
    intro d hd
    obtain ⟨n, _, rfl⟩ := List.mem_map.mp hd
    simp [rowM, PyData.depth, PyData.depthAll]
    omega)
  omega
theorem nos_lt {n i : Nat} (h : nos2[i]? = some n) : n < 11 := by
  have := List.mem_of_getElem? h
  revert this
  have : ∀ m ∈ nos2, m < 11 := by decide
  exact fun q => this n q
def spMadeR (K : PySem.W.Frag) : Sp := fun vs H Q _ => ∃ (v : V) (dv : PyData), vs = [v] ∧ Dp K H v dv ∧ fewD dv = true ∧ dv.depth ≤ 1 ∧ noL dv = true ∧ ∀ H', Same H H' → Q (.bl true) H'
section
variable {P : Program} {w : World} {K : PySem.W.Frag} {mg : Str → Option Value} {base : Heap} {Z : Ad} {Y : AdX}
theorem ok_law_made_right (T : Tx K w mg Z) (X : Ex P K mg Y) : FnOk P w K mg base CX0 6 Z.a_law_made_right Z.d_law_made_right P_law_made_right (spMadeR K) := by
  refine T.F_law_made_right.ok sclaw_made_right (fun vs H Q E h => ?_) (fun cdv A outer s H vs Q E hr h => ?_)
  · obtain ⟨v, dv, rfl, _⟩ := h
    rfl
  · obtain ⟨v, dv, rfl, hv, hf, hdp, hnl, k⟩ := h
    refine ⟨_, (C8.pss_cut (ps_set (i := 1) sclaw_made_right.nd rfl (Or.inl rfl) (pe_lst (pa_cons (KN.pe_errV X.NoLength X.g_NoLength T.b_super hr (pa_cons (pv 0) pa_nil)) (pa_cons (KN.pe_errV X.NoWord X.g_NoWord T.b_super hr (pa_cons (pv 0) pa_nil)) (pa_cons (KN.pe_errV X.Clash X.g_Clash T.b_super hr (pa_cons (pv 0) pa_nil)) (pa_cons (KN.pe_errV X.NoLook X.g_NoLook T.b_super hr (pa_cons (pv 0) pa_nil)) (pa_cons (KN.pe_errV X.NoRound X.g_NoRound T.b_super hr (pa_cons (pv 0) pa_nil)) (pa_cons (KN.pe_errV X.NoUses X.g_NoUses T.b_super hr (pa_cons (pv 0) pa_nil)) (pa_cons (KN.pe_errV X.NoSide X.g_NoSide T.b_super hr (pa_cons (pv 0) pa_nil)) pa_nil)))))))))
      (C8.pss_cut (ps_set (i := 1) sclaw_made_right.nd rfl (Or.inl rfl) (pe_op op_cat (pv 1) (pe_lst (pa_cons (KN.pe_errV X.NoRing X.g_NoRing T.b_super hr (pa_cons (pv 0) pa_nil)) (pa_cons (KN.pe_errV X.NoSteps X.g_NoSteps T.b_super hr (pa_cons (pv 0) pa_nil)) (pa_cons (KN.pe_errV X.NoBottom X.g_NoBottom T.b_super hr (pa_cons (pv 0) pa_nil)) (pa_cons (KN.pe_errV X.NoText X.g_NoText T.b_super hr (pa_cons (pv 0) pa_nil)) pa_nil)))))))
      (C8.pss_cut (ps_set (i := 2) sclaw_made_right.nd rfl (Or.inl rfl) (pe_lst (pa_cons (KN.pe_errVK X.NoLength X.g_NoLength T.b_super hr (pk_cons (pv 0) pk_nil)) (pa_cons (KN.pe_errVK X.NoWord X.g_NoWord T.b_super hr (pk_cons (pv 0) pk_nil)) (pa_cons (KN.pe_errVK X.Clash X.g_Clash T.b_super hr (pk_cons (pv 0) pk_nil)) (pa_cons (KN.pe_errVK X.NoLook X.g_NoLook T.b_super hr (pk_cons (pv 0) pk_nil)) (pa_cons (KN.pe_errVK X.NoRound X.g_NoRound T.b_super hr (pk_cons (pv 0) pk_nil)) pa_nil)))))))
      (C8.pss_cut (ps_set (i := 2) sclaw_made_right.nd rfl (Or.inl rfl) (pe_op op_cat (pv 2) (pe_lst (pa_cons (KN.pe_errVK X.NoUses X.g_NoUses T.b_super hr (pk_cons (pv 0) pk_nil)) (pa_cons (KN.pe_errVK X.NoSide X.g_NoSide T.b_super hr (pk_cons (pv 0) pk_nil)) (pa_cons (KN.pe_errVK X.NoRing X.g_NoRing T.b_super hr (pk_cons (pv 0) pk_nil)) (pa_cons (KN.pe_errVK X.NoSteps X.g_NoSteps T.b_super hr (pk_cons (pv 0) pk_nil)) pa_nil)))))))
      (C8.pss_cut (ps_set (i := 1) sclaw_made_right.nd rfl (Or.inl rfl) (pe_op op_cat (pe_op op_cat (pv 1) (pv 2)) (pe_lst (pa_cons (KN.pe_errVK X.NoBottom X.g_NoBottom T.b_super hr (pk_cons (pv 0) pk_nil)) (pa_cons (KN.pe_errVK X.NoText X.g_NoText T.b_super hr (pk_cons (pv 0) pk_nil)) pa_nil)))))
      (C8.pss_cut (ps_set (i := 3) sclaw_made_right.nd rfl (Or.inl rfl) (pe_lst (pa_cons pe_str (pa_cons pe_str (pa_cons pe_str (pa_cons pe_str (pa_cons pe_str (pa_cons pe_str (pa_cons pe_str (pa_cons pe_str (pa_cons pe_str (pa_cons pe_str pa_nil))))))))))))
      (C8.pss_cut (ps_if (pt_cmpR (neDK (K := K) hr.units) (pe_lc (own := [("one", 4)]) (g := gName 4) (tt := tYes) rfl sclaw_made_right.nd (pi_list (pv 1)) (blkOk_by (own := [("one", 4)]) (N := N_law_made_right) (sc := defScope slaw_made_right) (by decide +kernel)) (fun _ _ _ _ _ => (pg_name (i := 4) sclaw_made_right.nd rfl (Or.inl rfl))) (fun _ _ _ _ _ => pts_nil) (fun _ _ _ _ _ => (pe_callB (EK.call_isiE (K := K)) (by rfl) T.b_isinstance (by decide +kernel) (pa_cons (pv 4) (pa_cons (pe_glob (v := .ref Y.c_DialError) rfl X.g_DialError rfl) pa_nil))))) (pe_op op_rep (pe_lst (pa_cons pe_bl pa_nil)) pe_int) (nomark _)) (pss_one (ps_ret pe_bl)) pss_nil)
      (pss_one (ps_ret (pe_call (ok_law_alike T 4) (hr.mono (by decide)) (by rfl) T.g_law_alike T.F_law_alike.kp T.bb_law_alike .nil pass0 (pa_cons (pe_lc (own := [("one", 4)]) (g := gName 4) (tt := tYes) rfl sclaw_made_right.nd (pi_list (pv 1)) (blkOk_by (own := [("one", 4)]) (N := N_law_made_right) (sc := defScope slaw_made_right) (by decide +kernel)) (fun _ _ _ _ _ => (pg_name (i := 4) sclaw_made_right.nd rfl (Or.inl rfl))) (fun _ _ _ _ _ => pts_nil) (fun _ _ _ _ _ => (pe_call (ok_law_kind T X) (hr.mono (by decide)) (by rfl) T.g_law_kind T.F_law_kind.kp T.bb_law_kind .nil pass0 (pa_cons (pv 4) pa_nil)))) (pa_cons (pe_lc (own := [("name", 5)]) (g := gName 5) (tt := tYes) rfl sclaw_made_right.nd (pi_list (pe_op op_rep (pe_op op_cat (pv 3) (pe_lst (pa_cons pe_str pa_nil))) pe_int)) (blkOk_by (own := [("name", 5)]) (N := N_law_made_right) (sc := defScope slaw_made_right) (by decide +kernel)) (fun _ _ _ _ _ => (pg_name (i := 5) sclaw_made_right.nd rfl (Or.inl rfl))) (fun _ _ _ _ _ => pts_nil) (fun _ _ _ _ _ => (pe_lst (pa_cons (pv 5) (pa_cons (pv 0) (pa_cons pe_bl pa_nil)))))) pa_nil)))))))))))), ?_⟩
    refine ⟨fun σ' H' => ∃ (p : Addr) (xs : List V), σ' = [some v, some (.ref p), none, none, none, none] ∧ Same H H' ∧ H' p = some (.lst xs) ∧ Es K Y H' v xs [0, 1, 2, 3, 4, 5, 6], ?_, ?_⟩
    · refine ⟨_, rfl, _, rfl, fun d0 e0 hd0 he0 hn0 => ?_⟩
      obtain ⟨G0, eG0, T0, w0⟩ := made_err (v := v) X.x_NoLength hd0 he0 hn0
      rw [← eG0]
      clear eG0
      have S0 : Same H G0 := T0
      have A0 : Es K Y G0 v [.ref e0] [0] := .cons w0 (kd_NoLength X) (kit_exm X.d_NoLength) (by decide) .nil
      refine ⟨_, rfl, _, rfl, fun d1 e1 hd1 he1 hn1 => ?_⟩
      obtain ⟨G1, eG1, T1, w1⟩ := made_err (v := v) X.x_NoWord hd1 he1 hn1
      rw [← eG1]
      clear eG1
      have S1 : Same H G1 := S0.trans T1
      have A1 : Es K Y G1 v [.ref e0, .ref e1] [0, 1] := (A0.same T1).append (.cons w1 (kd_NoWord X) (kit_exm X.d_NoWord) (by decide) .nil)
      refine ⟨_, rfl, _, rfl, fun d2 e2 hd2 he2 hn2 => ?_⟩
      obtain ⟨G2, eG2, T2, w2⟩ := made_err (v := v) X.x_Clash hd2 he2 hn2
      rw [← eG2]
      clear eG2
      have S2 : Same H G2 := S1.trans T2
      have A2 : Es K Y G2 v [.ref e0, .ref e1, .ref e2] [0, 1, 2] := (A1.same T2).append (.cons w2 (kd_Clash X) (kit_exm X.d_Clash) (by decide) .nil)
      refine ⟨_, rfl, _, rfl, fun d3 e3 hd3 he3 hn3 => ?_⟩
      obtain ⟨G3, eG3, T3, w3⟩ := made_err (v := v) X.x_NoLook hd3 he3 hn3
      rw [← eG3]
      clear eG3
      have S3 : Same H G3 := S2.trans T3
      have A3 : Es K Y G3 v [.ref e0, .ref e1, .ref e2, .ref e3] [0, 1, 2, 3] := (A2.same T3).append (.cons w3 (kd_NoLook X) (kit_exm X.d_NoLook) (by decide) .nil)
      refine ⟨_, rfl, _, rfl, fun d4 e4 hd4 he4 hn4 => ?_⟩
      obtain ⟨G4, eG4, T4, w4⟩ := made_err (v := v) X.x_NoRound hd4 he4 hn4
      rw [← eG4]
      clear eG4
      have S4 : Same H G4 := S3.trans T4
      have A4 : Es K Y G4 v [.ref e0, .ref e1, .ref e2, .ref e3, .ref e4] [0, 1, 2, 3, 4] := (A3.same T4).append (.cons w4 (kd_NoRound X) (kit_exm X.d_NoRound) (by decide) .nil)
      refine ⟨_, rfl, _, rfl, fun d5 e5 hd5 he5 hn5 => ?_⟩
      obtain ⟨G5, eG5, T5, w5⟩ := made_err (v := v) X.x_NoUses hd5 he5 hn5
      rw [← eG5]
      clear eG5
      have S5 : Same H G5 := S4.trans T5
      have A5 : Es K Y G5 v [.ref e0, .ref e1, .ref e2, .ref e3, .ref e4, .ref e5] [0, 1, 2, 3, 4, 5] := (A4.same T5).append (.cons w5 (kd_NoUses X) (kit_exm X.d_NoUses) (by decide) .nil)
      refine ⟨_, rfl, _, rfl, fun d6 e6 hd6 he6 hn6 => ?_⟩
      obtain ⟨G6, eG6, T6, w6⟩ := made_err (v := v) X.x_NoSide hd6 he6 hn6
      rw [← eG6]
      clear eG6
      have S6 : Same H G6 := S5.trans T6
      have A6 : Es K Y G6 v [.ref e0, .ref e1, .ref e2, .ref e3, .ref e4, .ref e5, .ref e6] [0, 1, 2, 3, 4, 5, 6] := (A5.same T6).append (.cons w6 (kd_NoSide X) (kit_exm X.d_NoSide) (by decide) .nil)
      refine ⟨(by show 7 ≤ sizeLine; decide), fun q hq => ?_⟩
      have Sq := same_upd (o := HO.lst [V.ref e0, V.ref e1, V.ref e2, V.ref e3, V.ref e4, V.ref e5, V.ref e6]) hq
      exact ⟨q, _, rfl, S6.trans Sq, upd_same, A6.same Sq⟩
    rintro σ1 H1 ⟨p1, xs1, rfl, S1, g1, E1⟩
    refine ⟨fun σ' H' => ∃ (p : Addr) (xs : List V), σ' = [some v, some (.ref p), none, none, none, none] ∧ Same H H' ∧ H' p = some (.lst xs) ∧ Es K Y H' v xs nos, ?_, ?_⟩
    · refine ⟨_, rfl, ?_⟩
      refine ⟨_, rfl, _, rfl, fun d7 e7 hd7 he7 hn7 => ?_⟩
      obtain ⟨G7, eG7, T7, w7⟩ := made_err (v := v) X.x_NoRing hd7 he7 hn7
      rw [← eG7]
      clear eG7
      have S7 : Same H1 G7 := T7
      have A7 : Es K Y G7 v [.ref e7] [7] := .cons w7 (kd_NoRing X) (kit_exm X.d_NoRing) (by decide) .nil
      refine ⟨_, rfl, _, rfl, fun d8 e8 hd8 he8 hn8 => ?_⟩
      obtain ⟨G8, eG8, T8, w8⟩ := made_err (v := v) X.x_NoSteps hd8 he8 hn8
      rw [← eG8]
      clear eG8
      have S8 : Same H1 G8 := S7.trans T8
      have A8 : Es K Y G8 v [.ref e7, .ref e8] [7, 8] := (A7.same T8).append (.cons w8 (kd_NoSteps X) (kit_exm X.d_NoSteps) (by decide) .nil)
      refine ⟨_, rfl, _, rfl, fun d9 e9 hd9 he9 hn9 => ?_⟩
      obtain ⟨G9, eG9, T9, w9⟩ := made_err (v := v) X.x_NoBottom hd9 he9 hn9
      rw [← eG9]
      clear eG9
      have S9 : Same H1 G9 := S8.trans T9
      have A9 : Es K Y G9 v [.ref e7, .ref e8, .ref e9] [7, 8, 9] := (A8.same T9).append (.cons w9 (kd_NoBottom X) (kit_exm X.d_NoBottom) (by decide) .nil)
      refine ⟨_, rfl, _, rfl, fun d10 e10 hd10 he10 hn10 => ?_⟩
      obtain ⟨G10, eG10, T10, w10⟩ := made_err (v := v) X.x_NoText hd10 he10 hn10
      rw [← eG10]
      clear eG10
      have S10 : Same H1 G10 := S9.trans T10
      have A10 : Es K Y G10 v [.ref e7, .ref e8, .ref e9, .ref e10] [7, 8, 9, 10] := (A9.same T10).append (.cons w10 (kd_NoText X) (kit_exm X.d_NoText) (by decide) .nil)
      refine ⟨(by show 4 ≤ sizeLine; decide), fun q hq => ?_⟩
      have Sq := same_upd (o := HO.lst [V.ref e7, V.ref e8, V.ref e9, V.ref e10]) hq
      have l1 : xs1.length = 7 := E1.length
      refine ⟨p1, q, xs1, _, rfl, rfl, (S10.trans Sq) _ _ g1, upd_same, Nat.le_trans (by rw [l1]; simp : _ ≤ 100) (by decide), fun c hc => ?_⟩
      have Sc := (S10.trans Sq).trans (same_upd (o := HO.lst (xs1 ++ [V.ref e7, V.ref e8, V.ref e9, V.ref e10])) hc)
      exact ⟨c, _, rfl, S1.trans Sc, upd_same, (E1.same Sc).append ((A10.same Sq).same (same_upd hc))⟩
    rintro σ2 H2 ⟨p2, xs2, rfl, S2, g2, E2⟩
    refine ⟨fun σ' H' => ∃ (p : Addr) (xs : List V), σ' = [some v, some (.ref p2), some (.ref p), none, none, none] ∧ Same H2 H' ∧ H' p = some (.lst xs) ∧ Es K Y H' v xs [0, 1, 2, 3, 4], ?_, ?_⟩
    · refine ⟨_, rfl, _, rfl, fun d11 e11 hd11 he11 hn11 => ?_⟩
      obtain ⟨G11, eG11, T11, w11⟩ := made_err (v := v) X.x_NoLength hd11 he11 hn11
      rw [← eG11]
      clear eG11
      have S11 : Same H2 G11 := T11
      have A11 : Es K Y G11 v [.ref e11] [0] := .cons w11 (kd_NoLength X) (kit_exm X.d_NoLength) (by decide) .nil
      refine ⟨_, rfl, _, rfl, fun d12 e12 hd12 he12 hn12 => ?_⟩
      obtain ⟨G12, eG12, T12, w12⟩ := made_err (v := v) X.x_NoWord hd12 he12 hn12
      rw [← eG12]
      clear eG12
      have S12 : Same H2 G12 := S11.trans T12
      have A12 : Es K Y G12 v [.ref e11, .ref e12] [0, 1] := (A11.same T12).append (.cons w12 (kd_NoWord X) (kit_exm X.d_NoWord) (by decide) .nil)
      refine ⟨_, rfl, _, rfl, fun d13 e13 hd13 he13 hn13 => ?_⟩
      obtain ⟨G13, eG13, T13, w13⟩ := made_err (v := v) X.x_Clash hd13 he13 hn13
      rw [← eG13]
      clear eG13
      have S13 : Same H2 G13 := S12.trans T13
      have A13 : Es K Y G13 v [.ref e11, .ref e12, .ref e13] [0, 1, 2] := (A12.same T13).append (.cons w13 (kd_Clash X) (kit_exm X.d_Clash) (by decide) .nil)
      refine ⟨_, rfl, _, rfl, fun d14 e14 hd14 he14 hn14 => ?_⟩
      obtain ⟨G14, eG14, T14, w14⟩ := made_err (v := v) X.x_NoLook hd14 he14 hn14
      rw [← eG14]
      clear eG14
      have S14 : Same H2 G14 := S13.trans T14
      have A14 : Es K Y G14 v [.ref e11, .ref e12, .ref e13, .ref e14] [0, 1, 2, 3] := (A13.same T14).append (.cons w14 (kd_NoLook X) (kit_exm X.d_NoLook) (by decide) .nil)
      refine ⟨_, rfl, _, rfl, fun d15 e15 hd15 he15 hn15 => ?_⟩
      obtain ⟨G15, eG15, T15, w15⟩ := made_err (v := v) X.x_NoRound hd15 he15 hn15
      rw [← eG15]
      clear eG15
      have S15 : Same H2 G15 := S14.trans T15
      have A15 : Es K Y G15 v [.ref e11, .ref e12, .ref e13, .ref e14, .ref e15] [0, 1, 2, 3, 4] := (A14.same T15).append (.cons w15 (kd_NoRound X) (kit_exm X.d_NoRound) (by decide) .nil)
      refine ⟨(by show 5 ≤ sizeLine; decide), fun q hq => ?_⟩
      have Sq := same_upd (o := HO.lst [V.ref e11, V.ref e12, V.ref e13, V.ref e14, V.ref e15]) hq
      exact ⟨q, _, rfl, S15.trans Sq, upd_same, A15.same Sq⟩
    rintro σ3 H3 ⟨p3, xs3, rfl, S3, g3, E3⟩
    refine ⟨fun σ' H' => ∃ (p : Addr) (xs : List V), σ' = [some v, some (.ref p2), some (.ref p), none, none, none] ∧ Same H2 H' ∧ H' p = some (.lst xs) ∧ Es K Y H' v xs [0, 1, 2, 3, 4, 5, 6, 7, 8], ?_, ?_⟩
    · refine ⟨_, rfl, ?_⟩
      refine ⟨_, rfl, _, rfl, fun d16 e16 hd16 he16 hn16 => ?_⟩
      obtain ⟨G16, eG16, T16, w16⟩ := made_err (v := v) X.x_NoUses hd16 he16 hn16
      rw [← eG16]
      clear eG16
      have S16 : Same H3 G16 := T16
      have A16 : Es K Y G16 v [.ref e16] [5] := .cons w16 (kd_NoUses X) (kit_exm X.d_NoUses) (by decide) .nil
      refine ⟨_, rfl, _, rfl, fun d17 e17 hd17 he17 hn17 => ?_⟩
      obtain ⟨G17, eG17, T17, w17⟩ := made_err (v := v) X.x_NoSide hd17 he17 hn17
      rw [← eG17]
      clear eG17
      have S17 : Same H3 G17 := S16.trans T17
      have A17 : Es K Y G17 v [.ref e16, .ref e17] [5, 6] := (A16.same T17).append (.cons w17 (kd_NoSide X) (kit_exm X.d_NoSide) (by decide) .nil)
      refine ⟨_, rfl, _, rfl, fun d18 e18 hd18 he18 hn18 => ?_⟩
      obtain ⟨G18, eG18, T18, w18⟩ := made_err (v := v) X.x_NoRing hd18 he18 hn18
      rw [← eG18]
      clear eG18
      have S18 : Same H3 G18 := S17.trans T18
      have A18 : Es K Y G18 v [.ref e16, .ref e17, .ref e18] [5, 6, 7] := (A17.same T18).append (.cons w18 (kd_NoRing X) (kit_exm X.d_NoRing) (by decide) .nil)
      refine ⟨_, rfl, _, rfl, fun d19 e19 hd19 he19 hn19 => ?_⟩
      obtain ⟨G19, eG19, T19, w19⟩ := made_err (v := v) X.x_NoSteps hd19 he19 hn19
      rw [← eG19]
      clear eG19
      have S19 : Same H3 G19 := S18.trans T19
      have A19 : Es K Y G19 v [.ref e16, .ref e17, .ref e18, .ref e19] [5, 6, 7, 8] := (A18.same T19).append (.cons w19 (kd_NoSteps X) (kit_exm X.d_NoSteps) (by decide) .nil)
      refine ⟨(by show 4 ≤ sizeLine; decide), fun q hq => ?_⟩
      have Sq := same_upd (o := HO.lst [V.ref e16, V.ref e17, V.ref e18, V.ref e19]) hq
      have l3 : xs3.length = 5 := E3.length
      refine ⟨p3, q, xs3, _, rfl, rfl, (S19.trans Sq) _ _ g3, upd_same, Nat.le_trans (by rw [l3]; simp : _ ≤ 100) (by decide), fun c hc => ?_⟩
      have Sc := (S19.trans Sq).trans (same_upd (o := HO.lst (xs3 ++ [V.ref e16, V.ref e17, V.ref e18, V.ref e19])) hc)
      exact ⟨c, _, rfl, S3.trans Sc, upd_same, (E3.same Sc).append ((A19.same Sq).same (same_upd hc))⟩
    rintro σ4 H4 ⟨p4, xs4, rfl, S4, g4, E4⟩
    have g24 := S4 _ _ g2
    have E24 := E2.same S4
    refine ⟨fun σ' H' => ∃ (p : Addr) (xs : List V), σ' = [some v, some (.ref p), some (.ref p4), none, none, none] ∧ Same H4 H' ∧ H' p = some (.lst xs) ∧ Es K Y H' v xs nos2, ?_, ?_⟩
    · have l2 : xs2.length = 11 := E2.length
      have l4 : xs4.length = 9 := E4.length
      refine ⟨_, rfl, _, rfl, p2, p4, xs2, xs4, rfl, rfl, g24, g4, Nat.le_trans (by rw [l2, l4]; decide : _ ≤ 100) (by decide), fun c hc => ?_⟩
      have Sb := same_upd (o := HO.lst (xs2 ++ xs4)) hc
      have gb : (upd H4 c (HO.lst (xs2 ++ xs4))) c = some (.lst (xs2 ++ xs4)) := upd_same
      have Eb := (E24.append E4).same Sb
      generalize upd H4 c (HO.lst (xs2 ++ xs4)) = H5 at Sb gb Eb ⊢
      refine ⟨_, rfl, _, rfl, fun d20 e20 hd20 he20 hn20 => ?_⟩
      obtain ⟨G20, eG20, T20, w20⟩ := made_err (v := v) X.x_NoBottom hd20 he20 hn20
      rw [← eG20]
      clear eG20
      have S20 : Same H5 G20 := T20
      have A20 : Es K Y G20 v [.ref e20] [9] := .cons w20 (kd_NoBottom X) (kit_exm X.d_NoBottom) (by decide) .nil
      refine ⟨_, rfl, _, rfl, fun d21 e21 hd21 he21 hn21 => ?_⟩
      obtain ⟨G21, eG21, T21, w21⟩ := made_err (v := v) X.x_NoText hd21 he21 hn21
      rw [← eG21]
      clear eG21
      have S21 : Same H5 G21 := S20.trans T21
      have A21 : Es K Y G21 v [.ref e20, .ref e21] [9, 10] := (A20.same T21).append (.cons w21 (kd_NoText X) (kit_exm X.d_NoText) (by decide) .nil)
      refine ⟨(by show 2 ≤ sizeLine; decide), fun q hq => ?_⟩
      have Sq := same_upd (o := HO.lst [V.ref e20, V.ref e21]) hq
      refine ⟨c, q, _, _, rfl, rfl, (S21.trans Sq) _ _ gb, upd_same, Nat.le_trans (by rw [List.length_append, l2, l4]; simp : _ ≤ 100) (by decide), fun c2 hc2 => ?_⟩
      have Sc := (S21.trans Sq).trans (same_upd (o := HO.lst (xs2 ++ xs4 ++ [V.ref e20, V.ref e21])) hc2)
      exact ⟨c2, _, rfl, Sb.trans Sc, upd_same, (Eb.same Sc).append ((A21.same Sq).same (same_upd hc2))⟩
    rintro σ5 H5 ⟨p5, xs5, rfl, S5, g5, E5⟩
    refine ⟨fun σ' H' => ∃ (pn : Addr), σ' = [some v, some (.ref p5), some (.ref p4), some (.ref pn), none, none] ∧ Same H5 H' ∧ H' pn = some (.lst ((clN.take 10).map V.str)), ?_, ?_⟩
    · refine ⟨(by show 10 ≤ sizeLine; decide), fun q hq => ?_⟩
      exact ⟨q, rfl, same_upd hq, upd_same⟩
    rintro σ6 H6 ⟨pn, rfl, S6, g6⟩
    have l5 : xs5.length = 22 := E5.length
    have S06 : Same H H6 := ((S2.trans S4).trans S5).trans S6
    have g56 := S6 _ _ g5
    have E56 := E5.same S6
    have hv6 := dp_mono S06 _ _ hv
    refine ⟨fun σ' H' => σ' = [some v, some (.ref p5), some (.ref p4), some (.ref pn), none, none] ∧ Same H6 H', ?_, ?_⟩
    · refine ⟨_, rfl, p5, rfl, ⟨_, SqL.of g56⟩, fun D hD => ?_⟩
      refine lc_list (K := K) (a := p5) (xs := xs5) (fun i H' => Same H6 H' ∧ H' D = some (.lst (List.replicate i (V.bl true)))) ⟨same_upd hD, upd_same⟩ (fun i H' _ ⟨S, _⟩ => SqL.of (S _ _ g56)) ?_ ?_
      · rintro i y H7 hi ⟨S7, gD⟩
        obtain ⟨a, C, n, hn, rfl, hh, kd, hk, hl⟩ := E56.at hi
        have hi' : i < xs5.length := (List.getElem?_eq_some_iff.mp hi).1
        refine ⟨rfl, yes_ite ?_⟩
        refine ⟨_, rfl, a, C, _, _, _, true, rfl, hh.same S7, .own _, hk, ?_⟩
        refine ⟨_, gD, small1000 (by simp; omega), same_set S7 hD, ?_⟩
        rw [List.replicate_succ']
        exact upd_same
      rintro H7 ⟨S7, gD⟩
      rw [l5] at gD
      refine ⟨(by show 1 ≤ sizeLine; decide), fun q hq => ?_⟩
      have Sq := same_upd (o := HO.lst [V.bl true]) hq
      refine ⟨q, 22, _, rfl, rfl, upd_same, by decide, by decide, (by show 1 * 22 ≤ sizeLine; decide), fun r hr => ?_⟩
      have Sr := Sq.trans (same_upd (o := HO.lst (List.replicate (22 : Int).toNat [V.bl true]).flatten) hr)
      refine ⟨.list (List.replicate 22 (.bool true)), .list (List.replicate 22 (.bool true)), .lst (SqL.of (Sr _ _ gD)) (dpAll_true 22), .lst (SqL.of upd_same) (dpAll_true 22), rfl, rfl, _, rfl, iteF ⟨rfl, S7.trans Sr⟩⟩
    rintro σ7 H7 ⟨rfl, S7⟩
    have g57 := S7 _ _ g56
    have E57 := E56.same S7
    have hv7 := dp_mono S7 _ _ hv6
    have g67 := S7 _ _ g6
    refine ⟨_, rfl, p5, rfl, ⟨_, SqL.of g57⟩, fun D hD => ?_⟩
    refine lc_list (K := K) (a := p5) (xs := xs5) (fun i H' => Same H7 H' ∧ ∃ vs, H' D = some (.lst vs) ∧ RowsD K H' D vs ((nos2.take i).map (rowM dv))) ⟨same_upd hD, [], upd_same, .nil⟩ (fun i H' _ ⟨S, _⟩ => SqL.of (S _ _ g57)) ?_ ?_
    · rintro i y H8 hi ⟨S8, vs, gD, R8⟩
      obtain ⟨a, C, n, hn, rfl, hh, kd, hk, hl⟩ := E57.at hi
      have hi' : i < xs5.length := (List.getElem?_eq_some_iff.mp hi).1
      have hvl : vs.length ≤ i := by rw [R8.length, List.length_map, List.length_take]; omega
      refine ⟨rfl, yes_ite ?_⟩
      refine ⟨_, rfl, a, C, _, v, dv, rfl, hh.same S8, kd, dp_mono S8 _ _ hv7, fun H9 r ys hr S9 g9 d9 => ?_⟩
      obtain ⟨x, hx, en⟩ := names_n hl
      rw [en] at d9
      have rD : r ≠ D := fun z => by rw [z, gD] at hr; cases hr
      have ex : nmD n = x := by unfold nmD; rw [hx]; rfl
      refine ⟨vs, S9 _ _ gD, small1000 (by omega), same_set (S8.trans S9) hD, _, upd_same, ?_⟩
      rw [take_snoc hn, List.map_append]
      refine (R8.same S9).put (S9 _ _ gD) |>.snoc (ds := [.str (nmD n), dv, .bool true]) rD (by rw [upd_ne rD]; exact g9) (dpAll_tups (Tups.upd_lst (S9 _ _ gD)) _ _ ?_ ?_) ?_
      · simp [noL, noL.noLs, hnl]
      · rw [ex]; exact d9
      · simp [noL, noL.noLs, hnl]
    rintro H8 ⟨S8, vs8, gD8, R8⟩
    rw [l5] at R8
    have d8 : DpAll K H8 vs8 (nos2.map (rowM dv)) := R8.dp
    have g68 := S8 _ _ g67
    have hv8 := dp_mono S8 _ _ hv7
    refine ⟨_, rfl, (by show 1 ≤ sizeLine; decide), fun q hq => ?_⟩
    have Sq := same_upd (o := HO.lst [V.str "NoText"]) hq
    refine ⟨pn, q, _, _, rfl, rfl, Sq _ _ g68, upd_same, (by show 11 ≤ sizeLine; decide), fun c hc => ?_⟩
    have Sc := Sq.trans (same_upd (o := HO.lst ((clN.take 10).map V.str ++ [V.str "NoText"])) hc)
    refine ⟨c, 2, _, rfl, rfl, upd_same, by decide, by decide, (by show 11 * 2 ≤ sizeLine; decide), fun r hr => ?_⟩
    have Sr := Sc.trans (same_upd (o := HO.lst (List.replicate (2 : Int).toNat ((clN.take 10).map V.str ++ [V.str "NoText"])).flatten) hr)
    obtain ⟨zs, ez⟩ : ∃ zs, zs = (List.replicate (2 : Int).toNat ((clN.take 10).map V.str ++ [V.str "NoText"])).flatten := ⟨_, rfl⟩
    have ez2 : zs = nos2.map fun n => V.str (nmD n) := ez.trans rfl
    rw [← ez] at Sr ⊢
    have gr : (upd (upd (upd H8 q (HO.lst [V.str "NoText"])) c (HO.lst ((clN.take 10).map V.str ++ [V.str "NoText"]))) r (HO.lst zs)) r = some (.lst zs) := upd_same
    clear ez
    generalize (upd (upd (upd H8 q (HO.lst [V.str "NoText"])) c (HO.lst ((clN.take 10).map V.str ++ [V.str "NoText"]))) r (HO.lst zs)) = H9 at Sr gr ⊢
    have hv9 := dp_mono Sr _ _ hv8
    refine ⟨r, rfl, ⟨_, SqL.of gr⟩, fun D2 hD2 => ?_⟩
    refine lc_list (K := K) (a := r) (xs := zs) (fun i H' => Same H9 H' ∧ ∃ vs, H' D2 = some (.lst vs) ∧ RowsD K H' D2 vs ((nos2.take i).map (rowM dv))) ⟨same_upd hD2, [], upd_same, .nil⟩ (fun i H' _ ⟨S, _⟩ => SqL.of (S _ _ gr)) ?_ ?_
    · rintro i y HA hi ⟨SA, vs, gD, RA⟩
      have hi2 := hi
      rw [ez2] at hi2
      obtain ⟨n, hn, rfl⟩ := map_at hi2
      have hi' : i < nos2.length := (List.getElem?_eq_some_iff.mp hn).1
      have hvl : vs.length ≤ 22 := by rw [RA.length, List.length_map, List.length_take]; exact Nat.le_trans (Nat.min_le_right _ _) (by decide)
      refine ⟨rfl, yes_ite ?_⟩
      refine ⟨_, rfl, _, rfl, (by show 3 ≤ sizeLine; decide), fun z hz => ?_⟩
      have Sz := same_upd (o := HO.lst [V.str (nmD n), v, .bl true]) hz
      have zD : z ≠ D2 := fun e => by rw [e, gD] at hz; cases hz
      have gz : (upd HA z (HO.lst [V.str (nmD n), v, .bl true])) z = some (.lst [V.str (nmD n), v, .bl true]) := upd_same
      generalize upd HA z (HO.lst [V.str (nmD n), v, .bl true]) = HB at Sz gz ⊢
      have hvB := dp_mono (SA.trans Sz) _ _ hv9
      refine ⟨vs, Sz _ _ gD, small1000 (by omega), same_set (SA.trans Sz) hD2, _, upd_same, ?_⟩
      rw [take_snoc hn, List.map_append]
      refine (RA.same Sz).put (Sz _ _ gD) |>.snoc (ds := [.str (nmD n), dv, .bool true]) zD (by rw [upd_ne zD]; exact gz) (dpAll_tups (Tups.upd_lst (Sz _ _ gD)) _ _ ?_ (.cons (.str _) (.cons hvB (.cons (.bl _) .nil)))) ?_
      · simp [noL, noL.noLs, hnl]
      · simp [noL, noL.noLs, hnl]
    rintro HA ⟨SA, vsA, gDA, RA⟩
    have lz : zs.length = 22 := by rw [ez2]; rfl
    rw [lz] at RA
    have dA : DpAll K HA vsA (nos2.map (rowM dv)) := RA.dp
    have S8A := Sr.trans SA
    exact ⟨.ref D, .ref D2, .list (nos2.map (rowM dv)), rfl, .lst (SqL.of (S8A _ _ gD8)) (dpAll_mono S8A _ _ d8), .lst (SqL.of gDA) dA, few_rows hf, depth_rows hdp, k _ (((S06.trans S7).trans S8).trans S8A)⟩
end
end KA
namespace KA
open PySem PySem.Spec PyProof.Rows L2 DP
def oddS : List Str := ["", "At", "AT", "at ", " at", "to", "up to", "up", "from ", "fro", "below", "above", "atfrom", "upto ", "a"]
theorem odd_bad : ∀ x ∈ oddS, ¬ WordOk x := by
  intro x hx h
  have e : ∀ x ∈ oddS, (x == ("at" : Str)) = false ∧ (x == ("from" : Str)) = false ∧ (x == ("upto" : Str)) = false := by decide +kernel
  obtain ⟨e1, e2, e3⟩ := e x hx
  rcases h with h | h | h
  · rw [h] at e1; exact absurd e1 (by decide +kernel)
  · rw [h] at e2; exact absurd e2 (by decide +kernel)
  · rw [h] at e3; exact absurd e3 (by decide +kernel)
theorem home_nr {L : Int} {l : Lk} (hL : 0 < L) (hb : L.natAbs < 2 ^ 200) (h : (l.2.2 - l.2.1).natAbs < 2 ^ 199) : Sized 300 (home L l) := by
  have h0 : (home L l).2.1.natAbs < 2 ^ 200 := emod_small (x := l.2.1) hL hb
  have e2 : (home L l).2.2 = (l.2.2 - l.2.1) + (home L l).2.1 := by
    show l.2.2 - l.2.1 / L * L = (l.2.2 - l.2.1) + (l.2.1 - l.2.1 / L * L)
    omega
  refine ⟨lt_up h0 (by decide), ?_⟩
  rw [e2]
  have b1 : (2 : Nat) ^ 199 ≤ 2 ^ 298 := Nat.pow_le_pow_right (by decide) (by decide)
  have b2 : (2 : Nat) ^ 200 ≤ 2 ^ 298 := Nat.pow_le_pow_right (by decide) (by decide)
  have b3 : (2 : Nat) ^ 300 = 4 * 2 ^ 298 := by decide
  rw [b3]
  generalize (home L l).2.1 = z at h0 ⊢
  generalize (2 : Nat) ^ 298 = B at b1 b2 ⊢
  generalize (2 : Nat) ^ 199 = C at b1 h
  generalize (2 : Nat) ^ 200 = D at b2 h0
  omega
theorem few_word (x : Str) : fewD (wordD x) = true := by simp [wordD, fewD, fewD.fewDs]
theorem depth_word (x : Str) : (wordD x).depth < 4 := by simp [wordD, PyData.depth, PyData.depthAll]
theorem few_look (l : Lk) : fewD (lookD l) = true := by simp [lookD, encL, fewD, fewD.fewDs]
theorem depth_lookD (l : Lk) : (lookD l).depth < 4 := by simp [lookD, encL, PyData.depth, PyData.depthAll]
def spLaw (K : PySem.W.Frag) : Sp := fun vs H Q _ => ∃ (a : Addr) (ns : List Int), vs = [.ref a] ∧ SqL K H a (ns.map V.int) ∧ ns.length ≤ 63 ∧ ∀ H', Q (.bl true) H'
section
variable {P : Program} {w : World} {K : PySem.W.Frag} {mg : Str → Option Value} {base : Heap} {Z : Ad} {Y : AdX}
theorem ok_law (T : Tx K w mg Z) (X : Ex P K mg Y) : FnOk P w K mg base CX0 12 Z.a_law Z.d_law P_law (spLaw K) := by
  refine T.F_law.ok sclaw (fun vs H Q E h => ?_) (fun cdv A outer s H vs Q E hr h => ?_)
  · obtain ⟨a, ns, rfl, _⟩ := h
    rfl
  · obtain ⟨a, ns, rfl, hS, hlen, k⟩ := h
    refine ⟨_, (pss_cons (ps_set (i := 1) sclaw.nd rfl (Or.inl rfl) (pe_call (ok_law_tray T) (hr.mono (by decide)) (by rfl) T.g_law_tray T.F_law_tray.kp T.bb_law_tray .nil pass0 (pa_cons (pv 0) pa_nil)))
      (pss_cons (ps_set (i := 2) sclaw.nd rfl (Or.inl rfl) (pe_lst (pa_cons pe_str (pa_cons pe_str (pa_cons pe_str (pa_cons pe_str (pa_cons pe_str (pa_cons pe_str (pa_cons pe_str (pa_cons pe_str (pa_cons pe_str (pa_cons pe_str (pa_cons pe_str (pa_cons pe_str (pa_cons pe_str (pa_cons pe_str (pa_cons pe_str pa_nil)))))))))))))))))
      (pss_cons (ps_for PassesOwn.never rfl (pi_list (pe_lst (pa_cons pe_int (pa_cons pe_str (pa_cons pe_non (pa_cons (pe_tup (pa_cons pe_int (pa_cons pe_str pa_nil))) pa_nil)))))) (pg_name (i := 3) sclaw.nd rfl (Or.inl rfl)) (pss_one (ps_if (pt_not (pt_val (pe_call (ok_law_made_right T X) (hr.mono (by decide)) (by rfl) T.g_law_made_right T.F_law_made_right.kp T.bb_law_made_right .nil pass0 (pa_cons (pv 3) pa_nil)))) (pss_one (ps_ret pe_bl)) pss_nil)))
      (pss_cons (ps_for PassesOwn.never rfl (pi_range1 (by rfl) T.b_range (pa_cons (pe_op op_add pe_int (pe_callB (lenK (K := K)) (by rfl) T.b_len (by decide +kernel) (pa_cons (pe_slice (slL (K := K)) (pv 0) po_none (po_some pe_int)) pa_nil))) pa_nil)) (pg_name (i := 4) sclaw.nd rfl (Or.inl rfl)) (C8.pss_cut (ps_set (i := 5) sclaw.nd rfl (Or.inr rfl) (pe_call (ok_law_length T) (hr.mono (by decide)) (by rfl) T.g_law_length T.F_law_length.kp T.bb_law_length .nil pass0 (pa_cons (pv 1) pa_nil)))
      (C8.pss_cut (ps_setLc (i := 6) (own := [("look", 7)]) (g := gName 7) (tt := tYes) rfl sclaw.nd rfl rfl (sw_true rfl rfl rfl (by decide +kernel)) (pi_list (pe_call (ok_law_known T) (hr.mono (by decide)) (by rfl) T.g_law_known T.F_law_known.kp T.bb_law_known .nil pass0 (pa_cons (pv 1) (pa_cons (pv 5) (pa_cons pe_int pa_nil))))) (blkOk_by (own := [("look", 7)]) (N := N_law) (sc := defScope slaw) (by decide +kernel)) (fun _ _ _ _ _ => (pg_name (i := 7) sclaw.nd rfl (Or.inl rfl))) (fun _ _ _ _ _ => pts_nil) (fun _ _ _ _ _ => (pe_call (ok_law_home T) (hr.mono (by decide)) (by rfl) T.g_law_home T.F_law_home.kp T.bb_law_home .nil pass0 (pa_cons (pv 5) (pa_cons (pv 7) pa_nil)))))
      (C8.pss_cut (ps_set (i := 8) sclaw.nd rfl (Or.inl rfl) (pe_call (ok_law_made T) (hr.mono (by decide)) (by rfl) T.g_law_made T.F_law_made.kp T.bb_law_made .nil pass0 (pa_cons (pv 5) (pa_cons (pv 6) pa_nil))))
      (C8.pss_cut (ps_set (i := 9) sclaw.nd rfl (Or.inl rfl) (pe_meth0 (pv 8) T.cl T.m_Dark_looks (ok_Dark_looks T) (hr.mono (by decide)) T.bb_Dark_looks .nil pass0))
      (pss_cons (ps_for PassesOwn.never rfl (pi_range1 (by rfl) T.b_range (pa_cons pe_int pa_nil)) (pg_name (i := 10) sclaw.nd rfl (Or.inl rfl)) (C8.pss_cut (ps_set (i := 7) sclaw.nd rfl (Or.inl rfl) (pe_call (ok_law_any_look T) (hr.mono (by decide)) (by rfl) T.g_law_any_look T.F_law_any_look.kp T.bb_law_any_look .nil pass0 (pa_cons (pv 1) (pa_cons (pv 5) pa_nil))))
      (C8.pss_cut (ps_set (i := 11) sclaw.nd rfl (Or.inl rfl) (pe_ix (ixL (K := K)) (pv 2) (pe_call (ok_law_draw T) (hr.mono (by decide)) (by rfl) T.g_law_draw T.F_law_draw.kp T.bb_law_draw .nil pass0 (pa_cons (pv 1) (pa_cons (pe_callB (lenK (K := K)) (by rfl) T.b_len (by decide +kernel) (pa_cons (pv 2) pa_nil)) pa_nil))) (fun _ _ => rfl)))
      (pss_cons (ps_for PassesOwn.never rfl (pi_range1 (by rfl) T.b_range (pa_cons pe_int pa_nil)) (pg_name (i := 12) sclaw.nd rfl (Or.inl rfl)) (pss_one (ps_if (pt_not (pt_val (pe_call (ok_law_alike T 4) (hr.mono (by decide)) (by rfl) T.g_law_alike T.F_law_alike.kp T.bb_law_alike .nil pass0 (pa_cons (pe_call (ok_law_asked T X) (hr.mono (by decide)) (by rfl) T.g_law_asked T.F_law_asked.kp T.bb_law_asked .nil pass0 (pa_cons (pv 8) (pa_cons (pv 12) (pa_cons (pe_tup (pa_cons (pv 11) (pa_cons (pe_ix (ixT (K := K)) (pv 7) pe_int (fun _ _ => rfl)) (pa_cons (pe_ix (ixT (K := K)) (pv 7) pe_int (fun _ _ => rfl)) pa_nil)))) pa_nil)))) (pa_cons (pe_lst (pa_cons pe_str (pa_cons (pv 11) (pa_cons pe_bl pa_nil)))) pa_nil))))) (pss_one (ps_ret pe_bl)) pss_nil)))
      (C8.pss_cut (ps_set (i := 13) sclaw.nd rfl (Or.inl rfl) (pe_call (ok_law_home T) (hr.mono (by decide)) (by rfl) T.g_law_home T.F_law_home.kp T.bb_law_home .nil pass0 (pa_cons (pv 5) (pa_cons (pv 7) pa_nil))))
      (C8.pss_cut (ps_if (PW.pt (pw_and (pt_cmpR (notInDK (K := K) (rooms hr)) (pv 13) (pv 6) (by rfl)) (pw_and1 (pt_not (pt_val (pe_call (ok_law_alike T 4) (hr.mono (by decide)) (by rfl) T.g_law_alike T.F_law_alike.kp T.bb_law_alike .nil pass0 (pa_cons (pe_call (ok_law_asked T X) (hr.mono (by decide)) (by rfl) T.g_law_asked T.F_law_asked.kp T.bb_law_asked .nil pass0 (pa_cons (pv 8) (pa_cons pe_int (pa_cons (pv 7) pa_nil)))) (pa_cons (pe_lst (pa_cons pe_str (pa_cons (pv 13) (pa_cons pe_bl pa_nil)))) pa_nil)))))))) (pss_one (ps_ret pe_bl)) pss_nil)
      (pss_one (ps_if (pt_cmpR (neDK (K := K) hr.units) (pe_meth0 (pv 8) T.cl T.m_Dark_looks (ok_Dark_looks T) (hr.mono (by decide)) T.bb_Dark_looks .nil pass0) (pv 9) (nomark _)) (pss_one (ps_ret pe_bl)) pss_nil))))))))
      (pss_one (ps_if (pt_not (pt_val (pe_call (ok_law_lengths_right T X) (hr.mono (by decide)) (by rfl) T.g_law_lengths_right T.F_law_lengths_right.kp T.bb_law_lengths_right .nil pass0 (pa_cons (pv 1) pa_nil)))) (pss_one (ps_ret pe_bl)) pss_nil))))))))
      (pss_one (ps_ret pe_bl)))))), ?_⟩
    refine ⟨_, rfl, a, ns, rfl, hS, hlen, fun H0 t g T0 S0 ht hg => ?_⟩
    refine ⟨(by show 15 ≤ sizeLine; decide), fun po hpo => ?_⟩
    obtain ⟨pot, pog⟩ := T0.at_ne hpo
    have So := same_upd (o := HO.lst [V.str "", .str "At", .str "AT", .str "at ", .str " at", .str "to", .str "up to", .str "up", .str "from ", .str "fro", .str "below", .str "above", .str "atfrom", .str "upto ", .str "a"]) hpo
    have go : (upd H0 po (HO.lst [V.str "", .str "At", .str "AT", .str "at ", .str " at", .str "to", .str "up to", .str "up", .str "from ", .str "fro", .str "below", .str "above", .str "atfrom", .str "upto ", .str "a"])) po = some (.lst (oddS.map V.str)) := upd_same
    generalize upd H0 po (HO.lst [V.str "", .str "At", .str "AT", .str "at ", .str " at", .str "to", .str "up to", .str "up", .str "from ", .str "fro", .str "below", .str "above", .str "atfrom", .str "upto ", .str "a"]) = H1 at So go ⊢
    refine ⟨(by show 2 ≤ sizeLine; decide), fun tp htp => ⟨(by show 4 ≤ sizeLine; decide), fun q hq => ?_⟩⟩
    have St := same_upd (o := HO.tup [V.int 1, .str "b"]) htp
    have gt : (upd H1 tp (HO.tup [V.int 1, .str "b"])) tp = some (.tup [V.int 1, .str "b"]) := upd_same
    generalize upd H1 tp (HO.tup [V.int 1, .str "b"]) = H1a at St gt hq ⊢
    have Sq := same_upd (o := HO.lst [V.int 0, .str "a", .non, .ref tp]) hq
    have gq : (upd H1a q (HO.lst [V.int 0, .str "a", .non, .ref tp])) q = some (.lst [V.int 0, .str "a", .non, .ref tp]) := upd_same
    have gt2 := Sq _ _ gt
    have S2 := (So.trans St).trans Sq
    generalize upd H1a q (HO.lst [V.int 0, .str "a", .non, .ref tp]) = H2 at Sq gq gt2 S2 ⊢
    have go2 := Sq _ _ (St _ _ go)
    have T2 := T0.same S2
    have S02 := S0.trans S2
    clear So go St gt Sq hq htp
    refine ⟨q, rfl, ⟨_, SqL.of gq⟩, ?_⟩
    refine for_list (K := K) (a := q) (xs := [V.int 0, .str "a", .non, .ref tp]) (fun i σ' H' => ∃ u3 : Option V, σ' = [some (.ref a), some (.ref t), some (.ref po), u3, none, none, none, none, none, none, none, none, none, none] ∧ Same H2 H') ⟨_, rfl, fun _ _ e => e⟩ (fun i σ' H' _ ⟨_, _, S⟩ => SqL.of (S _ _ gq)) ?_ ?_
    · rintro i y σ' H3 hi ⟨u3, rfl, S3⟩
      obtain ⟨dv, d1, d2, d3, d4⟩ : ∃ dv, Dp K H3 y dv ∧ fewD dv = true ∧ dv.depth ≤ 1 ∧ noL dv = true := by
        have hi4 : i < 4 := (List.getElem?_eq_some_iff.mp hi).1
        have : i = 0 ∨ i = 1 ∨ i = 2 ∨ i = 3 := by omega
        rcases this with rfl | rfl | rfl | rfl
        · exact (Option.some.inj hi) ▸ ⟨.int 0, .int _, rfl, by simp [PyData.depth], rfl⟩
        · exact (Option.some.inj hi) ▸ ⟨.str "a", .str _, rfl, by simp [PyData.depth], rfl⟩
        · exact (Option.some.inj hi) ▸ ⟨.none, .non, rfl, by simp [PyData.depth], rfl⟩
        · exact (Option.some.inj hi) ▸ ⟨.tuple [.int 1, .str "b"], .tup (SqT.of (S3 _ _ gt2)) (.cons (.int _) (.cons (.str _) .nil)), rfl, by simp [PyData.depth, PyData.depthAll], rfl⟩
      exact ⟨_, rfl, y, dv, rfl, d1, d2, d3, d4, fun H' S => ⟨_, rfl, iteF ⟨_, rfl, S3.trans S⟩⟩⟩
    rintro σ' H3 ⟨u3, rfl, S3⟩
    have go3 := S3 _ _ go2
    have T3 := T2.same S3
    have hS3 := Same.sqL (S02.trans S3) hS
    clear go2 T2 gq gt2 S02 S2 S3 T0 S0 hS
    refine ⟨_, rfl, _, rfl, a, _, rfl, hS3, fun q hq => ⟨q, _, rfl, .inl (SqL.of upd_same), _, _, rfl, rfl, ?_⟩⟩
    have hcut : ((cutV (ns.map V.int) none (some 8)).length : Int) ≤ 63 := by
      have e : (cutV (ns.map V.int) none (some (8 : Int))).length ≤ 63 := Nat.le_trans (cutV_length _ _ _) (by rw [List.length_map]; exact hlen)
      exact_mod_cast e
    have hcut0 : (0 : Int) ≤ ((cutV (ns.map V.int) none (some 8)).length : Int) := Int.natCast_nonneg _
    generalize ((cutV (ns.map V.int) none (some 8)).length : Int) = cut at hcut hcut0 ⊢
    have T4 := T3.same (same_upd (o := HO.lst (cutV (ns.map V.int) none (some 8))) hq)
    have go4 := (same_upd (o := HO.lst (cutV (ns.map V.int) none (some 8))) hq) _ _ go3
    generalize upd H3 q (.lst (cutV (ns.map V.int) none (some 8))) = H4 at T4 go4 ⊢
    refine ⟨3 + cut, rfl, by omega, by omega, ?_⟩
    refine for_range (n := (3 + cut).toNat) (fun i σ' H' => ∃ (u4 u5 u6 u7 u8 u9 u10 u11 u12 u13 : Option V), σ' = [some (.ref a), some (.ref t), some (.ref po), u3, u4, u5, u6, u7, u8, u9, u10, u11, u12, u13] ∧ Tray H' t g (2200 * i) ∧ H' po = some (.lst (oddS.map V.str))) ⟨_, _, _, _, _, _, _, _, _, _, rfl, T4, go4⟩ ?_ ?_
    rotate_left
    · rintro σ' H' ⟨_, _, _, _, _, _, _, _, _, _, rfl, _⟩
      exact k H'
    rintro i σ' H1 hi ⟨u4, u5, u6, u7, u8, u9, u10, u11, u12, u13, rfl, T1, go1⟩
    have hi13 : i < 66 := by omega
    obtain ⟨N, eN⟩ : ∃ N, N = 2200 * i := ⟨_, rfl⟩
    have eN2 : 2200 * (i + 1) = N + 2200 := by omega
    rw [eN2]
    rw [← eN] at T1
    have hn : ∀ m, m ≤ N + 2200 → m < 2 ^ 44 := fun m hm => Nat.lt_of_le_of_lt (by omega : m ≤ 1000000) (by decide)
    -- size
    refine ⟨fun σ' H' => ∃ (v4 : Option V) (L : Int), σ' = [some (.ref a), some (.ref t), some (.ref po), u3, v4, some (.int L), u6, u7, u8, u9, u10, u11, u12, u13] ∧ 0 < L ∧ L ≤ 10 ^ 30 ∧ Tray H' t g (N + 10) ∧ H' po = some (.lst (oddS.map V.str)), ?_, ?_⟩
    · exact ⟨_, rfl, t, g, N, rfl, T1, Nat.lt_trans (hn _ (by omega)) (by decide), fun H2 L hL hL30 T2 k2 => ⟨_, L, rfl, hL, hL30, T2, k2 _ _ go1 pot pog⟩⟩
    rintro σ2 H2 ⟨v4, L, rfl, hL, hL30, T2, go2⟩
    have hLb := bigL hL hL30
    have hL2 : L.natAbs < 2 ^ 200 := lt_up hLb (by decide)
    -- known
    refine ⟨fun σ' H' => ∃ (kp : Addr) (ks : List Lk), σ' = [some (.ref a), some (.ref t), some (.ref po), u3, v4, some (.int L), some (.ref kp), u7, u8, u9, u10, u11, u12, u13] ∧ Tray H' t g (N + 2010) ∧ H' po = some (.lst (oddS.map V.str)) ∧ LAt K H' kp (ks.map encL) ∧ kp ≠ t ∧ kp ≠ g ∧ (∀ l ∈ ks, WordOk l.1 ∧ Sized 300 l) ∧ (∀ a ∈ ks, ∀ b ∈ ks, clashB a b L = false) ∧ (∀ l ∈ ks, home L l = l) ∧ ks.length ≤ 24, ?_, ?_⟩
    · refine ⟨_, rfl, _, rfl, t, g, N + 10, L, 24, rfl, T2, hn _ (by omega), hL, hL30, by decide, by decide, fun H3 p ls steps hp A3 lp tr sto hl => ?_⟩
      obtain ⟨kv, kv1, kv2⟩ := id lp
      have hkv : kv.length = ls.length := by rw [dpAll_len kv2, List.length_map]
      refine ⟨p, rfl, ⟨_, SqL.of kv1⟩, fun D0 hD => ?_⟩
      obtain ⟨Dt, Dg⟩ := A3.T.at_ne hD
      refine lc_list (K := K) (a := p) (xs := kv) (fun i H' => Same H3 H' ∧ ∃ vs, H' D0 = some (.lst vs) ∧ DpAll K H' vs (((ls.take i).map (home L)).map encL)) ⟨same_upd hD, [], upd_same, .nil⟩ (fun i H' _ ⟨S, _⟩ => SqL.of (S _ _ kv1)) ?_ ?_
      · rintro i y H5 hi ⟨S5, vs, hd, hds⟩
        obtain ⟨e, hdi, hdy⟩ := dpAll_get kv2 hi
        obtain ⟨l, hl, rfl⟩ := map_at hdi
        have hlm := List.mem_of_getElem? hl
        have hi' : i < ls.length := (List.getElem?_eq_some_iff.mp hl).1
        have hvl : vs.length ≤ i := by rw [dpAll_len hds, List.length_map, List.length_map, List.length_take]; omega
        refine ⟨rfl, yes_ite ?_⟩
        refine ⟨_, rfl, _, rfl, y, L, l, rfl, dp_mono S5 _ _ hdy, hL, hL2, (tr l hlm).sz.up (by decide), fun r H6 S6 hr6 => ?_⟩
        have hds6 := dpAll_mono S6 _ _ hds
        refine ⟨vs, S6 _ _ hd, small1000 (by omega), same_set (S5.trans S6) hD, _, upd_same, ?_⟩
        rw [take_snoc hl, List.map_append, List.map_append]
        exact acc_step (S6 _ _ hd) (noLs_map noL_encL _) rfl hds6 hr6
      rintro H5 ⟨S5, vs, hd, hds⟩
      rw [List.take_of_length_le (by rw [hkv]; exact Nat.le_refl _)] at hds
      refine ⟨D0, ls.map (home L), rfl, (A3.T.same S5).up (by omega), S5 _ _ (A3.k _ _ go2 pot pog), ⟨vs, hd, hds⟩, Dt, Dg, fun l hl => ?_, fun a ha b hb => ?_, fun l hl => ?_, by rw [List.length_map]; omega⟩
      · obtain ⟨z, hz, rfl⟩ := List.mem_map.mp hl
        exact ⟨(tr z hz).word, home_nr hL hL2 (tr z hz).nr⟩
      · obtain ⟨x, hx, rfl⟩ := List.mem_map.mp ha
        obtain ⟨y, hy, rfl⟩ := List.mem_map.mp hb
        rw [clash_home hL]
        exact no_clash hL (tr x hx).says (tr y hy).says
      · obtain ⟨z, hz, rfl⟩ := List.mem_map.mp hl
        exact home_home hL z
    rintro σ3 H3 ⟨kp, ks, rfl, T3, go3, lp, kt, kg, hok, hnc, hkh, hkl⟩
    clear T1 go1 T2 go2
    -- made
    refine ⟨fun σ' H' => ∃ (d : Addr) (hs : List Lk), σ' = [some (.ref a), some (.ref t), some (.ref po), u3, v4, some (.int L), some (.ref kp), u7, some (.ref d), u9, u10, u11, u12, u13] ∧ Same H3 H' ∧ DarkAt Z K H' d L hs ∧ (∀ la dx, H' d = some (.ins Z.C dx (df L la)) → la ≠ t ∧ la ≠ g) ∧ (∀ o, o ∈ hs ↔ o ∈ ks) ∧ hs.length ≤ 24, ?_, ?_⟩
    · refine ⟨_, rfl, _, rfl, .ref kp, L, ks, rfl, lp.dp, hL, hL2, hok, hnc, by omega, fun H4 d hd S4 D4 F4 => ⟨d, _, rfl, S4, D4, fun la dx e => T3.at_ne (F4 la dx e), fun o => ?_, ?_⟩⟩
      · rw [fold_mem]
        constructor
        · rintro (h | ⟨l, hl, e⟩)
          · cases h
          · rw [e, hkh l hl]; exact hl
        · intro h
          exact .inr ⟨o, h, (hkh o h).symm⟩
      · have := fold_len (L := L) ks []
        simp at this; omega
    rintro σ4 H4 ⟨d, hs, rfl, S4, D4, O4, hmem, hhl⟩
    have T4 := T3.same S4
    have go4 := S4 _ _ go3
    have lp4 := lp.same S4
    clear T3 go3 lp
    -- before
    refine ⟨fun σ' H' => ∃ (bp : Addr), σ' = [some (.ref a), some (.ref t), some (.ref po), u3, v4, some (.int L), some (.ref kp), u7, some (.ref d), some (.ref bp), u10, u11, u12, u13] ∧ Tray H' t g (N + 2010) ∧ H' po = some (.lst (oddS.map V.str)) ∧ LAt K H' kp (ks.map encL) ∧ LAt K H' bp (hs.map encL) ∧ bp ≠ t ∧ bp ≠ g ∧ DarkAt Z K H' d L hs ∧ (∀ la dx, H' d = some (.ins Z.C dx (df L la)) → la ≠ t ∧ la ≠ g), ?_, ?_⟩
    · obtain ⟨dx, la, vs, h1, h2, h3⟩ := id D4.ex
      refine ⟨_, rfl, d, dx, _, rfl, h1, df_no _ _ (by decide +kernel) (by decide +kernel), d, L, hs, rfl, D4, fun p xs H5 hp S5 g5 dp5 => ?_⟩
      obtain ⟨p1, p2⟩ := T4.at_ne hp
      refine ⟨p, rfl, T4.same S5, S5 _ _ go4, lp4.same S5, ⟨xs, g5, dp5⟩, p1, p2, D4.same S5, fun la2 dx2 e => ?_⟩
      have h1' := S5 _ _ h1
      rw [h1'] at e
      rw [← df_inj e]
      exact O4 la dx h1
    rintro σ5 H5 ⟨bp, rfl, T5, go5, lp5, bl5, bt, bg, D5, O5⟩
    clear T4 go4 lp4 D4 O4 S4
    have hwd : ∀ l ∈ hs, WordOk l.1 := fun l hl => (D5.ok l hl).1
    refine ⟨8, rfl, by decide, by decide, ?_⟩
    refine for_range (lo := 0) (n := 8) (fun j σ' H' => ∃ (u7 u10 u11 u12 u13 : Option V), σ' = [some (.ref a), some (.ref t), some (.ref po), u3, v4, some (.int L), some (.ref kp), u7, some (.ref d), some (.ref bp), u10, u11, u12, u13] ∧ Tray H' t g (N + 2010 + 11 * j) ∧ H' po = some (.lst (oddS.map V.str)) ∧ LAt K H' kp (ks.map encL) ∧ LAt K H' bp (hs.map encL) ∧ DarkAt Z K H' d L hs ∧ (∀ la dx, H' d = some (.ins Z.C dx (df L la)) → la ≠ t ∧ la ≠ g)) ⟨_, _, _, _, _, rfl, T5, go5, lp5, bl5, D5, O5⟩ ?_ ?_
    rotate_left
    · rintro σ' H6 ⟨u7, u10, u11, u12, u13, rfl, T6, go6, lp6, bl6, D6, O6⟩
      refine ⟨_, rfl, t, g, N + 2010 + 11 * 8, rfl, T6, hn _ (by omega), fun H7 T7 k7 => ⟨_, rfl, iteF ?_⟩⟩
      exact ⟨_, _, _, _, _, _, _, _, _, _, rfl, T7.up (by omega), k7 _ _ go6 pot pog⟩
    clear T5 go5 lp5 bl5 D5 O5 u7 u8 u9 u10 u11 u12 u13
    rintro j σ' H5 hj ⟨u7, u10, u11, u12, u13, rfl, T5, go5, lp5, bl5, D5, O5⟩
    -- look
    refine ⟨fun σ' H' => ∃ (v10 : Option V) (lq : Addr) (l : Lk), σ' = [some (.ref a), some (.ref t), some (.ref po), u3, v4, some (.int L), some (.ref kp), some (.ref lq), some (.ref d), some (.ref bp), v10, u11, u12, u13] ∧ Tray H' t g (N + 2010 + 11 * j + 10) ∧ H' po = some (.lst (oddS.map V.str)) ∧ LAt K H' kp (ks.map encL) ∧ LAt K H' bp (hs.map encL) ∧ DarkAt Z K H' d L hs ∧ (∀ la dx, H' d = some (.ins Z.C dx (df L la)) → la ≠ t ∧ la ≠ g) ∧ SqT K H' lq [.str l.1, .int l.2.1, .int l.2.2] ∧ WordOk l.1 ∧ Sized 110 l, ?_, ?_⟩
    · refine ⟨_, rfl, _, rfl, t, g, _, L, rfl, T5, hn _ (by omega), hL, hL30, fun H6 r l A6 hr hw hl => ?_⟩
      obtain ⟨lq, rfl, hq⟩ := dp_look hr
      obtain ⟨D6, O6⟩ := D5.keep T5 A6.k O5
      exact ⟨_, lq, l, rfl, A6.T, A6.k _ _ go5 pot pog, lp5.keep T5 A6.k kt kg (noLs_map noL_encL _), bl5.keep T5 A6.k bt bg (noLs_map noL_encL _), D6, O6, hq, hw, hl⟩
    rintro σ6 H6 ⟨v10, lq, l, rfl, T6, go6, lp6, bl6, D6, O6, hlq, hw, hl⟩
    clear T5 go5 lp5 bl5 D5 O5
    -- bad
    refine ⟨fun σ' H' => ∃ (x : Str), σ' = [some (.ref a), some (.ref t), some (.ref po), u3, v4, some (.int L), some (.ref kp), some (.ref lq), some (.ref d), some (.ref bp), v10, some (.str x), u12, u13] ∧ x ∈ oddS ∧ Tray H' t g (N + 2010 + 11 * (j + 1)) ∧ H' po = some (.lst (oddS.map V.str)) ∧ LAt K H' kp (ks.map encL) ∧ LAt K H' bp (hs.map encL) ∧ DarkAt Z K H' d L hs ∧ (∀ la dx, H' d = some (.ins Z.C dx (df L la)) → la ≠ t ∧ la ≠ g) ∧ Dp K H' (.ref lq) (encL l), ?_, ?_⟩
    · refine ⟨_, rfl, _, rfl, _, rfl, po, _, rfl, .inl (SqL.of go6), t, g, _, 15, rfl, T6, by decide, by decide, Nat.lt_trans (hn _ (by omega)) (by decide), fun H7 c c0 c1 T7 k7 => ?_⟩
      have hc : c.toNat < 15 := by omega
      obtain ⟨x, hx⟩ : ∃ x, oddS[c.toNat]? = some x := ⟨_, List.getElem?_eq_getElem (h := hc)⟩
      have hx2 : (oddS.map V.str)[c.toNat]? = some (.str x) := by rw [List.getElem?_map, hx]; rfl
      obtain ⟨D7, O7⟩ := D6.keep T6 k7 O6
      refine ⟨po, _, _, .str x, rfl, rfl, SqL.of (k7 _ _ go6 pot pog), ?_, ?_⟩
      rotate_left
      · exact ⟨x, rfl, List.mem_of_getElem? hx, T7.up (by omega), k7 _ _ go6 pot pog, lp6.keep T6 k7 kt kg (noLs_map noL_encL _), bl6.keep T6 k7 bt bg (noLs_map noL_encL _), D7, O7, dp_tups (Keep.tups T6 k7) _ _ (noL_encL l) (.tup hlq (.cons (.str _) (.cons (.int _) (.cons (.int _) .nil))))⟩
      · have : ((c.toNat : Nat) : Int) = c := by omega
        rw [← this]
        exact atI_nat hx2
    rintro σ7 H7 ⟨x, rfl, hxm, T7, go7, lp7, bl7, D7, O7, hd7⟩
    obtain ⟨lq2, elq, hlq7⟩ := dp_look hd7
    cases elq
    clear T6 go6 lp6 bl6 D6 O6 hlq
    have hxb := odd_bad x hxm
    -- the four ways
    refine ⟨4, rfl, by decide, by decide, ?_⟩
    refine for_range (lo := 0) (n := 4) (fun i σ' H' => ∃ (u12 : Option V), σ' = [some (.ref a), some (.ref t), some (.ref po), u3, v4, some (.int L), some (.ref kp), some (.ref lq), some (.ref d), some (.ref bp), v10, some (.str x), u12, u13] ∧ Same H7 H') ⟨_, rfl, fun _ _ e => e⟩ ?_ ?_
    · rintro i σ' H8 hi ⟨u12, rfl, S8⟩
      have hq8 := Same.sqT S8 hlq7
      refine ⟨_, rfl, _, rfl, _, rfl, _, rfl, lq, _, _, _, rfl, rfl, hq8, rfl, _, rfl, lq, _, _, _, rfl, rfl, hq8, rfl, (by show 3 ≤ sizeLine; decide), fun tp htp => ?_⟩
      have St := same_upd (o := HO.tup [V.str x, .int l.2.1, .int l.2.2]) htp
      refine ⟨d, tp, L, hs, _, x, l.2.1, l.2.2, rfl, (D7.same S8).same St, SqT.of upd_same, .inl ⟨hxb, fun H9 r S9 d9 => ?_⟩⟩
      refine ⟨_, rfl, (by show 3 ≤ sizeLine; decide), fun q hq => ?_⟩
      have Sq := same_upd (o := HO.lst [V.str "NoWord", .str x, .bl true]) hq
      exact ⟨.ref r, .ref q, wordD x, rfl, dp_mono Sq _ _ d9, .lst (SqL.of upd_same) (.cons (.str _) (.cons (.str _) (.cons (.bl _) .nil))), few_word x, depth_word x, _, rfl, iteF ⟨_, rfl, ((S8.trans St).trans S9).trans Sq⟩⟩
    rintro σ' H8 ⟨u12, rfl, S8⟩
    have hq8 := Same.sqT S8 hlq7
    have ldp : Dp K H8 (.ref lq) (encL l) := .tup hq8 (.cons (.str _) (.cons (.int _) (.cons (.int _) .nil)))
    -- here
    refine ⟨fun σ' H' => ∃ (r : V), σ' = [some (.ref a), some (.ref t), some (.ref po), u3, v4, some (.int L), some (.ref kp), some (.ref lq), some (.ref d), some (.ref bp), v10, some (.str x), u12, some r] ∧ Same H8 H' ∧ Dp K H' r (encL (home L l)), ?_, ?_⟩
    · exact ⟨_, rfl, _, rfl, .ref lq, L, l, rfl, ldp, hL, hL2, hl.up (by decide), fun r H9 S9 d9 => ⟨r, rfl, S9, d9⟩⟩
    rintro σ9 H9 ⟨r, rfl, S9, d9⟩
    have S79 := S8.trans S9
    refine ⟨fun σ' H' => σ' = [some (.ref a), some (.ref t), some (.ref po), u3, v4, some (.int L), some (.ref kp), some (.ref lq), some (.ref d), some (.ref bp), v10, some (.str x), u12, some r] ∧ Same H9 H', ?_, ?_⟩
    · refine ⟨_, rfl, _, rfl, encL (home L l), ks.map encL, d9, (lp7.same S79).dp, shaped_look (show WordOk (home L l).1 from hw), shaped_looks (fun l hl => (hok l hl).1), _, rfl, ?_⟩
      rw [any_look]
      by_cases hin : home L l ∈ ks
      · have e : (!decide (home L l ∈ ks)) = false := by simp [hin]
        rw [e]
        exact iteF (iteF ⟨rfl, fun _ _ e => e⟩)
      · have e : (!decide (home L l ∈ ks)) = true := by simp [hin]
        rw [e]
        refine iteT ?_
        refine ⟨_, rfl, _, rfl, d, lq, L, hs, 1, l.1, l.2.1, l.2.2, rfl, D7.same S79, Same.sqT S9 hq8, .inr ⟨rfl, l, rfl, hw, hl.up (by decide), fun h => hin ((hmem _).mp h), fun HA q SA dA => ?_⟩⟩
        refine ⟨_, rfl, (by show 3 ≤ sizeLine; decide), fun z hz => ?_⟩
        have Sz := same_upd (o := HO.lst [V.str "NoLook", r, .bl true]) hz
        exact ⟨.ref q, .ref z, lookD (home L l), rfl, dp_mono Sz _ _ dA, .lst (SqL.of upd_same) (.cons (.str _) (.cons (dp_mono (SA.trans Sz) _ _ d9) (.cons (.bl _) .nil))), few_look _, depth_lookD _, _, rfl, iteF ⟨rfl, SA.trans Sz⟩⟩
    rintro σA HA ⟨rfl, SA⟩
    have S7A := S79.trans SA
    have DA := D7.same S7A
    have O7A : ∀ la dx, HA d = some (.ins Z.C dx (df L la)) → la ≠ t ∧ la ≠ g := by
      intro la2 dx2 e
      obtain ⟨dx, la, vs, h1, h2, h3⟩ := id D7.ex
      have h1' := S7A _ _ h1
      rw [h1'] at e
      rw [← df_inj e]
      exact O7 la dx h1
    obtain ⟨dx, la, vs, h1, h2, h3⟩ := id DA.ex
    refine ⟨_, rfl, d, dx, _, rfl, h1, df_no _ _ (by decide +kernel) (by decide +kernel), d, L, hs, rfl, DA, fun p xs HB hp SB gB dpB => ?_⟩
    have S7B := S7A.trans SB
    refine ⟨_, rfl, .list (hs.map encL), .list (hs.map encL), .lst (SqL.of gB) dpB, (bl7.same S7B).dp, shaped_looks hwd, shaped_looks hwd, _, rfl, ?_⟩
    rw [SeqAt.eqv_refl _ (SeqAt.canLay_of_shaped (shaped_looks hwd))]
    refine iteF ⟨_, _, _, _, _, rfl, T7.same S7B, S7B _ _ go7, lp7.same S7B, bl7.same S7B, D7.same S7B, fun la2 dx2 e => ?_⟩
    have h1' := SB _ _ h1
    rw [h1'] at e
    rw [← df_inj e]
    exact O7A la dx h1
end
end KA
namespace KA
open PySem PySem.Spec PyProof.Rows L2 DP
theorem g11_of {α : Type} : ∀ {us ws : List α}, (g11 us ws).length = 2 → ∃ a b, us = [a] ∧ ws = [b]
  | [a], [b], _ => ⟨a, b, rfl, rfl⟩
  | [], _, h => nomatch (show (0 : Nat) = 2 from h)
  | [_], [], h => nomatch (show (0 : Nat) = 2 from h)
  | [_], _ :: _ :: _, h => nomatch (show (0 : Nat) = 2 from h)
  | _ :: _ :: _, _, h => nomatch (show (0 : Nat) = 2 from h)
theorem sqt2 {K : PySem.W.Frag} {H : Hp} {t : Addr} {x y : Str} {o : Option Addr} {u v : Tok} {n : Nat} {s : Array (Option Value)} (l : K.lookup t = some ⟨.type "tuple", o, .seq #[.str x u, .str y v] n, s⟩) : SqT K H t [.str x, .str y] :=
  .inr ⟨_, _, n, l, rfl, rfl, (by show 2 ≤ sizeLine; decide), .cons ⟨u, rfl⟩ (.cons ⟨v, rfl⟩ .nil)⟩
theorem sqt3 {K : PySem.W.Frag} {H : Hp} {t : Addr} {x y z : Str} {o : Option Addr} {u v q : Tok} {n : Nat} {s : Array (Option Value)} (l : K.lookup t = some ⟨.type "tuple", o, .seq #[.str x u, .str y v, .str z q] n, s⟩) : SqT K H t [.str x, .str y, .str z] :=
  .inr ⟨_, _, n, l, rfl, rfl, (by show 3 ≤ sizeLine; decide), .cons ⟨u, rfl⟩ (.cons ⟨v, rfl⟩ (.cons ⟨q, rfl⟩ .nil))⟩
theorem all_mk {l : PySem.W.OpenLaw} {w : World} {K : PySem.W.Frag} {h : Heap} {mg : Str → Option Value} {fa : Addr} (X : K.In h) (G : h.Ns mainGlobals mg) (hfa : mg "law" = some (.ref fa))
    {C : Addr}
    {f0 : Addr} {od0 an0 : Option Addr} {sl0 : Array (Option Value)} {oc0 kV0 dc0 pm0 cd0 ct0 : Value}
    {f1 : Addr} {od1 an1 : Option Addr} {sl1 : Array (Option Value)} {oc1 kV1 dc1 pm1 cd1 ct1 : Value}
    {f2 : Addr} {od2 an2 : Option Addr} {sl2 : Array (Option Value)} {oc2 kV2 dc2 pm2 cd2 ct2 : Value}
    {f3 : Addr} {od3 an3 : Option Addr} {sl3 : Array (Option Value)} {oc3 kV3 dc3 pm3 cd3 ct3 : Value}
    {f4 : Addr} {od4 an4 : Option Addr} {sl4 : Array (Option Value)} {oc4 kV4 dc4 pm4 cd4 ct4 : Value}
    {f5 : Addr} {od5 an5 : Option Addr} {sl5 : Array (Option Value)} {oc5 kV5 dc5 pm5 cd5 ct5 : Value}
    {f6 : Addr} {od6 an6 : Option Addr} {sl6 : Array (Option Value)} {oc6 kV6 dc6 pm6 cd6 ct6 : Value}
    {f7 : Addr} {od7 an7 : Option Addr} {sl7 : Array (Option Value)} {oc7 kV7 dc7 pm7 cd7 ct7 : Value}
    {f8 : Addr} {od8 an8 : Option Addr} {sl8 : Array (Option Value)} {oc8 kV8 dc8 pm8 cd8 ct8 : Value}
    {f9 : Addr} {od9 an9 : Option Addr} {sl9 : Array (Option Value)} {oc9 kV9 dc9 pm9 cd9 ct9 : Value}
    {f10 : Addr} {od10 an10 : Option Addr} {sl10 : Array (Option Value)} {oc10 kV10 dc10 pm10 cd10 ct10 : Value}
    {f11 : Addr} {od11 an11 : Option Addr} {sl11 : Array (Option Value)} {oc11 kV11 dc11 pm11 cd11 ct11 : Value}
    {f12 : Addr} {od12 an12 : Option Addr} {sl12 : Array (Option Value)} {oc12 kV12 dc12 pm12 cd12 ct12 : Value}
    {f13 : Addr} {od13 an13 : Option Addr} {sl13 : Array (Option Value)} {oc13 kV13 dc13 pm13 cd13 ct13 : Value}
    {f14 : Addr} {od14 an14 : Option Addr} {sl14 : Array (Option Value)} {oc14 kV14 dc14 pm14 cd14 ct14 : Value}
    {f15 : Addr} {od15 an15 : Option Addr} {sl15 : Array (Option Value)} {oc15 kV15 dc15 pm15 cd15 ct15 : Value}
    {f16 : Addr} {od16 an16 : Option Addr} {sl16 : Array (Option Value)} {oc16 kV16 dc16 pm16 cd16 ct16 : Value}
    {f17 : Addr} {od17 an17 : Option Addr} {sl17 : Array (Option Value)} {oc17 kV17 dc17 pm17 cd17 ct17 : Value}
    {f18 : Addr} {od18 an18 : Option Addr} {sl18 : Array (Option Value)} {oc18 kV18 dc18 pm18 cd18 ct18 : Value}
    {f19 : Addr} {od19 an19 : Option Addr} {sl19 : Array (Option Value)} {oc19 kV19 dc19 pm19 cd19 ct19 : Value}
    {f20 : Addr} {od20 an20 : Option Addr} {sl20 : Array (Option Value)} {oc20 kV20 dc20 pm20 cd20 ct20 : Value}
    {f21 : Addr} {od21 an21 : Option Addr} {sl21 : Array (Option Value)} {oc21 kV21 dc21 pm21 cd21 ct21 : Value}
    {f22 : Addr} {od22 an22 : Option Addr} {sl22 : Array (Option Value)} {oc22 kV22 dc22 pm22 cd22 ct22 : Value}
    {f23 : Addr} {od23 an23 : Option Addr} {sl23 : Array (Option Value)} {oc23 kV23 dc23 pm23 cd23 ct23 : Value}
    {f24 : Addr} {od24 an24 : Option Addr} {sl24 : Array (Option Value)} {oc24 kV24 dc24 pm24 cd24 ct24 : Value}
    {f25 : Addr} {od25 an25 : Option Addr} {sl25 : Array (Option Value)} {oc25 kV25 dc25 pm25 cd25 ct25 : Value}
    {f26 : Addr} {od26 an26 : Option Addr} {sl26 : Array (Option Value)} {oc26 kV26 dc26 pm26 cd26 ct26 : Value}
    {f27 : Addr} {od27 an27 : Option Addr} {sl27 : Array (Option Value)} {oc27 kV27 dc27 pm27 cd27 ct27 : Value}
    {f28 : Addr} {od28 an28 : Option Addr} {sl28 : Array (Option Value)} {oc28 kV28 dc28 pm28 cd28 ct28 : Value}
    {f29 : Addr} {od29 an29 : Option Addr} {sl29 : Array (Option Value)} {oc29 kV29 dc29 pm29 cd29 ct29 : Value}
    {f30 : Addr} {od30 an30 : Option Addr} {sl30 : Array (Option Value)} {oc30 kV30 dc30 pm30 cd30 ct30 : Value}
    {f31 : Addr} {od31 an31 : Option Addr} {sl31 : Array (Option Value)} {oc31 kV31 dc31 pm31 cd31 ct31 : Value}
    {f32 : Addr} {od32 an32 : Option Addr} {sl32 : Array (Option Value)} {oc32 kV32 dc32 pm32 cd32 ct32 : Value}
    {f33 : Addr} {od33 an33 : Option Addr} {sl33 : Array (Option Value)} {oc33 kV33 dc33 pm33 cd33 ct33 : Value}
    {f34 : Addr} {od34 an34 : Option Addr} {sl34 : Array (Option Value)} {oc34 kV34 dc34 pm34 cd34 ct34 : Value}
    {tSLOW : Tok}
    {tFAST : Tok}
    {aW aL tS tF : Addr} {es : Array DictEntry} {nW n1 n2 n3 : Nat} {o1 o2 o3 : Option Addr} {s1 s2 s3 : Array (Option Value)} {u1 u2 u3 u4 u5 u6 u7 : Tok}
    {xC0 xF0 xN0 xcc0 xcda0 : Addr} {xnm0 xq0 xfile0 : Str} {xbs0 xbm0 : List Value} {xsn0 : List Str} {xsub0 : List Value} {xab0 : Bool} {xcol0 : Option Bool} {xdd0 xod0 xan0 xcld0 xcdd0 : Option Addr} {xk00 xk10 xk20 xk30 xk50 : Option Value} {xoc0 xdoc0 xpm0 xct0 xcl0 xccl0 : Value} {xosl0 xcsl0 xccs0 : Array (Option Value)} {xvs0 : Array Value} {xtf0 : Tok}
    {xC1 xF1 xN1 xcc1 xcda1 : Addr} {xnm1 xq1 xfile1 : Str} {xbs1 xbm1 : List Value} {xsn1 : List Str} {xsub1 : List Value} {xab1 : Bool} {xcol1 : Option Bool} {xdd1 xod1 xan1 xcld1 xcdd1 : Option Addr} {xk01 xk11 xk21 xk31 xk51 : Option Value} {xoc1 xdoc1 xpm1 xct1 xcl1 xccl1 : Value} {xosl1 xcsl1 xccs1 : Array (Option Value)} {xvs1 : Array Value} {xtf1 : Tok}
    {xC2 xF2 xN2 xcc2 xcda2 : Addr} {xnm2 xq2 xfile2 : Str} {xbs2 xbm2 : List Value} {xsn2 : List Str} {xsub2 : List Value} {xab2 : Bool} {xcol2 : Option Bool} {xdd2 xod2 xan2 xcld2 xcdd2 : Option Addr} {xk02 xk12 xk22 xk32 xk52 : Option Value} {xoc2 xdoc2 xpm2 xct2 xcl2 xccl2 : Value} {xosl2 xcsl2 xccs2 : Array (Option Value)} {xvs2 : Array Value} {xtf2 : Tok}
    {xC3 xF3 xN3 xcc3 xcda3 : Addr} {xnm3 xq3 xfile3 : Str} {xbs3 xbm3 : List Value} {xsn3 : List Str} {xsub3 : List Value} {xab3 : Bool} {xcol3 : Option Bool} {xdd3 xod3 xan3 xcld3 xcdd3 : Option Addr} {xk03 xk13 xk23 xk33 xk53 : Option Value} {xoc3 xdoc3 xpm3 xct3 xcl3 xccl3 : Value} {xosl3 xcsl3 xccs3 : Array (Option Value)} {xvs3 : Array Value} {xtf3 : Tok}
    {xC4 xF4 xN4 xcc4 xcda4 : Addr} {xnm4 xq4 xfile4 : Str} {xbs4 xbm4 : List Value} {xsn4 : List Str} {xsub4 : List Value} {xab4 : Bool} {xcol4 : Option Bool} {xdd4 xod4 xan4 xcld4 xcdd4 : Option Addr} {xk04 xk14 xk24 xk34 xk54 : Option Value} {xoc4 xdoc4 xpm4 xct4 xcl4 xccl4 : Value} {xosl4 xcsl4 xccs4 : Array (Option Value)} {xvs4 : Array Value} {xtf4 : Tok}
    {xC5 xF5 xN5 xcc5 xcda5 : Addr} {xnm5 xq5 xfile5 : Str} {xbs5 xbm5 : List Value} {xsn5 : List Str} {xsub5 : List Value} {xab5 : Bool} {xcol5 : Option Bool} {xdd5 xod5 xan5 xcld5 xcdd5 : Option Addr} {xk05 xk15 xk25 xk35 xk55 : Option Value} {xoc5 xdoc5 xpm5 xct5 xcl5 xccl5 : Value} {xosl5 xcsl5 xccs5 : Array (Option Value)} {xvs5 : Array Value} {xtf5 : Tok}
    {xC6 xF6 xN6 xcc6 xcda6 : Addr} {xnm6 xq6 xfile6 : Str} {xbs6 xbm6 : List Value} {xsn6 : List Str} {xsub6 : List Value} {xab6 : Bool} {xcol6 : Option Bool} {xdd6 xod6 xan6 xcld6 xcdd6 : Option Addr} {xk06 xk16 xk26 xk36 xk56 : Option Value} {xoc6 xdoc6 xpm6 xct6 xcl6 xccl6 : Value} {xosl6 xcsl6 xccs6 : Array (Option Value)} {xvs6 : Array Value} {xtf6 : Tok}
    {xC7 xF7 xN7 xcc7 xcda7 : Addr} {xnm7 xq7 xfile7 : Str} {xbs7 xbm7 : List Value} {xsn7 : List Str} {xsub7 : List Value} {xab7 : Bool} {xcol7 : Option Bool} {xdd7 xod7 xan7 xcld7 xcdd7 : Option Addr} {xk07 xk17 xk27 xk37 xk57 : Option Value} {xoc7 xdoc7 xpm7 xct7 xcl7 xccl7 : Value} {xosl7 xcsl7 xccs7 : Array (Option Value)} {xvs7 : Array Value} {xtf7 : Tok}
    {xC8 xF8 xN8 xcc8 xcda8 : Addr} {xnm8 xq8 xfile8 : Str} {xbs8 xbm8 : List Value} {xsn8 : List Str} {xsub8 : List Value} {xab8 : Bool} {xcol8 : Option Bool} {xdd8 xod8 xan8 xcld8 xcdd8 : Option Addr} {xk08 xk18 xk28 xk38 xk58 : Option Value} {xoc8 xdoc8 xpm8 xct8 xcl8 xccl8 : Value} {xosl8 xcsl8 xccs8 : Array (Option Value)} {xvs8 : Array Value} {xtf8 : Tok}
    {xC9 xF9 xN9 xcc9 xcda9 : Addr} {xnm9 xq9 xfile9 : Str} {xbs9 xbm9 : List Value} {xsn9 : List Str} {xsub9 : List Value} {xab9 : Bool} {xcol9 : Option Bool} {xdd9 xod9 xan9 xcld9 xcdd9 : Option Addr} {xk09 xk19 xk29 xk39 xk59 : Option Value} {xoc9 xdoc9 xpm9 xct9 xcl9 xccl9 : Value} {xosl9 xcsl9 xccs9 : Array (Option Value)} {xvs9 : Array Value} {xtf9 : Tok}
    {xC10 xF10 xN10 xcc10 xcda10 : Addr} {xnm10 xq10 xfile10 : Str} {xbs10 xbm10 : List Value} {xsn10 : List Str} {xsub10 : List Value} {xab10 : Bool} {xcol10 : Option Bool} {xdd10 xod10 xan10 xcld10 xcdd10 : Option Addr} {xk010 xk110 xk210 xk310 xk510 : Option Value} {xoc10 xdoc10 xpm10 xct10 xcl10 xccl10 : Value} {xosl10 xcsl10 xccs10 : Array (Option Value)} {xvs10 : Array Value} {xtf10 : Tok}
    {yC_DialError : Addr}
    (aC : PySem.W.nsIn K mainGlobals "Dark" = some (some (.ref C)))
    (a0 : PySem.W.nsIn K mainGlobals "_law_tray" = some (some (.ref f0)))
    (l0 : K.lookup f0 = some ⟨oc0, od0, .func (PySem.W.fnOf "_law_tray" "_law_tray" (defArgs slaw_tray) (defBody slaw_tray) (defScope slaw_tray) .none kV0 dc0 pm0 an0 cd0 ct0), sl0⟩)
    (c0 : PySem.W.codeIn K cd0 "_law_tray" = true)
    (k0 : PySem.W.keepIn K (.ref f0) = true)
    (a1 : PySem.W.nsIn K mainGlobals "_law_draw" = some (some (.ref f1)))
    (l1 : K.lookup f1 = some ⟨oc1, od1, .func (PySem.W.fnOf "_law_draw" "_law_draw" (defArgs slaw_draw) (defBody slaw_draw) (defScope slaw_draw) .none kV1 dc1 pm1 an1 cd1 ct1), sl1⟩)
    (c1 : PySem.W.codeIn K cd1 "_law_draw" = true)
    (k1 : PySem.W.keepIn K (.ref f1) = true)
    (a2 : PySem.W.nsIn K mainGlobals "_law_great" = some (some (.ref f2)))
    (l2 : K.lookup f2 = some ⟨oc2, od2, .func (PySem.W.fnOf "_law_great" "_law_great" (defArgs slaw_great) (defBody slaw_great) (defScope slaw_great) .none kV2 dc2 pm2 an2 cd2 ct2), sl2⟩)
    (c2 : PySem.W.codeIn K cd2 "_law_great" = true)
    (k2 : PySem.W.keepIn K (.ref f2) = true)
    (a3 : PySem.W.nsIn K mainGlobals "_law_alike" = some (some (.ref f3)))
    (l3 : K.lookup f3 = some ⟨oc3, od3, .func (PySem.W.fnOf "_law_alike" "_law_alike" (defArgs slaw_alike) (defBody slaw_alike) (defScope slaw_alike) .none kV3 dc3 pm3 an3 cd3 ct3), sl3⟩)
    (c3 : PySem.W.codeIn K cd3 "_law_alike" = true)
    (k3 : PySem.W.keepIn K (.ref f3) = true)
    (a4 : PySem.W.nsIn K mainGlobals "_law_length" = some (some (.ref f4)))
    (l4 : K.lookup f4 = some ⟨oc4, od4, .func (PySem.W.fnOf "_law_length" "_law_length" (defArgs slaw_length) (defBody slaw_length) (defScope slaw_length) .none kV4 dc4 pm4 an4 cd4 ct4), sl4⟩)
    (c4 : PySem.W.codeIn K cd4 "_law_length" = true)
    (k4 : PySem.W.keepIn K (.ref f4) = true)
    (a5 : PySem.W.nsIn K mainGlobals "_law_lead" = some (some (.ref f5)))
    (l5 : K.lookup f5 = some ⟨oc5, od5, .func (PySem.W.fnOf "_law_lead" "_law_lead" (defArgs slaw_lead) (defBody slaw_lead) (defScope slaw_lead) .none kV5 dc5 pm5 an5 cd5 ct5), sl5⟩)
    (c5 : PySem.W.codeIn K cd5 "_law_lead" = true)
    (k5 : PySem.W.keepIn K (.ref f5) = true)
    (a6 : PySem.W.nsIn K mainGlobals "_law_secret" = some (some (.ref f6)))
    (l6 : K.lookup f6 = some ⟨oc6, od6, .func (PySem.W.fnOf "_law_secret" "_law_secret" (defArgs slaw_secret) (defBody slaw_secret) (defScope slaw_secret) .none kV6 dc6 pm6 an6 cd6 ct6), sl6⟩)
    (c6 : PySem.W.codeIn K cd6 "_law_secret" = true)
    (k6 : PySem.W.keepIn K (.ref f6) = true)
    (a7 : PySem.W.nsIn K mainGlobals "_law_true_look" = some (some (.ref f7)))
    (l7 : K.lookup f7 = some ⟨oc7, od7, .func (PySem.W.fnOf "_law_true_look" "_law_true_look" (defArgs slaw_true_look) (defBody slaw_true_look) (defScope slaw_true_look) .none kV7 dc7 pm7 an7 cd7 ct7), sl7⟩)
    (c7 : PySem.W.codeIn K cd7 "_law_true_look" = true)
    (k7 : PySem.W.keepIn K (.ref f7) = true)
    (a8 : PySem.W.nsIn K mainGlobals "_law_known" = some (some (.ref f8)))
    (l8 : K.lookup f8 = some ⟨oc8, od8, .func (PySem.W.fnOf "_law_known" "_law_known" (defArgs slaw_known) (defBody slaw_known) (defScope slaw_known) .none kV8 dc8 pm8 an8 cd8 ct8), sl8⟩)
    (c8 : PySem.W.codeIn K cd8 "_law_known" = true)
    (k8 : PySem.W.keepIn K (.ref f8) = true)
    (a9 : PySem.W.nsIn K mainGlobals "_law_home" = some (some (.ref f9)))
    (l9 : K.lookup f9 = some ⟨oc9, od9, .func (PySem.W.fnOf "_law_home" "_law_home" (defArgs slaw_home) (defBody slaw_home) (defScope slaw_home) .none kV9 dc9 pm9 an9 cd9 ct9), sl9⟩)
    (c9 : PySem.W.codeIn K cd9 "_law_home" = true)
    (k9 : PySem.W.keepIn K (.ref f9) = true)
    (a10 : PySem.W.nsIn K mainGlobals "_law_any_look" = some (some (.ref f10)))
    (l10 : K.lookup f10 = some ⟨oc10, od10, .func (PySem.W.fnOf "_law_any_look" "_law_any_look" (defArgs slaw_any_look) (defBody slaw_any_look) (defScope slaw_any_look) .none kV10 dc10 pm10 an10 cd10 ct10), sl10⟩)
    (c10 : PySem.W.codeIn K cd10 "_law_any_look" = true)
    (k10 : PySem.W.keepIn K (.ref f10) = true)
    (a11 : PySem.W.nsIn K mainGlobals "_law_made" = some (some (.ref f11)))
    (l11 : K.lookup f11 = some ⟨oc11, od11, .func (PySem.W.fnOf "_law_made" "_law_made" (defArgs slaw_made) (defBody slaw_made) (defScope slaw_made) .none kV11 dc11 pm11 an11 cd11 ct11), sl11⟩)
    (c11 : PySem.W.codeIn K cd11 "_law_made" = true)
    (k11 : PySem.W.keepIn K (.ref f11) = true)
    (a12 : PySem.W.nsIn K mainGlobals "_law_kind" = some (some (.ref f12)))
    (l12 : K.lookup f12 = some ⟨oc12, od12, .func (PySem.W.fnOf "_law_kind" "_law_kind" (defArgs slaw_kind) (defBody slaw_kind) (defScope slaw_kind) .none kV12 dc12 pm12 an12 cd12 ct12), sl12⟩)
    (c12 : PySem.W.codeIn K cd12 "_law_kind" = true)
    (k12 : PySem.W.keepIn K (.ref f12) = true)
    (a13 : PySem.W.nsIn K mainGlobals "_law_asked" = some (some (.ref f13)))
    (l13 : K.lookup f13 = some ⟨oc13, od13, .func (PySem.W.fnOf "_law_asked" "_law_asked" (defArgs slaw_asked) (defBody slaw_asked) (defScope slaw_asked) .none kV13 dc13 pm13 an13 cd13 ct13), sl13⟩)
    (c13 : PySem.W.codeIn K cd13 "_law_asked" = true)
    (k13 : PySem.W.keepIn K (.ref f13) = true)
    (a14 : PySem.W.nsIn K mainGlobals "_law_lengths_right" = some (some (.ref f14)))
    (l14 : K.lookup f14 = some ⟨oc14, od14, .func (PySem.W.fnOf "_law_lengths_right" "_law_lengths_right" (defArgs slaw_lengths_right) (defBody slaw_lengths_right) (defScope slaw_lengths_right) .none kV14 dc14 pm14 an14 cd14 ct14), sl14⟩)
    (c14 : PySem.W.codeIn K cd14 "_law_lengths_right" = true)
    (k14 : PySem.W.keepIn K (.ref f14) = true)
    (a15 : PySem.W.nsIn K mainGlobals "_law_made_right" = some (some (.ref f15)))
    (l15 : K.lookup f15 = some ⟨oc15, od15, .func (PySem.W.fnOf "_law_made_right" "_law_made_right" (defArgs slaw_made_right) (defBody slaw_made_right) (defScope slaw_made_right) .none kV15 dc15 pm15 an15 cd15 ct15), sl15⟩)
    (c15 : PySem.W.codeIn K cd15 "_law_made_right" = true)
    (k15 : PySem.W.keepIn K (.ref f15) = true)
    (a16 : PySem.W.nsIn K mainGlobals "side_looks" = some (some (.ref f16)))
    (l16 : K.lookup f16 = some ⟨oc16, od16, .func (PySem.W.fnOf "side_looks" "side_looks" (defArgs sside_looks) (defBody sside_looks) (defScope sside_looks) .none kV16 dc16 pm16 an16 cd16 ct16), sl16⟩)
    (c16 : PySem.W.codeIn K cd16 "side_looks" = true)
    (k16 : PySem.W.keepIn K (.ref f16) = true)
    (a17 : PySem.W.nsIn K mainGlobals "place_by" = some (some (.ref f17)))
    (l17 : K.lookup f17 = some ⟨oc17, od17, .func (PySem.W.fnOf "place_by" "place_by" (defArgs splace_by) (defBody splace_by) (defScope splace_by) .none kV17 dc17 pm17 an17 cd17 ct17), sl17⟩)
    (c17 : PySem.W.codeIn K cd17 "place_by" = true)
    (k17 : PySem.W.keepIn K (.ref f17) = true)
    (a18 : PySem.W.nsIn K mainGlobals "best_step" = some (some (.ref f18)))
    (l18 : K.lookup f18 = some ⟨oc18, od18, .func (PySem.W.fnOf "best_step" "best_step" (defArgs sbest_step) (defBody sbest_step) (defScope sbest_step) .none kV18 dc18 pm18 an18 cd18 ct18), sl18⟩)
    (c18 : PySem.W.codeIn K cd18 "best_step" = true)
    (k18 : PySem.W.keepIn K (.ref f18) = true)
    (a19 : PySem.W.nsIn K mainGlobals "too_far" = some (some (.ref f19)))
    (l19 : K.lookup f19 = some ⟨oc19, od19, .func (PySem.W.fnOf "too_far" "too_far" (defArgs stoo_far) (defBody stoo_far) (defScope stoo_far) .none kV19 dc19 pm19 an19 cd19 ct19), sl19⟩)
    (c19 : PySem.W.codeIn K cd19 "too_far" = true)
    (k19 : PySem.W.keepIn K (.ref f19) = true)
    (a20 : PySem.W.nsIn K mainGlobals "clash" = some (some (.ref f20)))
    (l20 : K.lookup f20 = some ⟨oc20, od20, .func (PySem.W.fnOf "clash" "clash" (defArgs sclash) (defBody sclash) (defScope sclash) .none kV20 dc20 pm20 an20 cd20 ct20), sl20⟩)
    (c20 : PySem.W.codeIn K cd20 "clash" = true)
    (k20 : PySem.W.keepIn K (.ref f20) = true)
    (a21 : PySem.W.findIn K (.ref C) "__init__" = some (some (.ref f21)))
    (i21 : PySem.W.isFn K (.ref f21) = true)
    (l21 : K.lookup f21 = some ⟨oc21, od21, .func (PySem.W.fnOf "__init__" "Dark.__init__" (defArgs sDark_init) (defBody sDark_init) (defScope sDark_init) .none kV21 dc21 pm21 an21 cd21 ct21), sl21⟩)
    (c21 : PySem.W.codeIn K cd21 "Dark.__init__" = true)
    (k21 : PySem.W.keepIn K (.ref f21) = true)
    (a22 : PySem.W.findIn K (.ref C) "length" = some (some (.ref f22)))
    (i22 : PySem.W.isFn K (.ref f22) = true)
    (l22 : K.lookup f22 = some ⟨oc22, od22, .func (PySem.W.fnOf "length" "Dark.length" (defArgs sDark_length) (defBody sDark_length) (defScope sDark_length) .none kV22 dc22 pm22 an22 cd22 ct22), sl22⟩)
    (c22 : PySem.W.codeIn K cd22 "Dark.length" = true)
    (k22 : PySem.W.keepIn K (.ref f22) = true)
    (a23 : PySem.W.findIn K (.ref C) "hear" = some (some (.ref f23)))
    (i23 : PySem.W.isFn K (.ref f23) = true)
    (l23 : K.lookup f23 = some ⟨oc23, od23, .func (PySem.W.fnOf "hear" "Dark.hear" (defArgs sDark_hear) (defBody sDark_hear) (defScope sDark_hear) .none kV23 dc23 pm23 an23 cd23 ct23), sl23⟩)
    (c23 : PySem.W.codeIn K cd23 "Dark.hear" = true)
    (k23 : PySem.W.keepIn K (.ref f23) = true)
    (a24 : PySem.W.findIn K (.ref C) "drop" = some (some (.ref f24)))
    (i24 : PySem.W.isFn K (.ref f24) = true)
    (l24 : K.lookup f24 = some ⟨oc24, od24, .func (PySem.W.fnOf "drop" "Dark.drop" (defArgs sDark_drop) (defBody sDark_drop) (defScope sDark_drop) .none kV24 dc24 pm24 an24 cd24 ct24), sl24⟩)
    (c24 : PySem.W.codeIn K cd24 "Dark.drop" = true)
    (k24 : PySem.W.keepIn K (.ref f24) = true)
    (a25 : PySem.W.findIn K (.ref C) "looks" = some (some (.ref f25)))
    (i25 : PySem.W.isFn K (.ref f25) = true)
    (l25 : K.lookup f25 = some ⟨oc25, od25, .func (PySem.W.fnOf "looks" "Dark.looks" (defArgs sDark_looks) (defBody sDark_looks) (defScope sDark_looks) .none kV25 dc25 pm25 an25 cd25 ct25), sl25⟩)
    (c25 : PySem.W.codeIn K cd25 "Dark.looks" = true)
    (k25 : PySem.W.keepIn K (.ref f25) = true)
    (a26 : PySem.W.findIn K (.ref C) "may" = some (some (.ref f26)))
    (i26 : PySem.W.isFn K (.ref f26) = true)
    (l26 : K.lookup f26 = some ⟨oc26, od26, .func (PySem.W.fnOf "may" "Dark.may" (defArgs sDark_may) (defBody sDark_may) (defScope sDark_may) .none kV26 dc26 pm26 an26 cd26 ct26), sl26⟩)
    (c26 : PySem.W.codeIn K cd26 "Dark.may" = true)
    (k26 : PySem.W.keepIn K (.ref f26) = true)
    (a27 : PySem.W.findIn K (.ref C) "sure" = some (some (.ref f27)))
    (i27 : PySem.W.isFn K (.ref f27) = true)
    (l27 : K.lookup f27 = some ⟨oc27, od27, .func (PySem.W.fnOf "sure" "Dark.sure" (defArgs sDark_sure) (defBody sDark_sure) (defScope sDark_sure) .none kV27 dc27 pm27 an27 cd27 ct27), sl27⟩)
    (c27 : PySem.W.codeIn K cd27 "Dark.sure" = true)
    (k27 : PySem.W.keepIn K (.ref f27) = true)
    (a28 : PySem.W.findIn K (.ref C) "_check_word" = some (some (.ref f28)))
    (i28 : PySem.W.isFn K (.ref f28) = true)
    (l28 : K.lookup f28 = some ⟨oc28, od28, .func (PySem.W.fnOf "_check_word" "Dark._check_word" (defArgs sDarkcheck_word) (defBody sDarkcheck_word) (defScope sDarkcheck_word) .none kV28 dc28 pm28 an28 cd28 ct28), sl28⟩)
    (c28 : PySem.W.codeIn K cd28 "Dark._check_word" = true)
    (k28 : PySem.W.keepIn K (.ref f28) = true)
    (a29 : PySem.W.findIn K (.ref C) "_home" = some (some (.ref f29)))
    (i29 : PySem.W.isFn K (.ref f29) = true)
    (l29 : K.lookup f29 = some ⟨oc29, od29, .func (PySem.W.fnOf "_home" "Dark._home" (defArgs sDarkhome) (defBody sDarkhome) (defScope sDarkhome) .none kV29 dc29 pm29 an29 cd29 ct29), sl29⟩)
    (c29 : PySem.W.codeIn K cd29 "Dark._home" = true)
    (k29 : PySem.W.keepIn K (.ref f29) = true)
    (a30 : PySem.W.findIn K (.ref C) "_clashing" = some (some (.ref f30)))
    (i30 : PySem.W.isFn K (.ref f30) = true)
    (l30 : K.lookup f30 = some ⟨oc30, od30, .func (PySem.W.fnOf "_clashing" "Dark._clashing" (defArgs sDarkclashing) (defBody sDarkclashing) (defScope sDarkclashing) .none kV30 dc30 pm30 an30 cd30 ct30), sl30⟩)
    (c30 : PySem.W.codeIn K cd30 "Dark._clashing" = true)
    (k30 : PySem.W.keepIn K (.ref f30) = true)
    (a31 : PySem.W.findIn K (.ref C) "_bound" = some (some (.ref f31)))
    (i31 : PySem.W.isFn K (.ref f31) = true)
    (l31 : K.lookup f31 = some ⟨oc31, od31, .func (PySem.W.fnOf "_bound" "Dark._bound" (defArgs sDarkbound) (defBody sDarkbound) (defScope sDarkbound) .none kV31 dc31 pm31 an31 cd31 ct31), sl31⟩)
    (c31 : PySem.W.codeIn K cd31 "Dark._bound" = true)
    (k31 : PySem.W.keepIn K (.ref f31) = true)
    (a32 : PySem.W.findIn K (.ref C) "least" = some (some (.ref f32)))
    (i32 : PySem.W.isFn K (.ref f32) = true)
    (l32 : K.lookup f32 = some ⟨oc32, od32, .func (PySem.W.fnOf "least" "Dark.least" (defArgs sDark_least) (defBody sDark_least) (defScope sDark_least) .none kV32 dc32 pm32 an32 cd32 ct32), sl32⟩)
    (c32 : PySem.W.codeIn K cd32 "Dark.least" = true)
    (k32 : PySem.W.keepIn K (.ref f32) = true)
    (a33 : PySem.W.findIn K (.ref C) "greatest" = some (some (.ref f33)))
    (i33 : PySem.W.isFn K (.ref f33) = true)
    (l33 : K.lookup f33 = some ⟨oc33, od33, .func (PySem.W.fnOf "greatest" "Dark.greatest" (defArgs sDark_greatest) (defBody sDark_greatest) (defScope sDark_greatest) .none kV33 dc33 pm33 an33 cd33 ct33), sl33⟩)
    (c33 : PySem.W.codeIn K cd33 "Dark.greatest" = true)
    (k33 : PySem.W.keepIn K (.ref f33) = true)
    (a34 : PySem.W.nsIn K mainGlobals "law" = some (some (.ref f34)))
    (l34 : K.lookup f34 = some ⟨oc34, od34, .func (PySem.W.fnOf "law" "law" (defArgs slaw) (defBody slaw) (defScope slaw) .none kV34 dc34 pm34 an34 cd34 ct34), sl34⟩)
    (c34 : PySem.W.codeIn K cd34 "law" = true)
    (k34 : PySem.W.keepIn K (.ref f34) = true)
    (pg : PySem.W.plainGet K C Str.empty = true)
    (hd : PySem.W.hasDictIn K C = true)
    (po : PySem.W.plainOver K C = true)
    (sa : PySem.W.findIn K (.ref C) "__setattr__" = some (some (.builtin "object.__setattr__")))
    (mk : PySem.W.makesIn K C = true)
    (kc : PySem.W.keepIn K (.ref C) = true)
    (n_length : PySem.W.findIn K (.ref C) "_length" = some none)
    (n_looks : PySem.W.findIn K (.ref C) "_looks" = some none)
    (b_max : PySem.W.nsIn K mainGlobals "max" = some none)
    (b_min : PySem.W.nsIn K mainGlobals "min" = some none)
    (b_len : PySem.W.nsIn K mainGlobals "len" = some none)
    (b_range : PySem.W.nsIn K mainGlobals "range" = some none)
    (b_sorted : PySem.W.nsIn K mainGlobals "sorted" = some none)
    (b_set : PySem.W.nsIn K mainGlobals "set" = some none)
    (b_isinstance : PySem.W.nsIn K mainGlobals "isinstance" = some none)
    (b_list : PySem.W.nsIn K mainGlobals "list" = some none)
    (b_tuple : PySem.W.nsIn K mainGlobals "tuple" = some none)
    (b_bool : PySem.W.nsIn K mainGlobals "bool" = some none)
    (b_int : PySem.W.nsIn K mainGlobals "int" = some none)
    (b_str : PySem.W.nsIn K mainGlobals "str" = some none)
    (b_super : PySem.W.nsIn K mainGlobals "super" = some none)
    (b_ValueError : PySem.W.nsIn K mainGlobals "ValueError" = some none)
    (gSLOW : PySem.W.nsIn K mainGlobals "SLOW" = some (some (.str "slow" tSLOW)))
    (gFAST : PySem.W.nsIn K mainGlobals "FAST" = some (some (.str "fast" tFAST)))
    (gW : PySem.W.nsIn K mainGlobals "WORDS" = some (some (.ref aW)))
    (lW : K.lookup aW = some ⟨.type "dict", none, .dict es nW, #[]⟩)
    (keys : PySem.W.KeysLit w.params es.toList)
    (low : (aW == sysModules) = false)
    (wS : PySem.W.nsIn K aW "slow" = some (some (.ref tS)))
    (wF : PySem.W.nsIn K aW "fast" = some (some (.ref tF)))
    (lS : K.lookup tS = some ⟨.type "tuple", o1, .seq #[.str "at" u1, .str "from" u2] n1, s1⟩)
    (lF : K.lookup tF = some ⟨.type "tuple", o2, .seq #[.str "at" u3, .str "upto" u4] n2, s2⟩)
    (gL : PySem.W.nsIn K mainGlobals "LOOK_WORDS" = some (some (.ref aL)))
    (lL : K.lookup aL = some ⟨.type "tuple", o3, .seq #[.str "at" u5, .str "from" u6, .str "upto" u7] n3, s3⟩)
    (xg0 : PySem.W.nsIn K mainGlobals "NoLength" = some (some (.ref xC0)))
    (xL0 : K.lookup xC0 = some (excClassObj xnm0 xq0 xC0 xN0 xbs0 xbm0 true xsn0 xsub0 xab0 xcol0 xdd0 xk00 xk10 xk20 xk30 xk50 "ValueError.__new__"))
    (xbv0 : PySem.HandSPX.refsVE xbm0 = true)
    (xsa0 : PySem.W.findIn K (.ref xC0) "__setattr__" = some (some (.builtin "object.__setattr__")))
    (xnw0 : PySem.W.findIn K (.ref xC0) "what" = some none)
    (xsv0 : PySem.W.subIn K (.ref xC0) (.type "ValueError") = some true)
    (xsu0 : PySem.W.ks_superIn K xC0 xC0 "__init__" = some (some (.builtin "ValueError.__init__")))
    (xop0 : PySem.W.nsIn K PySem.cStatics "thirdparty.any" = some none)
    (xme0 : PySem.W.mroIn K xC0 (.ref xC0) = some true)
    (xin0 : PySem.W.findIn K (.ref xC0) "__init__" = some (some (.ref xF0)))
    (xty0 : PySem.W.typeIn K (.ref xF0) = some (.type "function"))
    (xkc0 : PySem.W.keepIn K (.ref xC0) = true)
    (xex0 : PySem.W.subIn K (.ref xC0) (.type "BaseException") = some true)
    (xtc0 : PySem.W.typeIn K (.ref xC0) = some (.type "type"))
    (xic0 : PySem.W.isClsIn K xC0 = true)
    (xss0 : PySem.W.subIn K (.ref xC0) (.ref xC0) = some true)
    (xto0 : (l.prog.main.scope.names.lookup ("super" : Str)).isSome = false)
    (xl0 : K.lookup xF0 = some ⟨xoc0, xod0, .func (PySem.W.ksFn "__init__" "NoLength.__init__" (defArgs (inClass (top 3) 0)) (defBody (inClass (top 3) 0)) (defScope (inClass (top 3) 0)) .none .none xdoc0 xpm0 xan0 (.ref xcda0) xct0 xcc0), xosl0⟩)
    (xc0 : PySem.W.codeIn K (.ref xcda0) "NoLength.__init__" = true)
    (xlc0 : K.lookup xcc0 = some ⟨xcl0, xcld0, .cell (some (.ref xC0)), xcsl0⟩)
    (xld0 : K.lookup xcda0 = some ⟨xccl0, xcdd0, .fields xvs0, xccs0⟩)
    (xv0 : xvs0[2]? = some (.str xfile0 xtf0))
    (xfi0 : ((l.prog.main.file : Str) == xfile0) = true)
    (xg1 : PySem.W.nsIn K mainGlobals "NoWord" = some (some (.ref xC1)))
    (xL1 : K.lookup xC1 = some (excClassObj xnm1 xq1 xC1 xN1 xbs1 xbm1 true xsn1 xsub1 xab1 xcol1 xdd1 xk01 xk11 xk21 xk31 xk51 "ValueError.__new__"))
    (xbv1 : PySem.HandSPX.refsVE xbm1 = true)
    (xsa1 : PySem.W.findIn K (.ref xC1) "__setattr__" = some (some (.builtin "object.__setattr__")))
    (xnw1 : PySem.W.findIn K (.ref xC1) "what" = some none)
    (xsv1 : PySem.W.subIn K (.ref xC1) (.type "ValueError") = some true)
    (xsu1 : PySem.W.ks_superIn K xC1 xC1 "__init__" = some (some (.builtin "ValueError.__init__")))
    (xop1 : PySem.W.nsIn K PySem.cStatics "thirdparty.any" = some none)
    (xme1 : PySem.W.mroIn K xC1 (.ref xC1) = some true)
    (xin1 : PySem.W.findIn K (.ref xC1) "__init__" = some (some (.ref xF1)))
    (xty1 : PySem.W.typeIn K (.ref xF1) = some (.type "function"))
    (xkc1 : PySem.W.keepIn K (.ref xC1) = true)
    (xex1 : PySem.W.subIn K (.ref xC1) (.type "BaseException") = some true)
    (xtc1 : PySem.W.typeIn K (.ref xC1) = some (.type "type"))
    (xic1 : PySem.W.isClsIn K xC1 = true)
    (xss1 : PySem.W.subIn K (.ref xC1) (.ref xC1) = some true)
    (xto1 : (l.prog.main.scope.names.lookup ("super" : Str)).isSome = false)
    (xl1 : K.lookup xF1 = some ⟨xoc1, xod1, .func (PySem.W.ksFn "__init__" "NoWord.__init__" (defArgs (inClass (top 4) 0)) (defBody (inClass (top 4) 0)) (defScope (inClass (top 4) 0)) .none .none xdoc1 xpm1 xan1 (.ref xcda1) xct1 xcc1), xosl1⟩)
    (xc1 : PySem.W.codeIn K (.ref xcda1) "NoWord.__init__" = true)
    (xlc1 : K.lookup xcc1 = some ⟨xcl1, xcld1, .cell (some (.ref xC1)), xcsl1⟩)
    (xld1 : K.lookup xcda1 = some ⟨xccl1, xcdd1, .fields xvs1, xccs1⟩)
    (xv1 : xvs1[2]? = some (.str xfile1 xtf1))
    (xfi1 : ((l.prog.main.file : Str) == xfile1) = true)
    (xg2 : PySem.W.nsIn K mainGlobals "Clash" = some (some (.ref xC2)))
    (xL2 : K.lookup xC2 = some (excClassObj xnm2 xq2 xC2 xN2 xbs2 xbm2 true xsn2 xsub2 xab2 xcol2 xdd2 xk02 xk12 xk22 xk32 xk52 "ValueError.__new__"))
    (xbv2 : PySem.HandSPX.refsVE xbm2 = true)
    (xsa2 : PySem.W.findIn K (.ref xC2) "__setattr__" = some (some (.builtin "object.__setattr__")))
    (xnw2 : PySem.W.findIn K (.ref xC2) "what" = some none)
    (xsv2 : PySem.W.subIn K (.ref xC2) (.type "ValueError") = some true)
    (xsu2 : PySem.W.ks_superIn K xC2 xC2 "__init__" = some (some (.builtin "ValueError.__init__")))
    (xop2 : PySem.W.nsIn K PySem.cStatics "thirdparty.any" = some none)
    (xme2 : PySem.W.mroIn K xC2 (.ref xC2) = some true)
    (xin2 : PySem.W.findIn K (.ref xC2) "__init__" = some (some (.ref xF2)))
    (xty2 : PySem.W.typeIn K (.ref xF2) = some (.type "function"))
    (xkc2 : PySem.W.keepIn K (.ref xC2) = true)
    (xex2 : PySem.W.subIn K (.ref xC2) (.type "BaseException") = some true)
    (xtc2 : PySem.W.typeIn K (.ref xC2) = some (.type "type"))
    (xic2 : PySem.W.isClsIn K xC2 = true)
    (xss2 : PySem.W.subIn K (.ref xC2) (.ref xC2) = some true)
    (xto2 : (l.prog.main.scope.names.lookup ("super" : Str)).isSome = false)
    (xl2 : K.lookup xF2 = some ⟨xoc2, xod2, .func (PySem.W.ksFn "__init__" "Clash.__init__" (defArgs (inClass (top 5) 0)) (defBody (inClass (top 5) 0)) (defScope (inClass (top 5) 0)) .none .none xdoc2 xpm2 xan2 (.ref xcda2) xct2 xcc2), xosl2⟩)
    (xc2 : PySem.W.codeIn K (.ref xcda2) "Clash.__init__" = true)
    (xlc2 : K.lookup xcc2 = some ⟨xcl2, xcld2, .cell (some (.ref xC2)), xcsl2⟩)
    (xld2 : K.lookup xcda2 = some ⟨xccl2, xcdd2, .fields xvs2, xccs2⟩)
    (xv2 : xvs2[2]? = some (.str xfile2 xtf2))
    (xfi2 : ((l.prog.main.file : Str) == xfile2) = true)
    (xg3 : PySem.W.nsIn K mainGlobals "NoLook" = some (some (.ref xC3)))
    (xL3 : K.lookup xC3 = some (excClassObj xnm3 xq3 xC3 xN3 xbs3 xbm3 true xsn3 xsub3 xab3 xcol3 xdd3 xk03 xk13 xk23 xk33 xk53 "ValueError.__new__"))
    (xbv3 : PySem.HandSPX.refsVE xbm3 = true)
    (xsa3 : PySem.W.findIn K (.ref xC3) "__setattr__" = some (some (.builtin "object.__setattr__")))
    (xnw3 : PySem.W.findIn K (.ref xC3) "what" = some none)
    (xsv3 : PySem.W.subIn K (.ref xC3) (.type "ValueError") = some true)
    (xsu3 : PySem.W.ks_superIn K xC3 xC3 "__init__" = some (some (.builtin "ValueError.__init__")))
    (xop3 : PySem.W.nsIn K PySem.cStatics "thirdparty.any" = some none)
    (xme3 : PySem.W.mroIn K xC3 (.ref xC3) = some true)
    (xin3 : PySem.W.findIn K (.ref xC3) "__init__" = some (some (.ref xF3)))
    (xty3 : PySem.W.typeIn K (.ref xF3) = some (.type "function"))
    (xkc3 : PySem.W.keepIn K (.ref xC3) = true)
    (xex3 : PySem.W.subIn K (.ref xC3) (.type "BaseException") = some true)
    (xtc3 : PySem.W.typeIn K (.ref xC3) = some (.type "type"))
    (xic3 : PySem.W.isClsIn K xC3 = true)
    (xss3 : PySem.W.subIn K (.ref xC3) (.ref xC3) = some true)
    (xto3 : (l.prog.main.scope.names.lookup ("super" : Str)).isSome = false)
    (xl3 : K.lookup xF3 = some ⟨xoc3, xod3, .func (PySem.W.ksFn "__init__" "NoLook.__init__" (defArgs (inClass (top 6) 0)) (defBody (inClass (top 6) 0)) (defScope (inClass (top 6) 0)) .none .none xdoc3 xpm3 xan3 (.ref xcda3) xct3 xcc3), xosl3⟩)
    (xc3 : PySem.W.codeIn K (.ref xcda3) "NoLook.__init__" = true)
    (xlc3 : K.lookup xcc3 = some ⟨xcl3, xcld3, .cell (some (.ref xC3)), xcsl3⟩)
    (xld3 : K.lookup xcda3 = some ⟨xccl3, xcdd3, .fields xvs3, xccs3⟩)
    (xv3 : xvs3[2]? = some (.str xfile3 xtf3))
    (xfi3 : ((l.prog.main.file : Str) == xfile3) = true)
    (xg4 : PySem.W.nsIn K mainGlobals "NoRound" = some (some (.ref xC4)))
    (xL4 : K.lookup xC4 = some (excClassObj xnm4 xq4 xC4 xN4 xbs4 xbm4 true xsn4 xsub4 xab4 xcol4 xdd4 xk04 xk14 xk24 xk34 xk54 "ValueError.__new__"))
    (xbv4 : PySem.HandSPX.refsVE xbm4 = true)
    (xsa4 : PySem.W.findIn K (.ref xC4) "__setattr__" = some (some (.builtin "object.__setattr__")))
    (xnw4 : PySem.W.findIn K (.ref xC4) "what" = some none)
    (xsv4 : PySem.W.subIn K (.ref xC4) (.type "ValueError") = some true)
    (xsu4 : PySem.W.ks_superIn K xC4 xC4 "__init__" = some (some (.builtin "ValueError.__init__")))
    (xop4 : PySem.W.nsIn K PySem.cStatics "thirdparty.any" = some none)
    (xme4 : PySem.W.mroIn K xC4 (.ref xC4) = some true)
    (xin4 : PySem.W.findIn K (.ref xC4) "__init__" = some (some (.ref xF4)))
    (xty4 : PySem.W.typeIn K (.ref xF4) = some (.type "function"))
    (xkc4 : PySem.W.keepIn K (.ref xC4) = true)
    (xex4 : PySem.W.subIn K (.ref xC4) (.type "BaseException") = some true)
    (xtc4 : PySem.W.typeIn K (.ref xC4) = some (.type "type"))
    (xic4 : PySem.W.isClsIn K xC4 = true)
    (xss4 : PySem.W.subIn K (.ref xC4) (.ref xC4) = some true)
    (xto4 : (l.prog.main.scope.names.lookup ("super" : Str)).isSome = false)
    (xl4 : K.lookup xF4 = some ⟨xoc4, xod4, .func (PySem.W.ksFn "__init__" "NoRound.__init__" (defArgs (inClass (top 7) 0)) (defBody (inClass (top 7) 0)) (defScope (inClass (top 7) 0)) .none .none xdoc4 xpm4 xan4 (.ref xcda4) xct4 xcc4), xosl4⟩)
    (xc4 : PySem.W.codeIn K (.ref xcda4) "NoRound.__init__" = true)
    (xlc4 : K.lookup xcc4 = some ⟨xcl4, xcld4, .cell (some (.ref xC4)), xcsl4⟩)
    (xld4 : K.lookup xcda4 = some ⟨xccl4, xcdd4, .fields xvs4, xccs4⟩)
    (xv4 : xvs4[2]? = some (.str xfile4 xtf4))
    (xfi4 : ((l.prog.main.file : Str) == xfile4) = true)
    (xg5 : PySem.W.nsIn K mainGlobals "NoUses" = some (some (.ref xC5)))
    (xL5 : K.lookup xC5 = some (excClassObj xnm5 xq5 xC5 xN5 xbs5 xbm5 true xsn5 xsub5 xab5 xcol5 xdd5 xk05 xk15 xk25 xk35 xk55 "ValueError.__new__"))
    (xbv5 : PySem.HandSPX.refsVE xbm5 = true)
    (xsa5 : PySem.W.findIn K (.ref xC5) "__setattr__" = some (some (.builtin "object.__setattr__")))
    (xnw5 : PySem.W.findIn K (.ref xC5) "what" = some none)
    (xsv5 : PySem.W.subIn K (.ref xC5) (.type "ValueError") = some true)
    (xsu5 : PySem.W.ks_superIn K xC5 xC5 "__init__" = some (some (.builtin "ValueError.__init__")))
    (xop5 : PySem.W.nsIn K PySem.cStatics "thirdparty.any" = some none)
    (xme5 : PySem.W.mroIn K xC5 (.ref xC5) = some true)
    (xin5 : PySem.W.findIn K (.ref xC5) "__init__" = some (some (.ref xF5)))
    (xty5 : PySem.W.typeIn K (.ref xF5) = some (.type "function"))
    (xkc5 : PySem.W.keepIn K (.ref xC5) = true)
    (xex5 : PySem.W.subIn K (.ref xC5) (.type "BaseException") = some true)
    (xtc5 : PySem.W.typeIn K (.ref xC5) = some (.type "type"))
    (xic5 : PySem.W.isClsIn K xC5 = true)
    (xss5 : PySem.W.subIn K (.ref xC5) (.ref xC5) = some true)
    (xto5 : (l.prog.main.scope.names.lookup ("super" : Str)).isSome = false)
    (xl5 : K.lookup xF5 = some ⟨xoc5, xod5, .func (PySem.W.ksFn "__init__" "NoUses.__init__" (defArgs (inClass (top 8) 0)) (defBody (inClass (top 8) 0)) (defScope (inClass (top 8) 0)) .none .none xdoc5 xpm5 xan5 (.ref xcda5) xct5 xcc5), xosl5⟩)
    (xc5 : PySem.W.codeIn K (.ref xcda5) "NoUses.__init__" = true)
    (xlc5 : K.lookup xcc5 = some ⟨xcl5, xcld5, .cell (some (.ref xC5)), xcsl5⟩)
    (xld5 : K.lookup xcda5 = some ⟨xccl5, xcdd5, .fields xvs5, xccs5⟩)
    (xv5 : xvs5[2]? = some (.str xfile5 xtf5))
    (xfi5 : ((l.prog.main.file : Str) == xfile5) = true)
    (xg6 : PySem.W.nsIn K mainGlobals "NoSide" = some (some (.ref xC6)))
    (xL6 : K.lookup xC6 = some (excClassObj xnm6 xq6 xC6 xN6 xbs6 xbm6 true xsn6 xsub6 xab6 xcol6 xdd6 xk06 xk16 xk26 xk36 xk56 "ValueError.__new__"))
    (xbv6 : PySem.HandSPX.refsVE xbm6 = true)
    (xsa6 : PySem.W.findIn K (.ref xC6) "__setattr__" = some (some (.builtin "object.__setattr__")))
    (xnw6 : PySem.W.findIn K (.ref xC6) "what" = some none)
    (xsv6 : PySem.W.subIn K (.ref xC6) (.type "ValueError") = some true)
    (xsu6 : PySem.W.ks_superIn K xC6 xC6 "__init__" = some (some (.builtin "ValueError.__init__")))
    (xop6 : PySem.W.nsIn K PySem.cStatics "thirdparty.any" = some none)
    (xme6 : PySem.W.mroIn K xC6 (.ref xC6) = some true)
    (xin6 : PySem.W.findIn K (.ref xC6) "__init__" = some (some (.ref xF6)))
    (xty6 : PySem.W.typeIn K (.ref xF6) = some (.type "function"))
    (xkc6 : PySem.W.keepIn K (.ref xC6) = true)
    (xex6 : PySem.W.subIn K (.ref xC6) (.type "BaseException") = some true)
    (xtc6 : PySem.W.typeIn K (.ref xC6) = some (.type "type"))
    (xic6 : PySem.W.isClsIn K xC6 = true)
    (xss6 : PySem.W.subIn K (.ref xC6) (.ref xC6) = some true)
    (xto6 : (l.prog.main.scope.names.lookup ("super" : Str)).isSome = false)
    (xl6 : K.lookup xF6 = some ⟨xoc6, xod6, .func (PySem.W.ksFn "__init__" "NoSide.__init__" (defArgs (inClass (top 9) 0)) (defBody (inClass (top 9) 0)) (defScope (inClass (top 9) 0)) .none .none xdoc6 xpm6 xan6 (.ref xcda6) xct6 xcc6), xosl6⟩)
    (xc6 : PySem.W.codeIn K (.ref xcda6) "NoSide.__init__" = true)
    (xlc6 : K.lookup xcc6 = some ⟨xcl6, xcld6, .cell (some (.ref xC6)), xcsl6⟩)
    (xld6 : K.lookup xcda6 = some ⟨xccl6, xcdd6, .fields xvs6, xccs6⟩)
    (xv6 : xvs6[2]? = some (.str xfile6 xtf6))
    (xfi6 : ((l.prog.main.file : Str) == xfile6) = true)
    (xg7 : PySem.W.nsIn K mainGlobals "NoRing" = some (some (.ref xC7)))
    (xL7 : K.lookup xC7 = some (excClassObj xnm7 xq7 xC7 xN7 xbs7 xbm7 true xsn7 xsub7 xab7 xcol7 xdd7 xk07 xk17 xk27 xk37 xk57 "ValueError.__new__"))
    (xbv7 : PySem.HandSPX.refsVE xbm7 = true)
    (xsa7 : PySem.W.findIn K (.ref xC7) "__setattr__" = some (some (.builtin "object.__setattr__")))
    (xnw7 : PySem.W.findIn K (.ref xC7) "what" = some none)
    (xsv7 : PySem.W.subIn K (.ref xC7) (.type "ValueError") = some true)
    (xsu7 : PySem.W.ks_superIn K xC7 xC7 "__init__" = some (some (.builtin "ValueError.__init__")))
    (xop7 : PySem.W.nsIn K PySem.cStatics "thirdparty.any" = some none)
    (xme7 : PySem.W.mroIn K xC7 (.ref xC7) = some true)
    (xin7 : PySem.W.findIn K (.ref xC7) "__init__" = some (some (.ref xF7)))
    (xty7 : PySem.W.typeIn K (.ref xF7) = some (.type "function"))
    (xkc7 : PySem.W.keepIn K (.ref xC7) = true)
    (xex7 : PySem.W.subIn K (.ref xC7) (.type "BaseException") = some true)
    (xtc7 : PySem.W.typeIn K (.ref xC7) = some (.type "type"))
    (xic7 : PySem.W.isClsIn K xC7 = true)
    (xss7 : PySem.W.subIn K (.ref xC7) (.ref xC7) = some true)
    (xto7 : (l.prog.main.scope.names.lookup ("super" : Str)).isSome = false)
    (xl7 : K.lookup xF7 = some ⟨xoc7, xod7, .func (PySem.W.ksFn "__init__" "NoRing.__init__" (defArgs (inClass (top 10) 0)) (defBody (inClass (top 10) 0)) (defScope (inClass (top 10) 0)) .none .none xdoc7 xpm7 xan7 (.ref xcda7) xct7 xcc7), xosl7⟩)
    (xc7 : PySem.W.codeIn K (.ref xcda7) "NoRing.__init__" = true)
    (xlc7 : K.lookup xcc7 = some ⟨xcl7, xcld7, .cell (some (.ref xC7)), xcsl7⟩)
    (xld7 : K.lookup xcda7 = some ⟨xccl7, xcdd7, .fields xvs7, xccs7⟩)
    (xv7 : xvs7[2]? = some (.str xfile7 xtf7))
    (xfi7 : ((l.prog.main.file : Str) == xfile7) = true)
    (xg8 : PySem.W.nsIn K mainGlobals "NoSteps" = some (some (.ref xC8)))
    (xL8 : K.lookup xC8 = some (excClassObj xnm8 xq8 xC8 xN8 xbs8 xbm8 true xsn8 xsub8 xab8 xcol8 xdd8 xk08 xk18 xk28 xk38 xk58 "ValueError.__new__"))
    (xbv8 : PySem.HandSPX.refsVE xbm8 = true)
    (xsa8 : PySem.W.findIn K (.ref xC8) "__setattr__" = some (some (.builtin "object.__setattr__")))
    (xnw8 : PySem.W.findIn K (.ref xC8) "what" = some none)
    (xsv8 : PySem.W.subIn K (.ref xC8) (.type "ValueError") = some true)
    (xsu8 : PySem.W.ks_superIn K xC8 xC8 "__init__" = some (some (.builtin "ValueError.__init__")))
    (xop8 : PySem.W.nsIn K PySem.cStatics "thirdparty.any" = some none)
    (xme8 : PySem.W.mroIn K xC8 (.ref xC8) = some true)
    (xin8 : PySem.W.findIn K (.ref xC8) "__init__" = some (some (.ref xF8)))
    (xty8 : PySem.W.typeIn K (.ref xF8) = some (.type "function"))
    (xkc8 : PySem.W.keepIn K (.ref xC8) = true)
    (xex8 : PySem.W.subIn K (.ref xC8) (.type "BaseException") = some true)
    (xtc8 : PySem.W.typeIn K (.ref xC8) = some (.type "type"))
    (xic8 : PySem.W.isClsIn K xC8 = true)
    (xss8 : PySem.W.subIn K (.ref xC8) (.ref xC8) = some true)
    (xto8 : (l.prog.main.scope.names.lookup ("super" : Str)).isSome = false)
    (xl8 : K.lookup xF8 = some ⟨xoc8, xod8, .func (PySem.W.ksFn "__init__" "NoSteps.__init__" (defArgs (inClass (top 11) 0)) (defBody (inClass (top 11) 0)) (defScope (inClass (top 11) 0)) .none .none xdoc8 xpm8 xan8 (.ref xcda8) xct8 xcc8), xosl8⟩)
    (xc8 : PySem.W.codeIn K (.ref xcda8) "NoSteps.__init__" = true)
    (xlc8 : K.lookup xcc8 = some ⟨xcl8, xcld8, .cell (some (.ref xC8)), xcsl8⟩)
    (xld8 : K.lookup xcda8 = some ⟨xccl8, xcdd8, .fields xvs8, xccs8⟩)
    (xv8 : xvs8[2]? = some (.str xfile8 xtf8))
    (xfi8 : ((l.prog.main.file : Str) == xfile8) = true)
    (xg9 : PySem.W.nsIn K mainGlobals "NoBottom" = some (some (.ref xC9)))
    (xL9 : K.lookup xC9 = some (excClassObj xnm9 xq9 xC9 xN9 xbs9 xbm9 true xsn9 xsub9 xab9 xcol9 xdd9 xk09 xk19 xk29 xk39 xk59 "ValueError.__new__"))
    (xbv9 : PySem.HandSPX.refsVE xbm9 = true)
    (xsa9 : PySem.W.findIn K (.ref xC9) "__setattr__" = some (some (.builtin "object.__setattr__")))
    (xnw9 : PySem.W.findIn K (.ref xC9) "what" = some none)
    (xsv9 : PySem.W.subIn K (.ref xC9) (.type "ValueError") = some true)
    (xsu9 : PySem.W.ks_superIn K xC9 xC9 "__init__" = some (some (.builtin "ValueError.__init__")))
    (xop9 : PySem.W.nsIn K PySem.cStatics "thirdparty.any" = some none)
    (xme9 : PySem.W.mroIn K xC9 (.ref xC9) = some true)
    (xin9 : PySem.W.findIn K (.ref xC9) "__init__" = some (some (.ref xF9)))
    (xty9 : PySem.W.typeIn K (.ref xF9) = some (.type "function"))
    (xkc9 : PySem.W.keepIn K (.ref xC9) = true)
    (xex9 : PySem.W.subIn K (.ref xC9) (.type "BaseException") = some true)
    (xtc9 : PySem.W.typeIn K (.ref xC9) = some (.type "type"))
    (xic9 : PySem.W.isClsIn K xC9 = true)
    (xss9 : PySem.W.subIn K (.ref xC9) (.ref xC9) = some true)
    (xto9 : (l.prog.main.scope.names.lookup ("super" : Str)).isSome = false)
    (xl9 : K.lookup xF9 = some ⟨xoc9, xod9, .func (PySem.W.ksFn "__init__" "NoBottom.__init__" (defArgs (inClass (top 12) 0)) (defBody (inClass (top 12) 0)) (defScope (inClass (top 12) 0)) .none .none xdoc9 xpm9 xan9 (.ref xcda9) xct9 xcc9), xosl9⟩)
    (xc9 : PySem.W.codeIn K (.ref xcda9) "NoBottom.__init__" = true)
    (xlc9 : K.lookup xcc9 = some ⟨xcl9, xcld9, .cell (some (.ref xC9)), xcsl9⟩)
    (xld9 : K.lookup xcda9 = some ⟨xccl9, xcdd9, .fields xvs9, xccs9⟩)
    (xv9 : xvs9[2]? = some (.str xfile9 xtf9))
    (xfi9 : ((l.prog.main.file : Str) == xfile9) = true)
    (xg10 : PySem.W.nsIn K mainGlobals "NoText" = some (some (.ref xC10)))
    (xL10 : K.lookup xC10 = some (excClassObj xnm10 xq10 xC10 xN10 xbs10 xbm10 true xsn10 xsub10 xab10 xcol10 xdd10 xk010 xk110 xk210 xk310 xk510 "ValueError.__new__"))
    (xbv10 : PySem.HandSPX.refsVE xbm10 = true)
    (xsa10 : PySem.W.findIn K (.ref xC10) "__setattr__" = some (some (.builtin "object.__setattr__")))
    (xnw10 : PySem.W.findIn K (.ref xC10) "what" = some none)
    (xsv10 : PySem.W.subIn K (.ref xC10) (.type "ValueError") = some true)
    (xsu10 : PySem.W.ks_superIn K xC10 xC10 "__init__" = some (some (.builtin "ValueError.__init__")))
    (xop10 : PySem.W.nsIn K PySem.cStatics "thirdparty.any" = some none)
    (xme10 : PySem.W.mroIn K xC10 (.ref xC10) = some true)
    (xin10 : PySem.W.findIn K (.ref xC10) "__init__" = some (some (.ref xF10)))
    (xty10 : PySem.W.typeIn K (.ref xF10) = some (.type "function"))
    (xkc10 : PySem.W.keepIn K (.ref xC10) = true)
    (xex10 : PySem.W.subIn K (.ref xC10) (.type "BaseException") = some true)
    (xtc10 : PySem.W.typeIn K (.ref xC10) = some (.type "type"))
    (xic10 : PySem.W.isClsIn K xC10 = true)
    (xss10 : PySem.W.subIn K (.ref xC10) (.ref xC10) = some true)
    (xto10 : (l.prog.main.scope.names.lookup ("super" : Str)).isSome = false)
    (xl10 : K.lookup xF10 = some ⟨xoc10, xod10, .func (PySem.W.ksFn "__init__" "NoText.__init__" (defArgs (inClass (top 13) 0)) (defBody (inClass (top 13) 0)) (defScope (inClass (top 13) 0)) .none .none xdoc10 xpm10 xan10 (.ref xcda10) xct10 xcc10), xosl10⟩)
    (xc10 : PySem.W.codeIn K (.ref xcda10) "NoText.__init__" = true)
    (xlc10 : K.lookup xcc10 = some ⟨xcl10, xcld10, .cell (some (.ref xC10)), xcsl10⟩)
    (xld10 : K.lookup xcda10 = some ⟨xccl10, xcdd10, .fields xvs10, xccs10⟩)
    (xv10 : xvs10[2]? = some (.str xfile10 xtf10))
    (xfi10 : ((l.prog.main.file : Str) == xfile10) = true)
    (yg_DialError : PySem.W.nsIn K mainGlobals "DialError" = some (some (.ref yC_DialError)))
    (yi_DialError : PySem.W.isClsIn K yC_DialError = true)
    (yt_DialError : PySem.W.typeIn K (.ref yC_DialError) = some (.type "type"))
    (yb : PySem.W.subIn K (.ref yC_DialError) (.type "BaseException") = some true)
    (yga0 : PySem.W.findIn K (.ref xC0) "__getattribute__" = some (some (.builtin "BaseException.__getattribute__")))
    (ygg0 : PySem.W.findIn K (.ref xC0) "__getattr__" = some none)
    (yhd0 : PySem.W.hasDictIn K xC0 = true)
    (yha0 : PySem.W.findIn K (.ref xC0) "__class__" = some (some (.builtin "object.__class__")))
    (yhm0 : PySem.W.mroIn K xC0 (.type "object") = some true)
    (yhn : PySem.W.specialIn K (.builtin "object.__class__") "__get__" = some (some (.builtin "getset_descriptor.__get__")))
    (yht : PySem.W.takesIn K (.builtin "object.__class__") = some true)
    (ysd0 : PySem.W.subIn K (.ref xC0) (.ref yC_DialError) = some true)
    (ys_0_NoWord : PySem.W.subIn K (.ref xC0) (.ref xC1) = some false)
    (yn_0_NoWord : ((Value.ref xC0) == .ref xC1) = false)
    (ys_0_Clash : PySem.W.subIn K (.ref xC0) (.ref xC2) = some false)
    (yn_0_Clash : ((Value.ref xC0) == .ref xC2) = false)
    (ys_0_NoLook : PySem.W.subIn K (.ref xC0) (.ref xC3) = some false)
    (yn_0_NoLook : ((Value.ref xC0) == .ref xC3) = false)
    (ys_0_NoRound : PySem.W.subIn K (.ref xC0) (.ref xC4) = some false)
    (yn_0_NoRound : ((Value.ref xC0) == .ref xC4) = false)
    (ys_0_NoUses : PySem.W.subIn K (.ref xC0) (.ref xC5) = some false)
    (yn_0_NoUses : ((Value.ref xC0) == .ref xC5) = false)
    (ys_0_NoSide : PySem.W.subIn K (.ref xC0) (.ref xC6) = some false)
    (yn_0_NoSide : ((Value.ref xC0) == .ref xC6) = false)
    (ys_0_NoRing : PySem.W.subIn K (.ref xC0) (.ref xC7) = some false)
    (yn_0_NoRing : ((Value.ref xC0) == .ref xC7) = false)
    (ys_0_NoSteps : PySem.W.subIn K (.ref xC0) (.ref xC8) = some false)
    (yn_0_NoSteps : ((Value.ref xC0) == .ref xC8) = false)
    (ys_0_NoBottom : PySem.W.subIn K (.ref xC0) (.ref xC9) = some false)
    (yn_0_NoBottom : ((Value.ref xC0) == .ref xC9) = false)
    (ys_0_NoText : PySem.W.subIn K (.ref xC0) (.ref xC10) = some false)
    (yn_0_NoText : ((Value.ref xC0) == .ref xC10) = false)
    (yga1 : PySem.W.findIn K (.ref xC1) "__getattribute__" = some (some (.builtin "BaseException.__getattribute__")))
    (ygg1 : PySem.W.findIn K (.ref xC1) "__getattr__" = some none)
    (yhd1 : PySem.W.hasDictIn K xC1 = true)
    (yha1 : PySem.W.findIn K (.ref xC1) "__class__" = some (some (.builtin "object.__class__")))
    (yhm1 : PySem.W.mroIn K xC1 (.type "object") = some true)
    (ysd1 : PySem.W.subIn K (.ref xC1) (.ref yC_DialError) = some true)
    (ys_1_NoLength : PySem.W.subIn K (.ref xC1) (.ref xC0) = some false)
    (yn_1_NoLength : ((Value.ref xC1) == .ref xC0) = false)
    (ys_1_Clash : PySem.W.subIn K (.ref xC1) (.ref xC2) = some false)
    (yn_1_Clash : ((Value.ref xC1) == .ref xC2) = false)
    (ys_1_NoLook : PySem.W.subIn K (.ref xC1) (.ref xC3) = some false)
    (yn_1_NoLook : ((Value.ref xC1) == .ref xC3) = false)
    (ys_1_NoRound : PySem.W.subIn K (.ref xC1) (.ref xC4) = some false)
    (yn_1_NoRound : ((Value.ref xC1) == .ref xC4) = false)
    (ys_1_NoUses : PySem.W.subIn K (.ref xC1) (.ref xC5) = some false)
    (yn_1_NoUses : ((Value.ref xC1) == .ref xC5) = false)
    (ys_1_NoSide : PySem.W.subIn K (.ref xC1) (.ref xC6) = some false)
    (yn_1_NoSide : ((Value.ref xC1) == .ref xC6) = false)
    (ys_1_NoRing : PySem.W.subIn K (.ref xC1) (.ref xC7) = some false)
    (yn_1_NoRing : ((Value.ref xC1) == .ref xC7) = false)
    (ys_1_NoSteps : PySem.W.subIn K (.ref xC1) (.ref xC8) = some false)
    (yn_1_NoSteps : ((Value.ref xC1) == .ref xC8) = false)
    (ys_1_NoBottom : PySem.W.subIn K (.ref xC1) (.ref xC9) = some false)
    (yn_1_NoBottom : ((Value.ref xC1) == .ref xC9) = false)
    (ys_1_NoText : PySem.W.subIn K (.ref xC1) (.ref xC10) = some false)
    (yn_1_NoText : ((Value.ref xC1) == .ref xC10) = false)
    (yga2 : PySem.W.findIn K (.ref xC2) "__getattribute__" = some (some (.builtin "BaseException.__getattribute__")))
    (ygg2 : PySem.W.findIn K (.ref xC2) "__getattr__" = some none)
    (yhd2 : PySem.W.hasDictIn K xC2 = true)
    (yha2 : PySem.W.findIn K (.ref xC2) "__class__" = some (some (.builtin "object.__class__")))
    (yhm2 : PySem.W.mroIn K xC2 (.type "object") = some true)
    (ysd2 : PySem.W.subIn K (.ref xC2) (.ref yC_DialError) = some true)
    (ys_2_NoLength : PySem.W.subIn K (.ref xC2) (.ref xC0) = some false)
    (yn_2_NoLength : ((Value.ref xC2) == .ref xC0) = false)
    (ys_2_NoWord : PySem.W.subIn K (.ref xC2) (.ref xC1) = some false)
    (yn_2_NoWord : ((Value.ref xC2) == .ref xC1) = false)
    (ys_2_NoLook : PySem.W.subIn K (.ref xC2) (.ref xC3) = some false)
    (yn_2_NoLook : ((Value.ref xC2) == .ref xC3) = false)
    (ys_2_NoRound : PySem.W.subIn K (.ref xC2) (.ref xC4) = some false)
    (yn_2_NoRound : ((Value.ref xC2) == .ref xC4) = false)
    (ys_2_NoUses : PySem.W.subIn K (.ref xC2) (.ref xC5) = some false)
    (yn_2_NoUses : ((Value.ref xC2) == .ref xC5) = false)
    (ys_2_NoSide : PySem.W.subIn K (.ref xC2) (.ref xC6) = some false)
    (yn_2_NoSide : ((Value.ref xC2) == .ref xC6) = false)
    (ys_2_NoRing : PySem.W.subIn K (.ref xC2) (.ref xC7) = some false)
    (yn_2_NoRing : ((Value.ref xC2) == .ref xC7) = false)
    (ys_2_NoSteps : PySem.W.subIn K (.ref xC2) (.ref xC8) = some false)
    (yn_2_NoSteps : ((Value.ref xC2) == .ref xC8) = false)
    (ys_2_NoBottom : PySem.W.subIn K (.ref xC2) (.ref xC9) = some false)
    (yn_2_NoBottom : ((Value.ref xC2) == .ref xC9) = false)
    (ys_2_NoText : PySem.W.subIn K (.ref xC2) (.ref xC10) = some false)
    (yn_2_NoText : ((Value.ref xC2) == .ref xC10) = false)
    (yga3 : PySem.W.findIn K (.ref xC3) "__getattribute__" = some (some (.builtin "BaseException.__getattribute__")))
    (ygg3 : PySem.W.findIn K (.ref xC3) "__getattr__" = some none)
    (yhd3 : PySem.W.hasDictIn K xC3 = true)
    (yha3 : PySem.W.findIn K (.ref xC3) "__class__" = some (some (.builtin "object.__class__")))
    (yhm3 : PySem.W.mroIn K xC3 (.type "object") = some true)
    (ysd3 : PySem.W.subIn K (.ref xC3) (.ref yC_DialError) = some true)
    (ys_3_NoLength : PySem.W.subIn K (.ref xC3) (.ref xC0) = some false)
    (yn_3_NoLength : ((Value.ref xC3) == .ref xC0) = false)
    (ys_3_NoWord : PySem.W.subIn K (.ref xC3) (.ref xC1) = some false)
    (yn_3_NoWord : ((Value.ref xC3) == .ref xC1) = false)
    (ys_3_Clash : PySem.W.subIn K (.ref xC3) (.ref xC2) = some false)
    (yn_3_Clash : ((Value.ref xC3) == .ref xC2) = false)
    (ys_3_NoRound : PySem.W.subIn K (.ref xC3) (.ref xC4) = some false)
    (yn_3_NoRound : ((Value.ref xC3) == .ref xC4) = false)
    (ys_3_NoUses : PySem.W.subIn K (.ref xC3) (.ref xC5) = some false)
    (yn_3_NoUses : ((Value.ref xC3) == .ref xC5) = false)
    (ys_3_NoSide : PySem.W.subIn K (.ref xC3) (.ref xC6) = some false)
    (yn_3_NoSide : ((Value.ref xC3) == .ref xC6) = false)
    (ys_3_NoRing : PySem.W.subIn K (.ref xC3) (.ref xC7) = some false)
    (yn_3_NoRing : ((Value.ref xC3) == .ref xC7) = false)
    (ys_3_NoSteps : PySem.W.subIn K (.ref xC3) (.ref xC8) = some false)
    (yn_3_NoSteps : ((Value.ref xC3) == .ref xC8) = false)
    (ys_3_NoBottom : PySem.W.subIn K (.ref xC3) (.ref xC9) = some false)
    (yn_3_NoBottom : ((Value.ref xC3) == .ref xC9) = false)
    (ys_3_NoText : PySem.W.subIn K (.ref xC3) (.ref xC10) = some false)
    (yn_3_NoText : ((Value.ref xC3) == .ref xC10) = false)
    (yga4 : PySem.W.findIn K (.ref xC4) "__getattribute__" = some (some (.builtin "BaseException.__getattribute__")))
    (ygg4 : PySem.W.findIn K (.ref xC4) "__getattr__" = some none)
    (yhd4 : PySem.W.hasDictIn K xC4 = true)
    (yha4 : PySem.W.findIn K (.ref xC4) "__class__" = some (some (.builtin "object.__class__")))
    (yhm4 : PySem.W.mroIn K xC4 (.type "object") = some true)
    (ysd4 : PySem.W.subIn K (.ref xC4) (.ref yC_DialError) = some true)
    (ys_4_NoLength : PySem.W.subIn K (.ref xC4) (.ref xC0) = some false)
    (yn_4_NoLength : ((Value.ref xC4) == .ref xC0) = false)
    (ys_4_NoWord : PySem.W.subIn K (.ref xC4) (.ref xC1) = some false)
    (yn_4_NoWord : ((Value.ref xC4) == .ref xC1) = false)
    (ys_4_Clash : PySem.W.subIn K (.ref xC4) (.ref xC2) = some false)
    (yn_4_Clash : ((Value.ref xC4) == .ref xC2) = false)
    (ys_4_NoLook : PySem.W.subIn K (.ref xC4) (.ref xC3) = some false)
    (yn_4_NoLook : ((Value.ref xC4) == .ref xC3) = false)
    (ys_4_NoUses : PySem.W.subIn K (.ref xC4) (.ref xC5) = some false)
    (yn_4_NoUses : ((Value.ref xC4) == .ref xC5) = false)
    (ys_4_NoSide : PySem.W.subIn K (.ref xC4) (.ref xC6) = some false)
    (yn_4_NoSide : ((Value.ref xC4) == .ref xC6) = false)
    (ys_4_NoRing : PySem.W.subIn K (.ref xC4) (.ref xC7) = some false)
    (yn_4_NoRing : ((Value.ref xC4) == .ref xC7) = false)
    (ys_4_NoSteps : PySem.W.subIn K (.ref xC4) (.ref xC8) = some false)
    (yn_4_NoSteps : ((Value.ref xC4) == .ref xC8) = false)
    (ys_4_NoBottom : PySem.W.subIn K (.ref xC4) (.ref xC9) = some false)
    (yn_4_NoBottom : ((Value.ref xC4) == .ref xC9) = false)
    (ys_4_NoText : PySem.W.subIn K (.ref xC4) (.ref xC10) = some false)
    (yn_4_NoText : ((Value.ref xC4) == .ref xC10) = false)
    (yga5 : PySem.W.findIn K (.ref xC5) "__getattribute__" = some (some (.builtin "BaseException.__getattribute__")))
    (ygg5 : PySem.W.findIn K (.ref xC5) "__getattr__" = some none)
    (yhd5 : PySem.W.hasDictIn K xC5 = true)
    (yha5 : PySem.W.findIn K (.ref xC5) "__class__" = some (some (.builtin "object.__class__")))
    (yhm5 : PySem.W.mroIn K xC5 (.type "object") = some true)
    (ysd5 : PySem.W.subIn K (.ref xC5) (.ref yC_DialError) = some true)
    (ys_5_NoLength : PySem.W.subIn K (.ref xC5) (.ref xC0) = some false)
    (yn_5_NoLength : ((Value.ref xC5) == .ref xC0) = false)
    (ys_5_NoWord : PySem.W.subIn K (.ref xC5) (.ref xC1) = some false)
    (yn_5_NoWord : ((Value.ref xC5) == .ref xC1) = false)
    (ys_5_Clash : PySem.W.subIn K (.ref xC5) (.ref xC2) = some false)
    (yn_5_Clash : ((Value.ref xC5) == .ref xC2) = false)
    (ys_5_NoLook : PySem.W.subIn K (.ref xC5) (.ref xC3) = some false)
    (yn_5_NoLook : ((Value.ref xC5) == .ref xC3) = false)
    (ys_5_NoRound : PySem.W.subIn K (.ref xC5) (.ref xC4) = some false)
    (yn_5_NoRound : ((Value.ref xC5) == .ref xC4) = false)
    (ys_5_NoSide : PySem.W.subIn K (.ref xC5) (.ref xC6) = some false)
    (yn_5_NoSide : ((Value.ref xC5) == .ref xC6) = false)
    (ys_5_NoRing : PySem.W.subIn K (.ref xC5) (.ref xC7) = some false)
    (yn_5_NoRing : ((Value.ref xC5) == .ref xC7) = false)
    (ys_5_NoSteps : PySem.W.subIn K (.ref xC5) (.ref xC8) = some false)
    (yn_5_NoSteps : ((Value.ref xC5) == .ref xC8) = false)
    (ys_5_NoBottom : PySem.W.subIn K (.ref xC5) (.ref xC9) = some false)
    (yn_5_NoBottom : ((Value.ref xC5) == .ref xC9) = false)
    (ys_5_NoText : PySem.W.subIn K (.ref xC5) (.ref xC10) = some false)
    (yn_5_NoText : ((Value.ref xC5) == .ref xC10) = false)
    (yga6 : PySem.W.findIn K (.ref xC6) "__getattribute__" = some (some (.builtin "BaseException.__getattribute__")))
    (ygg6 : PySem.W.findIn K (.ref xC6) "__getattr__" = some none)
    (yhd6 : PySem.W.hasDictIn K xC6 = true)
    (yha6 : PySem.W.findIn K (.ref xC6) "__class__" = some (some (.builtin "object.__class__")))
    (yhm6 : PySem.W.mroIn K xC6 (.type "object") = some true)
    (ysd6 : PySem.W.subIn K (.ref xC6) (.ref yC_DialError) = some true)
    (ys_6_NoLength : PySem.W.subIn K (.ref xC6) (.ref xC0) = some false)
    (yn_6_NoLength : ((Value.ref xC6) == .ref xC0) = false)
    (ys_6_NoWord : PySem.W.subIn K (.ref xC6) (.ref xC1) = some false)
    (yn_6_NoWord : ((Value.ref xC6) == .ref xC1) = false)
    (ys_6_Clash : PySem.W.subIn K (.ref xC6) (.ref xC2) = some false)
    (yn_6_Clash : ((Value.ref xC6) == .ref xC2) = false)
    (ys_6_NoLook : PySem.W.subIn K (.ref xC6) (.ref xC3) = some false)
    (yn_6_NoLook : ((Value.ref xC6) == .ref xC3) = false)
    (ys_6_NoRound : PySem.W.subIn K (.ref xC6) (.ref xC4) = some false)
    (yn_6_NoRound : ((Value.ref xC6) == .ref xC4) = false)
    (ys_6_NoUses : PySem.W.subIn K (.ref xC6) (.ref xC5) = some false)
    (yn_6_NoUses : ((Value.ref xC6) == .ref xC5) = false)
    (ys_6_NoRing : PySem.W.subIn K (.ref xC6) (.ref xC7) = some false)
    (yn_6_NoRing : ((Value.ref xC6) == .ref xC7) = false)
    (ys_6_NoSteps : PySem.W.subIn K (.ref xC6) (.ref xC8) = some false)
    (yn_6_NoSteps : ((Value.ref xC6) == .ref xC8) = false)
    (ys_6_NoBottom : PySem.W.subIn K (.ref xC6) (.ref xC9) = some false)
    (yn_6_NoBottom : ((Value.ref xC6) == .ref xC9) = false)
    (ys_6_NoText : PySem.W.subIn K (.ref xC6) (.ref xC10) = some false)
    (yn_6_NoText : ((Value.ref xC6) == .ref xC10) = false)
    (yga7 : PySem.W.findIn K (.ref xC7) "__getattribute__" = some (some (.builtin "BaseException.__getattribute__")))
    (ygg7 : PySem.W.findIn K (.ref xC7) "__getattr__" = some none)
    (yhd7 : PySem.W.hasDictIn K xC7 = true)
    (yha7 : PySem.W.findIn K (.ref xC7) "__class__" = some (some (.builtin "object.__class__")))
    (yhm7 : PySem.W.mroIn K xC7 (.type "object") = some true)
    (ysd7 : PySem.W.subIn K (.ref xC7) (.ref yC_DialError) = some true)
    (ys_7_NoLength : PySem.W.subIn K (.ref xC7) (.ref xC0) = some false)
    (yn_7_NoLength : ((Value.ref xC7) == .ref xC0) = false)
    (ys_7_NoWord : PySem.W.subIn K (.ref xC7) (.ref xC1) = some false)
    (yn_7_NoWord : ((Value.ref xC7) == .ref xC1) = false)
    (ys_7_Clash : PySem.W.subIn K (.ref xC7) (.ref xC2) = some false)
    (yn_7_Clash : ((Value.ref xC7) == .ref xC2) = false)
    (ys_7_NoLook : PySem.W.subIn K (.ref xC7) (.ref xC3) = some false)
    (yn_7_NoLook : ((Value.ref xC7) == .ref xC3) = false)
    (ys_7_NoRound : PySem.W.subIn K (.ref xC7) (.ref xC4) = some false)
    (yn_7_NoRound : ((Value.ref xC7) == .ref xC4) = false)
    (ys_7_NoUses : PySem.W.subIn K (.ref xC7) (.ref xC5) = some false)
    (yn_7_NoUses : ((Value.ref xC7) == .ref xC5) = false)
    (ys_7_NoSide : PySem.W.subIn K (.ref xC7) (.ref xC6) = some false)
    (yn_7_NoSide : ((Value.ref xC7) == .ref xC6) = false)
    (ys_7_NoSteps : PySem.W.subIn K (.ref xC7) (.ref xC8) = some false)
    (yn_7_NoSteps : ((Value.ref xC7) == .ref xC8) = false)
    (ys_7_NoBottom : PySem.W.subIn K (.ref xC7) (.ref xC9) = some false)
    (yn_7_NoBottom : ((Value.ref xC7) == .ref xC9) = false)
    (ys_7_NoText : PySem.W.subIn K (.ref xC7) (.ref xC10) = some false)
    (yn_7_NoText : ((Value.ref xC7) == .ref xC10) = false)
    (yga8 : PySem.W.findIn K (.ref xC8) "__getattribute__" = some (some (.builtin "BaseException.__getattribute__")))
    (ygg8 : PySem.W.findIn K (.ref xC8) "__getattr__" = some none)
    (yhd8 : PySem.W.hasDictIn K xC8 = true)
    (yha8 : PySem.W.findIn K (.ref xC8) "__class__" = some (some (.builtin "object.__class__")))
    (yhm8 : PySem.W.mroIn K xC8 (.type "object") = some true)
    (ysd8 : PySem.W.subIn K (.ref xC8) (.ref yC_DialError) = some true)
    (ys_8_NoLength : PySem.W.subIn K (.ref xC8) (.ref xC0) = some false)
    (yn_8_NoLength : ((Value.ref xC8) == .ref xC0) = false)
    (ys_8_NoWord : PySem.W.subIn K (.ref xC8) (.ref xC1) = some false)
    (yn_8_NoWord : ((Value.ref xC8) == .ref xC1) = false)
    (ys_8_Clash : PySem.W.subIn K (.ref xC8) (.ref xC2) = some false)
    (yn_8_Clash : ((Value.ref xC8) == .ref xC2) = false)
    (ys_8_NoLook : PySem.W.subIn K (.ref xC8) (.ref xC3) = some false)
    (yn_8_NoLook : ((Value.ref xC8) == .ref xC3) = false)
    (ys_8_NoRound : PySem.W.subIn K (.ref xC8) (.ref xC4) = some false)
    (yn_8_NoRound : ((Value.ref xC8) == .ref xC4) = false)
    (ys_8_NoUses : PySem.W.subIn K (.ref xC8) (.ref xC5) = some false)
    (yn_8_NoUses : ((Value.ref xC8) == .ref xC5) = false)
    (ys_8_NoSide : PySem.W.subIn K (.ref xC8) (.ref xC6) = some false)
    (yn_8_NoSide : ((Value.ref xC8) == .ref xC6) = false)
    (ys_8_NoRing : PySem.W.subIn K (.ref xC8) (.ref xC7) = some false)
    (yn_8_NoRing : ((Value.ref xC8) == .ref xC7) = false)
    (ys_8_NoBottom : PySem.W.subIn K (.ref xC8) (.ref xC9) = some false)
    (yn_8_NoBottom : ((Value.ref xC8) == .ref xC9) = false)
    (ys_8_NoText : PySem.W.subIn K (.ref xC8) (.ref xC10) = some false)
    (yn_8_NoText : ((Value.ref xC8) == .ref xC10) = false)
    (yga9 : PySem.W.findIn K (.ref xC9) "__getattribute__" = some (some (.builtin "BaseException.__getattribute__")))
    (ygg9 : PySem.W.findIn K (.ref xC9) "__getattr__" = some none)
    (yhd9 : PySem.W.hasDictIn K xC9 = true)
    (yha9 : PySem.W.findIn K (.ref xC9) "__class__" = some (some (.builtin "object.__class__")))
    (yhm9 : PySem.W.mroIn K xC9 (.type "object") = some true)
    (ysd9 : PySem.W.subIn K (.ref xC9) (.ref yC_DialError) = some true)
    (ys_9_NoLength : PySem.W.subIn K (.ref xC9) (.ref xC0) = some false)
    (yn_9_NoLength : ((Value.ref xC9) == .ref xC0) = false)
    (ys_9_NoWord : PySem.W.subIn K (.ref xC9) (.ref xC1) = some false)
    (yn_9_NoWord : ((Value.ref xC9) == .ref xC1) = false)
    (ys_9_Clash : PySem.W.subIn K (.ref xC9) (.ref xC2) = some false)
    (yn_9_Clash : ((Value.ref xC9) == .ref xC2) = false)
    (ys_9_NoLook : PySem.W.subIn K (.ref xC9) (.ref xC3) = some false)
    (yn_9_NoLook : ((Value.ref xC9) == .ref xC3) = false)
    (ys_9_NoRound : PySem.W.subIn K (.ref xC9) (.ref xC4) = some false)
    (yn_9_NoRound : ((Value.ref xC9) == .ref xC4) = false)
    (ys_9_NoUses : PySem.W.subIn K (.ref xC9) (.ref xC5) = some false)
    (yn_9_NoUses : ((Value.ref xC9) == .ref xC5) = false)
    (ys_9_NoSide : PySem.W.subIn K (.ref xC9) (.ref xC6) = some false)
    (yn_9_NoSide : ((Value.ref xC9) == .ref xC6) = false)
    (ys_9_NoRing : PySem.W.subIn K (.ref xC9) (.ref xC7) = some false)
    (yn_9_NoRing : ((Value.ref xC9) == .ref xC7) = false)
    (ys_9_NoSteps : PySem.W.subIn K (.ref xC9) (.ref xC8) = some false)
    (yn_9_NoSteps : ((Value.ref xC9) == .ref xC8) = false)
    (ys_9_NoText : PySem.W.subIn K (.ref xC9) (.ref xC10) = some false)
    (yn_9_NoText : ((Value.ref xC9) == .ref xC10) = false)
    (yga10 : PySem.W.findIn K (.ref xC10) "__getattribute__" = some (some (.builtin "BaseException.__getattribute__")))
    (ygg10 : PySem.W.findIn K (.ref xC10) "__getattr__" = some none)
    (yhd10 : PySem.W.hasDictIn K xC10 = true)
    (yha10 : PySem.W.findIn K (.ref xC10) "__class__" = some (some (.builtin "object.__class__")))
    (yhm10 : PySem.W.mroIn K xC10 (.type "object") = some true)
    (ysd10 : PySem.W.subIn K (.ref xC10) (.ref yC_DialError) = some true)
    (ys_10_NoLength : PySem.W.subIn K (.ref xC10) (.ref xC0) = some false)
    (yn_10_NoLength : ((Value.ref xC10) == .ref xC0) = false)
    (ys_10_NoWord : PySem.W.subIn K (.ref xC10) (.ref xC1) = some false)
    (yn_10_NoWord : ((Value.ref xC10) == .ref xC1) = false)
    (ys_10_Clash : PySem.W.subIn K (.ref xC10) (.ref xC2) = some false)
    (yn_10_Clash : ((Value.ref xC10) == .ref xC2) = false)
    (ys_10_NoLook : PySem.W.subIn K (.ref xC10) (.ref xC3) = some false)
    (yn_10_NoLook : ((Value.ref xC10) == .ref xC3) = false)
    (ys_10_NoRound : PySem.W.subIn K (.ref xC10) (.ref xC4) = some false)
    (yn_10_NoRound : ((Value.ref xC10) == .ref xC4) = false)
    (ys_10_NoUses : PySem.W.subIn K (.ref xC10) (.ref xC5) = some false)
    (yn_10_NoUses : ((Value.ref xC10) == .ref xC5) = false)
    (ys_10_NoSide : PySem.W.subIn K (.ref xC10) (.ref xC6) = some false)
    (yn_10_NoSide : ((Value.ref xC10) == .ref xC6) = false)
    (ys_10_NoRing : PySem.W.subIn K (.ref xC10) (.ref xC7) = some false)
    (yn_10_NoRing : ((Value.ref xC10) == .ref xC7) = false)
    (ys_10_NoSteps : PySem.W.subIn K (.ref xC10) (.ref xC8) = some false)
    (yn_10_NoSteps : ((Value.ref xC10) == .ref xC8) = false)
    (ys_10_NoBottom : PySem.W.subIn K (.ref xC10) (.ref xC9) = some false)
    (yn_10_NoBottom : ((Value.ref xC10) == .ref xC9) = false) :
    ∃ fd : FuncData, (∀ (s : Shared) (v : Value), BindsTo s fd ⟨[v], []⟩ [("script", v)]) ∧ ∀ base : Heap, K.In base → base.Ns mainGlobals mg → FnOk l.prog w K mg base CX0 12 fa fd ["script"] (spLaw K) := by
  have e := hfa.symm.trans (PySem.W.mg_of X G a34)
  cases e
  have F0 := fun_mk (st := slaw_tray) l0 c0 k0
  have F1 := fun_mk (st := slaw_draw) l1 c1 k1
  have F2 := fun_mk (st := slaw_great) l2 c2 k2
  have F3 := fun_mk (st := slaw_alike) l3 c3 k3
  have F4 := fun_mk (st := slaw_length) l4 c4 k4
  have F5 := fun_mk (st := slaw_lead) l5 c5 k5
  have F6 := fun_mk (st := slaw_secret) l6 c6 k6
  have F7 := fun_mk (st := slaw_true_look) l7 c7 k7
  have F8 := fun_mk (st := slaw_known) l8 c8 k8
  have F9 := fun_mk (st := slaw_home) l9 c9 k9
  have F10 := fun_mk (st := slaw_any_look) l10 c10 k10
  have F11 := fun_mk (st := slaw_made) l11 c11 k11
  have F12 := fun_mk (st := slaw_kind) l12 c12 k12
  have F13 := fun_mk (st := slaw_asked) l13 c13 k13
  have F14 := fun_mk (st := slaw_lengths_right) l14 c14 k14
  have F15 := fun_mk (st := slaw_made_right) l15 c15 k15
  have F16 := fun_mk (st := sside_looks) l16 c16 k16
  have F17 := fun_mk (st := splace_by) l17 c17 k17
  have F18 := fun_mk (st := sbest_step) l18 c18 k18
  have F19 := fun_mk (st := stoo_far) l19 c19 k19
  have F20 := fun_mk (st := sclash) l20 c20 k20
  have F21 := fun_mk (st := sDark_init) l21 c21 k21
  have F22 := fun_mk (st := sDark_length) l22 c22 k22
  have F23 := fun_mk (st := sDark_hear) l23 c23 k23
  have F24 := fun_mk (st := sDark_drop) l24 c24 k24
  have F25 := fun_mk (st := sDark_looks) l25 c25 k25
  have F26 := fun_mk (st := sDark_may) l26 c26 k26
  have F27 := fun_mk (st := sDark_sure) l27 c27 k27
  have F28 := fun_mk (st := sDarkcheck_word) l28 c28 k28
  have F29 := fun_mk (st := sDarkhome) l29 c29 k29
  have F30 := fun_mk (st := sDarkclashing) l30 c30 k30
  have F31 := fun_mk (st := sDarkbound) l31 c31 k31
  have F32 := fun_mk (st := sDark_least) l32 c32 k32
  have F33 := fun_mk (st := sDark_greatest) l33 c33 k33
  have F34 := fun_mk (st := slaw) l34 c34 k34
  let Z : Ad := {
    a_law_tray := f0,
    d_law_tray := PySem.W.fnOf "_law_tray" "_law_tray" (defArgs slaw_tray) (defBody slaw_tray) (defScope slaw_tray) .none kV0 dc0 pm0 an0 cd0 ct0,
    a_law_draw := f1,
    d_law_draw := PySem.W.fnOf "_law_draw" "_law_draw" (defArgs slaw_draw) (defBody slaw_draw) (defScope slaw_draw) .none kV1 dc1 pm1 an1 cd1 ct1,
    a_law_great := f2,
    d_law_great := PySem.W.fnOf "_law_great" "_law_great" (defArgs slaw_great) (defBody slaw_great) (defScope slaw_great) .none kV2 dc2 pm2 an2 cd2 ct2,
    a_law_alike := f3,
    d_law_alike := PySem.W.fnOf "_law_alike" "_law_alike" (defArgs slaw_alike) (defBody slaw_alike) (defScope slaw_alike) .none kV3 dc3 pm3 an3 cd3 ct3,
    a_law_length := f4,
    d_law_length := PySem.W.fnOf "_law_length" "_law_length" (defArgs slaw_length) (defBody slaw_length) (defScope slaw_length) .none kV4 dc4 pm4 an4 cd4 ct4,
    a_law_lead := f5,
    d_law_lead := PySem.W.fnOf "_law_lead" "_law_lead" (defArgs slaw_lead) (defBody slaw_lead) (defScope slaw_lead) .none kV5 dc5 pm5 an5 cd5 ct5,
    a_law_secret := f6,
    d_law_secret := PySem.W.fnOf "_law_secret" "_law_secret" (defArgs slaw_secret) (defBody slaw_secret) (defScope slaw_secret) .none kV6 dc6 pm6 an6 cd6 ct6,
    a_law_true_look := f7,
    d_law_true_look := PySem.W.fnOf "_law_true_look" "_law_true_look" (defArgs slaw_true_look) (defBody slaw_true_look) (defScope slaw_true_look) .none kV7 dc7 pm7 an7 cd7 ct7,
    a_law_known := f8,
    d_law_known := PySem.W.fnOf "_law_known" "_law_known" (defArgs slaw_known) (defBody slaw_known) (defScope slaw_known) .none kV8 dc8 pm8 an8 cd8 ct8,
    a_law_home := f9,
    d_law_home := PySem.W.fnOf "_law_home" "_law_home" (defArgs slaw_home) (defBody slaw_home) (defScope slaw_home) .none kV9 dc9 pm9 an9 cd9 ct9,
    a_law_any_look := f10,
    d_law_any_look := PySem.W.fnOf "_law_any_look" "_law_any_look" (defArgs slaw_any_look) (defBody slaw_any_look) (defScope slaw_any_look) .none kV10 dc10 pm10 an10 cd10 ct10,
    a_law_made := f11,
    d_law_made := PySem.W.fnOf "_law_made" "_law_made" (defArgs slaw_made) (defBody slaw_made) (defScope slaw_made) .none kV11 dc11 pm11 an11 cd11 ct11,
    a_law_kind := f12,
    d_law_kind := PySem.W.fnOf "_law_kind" "_law_kind" (defArgs slaw_kind) (defBody slaw_kind) (defScope slaw_kind) .none kV12 dc12 pm12 an12 cd12 ct12,
    a_law_asked := f13,
    d_law_asked := PySem.W.fnOf "_law_asked" "_law_asked" (defArgs slaw_asked) (defBody slaw_asked) (defScope slaw_asked) .none kV13 dc13 pm13 an13 cd13 ct13,
    a_law_lengths_right := f14,
    d_law_lengths_right := PySem.W.fnOf "_law_lengths_right" "_law_lengths_right" (defArgs slaw_lengths_right) (defBody slaw_lengths_right) (defScope slaw_lengths_right) .none kV14 dc14 pm14 an14 cd14 ct14,
    a_law_made_right := f15,
    d_law_made_right := PySem.W.fnOf "_law_made_right" "_law_made_right" (defArgs slaw_made_right) (defBody slaw_made_right) (defScope slaw_made_right) .none kV15 dc15 pm15 an15 cd15 ct15,
    a_side_looks := f16,
    d_side_looks := PySem.W.fnOf "side_looks" "side_looks" (defArgs sside_looks) (defBody sside_looks) (defScope sside_looks) .none kV16 dc16 pm16 an16 cd16 ct16,
    a_place_by := f17,
    d_place_by := PySem.W.fnOf "place_by" "place_by" (defArgs splace_by) (defBody splace_by) (defScope splace_by) .none kV17 dc17 pm17 an17 cd17 ct17,
    a_best_step := f18,
    d_best_step := PySem.W.fnOf "best_step" "best_step" (defArgs sbest_step) (defBody sbest_step) (defScope sbest_step) .none kV18 dc18 pm18 an18 cd18 ct18,
    a_too_far := f19,
    d_too_far := PySem.W.fnOf "too_far" "too_far" (defArgs stoo_far) (defBody stoo_far) (defScope stoo_far) .none kV19 dc19 pm19 an19 cd19 ct19,
    a_clash := f20,
    d_clash := PySem.W.fnOf "clash" "clash" (defArgs sclash) (defBody sclash) (defScope sclash) .none kV20 dc20 pm20 an20 cd20 ct20,
    a_Dark_init := f21,
    d_Dark_init := PySem.W.fnOf "__init__" "Dark.__init__" (defArgs sDark_init) (defBody sDark_init) (defScope sDark_init) .none kV21 dc21 pm21 an21 cd21 ct21,
    a_Dark_length := f22,
    d_Dark_length := PySem.W.fnOf "length" "Dark.length" (defArgs sDark_length) (defBody sDark_length) (defScope sDark_length) .none kV22 dc22 pm22 an22 cd22 ct22,
    a_Dark_hear := f23,
    d_Dark_hear := PySem.W.fnOf "hear" "Dark.hear" (defArgs sDark_hear) (defBody sDark_hear) (defScope sDark_hear) .none kV23 dc23 pm23 an23 cd23 ct23,
    a_Dark_drop := f24,
    d_Dark_drop := PySem.W.fnOf "drop" "Dark.drop" (defArgs sDark_drop) (defBody sDark_drop) (defScope sDark_drop) .none kV24 dc24 pm24 an24 cd24 ct24,
    a_Dark_looks := f25,
    d_Dark_looks := PySem.W.fnOf "looks" "Dark.looks" (defArgs sDark_looks) (defBody sDark_looks) (defScope sDark_looks) .none kV25 dc25 pm25 an25 cd25 ct25,
    a_Dark_may := f26,
    d_Dark_may := PySem.W.fnOf "may" "Dark.may" (defArgs sDark_may) (defBody sDark_may) (defScope sDark_may) .none kV26 dc26 pm26 an26 cd26 ct26,
    a_Dark_sure := f27,
    d_Dark_sure := PySem.W.fnOf "sure" "Dark.sure" (defArgs sDark_sure) (defBody sDark_sure) (defScope sDark_sure) .none kV27 dc27 pm27 an27 cd27 ct27,
    a_Darkcheck_word := f28,
    d_Darkcheck_word := PySem.W.fnOf "_check_word" "Dark._check_word" (defArgs sDarkcheck_word) (defBody sDarkcheck_word) (defScope sDarkcheck_word) .none kV28 dc28 pm28 an28 cd28 ct28,
    a_Darkhome := f29,
    d_Darkhome := PySem.W.fnOf "_home" "Dark._home" (defArgs sDarkhome) (defBody sDarkhome) (defScope sDarkhome) .none kV29 dc29 pm29 an29 cd29 ct29,
    a_Darkclashing := f30,
    d_Darkclashing := PySem.W.fnOf "_clashing" "Dark._clashing" (defArgs sDarkclashing) (defBody sDarkclashing) (defScope sDarkclashing) .none kV30 dc30 pm30 an30 cd30 ct30,
    a_Darkbound := f31,
    d_Darkbound := PySem.W.fnOf "_bound" "Dark._bound" (defArgs sDarkbound) (defBody sDarkbound) (defScope sDarkbound) .none kV31 dc31 pm31 an31 cd31 ct31,
    a_Dark_least := f32,
    d_Dark_least := PySem.W.fnOf "least" "Dark.least" (defArgs sDark_least) (defBody sDark_least) (defScope sDark_least) .none kV32 dc32 pm32 an32 cd32 ct32,
    a_Dark_greatest := f33,
    d_Dark_greatest := PySem.W.fnOf "greatest" "Dark.greatest" (defArgs sDark_greatest) (defBody sDark_greatest) (defScope sDark_greatest) .none kV33 dc33 pm33 an33 cd33 ct33,
    a_law := fa,
    d_law := PySem.W.fnOf "law" "law" (defArgs slaw) (defBody slaw) (defScope slaw) .none kV34 dc34 pm34 an34 cd34 ct34,
    C := C,
    v_SLOW := .str "slow" tSLOW,
    v_FAST := .str "fast" tFAST,
    a_WORDS := aW,
    a_LW := aL,
    t_slow := tS,
    t_fast := tF }
  have T : Tx K w mg Z := {
    F_law_tray := F0,
    bb_law_tray := F0.binds (ps := P_law_tray) fun _ _ _ _ _ _ us hl => match us, hl with | [_], _ => rfl,
    g_law_tray := PySem.W.mg_of X G a0,
    F_law_draw := F1,
    bb_law_draw := F1.binds (ps := P_law_draw) fun _ _ _ _ _ _ us hl => match us, hl with | [_, _], _ => rfl,
    g_law_draw := PySem.W.mg_of X G a1,
    F_law_great := F2,
    bb_law_great := F2.binds (ps := P_law_great) fun _ _ _ _ _ _ us hl => match us, hl with | [_], _ => rfl,
    g_law_great := PySem.W.mg_of X G a2,
    F_law_alike := F3,
    bb_law_alike := F3.binds (ps := P_law_alike) fun _ _ _ _ _ _ us hl => match us, hl with | [_, _], _ => rfl,
    g_law_alike := PySem.W.mg_of X G a3,
    F_law_length := F4,
    bb_law_length := F4.binds (ps := P_law_length) fun _ _ _ _ _ _ us hl => match us, hl with | [_], _ => rfl,
    g_law_length := PySem.W.mg_of X G a4,
    F_law_lead := F5,
    bb_law_lead := F5.binds (ps := P_law_lead) fun _ _ _ _ _ _ us hl => match us, hl with | [_, _, _], _ => rfl,
    g_law_lead := PySem.W.mg_of X G a5,
    F_law_secret := F6,
    bb_law_secret := F6.binds (ps := P_law_secret) fun _ _ _ _ _ _ us hl => match us, hl with | [_, _], _ => rfl,
    g_law_secret := PySem.W.mg_of X G a6,
    F_law_true_look := F7,
    bb_law_true_look := F7.binds (ps := P_law_true_look) fun _ _ _ _ _ _ us hl => match us, hl with | [_, _, _], _ => rfl,
    g_law_true_look := PySem.W.mg_of X G a7,
    F_law_known := F8,
    bb_law_known := F8.binds (ps := P_law_known) fun _ _ _ _ _ _ us hl => match us, hl with | [_, _, _], _ => rfl,
    g_law_known := PySem.W.mg_of X G a8,
    F_law_home := F9,
    bb_law_home := F9.binds (ps := P_law_home) fun _ _ _ _ _ _ us hl => match us, hl with | [_, _], _ => rfl,
    g_law_home := PySem.W.mg_of X G a9,
    F_law_any_look := F10,
    bb_law_any_look := F10.binds (ps := P_law_any_look) fun _ _ _ _ _ _ us hl => match us, hl with | [_, _], _ => rfl,
    g_law_any_look := PySem.W.mg_of X G a10,
    F_law_made := F11,
    bb_law_made := F11.binds (ps := P_law_made) fun _ _ _ _ _ _ us hl => match us, hl with | [_, _], _ => rfl,
    g_law_made := PySem.W.mg_of X G a11,
    F_law_kind := F12,
    bb_law_kind := F12.binds (ps := P_law_kind) fun _ _ _ _ _ _ us hl => match us, hl with | [_], _ => rfl,
    g_law_kind := PySem.W.mg_of X G a12,
    F_law_asked := F13,
    bb_law_asked := F13.binds (ps := P_law_asked) fun _ _ _ _ _ _ us hl => match us, hl with | [_, _, _], _ => rfl,
    g_law_asked := PySem.W.mg_of X G a13,
    F_law_lengths_right := F14,
    bb_law_lengths_right := F14.binds (ps := P_law_lengths_right) fun _ _ _ _ _ _ us hl => match us, hl with | [_], _ => rfl,
    g_law_lengths_right := PySem.W.mg_of X G a14,
    F_law_made_right := F15,
    bb_law_made_right := F15.binds (ps := P_law_made_right) fun _ _ _ _ _ _ us hl => match us, hl with | [_], _ => rfl,
    g_law_made_right := PySem.W.mg_of X G a15,
    F_side_looks := F16,
    bb_side_looks := F16.binds (ps := P_side_looks) fun _ _ _ _ _ _ us hl => match us, hl with | [_, _], _ => rfl,
    g_side_looks := PySem.W.mg_of X G a16,
    F_place_by := F17,
    bb_place_by := F17.binds (ps := P_place_by) fun _ _ _ _ _ _ us hl => match us, hl with | [_, _, _, _], _ => rfl,
    g_place_by := PySem.W.mg_of X G a17,
    F_best_step := F18,
    bb_best_step := F18.binds (ps := P_best_step) fun _ _ _ _ _ _ us hl => match us, hl with | [_, _, _, _], _ => rfl,
    g_best_step := PySem.W.mg_of X G a18,
    F_too_far := F19,
    bb_too_far := F19.binds (ps := P_too_far) fun _ _ _ _ _ _ us hl => match us, hl with | [_, _, _], _ => rfl,
    g_too_far := PySem.W.mg_of X G a19,
    F_clash := F20,
    bb_clash := F20.binds (ps := P_clash) fun _ _ _ _ _ _ us hl => match us, hl with | [_, _, _], _ => rfl,
    g_clash := PySem.W.mg_of X G a20,
    F_Dark_init := F21,
    bb_Dark_init := F21.binds (ps := P_Dark_init) fun _ _ _ _ _ _ us hl => match us, hl with | [_, _], _ => rfl,
    kn_Dark_init_length := KW.kbn0 [0] fun us ws h1 h2 => match us, ws, h1, h2 with | [_], [_], _, _ => rfl,
    F_Dark_length := F22,
    bb_Dark_length := F22.binds (ps := P_Dark_length) fun _ _ _ _ _ _ us hl => match us, hl with | [_], _ => rfl,
    m_Dark_length := ⟨a22, i22, k22⟩,
    F_Dark_hear := F23,
    bb_Dark_hear := F23.binds (ps := P_Dark_hear) fun _ _ _ _ _ _ us hl => match us, hl with | [_, _, _, _], _ => rfl,
    m_Dark_hear := ⟨a23, i23, k23⟩,
    F_Dark_drop := F24,
    bb_Dark_drop := F24.binds (ps := P_Dark_drop) fun _ _ _ _ _ _ us hl => match us, hl with | [_, _, _, _], _ => rfl,
    m_Dark_drop := ⟨a24, i24, k24⟩,
    F_Dark_looks := F25,
    bb_Dark_looks := F25.binds (ps := P_Dark_looks) fun _ _ _ _ _ _ us hl => match us, hl with | [_], _ => rfl,
    m_Dark_looks := ⟨a25, i25, k25⟩,
    F_Dark_may := F26,
    bb_Dark_may := F26.binds (ps := P_Dark_may) fun _ _ _ _ _ _ us hl => match us, hl with | [_, _, _, _], _ => rfl,
    m_Dark_may := ⟨a26, i26, k26⟩,
    F_Dark_sure := F27,
    bb_Dark_sure := F27.binds (ps := P_Dark_sure) fun _ _ _ _ _ _ us hl => match us, hl with | [_, _, _, _], _ => rfl,
    m_Dark_sure := ⟨a27, i27, k27⟩,
    F_Darkcheck_word := F28,
    bb_Darkcheck_word := F28.binds (ps := P_Darkcheck_word) fun _ _ _ _ _ _ us hl => match us, hl with | [_, _], _ => rfl,
    m_Darkcheck_word := ⟨a28, i28, k28⟩,
    F_Darkhome := F29,
    bb_Darkhome := F29.binds (ps := P_Darkhome) fun _ _ _ _ _ _ us hl => match us, hl with | [_, _, _, _], _ => rfl,
    m_Darkhome := ⟨a29, i29, k29⟩,
    F_Darkclashing := F30,
    bb_Darkclashing := F30.binds (ps := P_Darkclashing) fun _ _ _ _ _ _ us hl => match us, hl with | [_, _], _ => rfl,
    m_Darkclashing := ⟨a30, i30, k30⟩,
    F_Darkbound := F31,
    bb_Darkbound := F31.binds (ps := P_Darkbound) fun _ _ _ _ _ _ us hl => match us, hl with | [_, _, _], _ => rfl,
    m_Darkbound := ⟨a31, i31, k31⟩,
    F_Dark_least := F32,
    bb_Dark_least := F32.binds (ps := P_Dark_least) fun _ _ _ _ _ _ us hl => match us, hl with | [_, _], _ => rfl,
    m_Dark_least := ⟨a32, i32, k32⟩,
    F_Dark_greatest := F33,
    bb_Dark_greatest := F33.binds (ps := P_Dark_greatest) fun _ _ _ _ _ _ us hl => match us, hl with | [_, _], _ => rfl,
    m_Dark_greatest := ⟨a33, i33, k33⟩,
    F_law := F34,
    bb_law := F34.binds (ps := P_law) fun _ _ _ _ _ _ us hl => match us, hl with | [_], _ => rfl,
    g_law := PySem.W.mg_of X G a34,
    cl := ⟨pg, hd, po, sa⟩,
    g_Dark := PySem.W.mg_of X G aC,
    mk_Dark := ⟨mk, a21, i21, kc⟩,
    n_length := n_length,
    n_looks := n_looks,
    b_max := PySem.W.mg_none_of X G b_max,
    b_min := PySem.W.mg_none_of X G b_min,
    b_len := PySem.W.mg_none_of X G b_len,
    b_range := PySem.W.mg_none_of X G b_range,
    b_sorted := PySem.W.mg_none_of X G b_sorted,
    b_set := PySem.W.mg_none_of X G b_set,
    b_isinstance := PySem.W.mg_none_of X G b_isinstance,
    b_list := PySem.W.mg_none_of X G b_list,
    b_tuple := PySem.W.mg_none_of X G b_tuple,
    b_bool := PySem.W.mg_none_of X G b_bool,
    b_int := PySem.W.mg_none_of X G b_int,
    b_str := PySem.W.mg_none_of X G b_str,
    b_super := PySem.W.mg_none_of X G b_super,
    b_ValueError := PySem.W.mg_none_of X G b_ValueError,
    g_SLOW := PySem.W.mg_of X G gSLOW,
    r_SLOW := ⟨tSLOW, rfl⟩,
    g_FAST := PySem.W.mg_of X G gFAST,
    r_FAST := ⟨tFAST, rfl⟩,
    g_WORDS := PySem.W.mg_of X G gW,
    kd_WORDS := ⟨es, nW, lW, keys, low⟩,
    w_slow := wS,
    w_fast := wF,
    q_slow := fun _ => sqt2 lS,
    q_fast := fun _ => sqt2 lF,
    g_LOOK_WORDS := PySem.W.mg_of X G gL,
    q_LW := fun _ => sqt3 lL }
  let Y : AdX := {
    c_NoLength := xC0,
    i_NoLength := xF0,
    c_NoWord := xC1,
    i_NoWord := xF1,
    c_Clash := xC2,
    i_Clash := xF2,
    c_NoLook := xC3,
    i_NoLook := xF3,
    c_NoRound := xC4,
    i_NoRound := xF4,
    c_NoUses := xC5,
    i_NoUses := xF5,
    c_NoSide := xC6,
    i_NoSide := xF6,
    c_NoRing := xC7,
    i_NoRing := xF7,
    c_NoSteps := xC8,
    i_NoSteps := xF8,
    c_NoBottom := xC9,
    i_NoBottom := xF9,
    c_NoText := xC10,
    i_NoText := xF10,
    c_DialError := yC_DialError }
  have X : Ex l.prog K mg Y := {
    NoLength := ERR.errT_mk (inClass (top 3) 0) xL0 xbv0 xsa0 xnw0 xsv0 xsu0 xop0 xme0 xin0 xty0 xkc0 xex0 xtc0 xto0 xl0 ⟨_, _, rfl⟩ rfl rfl (fun _ => ⟨_, rfl⟩) xc0 xlc0 xld0 xv0 xfi0,
    g_NoLength := PySem.W.mg_of X G xg0,
    m_NoLength := ERR.exm_self xex0 xic0 xtc0 xss0,
    NoWord := ERR.errT_mk (inClass (top 4) 0) xL1 xbv1 xsa1 xnw1 xsv1 xsu1 xop1 xme1 xin1 xty1 xkc1 xex1 xtc1 xto1 xl1 ⟨_, _, rfl⟩ rfl rfl (fun _ => ⟨_, rfl⟩) xc1 xlc1 xld1 xv1 xfi1,
    g_NoWord := PySem.W.mg_of X G xg1,
    m_NoWord := ERR.exm_self xex1 xic1 xtc1 xss1,
    Clash := ERR.errT_mk (inClass (top 5) 0) xL2 xbv2 xsa2 xnw2 xsv2 xsu2 xop2 xme2 xin2 xty2 xkc2 xex2 xtc2 xto2 xl2 ⟨_, _, rfl⟩ rfl rfl (fun _ => ⟨_, rfl⟩) xc2 xlc2 xld2 xv2 xfi2,
    g_Clash := PySem.W.mg_of X G xg2,
    m_Clash := ERR.exm_self xex2 xic2 xtc2 xss2,
    NoLook := ERR.errT_mk (inClass (top 6) 0) xL3 xbv3 xsa3 xnw3 xsv3 xsu3 xop3 xme3 xin3 xty3 xkc3 xex3 xtc3 xto3 xl3 ⟨_, _, rfl⟩ rfl rfl (fun _ => ⟨_, rfl⟩) xc3 xlc3 xld3 xv3 xfi3,
    g_NoLook := PySem.W.mg_of X G xg3,
    m_NoLook := ERR.exm_self xex3 xic3 xtc3 xss3,
    NoRound := ERR.errT_mk (inClass (top 7) 0) xL4 xbv4 xsa4 xnw4 xsv4 xsu4 xop4 xme4 xin4 xty4 xkc4 xex4 xtc4 xto4 xl4 ⟨_, _, rfl⟩ rfl rfl (fun _ => ⟨_, rfl⟩) xc4 xlc4 xld4 xv4 xfi4,
    g_NoRound := PySem.W.mg_of X G xg4,
    m_NoRound := ERR.exm_self xex4 xic4 xtc4 xss4,
    NoUses := ERR.errT_mk (inClass (top 8) 0) xL5 xbv5 xsa5 xnw5 xsv5 xsu5 xop5 xme5 xin5 xty5 xkc5 xex5 xtc5 xto5 xl5 ⟨_, _, rfl⟩ rfl rfl (fun _ => ⟨_, rfl⟩) xc5 xlc5 xld5 xv5 xfi5,
    g_NoUses := PySem.W.mg_of X G xg5,
    m_NoUses := ERR.exm_self xex5 xic5 xtc5 xss5,
    NoSide := ERR.errT_mk (inClass (top 9) 0) xL6 xbv6 xsa6 xnw6 xsv6 xsu6 xop6 xme6 xin6 xty6 xkc6 xex6 xtc6 xto6 xl6 ⟨_, _, rfl⟩ rfl rfl (fun _ => ⟨_, rfl⟩) xc6 xlc6 xld6 xv6 xfi6,
    g_NoSide := PySem.W.mg_of X G xg6,
    m_NoSide := ERR.exm_self xex6 xic6 xtc6 xss6,
    NoRing := ERR.errT_mk (inClass (top 10) 0) xL7 xbv7 xsa7 xnw7 xsv7 xsu7 xop7 xme7 xin7 xty7 xkc7 xex7 xtc7 xto7 xl7 ⟨_, _, rfl⟩ rfl rfl (fun _ => ⟨_, rfl⟩) xc7 xlc7 xld7 xv7 xfi7,
    g_NoRing := PySem.W.mg_of X G xg7,
    m_NoRing := ERR.exm_self xex7 xic7 xtc7 xss7,
    NoSteps := ERR.errT_mk (inClass (top 11) 0) xL8 xbv8 xsa8 xnw8 xsv8 xsu8 xop8 xme8 xin8 xty8 xkc8 xex8 xtc8 xto8 xl8 ⟨_, _, rfl⟩ rfl rfl (fun _ => ⟨_, rfl⟩) xc8 xlc8 xld8 xv8 xfi8,
    g_NoSteps := PySem.W.mg_of X G xg8,
    m_NoSteps := ERR.exm_self xex8 xic8 xtc8 xss8,
    NoBottom := ERR.errT_mk (inClass (top 12) 0) xL9 xbv9 xsa9 xnw9 xsv9 xsu9 xop9 xme9 xin9 xty9 xkc9 xex9 xtc9 xto9 xl9 ⟨_, _, rfl⟩ rfl rfl (fun _ => ⟨_, rfl⟩) xc9 xlc9 xld9 xv9 xfi9,
    g_NoBottom := PySem.W.mg_of X G xg9,
    m_NoBottom := ERR.exm_self xex9 xic9 xtc9 xss9,
    NoText := ERR.errT_mk (inClass (top 13) 0) xL10 xbv10 xsa10 xnw10 xsv10 xsu10 xop10 xme10 xin10 xty10 xkc10 xex10 xtc10 xto10 xl10 ⟨_, _, rfl⟩ rfl rfl (fun _ => ⟨_, rfl⟩) xc10 xlc10 xld10 xv10 xfi10,
    g_NoText := PySem.W.mg_of X G xg10,
    m_NoText := ERR.exm_self xex10 xic10 xtc10 xss10,
    g_DialError := PySem.W.mg_of X G yg_DialError,
    x_NoLength := ⟨yga0, ygg0, xex0, yhd0, yha0, yhn, yht, yhm0, xnw0⟩,
    d_NoLength := ERR.exm_of yb yi_DialError yt_DialError ysd0,
    kv_NoLength := ERR.kit_blt (by decide +kernel) xsv0,
    k_NoLength_NoWord := kit_no yn_0_NoWord xic1 xtc1 ys_0_NoWord,
    k_NoLength_Clash := kit_no yn_0_Clash xic2 xtc2 ys_0_Clash,
    k_NoLength_NoLook := kit_no yn_0_NoLook xic3 xtc3 ys_0_NoLook,
    k_NoLength_NoRound := kit_no yn_0_NoRound xic4 xtc4 ys_0_NoRound,
    k_NoLength_NoUses := kit_no yn_0_NoUses xic5 xtc5 ys_0_NoUses,
    k_NoLength_NoSide := kit_no yn_0_NoSide xic6 xtc6 ys_0_NoSide,
    k_NoLength_NoRing := kit_no yn_0_NoRing xic7 xtc7 ys_0_NoRing,
    k_NoLength_NoSteps := kit_no yn_0_NoSteps xic8 xtc8 ys_0_NoSteps,
    k_NoLength_NoBottom := kit_no yn_0_NoBottom xic9 xtc9 ys_0_NoBottom,
    k_NoLength_NoText := kit_no yn_0_NoText xic10 xtc10 ys_0_NoText,
    x_NoWord := ⟨yga1, ygg1, xex1, yhd1, yha1, yhn, yht, yhm1, xnw1⟩,
    d_NoWord := ERR.exm_of yb yi_DialError yt_DialError ysd1,
    kv_NoWord := ERR.kit_blt (by decide +kernel) xsv1,
    k_NoWord_NoLength := kit_no yn_1_NoLength xic0 xtc0 ys_1_NoLength,
    k_NoWord_Clash := kit_no yn_1_Clash xic2 xtc2 ys_1_Clash,
    k_NoWord_NoLook := kit_no yn_1_NoLook xic3 xtc3 ys_1_NoLook,
    k_NoWord_NoRound := kit_no yn_1_NoRound xic4 xtc4 ys_1_NoRound,
    k_NoWord_NoUses := kit_no yn_1_NoUses xic5 xtc5 ys_1_NoUses,
    k_NoWord_NoSide := kit_no yn_1_NoSide xic6 xtc6 ys_1_NoSide,
    k_NoWord_NoRing := kit_no yn_1_NoRing xic7 xtc7 ys_1_NoRing,
    k_NoWord_NoSteps := kit_no yn_1_NoSteps xic8 xtc8 ys_1_NoSteps,
    k_NoWord_NoBottom := kit_no yn_1_NoBottom xic9 xtc9 ys_1_NoBottom,
    k_NoWord_NoText := kit_no yn_1_NoText xic10 xtc10 ys_1_NoText,
    x_Clash := ⟨yga2, ygg2, xex2, yhd2, yha2, yhn, yht, yhm2, xnw2⟩,
    d_Clash := ERR.exm_of yb yi_DialError yt_DialError ysd2,
    kv_Clash := ERR.kit_blt (by decide +kernel) xsv2,
    k_Clash_NoLength := kit_no yn_2_NoLength xic0 xtc0 ys_2_NoLength,
    k_Clash_NoWord := kit_no yn_2_NoWord xic1 xtc1 ys_2_NoWord,
    k_Clash_NoLook := kit_no yn_2_NoLook xic3 xtc3 ys_2_NoLook,
    k_Clash_NoRound := kit_no yn_2_NoRound xic4 xtc4 ys_2_NoRound,
    k_Clash_NoUses := kit_no yn_2_NoUses xic5 xtc5 ys_2_NoUses,
    k_Clash_NoSide := kit_no yn_2_NoSide xic6 xtc6 ys_2_NoSide,
    k_Clash_NoRing := kit_no yn_2_NoRing xic7 xtc7 ys_2_NoRing,
    k_Clash_NoSteps := kit_no yn_2_NoSteps xic8 xtc8 ys_2_NoSteps,
    k_Clash_NoBottom := kit_no yn_2_NoBottom xic9 xtc9 ys_2_NoBottom,
    k_Clash_NoText := kit_no yn_2_NoText xic10 xtc10 ys_2_NoText,
    x_NoLook := ⟨yga3, ygg3, xex3, yhd3, yha3, yhn, yht, yhm3, xnw3⟩,
    d_NoLook := ERR.exm_of yb yi_DialError yt_DialError ysd3,
    kv_NoLook := ERR.kit_blt (by decide +kernel) xsv3,
    k_NoLook_NoLength := kit_no yn_3_NoLength xic0 xtc0 ys_3_NoLength,
    k_NoLook_NoWord := kit_no yn_3_NoWord xic1 xtc1 ys_3_NoWord,
    k_NoLook_Clash := kit_no yn_3_Clash xic2 xtc2 ys_3_Clash,
    k_NoLook_NoRound := kit_no yn_3_NoRound xic4 xtc4 ys_3_NoRound,
    k_NoLook_NoUses := kit_no yn_3_NoUses xic5 xtc5 ys_3_NoUses,
    k_NoLook_NoSide := kit_no yn_3_NoSide xic6 xtc6 ys_3_NoSide,
    k_NoLook_NoRing := kit_no yn_3_NoRing xic7 xtc7 ys_3_NoRing,
    k_NoLook_NoSteps := kit_no yn_3_NoSteps xic8 xtc8 ys_3_NoSteps,
    k_NoLook_NoBottom := kit_no yn_3_NoBottom xic9 xtc9 ys_3_NoBottom,
    k_NoLook_NoText := kit_no yn_3_NoText xic10 xtc10 ys_3_NoText,
    x_NoRound := ⟨yga4, ygg4, xex4, yhd4, yha4, yhn, yht, yhm4, xnw4⟩,
    d_NoRound := ERR.exm_of yb yi_DialError yt_DialError ysd4,
    kv_NoRound := ERR.kit_blt (by decide +kernel) xsv4,
    k_NoRound_NoLength := kit_no yn_4_NoLength xic0 xtc0 ys_4_NoLength,
    k_NoRound_NoWord := kit_no yn_4_NoWord xic1 xtc1 ys_4_NoWord,
    k_NoRound_Clash := kit_no yn_4_Clash xic2 xtc2 ys_4_Clash,
    k_NoRound_NoLook := kit_no yn_4_NoLook xic3 xtc3 ys_4_NoLook,
    k_NoRound_NoUses := kit_no yn_4_NoUses xic5 xtc5 ys_4_NoUses,
    k_NoRound_NoSide := kit_no yn_4_NoSide xic6 xtc6 ys_4_NoSide,
    k_NoRound_NoRing := kit_no yn_4_NoRing xic7 xtc7 ys_4_NoRing,
    k_NoRound_NoSteps := kit_no yn_4_NoSteps xic8 xtc8 ys_4_NoSteps,
    k_NoRound_NoBottom := kit_no yn_4_NoBottom xic9 xtc9 ys_4_NoBottom,
    k_NoRound_NoText := kit_no yn_4_NoText xic10 xtc10 ys_4_NoText,
    x_NoUses := ⟨yga5, ygg5, xex5, yhd5, yha5, yhn, yht, yhm5, xnw5⟩,
    d_NoUses := ERR.exm_of yb yi_DialError yt_DialError ysd5,
    kv_NoUses := ERR.kit_blt (by decide +kernel) xsv5,
    k_NoUses_NoLength := kit_no yn_5_NoLength xic0 xtc0 ys_5_NoLength,
    k_NoUses_NoWord := kit_no yn_5_NoWord xic1 xtc1 ys_5_NoWord,
    k_NoUses_Clash := kit_no yn_5_Clash xic2 xtc2 ys_5_Clash,
    k_NoUses_NoLook := kit_no yn_5_NoLook xic3 xtc3 ys_5_NoLook,
    k_NoUses_NoRound := kit_no yn_5_NoRound xic4 xtc4 ys_5_NoRound,
    k_NoUses_NoSide := kit_no yn_5_NoSide xic6 xtc6 ys_5_NoSide,
    k_NoUses_NoRing := kit_no yn_5_NoRing xic7 xtc7 ys_5_NoRing,
    k_NoUses_NoSteps := kit_no yn_5_NoSteps xic8 xtc8 ys_5_NoSteps,
    k_NoUses_NoBottom := kit_no yn_5_NoBottom xic9 xtc9 ys_5_NoBottom,
    k_NoUses_NoText := kit_no yn_5_NoText xic10 xtc10 ys_5_NoText,
    x_NoSide := ⟨yga6, ygg6, xex6, yhd6, yha6, yhn, yht, yhm6, xnw6⟩,
    d_NoSide := ERR.exm_of yb yi_DialError yt_DialError ysd6,
    kv_NoSide := ERR.kit_blt (by decide +kernel) xsv6,
    k_NoSide_NoLength := kit_no yn_6_NoLength xic0 xtc0 ys_6_NoLength,
    k_NoSide_NoWord := kit_no yn_6_NoWord xic1 xtc1 ys_6_NoWord,
    k_NoSide_Clash := kit_no yn_6_Clash xic2 xtc2 ys_6_Clash,
    k_NoSide_NoLook := kit_no yn_6_NoLook xic3 xtc3 ys_6_NoLook,
    k_NoSide_NoRound := kit_no yn_6_NoRound xic4 xtc4 ys_6_NoRound,
    k_NoSide_NoUses := kit_no yn_6_NoUses xic5 xtc5 ys_6_NoUses,
    k_NoSide_NoRing := kit_no yn_6_NoRing xic7 xtc7 ys_6_NoRing,
    k_NoSide_NoSteps := kit_no yn_6_NoSteps xic8 xtc8 ys_6_NoSteps,
    k_NoSide_NoBottom := kit_no yn_6_NoBottom xic9 xtc9 ys_6_NoBottom,
    k_NoSide_NoText := kit_no yn_6_NoText xic10 xtc10 ys_6_NoText,
    x_NoRing := ⟨yga7, ygg7, xex7, yhd7, yha7, yhn, yht, yhm7, xnw7⟩,
    d_NoRing := ERR.exm_of yb yi_DialError yt_DialError ysd7,
    kv_NoRing := ERR.kit_blt (by decide +kernel) xsv7,
    k_NoRing_NoLength := kit_no yn_7_NoLength xic0 xtc0 ys_7_NoLength,
    k_NoRing_NoWord := kit_no yn_7_NoWord xic1 xtc1 ys_7_NoWord,
    k_NoRing_Clash := kit_no yn_7_Clash xic2 xtc2 ys_7_Clash,
    k_NoRing_NoLook := kit_no yn_7_NoLook xic3 xtc3 ys_7_NoLook,
    k_NoRing_NoRound := kit_no yn_7_NoRound xic4 xtc4 ys_7_NoRound,
    k_NoRing_NoUses := kit_no yn_7_NoUses xic5 xtc5 ys_7_NoUses,
    k_NoRing_NoSide := kit_no yn_7_NoSide xic6 xtc6 ys_7_NoSide,
    k_NoRing_NoSteps := kit_no yn_7_NoSteps xic8 xtc8 ys_7_NoSteps,
    k_NoRing_NoBottom := kit_no yn_7_NoBottom xic9 xtc9 ys_7_NoBottom,
    k_NoRing_NoText := kit_no yn_7_NoText xic10 xtc10 ys_7_NoText,
    x_NoSteps := ⟨yga8, ygg8, xex8, yhd8, yha8, yhn, yht, yhm8, xnw8⟩,
    d_NoSteps := ERR.exm_of yb yi_DialError yt_DialError ysd8,
    kv_NoSteps := ERR.kit_blt (by decide +kernel) xsv8,
    k_NoSteps_NoLength := kit_no yn_8_NoLength xic0 xtc0 ys_8_NoLength,
    k_NoSteps_NoWord := kit_no yn_8_NoWord xic1 xtc1 ys_8_NoWord,
    k_NoSteps_Clash := kit_no yn_8_Clash xic2 xtc2 ys_8_Clash,
    k_NoSteps_NoLook := kit_no yn_8_NoLook xic3 xtc3 ys_8_NoLook,
    k_NoSteps_NoRound := kit_no yn_8_NoRound xic4 xtc4 ys_8_NoRound,
    k_NoSteps_NoUses := kit_no yn_8_NoUses xic5 xtc5 ys_8_NoUses,
    k_NoSteps_NoSide := kit_no yn_8_NoSide xic6 xtc6 ys_8_NoSide,
    k_NoSteps_NoRing := kit_no yn_8_NoRing xic7 xtc7 ys_8_NoRing,
    k_NoSteps_NoBottom := kit_no yn_8_NoBottom xic9 xtc9 ys_8_NoBottom,
    k_NoSteps_NoText := kit_no yn_8_NoText xic10 xtc10 ys_8_NoText,
    x_NoBottom := ⟨yga9, ygg9, xex9, yhd9, yha9, yhn, yht, yhm9, xnw9⟩,
    d_NoBottom := ERR.exm_of yb yi_DialError yt_DialError ysd9,
    kv_NoBottom := ERR.kit_blt (by decide +kernel) xsv9,
    k_NoBottom_NoLength := kit_no yn_9_NoLength xic0 xtc0 ys_9_NoLength,
    k_NoBottom_NoWord := kit_no yn_9_NoWord xic1 xtc1 ys_9_NoWord,
    k_NoBottom_Clash := kit_no yn_9_Clash xic2 xtc2 ys_9_Clash,
    k_NoBottom_NoLook := kit_no yn_9_NoLook xic3 xtc3 ys_9_NoLook,
    k_NoBottom_NoRound := kit_no yn_9_NoRound xic4 xtc4 ys_9_NoRound,
    k_NoBottom_NoUses := kit_no yn_9_NoUses xic5 xtc5 ys_9_NoUses,
    k_NoBottom_NoSide := kit_no yn_9_NoSide xic6 xtc6 ys_9_NoSide,
    k_NoBottom_NoRing := kit_no yn_9_NoRing xic7 xtc7 ys_9_NoRing,
    k_NoBottom_NoSteps := kit_no yn_9_NoSteps xic8 xtc8 ys_9_NoSteps,
    k_NoBottom_NoText := kit_no yn_9_NoText xic10 xtc10 ys_9_NoText,
    x_NoText := ⟨yga10, ygg10, xex10, yhd10, yha10, yhn, yht, yhm10, xnw10⟩,
    d_NoText := ERR.exm_of yb yi_DialError yt_DialError ysd10,
    kv_NoText := ERR.kit_blt (by decide +kernel) xsv10,
    k_NoText_NoLength := kit_no yn_10_NoLength xic0 xtc0 ys_10_NoLength,
    k_NoText_NoWord := kit_no yn_10_NoWord xic1 xtc1 ys_10_NoWord,
    k_NoText_Clash := kit_no yn_10_Clash xic2 xtc2 ys_10_Clash,
    k_NoText_NoLook := kit_no yn_10_NoLook xic3 xtc3 ys_10_NoLook,
    k_NoText_NoRound := kit_no yn_10_NoRound xic4 xtc4 ys_10_NoRound,
    k_NoText_NoUses := kit_no yn_10_NoUses xic5 xtc5 ys_10_NoUses,
    k_NoText_NoSide := kit_no yn_10_NoSide xic6 xtc6 ys_10_NoSide,
    k_NoText_NoRing := kit_no yn_10_NoRing xic7 xtc7 ys_10_NoRing,
    k_NoText_NoSteps := kit_no yn_10_NoSteps xic8 xtc8 ys_10_NoSteps,
    k_NoText_NoBottom := kit_no yn_10_NoBottom xic9 xtc9 ys_10_NoBottom }
  exact ⟨PySem.W.fnOf "law" "law" (defArgs slaw) (defBody slaw) (defScope slaw) .none kV34 dc34 pm34 an34 cd34 ct34, fun s v => .of_eq rfl, fun base _ _ => ok_law T X⟩
theorem walk {l : PySem.W.OpenLaw} {q : Program} {loose : List Str} {XP : (Str → Option Value) → Heap → Prop} {YP : World → Heap → Prop} {d : DefRec} {K : Params → PySem.W.Frag} (hn : l.most = some 63) (hdf : d.params.defaults = [])
    (hY : ∀ (w : World) (h : Heap), YP w h → (K w.params).In h)
    (F : ∀ (w : World) (mg : Str → Option Value) (fa : Addr) (h : Heap), (K w.params).In h → h.Ns mainGlobals mg → mg d.name = some (.ref fa) →
      ∃ fd : FuncData, (∀ (s : Shared) (u : Value), BindsTo s fd ⟨[u], []⟩ [("script", u)]) ∧ ∀ base : Heap, (K w.params).In base → base.Ns mainGlobals mg → FnOk l.prog w (K w.params) mg base CX0 12 fa fd ["script"] (spLaw (K w.params))) :
    PySem.W.WalkO q loose XP YP l.row.toRowW d [] (fun f vs => PySem.call f vs) :=
  L2.walk_of (n := 63) (k := 12) (x := "script") (CX := fun _ => CX0) (sp := fun w => spLaw (K w.params)) hn (by decide) hdf ⟨rfl, by decide, by decide⟩ hY F (fun _ _ a ns hl _ hS => ⟨a, ns, rfl, hS, hl, fun _ => rfl⟩) fun _ _ _ _ _ z => z
end KA
open PySem PySem.W PyProof.Rows
set_option maxRecDepth 100000 in
set_option maxHeartbeats 0 in
theorem PySem.Challenge.cw_darkpace_k07_refused_in_order_holds : PySem.Challenge.rw_darkpace_k07_refused_in_order.Holds := by
  w_on; o_law; k_head; (case hw => w_witness2)
  k_fill
  refine KA.walk (l := PySem.Challenge.rw_darkpace_k07_refused_in_order) rfl rfl (fun w h Y => PySem.W.kIn_of Y) ?F
  case F =>
    intro w mg fa h KX G hmg
    refine' KA.all_mk KX G hmg ?aC ?a0 ?l0 ?c0 ?k0 ?a1 ?l1 ?c1 ?k1 ?a2 ?l2 ?c2 ?k2 ?a3 ?l3 ?c3 ?k3 ?a4 ?l4 ?c4 ?k4 ?a5 ?l5 ?c5 ?k5 ?a6 ?l6 ?c6 ?k6 ?a7 ?l7 ?c7 ?k7 ?a8 ?l8 ?c8 ?k8 ?a9 ?l9 ?c9 ?k9 ?a10 ?l10 ?c10 ?k10 ?a11 ?l11 ?c11 ?k11 ?a12 ?l12 ?c12 ?k12 ?a13 ?l13 ?c13 ?k13 ?a14 ?l14 ?c14 ?k14 ?a15 ?l15 ?c15 ?k15 ?a16 ?l16 ?c16 ?k16 ?a17 ?l17 ?c17 ?k17 ?a18 ?l18 ?c18 ?k18 ?a19 ?l19 ?c19 ?k19 ?a20 ?l20 ?c20 ?k20 ?a21 ?i21 ?l21 ?c21 ?k21 ?a22 ?i22 ?l22 ?c22 ?k22 ?a23 ?i23 ?l23 ?c23 ?k23 ?a24 ?i24 ?l24 ?c24 ?k24 ?a25 ?i25 ?l25 ?c25 ?k25 ?a26 ?i26 ?l26 ?c26 ?k26 ?a27 ?i27 ?l27 ?c27 ?k27 ?a28 ?i28 ?l28 ?c28 ?k28 ?a29 ?i29 ?l29 ?c29 ?k29 ?a30 ?i30 ?l30 ?c30 ?k30 ?a31 ?i31 ?l31 ?c31 ?k31 ?a32 ?i32 ?l32 ?c32 ?k32 ?a33 ?i33 ?l33 ?c33 ?k33 ?a34 ?l34 ?c34 ?k34 ?pg ?hd ?po ?sa ?mk ?kc ?n_length ?n_looks ?b_max ?b_min ?b_len ?b_range ?b_sorted ?b_set ?b_isinstance ?b_list ?b_tuple ?b_bool ?b_int ?b_str ?b_super ?b_ValueError ?gSLOW ?gFAST ?gW ?lW ?keys ?low ?wS ?wF ?lS ?lF ?gL ?lL ?xg0 ?xL0 ?xbv0 ?xsa0 ?xnw0 ?xsv0 ?xsu0 ?xop0 ?xme0 ?xin0 ?xty0 ?xkc0 ?xex0 ?xtc0 ?xic0 ?xss0 ?xto0 ?xl0 ?xc0 ?xlc0 ?xld0 ?xv0 ?xfi0 ?xg1 ?xL1 ?xbv1 ?xsa1 ?xnw1 ?xsv1 ?xsu1 ?xop1 ?xme1 ?xin1 ?xty1 ?xkc1 ?xex1 ?xtc1 ?xic1 ?xss1 ?xto1 ?xl1 ?xc1 ?xlc1 ?xld1 ?xv1 ?xfi1 ?xg2 ?xL2 ?xbv2 ?xsa2 ?xnw2 ?xsv2 ?xsu2 ?xop2 ?xme2 ?xin2 ?xty2 ?xkc2 ?xex2 ?xtc2 ?xic2 ?xss2 ?xto2 ?xl2 ?xc2 ?xlc2 ?xld2 ?xv2 ?xfi2 ?xg3 ?xL3 ?xbv3 ?xsa3 ?xnw3 ?xsv3 ?xsu3 ?xop3 ?xme3 ?xin3 ?xty3 ?xkc3 ?xex3 ?xtc3 ?xic3 ?xss3 ?xto3 ?xl3 ?xc3 ?xlc3 ?xld3 ?xv3 ?xfi3 ?xg4 ?xL4 ?xbv4 ?xsa4 ?xnw4 ?xsv4 ?xsu4 ?xop4 ?xme4 ?xin4 ?xty4 ?xkc4 ?xex4 ?xtc4 ?xic4 ?xss4 ?xto4 ?xl4 ?xc4 ?xlc4 ?xld4 ?xv4 ?xfi4 ?xg5 ?xL5 ?xbv5 ?xsa5 ?xnw5 ?xsv5 ?xsu5 ?xop5 ?xme5 ?xin5 ?xty5 ?xkc5 ?xex5 ?xtc5 ?xic5 ?xss5 ?xto5 ?xl5 ?xc5 ?xlc5 ?xld5 ?xv5 ?xfi5 ?xg6 ?xL6 ?xbv6 ?xsa6 ?xnw6 ?xsv6 ?xsu6 ?xop6 ?xme6 ?xin6 ?xty6 ?xkc6 ?xex6 ?xtc6 ?xic6 ?xss6 ?xto6 ?xl6 ?xc6 ?xlc6 ?xld6 ?xv6 ?xfi6 ?xg7 ?xL7 ?xbv7 ?xsa7 ?xnw7 ?xsv7 ?xsu7 ?xop7 ?xme7 ?xin7 ?xty7 ?xkc7 ?xex7 ?xtc7 ?xic7 ?xss7 ?xto7 ?xl7 ?xc7 ?xlc7 ?xld7 ?xv7 ?xfi7 ?xg8 ?xL8 ?xbv8 ?xsa8 ?xnw8 ?xsv8 ?xsu8 ?xop8 ?xme8 ?xin8 ?xty8 ?xkc8 ?xex8 ?xtc8 ?xic8 ?xss8 ?xto8 ?xl8 ?xc8 ?xlc8 ?xld8 ?xv8 ?xfi8 ?xg9 ?xL9 ?xbv9 ?xsa9 ?xnw9 ?xsv9 ?xsu9 ?xop9 ?xme9 ?xin9 ?xty9 ?xkc9 ?xex9 ?xtc9 ?xic9 ?xss9 ?xto9 ?xl9 ?xc9 ?xlc9 ?xld9 ?xv9 ?xfi9 ?xg10 ?xL10 ?xbv10 ?xsa10 ?xnw10 ?xsv10 ?xsu10 ?xop10 ?xme10 ?xin10 ?xty10 ?xkc10 ?xex10 ?xtc10 ?xic10 ?xss10 ?xto10 ?xl10 ?xc10 ?xlc10 ?xld10 ?xv10 ?xfi10 ?yg_DialError ?yi_DialError ?yt_DialError ?yb ?yga0 ?ygg0 ?yhd0 ?yha0 ?yhm0 ?yhn ?yht ?ysd0 ?ys_0_NoWord ?yn_0_NoWord ?ys_0_Clash ?yn_0_Clash ?ys_0_NoLook ?yn_0_NoLook ?ys_0_NoRound ?yn_0_NoRound ?ys_0_NoUses ?yn_0_NoUses ?ys_0_NoSide ?yn_0_NoSide ?ys_0_NoRing ?yn_0_NoRing ?ys_0_NoSteps ?yn_0_NoSteps ?ys_0_NoBottom ?yn_0_NoBottom ?ys_0_NoText ?yn_0_NoText ?yga1 ?ygg1 ?yhd1 ?yha1 ?yhm1 ?ysd1 ?ys_1_NoLength ?yn_1_NoLength ?ys_1_Clash ?yn_1_Clash ?ys_1_NoLook ?yn_1_NoLook ?ys_1_NoRound ?yn_1_NoRound ?ys_1_NoUses ?yn_1_NoUses ?ys_1_NoSide ?yn_1_NoSide ?ys_1_NoRing ?yn_1_NoRing ?ys_1_NoSteps ?yn_1_NoSteps ?ys_1_NoBottom ?yn_1_NoBottom ?ys_1_NoText ?yn_1_NoText ?yga2 ?ygg2 ?yhd2 ?yha2 ?yhm2 ?ysd2 ?ys_2_NoLength ?yn_2_NoLength ?ys_2_NoWord ?yn_2_NoWord ?ys_2_NoLook ?yn_2_NoLook ?ys_2_NoRound ?yn_2_NoRound ?ys_2_NoUses ?yn_2_NoUses ?ys_2_NoSide ?yn_2_NoSide ?ys_2_NoRing ?yn_2_NoRing ?ys_2_NoSteps ?yn_2_NoSteps ?ys_2_NoBottom ?yn_2_NoBottom ?ys_2_NoText ?yn_2_NoText ?yga3 ?ygg3 ?yhd3 ?yha3 ?yhm3 ?ysd3 ?ys_3_NoLength ?yn_3_NoLength ?ys_3_NoWord ?yn_3_NoWord ?ys_3_Clash ?yn_3_Clash ?ys_3_NoRound ?yn_3_NoRound ?ys_3_NoUses ?yn_3_NoUses ?ys_3_NoSide ?yn_3_NoSide ?ys_3_NoRing ?yn_3_NoRing ?ys_3_NoSteps ?yn_3_NoSteps ?ys_3_NoBottom ?yn_3_NoBottom ?ys_3_NoText ?yn_3_NoText ?yga4 ?ygg4 ?yhd4 ?yha4 ?yhm4 ?ysd4 ?ys_4_NoLength ?yn_4_NoLength ?ys_4_NoWord ?yn_4_NoWord ?ys_4_Clash ?yn_4_Clash ?ys_4_NoLook ?yn_4_NoLook ?ys_4_NoUses ?yn_4_NoUses ?ys_4_NoSide ?yn_4_NoSide ?ys_4_NoRing ?yn_4_NoRing ?ys_4_NoSteps ?yn_4_NoSteps ?ys_4_NoBottom ?yn_4_NoBottom ?ys_4_NoText ?yn_4_NoText ?yga5 ?ygg5 ?yhd5 ?yha5 ?yhm5 ?ysd5 ?ys_5_NoLength ?yn_5_NoLength ?ys_5_NoWord ?yn_5_NoWord ?ys_5_Clash ?yn_5_Clash ?ys_5_NoLook ?yn_5_NoLook ?ys_5_NoRound ?yn_5_NoRound ?ys_5_NoSide ?yn_5_NoSide ?ys_5_NoRing ?yn_5_NoRing ?ys_5_NoSteps ?yn_5_NoSteps ?ys_5_NoBottom ?yn_5_NoBottom ?ys_5_NoText ?yn_5_NoText ?yga6 ?ygg6 ?yhd6 ?yha6 ?yhm6 ?ysd6 ?ys_6_NoLength ?yn_6_NoLength ?ys_6_NoWord ?yn_6_NoWord ?ys_6_Clash ?yn_6_Clash ?ys_6_NoLook ?yn_6_NoLook ?ys_6_NoRound ?yn_6_NoRound ?ys_6_NoUses ?yn_6_NoUses ?ys_6_NoRing ?yn_6_NoRing ?ys_6_NoSteps ?yn_6_NoSteps ?ys_6_NoBottom ?yn_6_NoBottom ?ys_6_NoText ?yn_6_NoText ?yga7 ?ygg7 ?yhd7 ?yha7 ?yhm7 ?ysd7 ?ys_7_NoLength ?yn_7_NoLength ?ys_7_NoWord ?yn_7_NoWord ?ys_7_Clash ?yn_7_Clash ?ys_7_NoLook ?yn_7_NoLook ?ys_7_NoRound ?yn_7_NoRound ?ys_7_NoUses ?yn_7_NoUses ?ys_7_NoSide ?yn_7_NoSide ?ys_7_NoSteps ?yn_7_NoSteps ?ys_7_NoBottom ?yn_7_NoBottom ?ys_7_NoText ?yn_7_NoText ?yga8 ?ygg8 ?yhd8 ?yha8 ?yhm8 ?ysd8 ?ys_8_NoLength ?yn_8_NoLength ?ys_8_NoWord ?yn_8_NoWord ?ys_8_Clash ?yn_8_Clash ?ys_8_NoLook ?yn_8_NoLook ?ys_8_NoRound ?yn_8_NoRound ?ys_8_NoUses ?yn_8_NoUses ?ys_8_NoSide ?yn_8_NoSide ?ys_8_NoRing ?yn_8_NoRing ?ys_8_NoBottom ?yn_8_NoBottom ?ys_8_NoText ?yn_8_NoText ?yga9 ?ygg9 ?yhd9 ?yha9 ?yhm9 ?ysd9 ?ys_9_NoLength ?yn_9_NoLength ?ys_9_NoWord ?yn_9_NoWord ?ys_9_Clash ?yn_9_Clash ?ys_9_NoLook ?yn_9_NoLook ?ys_9_NoRound ?yn_9_NoRound ?ys_9_NoUses ?yn_9_NoUses ?ys_9_NoSide ?yn_9_NoSide ?ys_9_NoRing ?yn_9_NoRing ?ys_9_NoSteps ?yn_9_NoSteps ?ys_9_NoText ?yn_9_NoText ?yga10 ?ygg10 ?yhd10 ?yha10 ?yhm10 ?ysd10 ?ys_10_NoLength ?yn_10_NoLength ?ys_10_NoWord ?yn_10_NoWord ?ys_10_Clash ?yn_10_Clash ?ys_10_NoLook ?yn_10_NoLook ?ys_10_NoRound ?yn_10_NoRound ?ys_10_NoUses ?yn_10_NoUses ?ys_10_NoSide ?yn_10_NoSide ?ys_10_NoRing ?yn_10_NoRing ?ys_10_NoSteps ?yn_10_NoSteps ?ys_10_NoBottom ?yn_10_NoBottom
    (case aC => k_is)
    (case a0 => k_is)
    (case l0 => k_is)
    (case c0 => k_is)
    (case k0 => k_is)
    (case a1 => k_is)
    (case l1 => k_is)
    (case c1 => k_is)
    (case k1 => k_is)
    (case a2 => k_is)
    (case l2 => k_is)
    (case c2 => k_is)
    (case k2 => k_is)
    (case a3 => k_is)
    (case l3 => k_is)
    (case c3 => k_is)
    (case k3 => k_is)
    (case a4 => k_is)
    (case l4 => k_is)
    (case c4 => k_is)
    (case k4 => k_is)
    (case a5 => k_is)
    (case l5 => k_is)
    (case c5 => k_is)
    (case k5 => k_is)
    (case a6 => k_is)
    (case l6 => k_is)
    (case c6 => k_is)
    (case k6 => k_is)
    (case a7 => k_is)
    (case l7 => k_is)
    (case c7 => k_is)
    (case k7 => k_is)
    (case a8 => k_is)
    (case l8 => k_is)
    (case c8 => k_is)
    (case k8 => k_is)
    (case a9 => k_is)
    (case l9 => k_is)
    (case c9 => k_is)
    (case k9 => k_is)
    (case a10 => k_is)
    (case l10 => k_is)
    (case c10 => k_is)
    (case k10 => k_is)
    (case a11 => k_is)
    (case l11 => k_is)
    (case c11 => k_is)
    (case k11 => k_is)
    (case a12 => k_is)
    (case l12 => k_is)
    (case c12 => k_is)
    (case k12 => k_is)
    (case a13 => k_is)
    (case l13 => k_is)
    (case c13 => k_is)
    (case k13 => k_is)
    (case a14 => k_is)
    (case l14 => k_is)
    (case c14 => k_is)
    (case k14 => k_is)
    (case a15 => k_is)
    (case l15 => k_is)
    (case c15 => k_is)
    (case k15 => k_is)
    (case a16 => k_is)
    (case l16 => k_is)
    (case c16 => k_is)
    (case k16 => k_is)
    (case a17 => k_is)
    (case l17 => k_is)
    (case c17 => k_is)
    (case k17 => k_is)
    (case a18 => k_is)
    (case l18 => k_is)
    (case c18 => k_is)
    (case k18 => k_is)
    (case a19 => k_is)
    (case l19 => k_is)
    (case c19 => k_is)
    (case k19 => k_is)
    (case a20 => k_is)
    (case l20 => k_is)
    (case c20 => k_is)
    (case k20 => k_is)
    (case a21 => k_is)
    (case i21 => k_is)
    (case l21 => k_is)
    (case c21 => k_is)
    (case k21 => k_is)
    (case a22 => k_is)
    (case i22 => k_is)
    (case l22 => k_is)
    (case c22 => k_is)
    (case k22 => k_is)
    (case a23 => k_is)
    (case i23 => k_is)
    (case l23 => k_is)
    (case c23 => k_is)
    (case k23 => k_is)
    (case a24 => k_is)
    (case i24 => k_is)
    (case l24 => k_is)
    (case c24 => k_is)
    (case k24 => k_is)
    (case a25 => k_is)
    (case i25 => k_is)
    (case l25 => k_is)
    (case c25 => k_is)
    (case k25 => k_is)
    (case a26 => k_is)
    (case i26 => k_is)
    (case l26 => k_is)
    (case c26 => k_is)
    (case k26 => k_is)
    (case a27 => k_is)
    (case i27 => k_is)
    (case l27 => k_is)
    (case c27 => k_is)
    (case k27 => k_is)
    (case a28 => k_is)
    (case i28 => k_is)
    (case l28 => k_is)
    (case c28 => k_is)
    (case k28 => k_is)
    (case a29 => k_is)
    (case i29 => k_is)
    (case l29 => k_is)
    (case c29 => k_is)
    (case k29 => k_is)
    (case a30 => k_is)
    (case i30 => k_is)
    (case l30 => k_is)
    (case c30 => k_is)
    (case k30 => k_is)
    (case a31 => k_is)
    (case i31 => k_is)
    (case l31 => k_is)
    (case c31 => k_is)
    (case k31 => k_is)
    (case a32 => k_is)
    (case i32 => k_is)
    (case l32 => k_is)
    (case c32 => k_is)
    (case k32 => k_is)
    (case a33 => k_is)
    (case i33 => k_is)
    (case l33 => k_is)
    (case c33 => k_is)
    (case k33 => k_is)
    (case a34 => k_is)
    (case l34 => k_is)
    (case c34 => k_is)
    (case k34 => k_is)
    (case pg => k_is)
    (case hd => k_is)
    (case po => k_is)
    (case sa => k_is)
    (case mk => k_is)
    (case kc => k_is)
    (case n_length => k_is)
    (case n_looks => k_is)
    (case b_max => k_is)
    (case b_min => k_is)
    (case b_len => k_is)
    (case b_range => k_is)
    (case b_sorted => k_is)
    (case b_set => k_is)
    (case b_isinstance => k_is)
    (case b_list => k_is)
    (case b_tuple => k_is)
    (case b_bool => k_is)
    (case b_int => k_is)
    (case b_str => k_is)
    (case b_super => k_is)
    (case b_ValueError => k_is)
    (case gSLOW => k_is)
    (case gFAST => k_is)
    (case gW => k_is)
    (case lW => k_is)
    (case keys => k_keys)
    (case low => decide +kernel)
    (case wS => k_is)
    (case wF => k_is)
    (case lS => k_is)
    (case lF => k_is)
    (case gL => k_is)
    (case lL => k_is)
    (case xg0 => k_is)
    (case xL0 => k_is)
    (case xbv0 => decide +kernel)
    (case xsa0 => k_is)
    (case xnw0 => k_is)
    (case xsv0 => k_is)
    (case xsu0 => ks_is)
    (case xop0 => k_is)
    (case xme0 => k_is)
    (case xin0 => k_is)
    (case xty0 => k_is)
    (case xkc0 => k_is)
    (case xex0 => k_is)
    (case xtc0 => k_is)
    (case xic0 => k_is)
    (case xss0 => first | rfl | k_is)
    (case xto0 => first | rfl | decide +kernel)
    (case xl0 => k_is)
    (case xc0 => k_is)
    (case xlc0 => k_is)
    (case xld0 => k_is)
    (case xv0 => rfl)
    (case xfi0 => first | rfl | decide +kernel)
    (case xg1 => k_is)
    (case xL1 => k_is)
    (case xbv1 => decide +kernel)
    (case xsa1 => k_is)
    (case xnw1 => k_is)
    (case xsv1 => k_is)
    (case xsu1 => ks_is)
    (case xop1 => k_is)
    (case xme1 => k_is)
    (case xin1 => k_is)
    (case xty1 => k_is)
    (case xkc1 => k_is)
    (case xex1 => k_is)
    (case xtc1 => k_is)
    (case xic1 => k_is)
    (case xss1 => first | rfl | k_is)
    (case xto1 => first | rfl | decide +kernel)
    (case xl1 => k_is)
    (case xc1 => k_is)
    (case xlc1 => k_is)
    (case xld1 => k_is)
    (case xv1 => rfl)
    (case xfi1 => first | rfl | decide +kernel)
    (case xg2 => k_is)
    (case xL2 => k_is)
    (case xbv2 => decide +kernel)
    (case xsa2 => k_is)
    (case xnw2 => k_is)
    (case xsv2 => k_is)
    (case xsu2 => ks_is)
    (case xop2 => k_is)
    (case xme2 => k_is)
    (case xin2 => k_is)
    (case xty2 => k_is)
    (case xkc2 => k_is)
    (case xex2 => k_is)
    (case xtc2 => k_is)
    (case xic2 => k_is)
    (case xss2 => first | rfl | k_is)
    (case xto2 => first | rfl | decide +kernel)
    (case xl2 => k_is)
    (case xc2 => k_is)
    (case xlc2 => k_is)
    (case xld2 => k_is)
    (case xv2 => rfl)
    (case xfi2 => first | rfl | decide +kernel)
    (case xg3 => k_is)
    (case xL3 => k_is)
    (case xbv3 => decide +kernel)
    (case xsa3 => k_is)
    (case xnw3 => k_is)
    (case xsv3 => k_is)
    (case xsu3 => ks_is)
    (case xop3 => k_is)
    (case xme3 => k_is)
    (case xin3 => k_is)
    (case xty3 => k_is)
    (case xkc3 => k_is)
    (case xex3 => k_is)
    (case xtc3 => k_is)
    (case xic3 => k_is)
    (case xss3 => first | rfl | k_is)
    (case xto3 => first | rfl | decide +kernel)
    (case xl3 => k_is)
    (case xc3 => k_is)
    (case xlc3 => k_is)
    (case xld3 => k_is)
    (case xv3 => rfl)
    (case xfi3 => first | rfl | decide +kernel)
    (case xg4 => k_is)
    (case xL4 => k_is)
    (case xbv4 => decide +kernel)
    (case xsa4 => k_is)
    (case xnw4 => k_is)
    (case xsv4 => k_is)
    (case xsu4 => ks_is)
    (case xop4 => k_is)
    (case xme4 => k_is)
    (case xin4 => k_is)
    (case xty4 => k_is)
    (case xkc4 => k_is)
    (case xex4 => k_is)
    (case xtc4 => k_is)
    (case xic4 => k_is)
    (case xss4 => first | rfl | k_is)
    (case xto4 => first | rfl | decide +kernel)
    (case xl4 => k_is)
    (case xc4 => k_is)
    (case xlc4 => k_is)
    (case xld4 => k_is)
    (case xv4 => rfl)
    (case xfi4 => first | rfl | decide +kernel)
    (case xg5 => k_is)
    (case xL5 => k_is)
    (case xbv5 => decide +kernel)
    (case xsa5 => k_is)
    (case xnw5 => k_is)
    (case xsv5 => k_is)
    (case xsu5 => ks_is)
    (case xop5 => k_is)
    (case xme5 => k_is)
    (case xin5 => k_is)
    (case xty5 => k_is)
    (case xkc5 => k_is)
    (case xex5 => k_is)
    (case xtc5 => k_is)
    (case xic5 => k_is)
    (case xss5 => first | rfl | k_is)
    (case xto5 => first | rfl | decide +kernel)
    (case xl5 => k_is)
    (case xc5 => k_is)
    (case xlc5 => k_is)
    (case xld5 => k_is)
    (case xv5 => rfl)
    (case xfi5 => first | rfl | decide +kernel)
    (case xg6 => k_is)
    (case xL6 => k_is)
    (case xbv6 => decide +kernel)
    (case xsa6 => k_is)
    (case xnw6 => k_is)
    (case xsv6 => k_is)
    (case xsu6 => ks_is)
    (case xop6 => k_is)
    (case xme6 => k_is)
    (case xin6 => k_is)
    (case xty6 => k_is)
    (case xkc6 => k_is)
    (case xex6 => k_is)
    (case xtc6 => k_is)
    (case xic6 => k_is)
    (case xss6 => first | rfl | k_is)
    (case xto6 => first | rfl | decide +kernel)
    (case xl6 => k_is)
    (case xc6 => k_is)
    (case xlc6 => k_is)
    (case xld6 => k_is)
    (case xv6 => rfl)
    (case xfi6 => first | rfl | decide +kernel)
    (case xg7 => k_is)
    (case xL7 => k_is)
    (case xbv7 => decide +kernel)
    (case xsa7 => k_is)
    (case xnw7 => k_is)
    (case xsv7 => k_is)
    (case xsu7 => ks_is)
    (case xop7 => k_is)
    (case xme7 => k_is)
    (case xin7 => k_is)
    (case xty7 => k_is)
    (case xkc7 => k_is)
    (case xex7 => k_is)
    (case xtc7 => k_is)
    (case xic7 => k_is)
    (case xss7 => first | rfl | k_is)
    (case xto7 => first | rfl | decide +kernel)
    (case xl7 => k_is)
    (case xc7 => k_is)
    (case xlc7 => k_is)
    (case xld7 => k_is)
    (case xv7 => rfl)
    (case xfi7 => first | rfl | decide +kernel)
    (case xg8 => k_is)
    (case xL8 => k_is)
    (case xbv8 => decide +kernel)
    (case xsa8 => k_is)
    (case xnw8 => k_is)
    (case xsv8 => k_is)
    (case xsu8 => ks_is)
    (case xop8 => k_is)
    (case xme8 => k_is)
    (case xin8 => k_is)
    (case xty8 => k_is)
    (case xkc8 => k_is)
    (case xex8 => k_is)
    (case xtc8 => k_is)
    (case xic8 => k_is)
    (case xss8 => first | rfl | k_is)
    (case xto8 => first | rfl | decide +kernel)
    (case xl8 => k_is)
    (case xc8 => k_is)
    (case xlc8 => k_is)
    (case xld8 => k_is)
    (case xv8 => rfl)
    (case xfi8 => first | rfl | decide +kernel)
    (case xg9 => k_is)
    (case xL9 => k_is)
    (case xbv9 => decide +kernel)
    (case xsa9 => k_is)
    (case xnw9 => k_is)
    (case xsv9 => k_is)
    (case xsu9 => ks_is)
    (case xop9 => k_is)
    (case xme9 => k_is)
    (case xin9 => k_is)
    (case xty9 => k_is)
    (case xkc9 => k_is)
    (case xex9 => k_is)
    (case xtc9 => k_is)
    (case xic9 => k_is)
    (case xss9 => first | rfl | k_is)
    (case xto9 => first | rfl | decide +kernel)
    (case xl9 => k_is)
    (case xc9 => k_is)
    (case xlc9 => k_is)
    (case xld9 => k_is)
    (case xv9 => rfl)
    (case xfi9 => first | rfl | decide +kernel)
    (case xg10 => k_is)
    (case xL10 => k_is)
    (case xbv10 => decide +kernel)
    (case xsa10 => k_is)
    (case xnw10 => k_is)
    (case xsv10 => k_is)
    (case xsu10 => ks_is)
    (case xop10 => k_is)
    (case xme10 => k_is)
    (case xin10 => k_is)
    (case xty10 => k_is)
    (case xkc10 => k_is)
    (case xex10 => k_is)
    (case xtc10 => k_is)
    (case xic10 => k_is)
    (case xss10 => first | rfl | k_is)
    (case xto10 => first | rfl | decide +kernel)
    (case xl10 => k_is)
    (case xc10 => k_is)
    (case xlc10 => k_is)
    (case xld10 => k_is)
    (case xv10 => rfl)
    (case xfi10 => first | rfl | decide +kernel)
    (case yg_DialError => k_is)
    (case yi_DialError => k_is)
    (case yt_DialError => k_is)
    (case yb => k_is)
    (case yga0 => k_is)
    (case ygg0 => k_is)
    (case yhd0 => k_is)
    (case yha0 => k_is)
    (case yhm0 => k_is)
    (case yhn => k_is)
    (case yht => k_is)
    (case ysd0 => first | k_is | rfl | decide +kernel)
    (case ys_0_NoWord => first | k_is | rfl | decide +kernel)
    (case yn_0_NoWord => first | rfl | decide +kernel)
    (case ys_0_Clash => first | k_is | rfl | decide +kernel)
    (case yn_0_Clash => first | rfl | decide +kernel)
    (case ys_0_NoLook => first | k_is | rfl | decide +kernel)
    (case yn_0_NoLook => first | rfl | decide +kernel)
    (case ys_0_NoRound => first | k_is | rfl | decide +kernel)
    (case yn_0_NoRound => first | rfl | decide +kernel)
    (case ys_0_NoUses => first | k_is | rfl | decide +kernel)
    (case yn_0_NoUses => first | rfl | decide +kernel)
    (case ys_0_NoSide => first | k_is | rfl | decide +kernel)
    (case yn_0_NoSide => first | rfl | decide +kernel)
    (case ys_0_NoRing => first | k_is | rfl | decide +kernel)
    (case yn_0_NoRing => first | rfl | decide +kernel)
    (case ys_0_NoSteps => first | k_is | rfl | decide +kernel)
    (case yn_0_NoSteps => first | rfl | decide +kernel)
    (case ys_0_NoBottom => first | k_is | rfl | decide +kernel)
    (case yn_0_NoBottom => first | rfl | decide +kernel)
    (case ys_0_NoText => first | k_is | rfl | decide +kernel)
    (case yn_0_NoText => first | rfl | decide +kernel)
    (case yga1 => k_is)
    (case ygg1 => k_is)
    (case yhd1 => k_is)
    (case yha1 => k_is)
    (case yhm1 => k_is)
    (case ysd1 => first | k_is | rfl | decide +kernel)
    (case ys_1_NoLength => first | k_is | rfl | decide +kernel)
    (case yn_1_NoLength => first | rfl | decide +kernel)
    (case ys_1_Clash => first | k_is | rfl | decide +kernel)
    (case yn_1_Clash => first | rfl | decide +kernel)
    (case ys_1_NoLook => first | k_is | rfl | decide +kernel)
    (case yn_1_NoLook => first | rfl | decide +kernel)
    (case ys_1_NoRound => first | k_is | rfl | decide +kernel)
    (case yn_1_NoRound => first | rfl | decide +kernel)
    (case ys_1_NoUses => first | k_is | rfl | decide +kernel)
    (case yn_1_NoUses => first | rfl | decide +kernel)
    (case ys_1_NoSide => first | k_is | rfl | decide +kernel)
    (case yn_1_NoSide => first | rfl | decide +kernel)
    (case ys_1_NoRing => first | k_is | rfl | decide +kernel)
    (case yn_1_NoRing => first | rfl | decide +kernel)
    (case ys_1_NoSteps => first | k_is | rfl | decide +kernel)
    (case yn_1_NoSteps => first | rfl | decide +kernel)
    (case ys_1_NoBottom => first | k_is | rfl | decide +kernel)
    (case yn_1_NoBottom => first | rfl | decide +kernel)
    (case ys_1_NoText => first | k_is | rfl | decide +kernel)
    (case yn_1_NoText => first | rfl | decide +kernel)
    (case yga2 => k_is)
    (case ygg2 => k_is)
    (case yhd2 => k_is)
    (case yha2 => k_is)
    (case yhm2 => k_is)
    (case ysd2 => first | k_is | rfl | decide +kernel)
    (case ys_2_NoLength => first | k_is | rfl | decide +kernel)
    (case yn_2_NoLength => first | rfl | decide +kernel)
    (case ys_2_NoWord => first | k_is | rfl | decide +kernel)
    (case yn_2_NoWord => first | rfl | decide +kernel)
    (case ys_2_NoLook => first | k_is | rfl | decide +kernel)
    (case yn_2_NoLook => first | rfl | decide +kernel)
    (case ys_2_NoRound => first | k_is | rfl | decide +kernel)
    (case yn_2_NoRound => first | rfl | decide +kernel)
    (case ys_2_NoUses => first | k_is | rfl | decide +kernel)
    (case yn_2_NoUses => first | rfl | decide +kernel)
    (case ys_2_NoSide => first | k_is | rfl | decide +kernel)
    (case yn_2_NoSide => first | rfl | decide +kernel)
    (case ys_2_NoRing => first | k_is | rfl | decide +kernel)
    (case yn_2_NoRing => first | rfl | decide +kernel)
    (case ys_2_NoSteps => first | k_is | rfl | decide +kernel)
    (case yn_2_NoSteps => first | rfl | decide +kernel)
    (case ys_2_NoBottom => first | k_is | rfl | decide +kernel)
    (case yn_2_NoBottom => first | rfl | decide +kernel)
    (case ys_2_NoText => first | k_is | rfl | decide +kernel)
    (case yn_2_NoText => first | rfl | decide +kernel)
    (case yga3 => k_is)
    (case ygg3 => k_is)
    (case yhd3 => k_is)
    (case yha3 => k_is)
    (case yhm3 => k_is)
    (case ysd3 => first | k_is | rfl | decide +kernel)
    (case ys_3_NoLength => first | k_is | rfl | decide +kernel)
    (case yn_3_NoLength => first | rfl | decide +kernel)
    (case ys_3_NoWord => first | k_is | rfl | decide +kernel)
    (case yn_3_NoWord => first | rfl | decide +kernel)
    (case ys_3_Clash => first | k_is | rfl | decide +kernel)
    (case yn_3_Clash => first | rfl | decide +kernel)
    (case ys_3_NoRound => first | k_is | rfl | decide +kernel)
    (case yn_3_NoRound => first | rfl | decide +kernel)
    (case ys_3_NoUses => first | k_is | rfl | decide +kernel)
    (case yn_3_NoUses => first | rfl | decide +kernel)
    (case ys_3_NoSide => first | k_is | rfl | decide +kernel)
    (case yn_3_NoSide => first | rfl | decide +kernel)
    (case ys_3_NoRing => first | k_is | rfl | decide +kernel)
    (case yn_3_NoRing => first | rfl | decide +kernel)
    (case ys_3_NoSteps => first | k_is | rfl | decide +kernel)
    (case yn_3_NoSteps => first | rfl | decide +kernel)
    (case ys_3_NoBottom => first | k_is | rfl | decide +kernel)
    (case yn_3_NoBottom => first | rfl | decide +kernel)
    (case ys_3_NoText => first | k_is | rfl | decide +kernel)
    (case yn_3_NoText => first | rfl | decide +kernel)
    (case yga4 => k_is)
    (case ygg4 => k_is)
    (case yhd4 => k_is)
    (case yha4 => k_is)
    (case yhm4 => k_is)
    (case ysd4 => first | k_is | rfl | decide +kernel)
    (case ys_4_NoLength => first | k_is | rfl | decide +kernel)
    (case yn_4_NoLength => first | rfl | decide +kernel)
    (case ys_4_NoWord => first | k_is | rfl | decide +kernel)
    (case yn_4_NoWord => first | rfl | decide +kernel)
    (case ys_4_Clash => first | k_is | rfl | decide +kernel)
    (case yn_4_Clash => first | rfl | decide +kernel)
    (case ys_4_NoLook => first | k_is | rfl | decide +kernel)
    (case yn_4_NoLook => first | rfl | decide +kernel)
    (case ys_4_NoUses => first | k_is | rfl | decide +kernel)
    (case yn_4_NoUses => first | rfl | decide +kernel)
    (case ys_4_NoSide => first | k_is | rfl | decide +kernel)
    (case yn_4_NoSide => first | rfl | decide +kernel)
    (case ys_4_NoRing => first | k_is | rfl | decide +kernel)
    (case yn_4_NoRing => first | rfl | decide +kernel)
    (case ys_4_NoSteps => first | k_is | rfl | decide +kernel)
    (case yn_4_NoSteps => first | rfl | decide +kernel)
    (case ys_4_NoBottom => first | k_is | rfl | decide +kernel)
    (case yn_4_NoBottom => first | rfl | decide +kernel)
    (case ys_4_NoText => first | k_is | rfl | decide +kernel)
    (case yn_4_NoText => first | rfl | decide +kernel)
    (case yga5 => k_is)
    (case ygg5 => k_is)
    (case yhd5 => k_is)
    (case yha5 => k_is)
    (case yhm5 => k_is)
    (case ysd5 => first | k_is | rfl | decide +kernel)
    (case ys_5_NoLength => first | k_is | rfl | decide +kernel)
    (case yn_5_NoLength => first | rfl | decide +kernel)
    (case ys_5_NoWord => first | k_is | rfl | decide +kernel)
    (case yn_5_NoWord => first | rfl | decide +kernel)
    (case ys_5_Clash => first | k_is | rfl | decide +kernel)
    (case yn_5_Clash => first | rfl | decide +kernel)
    (case ys_5_NoLook => first | k_is | rfl | decide +kernel)
    (case yn_5_NoLook => first | rfl | decide +kernel)
    (case ys_5_NoRound => first | k_is | rfl | decide +kernel)
    (case yn_5_NoRound => first | rfl | decide +kernel)
    (case ys_5_NoSide => first | k_is | rfl | decide +kernel)
    (case yn_5_NoSide => first | rfl | decide +kernel)
    (case ys_5_NoRing => first | k_is | rfl | decide +kernel)
    (case yn_5_NoRing => first | rfl | decide +kernel)
    (case ys_5_NoSteps => first | k_is | rfl | decide +kernel)
    (case yn_5_NoSteps => first | rfl | decide +kernel)
    (case ys_5_NoBottom => first | k_is | rfl | decide +kernel)
    (case yn_5_NoBottom => first | rfl | decide +kernel)
    (case ys_5_NoText => first | k_is | rfl | decide +kernel)
    (case yn_5_NoText => first | rfl | decide +kernel)
    (case yga6 => k_is)
    (case ygg6 => k_is)
    (case yhd6 => k_is)
    (case yha6 => k_is)
    (case yhm6 => k_is)
    (case ysd6 => first | k_is | rfl | decide +kernel)
    (case ys_6_NoLength => first | k_is | rfl | decide +kernel)
    (case yn_6_NoLength => first | rfl | decide +kernel)
    (case ys_6_NoWord => first | k_is | rfl | decide +kernel)
    (case yn_6_NoWord => first | rfl | decide +kernel)
    (case ys_6_Clash => first | k_is | rfl | decide +kernel)
    (case yn_6_Clash => first | rfl | decide +kernel)
    (case ys_6_NoLook => first | k_is | rfl | decide +kernel)
    (case yn_6_NoLook => first | rfl | decide +kernel)
    (case ys_6_NoRound => first | k_is | rfl | decide +kernel)
    (case yn_6_NoRound => first | rfl | decide +kernel)
    (case ys_6_NoUses => first | k_is | rfl | decide +kernel)
    (case yn_6_NoUses => first | rfl | decide +kernel)
    (case ys_6_NoRing => first | k_is | rfl | decide +kernel)
    (case yn_6_NoRing => first | rfl | decide +kernel)
    (case ys_6_NoSteps => first | k_is | rfl | decide +kernel)
    (case yn_6_NoSteps => first | rfl | decide +kernel)
    (case ys_6_NoBottom => first | k_is | rfl | decide +kernel)
    (case yn_6_NoBottom => first | rfl | decide +kernel)
    (case ys_6_NoText => first | k_is | rfl | decide +kernel)
    (case yn_6_NoText => first | rfl | decide +kernel)
    (case yga7 => k_is)
    (case ygg7 => k_is)
    (case yhd7 => k_is)
    (case yha7 => k_is)
    (case yhm7 => k_is)
    (case ysd7 => first | k_is | rfl | decide +kernel)
    (case ys_7_NoLength => first | k_is | rfl | decide +kernel)
    (case yn_7_NoLength => first | rfl | decide +kernel)
    (case ys_7_NoWord => first | k_is | rfl | decide +kernel)
    (case yn_7_NoWord => first | rfl | decide +kernel)
    (case ys_7_Clash => first | k_is | rfl | decide +kernel)
    (case yn_7_Clash => first | rfl | decide +kernel)
    (case ys_7_NoLook => first | k_is | rfl | decide +kernel)
    (case yn_7_NoLook => first | rfl | decide +kernel)
    (case ys_7_NoRound => first | k_is | rfl | decide +kernel)
    (case yn_7_NoRound => first | rfl | decide +kernel)
    (case ys_7_NoUses => first | k_is | rfl | decide +kernel)
    (case yn_7_NoUses => first | rfl | decide +kernel)
    (case ys_7_NoSide => first | k_is | rfl | decide +kernel)
    (case yn_7_NoSide => first | rfl | decide +kernel)
    (case ys_7_NoSteps => first | k_is | rfl | decide +kernel)
    (case yn_7_NoSteps => first | rfl | decide +kernel)
    (case ys_7_NoBottom => first | k_is | rfl | decide +kernel)
    (case yn_7_NoBottom => first | rfl | decide +kernel)
    (case ys_7_NoText => first | k_is | rfl | decide +kernel)
    (case yn_7_NoText => first | rfl | decide +kernel)
    (case yga8 => k_is)
    (case ygg8 => k_is)
    (case yhd8 => k_is)
    (case yha8 => k_is)
    (case yhm8 => k_is)
    (case ysd8 => first | k_is | rfl | decide +kernel)
    (case ys_8_NoLength => first | k_is | rfl | decide +kernel)
    (case yn_8_NoLength => first | rfl | decide +kernel)
    (case ys_8_NoWord => first | k_is | rfl | decide +kernel)
    (case yn_8_NoWord => first | rfl | decide +kernel)
    (case ys_8_Clash => first | k_is | rfl | decide +kernel)
    (case yn_8_Clash => first | rfl | decide +kernel)
    (case ys_8_NoLook => first | k_is | rfl | decide +kernel)
    (case yn_8_NoLook => first | rfl | decide +kernel)
    (case ys_8_NoRound => first | k_is | rfl | decide +kernel)
    (case yn_8_NoRound => first | rfl | decide +kernel)
    (case ys_8_NoUses => first | k_is | rfl | decide +kernel)
    (case yn_8_NoUses => first | rfl | decide +kernel)
    (case ys_8_NoSide => first | k_is | rfl | decide +kernel)
    (case yn_8_NoSide => first | rfl | decide +kernel)
    (case ys_8_NoRing => first | k_is | rfl | decide +kernel)
    (case yn_8_NoRing => first | rfl | decide +kernel)
    (case ys_8_NoBottom => first | k_is | rfl | decide +kernel)
    (case yn_8_NoBottom => first | rfl | decide +kernel)
    (case ys_8_NoText => first | k_is | rfl | decide +kernel)
    (case yn_8_NoText => first | rfl | decide +kernel)
    (case yga9 => k_is)
    (case ygg9 => k_is)
    (case yhd9 => k_is)
    (case yha9 => k_is)
    (case yhm9 => k_is)
    (case ysd9 => first | k_is | rfl | decide +kernel)
    (case ys_9_NoLength => first | k_is | rfl | decide +kernel)
    (case yn_9_NoLength => first | rfl | decide +kernel)
    (case ys_9_NoWord => first | k_is | rfl | decide +kernel)
    (case yn_9_NoWord => first | rfl | decide +kernel)
    (case ys_9_Clash => first | k_is | rfl | decide +kernel)
    (case yn_9_Clash => first | rfl | decide +kernel)
    (case ys_9_NoLook => first | k_is | rfl | decide +kernel)
    (case yn_9_NoLook => first | rfl | decide +kernel)
    (case ys_9_NoRound => first | k_is | rfl | decide +kernel)
    (case yn_9_NoRound => first | rfl | decide +kernel)
    (case ys_9_NoUses => first | k_is | rfl | decide +kernel)
    (case yn_9_NoUses => first | rfl | decide +kernel)
    (case ys_9_NoSide => first | k_is | rfl | decide +kernel)
    (case yn_9_NoSide => first | rfl | decide +kernel)
    (case ys_9_NoRing => first | k_is | rfl | decide +kernel)
    (case yn_9_NoRing => first | rfl | decide +kernel)
    (case ys_9_NoSteps => first | k_is | rfl | decide +kernel)
    (case yn_9_NoSteps => first | rfl | decide +kernel)
    (case ys_9_NoText => first | k_is | rfl | decide +kernel)
    (case yn_9_NoText => first | rfl | decide +kernel)
    (case yga10 => k_is)
    (case ygg10 => k_is)
    (case yhd10 => k_is)
    (case yha10 => k_is)
    (case yhm10 => k_is)
    (case ysd10 => first | k_is | rfl | decide +kernel)
    (case ys_10_NoLength => first | k_is | rfl | decide +kernel)
    (case yn_10_NoLength => first | rfl | decide +kernel)
    (case ys_10_NoWord => first | k_is | rfl | decide +kernel)
    (case yn_10_NoWord => first | rfl | decide +kernel)
    (case ys_10_Clash => first | k_is | rfl | decide +kernel)
    (case yn_10_Clash => first | rfl | decide +kernel)
    (case ys_10_NoLook => first | k_is | rfl | decide +kernel)
    (case yn_10_NoLook => first | rfl | decide +kernel)
    (case ys_10_NoRound => first | k_is | rfl | decide +kernel)
    (case yn_10_NoRound => first | rfl | decide +kernel)
    (case ys_10_NoUses => first | k_is | rfl | decide +kernel)
    (case yn_10_NoUses => first | rfl | decide +kernel)
    (case ys_10_NoSide => first | k_is | rfl | decide +kernel)
    (case yn_10_NoSide => first | rfl | decide +kernel)
    (case ys_10_NoRing => first | k_is | rfl | decide +kernel)
    (case yn_10_NoRing => first | rfl | decide +kernel)
    (case ys_10_NoSteps => first | k_is | rfl | decide +kernel)
    (case yn_10_NoSteps => first | rfl | decide +kernel)
    (case ys_10_NoBottom => first | k_is | rfl | decide +kernel)
    (case yn_10_NoBottom => first | rfl | decide +kernel)
