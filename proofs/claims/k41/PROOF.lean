import PyProof.Rows.All
import Wide.All
import OpenK.AllK
import Wide.FinOn
import HandS.ForMost
import HandS.Wide
import HandS.Deep
import HandS.IsInst
import HandS.Strs
import HandS.Codes
import HandS.Gcd
import KE.SortData
import KE.DataMinMax
import HandS.SetFor
import KE.KSuper
import KE.KExcSuper
import HandS.Base
import HandS.Call
import HandS.Exc
import HandS.ExcInit
import HandS.Words
import KE.RegKSuper
import HandS.OwnEq
import KE.KExcIs
import HandS.ExcField
import HandS.ExcValue
import HandS.ExcOwn
import HandS.TryOnly
import HandS.WordsExc
import PySem.Challenge.RW_darkpace_k41_whole_neighbours_are_next
set_option Elab.async false
set_option linter.all false
set_option maxRecDepth 100000
set_option exponentiation.threshold 3000
set_option maxHeartbeats 16000000
/-! Rules of our own: data under a growing heap, sorted and max and min of data, set of ints, a written dict's item, a method called with a keyword. -/
namespace DP
open PySem PySem.Spec PyProof.Rows L2

theorem rooms {A : Around} {k : Nat} (hr : Room k A) : A.units + 65 < cLine := by have := hr.un; omega

theorem Same.rd {H H' : Hp} {a : Addr} {u : HO} (S : Same H H') (h : Rd H a u) : Rd H' a u := by
  rcases h with h | ⟨o, h⟩
  · exact Or.inl (S _ _ h)
  · exact Or.inr ⟨o, S _ _ h⟩
theorem Same.sqT {K : PySem.W.Frag} {H H' : Hp} {a : Addr} {xs : List V} (S : Same H H') (h : SqT K H a xs) : SqT K H' a xs := by
  rcases h with h | h
  · exact Or.inl (Same.rd S h)
  · exact Or.inr h
theorem Same.sqL {K : PySem.W.Frag} {H H' : Hp} {a : Addr} {xs : List V} (S : Same H H') (h : SqL K H a xs) : SqL K H' a xs := by
  rcases h with h | h
  · exact Or.inl (Same.rd S h)
  · exact Or.inr h
mutual
theorem dp_mono {K : PySem.W.Frag} {H H' : Hp} (S : Same H H') : ∀ (d : PyData) (v : V), Dp K H v d → Dp K H' v d
  | .none, _, h => by cases h; exact .non
  | .bool b, _, h => by cases h; exact .bl _
  | .int b, _, h => by cases h; exact .int _
  | .str b, _, h => by cases h; exact .str _
  | .list ds, _, h => by
    cases h with
    | lst s a => exact .lst (Same.sqL S s) (dpAll_mono S ds _ a)
  | .tuple ds, _, h => by
    cases h with
    | tup s a => exact .tup (Same.sqT S s) (dpAll_mono S ds _ a)
  | .dict _, _, h => by cases h
theorem dpAll_mono {K : PySem.W.Frag} {H H' : Hp} (S : Same H H') : ∀ (ds : List PyData) (vs : List V), DpAll K H vs ds → DpAll K H' vs ds
  | [], _, h => by cases h; exact .nil
  | d :: ds, _, h => by
    cases h with
    | cons a b => exact .cons (dp_mono S d _ a) (dpAll_mono S ds _ b)
end
section
variable {K : PySem.W.Frag} {H : Hp}
theorem dpAll_len : ∀ {vs : List V} {ds : List PyData}, DpAll K H vs ds → vs.length = ds.length
  | _, _, .nil => rfl
  | _, _, .cons _ t => by rw [List.length_cons, List.length_cons, dpAll_len t]
theorem dpAll_get : ∀ {vs : List V} {ds : List PyData} {i : Nat} {v : V}, DpAll K H vs ds → vs[i]? = some v → ∃ d, ds[i]? = some d ∧ Dp K H v d
  | _, _, _, _, .nil, e => by simp at e
  | _, _, 0, _, .cons r _, e => by simp at e; subst e; exact ⟨_, rfl, r⟩
  | _, _, i + 1, v, .cons _ t, e => by
    obtain ⟨d, h1, h2⟩ := dpAll_get (i := i) (v := v) t (by simpa using e)
    exact ⟨d, by simpa using h1, h2⟩
theorem dpAll_get' : ∀ {vs : List V} {ds : List PyData} {i : Nat} {d : PyData}, DpAll K H vs ds → ds[i]? = some d → ∃ v, vs[i]? = some v ∧ Dp K H v d
  | _, _, _, _, .nil, e => by simp at e
  | _, _, 0, _, .cons r _, e => by simp at e; subst e; exact ⟨_, rfl, r⟩
  | _, _, i + 1, v, .cons _ t, e => by
    obtain ⟨d, h1, h2⟩ := dpAll_get' (i := i) (d := v) t (by simpa using e)
    exact ⟨d, by simpa using h1, h2⟩
theorem dpAll_snoc : ∀ {vs : List V} {ds : List PyData} {v : V} {d : PyData}, DpAll K H vs ds → Dp K H v d → DpAll K H (vs ++ [v]) (ds ++ [d])
  | _, _, _, _, .nil, r => .cons r .nil
  | _, _, _, _, .cons q t, r => .cons q (dpAll_snoc t r)
theorem dpAll_app : ∀ {vs ws : List V} {ds es : List PyData}, DpAll K H vs ds → DpAll K H ws es → DpAll K H (vs ++ ws) (ds ++ es)
  | _, _, _, _, .nil, r => r
  | _, _, _, _, .cons q t, r => .cons q (dpAll_app t r)
theorem dpAll_ints : ∀ ns : List Int, DpAll K H (ns.map V.int) (ns.map PyData.int)
  | [] => .nil
  | n :: ns => .cons (.int n) (dpAll_ints ns)
theorem dpAll_int : ∀ {vs : List V} {ns : List Int}, DpAll K H vs (ns.map PyData.int) → vs = ns.map V.int
  | _, [], h => by cases h; rfl
  | _, n :: ns, h => by
    have h' : DpAll K H _ (PyData.int n :: ns.map PyData.int) := h
    cases h' with
    | cons a b =>
      cases a
      rw [dpAll_int b]; rfl
theorem same_upd {H : Hp} {p : Addr} {o : HO} (h : H p = none) : Same H (upd H p o) := fun b u e => by rw [upd_ne (ne_of_none e h)]; exact e
end

section
variable {X : Cx}
/-- sorted(xs): xs a list of alike data, of any length; P is what is known of each -/
def rSortD (K : PySem.W.Frag) {β : Type} (enc : β → PyData) : List V → Hp → VK → Prop := fun vs H Q => ∃ (a : Addr) (xs : List V) (bs : List β), vs = [V.ref a] ∧ SqL K H a xs ∧ DpAll K H xs (bs.map enc) ∧
  PySem.W.AllAlike (bs.map enc) ∧ PySem.W.Sortable (bs.map enc) ∧ (∀ b ∈ bs, (enc b).depth ≤ 60) ∧
  ∀ (p : Addr) (ys : List V) H', H p = none → Same H H' → H' p = some (.lst ys) → DpAll K H' ys ((bs.mergeSort (PySem.W.dataLe false enc)).map enc) → Q (.ref p) H'
theorem each_vals {K : PySem.W.Frag} {H : Hp} {β : Type} {enc : β → PyData} : ∀ {xs : List V} {us : List Value} {bs : List β}, Vals xs us → DpAll K H xs (bs.map enc) → PySem.W.EachIs (fun u b => ∃ x, RelV x u ∧ Dp K H x (enc b)) us bs
  | _, _, [], r, d => by
    have d' : DpAll K H _ [] := d
    cases d'
    cases r
    exact .nil
  | _, _, b :: bs, r, d => by
    have d' : DpAll K H _ (enc b :: bs.map enc) := d
    cases d' with
    | cons d1 d2 =>
      cases r with
      | cons r1 r2 => exact .cons ⟨_, r1, d1⟩ (each_vals r2 d2)
theorem vals_each {K : PySem.W.Frag} {H : Hp} {β : Type} {enc : β → PyData} : ∀ {us : List Value} {bs : List β}, PySem.W.EachIs (fun u b => ∃ x, RelV x u ∧ Dp K H x (enc b)) us bs → ∃ xs, Vals xs us ∧ DpAll K H xs (bs.map enc)
  | _, _, .nil => ⟨[], .nil, .nil⟩
  | _, _, .cons ⟨x, r, d⟩ t => by
    obtain ⟨xs, h1, h2⟩ := vals_each t
    exact ⟨x :: xs, .cons r h1, .cons d h2⟩
theorem cr_sortD {β : Type} (enc : β → PyData) (hu : X.A.units + 65 < cLine) : CallR X (.builtin "sorted") (rSortD X.K enc) := by
  intro pins s σ H vs us Q I r h
  obtain ⟨a, xs, bs, rfl, hs, hd, hal, hk, hdep, q⟩ := h
  obtain ⟨its, rv, hl, hz⟩ := I.list hs
  rw [Vals.ref1 r]
  have hlen : its.length = bs.length := by rw [← rv.length, dpAll_len hd, List.length_map]
  have e := each_vals rv hd
  obtain ⟨as, ra⟩ := Dp.readsAll I _ _ _ hd rv
  refine PySem.W.sorted_data (enc := enc) (bs := bs) (vs := its) hl.isList e (PySem.W.readsAll_each enc ra) hal hk (by rw [← hlen, ← rv.length]; exact hz) (fun b hb => ?_) fun out ho eo => ?_
  · have := hdep b hb
    omega
  · obtain ⟨ys, h1, h2⟩ := vals_each eo
    obtain ⟨ep, he'⟩ := PyProof.Rows.sortedAll_at s.heap its (List.toArray out)
    have hn : H (s.heap.objs.size + 1) = none := I.hok.fresh (Nat.le_succ _)
    have hyl : ys.length ≤ sizeLine := by
      rw [h1.length, ho, ← hlen, ← rv.length]; exact hz
    refine ⟨.ref _, upd H (s.heap.objs.size + 1) (.lst ys), I.laid (t' := s.toks) (fun _ _ => PyProof.Rows.sortedAll_old) (Nat.le_succ _) ⟨hyl, out, ep, h1, he'⟩, rfl, q _ ys _ hn (same_upd hn) upd_same ?_⟩
    exact dpAll_mono (same_upd hn) _ _ h2

/-- max(xs), min(xs): xs a list of alike data -/
def rBestD (K : PySem.W.Frag) (best : PyData → List PyData → PyData) : List V → Hp → VK → Prop := fun vs H Q => ∃ (a : Addr) (xs : List V) (d : PyData) (ds : List PyData), vs = [V.ref a] ∧ SqL K H a xs ∧ DpAll K H xs (d :: ds) ∧
  PySem.W.AlikeAll (d :: ds) ∧ PyData.canLayAll0 (d :: ds) = true ∧ PyData.depthAll (d :: ds) ≤ 60 ∧
  ∀ (x : V), Dp K H x (best d ds) → Q x H
theorem best_end {pins : List (Addr × Obj)} {s : Shared} {σ : L2.St} {H : Hp} {Q : VK} (I : Inv X pins σ H s) {xs : List V} {its : List Value} {as : List Addr} {ds : List PyData} (rv : Vals xs its) (hd : DpAll X.K H xs ds) (ra : ReadsAll s.heap its ds as) (hc : PyData.canLayAll0 ds = true) {i : Nat} {v : Value} {h' : Heap} {tk : Nat} {bs : List Addr} {e : PyData} (hi : its.toArray[i]? = some v)
    (hr : Reads h' v e bs) (he : e.canLay0 = true) (hk : ∀ b o, s.heap.get? b = some o → h'.get? b = some o) (q : ∀ x, Dp X.K H x e → Q x H) : EP X pins σ Q v { heap := h', gens := s.gens, drawn := s.drawn, toks := tk, os := s.os } := by
  have hi' : its[i]? = some v := by simpa using hi
  have hlt : i < its.length := by
    rcases Nat.lt_or_ge i its.length with h | h
    · exact h
    · rw [List.getElem?_eq_none h] at hi'; cases hi'
  obtain ⟨x, hx⟩ : ∃ x, xs[i]? = some x := ⟨xs[i]'(by rw [rv.length]; exact hlt), List.getElem?_eq_getElem _⟩
  obtain ⟨u, hu, ru⟩ := rv.get hx
  have euv : u = v := Option.some.inj (hu.symm.trans hi')
  subst euv
  obtain ⟨d, hdi, hdx⟩ := dpAll_get hd hx
  obtain ⟨as', rx⟩ := Dp.reads I d x u hdx ru
  have rx' : Reads h' u d as' := PyProof.Rows.Reads.keeps hk rx
  have hcd : d.canLay0 = true := by
    have : ∀ (ds : List PyData) (i : Nat), PyData.canLayAll0 ds = true → ds[i]? = some d → d.canLay0 = true := by
      intro ds
      induction ds with
      | nil => intro i _ h; simp at h
      | cons a r ih =>
        intro i h1 h2
        rw [PyData.canLayAll0, Bool.and_eq_true] at h1
        cases i with
        | zero => simp at h2; rw [← h2]; exact h1.1
        | succ i => exact ih i h1.2 (by simpa using h2)
    exact this ds i hc hdi
  have e1 := SeqAt.readOf_eq hcd rx'
  have e2 := SeqAt.readOf_eq he hr
  have ed : d = e := e1.symm.trans e2
  subst ed
  exact ⟨x, H, I.kept hk, ru, q x hdx⟩
theorem canLay_fold (f : PyData → PyData → Bool) : ∀ (ds : List PyData) (d : PyData), PyData.canLayAll0 (d :: ds) = true → (ds.foldl (fun a y => if f a y then y else a) d).canLay0 = true
  | [], d, h => by
    rw [PyData.canLayAll0, Bool.and_eq_true] at h
    exact h.1
  | e :: ds, d, h => by
    rw [PyData.canLayAll0, PyData.canLayAll0, Bool.and_eq_true, Bool.and_eq_true] at h
    rw [List.foldl_cons]
    refine canLay_fold f ds _ ?_
    rw [PyData.canLayAll0, Bool.and_eq_true]
    refine ⟨?_, h.2.2⟩
    split
    · exact h.2.1
    · exact h.1
theorem cr_maxD (hc : X.calm = true) (hu : X.A.units + 65 < cLine) : CallR X (.builtin "max") (rBestD X.K PySem.W.maxD) := by
  intro pins s σ H vs us Q I r h
  obtain ⟨a, xs, d, ds, rfl, hs, hd, hal, hl0, hdep, q⟩ := h
  obtain ⟨its, rv, hl, hz⟩ := I.list hs
  rw [Vals.ref1 r]
  obtain ⟨as, ra⟩ := Dp.readsAll I _ _ _ hd rv
  exact PySem.W.max_list_data (I.ok.hd hc) hl.isList (by simpa using ra) hal (by omega) fun i v h' tk bs hi hr hk => best_end I rv hd ra hl0 hi hr (canLay_fold _ ds d hl0) hk q
theorem cr_minD (hc : X.calm = true) (hu : X.A.units + 65 < cLine) : CallR X (.builtin "min") (rBestD X.K PySem.W.minD) := by
  intro pins s σ H vs us Q I r h
  obtain ⟨a, xs, d, ds, rfl, hs, hd, hal, hl0, hdep, q⟩ := h
  obtain ⟨its, rv, hl, hz⟩ := I.list hs
  rw [Vals.ref1 r]
  obtain ⟨as, ra⟩ := Dp.readsAll I _ _ _ hd rv
  exact PySem.W.min_list_data (I.ok.hd hc) hl.isList (by simpa using ra) hal (by omega) fun i v h' tk bs hi hr hk => best_end I rv hd ra hl0 hi hr (canLay_fold (fun a y => PySem.W.dataLt y a) ds d hl0) hk q
end
end DP
/-! set(xs) of a list of whole numbers, sorted then. -/
namespace DP
open PySem PySem.Spec PyProof.Rows L2
/-- a fresh set -/
abbrev newSet (w : World) : Obj := { cls := .type "set", dict := none, data := .set #[] 0 (.fresh 0 0 (!w.params.followText "set-order")) }
theorem set_of_ints {P : Program} {w : World} {A : Around} {E : Value → Shared → Prop} {s : Shared} {l : Addr} {items : Array Value} (ns : List Int) {Q : Value → Shared → Prop} (hh : A.handled = none) (hl : s.heap.IsList l items) (hit : IntsAre items.toList ns) (hb : ns.length + 1 < scanBound)
    (h : ∀ (h' : Heap) (tk c : Nat), SetR w h' s.heap.objs.size (fun j => decide (j ∈ ns)) c → c ≤ ns.length → (∀ b o, s.heap.get? b = some o → h'.get? b = some o) → Q (.ref s.heap.objs.size) { s with heap := h', toks := tk }) :
    wpAny (model P w) A (call (.type "set") [.ref l]) Q E s := by
  have hisz : items.size = ns.length := (Array.length_toList (xs := items)).symm.trans (IntsAre.length hit)
  have C := F.called_set
  obtain ⟨c, tl, hmro⟩ := C.mro
  have hmade := C.made; have hsub := C.sub
  refine wpAny_call (codeAny_of_tree ?_)
  show wpAny _ _ (callAny (.type "set") _) _ _ _
  refine wpAny_pure ⟨Code.quiet_builtin _ (by decide +kernel), codeAny_builtin F.entry_type_call ?_⟩
  rw [Around.under_plain (weight_type_call_type "set" [.ref l] []) rfl]
  have h1 := C.notType; have h2 := C.canCreate
  have hct := F.typeCall_set_1 (.ref l)
  repeat (any_goals (first | assumption | wp_step))
  refine codeAny_mono (code_set_led1 (.ref l) (E := E) (Q₁ := fun obj s₁ => obj = .ref s.heap.objs.size ∧ s₁ = { s with heap := s.heap.push (newSet w) }) ⟨rfl, rfl⟩) fun r s₁ hr => ?_
  cases r with
  | error e => exact hr
  | ok fl =>
  cases fl with
  | ret obj =>
    obtain ⟨rfl, rfl⟩ := hr
    have hS : (s.heap.push (newSet w)).get? s.heap.objs.size = some (newSet w) := Heap.get?_push_size _ rfl
    have hT : Shared.TypeIs { s with heap := s.heap.push (newSet w) } (.ref s.heap.objs.size) "set" := ⟨_, hS, rfl⟩
    have hli := C.init.lookup; have hbi := C.init.bind (.ref s.heap.objs.size)
    repeat (any_goals (first | assumption | wp_step))
    refine codeAny_mono (codeAny_call_builtin (R := wants (fun r s₂ => r = .none ∧ ∃ h' tk c, s₂ = { s with heap := h', toks := tk } ∧ SetR w h' s.heap.objs.size (fun j => decide (j ∈ ns)) c ∧ c ≤ ns.length ∧ ∀ b o, s.heap.get? b = some o → h'.get? b = some o) E) C.init.plain F.entry_set_init (check_set_init_1 hT ?_)) fun r₂ s₂ hr₂ => ?_
    · obtain ⟨⟨ocls, odict, odata, oslots⟩, hol, hcl, nl, hdl⟩ := hl
      simp only at hcl hdl
      subst hcl hdl
      have hol' : (s.heap.push (newSet w)).get? l = some { cls := .type "list", dict := odict, data := .seq items nl, slots := oslots } := Heap.get?_push_of_some _ hol
      have hsls := F.sub_list_set; have hslf := F.sub_list_frozenset
      have hne : (Value.type "list" == Value.type "dict") = false := by decide
      have hl1 : (s.heap.push (newSet w)).IsList l items := ⟨_, hol', rfl, nl, rfl⟩
      unfold Builtin.«set.__init__» noKeywords Builtin.Frozenset.updateFrom
      generalize hPI : pyIter = PI
      wp_walk
      subst hPI
      refine wpAny_pyIter_list hl1 (wpAny_bind (wpAny_runValue ?_))
      have hlS : l < s.heap.objs.size := Heap.lt_size hol
      have hh3 : A.in1.in1.in1.handled = none := by simp [hh]
      have hz : (s.heap.push (newSet w)).objs.size = s.heap.objs.size + 1 := Heap.size_push ..
      have hneI : l ≠ (s.heap.push (newSet w)).objs.size := by rw [hz]; exact Nat.ne_of_lt (Nat.lt_succ_of_lt hlS)
      have hSf : s.heap.objs.size ∉ [(s.heap.push (newSet w)).objs.size, l] := by
        rw [hz]; simp only [List.mem_cons, List.not_mem_nil, or_false, not_or]; exact ⟨Nat.ne_of_lt (Nat.lt_succ_self _), Nat.ne_of_gt hlS⟩
      have hval : ∀ (i : Nat) (v : Value), items[i]? = some v → ∃ k t, ns[i]? = some k ∧ v = .int k t := fun i v hv => by
        have hi : i < ns.length := hisz ▸ (Array.getElem?_eq_some_iff.mp hv).1
        obtain ⟨t, e⟩ := PyProof.Rows.IntsAre.int_at hit i v (by rw [Array.getElem?_toList]; exact hv)
        exact ⟨ns[i], t, List.getElem?_eq_getElem hi, by rw [e, List.getD_eq_getElem?_getD, List.getElem?_eq_getElem hi]; rfl⟩
      refine set_update_ints ((Walks.list hh3 _ l hneI items).toS) s.heap.objs.size hSf ns hisz hb hval (items.size - 0) 0 _ (by omega) (Nat.zero_le _) ⟨⟨_, Heap.get?_push_size _ rfl, rfl, rfl⟩, (hl1.push _)⟩ ?z0 ?zR
      case z0 => exact ⟨0, Nat.le_refl 0, setR_new_at (Heap.get?_push_of_some _ hS)⟩
      case zR =>
        intro s' c' hm hc' hS'
        obtain ⟨h', g2, d', tk', os'⟩ := s'
        have eg : g2 = s.gens := hm.gens
        have ed : d' = s.drawn := hm.drawn
        have eo : os' = s.os := hm.os
        subst eg ed eo
        rw [hisz] at hc'
        refine wpAny_pure (?_ : wpAny _ _ (ret Value.none) _ _ _)
        refine wpAny_pure ⟨rfl, h', tk', c', rfl, hS', hc', fun b o e => ?_⟩
        have hb0 : b < s.heap.objs.size := Heap.lt_size e
        refine hm.heap b o ?_ (Heap.get?_push_of_some _ (Heap.get?_push_of_some _ e))
        simp only [List.mem_cons, List.not_mem_nil, or_false, not_or]
        exact ⟨Nat.ne_of_lt hb0, by rw [hz]; exact Nat.ne_of_lt (Nat.lt_succ_of_lt hb0)⟩
    · cases r₂ with
      | error e => exact hr₂
      | ok fl₂ =>
      cases fl₂ with
      | ret r =>
        obtain ⟨rfl, h', tk, c', rfl, hS', hc', hk'⟩ := hr₂
        repeat (any_goals (first | assumption | wp_step))
        exact h _ _ _ hS' hc' hk'
      | _ => exact hr₂.elim
  | _ => exact hr.elim
section
variable {X : Cx}
/-- set(xs), xs a list of whole numbers -/
def rSetI (K : PySem.W.Frag) (w : World) : List V → Hp → VK → Prop := fun vs H Q => ∃ (l : Addr) (ns : List Int), vs = [V.ref l] ∧ SqL K H l (ns.map V.int) ∧ ns.length ≤ 60 ∧
  ∀ (a : Addr) (c : Nat), c ≤ ns.length → H a = none → Q (.ref a) (upd H a (SetO w a (fun j => decide (j ∈ ns)) c))
theorem cr_setI (hc : X.calm = true) : CallR X (.type "set") (rSetI X.K X.w) := by
  intro pins s σ H vs us Q I r h
  obtain ⟨l, ns, rfl, hs, hlen, q⟩ := h
  obtain ⟨its, rv, pl, hz⟩ := I.list hs
  rw [Vals.ref1 r]
  have hi : IntsAre its.toArray.toList ns := by simpa using rv.ints
  refine set_of_ints ns (I.ok.hd hc) pl.isList hi (by unfold scanBound; omega) fun h' tk c R hcl hk => ?_
  exact ⟨.ref _, upd H s.heap.objs.size (SetO X.w s.heap.objs.size (fun j => decide (j ∈ ns)) c), I.laid (t' := tk) hk (Nat.le_refl _) (setO_new R), rfl, q _ c hcl (I.hok.fresh (Nat.le_refl _))⟩
/-- d[k], d a written dict -/
theorem ix_kd {d : Addr} {es : Array DictEntry} {n : Nat} (D : KDict X.K X.w d es n) : IxR X (fun x y H Q => ∃ (z : Str) (u0 : Value) (v0 : V), x = .ref d ∧ y = .str z ∧ PySem.W.nsIn X.K d z = some (some u0) ∧ RelV v0 u0 ∧ Q v0 H) := by
  intro value slice pins s σ H x y v u Q I rx ry h hs
  obtain ⟨z, u0, v0, ex, ey, e, r, q⟩ := h
  subst ex ey
  cases rx
  obtain ⟨t, rfl⟩ := ry
  have fin : EP X pins σ Q u0 s := ⟨v0, H, I, r, q⟩
  exact subscriptTail_builtinR (x := u0) (kd_type D I) PySem.F.slot_dict_getitem.lookup
    (wpAny_getItem_of (PySem.strKind_is X.prog X.w z t) (PySem.W.mapOf_K (prog := X.prog) I.kIn D.at_ D.lit) (PySem.W.find_K D.at_ e) ⟨rfl, ⟨v0, H, I.tok _, r, q⟩⟩) hs
end
end DP
/-! The rules with the written part named, for comprehensions; a method called with keywords. -/
namespace DP
open PySem PySem.Spec PyProof.Rows L2
section
variable {X : Cx} {K : PySem.W.Frag}
theorem ixT (h : X.K = K := by rfl) : IxR X (rIxT K) := by subst h; exact ix_tup
theorem ixL (h : X.K = K := by rfl) : IxR X (rIxL K) := by subst h; exact ix_list
theorem inS (h : X.K = K := by rfl) : OpR X (compareOp .In) (rIn K false) := by subst h; exact op_in_seq
theorem notInS (h : X.K = K := by rfl) : OpR X (compareOp .NotIn) (rIn K true) := by subst h; exact op_notIn_seq
theorem eqDK (hu : X.A.units + 64 < cLine) (h : X.K = K := by rfl) : OpR X (compareOp .Eq) (rEqD K) := by subst h; exact op_eqD hu
theorem neDK (hu : X.A.units + 64 < cLine) (h : X.K = K := by rfl) : OpR X (compareOp .NotEq) (rNeD K) := by subst h; exact op_neD hu
theorem inDK (hu : X.A.units + 65 < cLine) (h : X.K = K := by rfl) : OpR X (compareOp .In) (rInD K) := by subst h; exact op_inD hu
theorem notInDK (hu : X.A.units + 65 < cLine) (h : X.K = K := by rfl) : OpR X (compareOp .NotIn) (rNotInD K) := by subst h; exact op_notInD hu
def rLenK (K : PySem.W.Frag) : List V → Hp → VK → Prop := fun xs H Q => ∃ p ys, xs = [V.ref p] ∧ (SqL K H p ys ∨ SqT K H p ys) ∧ Q (.int ys.length) H
theorem lenK (h : X.K = K := by rfl) : CallR X (.builtin "len") (rLenK K) := by subst h; exact call_len_seq
def rListK (K : PySem.W.Frag) : List V → Hp → VK → Prop := fun xs H Q => ∃ p ys, xs = [V.ref p] ∧ (SqL K H p ys ∨ SqT K H p ys) ∧ ∀ l, H l = none → Q (.ref l) (upd H l (.lst ys))
theorem listK (h : X.K = K := by rfl) : CallR X (.type "list") (rListK K) := by subst h; exact call_list_of
theorem maxK (hc : X.calm = true) (h : X.K = K := by rfl) : CallR X (.builtin "max") (rMax K) := by subst h; exact cr_max hc
theorem minK (hc : X.calm = true) (h : X.K = K := by rfl) : CallR X (.builtin "min") (rMin K) := by subst h; exact cr_min hc
theorem maxDK (hc : X.calm = true) (hu : X.A.units + 65 < cLine) (h : X.K = K := by rfl) : CallR X (.builtin "max") (rBestD K PySem.W.maxD) := by subst h; exact cr_maxD hc hu
theorem minDK (hc : X.calm = true) (hu : X.A.units + 65 < cLine) (h : X.K = K := by rfl) : CallR X (.builtin "min") (rBestD K PySem.W.minD) := by subst h; exact cr_minD hc hu
theorem sortK (h : X.K = K := by rfl) : CallR X (.builtin "sorted") (rSorted K) := by subst h; exact cr_sorted
theorem sortDK {β : Type} (enc : β → PyData) (hu : X.A.units + 65 < cLine) (h : X.K = K := by rfl) : CallR X (.builtin "sorted") (rSortD K enc) := by subst h; exact cr_sortD enc hu
theorem setIK {w : World} (hc : X.calm = true) (h : X.K = K := by rfl) (hw : X.w = w := by rfl) : CallR X (.type "set") (rSetI K w) := by subst h hw; exact cr_setI hc
theorem sortedSetK {w : World} (hc : X.calm = true) (hw : X.w = w := by rfl) : CallR X (.builtin "sorted") (rSortedSet w) := by subst hw; exact cr_sortedSet hc
theorem slL (h : X.K = K := by rfl) : SlR X (rSlL K) := by subst h; exact sl_list
theorem isiK (h : X.K = K := by rfl) : CallR X (.builtin "isinstance") (rIsi K) := by subst h; exact call_isi
theorem fldK {o : Expr} {ta : TE} {f : Str} {pos : Pos} (he : PE X o ta) (hb : attributeBase o f X.env (eval o X.env) = eval o X.env := by rfl) (h : X.K = K := by rfl) : PE X (.Attribute o f pos) (tFld K ta f) := by subst h; exact pe_fld he hb
theorem tupK {es : List Expr} {k : Nat} {t : TGs} {n : Nat} {pos : Pos} (hc : X.calm = true) (h1 : PGs X es t) (hn : (assignEach es X.env).length = n := by rfl) (hst : (assignEach es X.env).findIdx? (·.1) = none := by rfl) (h : X.K = K := by rfl) :
    PG X (.Tuple es k pos) (gTup K n t) := by subst h; exact pg_tup hc h1 hn hst
end
section
variable {X : Cx} {CX : CXT} {k : Nat} {f C : Addr} {fd : FuncData} {ps ks : List Str} {sp : Sp} {E : XK} {m : Str} {pos apos : Pos} {o : Expr} {kws : List Keyword} {ta : TE} {tk : TA} {g : List Value → List Value → List Value} {gV : List V → List V → List V}
/-- o.m(k = v, ..) -/
def tMethK (C : Addr) (m : Str) (sp : Sp) (gV : List V → List V → List V) (E : XK) (ta : TE) (tk : TA) : TE := fun σ H Q => ta σ H fun x H1 => ∃ a dx fs, x = .ref a ∧ H1 a = some (.ins C dx fs) ∧ fs.lookup m = none ∧ tk σ H1 fun zs H2 => sp (gV [.ref a] zs) H2 Q E
theorem pe_methK0 {pl : Sem Bool} (he : PE X o ta) (c : Cls X.K C) (hm : Meth X.K C m f) (F : FnOk X.prog X.w X.K X.mg X.base CX k f fd ps sp) (hr : Room k X.A) (hb : KBinds X.K fd ps ks g gV) (hx : Passes CX X E) (hkw : PK X kws tk)
    (hall : (backToKw pos (keywordEach kws X.env)).all (·.1.isSome) = true := by rfl) (hks : (backToKw pos (keywordEach kws X.env)).filterMap (·.1) = ks := by rfl)
    (hpl : ((backTo pos (starEach [] X.env)).any (·.1) || (backToKw pos (keywordEach kws X.env)).any (·.1.isNone)) = false := by rfl)
    (ht : eval (.Call (.Attribute o m apos) [] kws pos) X.env = (do
      let ov ← eval o X.env
      standAt apos.atName
      let (f, first) ← holding [ov] (getMethod ov m pl)
      callWith pos f first (backTo pos (starEach [] X.env)) (backToKw pos (keywordEach kws X.env))) := by rfl) :
    PE X (.Call (.Attribute o m apos) [] kws pos) (tMethK C m sp gV E ta tk) := by
  refine ⟨fun pins s σ H Q I h => ?_⟩
  refine PySem.W.methodCall_KW (pl := pl) (thn (he.run pins s σ H _ I h) fun u s1 ⟨x, H1, I1, rx, a, dx, fs, ex, ea, l, q⟩ => ?_) ht
  subst ex
  obtain rfl : u = Value.ref a := rx
  refine getmeth_ok I1 ea c hm l ?_
  refine PySem.W.callWith_KW0 (first := [.ref a]) (h₀ := X.base) I.ok.mod.kin hm.kp hall ?_ hpl
  refine thn (hkw.run pos pins s1 σ H1 _ I1 q) fun ws s2 ⟨zs, H2, I2, rz, q2⟩ => ⟨I2.kIn, ?_⟩
  rw [hks]
  exact run_fnk (us := [.ref a]) (vs := [.ref a]) F hr hb hx I2 (.cons rfl .nil) rz q2
end
/-- one positional value, one keyword -/
def g11 {α : Type} : List α → List α → List α
  | [a], [b] => [a, b]
  | _, _ => []
theorem g11_rel {vs : List V} {us : List Value} {zs : List V} {ws : List Value} (r : Vals vs us) (q : Vals zs ws) : Vals (g11 vs zs) (g11 us ws) := by
  cases r with
  | nil => exact .nil
  | cons a t =>
    cases t with
    | cons _ _ => exact .nil
    | nil =>
      cases q with
      | nil => exact .nil
      | cons b t =>
        cases t with
        | cons _ _ => exact .nil
        | nil => exact .cons a (.cons b .nil)
end DP
/-! An own error class over ValueError whose __init__ says super().__init__(a text), then self.what = what: what a call of it leaves. -/
namespace ERR
open PySem PySem.W PySem.Calls PyProof.Rows PySem.HandSPX
def eA (p1 p2 : Pos) : Arguments := { posonlyargs := [], args := [{ arg := "self", annotation := none, pos := p1 }, { arg := "what", annotation := none, pos := p2 }], vararg := none, kwonlyargs := [], kw_defaults := [], kwarg := none, defaults := [] }
def eB (txt : Str) (p : Nat → Pos) : List Stmt := [.Expr (.Call (.Attribute (.Call (.Name "super" (p 0)) [] [] (p 1)) "__init__" (p 2)) [.Constant (.str txt) 0 (p 3)] [] (p 4)) (p 5), .Assign [.Attribute (.Name "self" (p 6)) "what" (p 7)] (.Name "what" (p 8)) (p 9)]
def eS : Scope := { kind := .function, names := [("self", .local), ("what", .local), ("__class__", .free), ("super", .globalImplicit)], isGenerator := false, isCoroutine := false, more := [] }
structure ErrT (P : Program) (K : Frag) (C fI : Addr) : Prop where
  cls : ∃ nm q N bs bm sn sub ab col dd k0 k1 k2 k3 k5, K.lookup C = some (excClassObj nm q C N bs bm true sn sub ab col dd k0 k1 k2 k3 k5 "ValueError.__new__") ∧ refsVE bm = true
  sa : findIn K (.ref C) "__setattr__" = some (some (.builtin "object.__setattr__"))
  noW : findIn K (.ref C) "what" = some none
  subV : subIn K (.ref C) (.type "ValueError") = some true
  sup : ks_superIn K C C "__init__" = some (some (.builtin "ValueError.__init__"))
  opq : nsIn K cStatics "thirdparty.any" = some none
  me : mroIn K C (.ref C) = some true
  init : findIn K (.ref C) "__init__" = some (some (.ref fI))
  tyI : typeIn K (.ref fI) = some (.type "function")
  kC : keepIn K (.ref C) = true
  exC : subIn K (.ref C) (.type "BaseException") = some true
  tyC : typeIn K (.ref C) = some (.type "type")
  top : (P.main.scope.names.lookup ("super" : Str)).isSome = false
  fn : ∃ (oc : Value) (od an : Option Addr) (doc pm ct : Value) (osl : Array (Option Value)) (qual txt : Str) (cc cda : Addr) (p1 p2 : Pos) (p : Nat → Pos) (cl ccl : Value) (cld cdd : Option Addr) (csl ccs : Array (Option Value)) (vs : Array Value) (file : Str) (tf : Tok),
    K.lookup fI = some ⟨oc, od, .func (ksFn "__init__" qual (eA p1 p2) (eB txt p) eS .none .none doc pm an (.ref cda) ct cc), osl⟩ ∧ codeIn K (.ref cda) qual = true ∧
    (∀ env : Env, ∃ pl : Sem Bool, eval (.Call (.Attribute (.Call (.Name "super" (p 0)) [] [] (p 1)) "__init__" (p 2)) [.Constant (.str txt) 0 (p 3)] [] (p 4)) env = (do
      let ov ← attributeBase (.Call (.Name "super" (p 0)) [] [] (p 1)) "__init__" env (eval (.Call (.Name "super" (p 0)) [] [] (p 1)) env)
      standAt (p 2).atName
      let (f, first) ← holding [ov] (getMethod ov "__init__" pl)
      callWith (p 4) f first (backTo (p 4) (starEach [.Constant (.str txt) 0 (p 3)] env)) [])) ∧
    K.lookup cc = some ⟨cl, cld, .cell (some (.ref C)), csl⟩ ∧ K.lookup cda = some ⟨ccl, cdd, .fields vs, ccs⟩ ∧ vs[2]? = some (.str file tf) ∧ ((P.main.file : Str) == file) = true
/-- what __init__ leaves of a fresh exception at x -/
structure Left (h h' : Heap) (x C dx t1 : Addr) (v : Value) : Prop where
  keep : ∀ b o, b ≠ x → h.get? b = some o → h'.get? b = some o
  obj : h'.get? x = some { cls := .ref C, dict := some dx, data := .fields #[.ref t1, .none, .none, .none, .bool false, .none] }
  dbig : h.objs.size ≤ dx
  dne : dx ≠ x
  ns : h'.Ns1 dx (fun y => if y = "what" then some v else none)
section
variable {P : Program} {w : World} {A : Around} {E : Value → Shared → Prop} {R : Result → Shared → Prop} {s : Shared} {K : Frag} {mg mb : Str → Option Value} {C fI : Addr}
theorem mw_call {h : Heap} {g : Array GenState} {d : Drawn} {tk : Nat} {os : OsState} {u x t0 : Addr} {rest : List Value} {nm q : Str} {N : Addr} {bs bm : List Value} {sn : List Str} {sub : List Value} {ab : Bool} {col : Option Bool} {dd : Option Addr} {k0 k1 k2 k3 k5 : Option Value} {Q : Value → Shared → Prop}
    (hu : h.get? u = some (kxs_mw "ValueError.__init__" x)) (hx : h.get? x = some (excO C t0)) (hC : h.get? C = some (excClassObj nm q C N bs bm true sn sub ab col dd k0 k1 k2 k3 k5 "ValueError.__new__")) (hz : rest.length ≤ sizeLine)
    (fin : ∀ h', (∀ b o, b ≠ x → h.get? b = some o → h'.get? b = some o) → h'.get? x = some (excO C h.objs.size) → Q .none ⟨h', g, d, tk, os⟩) :
    wpAny (model P w) A (call (.ref u) rest) Q E ⟨h, g, d, tk, os⟩ := by
  have e1 : (Value.type "method-wrapper" == Value.type "method" || Value.type "method-wrapper" == Value.type "builtin_function_or_method" || Value.type "method-wrapper" == Value.type "method-wrapper") = true := by decide
  refine wpAny_call (codeAny_of_tree (show wpAny _ A.in1 (callAny (.ref u) ⟨rest, []⟩) _ _ _ from ?_))
  unfold callAny
  refine wpAny_bind (wpAny_load hu ?_)
  simp only [kxs_mw, e1, if_true]
  refine KFB.if_so (by decide) (wpAny_bind (check_bound_init F.excBase_ValueError.toExcCallFacts hC hx rfl ?_))
  refine wpAny_bind (wpAny_pure (wpAny_pure ⟨plainId_quiet F.excBase_ValueError.init.plain _, codeAny_builtin F.excBase_ValueError.initEntry ?_⟩))
  exact exc_init_tree (cls := .ref C) (t0 := t0) (dv := none) (c2 := .none) (c3 := .none) (b4 := .bool false) hx hz fun h' a1 a2 _ => fin h' a1 a2
theorem err_init (T : ErrT P K C fI) {x t0 : Addr} {v : Value} (X : K.In s.heap) (hlim : s.heap.NoLimit) (G : s.heap.Ns mainGlobals mg) (B : s.heap.Ns builtinsNs mb) (g0 : mg "super" = none) (b0 : mb "super" = some (.type "super"))
    (hx : s.heap.get? x = some (excO C t0)) (hnx : K.lookup x = none) (hroom : A.depth < recursionLimit)
    (hq : ∀ h' tk dx t1, Left s.heap h' x C dx t1 v → R (.ok (.ret .none)) { s with heap := h', toks := tk }) :
    codeAny (model P w) A (.call (.ref fI) ⟨[.ref x, v], []⟩) R s := by
  obtain ⟨oc, od, an, doc, pm, ct, osl, qual, txt, cc, cda, p1, p2, p, cl, ccl, cld, cdd, csl, ccs, vs, file, tf, ho, hcd, hev, hcell, hcode, hvs, hfile⟩ := T.fn
  obtain ⟨nm, q, N, bs, bm, sn, sub, ab, col, dd, k0, k1, k2, k3, k5, hC, hbm⟩ := T.cls
  refine ks_codeAny_call_defAt (fd := ksFn "__init__" qual (eA p1 p2) (eB txt p) eS .none .none doc pm an (.ref cda) ct cc) (body := eB txt p) (binds := [("self", .ref x), ("what", v)]) hroom (X _ _ ho) rfl hlim (codeRec_of X hcd) rfl (BindsTo.of_eq rfl) (show ∀ x ∈ eS.names, x.2 ≠ .cell by decide +kernel) (fun y hy => ?_) (fun h₁ hns k => ?_) rfl rfl rfl
  · simp only [List.mem_cons, List.mem_nil_iff, or_false] at hy
    rcases hy with rfl | rfl <;> rfl
  have X1 : K.In h₁ := X.keeps k
  have hx1 := k _ _ hx
  have hD1 := X1 _ _ hC
  have hxC : x ≠ C := fun e => by rw [e, hC] at hnx; cases hnx
  have hcl : clsIn K C = some { name := nm, bases := bs, mro := .ref C :: bm, ns := N, qualname := q, hasDict := true, slotNames := sn, subclasses := sub, abstract := ab, collection := col, hasDel := false } := by unfold clsIn; rw [hC] <;> rfl
  have I1 : InstAt h₁ x (excO C t0) C none := ⟨hx1, rfl, rfl, trivial⟩
  -- super().__init__(text)
  obtain ⟨pl, hev⟩ := hev (ksEnv qual eS s.heap.objs.size fI (.ref cda) cc)
  refine ks_wpAt_execs_cons (ks_wpAt_Expr_any (ks_wpAt_MethodCall (pl := pl) ?_ hev))
  refine ks_wpAt_super_base (env := ksEnv qual eS s.heap.objs.size fI (.ref cda) cc) rfl rfl rfl rfl (X1 _ _ ho) rfl rfl rfl (X1 _ _ hcode) rfl hvs hfile T.top ?_
  refine ks_loadName_global rfl rfl (loadGlobal_builtin (env := ksEnv qual eS s.heap.objs.size fI (.ref cda) cc) (G.keeps k) g0 (B.keeps k) b0 ⟨rfl, ?_⟩)
  refine wpAny_loadName_free rfl rfl rfl ⟨_, X1 _ _ hcell, rfl⟩ ?_
  refine wpAny_loadName_local (v := .ref x) rfl rfl hns rfl ?_
  refine ks_wpAny_isType_cls hD1 rfl ⟨rfl, ?_⟩
  refine ks_wpAny_call_super hD1 rfl hx1 rfl (fun c e => by cases e) (looks_mroIn X1 T.me) (fun h2 hso k2 => ?_)
  have X2 : K.In h2 := X1.keeps k2
  have I2 : InstAt h2 x (excO C t0) C none := ⟨k2 _ _ hx1, rfl, rfl, trivial⟩
  have hal : alongIn K "__init__" (((Value.ref C :: bm).dropWhile (· != .ref C)).drop 1) = some (some (.builtin "ValueError.__init__")) := by
    have h := T.sup
    unfold ks_superIn at h
    rw [hcl] at h
    exact h
  have hmr : ∀ {M : Model}, Looks M h2 (mroOf (.ref C)) (.ref C :: bm) := fun A Q E s k q => wpAny_bind ((looks_clsIn X2 hcl) A _ E s k (wpAny_pure q))
  refine kxs_getMethod kxs_ValueError hso (looks_opaque X2 T.opq) hmr rfl X2 hal (I2.type.andThen (looks_subIn X2 T.subV)) hxC (by decide) ?_
  refine kxs_callWith (i := "ValueError.__init__") (x := x) rfl (evalArgs_plain ?_)
  refine Calls.spliced_cons (Constant_str (k := 0) (pos := p 3) (Calls.spliced_nil ⟨?_, ?_⟩))
  · exact Heap.get?_push_size h2 rfl
  have kp : ∀ b o, h2.get? b = some o → (h2.push (kxs_mw "ValueError.__init__" x)).get? b = some o := fun b o e => Heap.get?_push_of_some _ e
  refine mw_call (Heap.get?_push_size h2 rfl) (kp _ _ (k2 _ _ hx1)) (kp _ _ (k2 _ _ hD1)) (by rw [sizeLine_eq]; exact (by decide : 1 ≤ 16777216)) fun h3 k3' hx3 => ?_
  have k3 : ∀ b o, b ≠ x → h₁.get? b = some o → h3.get? b = some o := fun b o hb e => k3' b o hb (kp _ _ (k2 _ _ e))
  have X3 : K.In h3 := fun a o e => k3 a o (fun z => by rw [z, hnx] at e; cases e) (X1 a o e)
  -- self.what = what
  have hxL : s.heap.objs.size ≠ x := Nat.ne_of_gt (Heap.lt_size hx)
  have hns3 : h3.Ns s.heap.objs.size (fun y => ([("self", Value.ref x), ("what", v)] : List (Str × Value)).reverse.lookup y) := by
    obtain ⟨oL, es, ep, hL, r⟩ := hns
    exact ⟨oL, es, ep, k3 _ _ hxL hL, r⟩
  have I3 : InstAt h3 x (excO C (h2.push (kxs_mw "ValueError.__init__" x)).objs.size) C none := ⟨hx3, rfl, rfl, trivial⟩
  refine ks_wpAt_execs_cons (wpAt_of_wpAny (plainObj_wpAny_Assign_Attribute ?_))
  refine wpAny_Name (wpAny_loadName_local (v := v) rfl rfl hns3 rfl ?_) (by decide)
  refine wpAny_Name (wpAny_loadName_local (v := .ref x) rfl rfl hns3 rfl ?_) (by decide)
  refine set_plain X3 I3 T.sa ?_
  refine exc_osa X3 hx3 hcl (show refsVE (.ref C :: bm) = true from hbm) rfl T.noW (fun h4 tk4 dx k4 dn dne hx4 hn4 => ?_)
  have sz : s.heap.objs.size ≤ h3.objs.size := Nat.le_of_lt hns3.lt
  refine wpAt_of_wpAny (wpAny_execs_nil (hq h4 tk4 dx _ ⟨fun b o hb e => k4 b o hb (k3 b o hb (k b o e)), hx4, Nat.le_trans sz dn, dne, hn4⟩))
end
end ERR
namespace ERR
open PySem PySem.W PySem.Calls PyProof.Rows PySem.HandSPX
/-- a made error -/
structure Made (h h' : Heap) (e C d : Addr) (v : Value) : Prop where
  keep : ∀ b o, h.get? b = some o → h'.get? b = some o
  new : h.objs.size ≤ e
  obj : ∃ t1 : Addr, h'.get? e = some { cls := .ref C, dict := some d, data := .fields #[.ref t1, .none, .none, .none, .bool false, .none] }
  dbig : h.objs.size ≤ d
  dne : d ≠ e
  ns : h'.Ns1 d (fun y => if y = "what" then some v else none)
section
variable {P : Program} {w : World} {A : Around} {R : Result → Shared → Prop} {s : Shared} {K : Frag} {mg mb : Str → Option Value} {C fI : Addr}
theorem err_made (T : ErrT P K C fI) {v : Value} (X : K.In s.heap) (hlim : s.heap.NoLimit) (G : s.heap.Ns mainGlobals mg) (B : s.heap.Ns builtinsNs mb) (g0 : mg "super" = none) (b0 : mb "super" = some (.type "super")) (hroom : A.depth + 1 < recursionLimit)
    (hq : ∀ h' tk e d, Made s.heap h' e C d v → R (.ok (.ret (.ref e))) { s with heap := h', toks := tk }) :
    codeAny (model P w) A (.call (.ref C) ⟨[v], []⟩) R s := by
  obtain ⟨nm, q, N, bs, bm, sn, sub, ab, col, dd, k0, k1, k2, k3, k5, hC, hbm⟩ := T.cls
  obtain ⟨hp, gs, dr, tk, os⟩ := s
  have up : ∀ b o, hp.get? b = some o → ((hp.push (kdv_tup [v])).push (excO C hp.objs.size)).get? b = some o := fun b o e => Heap.get?_push_of_some _ (Heap.get?_push_of_some _ e)
  have new : ((hp.push (kdv_tup [v])).push (excO C hp.objs.size)).get? (hp.objs.size + 1) = some (excO C hp.objs.size) := by heap_get
  have out : K.lookup (hp.objs.size + 1) = none := by
    cases e : K.lookup (hp.objs.size + 1) with
    | none => rfl
    | some o =>
      have hlt := Heap.lt_size (X _ _ e)
      have hlt' : hp.objs.size + 1 < hp.objs.size := hlt
      omega
  have one : [v].length ≤ sizeLine := by rw [sizeLine_eq]; exact (by decide : 1 ≤ 16777216)
  refine call_own F.excBase_ValueError (fun Y => refsVE_contains Y bm hbm) (X _ _ hC) (looks_findIn X T.init) (fun self => bind_fn X self T.tyI) one ?_
  refine err_init (s := ⟨(hp.push (kdv_tup [v])).push (excO C hp.objs.size), gs, dr, tk, os⟩) T (X.keeps up) (hlim.keeps up) (G.keeps up) (B.keeps up) g0 b0 new out hroom fun h' tk' dx t1 L => ?_
  have z : hp.objs.size + 1 + 1 ≤ dx := by
    have q := L.dbig
    first
      | exact q
      | simpa only [Heap.size_push] using q
  refine ⟨rfl, hq h' tk' (hp.objs.size + 1) dx ⟨fun b o e => L.keep b o (fun eb => ?_) (up b o e), Nat.le_succ _, ⟨t1, L.obj⟩, Nat.le_trans (Nat.le_add_right _ 2) z, L.dne, L.ns⟩⟩
  subst eb
  have hlt : hp.objs.size + 1 < hp.objs.size := Heap.lt_size e
  omega
end
end ERR
namespace L2
open PySem PySem.Spec PyProof.Rows
theorem relO_what {v : V} {u : Value} (r : RelV v u) (f : Str) : RelO (List.lookup f [(("what" : Str), v)]) (if f = "what" then some u else none) := by
  by_cases hw : f = "what"
  · rw [hw, if_pos rfl, show List.lookup ("what" : Str) [(("what" : Str), v)] = some v by simp [List.lookup]]
    exact r
  · have hb : (f == ("what" : Str)) = false := by simpa using hw
    rw [if_neg hw, show List.lookup f [(("what" : Str), v)] = none by simp [List.lookup, hb]]
    trivial
section
variable {X : Cx} {C fI : Addr}
/-- C(e): an error whose own dict is new and holds what -/
def tMkErr (C : Addr) (ta : TA) : St → Hp → XK → Prop := fun σ H Q => ta σ H fun vs H1 => ∃ v, vs = [v] ∧ ∀ d, H1 d = none → Q (.ref C) (some d) (upd H1 d (.xd [(("what" : Str), v)]))
theorem pmk_err {nm : Str} {a : Expr} {ta : TA} {p pos : Pos} {k : Nat} (T : ERR.ErrT X.prog X.K C fI) (hm : X.mg nm = some (.ref C)) (g0 : X.mg "super" = none) (hr : Room k X.A) (ha : PA X [a] ta) (hg : Gl X nm := by rfl) (hdb : (nm == ("__debug__" : Str)) = false := by decide)
    (he : starEach (a :: []) X.env = (false, eval a X.env) :: starEach [] X.env := by rfl) (hpl : (backTo pos (starEach [] X.env)).any (·.1) = false := by rfl) :
    PMk X (.Call (.Name nm p) [a] [] pos) (tMkErr C ta) := by
  intro pins s σ H Q I h
  refine wpAny_Call_Name_kw (ld_glob I hg hm ?_ hdb)
  refine PySem.W.callWith_K (h₀ := X.base) I.ok.mod.kin T.kC (thn (ha.run pos pins s σ H _ I h) fun us s1 ⟨vs, H1, I1, r1, v, ev, q1⟩ => ⟨I1.kIn, ?_⟩) he hpl
  subst ev
  obtain ⟨u, rfl, rv⟩ : ∃ u, us = [u] ∧ RelV v u := by
    cases r1 with
    | cons a b => cases b; exact ⟨_, rfl, a⟩
  obtain ⟨mb, hb, hbb⟩ := I1.mod.blt
  have lim := I1.nolimit
  obtain ⟨hp, gs, dr, tk, os⟩ := s1
  refine wpAny_call (ERR.err_made T I1.kIn lim (I1.mod.glob.keeps I1.bk) (hb.keeps I1.bk) g0 ((hbb "super" (by decide)).trans (by rfl)) (by have := hr.dp; omega) fun h' tk' e d M => ?_)
  obtain ⟨t1, hoe⟩ := M.obj
  obtain ⟨G', f1, f2⟩ := restrict h' fun b => decide (b ≠ e)
  have at_ : ∀ b, b ≠ e → G'.get? b = h'.get? b := fun b hb => f1 b (decide_eq_true hb)
  have gone : G'.get? e = none := f2 e (by simp)
  have lt : ∀ b o, hp.get? b = some o → b ≠ e := fun b o q z => by
    have h1 := Heap.lt_size q
    have h2 := M.new
    rw [z] at h1
    exact absurd h1 (Nat.not_lt.mpr h2)
  have ob : ObjOk X.prog X.w (upd H1 d (.xd [(("what" : Str), v)])) G' d (.xd [(("what" : Str), v)]) := ⟨_, M.ns.at (fun o q => (at_ d M.dne).trans q), fun f => relO_what rv f⟩
  have J : Inv X pins σ (upd H1 d (.xd [(("what" : Str), v)])) ⟨G', gs, dr, tk', os⟩ := I1.laid (t' := tk') (fun b o q => (at_ b (lt b o q)).trans (M.keep b o q)) M.dbig ob
  have nA : (upd H1 d (.xd [(("what" : Str), v)])) e = none := by rw [upd_ne (Ne.symm M.dne)]; exact I1.hok.fresh M.new
  refine ⟨e, _, _, ⟨G', gs, dr, tk', os⟩, _, .ref C, some d, rfl, J, fun b o q => ?_, gone, hoe, ⟨rfl, rfl⟩, rfl, rfl, nA, rfl, I1.bare, raises_own T.exC T.tyC, q1 d (I1.hok.fresh M.dbig)⟩
  by_cases hbe : b = e
  · rw [hbe] at q; exact absurd (q.symm.trans gone) (by simp)
  · exact (at_ b hbe).symm.trans q
end
end L2
/-! The facts of an own error class out of the written part, one by one. -/
namespace ERR
open PySem PySem.W PySem.Calls PyProof.Rows PySem.HandSPX
/-- where the parts of such an __init__ stand -/
def ePos (b : List Stmt) : Nat → Pos := match b with
  | [.Expr (.Call (.Attribute (.Call (.Name _ p0) _ _ p1) _ p2) [.Constant _ _ p3] _ p4) p5, .Assign [.Attribute (.Name _ p6) _ p7] (.Name _ p8) p9] => fun n => match n with
    | 0 => p0 | 1 => p1 | 2 => p2 | 3 => p3 | 4 => p4 | 5 => p5 | 6 => p6 | 7 => p7 | 8 => p8 | _ => p9
  | _ => fun _ => ⟨0, 0, 0, 0⟩
def eTxt (b : List Stmt) : Str := match b with
  | [.Expr (.Call _ [.Constant (.str x) _ _] _ _) _, _] => x
  | _ => ""
/-- an error of the class at S is what «except S» names -/
theorem exm_self {K : Frag} {S : Addr} (h1 : subIn K (.ref S) (.type "BaseException") = some true) (h2 : isClsIn K S = true) (h3 : typeIn K (.ref S) = some (.type "type")) (h4 : subIn K (.ref S) (.ref S) = some true) :
    exmOne K (.ref S) (.ref S) = some true := by
  have e1 : (subIn K (.ref S) (.type "BaseException") == some true) = true := by rw [h1] <;> rfl
  have e2 : ((clsIn K S).isSome && typeIn K (.ref S) == some (.type "type")) = true := by
    have h2' : (clsIn K S).isSome = true := h2
    rw [h2', h3] <;> rfl
  show (if (subIn K (.ref S) (.type "BaseException") == some true) = true then (if ((clsIn K S).isSome && typeIn K (.ref S) == some (.type "type")) = true then subIn K (.ref S) (.ref S) else none) else none) = some true
  rw [if_pos e1, if_pos e2]
  exact h4
theorem errT_mk {P : Program} {K : Frag} {C fI : Addr} (s : Stmt) {qual : Str}
    {nm q : Str} {N : Addr} {bs bm : List Value} {sn : List Str} {sub : List Value} {ab : Bool} {col : Option Bool} {dd : Option Addr} {k0 k1 k2 k3 k5 : Option Value}
    {oc doc pm ct cl ccl : Value} {od an cld cdd : Option Addr} {osl csl ccs : Array (Option Value)} {cc cda : Addr} {vs : Array Value} {file : Str} {tf : Tok}
    (xL : K.lookup C = some (excClassObj nm q C N bs bm true sn sub ab col dd k0 k1 k2 k3 k5 "ValueError.__new__")) (bmv : refsVE bm = true)
    (sa : findIn K (.ref C) "__setattr__" = some (some (.builtin "object.__setattr__")))
    (noW : findIn K (.ref C) "what" = some none)
    (subV : subIn K (.ref C) (.type "ValueError") = some true)
    (sup : ks_superIn K C C "__init__" = some (some (.builtin "ValueError.__init__")))
    (opq : nsIn K cStatics "thirdparty.any" = some none)
    (me : mroIn K C (.ref C) = some true)
    (init : findIn K (.ref C) "__init__" = some (some (.ref fI)))
    (tyI : typeIn K (.ref fI) = some (.type "function"))
    (kC : keepIn K (.ref C) = true)
    (exC : subIn K (.ref C) (.type "BaseException") = some true)
    (tyC : typeIn K (.ref C) = some (.type "type"))
    (top : (P.main.scope.names.lookup ("super" : Str)).isSome = false)
    (l : K.lookup fI = some ⟨oc, od, .func (ksFn "__init__" qual (L2.defArgs s) (L2.defBody s) (L2.defScope s) .none .none doc pm an (.ref cda) ct cc), osl⟩)
    (hA : ∃ p1 p2, L2.defArgs s = eA p1 p2) (hB : L2.defBody s = eB (eTxt (L2.defBody s)) (ePos (L2.defBody s))) (hS : L2.defScope s = eS)
    (hev : ∀ env : Env, ∃ pl : Sem Bool, eval (.Call (.Attribute (.Call (.Name "super" (ePos (L2.defBody s) 0)) [] [] (ePos (L2.defBody s) 1)) "__init__" (ePos (L2.defBody s) 2)) [.Constant (.str (eTxt (L2.defBody s))) 0 (ePos (L2.defBody s) 3)] [] (ePos (L2.defBody s) 4)) env = (do
      let ov ← attributeBase (.Call (.Name "super" (ePos (L2.defBody s) 0)) [] [] (ePos (L2.defBody s) 1)) "__init__" env (eval (.Call (.Name "super" (ePos (L2.defBody s) 0)) [] [] (ePos (L2.defBody s) 1)) env)
      standAt (ePos (L2.defBody s) 2).atName
      let (f, first) ← holding [ov] (getMethod ov "__init__" pl)
      callWith (ePos (L2.defBody s) 4) f first (backTo (ePos (L2.defBody s) 4) (starEach [.Constant (.str (eTxt (L2.defBody s))) 0 (ePos (L2.defBody s) 3)] env)) []))
    (c : codeIn K (.ref cda) qual = true)
    (lc : K.lookup cc = some ⟨cl, cld, .cell (some (.ref C)), csl⟩) (ld : K.lookup cda = some ⟨ccl, cdd, .fields vs, ccs⟩) (hv : vs[2]? = some (.str file tf)) (hf : ((P.main.file : Str) == file) = true) : ErrT P K C fI := by
  obtain ⟨p1, p2, hA⟩ := hA
  rw [hA, hS] at l
  generalize eTxt (L2.defBody s) = txt at hB hev
  generalize ePos (L2.defBody s) = p at hB hev
  rw [hB] at l
  exact { cls := ⟨nm, q, N, bs, bm, sn, sub, ab, col, dd, k0, k1, k2, k3, k5, xL, bmv⟩, sa := sa, noW := noW, subV := subV, sup := sup, opq := opq, me := me, init := init, tyI := tyI, kC := kC, exC := exC, tyC := tyC, top := top,
          fn := ⟨oc, od, an, doc, pm, ct, osl, qual, txt, cc, cda, p1, p2, p, cl, ccl, cld, cdd, csl, ccs, vs, file, tf, l, c, hev, lc, ld, hv, hf⟩ }
end ERR
/-! == and != by an own class's __eq__ and __ne__, whatever they answer. -/
namespace DP
open PySem PySem.Spec PyProof.Rows L2
theorem rooms64 {A : Around} {k : Nat} (hr : Room k A) : A.units + 64 < cLine := by have := hr.un; omega
/-- what isinstance asks of an own class's instances -/
structure IsiC (K : PySem.W.Frag) (C : Addr) : Prop where
  ha : PySem.W.findIn K (.ref C) "__class__" = some (some (.builtin "object.__class__"))
  hn : PySem.W.specialIn K (.builtin "object.__class__") "__get__" = some (some (.builtin "getset_descriptor.__get__"))
  htk : PySem.W.takesIn K (.builtin "object.__class__") = some true
  hm : PySem.W.mroIn K C (.type "object") = some true
theorem kit_self (K : PySem.W.Frag) (C : Addr) : PySem.W.kitOne K (.ref C) (.ref C) = some true := if_pos (beq_self_eq_true _)
theorem kit_no {K : PySem.W.Frag} {S : Addr} {t : Value} (h0 : (t == .ref S) = false) (h2 : PySem.W.isClsIn K S = true) (h3 : PySem.W.typeIn K (.ref S) = some (.type "type")) {b : Option Bool} (h4 : PySem.W.subIn K t (.ref S) = b) : PySem.W.kitOne K t (.ref S) = b := by
  have e2 : ((PySem.W.clsIn K S).isSome && PySem.W.typeIn K (.ref S) == some (.type "type")) = true := by
    have h2' : (PySem.W.clsIn K S).isSome = true := h2
    rw [h2', h3] <;> rfl
  show (if (t == .ref S) = true then some true else if ((PySem.W.clsIn K S).isSome && PySem.W.typeIn K (.ref S) == some (.type "type")) = true then PySem.W.subIn K t (.ref S) else none) = b
  rw [h0, if_neg Bool.false_ne_true, if_pos e2]
  exact h4
section
variable {X : Cx} {CX : CXT} {C f : Addr} {fd : FuncData} {ps : List Str} {sp : Sp} {E : XK} {k : Nat} {op : CmpOp}
/-- the right side: of the same class, a list, a whole number -/
inductive Right (K : PySem.W.Frag) (C : Addr) (H : Hp) : V → Prop
  | ins {b dy gs} : H b = some (.ins C dy gs) → Right K C H (.ref b)
  | lst {b xs} : SqL K H b xs → PySem.W.notFirst K C (.type "list") = true → Right K C H (.ref b)
  | int {i} : PySem.W.notFirst K C (.type "int") = true → Right K C H (.int i)
def rOwn (K : PySem.W.Frag) (C : Addr) (sp : Sp) (E : XK) : V → V → Hp → VK → Prop := fun x y H Q => ∃ a dx fs, x = .ref a ∧ H a = some (.ins C dx fs) ∧ Right K C H y ∧ sp [x, y] H (fun v H' => ∃ b, v = .bl b ∧ Q (.bl b) H') E
theorem own_run (F : FnOk X.prog X.w X.K X.mg X.base CX k f fd ps sp) (hs : PySem.W.findIn X.K (.ref C) (cmpInfo op).2.1 = some (some (.ref f))) (hf : PySem.W.isFn X.K (.ref f) = true) (hb : Binds X.K fd ps []) (hx : Passes CX X E) (hr : Room k X.A) : ∀ (pins : List (Addr × Obj)) (s : Shared) (σ : L2.St) (H : Hp) (x y : V) (v u : Value) (Q : VK), Inv X pins σ H s → RelV x v → RelV y u → rOwn X.K C sp E x y H Q → wpAny (model X.prog X.w) X.A (richCompare op v u) (EP X pins σ Q) X.xe s := by
  intro pins s σ H x y v u Q I rx ry hq
  obtain ⟨a, dx, fs, rfl, ha, hy, q⟩ := hq
  cases rx
  obtain ⟨mA, J, _⟩ := ins_get I.hok ha
  obtain ⟨od, J, _⟩ := J.look
  obtain ⟨m, hF⟩ := I.fr
  obtain ⟨tb, hl, hn⟩ : ∃ tb, PySem.W.Looks (model X.prog X.w) s.heap (typeOf u) tb ∧ PySem.W.notFirst X.K C tb = true := by
    cases hy with
    | ins h =>
      cases ry
      obtain ⟨mB, J', _⟩ := ins_get I.hok h
      obtain ⟨od', J', _⟩ := J'.look
      exact ⟨.ref C, J'.type, by simp [PySem.W.notFirst]⟩
    | lst h hn =>
      cases ry
      obtain ⟨its, rv, pl, hz⟩ := I.list h
      exact ⟨_, fun A Q E s1 k q => (by
        obtain ⟨o, ho, hc, r⟩ := pl.isList
        exact wpAny_typeOf_ref (k _ _ ho) (by rw [hc]; exact q)), hn⟩
    | int hn =>
      obtain ⟨t, rfl⟩ := ry
      exact ⟨_, fun A Q E s1 k q => wpAny_pure q, hn⟩
  refine PySem.W.cmp_K (op := op) (tb := tb) hr.units0 hF I.ok.mod.kin J hl hn hs hf ?_
  have r2 : Vals [V.ref a, y] [Value.ref a, u] := .cons rfl (.cons ry .nil)
  have hlen := F.len _ _ _ _ q
  refine wpAny_call (codeAny_mono (F.run X.A X.stack s H ⟨[.ref a, u], []⟩ [.ref a, u] [.ref a, y] _ E hr I.env0 (by
    have := hb s [.ref a, u] I.kIn (by simpa using hlen)
    simpa using this) r2 q) fun r s' hq => ?_)
  cases r with
  | error e => exact hx pins σ H s e s' I hq
  | ok fl =>
    cases fl with
    | ret w =>
      obtain ⟨z, H', I', rz, b, ez, q2⟩ := I.after hq
      subst ez
      cases rz
      exact ⟨.bl b, H', I', rfl, q2⟩
    | next => exact hq.elim
    | brk => exact hq.elim
    | cont => exact hq.elim
theorem op_ownEq (F : FnOk X.prog X.w X.K X.mg X.base CX k f fd ps sp) (hs : PySem.W.findIn X.K (.ref C) "__eq__" = some (some (.ref f))) (hf : PySem.W.isFn X.K (.ref f) = true) (hb : Binds X.K fd ps []) (hx : Passes CX X E) (hr : Room k X.A) : OpR X (compareOp .Eq) (rOwn X.K C sp E) := fun pins s σ H x y v u Q I rx ry hq =>
  own_run (op := .Eq) F hs hf hb hx hr pins s σ H x y v u Q I rx ry hq
theorem op_ownNe (F : FnOk X.prog X.w X.K X.mg X.base CX k f fd ps sp) (hs : PySem.W.findIn X.K (.ref C) "__ne__" = some (some (.ref f))) (hf : PySem.W.isFn X.K (.ref f) = true) (hb : Binds X.K fd ps []) (hx : Passes CX X E) (hr : Room k X.A) : OpR X (compareOp .NotEq) (rOwn X.K C sp E) := fun pins s σ H x y v u Q I rx ry hq =>
  own_run (op := .NotEq) F hs hf hb hx hr pins s σ H x y v u Q I rx ry hq
end
end DP
/-! A caught error that stays: tracked from the except suite on, asked for its class and its fields wherever it is held. -/
namespace EK
open PySem PySem.Spec PyProof.Rows L2
/-- an error of the class cls at a, its own dict d -/
def ExV (cls : Value) (d : Option Addr) (a : Addr) : HO := .ext fun h => ∃ (oe : Obj) (vs : Array Value), h.get? a = some oe ∧ Zc cls d oe ∧ oe.data = .fields vs
theorem exV_ok {P : Program} {w : World} {H : Hp} {h : Heap} {a : Addr} {cls : Value} {d : Option Addr} {oe : Obj} {vs : Array Value} (e : h.get? a = some oe) (z : Zc cls d oe) (dt : oe.data = .fields vs) : ObjOk P w H h a (ExV cls d a) :=
  ⟨⟨oe, vs, e, z, dt⟩, ⟨oe, e⟩, fun _ _ ⟨o, v, q, r⟩ k => ⟨o, v, k o q, r⟩⟩
section
variable {X : Cx} {pins : List (Addr × Obj)} {σ : L2.St} {H : Hp} {s : Shared}
/-- an object that wasn't there at the entry is tracked from now on -/
theorem track {a : Addr} {o : HO} (I : Inv X pins σ H s) (na : H a = none) (n0 : X.s_0.heap.get? a = none) (nL : a ≠ X.env.locals) (nC : ∀ x c, X.env.cells.lookup x = some c → c ≠ a) (nP : ∀ p ∈ X.pn ++ pins, p.1 ≠ a)
    (ok : ObjOk X.prog X.w (upd H a o) s.heap a o) : Inv X pins σ (upd H a o) s := by
  have keep : ∀ {b : Addr} {u : HO}, H b = some u → upd H a o b = some u := fun {b u} e => by rw [upd_ne (ne_of_none e na)]; exact e
  refine ⟨I.ok, I.os, I.bare, ⟨I.base.keep, I.base.slot, fun b u e n q => ?_, I.base.there, fun b xs e => keep (I.base.tups b xs e), fun b u v e => keep (I.base.frzs b u v e), fun b ps e => ?_⟩, I.loc, I.cell, ?_, fun x c e => ?_, fun p hp => ?_, I.hok.laidN (fun _ _ e => e) na ok, I.len⟩
  · rw [upd_ne (fun z => by rw [z, n0] at e; cases e)]
    exact I.base.free b u e n q
  · obtain ⟨m, z⟩ := I.base.tbls b ps e
    exact ⟨m, keep z⟩
  · rw [upd_ne (Ne.symm nL)]; exact I.free
  · rw [upd_ne (nC x c e)]; exact I.freeC x c e
  · obtain ⟨e, n, ne, nf, dd⟩ := I.pin p hp
    exact ⟨e, by rw [upd_ne (nP p hp)]; exact n, ne, nf, dd⟩
abbrev suite0 (X : Cx) (a : Addr) (pn : List (Addr × Obj)) : Cx := X.suite a pn
theorem to_suite (I : Inv X pins σ H s) (a : Addr) : Inv (X.suite a (X.pn ++ pins)) [] σ H s :=
  ⟨I.ok.suite _ _, I.os, I.bare, I.base, I.loc, I.cell, I.free, I.freeC, fun p hp => by rw [List.append_nil] at hp; exact I.pin p hp, I.hok, I.len⟩
theorem of_suite {a : Addr} {pn' : List (Addr × Obj)} (I : Inv (X.suite a (X.pn ++ pins)) pn' σ H s) (ok : X.Ok) : Inv X pins σ H s :=
  ⟨ok, I.os, I.bare, I.base, I.loc, I.cell, I.free, I.freeC, fun p hp => I.pin p (List.mem_append_left _ hp), I.hok, I.len⟩
end
/-- what 'except x as n' wishes of an error of the body: slot i is n's, the error tracked -/
def wKeep (K : PySem.W.Frag) (c : Value) (i : Nat) (ts : TS) (Wout : WX) (D : Ends) : WX := fun cls d σ H =>
  ∃ b, PySem.W.exmOne K cls c = some b ∧ (b = true → ∀ a, H a = none → ts { nx := fun σ' H' => D.nx (σ'.set i none) H', rt := D.rt, bk := fun σ' H' => D.bk (σ'.set i none) H', ct := fun σ' H' => D.ct (σ'.set i none) H' } (σ.set i (some (.ref a))) (upd H a (ExV cls d a))) ∧
    (b = false → Wout cls d σ H)
section
variable {X : Cx} {x n : Str} {c : Value} {i : Nat} {body suite : List Stmt} {b₀ : Stmt} {np pos pos' : Pos} {tb : WX → TS} {ts : TS} {Wout : WX}
theorem ps_try_keep (hs : X.stack = X.env :: X.outer) (hf : X.env.frame = some X.env.locals) (hex : X.ex = []) (hN : X.N.Nodup) (hi : X.N[i]? = some n) (hln : X.env.kindOf n = some .local) (hc : Names X x c) (tk : Takes X Wout)
    (hb : ∀ (W : WX) (pn : List (Addr × Obj)) (xe : Value → Shared → Prop), Takes (X.tr pn xe) W → PassesOwn (model X.prog X.w) X.A X.env xe → PSs (X.tr pn xe) body (tb W))
    (hsu : ∀ (a : Addr) (pn : List (Addr × Obj)), PSs (X.suite a pn) (b₀ :: suite) ts) :
    PS X (.Try body [.ExceptHandler (some (.Name x np)) (some n) (b₀ :: suite) pos'] [] [] pos) (fun D σ H => tb (wKeep X.K c i ts Wout D) D σ H) := by
  refine ⟨fun pins s σ H D I h => ?_⟩
  have ok := I.ok
  have hfr : X.A.frames = some (X.env :: X.outer) := by rw [ok.frames, hs]
  have hloc : Loc X.env.scope n := .inl hln
  refine wpAny_Try_except (wpAny_mono ((hb (wKeep X.K c i ts Wout D) (X.pn ++ pins) (fun e s₁ => wpAny (model X.prog X.w) X.A (noteFrame e X.env) (fun _ s₂ => wpAny (model X.prog X.w) X.A (setFlight e none) (fun _ s₃ =>
    wpAny (model X.prog X.w) X.A (handleBy e X.env [.ExceptHandler (some (.Name x np)) (some n) (b₀ :: suite) pos']) (SP X pins D) X.xe s₃) X.xe s₂) X.xe s₁) (fun u s' xx => ?_) PassesOwn.looking).run [] s σ H D (I.toTry _) h) (fun f s1 hsp => ?_) (fun e s1 he => he))
  · obtain ⟨a, B, sI, pins', σ', H', cls, d, rfl, J', nb, up, sky, na, os, ag, b, hb1, hyes, hno⟩ := xx
    have J : Inv X pins σ' H' sI := J'.ofTry ok
    have sky' : Sky B (X.env :: X.outer) a (Zc cls d) X.env.locals s'.heap := by rw [← hs]; exact sky
    show wpAny (model X.prog X.w) X.A (noteFrame (.ref a) X.env) _ _ _
    refine Sky.land Zc.steady hfr hf sky' fun h3 fl3 up3 => ?_
    have J3 : Inv X pins σ' H' { s' with heap := h3 } := J.landed nb fl3.1 (up.trans up3) os ag
    obtain ⟨oe3, vs3, he3, hz3, hd3⟩ := fl3.there
    have nfr : a ∉ frs (X.env :: X.outer) := fun hm => by
      obtain ⟨_, o', e', hnf⟩ := fl3.2.2.1.mem hm
      rw [he3] at e'; cases e'
      exact hnf _ hd3
    have nL : a ≠ X.env.locals := fun z => nfr (List.mem_filterMap.mpr ⟨X.env, List.mem_cons_self, by rw [hf, z]⟩)
    have nF : a ∉ X.fs := fun hm => by
      obtain ⟨e, he, q⟩ := List.mem_filterMap.mp hm
      exact nfr (List.mem_filterMap.mpr ⟨e, List.mem_cons_of_mem _ he, q⟩)
    have nB : B.get? a = none := fl3.2.1
    -- it is none of what stood
    have nI : ∀ b o, sI.heap.get? b = some o → b ∉ frs X.stack → b ≠ a := fun b o e hb z => by
      have q := nb b o e hb
      rw [z, nB] at q; cases q
    have nS : a ∉ frs X.stack := by rw [hs]; exact nfr
    have n0 : X.s_0.heap.get? a = none := by
      cases e : X.s_0.heap.get? a with
      | none => rfl
      | some o =>
        obtain ⟨o2, e2⟩ := J.base.there a o e (by rw [hex]; exact fun z => nomatch z)
        exact absurd rfl (nI a o2 e2 nS)
    have nP : ∀ p ∈ X.pn ++ pins, p.1 ≠ a := fun p hp z => by
      obtain ⟨e, _, _, _, _⟩ := J.pin p hp
      exact nI _ _ e (by rw [z]; exact nS) z
    have nC : ∀ x c, X.env.cells.lookup x = some c → c ≠ a := fun x c e z => by
      obtain ⟨v, o, ho, hd⟩ := J3.cell x c e
      rw [z, he3] at ho
      rw [← Option.some.inj ho, hd3] at hd
      exact nomatch hd
    have S3 := J3.suite he3 hd3 na nL nF
    refine wpAny_handleBy_cons (codeAny_handlers_test ?_) (by intro q; cases q)
    have LT : PySem.W.Looks (model X.prog X.w) h3 (typeOf (.ref a)) cls := fun A Q E s k q => wpAny_typeOf_ref (k _ _ he3) (by rw [hz3.1]; exact q)
    have LM := PySem.W.exm_one (M := model X.prog X.w) (J3.kIn) LT hb1
    have test : ∀ {Q : Value → Shared → Prop} {E : Value → Shared → Prop}, Q c { s' with heap := h3 } → wpAny (model X.prog X.w) (X.A.mark (some (.ref a))) (eval (.Name x np) X.env) Q E { s' with heap := h3 } := fun {Q E} q => by
      obtain ⟨hg, hdbg, hm | ⟨hm, hv, hnn⟩⟩ := hc
      · exact ld_glob (X := X.suite a ((a, oe3) :: (X.pn ++ pins))) S3 hg hm q hdbg
      · exact ld_blt (X := X.suite a ((a, oe3) :: (X.pn ++ pins))) S3 hg hm hv q hnn hdbg
    refine test (LM.here ?_)
    cases b with
    | true =>
      refine codeAny_handlers_suite_as (HandSPX.lands_againZ fl3 fun h4 fl4 up4 => ?_)
      have J4 : Inv X pins σ' H' { s' with heap := h4 } := J.landed nb fl4.1 ((up.trans up3).trans up4) os ag
      obtain ⟨oe4, vs4, he4, hz4, hd4⟩ := fl4.there
      have J5 := track (o := ExV cls d a) J4 na n0 nL nC nP (exV_ok he4 hz4 hd4)
      refine store_ok (X := X.suite a (X.pn ++ pins)) (v := .ref a) (to_suite J5 a) hN hi hloc rfl (fun s5 S5 => ?_) (.inr hln)
      refine wpAny_mono ((hsu a (X.pn ++ pins)).run [] s5 _ _ _ S5 (hyes rfl a na)) (fun f s6 hsp => ?_) (fun _ _ z => False.elim z)
      have leave : ∀ {σ6 : L2.St} {H6 : Hp} {Q : Shared → Prop}, Inv (X.suite a (X.pn ++ pins)) [] σ6 H6 s6 → (∀ s7, Inv X pins (σ6.set i none) H6 s7 → Q s7) →
          wpAny (model X.prog X.w) X.A (do bindName X.env n .none; unbindBehindTheSuite X.env n pos') (fun _ s7 => Q s7) X.xe s6 := fun {σ6 H6 Q} S6 hq => gone_ok (of_suite S6 ok) hN hi hln hq
      cases f with
      | next =>
        obtain ⟨σ6, H6, S6, q6⟩ := hsp
        exact leave S6 fun s7 J7 => ⟨_, _, J7, q6⟩
      | brk =>
        obtain ⟨σ6, H6, S6, q6⟩ := hsp
        exact leave S6 fun s7 J7 => ⟨_, _, J7, q6⟩
      | cont =>
        obtain ⟨σ6, H6, S6, q6⟩ := hsp
        exact leave S6 fun s7 J7 => ⟨_, _, J7, q6⟩
      | ret u =>
        obtain ⟨v6, σ6, H6, S6, r6, q6⟩ := hsp
        exact leave S6 fun s7 J7 => ⟨_, _, _, J7, r6, q6⟩
    | false =>
      show wpAny _ X.A (handleBy (.ref a) X.env []) _ _ _
      refine wpAny_handleBy_nil ?_
      obtain ⟨k1, k2, k3, oe, vs, T, oT, ts', he, hz, hd, h1, hr⟩ := id fl3
      unfold PySem.passOn
      refine wpAny_bind (wpAny_field he hd h1 ?_)
      rw [if_neg (show ¬ ((Value.ref T == Value.none) = true) from by simp)]
      have fin : wpAny (model X.prog X.w) X.A (setFlight (.ref a) X.env.frame) (fun _ s4 => wpAny (model X.prog X.w) X.A (throw (.ref a) : Sem Flow) (SP X pins D) X.xe s4) X.xe { s' with heap := h3 } := by
        rw [hf]
        refine HandSPX.setFlight_upZ fl3 fun h4 hh4 up4 => wpAny_throw (tk _ _ ⟨a, B, sI, pins, σ', H', cls, d, rfl, J, nb, (up.trans up3).trans up4, .inr (.inr (by rw [hs]; exact hh4)), na, os, ag, hno rfl⟩)
      first
        | exact wpAny_bind (wpAny_pure (wpAny_bind fin))
        | exact wpAny_bind fin
  · cases f with
    | next =>
      obtain ⟨σ', H', J', q⟩ := hsp
      exact wpAny_execs_nil ⟨σ', H', J'.ofTry ok, q⟩
    | brk =>
      obtain ⟨σ', H', J', q⟩ := hsp
      exact ⟨σ', H', J'.ofTry ok, q⟩
    | cont =>
      obtain ⟨σ', H', J', q⟩ := hsp
      exact ⟨σ', H', J'.ofTry ok, q⟩
    | ret u =>
      obtain ⟨v, σ', H', J', r, q⟩ := hsp
      exact ⟨v, σ', H', J'.ofTry ok, r, q⟩
end
/-- what an own error class's instances are asked -/
structure ExF (K : PySem.W.Frag) (C : Addr) : Prop where
  ga : PySem.W.findIn K (.ref C) "__getattribute__" = some (some (.builtin "BaseException.__getattribute__"))
  gg : PySem.W.findIn K (.ref C) "__getattr__" = some none
  exC : PySem.W.subIn K (.ref C) (.type "BaseException") = some true
  hdC : PySem.W.hasDictIn K C = true
  ha : PySem.W.findIn K (.ref C) "__class__" = some (some (.builtin "object.__class__"))
  hn : PySem.W.specialIn K (.builtin "object.__class__") "__get__" = some (some (.builtin "getset_descriptor.__get__"))
  htk : PySem.W.takesIn K (.builtin "object.__class__") = some true
  hm : PySem.W.mroIn K C (.type "object") = some true
  what : PySem.W.findIn K (.ref C) "what" = some none
section
variable {X : Cx} {K : PySem.W.Frag}
theorem ExF.cl {K : PySem.W.Frag} {C : Addr} (F : ExF K C) : (PySem.W.clsIn K C).isSome = true := by
  have h := F.hdC
  unfold PySem.W.hasDictIn at h
  cases e : PySem.W.clsIn K C with
  | none => rw [e] at h; cases h
  | some _ => rfl
/-- an error held at a, of the class at C, its fields fs -/
def Held (K : PySem.W.Frag) (H : Hp) (a C : Addr) (fs : List (Str × V)) : Prop := ∃ dd, H a = some (ExV (.ref C) (some dd) a) ∧ H dd = some (.xd fs) ∧ ExF K C
theorem Held.same {K : PySem.W.Frag} {H H' : Hp} {a C : Addr} {fs : List (Str × V)} (h : Held K H a C fs) (S : Same H H') : Held K H' a C fs := by
  obtain ⟨dd, h1, h2, h3⟩ := h
  exact ⟨dd, S _ _ h1, S _ _ h2, h3⟩
theorem Held.at {pins : List (Addr × Obj)} {σ : L2.St} {H : Hp} {s : Shared} {a C : Addr} {fs : List (Str × V)} (h : Held X.K H a C fs) (I : Inv X pins σ H s) :
    ∃ oe od, PySem.W.InstAt s.heap a oe C (some od) ∧ ∀ f v, fs.lookup f = some v → ∃ u, PySem.W.lookIn f od = some (some u) ∧ RelV v u := by
  obtain ⟨dd, h1, h2, F⟩ := h
  obtain ⟨oe, vs, e, z, dt⟩ : ∃ (oe : Obj) (vs : Array Value), s.heap.get? a = some oe ∧ Zc (.ref C) (some dd) oe ∧ oe.data = .fields vs := (I.hok a _ h1).1
  have hx : ObjOk X.prog X.w H s.heap dd (.xd fs) := I.hok dd _ h2
  obtain ⟨mA, hns, hr⟩ := hx
  obtain ⟨od, ho, hl⟩ := lookIn_ns hns
  refine ⟨oe, od, ⟨e, z.1, by unfold PySem.W.notCls; rw [dt] <;> rfl, by rw [z.2]; exact ho⟩, fun f v l => ?_⟩
  obtain ⟨u, hu, ru⟩ := RelO.some_of (v := v) (o := mA f) (by rw [← l]; exact hr f)
  exact ⟨u, by rw [hl, hu], ru⟩
/-- isinstance(an error, a class) -/
def rIsiE (K : PySem.W.Frag) : List V → Hp → VK → Prop := fun xs H Q => ∃ (a C : Addr) (fs : List (Str × V)) (c : V) (u : Value) (b : Bool), xs = [.ref a, c] ∧ Held K H a C fs ∧ ClsV c u ∧ PySem.W.kitOne K (.ref C) u = some b ∧ Q (.bl b) H
/-- isinstance(an error, a tuple of classes that was just laid) -/
def rIsiET (K : PySem.W.Frag) : List V → Hp → VK → Prop := fun xs H Q => ∃ (a C : Addr) (fs : List (Str × V)) (tp : Addr) (cs : List V) (us : List Value) (b : Bool), xs = [.ref a, .ref tp] ∧ Held K H a C fs ∧ H tp = some (.tup cs) ∧ Paired ClsV cs us ∧ PySem.W.kitAny K (.ref C) us = some b ∧ Q (.bl b) H
theorem call_isiE (h : X.K = K := by rfl) : CallR X (.builtin "isinstance") (rIsiE K) := by
  subst h
  intro pins s σ H xs us Q I r h
  obtain ⟨a, C, fs, c, u, b, rfl, hh, k, e, q⟩ := h
  obtain ⟨u1, u2, rfl, r1, r2⟩ := vals2 r
  cases (show u1 = Value.ref a from r1)
  have e2 := k.eq r2
  subst e2
  obtain ⟨oe, od, J, _⟩ := hh.at I
  obtain ⟨_, _, _, F⟩ := hh
  exact PySem.W.kia_one (PySem.W.kitx_exc F.cl F.ga F.gg F.exC F.ha F.hn F.htk F.hm) I.kIn J e (fun z => nomatch z) fun tk => ⟨.bl b, H, I.tok tk, rfl, q⟩
theorem call_isiET (h : X.K = K := by rfl) : CallR X (.builtin "isinstance") (rIsiET K) := by
  subst h
  intro pins s σ H xs us Q I r h
  obtain ⟨a, C, fs, tp, cs, ws, b, rfl, hh, hT, k, e, q⟩ := h
  obtain ⟨u1, u2, rfl, r1, r2⟩ := vals2 r
  cases (show u1 = Value.ref a from r1)
  cases (show u2 = Value.ref tp from r2)
  obtain ⟨oe, od, J, _⟩ := hh.at I
  obtain ⟨_, _, _, F⟩ := hh
  obtain ⟨_, its, rv, o, h1, h2, n, h3⟩ := (show ObjOk X.prog X.w H s.heap tp (.tup cs) from I.hok tp _ hT)
  have e3 := ClsV.all k rv
  subst e3
  obtain ⟨oc, od2, dt, sl⟩ := o
  simp only at h2 h3
  subst h2 h3
  exact PySem.W.kia_tup (PySem.W.kitx_exc F.cl F.ga F.gg F.exC F.ha F.hn F.htk F.hm) I.kIn J h1 e (fun z => nomatch z) fun tk => ⟨.bl b, H, I.tok tk, rfl, q⟩
/-- e.f of an error that is held -/
def tExF (K : PySem.W.Frag) (f : Str) (te : TE) : TE := fun σ H Q => te σ H fun x H1 => ∃ (a C : Addr) (fs : List (Str × V)) (v : V), x = .ref a ∧ Held K H1 a C fs ∧ PySem.W.findIn K (.ref C) f = some none ∧ fs.lookup f = some v ∧ Q v H1
theorem pe_exf {e : Expr} {te : TE} {pos : Pos} {n : Str} (he : PE X e te) (hb : attributeBase e n X.env (eval e X.env) = eval e X.env := by rfl) (h : X.K = K := by rfl) : PE X (.Attribute e n pos) (tExF K n te) := by
  subst h
  refine ⟨fun pins s σ H Q I h => attr_of hb (thn (he.run pins s σ H _ I h) fun u s1 hh => ?_)⟩
  obtain ⟨x, H1, I1, rx, a, C, fs, v, ex, hd, hno, l, q⟩ := hh
  subst ex
  obtain rfl : u = Value.ref a := rx
  obtain ⟨oe, od, J, hl⟩ := hd.at I1
  obtain ⟨_, _, _, F⟩ := hd
  obtain ⟨u, hu, ru⟩ := hl _ _ l
  exact HandSPX.exc_get I1.kIn J F.ga F.gg F.exC (PySem.W.findObj_own F.hdC hno rfl hu) (handed_of ru) ⟨v, H1, I1.tok _, ru, q⟩
end
end EK
/-! What an own error is, asked by classes above it, beside it, and built in. -/
namespace ERR
open PySem PySem.W PyProof.Rows L2
theorem exm_of {K : Frag} {E S : Addr} (h1 : subIn K (.ref S) (.type "BaseException") = some true) (h2 : isClsIn K S = true) (h3 : typeIn K (.ref S) = some (.type "type")) (h4 : subIn K (.ref E) (.ref S) = some true) :
    exmOne K (.ref E) (.ref S) = some true := by
  have e1 : (subIn K (.ref S) (.type "BaseException") == some true) = true := by rw [h1] <;> rfl
  have e2 : ((clsIn K S).isSome && typeIn K (.ref S) == some (.type "type")) = true := by
    have h2' : (clsIn K S).isSome = true := h2
    rw [h2', h3] <;> rfl
  show (if (subIn K (.ref S) (.type "BaseException") == some true) = true then (if ((clsIn K S).isSome && typeIn K (.ref S) == some (.type "type")) = true then subIn K (.ref E) (.ref S) else none) else none) = some true
  rw [if_pos e1, if_pos e2]
  exact h4
theorem kit_blt {K : Frag} {E : Addr} {T : String} {b : Bool} (hm : kitMeta T = true) (h : subIn K (.ref E) (.type T) = some b) : kitOne K (.ref E) (.type T) = some b := by
  show (if ((Value.ref E) == .type T) = true then some true else (if kitMeta T = true then subIn K (.ref E) (.type T) else none)) = some b
  rw [if_neg (show ¬ ((Value.ref E) == .type T) = true from Bool.false_ne_true), if_pos hm]
  exact h
end ERR
namespace KA
open PySem PySem.Spec PyProof.Rows L2 DP
def top (i : Nat) : Stmt := PySem.Challenge.pw_darkpace_k41_whole_neighbours_are_next.main.body.getD i (.Pass ⟨0, 0, 0, 0⟩)
abbrev slaw_bag : Stmt := top 18
abbrev N_law_bag : List Str := ["script", "fold", "great", "cell"]
abbrev P_law_bag : List Str := ["script"]
theorem sclaw_bag : FnScope N_law_bag P_law_bag (defScope slaw_bag) := ⟨rfl, rfl, rfl, by decide +kernel, rfl, by decide +kernel, by decide +kernel⟩
abbrev slaw_draw : Stmt := top 19
abbrev N_law_draw : List Str := ["bag", "many", "drawn", "turn", "mixed"]
abbrev P_law_draw : List Str := ["bag", "many"]
theorem sclaw_draw : FnScope N_law_draw P_law_draw (defScope slaw_draw) := ⟨rfl, rfl, rfl, by decide +kernel, rfl, by decide +kernel, by decide +kernel⟩
abbrev slaw_divisor : Stmt := top 20
abbrev N_law_divisor : List Str := ["one", "other"]
abbrev P_law_divisor : List Str := ["one", "other"]
theorem sclaw_divisor : FnScope N_law_divisor P_law_divisor (defScope slaw_divisor) := ⟨rfl, rfl, rfl, by decide +kernel, rfl, by decide +kernel, by decide +kernel⟩
abbrev slaw_lowest : Stmt := top 21
abbrev N_law_lowest : List Str := ["top", "under", "divisor"]
abbrev P_law_lowest : List Str := ["top", "under"]
theorem sclaw_lowest : FnScope N_law_lowest P_law_lowest (defScope slaw_lowest) := ⟨rfl, rfl, rfl, by decide +kernel, rfl, by decide +kernel, by decide +kernel⟩
abbrev slaw_below : Stmt := top 22
abbrev N_law_below : List Str := ["one", "other"]
abbrev P_law_below : List Str := ["one", "other"]
theorem sclaw_below : FnScope N_law_below P_law_below (defScope slaw_below) := ⟨rfl, rfl, rfl, by decide +kernel, rfl, by decide +kernel, by decide +kernel⟩
abbrev slaw_right : Stmt := top 24
abbrev N_law_right : List Str := ["pace", "most", "lower", "upper"]
abbrev P_law_right : List Str := ["pace", "most"]
theorem sclaw_right : FnScope N_law_right P_law_right (defScope slaw_right) := ⟨rfl, rfl, rfl, by decide +kernel, rfl, by decide +kernel, by decide +kernel⟩
abbrev slaw_refused : Stmt := top 25
abbrev N_law_refused : List Str := ["pace", "most", "e"]
abbrev P_law_refused : List Str := ["pace", "most"]
theorem sclaw_refused : FnScope N_law_refused P_law_refused (defScope slaw_refused) := ⟨rfl, rfl, rfl, by decide +kernel, rfl, by decide +kernel, by decide +kernel⟩
abbrev sdistance : Stmt := top 16
abbrev N_distance : List Str := ["one", "fraction"]
abbrev P_distance : List Str := ["one", "fraction"]
theorem scdistance : FnScope N_distance P_distance (defScope sdistance) := ⟨rfl, rfl, rfl, by decide +kernel, rfl, by decide +kernel, by decide +kernel⟩
abbrev snearer : Stmt := top 15
abbrev N_nearer : List Str := ["mover", "other", "fraction", "bottom", "often"]
abbrev P_nearer : List Str := ["mover", "other", "fraction", "bottom"]
theorem scnearer : FnScope N_nearer P_nearer (defScope snearer) := ⟨rfl, rfl, rfl, by decide +kernel, rfl, by decide +kernel, by decide +kernel⟩
abbrev sneighbours : Stmt := top 14
abbrev N_neighbours : List Str := ["fraction", "bottom", "top", "own_bottom", "lower", "upper"]
abbrev P_neighbours : List Str := ["fraction", "bottom"]
theorem scneighbours : FnScope N_neighbours P_neighbours (defScope sneighbours) := ⟨rfl, rfl, rfl, by decide +kernel, rfl, by decide +kernel, by decide +kernel⟩
abbrev slaw : Stmt := top 26
abbrev N_law : List Str := ["script", "bag", "turn", "top", "pace", "most", "few", "many"]
abbrev P_law : List Str := ["script"]
theorem sclaw : FnScope N_law P_law (defScope slaw) := ⟨rfl, rfl, rfl, by decide +kernel, rfl, by decide +kernel, by decide +kernel⟩
structure Ad where
  a_law_bag : Addr
  d_law_bag : FuncData
  a_law_draw : Addr
  d_law_draw : FuncData
  a_law_divisor : Addr
  d_law_divisor : FuncData
  a_law_lowest : Addr
  d_law_lowest : FuncData
  a_law_below : Addr
  d_law_below : FuncData
  a_law_right : Addr
  d_law_right : FuncData
  a_law_refused : Addr
  d_law_refused : FuncData
  a_distance : Addr
  d_distance : FuncData
  a_nearer : Addr
  d_nearer : FuncData
  a_neighbours : Addr
  d_neighbours : FuncData
  a_law : Addr
  d_law : FuncData
structure Tx (K : PySem.W.Frag) (w : World) (mg : Str → Option Value) (Z : Ad) : Prop where
  F_law_bag : Fun K "_law_bag" "_law_bag" slaw_bag Z.a_law_bag Z.d_law_bag
  bb_law_bag : Binds K Z.d_law_bag P_law_bag []
  g_law_bag : mg "_law_bag" = some (.ref Z.a_law_bag)
  F_law_draw : Fun K "_law_draw" "_law_draw" slaw_draw Z.a_law_draw Z.d_law_draw
  bb_law_draw : Binds K Z.d_law_draw P_law_draw []
  g_law_draw : mg "_law_draw" = some (.ref Z.a_law_draw)
  F_law_divisor : Fun K "_law_divisor" "_law_divisor" slaw_divisor Z.a_law_divisor Z.d_law_divisor
  bb_law_divisor : Binds K Z.d_law_divisor P_law_divisor []
  g_law_divisor : mg "_law_divisor" = some (.ref Z.a_law_divisor)
  F_law_lowest : Fun K "_law_lowest" "_law_lowest" slaw_lowest Z.a_law_lowest Z.d_law_lowest
  bb_law_lowest : Binds K Z.d_law_lowest P_law_lowest []
  g_law_lowest : mg "_law_lowest" = some (.ref Z.a_law_lowest)
  F_law_below : Fun K "_law_below" "_law_below" slaw_below Z.a_law_below Z.d_law_below
  bb_law_below : Binds K Z.d_law_below P_law_below []
  g_law_below : mg "_law_below" = some (.ref Z.a_law_below)
  F_law_right : Fun K "_law_right" "_law_right" slaw_right Z.a_law_right Z.d_law_right
  bb_law_right : Binds K Z.d_law_right P_law_right []
  g_law_right : mg "_law_right" = some (.ref Z.a_law_right)
  F_law_refused : Fun K "_law_refused" "_law_refused" slaw_refused Z.a_law_refused Z.d_law_refused
  bb_law_refused : Binds K Z.d_law_refused P_law_refused []
  g_law_refused : mg "_law_refused" = some (.ref Z.a_law_refused)
  F_distance : Fun K "distance" "distance" sdistance Z.a_distance Z.d_distance
  bb_distance : Binds K Z.d_distance P_distance []
  g_distance : mg "distance" = some (.ref Z.a_distance)
  F_nearer : Fun K "nearer" "nearer" snearer Z.a_nearer Z.d_nearer
  bb_nearer : Binds K Z.d_nearer P_nearer []
  g_nearer : mg "nearer" = some (.ref Z.a_nearer)
  F_neighbours : Fun K "neighbours" "neighbours" sneighbours Z.a_neighbours Z.d_neighbours
  bb_neighbours : Binds K Z.d_neighbours P_neighbours []
  g_neighbours : mg "neighbours" = some (.ref Z.a_neighbours)
  F_law : Fun K "law" "law" slaw Z.a_law Z.d_law
  bb_law : Binds K Z.d_law P_law []
  g_law : mg "law" = some (.ref Z.a_law)
  b_len : mg "len" = none
  b_range : mg "range" = none
  b_abs : mg "abs" = none
  b_min : mg "min" = none
  b_max : mg "max" = none
  b_isinstance : mg "isinstance" = none
  b_ValueError : mg "ValueError" = none
  b_super : mg "super" = none
structure AdX where
  c_NoBottom : Addr
  i_NoBottom : Addr
  c_DialError : Addr
  c_Clash : Addr
  c_NoLength : Addr
  c_NoLook : Addr
  c_NoRing : Addr
  c_NoRound : Addr
  c_NoSide : Addr
  c_NoSteps : Addr
  c_NoText : Addr
  c_NoUses : Addr
  c_NoWord : Addr
structure Ex (P : Program) (K : PySem.W.Frag) (mg : Str → Option Value) (Y : AdX) : Prop where
  NoBottom : ERR.ErrT P K Y.c_NoBottom Y.i_NoBottom
  g_NoBottom : mg "NoBottom" = some (.ref Y.c_NoBottom)
  m_NoBottom : PySem.W.exmOne K (.ref Y.c_NoBottom) (.ref Y.c_NoBottom) = some true
  g_DialError : mg "DialError" = some (.ref Y.c_DialError)
  g_Clash : mg "Clash" = some (.ref Y.c_Clash)
  g_NoLength : mg "NoLength" = some (.ref Y.c_NoLength)
  g_NoLook : mg "NoLook" = some (.ref Y.c_NoLook)
  g_NoRing : mg "NoRing" = some (.ref Y.c_NoRing)
  g_NoRound : mg "NoRound" = some (.ref Y.c_NoRound)
  g_NoSide : mg "NoSide" = some (.ref Y.c_NoSide)
  g_NoSteps : mg "NoSteps" = some (.ref Y.c_NoSteps)
  g_NoText : mg "NoText" = some (.ref Y.c_NoText)
  g_NoUses : mg "NoUses" = some (.ref Y.c_NoUses)
  g_NoWord : mg "NoWord" = some (.ref Y.c_NoWord)
  d_NoBottom : PySem.W.exmOne K (.ref Y.c_NoBottom) (.ref Y.c_DialError) = some true
  x_NoBottom : EK.ExF K Y.c_NoBottom
  kv_NoBottom : PySem.W.kitOne K (.ref Y.c_NoBottom) (.type "ValueError") = some true
  k_NoBottom_Clash : PySem.W.kitOne K (.ref Y.c_NoBottom) (.ref Y.c_Clash) = some false
  k_NoBottom_NoLength : PySem.W.kitOne K (.ref Y.c_NoBottom) (.ref Y.c_NoLength) = some false
  k_NoBottom_NoLook : PySem.W.kitOne K (.ref Y.c_NoBottom) (.ref Y.c_NoLook) = some false
  k_NoBottom_NoRing : PySem.W.kitOne K (.ref Y.c_NoBottom) (.ref Y.c_NoRing) = some false
  k_NoBottom_NoRound : PySem.W.kitOne K (.ref Y.c_NoBottom) (.ref Y.c_NoRound) = some false
  k_NoBottom_NoSide : PySem.W.kitOne K (.ref Y.c_NoBottom) (.ref Y.c_NoSide) = some false
  k_NoBottom_NoSteps : PySem.W.kitOne K (.ref Y.c_NoBottom) (.ref Y.c_NoSteps) = some false
  k_NoBottom_NoText : PySem.W.kitOne K (.ref Y.c_NoBottom) (.ref Y.c_NoText) = some false
  k_NoBottom_NoUses : PySem.W.kitOne K (.ref Y.c_NoBottom) (.ref Y.c_NoUses) = some false
  k_NoBottom_NoWord : PySem.W.kitOne K (.ref Y.c_NoBottom) (.ref Y.c_NoWord) = some false
end KA
/-! Looks in plain Lean. -/
namespace KA
open PySem PySem.Spec PyProof.Rows L2 DP
/-- a look: word, x, y -/
abbrev Lk := Str × Int × Int
def encL (l : Lk) : PyData := .tuple [.str l.1, .int l.2.1, .int l.2.2]
def WordOk (x : Str) : Prop := x = "at" ∨ x = "from" ∨ x = "upto"
def SideOk (x : Str) : Prop := x = "slow" ∨ x = "fast"
/-- the words of a side, by truth -/
def onSide (sd x : Str) : Bool := if sd = "slow" then (decide (x = "at") || decide (x = "from")) else (decide (x = "at") || decide (x = "upto"))
/-- where a look alone tells that x is led -/
def plc (sd : Str) (l : Lk) (x L : Int) : Int := if sd = "slow" then l.2.2 + (x - l.2.1) / L * L else l.2.2 - (l.2.1 - x) / L * L
def Sized (n : Nat) (l : Lk) : Prop := l.2.1.natAbs < 2 ^ n ∧ l.2.2.natAbs < 2 ^ n
theorem slow_ne : ¬ (("fast" : Str) = "slow") := by decide +kernel
theorem plc_slow (l : Lk) (x L : Int) : plc "slow" l x L = l.2.2 + (x - l.2.1) / L * L := if_pos rfl
theorem plc_fast (l : Lk) (x L : Int) : plc "fast" l x L = l.2.2 - (l.2.1 - x) / L * L := if_neg slow_ne
def tooFar (a b : Lk) (L : Int) : Bool := onSide "slow" a.1 && onSide "fast" b.1 && decide (b.2.2 < plc "slow" a b.2.1 L)
def clashB (a b : Lk) (L : Int) : Bool := tooFar a b L || tooFar b a L
/-- brought home -/
def home (L : Int) (l : Lk) : Lk := (l.1, l.2.1 - l.2.1 / L * L, l.2.2 - l.2.1 / L * L)
theorem nat_div {a L : Int} (h : 0 < L) : (a / L).natAbs ≤ a.natAbs + 1 := Nat.le_succ_of_le (Int.natAbs_ediv_le_natAbs a L)
theorem sub_lt {a b : Int} {n : Nat} (ha : a.natAbs < 2 ^ n) (hb : b.natAbs < 2 ^ n) : (a - b).natAbs < 2 ^ (n + 1) := by
  rw [Nat.pow_succ]; omega
theorem add_lt {a b : Int} {n : Nat} (ha : a.natAbs < 2 ^ n) (hb : b.natAbs < 2 ^ n) : (a + b).natAbs < 2 ^ (n + 1) := by
  rw [Nat.pow_succ]; omega
theorem div_lt {a L : Int} {n : Nat} (h : 0 < L) (ha : a.natAbs < 2 ^ n) : (a / L).natAbs < 2 ^ (n + 1) := by
  have := nat_div (a := a) h
  have h1 : 1 ≤ 2 ^ n := Nat.one_le_two_pow
  rw [Nat.pow_succ]; omega
theorem lt_up {a : Int} {m n : Nat} (ha : a.natAbs < 2 ^ m) (h : m ≤ n) : a.natAbs < 2 ^ n := Nat.lt_of_lt_of_le ha (Nat.pow_le_pow_right (by decide) h)
section
variable {K : PySem.W.Frag} {H : Hp}
theorem dp_look {v : V} {l : Lk} (h : Dp K H v (encL l)) : ∃ a, v = .ref a ∧ SqT K H a [.str l.1, .int l.2.1, .int l.2.2] := by
  have h' : Dp K H v (.tuple [.str l.1, .int l.2.1, .int l.2.2]) := h
  cases h' with
  | tup s a =>
    cases a with
    | cons a1 a =>
      cases a with
      | cons a2 a =>
        cases a with
        | cons a3 a =>
          cases a; cases a1; cases a2; cases a3
          exact ⟨_, rfl, s⟩
theorem dp_list {v : V} {ds : List PyData} (h : Dp K H v (.list ds)) : ∃ a xs, v = .ref a ∧ SqL K H a xs ∧ DpAll K H xs ds := by
  cases h with
  | lst s a => exact ⟨_, _, rfl, s, a⟩
end
theorem decl_words {x : Str} (h : WordOk x) : inV (.str x) [.str "at", .str "from"] = onSide "slow" x ∧ inV (.str x) [.str "at", .str "upto"] = onSide "fast" x ∧ inV (.str x) [.str "at", .str "from", .str "upto"] = true := by
  rcases h with e | e | e <;> subst e <;> decide +kernel
theorem yes_ite {σ : L2.St} {H : Hp} {A B : Hp → Prop} (h : A H) : tYes σ H (fun b H3 => if b = true then A H3 else B H3) := by
  show (if true = true then A H else B H)
  rw [if_pos rfl]
  exact h
/-- data without lists: tuples, numbers, texts -/
def noL : PyData → Bool
  | .list _ => false
  | .dict _ => false
  | .tuple xs => noLs xs
  | _ => true
where noLs : List PyData → Bool
  | [] => true
  | x :: xs => noL x && noLs xs
/-- tuples stand -/
def Tups (H H' : Hp) : Prop := ∀ b xs, Rd H b (.tup xs) → Rd H' b (.tup xs)
theorem Tups.of_same {H H' : Hp} (S : Same H H') : Tups H H' := fun _ _ h => DP.Same.rd S h
theorem Tups.upd_lst {H : Hp} {D : Addr} {ys : List V} {o : HO} (h : H D = some (.lst ys)) : Tups H (upd H D o) := fun b xs hb => by
  have hn : b ≠ D := by
    rintro rfl
    rcases hb with e | ⟨q, e⟩ <;> rw [h] at e <;> cases e
  rcases hb with e | ⟨q, e⟩
  · exact .inl ((upd_ne hn).trans e)
  · exact .inr ⟨q, (upd_ne hn).trans e⟩
theorem Tups.upd_ins {H : Hp} {D C dx : Addr} {fs : List (Str × V)} {o : HO} (h : H D = some (.ins C dx fs)) : Tups H (upd H D o) := fun b xs hb => by
  have hn : b ≠ D := by
    rintro rfl
    rcases hb with e | ⟨q, e⟩ <;> rw [h] at e <;> cases e
  rcases hb with e | ⟨q, e⟩
  · exact .inl ((upd_ne hn).trans e)
  · exact .inr ⟨q, (upd_ne hn).trans e⟩
theorem Tups.trans {H H1 H2 : Hp} (a : Tups H H1) (b : Tups H1 H2) : Tups H H2 := fun c xs h => b c xs (a c xs h)
section
variable {K : PySem.W.Frag} {H H' : Hp}
mutual
theorem dp_tups (S : Tups H H') : ∀ (d : PyData) (v : V), noL d = true → Dp K H v d → Dp K H' v d
  | .none, _, _, h => by cases h; exact .non
  | .bool _, _, _, h => by cases h; exact .bl _
  | .int _, _, _, h => by cases h; exact .int _
  | .str _, _, _, h => by cases h; exact .str _
  | .list _, _, n, _ => by simp [noL] at n
  | .dict _, _, n, _ => by simp [noL] at n
  | .tuple ds, _, n, h => by
    cases h with
    | tup s a =>
      refine .tup ?_ (dpAll_tups S ds _ (by simpa [noL] using n) a)
      rcases s with s | s
      · exact .inl (S _ _ s)
      · exact .inr s
theorem dpAll_tups (S : Tups H H') : ∀ (ds : List PyData) (vs : List V), noL.noLs ds = true → DpAll K H vs ds → DpAll K H' vs ds
  | [], _, _, h => by cases h; exact .nil
  | d :: ds, _, n, h => by
    rw [noL.noLs, Bool.and_eq_true] at n
    cases h with
    | cons a b => exact .cons (dp_tups S d _ n.1 a) (dpAll_tups S ds _ n.2 b)
end
theorem noLs_map {β : Type} {enc : β → PyData} (h : ∀ b, noL (enc b) = true) : ∀ bs : List β, noL.noLs (bs.map enc) = true
  | [] => rfl
  | b :: bs => by
    show noL.noLs (enc b :: bs.map enc) = true
    rw [noL.noLs, h b, noLs_map h bs]; rfl
theorem noL_encL (l : Lk) : noL (encL l) = true := rfl
/-- one more at the list that a comprehension makes -/
theorem acc_step {D : Addr} {ys : List V} {ds : List PyData} {y : V} {d : PyData} (hD : H D = some (.lst ys)) (hn : noL.noLs ds = true) (hd : noL d = true) (h : DpAll K H ys ds) (hy : Dp K H y d) :
    DpAll K (upd H D (.lst (ys ++ [y]))) (ys ++ [y]) (ds ++ [d]) :=
  dpAll_snoc (dpAll_tups (Tups.upd_lst hD) _ _ hn h) (dp_tups (Tups.upd_lst hD) _ _ hd hy)
end
theorem same_set {H : Hp} {p : Addr} {o : HO} {H1 : Hp} (S : Same H H1) (hn : H p = none) : Same H (upd H1 p o) := fun b u e => by rw [upd_ne (ne_of_none e hn)]; exact S b u e
theorem take_snoc {α : Type} : ∀ {l : List α} {i : Nat} {x : α}, l[i]? = some x → l.take (i + 1) = l.take i ++ [x]
  | [], i, x, h => by simp at h
  | a :: l, 0, x, h => by
    have e : a = x := Option.some.inj h
    subst e
    rfl
  | a :: l, i + 1, x, h => by
    have ih := take_snoc (l := l) (i := i) (x := x) h
    show a :: l.take (i + 1) = a :: l.take i ++ [x]
    rw [ih]; rfl
theorem map_at {α β : Type} {f : α → β} {l : List α} {i : Nat} {y : β} (h : (l.map f)[i]? = some y) : ∃ x, l[i]? = some x ∧ y = f x := by
  rw [List.getElem?_map] at h
  cases e : l[i]? with
  | none => rw [e] at h; cases h
  | some x => rw [e] at h; exact ⟨x, rfl, (Option.some.inj h).symm⟩
end KA
namespace KA
open PySem PySem.Spec PyProof.Rows L2 DP
/-- what stood stands, but at t and g -/
def Keep (t g : Addr) (H H' : Hp) : Prop := ∀ b o, H b = some o → b ≠ t → b ≠ g → H' b = some o
theorem Keep.refl (t g : Addr) (H : Hp) : Keep t g H H := fun _ _ h _ _ => h
theorem Keep.trans {t g : Addr} {H H1 H2 : Hp} (a : Keep t g H H1) (b : Keep t g H1 H2) : Keep t g H H2 := fun c o h x y => b c o (a c o h x y) x y
/-- the bag's pairs -/
def bagK (g : Addr) (l c f : Int) : List (Key × V) := [(.inr "great", .ref g), (.inr "left", .int l), (.inr "turn", .int c), (.inr "fold", .int f)]
/-- the bag: at t, its great numbers at g; no more than n draws so far went by the fold -/
structure Tray (H : Hp) (t g : Addr) (n : Nat) : Prop where
  ex : ∃ (gs : List Int) (f : Int × Int) (c : Int), H t = some (.dK (bagK g f.1 c f.2)) ∧ H g = some (.lst (gs.map V.int)) ∧ gs.length ≤ 63 ∧ (∀ x ∈ gs, 0 ≤ x) ∧ 0 ≤ f.1 ∧ 0 ≤ f.2 ∧ f.2 < 2 ^ 61 ∧ 0 ≤ c ∧ c ≤ (n : Int)
  ne : t ≠ g
theorem Tray.same {H H' : Hp} {t g : Addr} {n : Nat} (T : Tray H t g n) (S : Same H H') : Tray H' t g n := by
  obtain ⟨⟨gs, f, c, h1, h2, r⟩, hne⟩ := T
  exact ⟨⟨gs, f, c, S _ _ h1, S _ _ h2, r⟩, hne⟩
theorem Keep.of_same {t g : Addr} {H H' : Hp} (S : Same H H') : Keep t g H H' := fun b o e _ _ => S b o e
theorem pow_lt {i : Int} {a n : Nat} (h : i.natAbs < 2 ^ a) (h0 : n ≠ 0) : (i ^ n).natAbs < 2 ^ (a * n) := by
  rw [Int.natAbs_pow, Nat.pow_mul]
  exact Nat.pow_lt_pow_left h h0
theorem while_post {c : TT} {tb : TS} {D : Ends} {σ : L2.St} {H : Hp} (Pv : L2.St → Hp → Prop) (μ : L2.St → Hp → Nat) (Po : L2.St → Hp → Prop) (h0 : Pv σ H)
    (hs : ∀ σ H, Pv σ H → c σ H fun b H1 => if b = true then tb { D with nx := fun σ' H' => Pv σ' H' ∧ μ σ' H' < μ σ H, ct := fun σ' H' => Pv σ' H' ∧ μ σ' H' < μ σ H, bk := D.nx } σ H1 else Po σ H1)
    (hd : ∀ σ H, Po σ H → D.nx σ H) (mono : ∀ σ H Q Q', (∀ b H1, Q b H1 → Q' b H1) → c σ H Q → c σ H Q') : tWhile c tb D σ H :=
  while_by Pv μ h0 (fun σ1 H1 p => mono σ1 H1 _ _ (fun b H2 q => by
    cases b with
    | true => exact q
    | false => exact hd _ _ q) (hs σ1 H1 p)) mono
theorem Tray.up {H : Hp} {t g : Addr} {m n : Nat} (T : Tray H t g m) (h : m ≤ n) : Tray H t g n := by
  obtain ⟨⟨gs, f, c, h1, h2, hl, hge, hf0, hf1, hf2, hc0, hc1⟩, hne⟩ := T
  exact ⟨⟨gs, f, c, h1, h2, hl, hge, hf0, hf1, hf2, hc0, by omega⟩, hne⟩
theorem seqIx0 {n : Nat} (h : 0 < n) : seqIndex? 0 n = some 0 := by
  unfold seqIndex?
  simp
  omega
/-! ### the bag's places -/
theorem kne {a b : Str} (h : ¬ a = b) : ¬ ((Sum.inr a : Key) = .inr b) := fun e => h (Sum.inr.inj e)
theorem bag_great (g : Addr) (l c f : Int) : valV (bagK g l c f) (.inr "great") = some (.ref g) := valV_pos rfl
theorem bag_left (g : Addr) (l c f : Int) : valV (bagK g l c f) (.inr "left") = some (.int l) := (valV_neg (kne (by decide +kernel))).trans (valV_pos rfl)
theorem bag_turn (g : Addr) (l c f : Int) : valV (bagK g l c f) (.inr "turn") = some (.int c) := (valV_neg (kne (by decide +kernel))).trans ((valV_neg (kne (by decide +kernel))).trans (valV_pos rfl))
theorem bag_fold (g : Addr) (l c f : Int) : valV (bagK g l c f) (.inr "fold") = some (.int f) := (valV_neg (kne (by decide +kernel))).trans ((valV_neg (kne (by decide +kernel))).trans ((valV_neg (kne (by decide +kernel))).trans (valV_pos rfl)))
theorem put_left (g : Addr) (l c f v : Int) : putK (bagK g l c f) (.inr "left") (.int v) = bagK g v c f := by
  unfold putK
  rw [if_pos (by rw [valV_any, bag_left]; rfl)]
  show [if (Sum.inr "great" : Key) = .inr "left" then _ else _, if (Sum.inr "left" : Key) = .inr "left" then _ else _, if (Sum.inr "turn" : Key) = .inr "left" then _ else _, if (Sum.inr "fold" : Key) = .inr "left" then _ else _] = _
  rw [if_neg (kne (by decide +kernel)), if_pos rfl, if_neg (kne (by decide +kernel)), if_neg (kne (by decide +kernel))]
  rfl
theorem put_turn (g : Addr) (l c f v : Int) : putK (bagK g l c f) (.inr "turn") (.int v) = bagK g l v f := by
  unfold putK
  rw [if_pos (by rw [valV_any, bag_turn]; rfl)]
  show [if (Sum.inr "great" : Key) = .inr "turn" then _ else _, if (Sum.inr "left" : Key) = .inr "turn" then _ else _, if (Sum.inr "turn" : Key) = .inr "turn" then _ else _, if (Sum.inr "fold" : Key) = .inr "turn" then _ else _] = _
  rw [if_neg (kne (by decide +kernel)), if_neg (kne (by decide +kernel)), if_pos rfl, if_neg (kne (by decide +kernel))]
  rfl
theorem bag_new (g : Addr) (l c f : Int) : mergeK [] (bagK g l c f) = bagK g l c f := by
  have e1 : ¬ (("great" : Str) = "left") := by decide +kernel
  have e2 : ¬ (("great" : Str) = "turn") := by decide +kernel
  have e3 : ¬ (("great" : Str) = "fold") := by decide +kernel
  have e4 : ¬ (("left" : Str) = "turn") := by decide +kernel
  have e5 : ¬ (("left" : Str) = "fold") := by decide +kernel
  have e6 : ¬ (("turn" : Str) = "fold") := by decide +kernel
  simp [mergeK, bagK, putK, e1, e2, e3, e4, e5, e6]
section
variable {H : Hp} {t g : Addr} {l c f : Int}
theorem get_great (h : H t = some (.dK (bagK g l c f))) : DGet H t (.str "great") (some (.ref g)) := by
  have := DGet.k (k := .inr "great") h
  rwa [bag_great] at this
theorem get_left (h : H t = some (.dK (bagK g l c f))) : DGet H t (.str "left") (some (.int l)) := by
  have := DGet.k (k := .inr "left") h
  rwa [bag_left] at this
theorem get_turn (h : H t = some (.dK (bagK g l c f))) : DGet H t (.str "turn") (some (.int c)) := by
  have := DGet.k (k := .inr "turn") h
  rwa [bag_turn] at this
theorem get_fold (h : H t = some (.dK (bagK g l c f))) : DGet H t (.str "fold") (some (.int f)) := by
  have := DGet.k (k := .inr "fold") h
  rwa [bag_fold] at this
theorem dput_left (h : H t = some (.dK (bagK g l c f))) (v : Int) : DPut H t (.str "left") (.int v) (upd H t (.dK (bagK g v c f))) := by
  have := DPut.k (k := .inr "left") (v := .int v) h (small1000 (by show 4 ≤ 1000; decide))
  rwa [put_left] at this
theorem dput_turn (h : H t = some (.dK (bagK g l c f))) (v : Int) : DPut H t (.str "turn") (.int v) (upd H t (.dK (bagK g l v f))) := by
  have := DPut.k (k := .inr "turn") (v := .int v) h (small1000 (by show 4 ≤ 1000; decide))
  rwa [put_turn] at this
end
def spBag (K : PySem.W.Frag) : Sp := fun vs H Q _ => ∃ (a : Addr) (ns : List Int), vs = [.ref a] ∧ SqL K H a (ns.map V.int) ∧ ns.length ≤ 63 ∧ ∀ (H' : Hp) (t g : Addr), Tray H' t g 0 → Same H H' → H t = none → H g = none → Q (.ref t) H'
def spDraw : Sp := fun vs H Q _ => ∃ (t g : Addr) (n : Nat) (m : Int), vs = [.ref t, .int m] ∧ Tray H t g n ∧ 0 < m ∧ m.natAbs < 2 ^ 1000 ∧ n < 2 ^ 60 ∧
  ∀ (H' : Hp) (r : Int), 0 ≤ r → r < m → Tray H' t g (n + 1) → Keep t g H H' → Q (.int r) H'
section
variable {P : Program} {w : World} {K : PySem.W.Frag} {mg : Str → Option Value} {base : Heap} {Z : Ad}
theorem ok_law_bag (T : Tx K w mg Z) : FnOk P w K mg base CX0 1 Z.a_law_bag Z.d_law_bag P_law_bag (spBag K) := by
  refine T.F_law_bag.ok sclaw_bag (fun vs H Q E h => ?_) (fun cdv A outer s H vs Q E hr h => ?_)
  · obtain ⟨a, ns, rfl, _⟩ := h
    rfl
  · obtain ⟨a, ns, rfl, hS, hlen, k⟩ := h
    refine ⟨_, (pss_cons (ps_par (i := 1) (j := 2) (by rfl) sclaw_bag.nd rfl rfl (by decide) rfl rfl (pa_cons pe_int (pa_cons (pe_lst pa_nil) pa_nil)) (by rfl))
      (pss_cons (ps_for PassesOwn.never rfl (pi_list (pv 0)) (pg_name (i := 3) sclaw_bag.nd rfl (Or.inl rfl)) (pss_cons (ps_set (i := 1) sclaw_bag.nd rfl (Or.inl rfl) (pe_op op_mod (pe_op op_add (pe_op op_mulW (pv 1) pe_int) (pv 3)) pe_int))
      (pss_one (ps_if (pt_cmpR op_ge (pe_callB call_abs (by rfl) T.b_abs (by decide +kernel) (pa_cons (pv 3) pa_nil)) (pe_op op_pow pe_int pe_int) (nomark _)) (pss_one (ps_expr (pe_bm PySem.F.plainAttrs_list PySem.F.slot_list_append PySem.F.type_list_append mt_append (pv 2) (pa_cons (pe_callB call_abs (by rfl) T.b_abs (by decide +kernel) (pa_cons (pv 3) pa_nil)) pa_nil)))) pss_nil))))
      (pss_one (ps_ret (pe_disp (pps_cons pe_str (pv 2) (pps_cons pe_str pe_int (pps_cons pe_str pe_int (pps_cons pe_str (pv 1) pps_nil)))) (by rfl) (by rfl) (by intro h; cases h) (by decide)))))), ?_⟩
    refine ⟨(by show 0 ≤ sizeLine; decide), fun G hG => ⟨_, _, rfl, ?_⟩⟩
    refine ⟨_, rfl, a, rfl, ⟨_, Same.sqL (same_upd hG) hS⟩, ?_⟩
    refine for_list (K := K) (a := a) (xs := ns.map V.int) (fun i σ' H' => ∃ (gs : List Int) (f : Int) (u : Option V), σ' = [some (.ref a), some (.int f), some (.ref G), u] ∧ Same H H' ∧ H' G = some (.lst (gs.map V.int)) ∧ gs.length ≤ i ∧ (∀ x ∈ gs, 0 ≤ x) ∧ 0 ≤ f ∧ f < 2 ^ 61)
      ⟨[], 11, none, rfl, same_upd hG, upd_same, Nat.le_refl _, (fun _ z => absurd z (by simp)), by decide, by decide⟩ (fun i σ' H' _ ⟨_, _, _, _, S, _⟩ => Same.sqL S hS) ?_ ?_
    · rintro i y σ' H' hi ⟨gs, f, u, rfl, S, hg, hgl, hge, hf0, hf1⟩
      obtain ⟨z, hz, rfl⟩ := map_at hi
      have hi63 : i < 63 := by
        have := (List.getElem?_eq_some_iff.mp hz).1
        omega
      have bf : f.natAbs < 2 ^ 61 := by omega
      refine ⟨_, rfl, _, _, rfl, rfl, wide_mul (b := 30) bf (by decide) (by decide) (by decide) (by decide), _, rfl, _, _, rfl, rfl, _, _, rfl, rfl, (by show (0 : Int) < _; decide), ?_⟩
      have hx0 := Int.emod_nonneg (f * 1000003 + z) (show (2305843009213693951 : Int) ≠ 0 by decide)
      have hx1 := Int.emod_lt_of_pos (f * 1000003 + z) (show (0 : Int) < 2305843009213693951 by decide)
      refine ⟨_, rfl, _, rfl, _, _, rfl, rfl, ⟨by decide, by decide, by decide⟩, _, _, rfl, rfl, _, rfl, ?_⟩
      refine ite2 (fun c => ?_) (fun _ => ?_)
      · have c' := of_decide_eq_true c
        refine ⟨_, rfl, .inl ⟨rfl, _, SqL.of hg⟩, _, rfl, _, rfl, G, _, _, rfl, rfl, hg, ?_, ?_⟩
        · exact small1000 (by simp; omega)
        · refine ⟨gs ++ [if z < 0 then -z else z], _, _, rfl, same_set S hG, ?_, ?_, ?_, hx0, by omega⟩
          · rw [List.map_append]; exact upd_same
          · simp; omega
          · intro x hx
            rcases List.mem_append.mp hx with h | h
            · exact hge x h
            · rw [List.mem_singleton] at h
              subst h
              split <;> omega
      · exact ⟨gs, _, _, rfl, S, hg, by omega, hge, hx0, by omega⟩
    · rintro σ' H' ⟨gs, f, u, rfl, S, hg, hgl, hge, hf0, hf1⟩
      refine fun t ht => ?_
      have hgt : G ≠ t := ne_of_none hg ht
      refine ⟨_, rfl, _, rfl, upd_same, bagK G 0 0 f, rfl, (by show 4 ≤ 15; decide), ?_⟩
      rw [bag_new]
      refine k _ t G ⟨⟨gs, (0, f), 0, upd_same, (upd_ne hgt).trans ((upd_ne hgt).trans hg), ?_, hge, Int.le_refl _, hf0, hf1, Int.le_refl _, Int.le_refl _⟩, Ne.symm hgt⟩ (fun b o e => ?_) (S.free ht) hG
      · rw [List.length_map] at hgl
        omega
      · have hb := ne_of_none (S b o e) ht
        exact (upd_ne hb).trans ((upd_ne hb).trans (S b o e))
theorem ok_law_draw (T : Tx K w mg Z) : FnOk P w K mg base CX0 1 Z.a_law_draw Z.d_law_draw P_law_draw (spDraw) := by
  refine T.F_law_draw.ok sclaw_draw (fun vs H Q E h => ?_) (fun cdv A outer s H vs Q E hr h => ?_)
  · obtain ⟨t, g, n, m, rfl, _⟩ := h
    rfl
  · obtain ⟨t, g, n, m, rfl, ⟨⟨gs, f, c, h1, h2, hl, hge, hl0, hf0, hf1, hc0, hc1⟩, hne⟩, hm, hmb, hn, k⟩ := h
    obtain ⟨l, f⟩ := f
    simp only at h1 hl0 hf0 hf1
    refine ⟨_, (C8.pss_cut (ps_if (PW.pt (pw_and (pt_cmpR op_lt (pe_dget (hu_of hr) (pv 0) pe_str (fun _ _ => rfl)) (pv 1) (nomark _)) (pw_and1 (pt_cmpR op_gt (pe_callB (lenK (K := K)) (by rfl) T.b_len (by decide +kernel) (pa_cons (pe_dget (hu_of hr) (pv 0) pe_str (fun _ _ => rfl)) pa_nil)) pe_int (nomark _))))) (pss_one (ps_dput (hu_of hr) (pv 0) pe_str (pe_bm PySem.F.plainAttrs_list PySem.F.slot_list_pop PySem.F.type_list_pop mt_popAt (pe_dget (hu_of hr) (pv 0) pe_str (fun _ _ => rfl)) (pa_cons pe_int pa_nil)) rfl)) pss_nil)
      (C8.pss_cut (ps_if (pt_cmpR op_ge (pe_dget (hu_of hr) (pv 0) pe_str (fun _ _ => rfl)) (pv 1) (nomark _)) (pss_cons (ps_set (i := 2) sclaw_draw.nd rfl (Or.inl rfl) (pe_op op_mod (pe_dget (hu_of hr) (pv 0) pe_str (fun _ _ => rfl)) (pv 1)))
      (pss_cons (ps_dput (hu_of hr) (pv 0) pe_str (pe_op op_fdivW (pe_dget (hu_of hr) (pv 0) pe_str (fun _ _ => rfl)) (pv 1)) rfl)
      (pss_one (ps_ret (pv 2))))) pss_nil)
      (pss_cons (ps_daug (hu_of hr) (pv 0) pe_str pe_int in_add (fun _ _ _ => rfl))
      (pss_cons (ps_set (i := 3) sclaw_draw.nd rfl (Or.inl rfl) (pe_dget (hu_of hr) (pv 0) pe_str (fun _ _ => rfl)))
      (pss_cons (ps_set (i := 4) sclaw_draw.nd rfl (Or.inl rfl) (pe_op op_add (pe_op op_mulW (pe_op op_add (pe_dget (hu_of hr) (pv 0) pe_str (fun _ _ => rfl)) (pe_op op_mulW pe_int (pv 3))) (pe_op op_pow (pe_op op_add (pv 3) pe_int) pe_int)) (pe_op op_mulW pe_int (pv 3))))
      (pss_one (ps_ret (pe_op op_mod (pe_op op_fdivW (pe_op op_mod (pe_op op_pow (pe_op op_mod (pv 4) pe_int) pe_int) (pe_op op_add (pe_op op_pow pe_int pe_int) pe_int)) pe_int) (pv 1))))))))), ?_⟩
    refine ⟨fun σ' H' => σ' = [some (.ref t), some (.int m), none, none, none] ∧ Keep t g H H' ∧ ∃ (gs : List Int) (l : Int), H' t = some (.dK (bagK g l c f)) ∧ H' g = some (.lst (gs.map V.int)) ∧ gs.length ≤ 63 ∧ (∀ x ∈ gs, 0 ≤ x) ∧ 0 ≤ l, ?_, ?_⟩
    · refine ⟨_, rfl, t, _, rfl, get_left h1, _, rfl, _, _, rfl, rfl, _, rfl, ?_⟩
      have stay : [some (V.ref t), some (.int m), none, none, none] = [some (.ref t), some (.int m), none, none, none] ∧ Keep t g H H ∧ ∃ (gs : List Int) (l : Int), H t = some (.dK (bagK g l c f)) ∧ H g = some (.lst (gs.map V.int)) ∧ gs.length ≤ 63 ∧ (∀ x ∈ gs, 0 ≤ x) ∧ 0 ≤ l := ⟨rfl, Keep.refl _ _ _, gs, l, h1, h2, hl, hge, hl0⟩
      refine ite2 (fun _ => ?_) (fun _ => iteF stay)
      refine ⟨_, rfl, t, _, rfl, get_great h1, g, _, rfl, .inl (SqL.of h2), _, _, rfl, rfl, _, rfl, ite2 (fun hlen => ?_) (fun _ => stay)⟩
      cases gs with
      | nil => exact absurd (of_decide_eq_true hlen) (by simp)
      | cons y ys =>
        refine ⟨_, rfl, t, _, rfl, get_great h1, .inl ⟨rfl, _, SqL.of h2⟩, g, _, _, 0, _, rfl, rfl, h2, by decide, by decide, seqIx0 (by simp), rfl, ?_⟩
        have h1' : (upd H g (.lst (ys.map V.int))) t = some (.dK (bagK g l c f)) := (upd_ne hne).trans h1
        refine ⟨_, rfl, t, _, rfl, dput_left h1' y, rfl, fun b o e n1 n2 => (upd_ne n1).trans ((upd_ne n2).trans e), ys, y, upd_same, (upd_ne (Ne.symm hne)).trans upd_same, ?_, fun x hx => hge x (List.mem_cons_of_mem _ hx), hge y List.mem_cons_self⟩
        simp at hl; omega
    · rintro σ1 H1 ⟨rfl, kp, gs, l, h1, h2, hl, hge, hl0⟩
      refine ⟨fun σ' H' => σ' = [some (.ref t), some (.int m), none, none, none] ∧ H' = H1, ?_, ?_⟩
      · refine ⟨_, rfl, t, _, rfl, get_left h1, _, rfl, _, _, rfl, rfl, _, rfl, ?_⟩
        refine ite2 (fun _ => ?_) (fun _ => ⟨rfl, rfl⟩)
        refine ⟨_, rfl, t, _, rfl, get_left h1, _, rfl, _, _, rfl, rfl, hm, ?_⟩
        refine ⟨_, rfl, t, _, rfl, get_left h1, _, rfl, _, _, rfl, rfl, wide_div hm hmb (by decide) (by decide), _, rfl, t, _, rfl, dput_left h1 _, _, rfl, ?_⟩
        exact k _ _ (Int.emod_nonneg _ (by omega)) (Int.emod_lt_of_pos _ hm) ⟨⟨gs, (l / m, f), c, upd_same, (upd_ne (Ne.symm hne)).trans h2, hl, hge, Int.ediv_nonneg hl0 (by omega), hf0, hf1, hc0, by push_cast; omega⟩, hne⟩ fun b o e n1 n2 => (upd_ne n1).trans (kp b o e n1 n2)
      · rintro σ2 H2 ⟨rfl, rfl⟩
        refine ⟨_, rfl, t, _, rfl, get_turn h1, _, _, rfl, rfl, _, dput_turn h1 _, ?_⟩
        have g1 : (upd H2 t (.dK (bagK g l (c + 1) f))) t = some (.dK (bagK g l (c + 1) f)) := upd_same
        have bf : (f + 17 * (c + 1)).natAbs < 2 ^ 66 := by omega
        have bc : (c + 1 + 29).natAbs < 2 ^ 61 := by omega
        have b3 : ((c + 1 + 29) ^ (2 : Int).toNat).natAbs < 2 ^ (61 * 2) := pow_lt bc (by decide)
        refine ⟨_, rfl, t, _, rfl, get_turn g1, ?_⟩
        refine ⟨_, rfl, t, _, rfl, get_fold g1, _, rfl, _, _, rfl, rfl, wide_mul (a := 6) (b := 61) (by decide) (by omega) (by decide) (by decide) (by decide), _, _, rfl, rfl, _, rfl, _, _, rfl, rfl, _, _, rfl, rfl, ⟨by decide, by decide, Nat.lt_trans bc (by decide)⟩, _, _, rfl, rfl, wide_mul bf b3 (by decide) (by decide) (by decide), ?_⟩
        refine ⟨_, rfl, _, _, rfl, rfl, wide_mul (a := 30) (b := 61) (by decide) (by omega) (by decide) (by decide) (by decide), _, _, rfl, rfl, ?_⟩
        have hx0 := Int.emod_nonneg ((f + 17 * (c + 1)) * (c + 1 + 29) ^ (2 : Int).toNat + 7919 * (c + 1)) (show (2305843009213693951 : Int) ≠ 0 by decide)
        have hx1 := Int.emod_lt_of_pos ((f + 17 * (c + 1)) * (c + 1 + 29) ^ (2 : Int).toNat + 7919 * (c + 1)) (show (0 : Int) < 2305843009213693951 by decide)
        refine ⟨_, rfl, _, _, rfl, rfl, (by show (0 : Int) < _; decide), _, _, rfl, rfl, ⟨by decide, by decide, ?_⟩, _, _, rfl, rfl, ⟨by decide, by decide, by decide⟩, _, _, rfl, rfl, _, _, rfl, rfl, (by show (0 : Int) < _; decide), _, _, rfl, rfl, wide_div (b := 10) (by decide) (by decide) (by decide) (by decide), _, rfl, _, _, rfl, rfl, hm, ?_⟩
        · show (((f + 17 * (c + 1)) * (c + 1 + 29) ^ (2 : Int).toNat + 7919 * (c + 1)) % 2305843009213693951).natAbs < 2 ^ 64
          omega
        · exact k _ _ (Int.emod_nonneg _ (by omega)) (Int.emod_lt_of_pos _ hm) ⟨⟨gs, (l, f), c + 1, g1, (upd_ne (Ne.symm hne)).trans h2, hl, hge, hl0, hf0, hf1, by omega, by push_cast; omega⟩, hne⟩ fun b o e n1 n2 => (upd_ne n1).trans (kp b o e n1 n2)
end
end KA
namespace KA
open PySem PySem.Spec PyProof.Rows L2 DP
abbrev Pr := Int × Int
def encP (p : Pr) : PyData := .tuple [.int p.1, .int p.2]
theorem noL_encP (p : Pr) : noL (encP p) = true := rfl
/-- a list of data at p, tracked -/
def LAt (K : PySem.W.Frag) (H : Hp) (p : Addr) (ds : List PyData) : Prop := ∃ vs, H p = some (.lst vs) ∧ DpAll K H vs ds
theorem LAt.dp {K : PySem.W.Frag} {H : Hp} {p : Addr} {ds : List PyData} (h : LAt K H p ds) : Dp K H (.ref p) (.list ds) := by
  obtain ⟨vs, h1, h2⟩ := h
  exact .lst (SqL.of h1) h2
theorem LAt.same {K : PySem.W.Frag} {H H' : Hp} {p : Addr} {ds : List PyData} (h : LAt K H p ds) (S : Same H H') : LAt K H' p ds := by
  obtain ⟨vs, h1, h2⟩ := h
  exact ⟨vs, S _ _ h1, dpAll_mono S _ _ h2⟩
theorem Keep.tups {H H' : Hp} {t g : Addr} {n : Nat} (T : Tray H t g n) (k : Keep t g H H') : Tups H H' := fun b xs hb => by
  obtain ⟨⟨gs, f, c, h1, h2, r⟩, hne⟩ := T
  rcases hb with e | ⟨q, e⟩
  · refine .inl (k b _ e ?_ ?_) <;> rintro rfl
    · rw [h1] at e; cases e
    · rw [h2] at e; cases e
  · refine .inr ⟨q, k b _ e ?_ ?_⟩ <;> rintro rfl
    · rw [h1] at e; cases e
    · rw [h2] at e; cases e
theorem LAt.keep {K : PySem.W.Frag} {H H' : Hp} {t g p : Addr} {n : Nat} {ds : List PyData} (h : LAt K H p ds) (T : Tray H t g n) (k : Keep t g H H') (h1 : p ≠ t) (h2 : p ≠ g) (hn : noL.noLs ds = true) : LAt K H' p ds := by
  obtain ⟨vs, a, b⟩ := h
  exact ⟨vs, k _ _ a h1 h2, dpAll_tups (Keep.tups T k) _ _ hn b⟩
theorem Tray.at_ne {H : Hp} {t g p : Addr} {n : Nat} (T : Tray H t g n) (hp : H p = none) : p ≠ t ∧ p ≠ g := by
  obtain ⟨⟨gs, f, c, h1, h2, r⟩, hne⟩ := T
  exact ⟨Ne.symm (ne_of_none h1 hp), Ne.symm (ne_of_none h2 hp)⟩
theorem dp_pair {K : PySem.W.Frag} {H : Hp} {v : V} {p : Pr} (h : Dp K H v (encP p)) : ∃ a, v = .ref a ∧ SqT K H a [.int p.1, .int p.2] := by
  have h' : Dp K H v (.tuple [.int p.1, .int p.2]) := h
  cases h' with
  | tup s a =>
    cases a with
    | cons a1 a =>
      cases a with
      | cons a2 a =>
        cases a; cases a1; cases a2
        exact ⟨_, rfl, s⟩
theorem small_nat {L : Int} {a : Int} {n : Nat} (h0 : 0 ≤ a) (h1 : a ≤ L) (hL : L.natAbs < 2 ^ n) : a.natAbs < 2 ^ n := Nat.lt_of_le_of_lt (by omega : a.natAbs ≤ L.natAbs) hL
theorem bigL {L : Int} (h0 : 0 < L) (h : L ≤ 10 ^ 30) : L.natAbs < 2 ^ 100 := by
  have e : (10 : Int) ^ 30 = 1000000000000000000000000000000 := by decide
  have e2 : (2 : Nat) ^ 100 = 1267650600228229401496703205376 := by decide
  rw [e] at h; rw [e2]; omega
/-- what the deck's calls keep of the frame: the deck, all else, so far m draws -/
structure At (H Hc : Hp) (t g : Addr) (m : Nat) : Prop where
  T : Tray Hc t g m
  k : Keep t g H Hc
theorem At.step {H H1 H2 : Hp} {t g : Addr} {m m' : Nat} (a : At H H1 t g m) (T : Tray H2 t g m') (k : Keep t g H1 H2) : At H H2 t g m' := ⟨T, a.k.trans k⟩
theorem At.up {H Hc : Hp} {t g : Addr} {m m' : Nat} (a : At H Hc t g m) (h : m ≤ m') : At H Hc t g m' := ⟨a.T.up h, a.k⟩
theorem At.new {H H1 : Hp} {t g p : Addr} {m : Nat} {o : HO} (a : At H H1 t g m) (hp : H1 p = none) : At H (upd H1 p o) t g m := ⟨a.T.same (same_upd hp), a.k.trans (Keep.of_same (same_upd hp))⟩
theorem At.sm {H H1 H2 : Hp} {t g : Addr} {m : Nat} (a : At H H1 t g m) (S : Same H1 H2) : At H H2 t g m := ⟨a.T.same S, a.k.trans (Keep.of_same S)⟩
theorem At.free {H H1 : Hp} {t g p : Addr} {m : Nat} (a : At H H1 t g m) (hp : H1 p = none) : H p = none := by
  obtain ⟨h1, h2⟩ := a.T.at_ne hp
  cases e : H p with
  | none => rfl
  | some o =>
    rw [a.k p o e h1 h2] at hp
    cases hp
/-- a list that a comprehension makes is changed: it is new -/
theorem At.acc {H H1 : Hp} {t g D : Addr} {m : Nat} {o : HO} (a : At H H1 t g m) (hD : H D = none) (h1 : D ≠ t) (h2 : D ≠ g) : At H (upd H1 D o) t g m := by
  obtain ⟨⟨⟨gs, f, c, e1, e2, r⟩, hne⟩, k⟩ := a
  exact ⟨⟨⟨gs, f, c, (upd_ne (Ne.symm h1)).trans e1, (upd_ne (Ne.symm h2)).trans e2, r⟩, hne⟩, fun b o e n1 n2 => (upd_ne (ne_of_none e hD)).trans (k b o e n1 n2)⟩
def spBelowD : Sp := fun vs H Q _ => ∃ (t g : Addr) (n : Nat) (m : Int), vs = [.ref t, .int m] ∧ Tray H t g n ∧ 0 < m ∧ m.natAbs < 2 ^ 1000 ∧ n < 2 ^ 59 ∧
  ∀ (H' : Hp) (r : Int), 0 ≤ r → r < m → Tray H' t g (n + 60) → Keep t g H H' → Q (.int r) H'
def spWide : Sp := fun vs H Q _ => ∃ (t g : Addr) (n : Nat), vs = [.ref t] ∧ Tray H t g n ∧ n < 2 ^ 58 ∧
  ∀ (H' : Hp) (r : Int), 0 < r → r ≤ 10 ^ 30 → Tray H' t g (n + 70) → Keep t g H H' → Q (.int r) H'
end KA
namespace KA
/-- of all fractions with bottoms to n, none above p / q is nearer -/
structure IsLow (p q n : Int) (l : Int × Int) : Prop where
  pos : 0 < l.2
  le : l.2 ≤ n
  cop : Int.gcd l.1 l.2 = 1
  on : l.1 * q ≤ p * l.2
  best : ∀ x y : Int, 0 < y → y ≤ n → x * q ≤ p * y → x * l.2 ≤ l.1 * y
structure IsUp (p q n : Int) (u : Int × Int) : Prop where
  pos : 0 < u.2
  le : u.2 ≤ n
  cop : Int.gcd u.1 u.2 = 1
  on : p * u.2 ≤ u.1 * q
  best : ∀ x y : Int, 0 < y → y ≤ n → p * y ≤ x * q → u.1 * y ≤ x * u.2
theorem lowest_one {a b c d : Int} (h : a * d = c * b) (hb : 0 < b) (hd : 0 < d) (h1 : Int.gcd a b = 1) (h2 : Int.gcd c d = 1) : (a, b) = (c, d) := by
  have e1 := Int.gcd_mul_right a d b
  have e2 := Int.gcd_mul_right c b d
  rw [h1] at e1
  rw [h2] at e2
  rw [h, Int.mul_comm b d] at e1
  rw [e1] at e2
  have e3 : b = d := by omega
  subst e3
  have e4 : a = c := Int.eq_of_mul_eq_mul_right (by omega) h
  rw [e4]
theorem IsLow.one {p q n : Int} {l m : Int × Int} (h : IsLow p q n l) (k : IsLow p q n m) : l = m := by
  have a := h.best m.1 m.2 k.pos k.le k.on
  have b := k.best l.1 l.2 h.pos h.le h.on
  exact lowest_one (by omega) h.pos k.pos h.cop k.cop
theorem IsUp.one {p q n : Int} {l m : Int × Int} (h : IsUp p q n l) (k : IsUp p q n m) : l = m := by
  have a := h.best m.1 m.2 k.pos k.le k.on
  have b := k.best l.1 l.2 h.pos h.le h.on
  exact lowest_one (by omega) h.pos k.pos h.cop k.cop
theorem mul_le_r {a b c : Int} (h : a ≤ b) (hc : 0 ≤ c) : a * c ≤ b * c := Int.mul_le_mul_of_nonneg_right h hc
theorem mul_lt_r {a b c : Int} (h : a < b) (hc : 0 < c) : a * c < b * c := Int.mul_lt_mul_of_pos_right h hc
/-- a / b, c / d next to one another, p / q strictly between, all bottoms to n -/
structure Next (p q n a b c d : Int) : Prop where
  det : c * b - a * d = 1
  b0 : 0 < b
  d0 : 0 < d
  bn : b ≤ n
  dn : d ≤ n
  lo : a * q < p * b
  up : p * d < c * q
theorem det_cop {a b c d : Int} (h : c * b - a * d = 1) : Int.gcd a b = 1 ∧ Int.gcd c d = 1 := by
  constructor
  · rw [Int.gcd_eq_one_iff]
    intro k h1 h2
    rw [← h]
    exact Int.dvd_sub (Int.dvd_trans h2 (Int.dvd_mul_left ..)) (Int.dvd_trans h1 (Int.dvd_mul_right ..))
  · rw [Int.gcd_eq_one_iff]
    intro k h1 h2
    rw [← h]
    exact Int.dvd_sub (Int.dvd_trans h1 (Int.dvd_mul_right ..)) (Int.dvd_trans h2 (Int.dvd_mul_left ..))
theorem Next.low {p q n a b c d : Int} (N : Next p q n a b c d) (hq : 0 < q) (h : n < b + d) : IsLow p q n (a, b) := by
  obtain ⟨det, b0, d0, bn, dn, lo, up⟩ := N
  refine ⟨b0, bn, (det_cop det).1, Int.le_of_lt lo, fun x y y0 yn hx => ?_⟩
  show x * b ≤ a * y
  by_cases hc : x * b ≤ a * y
  · exact hc
  exfalso
  -- x / y < c / d
  have h1 : x * d < c * y := by
    by_cases hd : x * d < c * y
    · exact hd
    exfalso
    have e1 : c * y * q ≤ x * d * q := mul_le_r (by omega) (by omega)
    have e2 : x * q * d ≤ p * y * d := mul_le_r hx (by omega)
    have e3 : p * d * y < c * q * y := mul_lt_r up y0
    have r1 : x * d * q = x * q * d := by rw [Int.mul_assoc, Int.mul_assoc, Int.mul_comm d]
    have r2 : p * y * d = p * d * y := by rw [Int.mul_assoc, Int.mul_assoc, Int.mul_comm y]
    have r3 : c * y * q = c * q * y := by rw [Int.mul_assoc, Int.mul_assoc, Int.mul_comm y]
    omega
  have h2 : 1 * d ≤ (x * b - a * y) * d := mul_le_r (by omega) (by omega)
  have h3 : 1 * b ≤ (c * y - x * d) * b := mul_le_r (by omega) (by omega)
  have e : (x * b - a * y) * d + (c * y - x * d) * b = y * (c * b - a * d) := by grind
  rw [det] at e
  omega
theorem Next.upp {p q n a b c d : Int} (N : Next p q n a b c d) (hq : 0 < q) (h : n < b + d) : IsUp p q n (c, d) := by
  obtain ⟨det, b0, d0, bn, dn, lo, up⟩ := N
  refine ⟨d0, dn, (det_cop det).2, Int.le_of_lt up, fun x y y0 yn hx => ?_⟩
  show c * y ≤ x * d
  by_cases hc : c * y ≤ x * d
  · exact hc
  exfalso
  have h1 : a * y < x * b := by
    by_cases hd : a * y < x * b
    · exact hd
    exfalso
    have e1 : x * b * q ≤ a * y * q := mul_le_r (by omega) (by omega)
    have e2 : p * y * b ≤ x * q * b := mul_le_r hx (by omega)
    have e3 : a * q * y < p * b * y := mul_lt_r lo y0
    have r1 : x * b * q = x * q * b := by rw [Int.mul_assoc, Int.mul_assoc, Int.mul_comm b]
    have r2 : p * y * b = p * b * y := by rw [Int.mul_assoc, Int.mul_assoc, Int.mul_comm y]
    have r3 : a * y * q = a * q * y := by rw [Int.mul_assoc, Int.mul_assoc, Int.mul_comm y]
    omega
  have h2 : 1 * d ≤ (x * b - a * y) * d := mul_le_r (by omega) (by omega)
  have h3 : 1 * b ≤ (c * y - x * d) * b := mul_le_r (by omega) (by omega)
  have e : (x * b - a * y) * d + (c * y - x * d) * b = y * (c * b - a * d) := by grind
  rw [det] at e
  omega
theorem low_self {p q n : Int} (hq : 0 < q) (hn : q ≤ n) (hc : Int.gcd p q = 1) : IsLow p q n (p, q) := ⟨hq, hn, hc, Int.le_refl _, fun x y y0 yn h => h⟩
theorem up_self {p q n : Int} (hq : 0 < q) (hn : q ≤ n) (hc : Int.gcd p q = 1) : IsUp p q n (p, q) := ⟨hq, hn, hc, Int.le_refl _, fun x y y0 yn h => h⟩
/-- p / q is none of a lesser bottom -/
theorem not_on {p q a b : Int} (hc : Int.gcd p q = 1) (h0 : 0 < b) (hb : b < q) : a * q ≠ p * b := fun e => by
  have h1 : q ∣ p * b := ⟨a, by rw [← e, Int.mul_comm]⟩
  have h2 : q ∣ b := by
    have := Int.gcd_mul_right p b q
    rw [hc, Nat.one_mul] at this
    have h3 : q ∣ (Int.gcd (p * b) (q * b) : Int) := Int.dvd_coe_gcd h1 (Int.dvd_mul_right ..)
    rw [this] at h3
    exact Int.dvd_natAbs.mp h3
  have := Int.le_of_dvd h0 h2
  omega
/-- how often the other one is added -/
def often (dm d_o n bm bo : Int) : Int := if (n - bm) / bo < dm / d_o then (n - bm) / bo else dm / d_o
theorem often_le1 (dm d_o n bm bo : Int) : often dm d_o n bm bo ≤ dm / d_o := by unfold often; split <;> omega
theorem often_le2 (dm d_o n bm bo : Int) : often dm d_o n bm bo ≤ (n - bm) / bo := by unfold often; split <;> omega
theorem often_nn {dm d_o n bm bo : Int} (h0 : 0 ≤ dm) (h1 : 0 < d_o) (h2 : bm ≤ n) (h3 : 0 < bo) : 0 ≤ often dm d_o n bm bo := by
  have a := Int.ediv_nonneg h0 (Int.le_of_lt h1)
  have b := Int.ediv_nonneg (show 0 ≤ n - bm by omega) (Int.le_of_lt h3)
  unfold often; split <;> omega
theorem often_mul {dm d_o n bm bo : Int} (h0 : 0 ≤ dm) (h1 : 0 < d_o) (h2 : bm ≤ n) (h3 : 0 < bo) : often dm d_o n bm bo * d_o ≤ dm ∧ often dm d_o n bm bo * bo ≤ n - bm := by
  have a := mul_le_r (often_le1 dm d_o n bm bo) (Int.le_of_lt h1)
  have b := mul_le_r (often_le2 dm d_o n bm bo) (Int.le_of_lt h3)
  have c := Int.ediv_mul_le dm (show d_o ≠ 0 by omega)
  have d := Int.ediv_mul_le (n - bm) (show bo ≠ 0 by omega)
  omega
theorem often_pos {dm d_o n bm bo : Int} (h1 : 0 < d_o) (h : d_o ≤ dm) (h3 : 0 < bo) (h4 : bo ≤ n - bm) : 1 ≤ often dm d_o n bm bo := by
  have a : 1 ≤ dm / d_o := by rw [Int.le_ediv_iff_mul_le h1]; omega
  have b : 1 ≤ (n - bm) / bo := by rw [Int.le_ediv_iff_mul_le h3]; omega
  unfold often; split <;> omega
/-- the lower one moved -/
theorem Next.mvL {p q n a b c d k : Int} (N : Next p q n a b c d) (hc : Int.gcd p q = 1) (hn : n < q) (hk : k = often (p * b - a * q) (c * q - p * d) n b d) : Next p q n (a + k * c) (b + k * d) c d ∧ 0 ≤ k ∧ (c * q - p * d ≤ p * b - a * q → b + d ≤ n → 1 ≤ k) := by
  obtain ⟨det, b0, d0, bn, dn, lo, up⟩ := N
  have k0 : 0 ≤ k := hk ▸ often_nn (by omega) (by omega) bn d0
  have km := often_mul (dm := p * b - a * q) (d_o := c * q - p * d) (n := n) (bm := b) (bo := d) (by omega) (by omega) bn d0
  rw [← hk] at km
  have kd : 0 ≤ k * d := Int.mul_nonneg k0 (by omega)
  have hne : (a + k * c) * q ≠ p * (b + k * d) := not_on hc (by omega) (by omega)
  refine ⟨⟨by grind, by omega, d0, by omega, dn, ?_, up⟩, k0, fun h1 h2 => hk ▸ often_pos (by omega) h1 d0 (by omega)⟩
  have e : p * (b + k * d) - (a + k * c) * q = (p * b - a * q) - k * (c * q - p * d) := by grind
  omega
theorem Next.mvU {p q n a b c d k : Int} (N : Next p q n a b c d) (hc : Int.gcd p q = 1) (hn : n < q) (hk : k = often (c * q - p * d) (p * b - a * q) n d b) : Next p q n a b (c + k * a) (d + k * b) ∧ 0 ≤ k ∧ (p * b - a * q ≤ c * q - p * d → b + d ≤ n → 1 ≤ k) := by
  obtain ⟨det, b0, d0, bn, dn, lo, up⟩ := N
  have k0 : 0 ≤ k := hk ▸ often_nn (by omega) (by omega) dn b0
  have km := often_mul (dm := c * q - p * d) (d_o := p * b - a * q) (n := n) (bm := d) (bo := b) (by omega) (by omega) dn b0
  rw [← hk] at km
  have kd : 0 ≤ k * b := Int.mul_nonneg k0 (by omega)
  have hne : (c + k * a) * q ≠ p * (d + k * b) := not_on hc (by omega) (by omega)
  refine ⟨⟨by grind, b0, by omega, bn, by omega, lo, ?_⟩, k0, fun h1 h2 => hk ▸ often_pos (by omega) h1 b0 (by omega)⟩
  have e : (c + k * a) * q - p * (d + k * b) = (c * q - p * d) - k * (p * b - a * q) := by grind
  omega
/-- at first -/
theorem Next.first {p q n : Int} (hq : 0 < q) (hc : Int.gcd p q = 1) (hn : n < q) (n1 : 1 ≤ n) : Next p q n (p / q) 1 (p / q + 1) 1 := by
  have h := Int.mul_ediv_add_emod p q
  have h0 := Int.emod_nonneg p (show q ≠ 0 by omega)
  have h1 := Int.emod_lt_of_pos p hq
  have hne : (p / q) * q ≠ p * 1 := not_on hc (by omega) (by omega)
  have e : (p / q + 1) * q = p / q * q + q := by grind
  have e2 : q * (p / q) = p / q * q := Int.mul_comm ..
  refine ⟨by omega, by omega, by omega, by omega, by omega, by omega, by omega⟩
/-- brought to lowest terms -/
theorem low_terms {a b : Int} (hb : 0 < b) : Int.gcd (a / (Int.gcd a b : Int)) (b / (Int.gcd a b : Int)) = 1 ∧ 0 < b / (Int.gcd a b : Int) ∧ a / (Int.gcd a b : Int) * b = a * (b / (Int.gcd a b : Int)) ∧ b / (Int.gcd a b : Int) ≤ b := by
  have g0 : 0 < Int.gcd a b := Int.gcd_pos_of_ne_zero_right a (by omega)
  have d1 := Int.gcd_dvd_left a b
  have d2 := Int.gcd_dvd_right a b
  refine ⟨Int.gcd_ediv_gcd_ediv_gcd g0, ?_, ?_, ?_⟩
  · rw [Int.lt_ediv_iff_mul_lt (by omega) d2]; omega
  · obtain ⟨x, hx⟩ := d1
    obtain ⟨y, hy⟩ := d2
    generalize hg : (Int.gcd a b : Int) = g at *
    rw [hx, Int.mul_ediv_cancel_left _ (by omega), hy, Int.mul_ediv_cancel_left _ (by omega)]
    grind
  · exact Int.ediv_le_self _ (by omega)
theorem mul_nat {a b c d : Int} (h1 : a.natAbs ≤ c.natAbs) (h2 : b.natAbs ≤ d.natAbs) : (a * b).natAbs ≤ (c * d).natAbs := by
  rw [Int.natAbs_mul, Int.natAbs_mul]; exact Nat.mul_le_mul h1 h2
/-- how great the tops are -/
theorem Next.small {p q n a b c d : Int} (N : Next p q n a b c d) (hq : 0 < q) : a.natAbs ≤ p.natAbs * n.natAbs + 1 ∧ c.natAbs ≤ p.natAbs * n.natAbs + 1 := by
  obtain ⟨det, b0, d0, bn, dn, lo, up⟩ := N
  have pb : (p * b).natAbs ≤ p.natAbs * n.natAbs := by rw [Int.natAbs_mul]; exact Nat.mul_le_mul_left _ (by omega)
  have pd : (p * d).natAbs ≤ p.natAbs * n.natAbs := by rw [Int.natAbs_mul]; exact Nat.mul_le_mul_left _ (by omega)
  generalize p.natAbs * n.natAbs = M at pb pd ⊢
  -- a q > p b - q, c q < p d + q
  have h1 : p * b - q ≤ a * q := by
    by_cases h : p * b - q ≤ a * q
    · exact h
    exfalso
    have e1 : (a * q + 1) * d ≤ (p * b - q) * d := mul_le_r (by omega) (by omega)
    have e2 : p * d * b ≤ c * q * b := mul_le_r (by omega) (by omega)
    have e3 : (a * q + 1) * d = a * d * q + d := by grind
    have e4 : (p * b - q) * d = p * d * b - q * d := by grind
    have e5 : c * q * b = a * d * q + q := by
      have : c * b = a * d + 1 := by omega
      grind
    have e6 : q * 1 ≤ q * d := Int.mul_le_mul_of_nonneg_left (by omega) (by omega)
    omega
  have h2 : c * q ≤ p * d + q := by
    by_cases h : c * q ≤ p * d + q
    · exact h
    exfalso
    have e1 : (p * d + q) * b ≤ (c * q - 1) * b := mul_le_r (by omega) (by omega)
    have e2 : a * q * d ≤ p * b * d := mul_le_r (by omega) (by omega)
    have e3 : (c * q - 1) * b = c * b * q - b := by grind
    have e4 : (p * d + q) * b = p * b * d + q * b := by grind
    have e5 : c * b * q = a * q * d + q := by
      have : c * b = a * d + 1 := by omega
      grind
    have e6 : q * 1 ≤ q * b := Int.mul_le_mul_of_nonneg_left (by omega) (by omega)
    omega
  have key : ∀ x y : Int, x * q ≤ y + q → y - q ≤ x * q → x.natAbs ≤ y.natAbs + 1 := fun x y g1 g2 => by
    have f1 : ∀ z : Int, 0 ≤ z → z * 1 ≤ z * q := fun z hz => Int.mul_le_mul_of_nonneg_left (by omega) hz
    rcases Int.le_total x 0 with h | h
    · by_cases hx : x = 0
      · omega
      · have g := f1 (-x - 1) (by omega)
        have g3 : (-x - 1) * q = -(x * q) - q := by grind
        omega
    · by_cases hx : x = 0
      · omega
      · have g := f1 (x - 1) (by omega)
        have g3 : (x - 1) * q = x * q - q := by grind
        omega
  have k1 := key a (p * b) (by omega) (by omega)
  have k2 := key c (p * d) (by omega) (by omega)
  omega
end KA
namespace KA
open PySem PySem.Spec PyProof.Rows L2 DP
def SzQ (n : Nat) (s : Pr) : Prop := s.1.natAbs < 2 ^ n ∧ s.2.natAbs < 2 ^ n
theorem dp_two {K : PySem.W.Frag} {H : Hp} {q : Addr} {a b : Int} (h : H q = some (.tup [.int a, .int b])) : Dp K H (.ref q) (encP (a, b)) := .tup (SqT.of h) (.cons (.int _) (.cons (.int _) .nil))
def enc2 (l u : Pr) : PyData := .tuple [encP l, encP u]
theorem dp_both {K : PySem.W.Frag} {H : Hp} {v : V} {l u : Pr} (h : Dp K H v (enc2 l u)) : ∃ a x y, v = .ref a ∧ SqT K H a [x, y] ∧ Dp K H x (encP l) ∧ Dp K H y (encP u) := by
  have h' : Dp K H v (.tuple [encP l, encP u]) := h
  cases h' with
  | tup s a =>
    cases a with
    | cons a1 a =>
      cases a with
      | cons a2 a =>
        cases a
        exact ⟨_, _, _, rfl, s, a1, a2⟩
/-- twice the distance of two fractions -/
def dist (o f : Pr) : Int := ((f.1 * o.2 - o.1 * f.2).natAbs : Int)
def spDist (K : PySem.W.Frag) : Sp := fun vs H Q _ => ∃ (v u : V) (o f : Pr), vs = [v, u] ∧ Dp K H v (encP o) ∧ Dp K H u (encP f) ∧ SzQ 400 o ∧ SzQ 400 f ∧ Q (.int (dist o f)) H
def nearK (m o f : Pr) (n : Int) : Int := often (dist m f) (dist o f) n m.2 o.2
def spNearer (K : PySem.W.Frag) : Sp := fun vs H Q _ => ∃ (v u z : V) (m o f : Pr) (n : Int), vs = [v, u, z, .int n] ∧ Dp K H v (encP m) ∧ Dp K H u (encP o) ∧ Dp K H z (encP f) ∧ SzQ 400 m ∧ SzQ 400 o ∧ SzQ 400 f ∧ n.natAbs < 2 ^ 400 ∧ 0 < dist o f ∧ 0 < o.2 ∧
  ∀ H' r, Same H H' → Dp K H' r (encP (m.1 + nearK m o f n * o.1, m.2 + nearK m o f n * o.2)) → Q r H'
def spNeigh (K : PySem.W.Frag) : Sp := fun vs H Q _ => ∃ (v : V) (p q n : Int), vs = [v, .int n] ∧ Dp K H v (encP (p, q)) ∧ 0 < q ∧ Int.gcd p q = 1 ∧ p.natAbs < 2 ^ 250 ∧ q.natAbs < 2 ^ 250 ∧ 1 ≤ n ∧ n.natAbs < 2 ^ 30 ∧
  ∀ H' r lo up, Same H H' → Dp K H' r (enc2 lo up) → IsLow p q n lo → IsUp p q n up → (n < q → Next p q n lo.1 lo.2 up.1 up.2 ∧ n < lo.2 + up.2) → (q ≤ n → lo = (p, q) ∧ up = (p, q)) → SzQ 400 lo → SzQ 400 up → Q r H'
def spDivisor : Sp := fun vs H Q _ => ∃ (a b : Int), vs = [.int a, .int b] ∧ 0 < b ∧ Q (.int (Int.gcd a b : Int)) H
def lowT (a b : Int) : Pr := (a / (Int.gcd a b : Int), b / (Int.gcd a b : Int))
def spLowest (K : PySem.W.Frag) : Sp := fun vs H Q _ => ∃ (a b : Int), vs = [.int a, .int b] ∧ 0 < b ∧ b.natAbs < 2 ^ 1000 ∧ ∀ H' r, Same H H' → Dp K H' r (encP (lowT a b)) → Q r H'
def belowB (a b : Pr) : Bool := decide (a.1 * b.2 < b.1 * a.2)
def spBelowF (K : PySem.W.Frag) : Sp := fun vs H Q _ => ∃ (v u : V) (a b : Pr), vs = [v, u] ∧ Dp K H v (encP a) ∧ Dp K H u (encP b) ∧ SzQ 1000 a ∧ SzQ 1000 b ∧ Q (.bl (belowB a b)) H
theorem dist_pos {a b c d : Int} (h : a * d < c * b) : dist (a, b) (c, d) = c * b - a * d ∧ dist (c, d) (a, b) = c * b - a * d := by
  unfold dist
  constructor
  · show ((c * b - a * d).natAbs : Int) = _
    omega
  · show ((a * d - c * b).natAbs : Int) = _
    omega
theorem Next.size {p q n a b c d : Int} (N : Next p q n a b c d) (hq : 0 < q) (hpb : p.natAbs < 2 ^ 250) (hnb : n.natAbs < 2 ^ 30) : SzQ 400 (a, b) ∧ SzQ 400 (c, d) := by
  obtain ⟨s1, s2⟩ := N.small hq
  have e1 : p.natAbs * n.natAbs < 2 ^ 250 * 2 ^ 30 := Nat.mul_lt_mul'' hpb hnb
  have e2 : (2 : Nat) ^ 250 * 2 ^ 30 + 1 < 2 ^ 400 := by decide
  have e3 : (2 : Nat) ^ 30 < 2 ^ 400 := by decide
  have := N.bn; have := N.dn; have := N.b0; have := N.d0
  refine ⟨⟨?_, ?_⟩, ⟨?_, ?_⟩⟩
  · show a.natAbs < 2 ^ 400
    generalize (2 : Nat) ^ 400 = B at e2 ⊢
    omega
  · show b.natAbs < 2 ^ 400
    generalize (2 : Nat) ^ 400 = B at e3 ⊢
    omega
  · show c.natAbs < 2 ^ 400
    generalize (2 : Nat) ^ 400 = B at e2 ⊢
    omega
  · show d.natAbs < 2 ^ 400
    generalize (2 : Nat) ^ 400 = B at e3 ⊢
    omega
theorem lowT_size {a b : Int} {n : Nat} (ha : a.natAbs < 2 ^ n) (hb : b.natAbs < 2 ^ n) : SzQ n (lowT a b) := ⟨Nat.lt_of_le_of_lt (Int.natAbs_ediv_le_natAbs _ _) ha, Nat.lt_of_le_of_lt (Int.natAbs_ediv_le_natAbs _ _) hb⟩
section
variable {P : Program} {w : World} {K : PySem.W.Frag} {mg : Str → Option Value} {base : Heap} {Z : Ad}
theorem ok_distance (T : Tx K w mg Z) : FnOk P w K mg base CX0 1 Z.a_distance Z.d_distance P_distance (spDist K) := by
  refine T.F_distance.ok scdistance (fun vs H Q E h => ?_) (fun cdv A outer s H vs Q E hr h => ?_)
  · obtain ⟨v, u, o, f, rfl, _⟩ := h
    rfl
  · obtain ⟨v, u, o, f, rfl, hv, hu, so, sf, k⟩ := h
    obtain ⟨a, rfl, ha⟩ := dp_pair hv
    obtain ⟨b, rfl, hb⟩ := dp_pair hu
    refine ⟨_, (pss_one (ps_ret (pe_callB call_abs (by rfl) T.b_abs (by decide +kernel) (pa_cons (pe_op op_sub (pe_op op_mulW (pe_ix (ixT (K := K)) (pv 1) pe_int (fun _ _ => rfl)) (pe_ix (ixT (K := K)) (pv 0) pe_int (fun _ _ => rfl))) (pe_op op_mulW (pe_ix (ixT (K := K)) (pv 0) pe_int (fun _ _ => rfl)) (pe_ix (ixT (K := K)) (pv 1) pe_int (fun _ _ => rfl)))) pa_nil)))), ?_⟩
    refine ⟨_, rfl, _, _, _, _, rfl, rfl, hb, rfl, _, rfl, _, _, _, _, rfl, rfl, ha, rfl, _, _, rfl, rfl, wide_mul sf.1 so.2 (by decide) (by decide) (by decide), _, rfl, _, _, _, _, rfl, rfl, ha, rfl, _, rfl, _, _, _, _, rfl, rfl, hb, rfl, _, _, rfl, rfl, wide_mul so.1 sf.2 (by decide) (by decide) (by decide), _, _, rfl, rfl, _, rfl, ?_⟩
    have e : (if f.1 * o.2 - o.1 * f.2 < 0 then -(f.1 * o.2 - o.1 * f.2) else f.1 * o.2 - o.1 * f.2) = dist o f := by
      unfold dist
      generalize f.1 * o.2 - o.1 * f.2 = x
      split <;> omega
    rw [e]
    exact k
theorem ok_nearer (T : Tx K w mg Z) : FnOk P w K mg base CX0 2 Z.a_nearer Z.d_nearer P_nearer (spNearer K) := by
  refine T.F_nearer.ok scnearer (fun vs H Q E h => ?_) (fun cdv A outer s H vs Q E hr h => ?_)
  · obtain ⟨v, u, z, m, o, f, n, rfl, _⟩ := h
    rfl
  · obtain ⟨v, u, z, m, o, f, n, rfl, hv, hu, hz, sm, so, sf, hn, hd, ho, k⟩ := h
    obtain ⟨a, rfl, ha⟩ := dp_pair hv
    obtain ⟨b, rfl, hb⟩ := dp_pair hu
    have dB : ∀ a b : Pr, SzQ 400 a → SzQ 400 b → (dist a b).natAbs < 2 ^ 802 := fun a b h1 h2 => by
      have e1 := sub_lt (lt_up (wide_lt h2.1 h1.2) (by decide : 400 + 400 ≤ 801)) (lt_up (wide_lt h1.1 h2.2) (by decide : 400 + 400 ≤ 801))
      unfold dist
      rw [Int.natAbs_natCast]
      exact e1
    refine ⟨_, (pss_cons (ps_set (i := 4) scnearer.nd rfl (Or.inl rfl) (pe_op op_fdivW (pe_call (ok_distance T) (hr.mono (by decide)) (by rfl) T.g_distance T.F_distance.kp T.bb_distance .nil pass0 (pa_cons (pv 0) (pa_cons (pv 2) pa_nil))) (pe_call (ok_distance T) (hr.mono (by decide)) (by rfl) T.g_distance T.F_distance.kp T.bb_distance .nil pass0 (pa_cons (pv 1) (pa_cons (pv 2) pa_nil)))))
      (pss_cons (ps_set (i := 4) scnearer.nd rfl (Or.inl rfl) (pe_callB (call_min2 rfl) (by rfl) T.b_min (by decide +kernel) (pa_cons (pv 4) (pa_cons (pe_op op_fdivW (pe_op op_sub (pv 3) (pe_ix (ixT (K := K)) (pv 0) pe_int (fun _ _ => rfl))) (pe_ix (ixT (K := K)) (pv 1) pe_int (fun _ _ => rfl))) pa_nil))))
      (pss_one (ps_ret (pe_tup (pa_cons (pe_op op_add (pe_ix (ixT (K := K)) (pv 0) pe_int (fun _ _ => rfl)) (pe_op op_mulW (pv 4) (pe_ix (ixT (K := K)) (pv 1) pe_int (fun _ _ => rfl)))) (pa_cons (pe_op op_add (pe_ix (ixT (K := K)) (pv 0) pe_int (fun _ _ => rfl)) (pe_op op_mulW (pv 4) (pe_ix (ixT (K := K)) (pv 1) pe_int (fun _ _ => rfl)))) pa_nil))))))), ?_⟩
    refine ⟨_, rfl, _, rfl, _, _, m, f, rfl, hv, hz, sm, sf, _, rfl, _, rfl, _, _, o, f, rfl, hu, hz, so, sf, _, _, rfl, rfl, wide_div hd (dB o f so sf) (by decide) (by decide), ?_⟩
    refine ⟨_, rfl, _, rfl, _, rfl, _, _, _, _, rfl, rfl, ha, rfl, _, _, rfl, rfl, _, rfl, _, _, _, _, rfl, rfl, hb, rfl, _, _, rfl, rfl, wide_div ho so.2 (by decide) (by decide), _, _, rfl, ?_⟩
    have e : (if (n - m.2) / o.2 < dist m f / dist o f then (n - m.2) / o.2 else dist m f / dist o f) = nearK m o f n := rfl
    have hk : (nearK m o f n).natAbs < 2 ^ 803 := by
      have h1 : (dist m f / dist o f).natAbs < 2 ^ 803 := div_lt hd (dB m f sm sf)
      have h2 : ((n - m.2) / o.2).natAbs < 2 ^ 803 := lt_up (div_lt ho (sub_lt hn sm.2)) (by decide)
      rw [← e]
      split
      · exact h2
      · exact h1
    rw [e]
    generalize nearK m o f n = kk at hk k ⊢
    refine ⟨_, rfl, _, _, _, _, rfl, rfl, ha, rfl, _, rfl, _, rfl, _, _, _, _, rfl, rfl, hb, rfl, _, _, rfl, rfl, wide_mul hk so.1 (by decide) (by decide) (by decide), _, _, rfl, rfl, _, rfl, _, _, _, _, rfl, rfl, ha, rfl, _, rfl, _, rfl, _, _, _, _, rfl, rfl, hb, rfl, _, _, rfl, rfl, wide_mul hk so.2 (by decide) (by decide) (by decide), _, _, rfl, rfl, (by show 2 ≤ sizeLine; decide), fun q hq => ?_⟩
    exact k _ _ (same_upd hq) (dp_two upd_same)
theorem ok_neighbours (T : Tx K w mg Z) : FnOk P w K mg base CX0 3 Z.a_neighbours Z.d_neighbours P_neighbours (spNeigh K) := by
  refine T.F_neighbours.ok scneighbours (fun vs H Q E h => ?_) (fun cdv A outer s H vs Q E hr h => ?_)
  · obtain ⟨v, p, q, n, rfl, _⟩ := h
    rfl
  · obtain ⟨v, p, q, n, rfl, hv, hq, hc, hpb, hqb, hn1, hnb, k⟩ := h
    obtain ⟨a, rfl, ha⟩ := dp_pair hv
    refine ⟨_, (C8.pss_cut (ps_if (pt_cmpR op_lt (pv 1) pe_int (nomark _)) (pss_one ps_never) pss_nil)
      (pss_cons (ps_asg (pv 0) (tupK (K := K) (by rfl) (pgs_cons (pg_name (i := 2) scneighbours.nd rfl (Or.inl rfl)) (pgs_cons (pg_name (i := 3) scneighbours.nd rfl (Or.inl rfl)) pgs_nil))))
      (C8.pss_cut (ps_if (pt_cmpR op_le (pv 3) (pv 1) (nomark _)) (pss_one (ps_ret (pe_tup (pa_cons (pe_tup (pa_cons (pv 2) (pa_cons (pv 3) pa_nil))) (pa_cons (pe_tup (pa_cons (pv 2) (pa_cons (pv 3) pa_nil))) pa_nil))))) pss_nil)
      (pss_cons (ps_set (i := 4) scneighbours.nd rfl (Or.inl rfl) (pe_tup (pa_cons (pe_op op_fdivW (pv 2) (pv 3)) (pa_cons pe_int pa_nil))))
      (pss_cons (ps_set (i := 5) scneighbours.nd rfl (Or.inl rfl) (pe_tup (pa_cons (pe_op op_add (pe_ix (ixT (K := K)) (pv 4) pe_int (fun _ _ => rfl)) pe_int) (pa_cons pe_int pa_nil))))
      (C8.pss_cut (ps_while PassesOwn.never (pt_cmpR op_le (pe_op op_add (pe_ix (ixT (K := K)) (pv 4) pe_int (fun _ _ => rfl)) (pe_ix (ixT (K := K)) (pv 5) pe_int (fun _ _ => rfl))) (pv 1) (nomark _)) (pss_cons (ps_set (i := 4) scneighbours.nd rfl (Or.inl rfl) (pe_call (ok_nearer T) (hr.mono (by decide)) (by rfl) T.g_nearer T.F_nearer.kp T.bb_nearer .nil pass0 (pa_cons (pv 4) (pa_cons (pv 5) (pa_cons (pv 0) (pa_cons (pv 1) pa_nil))))))
      (pss_one (ps_set (i := 5) scneighbours.nd rfl (Or.inl rfl) (pe_call (ok_nearer T) (hr.mono (by decide)) (by rfl) T.g_nearer T.F_nearer.kp T.bb_nearer .nil pass0 (pa_cons (pv 5) (pa_cons (pv 4) (pa_cons (pv 0) (pa_cons (pv 1) pa_nil)))))))))
      (pss_one (ps_ret (pe_tup (pa_cons (pv 4) (pa_cons (pv 5) pa_nil))))))))))), ?_⟩
    refine ⟨fun σ' H' => σ' = [some (.ref a), some (.int n), none, none, none, none] ∧ H' = H, ?_, ?_⟩
    · exact ⟨_, rfl, _, _, rfl, rfl, _, rfl, ite2 (fun c => (by have c' := of_decide_eq_true c; omega : False)) (fun _ => ⟨rfl, rfl⟩)⟩
    rintro σ1 H1 ⟨rfl, rfl⟩
    refine ⟨_, rfl, _, _, rfl, ha, rfl, _, _, rfl, _, _, rfl, rfl, ?_⟩
    refine ⟨fun σ' H' => σ' = [some (.ref a), some (.int n), some (.int p), some (.int q), none, none] ∧ H' = H1 ∧ n < q, ?_, ?_⟩
    · refine ⟨_, rfl, _, rfl, _, _, rfl, rfl, _, rfl, ite2 (fun c => ?_) (fun c => ⟨rfl, rfl, ?_⟩)⟩
      · have c' : q ≤ n := of_decide_eq_true c
        refine ⟨_, rfl, _, rfl, (by show 2 ≤ sizeLine; decide), fun q1 hq1 => ⟨_, rfl, _, rfl, (by show 2 ≤ sizeLine; decide), fun q2 hq2 => ⟨(by show 2 ≤ sizeLine; decide), fun q3 hq3 => ?_⟩⟩⟩
        have S1 := same_upd (o := HO.tup [V.int p, .int q]) hq1
        have S2 := same_upd (o := HO.tup [V.int p, .int q]) hq2
        have S3 := same_upd (o := HO.tup [V.ref q1, .ref q2]) hq3
        exact k _ _ (p, q) (p, q) ((S1.trans S2).trans S3) (.tup (SqT.of upd_same) (.cons (dp_two (S3 _ _ (S2 _ _ upd_same))) (.cons (dp_two (S3 _ _ upd_same)) .nil))) (low_self hq c' hc) (up_self hq c' hc) (fun h => by omega) (fun _ => ⟨rfl, rfl⟩) ⟨lt_up hpb (by decide), lt_up hqb (by decide)⟩ ⟨lt_up hpb (by decide), lt_up hqb (by decide)⟩
      · have c' : ¬ q ≤ n := fun h => c (decide_eq_true h)
        omega
    rintro σ2 H2 ⟨rfl, rfl, hnq⟩
    refine ⟨_, rfl, _, rfl, _, _, rfl, rfl, wide_div hq hqb (by decide) (by decide), (by show 2 ≤ sizeLine; decide), fun q1 hq1 => ?_⟩
    have S1 := same_upd (o := HO.tup [V.int (p / q), .int 1]) hq1
    have hd1 : Dp K (upd H2 q1 (.tup [V.int (p / q), .int 1])) (.ref q1) (encP (p / q, 1)) := dp_two upd_same
    refine ⟨_, rfl, _, _, _, _, rfl, rfl, SqT.of upd_same, rfl, _, _, rfl, rfl, (by show 2 ≤ sizeLine; decide), fun q2 hq2 => ?_⟩
    have S2 := same_upd (o := HO.tup [V.int (p / q + 1), .int 1]) hq2
    have hd2 : Dp K (upd (upd H2 q1 (.tup [V.int (p / q), .int 1])) q2 (.tup [V.int (p / q + 1), .int 1])) (.ref q2) (encP (p / q + 1, 1)) := dp_two upd_same
    have hd1' := dp_mono S2 _ _ hd1
    have S3 := S1.trans S2
    generalize upd (upd H2 q1 (.tup [V.int (p / q), .int 1])) q2 (.tup [V.int (p / q + 1), .int 1]) = H3 at hd1' hd2 S3 ⊢
    refine ⟨fun σ' H' => ∃ (x y : V) (la lb ua ub : Int), σ' = [some (.ref a), some (.int n), some (.int p), some (.int q), some x, some y] ∧ Same H2 H' ∧ Dp K H' x (encP (la, lb)) ∧ Dp K H' y (encP (ua, ub)) ∧ Next p q n la lb ua ub ∧ n < lb + ub, ?_, ?_⟩
    · refine ⟨fun m σ' H' => ∃ (x y : V) (la lb ua ub : Int), σ' = [some (.ref a), some (.int n), some (.int p), some (.int q), some x, some y] ∧ Same H2 H' ∧ Dp K H' x (encP (la, lb)) ∧ Dp K H' y (encP (ua, ub)) ∧ Next p q n la lb ua ub ∧ m = (2 * n - lb - ub).toNat, ⟨_, _, _, p / q, 1, p / q + 1, 1, rfl, S3, hd1', hd2, Next.first hq hc hnq hn1, rfl⟩, ?_⟩
      rintro m σ' H4 ⟨x, y, la, lb, ua, ub, rfl, S4, hx, hy, N, rfl⟩
      obtain ⟨xa, rfl, hxa⟩ := dp_pair hx
      obtain ⟨ya, rfl, hya⟩ := dp_pair hy
      refine ⟨_, rfl, _, _, _, _, rfl, rfl, hxa, rfl, _, rfl, _, _, _, _, rfl, rfl, hya, rfl, _, _, rfl, rfl, _, rfl, _, _, rfl, rfl, _, rfl, ?_⟩
      refine ite2 (fun c => ⟨fun σ' H' => ∃ m', m' < (2 * n - lb - ub).toNat ∧ ∃ (x y : V) (la lb ua ub : Int), σ' = [some (.ref a), some (.int n), some (.int p), some (.int q), some x, some y] ∧ Same H2 H' ∧ Dp K H' x (encP (la, lb)) ∧ Dp K H' y (encP (ua, ub)) ∧ Next p q n la lb ua ub ∧ m' = (2 * n - lb - ub).toNat, fun _ _ h => h, ?_⟩) (fun c => ?_)
      · have c' : lb + ub ≤ n := of_decide_eq_true c
        have sf : SzQ 400 (p, q) := ⟨lt_up hpb (by decide), lt_up hqb (by decide)⟩
        have hn4 : n.natAbs < 2 ^ 400 := lt_up hnb (by decide)
        have hv4 := dp_mono S4 _ _ hv
        obtain ⟨d1, d1'⟩ := dist_pos N.lo
        obtain ⟨d2, d2'⟩ := dist_pos (a := p) (b := q) (c := ua) (d := ub) N.up
        obtain ⟨NL, kL0, kL1⟩ := N.mvL hc hnq rfl
        have eK : nearK (la, lb) (ua, ub) (p, q) n = often (p * lb - la * q) (ua * q - p * ub) n lb ub := by
          unfold nearK
          rw [d1, d2']
        refine ⟨_, rfl, _, rfl, _, rfl, _, rfl, _, _, _, (la, lb), (ua, ub), (p, q), n, rfl, hx, hy, hv4, (N.size hq hpb hnb).1, (N.size hq hpb hnb).2, sf, hn4, by rw [d2']; have := N.up; omega, N.d0, fun H5 r S5 hr5 => ?_⟩
        rw [eK] at hr5
        generalize often (p * lb - la * q) (ua * q - p * ub) n lb ub = kL at hr5 NL kL0 kL1
        obtain ⟨d3, d3'⟩ := dist_pos NL.lo
        obtain ⟨NU, kU0, kU1⟩ := NL.mvU hc hnq rfl
        have eK2 : nearK (ua, ub) (la + kL * ua, lb + kL * ub) (p, q) n = often (ua * q - p * ub) (p * (lb + kL * ub) - (la + kL * ua) * q) n ub (lb + kL * ub) := by
          unfold nearK
          rw [d2', d3]
        refine ⟨_, rfl, _, rfl, _, rfl, _, rfl, _, _, _, (ua, ub), (la + kL * ua, lb + kL * ub), (p, q), n, rfl, dp_mono S5 _ _ hy, hr5, dp_mono S5 _ _ hv4, (N.size hq hpb hnb).2, (NL.size hq hpb hnb).1, sf, hn4, by rw [d3]; have := NL.lo; omega, NL.b0, fun H6 r2 S6 hr6 => ?_⟩
        rw [eK2] at hr6
        generalize often (ua * q - p * ub) (p * (lb + kL * ub) - (la + kL * ua) * q) n ub (lb + kL * ub) = kU at hr6 NU kU0 kU1
        refine ⟨(2 * n - (lb + kL * ub) - (ub + kU * (lb + kL * ub))).toNat, ?_, r, r2, la + kL * ua, lb + kL * ub, ua + kU * (la + kL * ua), ub + kU * (lb + kL * ub), rfl, (S4.trans S5).trans S6, dp_mono S6 _ _ hr5, hr6, NU, rfl⟩
        have g1 : 0 ≤ kL * ub := Int.mul_nonneg kL0 (Int.le_of_lt N.d0)
        have g2 : 0 ≤ kU * (lb + kL * ub) := Int.mul_nonneg kU0 (Int.le_of_lt NL.b0)
        have g3 : 1 ≤ kL * ub ∨ 1 ≤ kU * (lb + kL * ub) := by
          by_cases hcmp : ua * q - p * ub ≤ p * lb - la * q
          · left
            have h1 := kL1 hcmp c'
            have h2 : 1 * ub ≤ kL * ub := mul_le_r h1 (Int.le_of_lt N.d0)
            have := N.d0
            omega
          · by_cases hk0 : kL = 0
            · right
              subst hk0
              simp only [Int.zero_mul, Int.add_zero] at kU1
              have h1 := kU1 (by omega) (by omega)
              have h2 : 1 * (lb + 0 * ub) ≤ kU * (lb + 0 * ub) := mul_le_r h1 (Int.le_of_lt NL.b0)
              have := N.b0
              omega
            · left
              have h2 : 1 * ub ≤ kL * ub := mul_le_r (by omega) (Int.le_of_lt N.d0)
              have := N.d0
              omega
        have := NU.bn; have := NU.dn; have := N.bn; have := N.dn
        omega
      · have c' : ¬ lb + ub ≤ n := fun h => c (decide_eq_true h)
        exact ⟨_, _, la, lb, ua, ub, rfl, S4, hx, hy, N, by omega⟩
    rintro σ5 H5 ⟨x, y, la, lb, ua, ub, rfl, S5, hx, hy, N, hs⟩
    refine ⟨_, rfl, _, rfl, (by show 2 ≤ sizeLine; decide), fun q3 hq3 => ?_⟩
    have S6 := same_upd (o := HO.tup [x, y]) hq3
    exact k _ _ (la, lb) (ua, ub) (S5.trans S6) (.tup (SqT.of upd_same) (.cons (dp_mono S6 _ _ hx) (.cons (dp_mono S6 _ _ hy) .nil))) (N.low hq hs) (N.upp hq hs) (fun _ => ⟨N, hs⟩) (fun h => by omega) (N.size hq hpb hnb).1 (N.size hq hpb hnb).2
theorem ok_law_divisor (T : Tx K w mg Z) : FnOk P w K mg base CX0 1 Z.a_law_divisor Z.d_law_divisor P_law_divisor (spDivisor) := by
  refine T.F_law_divisor.ok sclaw_divisor (fun vs H Q E h => ?_) (fun cdv A outer s H vs Q E hr h => ?_)
  · obtain ⟨a, b, rfl, _⟩ := h
    rfl
  · obtain ⟨a, b, rfl, hb, k⟩ := h
    refine ⟨_, (C8.pss_cut (ps_while PassesOwn.never (pt_cmpR op_ne (pv 1) pe_int (nomark _)) (pss_one (ps_par (i := 0) (j := 1) (by rfl) sclaw_divisor.nd rfl rfl (by decide) rfl rfl (pa_cons (pv 1) (pa_cons (pe_op op_mod (pv 0) (pv 1)) pa_nil)) (by rfl))))
      (pss_one (ps_ret (pe_callB call_abs (by rfl) T.b_abs (by decide +kernel) (pa_cons (pv 0) pa_nil))))), ?_⟩
    refine ⟨fun σ' H' => ∃ x : Int, σ' = [some (.int x), some (.int 0)] ∧ H' = H ∧ Int.gcd a b = x.natAbs, ?_, ?_⟩
    · refine ⟨fun m σ' H' => ∃ x y : Int, σ' = [some (.int x), some (.int y)] ∧ H' = H ∧ 0 ≤ y ∧ Int.gcd x y = Int.gcd a b ∧ m = y.toNat, ⟨_, a, b, rfl, rfl, by omega, rfl, rfl⟩, ?_⟩
      rintro m σ' H1 ⟨x, y, rfl, rfl, hy, hg, rfl⟩
      refine ⟨_, rfl, rfl, _, rfl, ?_⟩
      refine ite2 (fun c => ⟨fun σ' H' => ∃ m', m' < y.toNat ∧ ∃ x y : Int, σ' = [some (.int x), some (.int y)] ∧ H' = H1 ∧ 0 ≤ y ∧ Int.gcd x y = Int.gcd a b ∧ m' = y.toNat, fun _ _ h => h, ?_⟩) (fun c => ?_)
      · have c' : y ≠ 0 := by
          intro e; subst e; simp at c
        have y0 : 0 < y := by omega
        refine ⟨_, rfl, _, rfl, _, rfl, _, _, rfl, rfl, y0, _, _, rfl, ?_⟩
        have m0 := Int.emod_nonneg x (show y ≠ 0 by omega)
        have m1 := Int.emod_lt_of_pos x y0
        refine ⟨_, ?_, y, x % y, rfl, rfl, m0, ?_, rfl⟩
        · omega
        · rw [← hg, Int.emod_def, Int.gcd_sub_mul_left_right, Int.gcd_comm]
      · have c' : y = 0 := by
          by_cases h : y = 0
          · exact h
          · exact absurd (by simp [h]) c
        subst c'
        exact ⟨x, rfl, rfl, by rw [← hg, Int.gcd_zero_right]⟩
    · rintro σ1 H1 ⟨x, rfl, rfl, hx⟩
      refine ⟨_, rfl, _, rfl, ?_⟩
      have e : (if x < 0 then -x else x) = (Int.gcd a b : Int) := by
        rw [hx]; split <;> omega
      rw [e]
      exact k
theorem ok_law_lowest (T : Tx K w mg Z) : FnOk P w K mg base CX0 2 Z.a_law_lowest Z.d_law_lowest P_law_lowest (spLowest K) := by
  refine T.F_law_lowest.ok sclaw_lowest (fun vs H Q E h => ?_) (fun cdv A outer s H vs Q E hr h => ?_)
  · obtain ⟨a, b, rfl, _⟩ := h
    rfl
  · obtain ⟨a, b, rfl, hb, hbb, k⟩ := h
    have g0 : 0 < Int.gcd a b := Int.gcd_pos_of_ne_zero_right a (by omega)
    have g1 : (Int.gcd a b : Int) ≤ b := Int.gcd_le_right a hb
    have g2 : ((Int.gcd a b : Int)).natAbs < 2 ^ 1000 := Nat.lt_of_le_of_lt (by omega) hbb
    refine ⟨_, (pss_cons (ps_set (i := 2) sclaw_lowest.nd rfl (Or.inl rfl) (pe_call (ok_law_divisor T) (hr.mono (by decide)) (by rfl) T.g_law_divisor T.F_law_divisor.kp T.bb_law_divisor .nil pass0 (pa_cons (pv 0) (pa_cons (pv 1) pa_nil))))
      (pss_one (ps_ret (pe_tup (pa_cons (pe_op op_fdivW (pv 0) (pv 2)) (pa_cons (pe_op op_fdivW (pv 1) (pv 2)) pa_nil)))))), ?_⟩
    refine ⟨_, rfl, _, rfl, a, b, rfl, hb, _, rfl, _, rfl, _, _, rfl, rfl, wide_div (by omega) g2 (by decide) (by decide), _, rfl, _, rfl, _, _, rfl, rfl, wide_div (by omega) g2 (by decide) (by decide), (by show 2 ≤ sizeLine; decide), fun q hq => ?_⟩
    exact k _ _ (same_upd hq) (dp_two upd_same)
theorem ok_law_below (T : Tx K w mg Z) : FnOk P w K mg base CX0 1 Z.a_law_below Z.d_law_below P_law_below (spBelowF K) := by
  refine T.F_law_below.ok sclaw_below (fun vs H Q E h => ?_) (fun cdv A outer s H vs Q E hr h => ?_)
  · obtain ⟨v, u, a, b, rfl, _⟩ := h
    rfl
  · obtain ⟨v, u, a, b, rfl, hv, hu, sa, sb, k⟩ := h
    obtain ⟨x, rfl, hx⟩ := dp_pair hv
    obtain ⟨y, rfl, hy⟩ := dp_pair hu
    refine ⟨_, (pss_one (ps_ret (pe_cmpR op_lt (pe_op op_mulW (pe_ix (ixT (K := K)) (pv 0) pe_int (fun _ _ => rfl)) (pe_ix (ixT (K := K)) (pv 1) pe_int (fun _ _ => rfl))) (pe_op op_mulW (pe_ix (ixT (K := K)) (pv 1) pe_int (fun _ _ => rfl)) (pe_ix (ixT (K := K)) (pv 0) pe_int (fun _ _ => rfl))) (nomark _)))), ?_⟩
    exact ⟨_, rfl, _, _, _, _, rfl, rfl, hx, rfl, _, rfl, _, _, _, _, rfl, rfl, hy, rfl, _, _, rfl, rfl, wide_mul sa.1 sb.2 (by decide) (by decide) (by decide), _, rfl, _, _, _, _, rfl, rfl, hy, rfl, _, rfl, _, _, _, _, rfl, rfl, hx, rfl, _, _, rfl, rfl, wide_mul sb.1 sa.2 (by decide) (by decide) (by decide), _, _, rfl, rfl, k⟩
end
end KA
namespace KA
open PySem PySem.Spec PyProof.Rows L2 DP
theorem shaped_encP (l : Pr) : SeqAt.shaped (encP l) = true := by
  unfold SeqAt.shaped
  simp [encP, PyData.canLay0, PyData.canLayAll0, PyData.depth, PyData.depthAll]
theorem eqv_encP (l : Pr) : PyData.eqv (encP l) (encP l) = true := by simp [encP, PyData.eqv, PyData.eqvAll]
def spLaw (K : PySem.W.Frag) : Sp := fun vs H Q _ => ∃ (a : Addr) (ns : List Int), vs = [.ref a] ∧ SqL K H a (ns.map V.int) ∧ ns.length ≤ 63 ∧ ∀ H', Q (.bl true) H'
/-- a bottom below 1 -/
def spNeighX (K : PySem.W.Frag) (CL : Addr) : Sp := fun vs H _ E => ∃ (v : V) (n : Int), vs = [v, .int n] ∧ n < 1 ∧ ∀ (dd : Addr) (H' : Hp), Same H H' → H' dd = some (.xd [(("what" : Str), .int n)]) → H dd = none → E (.ref CL) (some dd) H'
def spRight (K : PySem.W.Frag) : Sp := fun vs H Q _ => ∃ (v : V) (p q n : Int), vs = [v, .int n] ∧ Dp K H v (encP (p, q)) ∧ 0 < q ∧ Int.gcd p q = 1 ∧ p.natAbs < 2 ^ 250 ∧ q.natAbs < 2 ^ 250 ∧ 1 ≤ n ∧ n.natAbs < 2 ^ 30 ∧ ∀ H', Same H H' → Q (.bl true) H'
def spRefused (K : PySem.W.Frag) : Sp := fun vs H Q _ => ∃ (v : V) (n : Int), vs = [v, .int n] ∧ n < 1 ∧ ∀ H', Same H H' → Q (.bl true) H'
section
variable {P : Program} {w : World} {K : PySem.W.Frag} {mg : Str → Option Value} {base : Heap} {Z : Ad} {Y : AdX}
theorem okX_neighbours (T : Tx K w mg Z) (X : Ex P K mg Y) : FnOk P w K mg base (L2.CX P w) 3 Z.a_neighbours Z.d_neighbours P_neighbours (spNeighX K Y.c_NoBottom) := by
  refine T.F_neighbours.okX scneighbours (fun vs H Q E h => ?_) (fun cdv A outer s H vs Q E hr h => ?_)
  · obtain ⟨v, n, rfl, _⟩ := h
    rfl
  · obtain ⟨v, n, rfl, hn, k⟩ := h
    refine ⟨_, (C8.pss_cut (ps_if (pt_cmpR op_lt (pv 1) pe_int (nomark _)) (pss_one (ps_raise rfl (takes_of rfl rfl rfl rfl) (pmk_err X.NoBottom X.g_NoBottom T.b_super hr (pa_cons (pv 1) pa_nil)))) pss_nil)
      (pss_cons (ps_asg (pv 0) (tupK (K := K) (by rfl) (pgs_cons (pg_name (i := 2) scneighbours.nd rfl (Or.inl rfl)) (pgs_cons (pg_name (i := 3) scneighbours.nd rfl (Or.inl rfl)) pgs_nil))))
      (C8.pss_cut (ps_if (pt_cmpR op_le (pv 3) (pv 1) (nomark _)) (pss_one (ps_ret (pe_tup (pa_cons (pe_tup (pa_cons (pv 2) (pa_cons (pv 3) pa_nil))) (pa_cons (pe_tup (pa_cons (pv 2) (pa_cons (pv 3) pa_nil))) pa_nil))))) pss_nil)
      (pss_cons (ps_set (i := 4) scneighbours.nd rfl (Or.inl rfl) (pe_tup (pa_cons (pe_op op_fdivW (pv 2) (pv 3)) (pa_cons pe_int pa_nil))))
      (pss_cons (ps_set (i := 5) scneighbours.nd rfl (Or.inl rfl) (pe_tup (pa_cons (pe_op op_add (pe_ix (ixT (K := K)) (pv 4) pe_int (fun _ _ => rfl)) pe_int) (pa_cons pe_int pa_nil))))
      (C8.pss_cut (ps_while (passes_of rfl) (pt_cmpR op_le (pe_op op_add (pe_ix (ixT (K := K)) (pv 4) pe_int (fun _ _ => rfl)) (pe_ix (ixT (K := K)) (pv 5) pe_int (fun _ _ => rfl))) (pv 1) (nomark _)) (pss_cons (ps_set (i := 4) scneighbours.nd rfl (Or.inl rfl) (pe_call (ok_nearer T) (hr.mono (by decide)) (by rfl) T.g_nearer T.F_nearer.kp T.bb_nearer .nil pass0 (pa_cons (pv 4) (pa_cons (pv 5) (pa_cons (pv 0) (pa_cons (pv 1) pa_nil))))))
      (pss_one (ps_set (i := 5) scneighbours.nd rfl (Or.inl rfl) (pe_call (ok_nearer T) (hr.mono (by decide)) (by rfl) T.g_nearer T.F_nearer.kp T.bb_nearer .nil pass0 (pa_cons (pv 5) (pa_cons (pv 4) (pa_cons (pv 0) (pa_cons (pv 1) pa_nil)))))))))
      (pss_one (ps_ret (pe_tup (pa_cons (pv 4) (pa_cons (pv 5) pa_nil))))))))))), ?_⟩
    refine ⟨fun _ _ => False, ?_, fun _ _ z => z.elim⟩
    refine ⟨_, rfl, _, _, rfl, rfl, _, rfl, ite2 (fun c => ?_) (fun c => c (decide_eq_true hn))⟩
    exact ⟨_, rfl, _, rfl, fun dd hdd => k dd _ (same_upd hdd) upd_same hdd⟩
theorem ok_law_right (T : Tx K w mg Z) : FnOk P w K mg base CX0 4 Z.a_law_right Z.d_law_right P_law_right (spRight K) := by
  refine T.F_law_right.ok sclaw_right (fun vs H Q E h => ?_) (fun cdv A outer s H vs Q E hr h => ?_)
  · obtain ⟨v, p, q, n, rfl, _⟩ := h
    rfl
  · obtain ⟨v, p, q, n, rfl, hv, hq, hc, hpb, hqb, hn1, hnb, k⟩ := h
    refine ⟨_, (pss_cons (ps_asg (pe_call (ok_neighbours T) (hr.mono (by decide)) (by rfl) T.g_neighbours T.F_neighbours.kp T.bb_neighbours .nil pass0 (pa_cons (pv 0) (pa_cons (pv 1) pa_nil))) (tupK (K := K) (by rfl) (pgs_cons (pg_name (i := 2) sclaw_right.nd rfl (Or.inl rfl)) (pgs_cons (pg_name (i := 3) sclaw_right.nd rfl (Or.inl rfl)) pgs_nil))))
      (C8.pss_cut (ps_if (pt_cmpR op_le (pe_ix (ixT (K := K)) (pv 0) pe_int (fun _ _ => rfl)) (pv 1) (nomark _)) (pss_one (ps_ret (pe_and (pe_cmpR (eqDK (K := K) hr.units) (pv 2) (pv 0) (nomark _)) (pe_one (pe_cmpR (eqDK (K := K) hr.units) (pv 3) (pv 0) (nomark _)))))) pss_nil)
      (C8.pss_cut (ps_if (PW.pt (pw_or (pt_cmpR op_ne (pe_op op_sub (pe_op op_mulW (pe_ix (ixT (K := K)) (pv 3) pe_int (fun _ _ => rfl)) (pe_ix (ixT (K := K)) (pv 2) pe_int (fun _ _ => rfl))) (pe_op op_mulW (pe_ix (ixT (K := K)) (pv 2) pe_int (fun _ _ => rfl)) (pe_ix (ixT (K := K)) (pv 3) pe_int (fun _ _ => rfl)))) pe_int (nomark _)) (pw_or1 (pt_cmpR op_le (pe_op op_add (pe_ix (ixT (K := K)) (pv 2) pe_int (fun _ _ => rfl)) (pe_ix (ixT (K := K)) (pv 3) pe_int (fun _ _ => rfl))) (pv 1) (nomark _))))) (pss_one (ps_ret pe_bl)) pss_nil)
      (C8.pss_cut (ps_if (PW.pt (pw_or (pt_cmpR op_lt (pe_callB (call_min2 rfl) (by rfl) T.b_min (by decide +kernel) (pa_cons (pe_ix (ixT (K := K)) (pv 2) pe_int (fun _ _ => rfl)) (pa_cons (pe_ix (ixT (K := K)) (pv 3) pe_int (fun _ _ => rfl)) pa_nil))) pe_int (nomark _)) (pw_or1 (pt_cmpR op_gt (pe_callB (call_max2 rfl) (by rfl) T.b_max (by decide +kernel) (pa_cons (pe_ix (ixT (K := K)) (pv 2) pe_int (fun _ _ => rfl)) (pa_cons (pe_ix (ixT (K := K)) (pv 3) pe_int (fun _ _ => rfl)) pa_nil))) (pv 1) (nomark _))))) (pss_one (ps_ret pe_bl)) pss_nil)
      (pss_one (ps_ret (pe_and (pe_call (ok_law_below T) (hr.mono (by decide)) (by rfl) T.g_law_below T.F_law_below.kp T.bb_law_below .nil pass0 (pa_cons (pv 2) (pa_cons (pv 0) pa_nil))) (pe_one (pe_call (ok_law_below T) (hr.mono (by decide)) (by rfl) T.g_law_below T.F_law_below.kp T.bb_law_below .nil pass0 (pa_cons (pv 0) (pa_cons (pv 3) pa_nil))))))))))), ?_⟩
    refine ⟨_, rfl, _, rfl, v, p, q, n, rfl, hv, hq, hc, hpb, hqb, hn1, hnb, fun H1 r lo up S1 hr1 hlo hup hnx hsf zl zu => ?_⟩
    obtain ⟨ra, x, y, rfl, hra, hx, hy⟩ := dp_both hr1
    refine ⟨_, _, rfl, hra, rfl, _, _, rfl, _, _, rfl, rfl, ?_⟩
    have hv1 := dp_mono S1 _ _ hv
    obtain ⟨va, rfl, hva⟩ := dp_pair hv1
    obtain ⟨xa, rfl, hxa⟩ := dp_pair hx
    obtain ⟨ya, rfl, hya⟩ := dp_pair hy
    have sz : SzQ 1000 (p, q) := ⟨lt_up hpb (by decide), lt_up hqb (by decide)⟩
    have zl1 : SzQ 1000 lo := ⟨lt_up zl.1 (by decide), lt_up zl.2 (by decide)⟩
    have zu1 : SzQ 1000 up := ⟨lt_up zu.1 (by decide), lt_up zu.2 (by decide)⟩
    refine ⟨fun σ' H' => σ' = [some (.ref va), some (.int n), some (.ref xa), some (.ref ya)] ∧ H' = H1 ∧ n < q, ?_, ?_⟩
    · refine ⟨_, rfl, _, _, _, _, rfl, rfl, hva, rfl, _, rfl, _, _, rfl, rfl, _, rfl, ite2 (fun c => ?_) (fun c => ⟨rfl, rfl, ?_⟩)⟩
      · have c' : q ≤ n := of_decide_eq_true c
        obtain ⟨rfl, rfl⟩ := hsf c'
        refine ⟨_, rfl, _, rfl, _, _, hx, hv1, shaped_encP _, shaped_encP _, _, rfl, ?_⟩
        rw [eqv_encP]
        refine iteT ?_
        refine ⟨_, rfl, _, rfl, _, _, hy, hv1, shaped_encP _, shaped_encP _, ?_⟩
        rw [eqv_encP]
        exact k H1 S1
      · have c' : ¬ q ≤ n := fun h => c (decide_eq_true h)
        omega
    rintro σ2 H2 ⟨rfl, rfl, hnq⟩
    obtain ⟨N, hs⟩ := hnx hnq
    obtain ⟨a, b⟩ := lo
    obtain ⟨c, d⟩ := up
    have det : c * b - a * d = 1 := N.det
    have hb0 : 0 < b := N.b0
    have hd0 : 0 < d := N.d0
    have hbn : b ≤ n := N.bn
    have hdn : d ≤ n := N.dn
    have hs' : n < b + d := hs
    have hlo1 : a * q < p * b := N.lo
    have hup1 : p * d < c * q := N.up
    refine ⟨fun σ' H' => σ' = [some (.ref va), some (.int n), some (.ref xa), some (.ref ya)] ∧ H' = H2, ?_, ?_⟩
    · refine ⟨_, rfl, _, _, _, _, rfl, rfl, hya, rfl, _, rfl, _, _, _, _, rfl, rfl, hxa, rfl, _, _, rfl, rfl, wide_mul zu1.1 zl1.2 (by decide) (by decide) (by decide), _, rfl, _, _, _, _, rfl, rfl, hxa, rfl, _, rfl, _, _, _, _, rfl, rfl, hya, rfl, _, _, rfl, rfl, wide_mul zl1.1 zu1.2 (by decide) (by decide) (by decide), _, _, rfl, rfl, rfl, _, rfl, ?_⟩
      refine ite2 (fun c1 => ?_) (fun _ => ?_)
      · exfalso
        simp at c1
        exact c1 det
      · refine ⟨_, rfl, _, _, _, _, rfl, rfl, hxa, rfl, _, rfl, _, _, _, _, rfl, rfl, hya, rfl, _, _, rfl, rfl, _, rfl, _, _, rfl, rfl, _, rfl, ?_⟩
        refine ite2 (fun c2 => ?_) (fun _ => ⟨rfl, rfl⟩)
        have h2 : b + d ≤ n := of_decide_eq_true c2
        omega
    rintro σ3 H3 ⟨rfl, rfl⟩
    refine ⟨fun σ' H' => σ' = [some (.ref va), some (.int n), some (.ref xa), some (.ref ya)] ∧ H' = H3, ?_, ?_⟩
    · refine ⟨_, rfl, _, _, _, _, rfl, rfl, hxa, rfl, _, rfl, _, _, _, _, rfl, rfl, hya, rfl, _, _, rfl, _, _, rfl, rfl, _, rfl, ?_⟩
      refine ite2 (fun c1 => ?_) (fun _ => ?_)
      · exfalso
        have h1 : (if d < b then d else b) < 1 := of_decide_eq_true c1
        split at h1 <;> omega
      · refine ⟨_, rfl, _, _, _, _, rfl, rfl, hxa, rfl, _, rfl, _, _, _, _, rfl, rfl, hya, rfl, _, _, rfl, _, rfl, _, _, rfl, rfl, _, rfl, ?_⟩
        refine ite2 (fun c2 => ?_) (fun _ => ⟨rfl, rfl⟩)
        exfalso
        have h2 : (if d > b then d else b) > n := of_decide_eq_true c2
        split at h2 <;> omega
    rintro σ4 H4 ⟨rfl, rfl⟩
    refine ⟨_, rfl, _, rfl, _, _, (a, b), (p, q), rfl, hx, hv1, zl1, sz, _, rfl, ?_⟩
    have e1 : belowB (a, b) (p, q) = true := decide_eq_true hlo1
    have e2 : belowB (p, q) (c, d) = true := decide_eq_true hup1
    rw [e1]
    refine iteT ⟨_, rfl, _, rfl, _, _, (p, q), (c, d), rfl, hv1, hy, sz, zu1, ?_⟩
    rw [e2]
    exact k H4 S1
theorem ok_law_refused (T : Tx K w mg Z) (X : Ex P K mg Y) : FnOk P w K mg base CX0 4 Z.a_law_refused Z.d_law_refused P_law_refused (spRefused K) := by
  refine T.F_law_refused.ok sclaw_refused (fun vs H Q E h => ?_) (fun cdv A outer s H vs Q E hr h => ?_)
  · obtain ⟨v, n, rfl, _⟩ := h
    rfl
  · obtain ⟨v, n, rfl, hn, k⟩ := h
    refine ⟨_, (pss_cons (EK.ps_try_keep (i := 2) (tb := fun W => tDrop (tCallS (spNeighX K Y.c_NoBottom) (WE W) (tCons (tVar 0) (tCons (tVar 1) tNil)))) (Wout := fun _ _ _ _ => False) rfl rfl rfl sclaw_refused.nd rfl rfl ⟨rfl, by decide, Or.inl X.g_DialError⟩ takes0
        (fun W pn xe tk _ => (pss_one (ps_expr (pe_callS (okX_neighbours T X) (hr.mono (by decide)) (by rfl) T.g_neighbours T.F_neighbours.kp T.bb_neighbours (fun σ => passAt tk σ) (pa_cons (pv 0) (pa_cons (pv 1) pa_nil))))))
        (fun _ _ => (C8.pss_cut (ps_if (pt_val (pe_callB (EK.call_isiET (K := K)) (by rfl) T.b_isinstance (by decide +kernel) (pa_cons (pv 2) (pa_cons (pe_tup (pa_cons (pe_glob (v := .ref Y.c_Clash) rfl X.g_Clash rfl) (pa_cons (pe_glob (v := .ref Y.c_NoLength) rfl X.g_NoLength rfl) (pa_cons (pe_glob (v := .ref Y.c_NoLook) rfl X.g_NoLook rfl) (pa_cons (pe_glob (v := .ref Y.c_NoRing) rfl X.g_NoRing rfl) (pa_cons (pe_glob (v := .ref Y.c_NoRound) rfl X.g_NoRound rfl) (pa_cons (pe_glob (v := .ref Y.c_NoSide) rfl X.g_NoSide rfl) (pa_cons (pe_glob (v := .ref Y.c_NoSteps) rfl X.g_NoSteps rfl) (pa_cons (pe_glob (v := .ref Y.c_NoText) rfl X.g_NoText rfl) (pa_cons (pe_glob (v := .ref Y.c_NoUses) rfl X.g_NoUses rfl) (pa_cons (pe_glob (v := .ref Y.c_NoWord) rfl X.g_NoWord rfl) pa_nil))))))))))) pa_nil)))) (pss_one (ps_ret pe_bl)) pss_nil)
      (pss_one (ps_ret (pe_and (pe_callB (EK.call_isiE (K := K)) (by rfl) T.b_isinstance (by decide +kernel) (pa_cons (pv 2) (pa_cons (pe_glob (v := .ref Y.c_NoBottom) rfl X.g_NoBottom rfl) pa_nil))) (pe_and (pe_callB (EK.call_isiE (K := K)) (by rfl) T.b_isinstance (by decide +kernel) (pa_cons (pv 2) (pa_cons (pe_bltn (v := .ty "ValueError") (by rfl) T.b_ValueError (by decide +kernel) rfl) pa_nil))) (pe_one (pe_cmpR op_eq (EK.pe_exf (K := K) (pv 2)) (pv 1) (nomark _))))))))))
      (pss_one (ps_ret pe_bl))), ?_⟩
    refine ⟨_, rfl, _, rfl, v, n, rfl, hn, fun dd H1 S1 hd hdn => ⟨true, X.d_NoBottom, fun _ a ha => ?_, fun q => Bool.noConfusion q⟩⟩
    have S2 := same_upd (o := EK.ExV (.ref Y.c_NoBottom) (some dd) a) ha
    have hh : EK.Held K (upd H1 a (EK.ExV (.ref Y.c_NoBottom) (some dd) a)) a Y.c_NoBottom [(("what" : Str), .int n)] := ⟨dd, upd_same, S2 _ _ hd, X.x_NoBottom⟩
    have S12 := S1.trans S2
    generalize upd H1 a (EK.ExV (.ref Y.c_NoBottom) (some dd) a) = H2 at hh S12 ⊢
    refine ⟨fun σ' H' => σ' = [some v, some (.int n), some (.ref a)] ∧ Same H2 H', ?_, ?_⟩
    · refine ⟨_, rfl, (by show 10 ≤ sizeLine; decide), fun tp htp => ?_⟩
      have S3 := same_upd (o := HO.tup [V.ref Y.c_Clash, .ref Y.c_NoLength, .ref Y.c_NoLook, .ref Y.c_NoRing, .ref Y.c_NoRound, .ref Y.c_NoSide, .ref Y.c_NoSteps, .ref Y.c_NoText, .ref Y.c_NoUses, .ref Y.c_NoWord]) htp
      refine ⟨a, Y.c_NoBottom, _, tp, _, _, false, rfl, hh.same S3, upd_same, .cons (.own _) (.cons (.own _) (.cons (.own _) (.cons (.own _) (.cons (.own _) (.cons (.own _) (.cons (.own _) (.cons (.own _) (.cons (.own _) (.cons (.own _) .nil))))))))), ?_, _, rfl, iteF ⟨rfl, S3⟩⟩
      exact kitAny_cons X.k_NoBottom_Clash (fun _ => kitAny_cons X.k_NoBottom_NoLength (fun _ => kitAny_cons X.k_NoBottom_NoLook (fun _ => kitAny_cons X.k_NoBottom_NoRing (fun _ => kitAny_cons X.k_NoBottom_NoRound (fun _ => kitAny_cons X.k_NoBottom_NoSide (fun _ => kitAny_cons X.k_NoBottom_NoSteps (fun _ => kitAny_cons X.k_NoBottom_NoText (fun _ => kitAny_cons X.k_NoBottom_NoUses (fun _ => kitAny_cons X.k_NoBottom_NoWord (fun _ => rfl) nofun) nofun) nofun) nofun) nofun) nofun) nofun) nofun) nofun) nofun
    · rintro σ3 H3 ⟨rfl, S3⟩
      have hh3 := hh.same S3
      refine ⟨_, rfl, a, Y.c_NoBottom, _, _, _, true, rfl, hh3, .own _, kit_self K _, _, rfl, iteT ?_⟩
      refine ⟨_, rfl, a, Y.c_NoBottom, _, _, _, true, rfl, hh3, .ty _, X.kv_NoBottom, _, rfl, iteT ?_⟩
      refine ⟨_, rfl, a, Y.c_NoBottom, _, _, rfl, hh3, X.x_NoBottom.what, rfl, _, rfl, rfl, ?_⟩
      have e : decide ((V.int n) = .int n) = true := by simp
      exact (by simpa using k H3 (S12.trans S3))
theorem ok_law (T : Tx K w mg Z) (X : Ex P K mg Y) : FnOk P w K mg base CX0 6 Z.a_law Z.d_law P_law (spLaw K) := by
  refine T.F_law.ok sclaw (fun vs H Q E h => ?_) (fun cdv A outer s H vs Q E hr h => ?_)
  · obtain ⟨a, ns, rfl, _⟩ := h
    rfl
  · obtain ⟨a, ns, rfl, hS, hlen, k⟩ := h
    refine ⟨_, (pss_cons (ps_set (i := 1) sclaw.nd rfl (Or.inl rfl) (pe_call (ok_law_bag T) (hr.mono (by decide)) (by rfl) T.g_law_bag T.F_law_bag.kp T.bb_law_bag .nil pass0 (pa_cons (pv 0) pa_nil)))
      (pss_cons (ps_for PassesOwn.never rfl (pi_range1 (by rfl) T.b_range (pa_cons (pe_op op_add pe_int (pe_callB (call_min2 rfl) (by rfl) T.b_min (by decide +kernel) (pa_cons pe_int (pa_cons (pe_callB (lenK (K := K)) (by rfl) T.b_len (by decide +kernel) (pa_cons (pv 0) pa_nil)) pa_nil)))) pa_nil)) (pg_name (i := 2) sclaw.nd rfl (Or.inl rfl)) (pss_cons (ps_set (i := 3) sclaw.nd rfl (Or.inl rfl) (pe_op op_mulW (pe_call (ok_law_draw T) (hr.mono (by decide)) (by rfl) T.g_law_draw T.F_law_draw.kp T.bb_law_draw .nil pass0 (pa_cons (pv 1) (pa_cons (pe_ix (ixT (K := K)) (pe_tup (pa_cons pe_int (pa_cons (pe_op op_pow pe_int pe_int) pa_nil))) (pe_call (ok_law_draw T) (hr.mono (by decide)) (by rfl) T.g_law_draw T.F_law_draw.kp T.bb_law_draw .nil pass0 (pa_cons (pv 1) (pa_cons pe_int pa_nil))) (fun _ _ => rfl)) pa_nil))) (pe_ix (ixT (K := K)) (pe_tup (pa_cons pe_int (pa_cons (pe_un un_neg pe_int) pa_nil))) (pe_call (ok_law_draw T) (hr.mono (by decide)) (by rfl) T.g_law_draw T.F_law_draw.kp T.bb_law_draw .nil pass0 (pa_cons (pv 1) (pa_cons pe_int pa_nil))) (fun _ _ => rfl))))
      (pss_cons (ps_set (i := 4) sclaw.nd rfl (Or.inl rfl) (pe_call (ok_law_lowest T) (hr.mono (by decide)) (by rfl) T.g_law_lowest T.F_law_lowest.kp T.bb_law_lowest .nil pass0 (pa_cons (pv 3) (pa_cons (pe_op op_add pe_int (pe_call (ok_law_draw T) (hr.mono (by decide)) (by rfl) T.g_law_draw T.F_law_draw.kp T.bb_law_draw .nil pass0 (pa_cons (pv 1) (pa_cons (pe_ix (ixT (K := K)) (pe_tup (pa_cons pe_int (pa_cons pe_int (pa_cons (pe_op op_pow pe_int pe_int) pa_nil)))) (pe_call (ok_law_draw T) (hr.mono (by decide)) (by rfl) T.g_law_draw T.F_law_draw.kp T.bb_law_draw .nil pass0 (pa_cons (pv 1) (pa_cons pe_int pa_nil))) (fun _ _ => rfl)) pa_nil)))) pa_nil))))
      (pss_cons (ps_set (i := 5) sclaw.nd rfl (Or.inl rfl) (pe_op op_add pe_int (pe_call (ok_law_draw T) (hr.mono (by decide)) (by rfl) T.g_law_draw T.F_law_draw.kp T.bb_law_draw .nil pass0 (pa_cons (pv 1) (pa_cons (pe_ix (ixT (K := K)) (pe_tup (pa_cons pe_int (pa_cons pe_int (pa_cons pe_int pa_nil)))) (pe_call (ok_law_draw T) (hr.mono (by decide)) (by rfl) T.g_law_draw T.F_law_draw.kp T.bb_law_draw .nil pass0 (pa_cons (pv 1) (pa_cons pe_int pa_nil))) (fun _ _ => rfl)) pa_nil)))))
      (C8.pss_cut (ps_if (PW.pt (pw_or (pt_not (pt_val (pe_call (ok_law_right T) (hr.mono (by decide)) (by rfl) T.g_law_right T.F_law_right.kp T.bb_law_right .nil pass0 (pa_cons (pv 4) (pa_cons (pv 5) pa_nil))))) (pw_or1 (pt_not (pt_val (pe_call (ok_law_right T) (hr.mono (by decide)) (by rfl) T.g_law_right T.F_law_right.kp T.bb_law_right .nil pass0 (pa_cons (pv 4) (pa_cons (pe_op op_add pe_int (pe_call (ok_law_draw T) (hr.mono (by decide)) (by rfl) T.g_law_draw T.F_law_draw.kp T.bb_law_draw .nil pass0 (pa_cons (pv 1) (pa_cons (pv 5) pa_nil)))) pa_nil)))))))) (pss_one (ps_ret pe_bl)) pss_nil)
      (pss_cons (ps_par (i := 6) (j := 7) (by rfl) sclaw.nd rfl rfl (by decide) rfl rfl (pa_cons (pe_call (ok_neighbours T) (hr.mono (by decide)) (by rfl) T.g_neighbours T.F_neighbours.kp T.bb_neighbours .nil pass0 (pa_cons (pv 4) (pa_cons (pe_op op_add pe_int (pe_op op_fdivW (pv 5) pe_int)) pa_nil))) (pa_cons (pe_call (ok_neighbours T) (hr.mono (by decide)) (by rfl) T.g_neighbours T.F_neighbours.kp T.bb_neighbours .nil pass0 (pa_cons (pv 4) (pa_cons (pv 5) pa_nil))) pa_nil)) (by rfl))
      (C8.pss_cut (ps_if (PW.pt (pw_or (pt_val (pe_call (ok_law_below T) (hr.mono (by decide)) (by rfl) T.g_law_below T.F_law_below.kp T.bb_law_below .nil pass0 (pa_cons (pe_ix (ixT (K := K)) (pv 7) pe_int (fun _ _ => rfl)) (pa_cons (pe_ix (ixT (K := K)) (pv 6) pe_int (fun _ _ => rfl)) pa_nil)))) (pw_or1 (pt_val (pe_call (ok_law_below T) (hr.mono (by decide)) (by rfl) T.g_law_below T.F_law_below.kp T.bb_law_below .nil pass0 (pa_cons (pe_ix (ixT (K := K)) (pv 6) pe_int (fun _ _ => rfl)) (pa_cons (pe_ix (ixT (K := K)) (pv 7) pe_int (fun _ _ => rfl)) pa_nil))))))) (pss_one (ps_ret pe_bl)) pss_nil)
      (pss_one (ps_if (pt_not (pt_val (pe_call (ok_law_refused T X) (hr.mono (by decide)) (by rfl) T.g_law_refused T.F_law_refused.kp T.bb_law_refused .nil pass0 (pa_cons (pv 4) (pa_cons (pe_op op_sub pe_int (pe_ix (ixT (K := K)) (pe_tup (pa_cons pe_int (pa_cons pe_int (pa_cons (pe_op op_pow pe_int pe_int) pa_nil)))) (pe_call (ok_law_draw T) (hr.mono (by decide)) (by rfl) T.g_law_draw T.F_law_draw.kp T.bb_law_draw .nil pass0 (pa_cons (pv 1) (pa_cons pe_int pa_nil))) (fun _ _ => rfl))) pa_nil))))) (pss_one (ps_ret pe_bl)) pss_nil)))))))))
      (pss_one (ps_ret pe_bl)))), ?_⟩
    refine ⟨_, rfl, a, ns, rfl, hS, hlen, fun H0 t g T0 S0 ht hg => ?_⟩
    refine ⟨_, rfl, a, _, rfl, .inl (Same.sqL S0 hS), _, _, rfl, _, _, rfl, rfl, ?_⟩
    obtain ⟨cut, hcut⟩ : ∃ cut, cut = (if ((ns.map V.int).length : Int) < 3 then ((ns.map V.int).length : Int) else 3) := ⟨_, rfl⟩
    have hc0 : 0 ≤ cut := by rw [hcut]; split <;> omega
    have hc4 : cut ≤ 3 := by rw [hcut]; split <;> omega
    refine ⟨1 + cut, by rw [hcut], by omega, by omega, ?_⟩
    refine for_range (n := (1 + cut).toNat) (fun i σ' H' => ∃ (u2 u3 u4 u5 u6 u7 : Option V), σ' = [some (.ref a), some (.ref t), u2, u3, u4, u5, u6, u7] ∧ Tray H' t g (10 * i)) ⟨_, _, _, _, _, _, rfl, T0⟩ ?_ ?_
    rotate_left
    · rintro σ' H' ⟨_, _, _, _, _, _, rfl, _⟩
      exact k H'
    rintro i σ' H1 hi ⟨u2, u3, u4, u5, u6, u7, rfl, T1⟩
    have hn : ∀ m, m ≤ 10 * i + 10 → m < 2 ^ 60 := fun m hm => Nat.lt_of_le_of_lt (by omega : m ≤ 1000) (by decide)
    have e59 : (10 : Int) ^ (59 : Int).toNat = 100000000000000000000000000000000000000000000000000000000000 := by decide
    have e29 : (10 : Int) ^ (29 : Int).toNat = 100000000000000000000000000000 := by decide
    have e200 : (2 : Nat) ^ 200 = 1606938044258990275541962092341162602522202993782792835301376 := by decide
    -- top
    refine ⟨_, rfl, _, _, rfl, rfl, ⟨by decide, by decide, by decide⟩, (by show 2 ≤ sizeLine; decide), fun p hp => ?_⟩
    obtain ⟨pt, pg⟩ := T1.at_ne hp
    have T2 := T1.same (same_upd (o := HO.tup [V.int 90, .int ((10 : Int) ^ (59 : Int).toNat)]) hp)
    refine ⟨_, rfl, t, g, 10 * i, 2, rfl, T2, by decide, by decide, hn _ (by omega), fun H3 c c0 c1 T3 k3 => ?_⟩
    obtain ⟨z, hz, hz0, hz1⟩ : ∃ z : Int, atI [V.int 90, .int ((10 : Int) ^ (59 : Int).toNat)] c = some (.int z) ∧ 0 < z ∧ z.natAbs < 2 ^ 200 := by
      have : c = 0 ∨ c = 1 := by omega
      rcases this with e | e <;> rw [e]
      · exact ⟨90, rfl, by decide, by decide⟩
      · exact ⟨_, rfl, by rw [e59]; decide, by rw [e59, e200]; decide⟩
    refine ⟨p, _, _, _, rfl, rfl, SqT.of (k3 _ _ upd_same pt pg), hz, ?_⟩
    refine ⟨t, g, 10 * i + 1, z, rfl, T3, hz0, lt_up hz1 (by decide), hn _ (by omega), fun H4 r r0 r1 T4 k4 => ?_⟩
    refine ⟨_, rfl, (by show 2 ≤ sizeLine; decide), fun p2 hp2 => ?_⟩
    obtain ⟨p2t, p2g⟩ := T4.at_ne hp2
    have T5 := T4.same (same_upd (o := HO.tup [V.int 1, .int (-1)]) hp2)
    refine ⟨_, rfl, t, g, 10 * i + 2, 2, rfl, T5, by decide, by decide, hn _ (by omega), fun H6 c2 c20 c21 T6 k6 => ?_⟩
    obtain ⟨sg, hsg, hsg1⟩ : ∃ z : Int, atI [V.int 1, .int (-1)] c2 = some (.int z) ∧ z.natAbs < 2 ^ 1 := by
      have : c2 = 0 ∨ c2 = 1 := by omega
      rcases this with e | e <;> subst e
      · exact ⟨1, rfl, by decide⟩
      · exact ⟨-1, rfl, by decide⟩
    have hrb : r.natAbs < 2 ^ 200 := Nat.lt_of_le_of_lt (by omega) hz1
    have htop : (r * sg).natAbs < 2 ^ 201 := wide_lt hrb hsg1
    refine ⟨p2, _, _, _, rfl, rfl, SqT.of (k6 _ _ upd_same p2t p2g), hsg, _, _, rfl, rfl, wide_mul hrb hsg1 (by decide) (by decide) (by decide), ?_⟩
    -- pace
    refine ⟨_, rfl, _, rfl, _, _, rfl, rfl, ⟨by decide, by decide, by decide⟩, (by show 3 ≤ sizeLine; decide), fun p3 hp3 => ?_⟩
    obtain ⟨p3t, p3g⟩ := T6.at_ne hp3
    have T7 := T6.same (same_upd (o := HO.tup [V.int 60, .int 2000, .int ((10 : Int) ^ (29 : Int).toNat)]) hp3)
    refine ⟨_, rfl, t, g, 10 * i + 3, 3, rfl, T7, by decide, by decide, hn _ (by omega), fun H8 c3 c30 c31 T8 k8 => ?_⟩
    obtain ⟨z2, hz2, hz20, hz21⟩ : ∃ z : Int, atI [V.int 60, .int 2000, .int ((10 : Int) ^ (29 : Int).toNat)] c3 = some (.int z) ∧ 0 < z ∧ z.natAbs < 2 ^ 200 := by
      have : c3 = 0 ∨ c3 = 1 ∨ c3 = 2 := by omega
      rcases this with e | e | e <;> rw [e]
      · exact ⟨60, rfl, by decide, by decide⟩
      · exact ⟨2000, rfl, by decide, by decide⟩
      · exact ⟨_, rfl, by rw [e29]; decide, by rw [e29, e200]; decide⟩
    refine ⟨p3, _, _, _, rfl, rfl, SqT.of (k8 _ _ upd_same p3t p3g), hz2, ?_⟩
    refine ⟨t, g, 10 * i + 4, z2, rfl, T8, hz20, lt_up hz21 (by decide), hn _ (by omega), fun H9 un un0 un1 T9 k9 => ?_⟩
    have hunb : (1 + un).natAbs < 2 ^ 201 := by
      have e : (2 : Nat) ^ 201 = 2 ^ 200 + 2 ^ 200 := by rw [Nat.pow_succ, Nat.mul_two]
      rw [e]
      have : 1 ≤ 2 ^ 200 := Nat.one_le_two_pow
      generalize (2 : Nat) ^ 200 = B at hz21 this ⊢
      omega
    refine ⟨_, _, rfl, rfl, r * sg, 1 + un, rfl, by omega, lt_up hunb (by decide), fun H10 pc S10 hpc => ?_⟩
    obtain ⟨lc1, lc2, lc3, lc4⟩ := low_terms (a := r * sg) (b := 1 + un) (by omega)
    obtain ⟨ls1, ls2⟩ := lowT_size (a := r * sg) (b := 1 + un) htop hunb
    have eT : lowT (r * sg) (1 + un) = (r * sg / (Int.gcd (r * sg) (1 + un) : Int), (1 + un) / (Int.gcd (r * sg) (1 + un) : Int)) := rfl
    rw [eT] at hpc ls1 ls2
    generalize r * sg / (Int.gcd (r * sg) (1 + un) : Int) = pn at hpc ls1 ls2 lc1
    generalize (1 + un) / (Int.gcd (r * sg) (1 + un) : Int) = qn at hpc ls1 ls2 lc1 lc2
    have hpnb : pn.natAbs < 2 ^ 250 := lt_up ls1 (by decide)
    have hqnb : qn.natAbs < 2 ^ 250 := lt_up ls2 (by decide)
    have T10 := T9.same S10
    -- most
    refine ⟨_, rfl, (by show 3 ≤ sizeLine; decide), fun p4 hp4 => ?_⟩
    obtain ⟨p4t, p4g⟩ := T10.at_ne hp4
    have S11 := same_upd (o := HO.tup [V.int 9, .int 60, .int 1000]) hp4
    refine ⟨_, rfl, t, g, 10 * i + 5, 3, rfl, T10.same S11, by decide, by decide, hn _ (by omega), fun H12 c4 c40 c41 T12 k12 => ?_⟩
    obtain ⟨z3, hz3, hz30, hz31⟩ : ∃ z : Int, atI [V.int 9, .int 60, .int 1000] c4 = some (.int z) ∧ 0 < z ∧ z ≤ 1000 := by
      have : c4 = 0 ∨ c4 = 1 ∨ c4 = 2 := by omega
      rcases this with e | e | e <;> subst e
      · exact ⟨9, rfl, by decide, by decide⟩
      · exact ⟨60, rfl, by decide, by decide⟩
      · exact ⟨1000, rfl, by decide, by decide⟩
    refine ⟨p4, _, _, _, rfl, rfl, SqT.of (k12 _ _ upd_same p4t p4g), hz3, ?_⟩
    refine ⟨t, g, 10 * i + 6, z3, rfl, T12, hz30, Nat.lt_of_le_of_lt (by omega : z3.natAbs ≤ 1000) (by decide), hn _ (by omega), fun H13 m m0 m1 T13 k13 => ?_⟩
    have hpc13 : Dp K H13 pc (encP (pn, qn)) := dp_tups (Keep.tups T12 k13) _ _ (noL_encP _) (dp_tups (Keep.tups (T10.same S11) k12) _ _ (noL_encP _) (dp_mono S11 _ _ hpc))
    obtain ⟨mm, hmm⟩ : ∃ mm, mm = 1 + m := ⟨_, rfl⟩
    have hm1 : 1 ≤ mm := by omega
    have hm2 : mm ≤ 1001 := by omega
    have hmb : mm.natAbs < 2 ^ 30 := Nat.lt_of_le_of_lt (by omega : mm.natAbs ≤ 1001) (by decide)
    refine ⟨_, _, rfl, rfl, ?_⟩
    refine ⟨fun σ' H' => ∃ u6 u7, σ' = [some (.ref a), some (.ref t), some (.int (0 + (i : Nat))), some (.int (r * sg)), some pc, some (.int mm), u6, u7] ∧ Tray H' t g (10 * i + 8) ∧ Dp K H' pc (encP (pn, qn)), ?_, ?_⟩
    · rw [hmm] at hm1 hm2 hmb ⊢
      refine ⟨_, rfl, _, rfl, pc, pn, qn, 1 + m, rfl, hpc13, lc2, lc1, hpnb, hqnb, hm1, hmb, fun H14 S14 => ⟨_, rfl, iteF ?_⟩⟩
      refine ⟨_, rfl, _, rfl, _, rfl, t, g, 10 * i + 7, 1 + m, rfl, T13.same S14, by omega, lt_up hmb (by decide), hn _ (by omega), fun H15 m2 m20 m21 T15 k15 => ?_⟩
      have hpc15 : Dp K H15 pc (encP (pn, qn)) := dp_tups (Keep.tups (T13.same S14) k15) _ _ (noL_encP _) (dp_mono S14 _ _ hpc13)
      refine ⟨_, _, rfl, rfl, pc, pn, qn, 1 + m2, rfl, hpc15, lc2, lc1, hpnb, hqnb, by omega, Nat.lt_of_le_of_lt (by omega : (1 + m2).natAbs ≤ 1002) (by decide), fun H16 S16 => ⟨_, rfl, iteF ?_⟩⟩
      exact ⟨_, _, rfl, T15.same S16, dp_mono S16 _ _ hpc15⟩
    rintro σ17 H17 ⟨u6, u7, rfl, T17, hpc17⟩
    refine ⟨_, rfl, _, rfl, _, _, rfl, rfl, wide_div (b := 4) (by decide) (by decide) (by decide) (by decide), _, _, rfl, rfl, pc, pn, qn, 1 + mm / 2, rfl, hpc17, lc2, lc1, hpnb, hqnb, by omega, Nat.lt_of_le_of_lt (by omega : (1 + mm / 2).natAbs ≤ 1002) (by decide), fun H18 few lo1 up1 S18 hr1 hlo1 hup1 _ _ zl1 zu1 => ?_⟩
    have hpc18 := dp_mono S18 _ _ hpc17
    refine ⟨_, rfl, _, rfl, pc, pn, qn, mm, rfl, hpc18, lc2, lc1, hpnb, hqnb, hm1, hmb, fun H19 many lo2 up2 S19 hr2 hlo2 hup2 _ _ zl2 zu2 => ?_⟩
    have T19 := (T17.same S18).same S19
    have hpc19 := dp_mono S19 _ _ hpc18
    obtain ⟨fa, fx, fy, rfl, hfa, hfx, hfy⟩ := dp_both (dp_mono S19 _ _ hr1)
    obtain ⟨ma, mx, my, rfl, hma, hmx, hmy⟩ := dp_both hr2
    refine ⟨_, _, rfl, ?_⟩
    have up1000 : ∀ {x : Pr}, SzQ 400 x → SzQ 1000 x := fun h => ⟨lt_up h.1 (by decide), lt_up h.2 (by decide)⟩
    have b1 : belowB lo2 lo1 = false := decide_eq_false (by
      have := hlo2.best lo1.1 lo1.2 hlo1.pos (by have := hlo1.le; omega) hlo1.on
      omega)
    have b2 : belowB up1 up2 = false := decide_eq_false (by
      have := hup2.best up1.1 up1.2 hup1.pos (by have := hup1.le; omega) hup1.on
      omega)
    refine ⟨fun σ' H' => σ' = [some (.ref a), some (.ref t), some (.int (0 + (i : Nat))), some (.int (r * sg)), some pc, some (.int mm), some (.ref fa), some (.ref ma)] ∧ H' = H19, ?_, ?_⟩
    · refine ⟨_, rfl, _, _, _, _, rfl, rfl, hma, rfl, _, rfl, _, _, _, _, rfl, rfl, hfa, rfl, _, _, lo2, lo1, rfl, hmx, hfx, up1000 zl2, up1000 zl1, _, rfl, ?_⟩
      rw [b1]
      refine iteF ⟨_, rfl, _, _, _, _, rfl, rfl, hfa, rfl, _, rfl, _, _, _, _, rfl, rfl, hma, rfl, _, _, up1, up2, rfl, hfy, hmy, up1000 zu1, up1000 zu2, _, rfl, ?_⟩
      rw [b2]
      exact iteF ⟨rfl, rfl⟩
    rintro σ20 H20 ⟨rfl, rfl⟩
    refine ⟨_, rfl, _, _, rfl, rfl, ⟨by decide, by decide, by decide⟩, (by show 3 ≤ sizeLine; decide), fun p5 hp5 => ?_⟩
    obtain ⟨p5t, p5g⟩ := T19.at_ne hp5
    have S21 := same_upd (o := HO.tup [V.int 0, .int 1, .int ((10 : Int) ^ (59 : Int).toNat)]) hp5
    refine ⟨_, rfl, t, g, 10 * i + 8, 3, rfl, T19.same S21, by decide, by decide, hn _ (by omega), fun H22 c5 c50 c51 T22 k22 => ?_⟩
    obtain ⟨z5, hz5, hz50⟩ : ∃ z : Int, atI [V.int 0, .int 1, .int ((10 : Int) ^ (59 : Int).toNat)] c5 = some (.int z) ∧ 0 ≤ z := by
      have : c5 = 0 ∨ c5 = 1 ∨ c5 = 2 := by omega
      rcases this with e | e | e <;> rw [e]
      · exact ⟨0, rfl, by decide⟩
      · exact ⟨1, rfl, by decide⟩
      · exact ⟨_, rfl, by rw [e59]; decide⟩
    refine ⟨p5, _, _, _, rfl, rfl, SqT.of (k22 _ _ upd_same p5t p5g), hz5, _, _, rfl, rfl, pc, 0 - z5, rfl, by omega, fun H23 S23 => ⟨_, rfl, iteF ?_⟩⟩
    exact ⟨_, _, _, _, _, _, rfl, (T22.same S23).up (by omega)⟩
end
end KA
namespace KA
open PySem PySem.Spec PyProof.Rows L2 DP
theorem g11_of {α : Type} : ∀ {us ws : List α}, (g11 us ws).length = 2 → ∃ a b, us = [a] ∧ ws = [b]
  | [a], [b], _ => ⟨a, b, rfl, rfl⟩
  | [], _, h => nomatch (show (0 : Nat) = 2 from h)
  | [_], [], h => nomatch (show (0 : Nat) = 2 from h)
  | [_], _ :: _ :: _, h => nomatch (show (0 : Nat) = 2 from h)
  | _ :: _ :: _, _, h => nomatch (show (0 : Nat) = 2 from h)
theorem sqt2 {K : PySem.W.Frag} {H : Hp} {t : Addr} {x y : Str} {o : Option Addr} {u v : Tok} {n : Nat} {s : Array (Option Value)} (l : K.lookup t = some ⟨.type "tuple", o, .seq #[.str x u, .str y v] n, s⟩) : SqT K H t [.str x, .str y] :=
  .inr ⟨_, _, n, l, rfl, rfl, (by show 2 ≤ sizeLine; decide), .cons ⟨u, rfl⟩ (.cons ⟨v, rfl⟩ .nil)⟩
theorem sqt3 {K : PySem.W.Frag} {H : Hp} {t : Addr} {x y z : Str} {o : Option Addr} {u v q : Tok} {n : Nat} {s : Array (Option Value)} (l : K.lookup t = some ⟨.type "tuple", o, .seq #[.str x u, .str y v, .str z q] n, s⟩) : SqT K H t [.str x, .str y, .str z] :=
  .inr ⟨_, _, n, l, rfl, rfl, (by show 3 ≤ sizeLine; decide), .cons ⟨u, rfl⟩ (.cons ⟨v, rfl⟩ (.cons ⟨q, rfl⟩ .nil))⟩
theorem all_mk {l : PySem.W.OpenLaw} {w : World} {K : PySem.W.Frag} {h : Heap} {mg : Str → Option Value} {fa : Addr} (X : K.In h) (G : h.Ns mainGlobals mg) (hfa : mg "law" = some (.ref fa))
    {f0 : Addr} {od0 an0 : Option Addr} {sl0 : Array (Option Value)} {oc0 kV0 dc0 pm0 cd0 ct0 : Value}
    {f1 : Addr} {od1 an1 : Option Addr} {sl1 : Array (Option Value)} {oc1 kV1 dc1 pm1 cd1 ct1 : Value}
    {f2 : Addr} {od2 an2 : Option Addr} {sl2 : Array (Option Value)} {oc2 kV2 dc2 pm2 cd2 ct2 : Value}
    {f3 : Addr} {od3 an3 : Option Addr} {sl3 : Array (Option Value)} {oc3 kV3 dc3 pm3 cd3 ct3 : Value}
    {f4 : Addr} {od4 an4 : Option Addr} {sl4 : Array (Option Value)} {oc4 kV4 dc4 pm4 cd4 ct4 : Value}
    {f5 : Addr} {od5 an5 : Option Addr} {sl5 : Array (Option Value)} {oc5 kV5 dc5 pm5 cd5 ct5 : Value}
    {f6 : Addr} {od6 an6 : Option Addr} {sl6 : Array (Option Value)} {oc6 kV6 dc6 pm6 cd6 ct6 : Value}
    {f7 : Addr} {od7 an7 : Option Addr} {sl7 : Array (Option Value)} {oc7 kV7 dc7 pm7 cd7 ct7 : Value}
    {f8 : Addr} {od8 an8 : Option Addr} {sl8 : Array (Option Value)} {oc8 kV8 dc8 pm8 cd8 ct8 : Value}
    {f9 : Addr} {od9 an9 : Option Addr} {sl9 : Array (Option Value)} {oc9 kV9 dc9 pm9 cd9 ct9 : Value}
    {f10 : Addr} {od10 an10 : Option Addr} {sl10 : Array (Option Value)} {oc10 kV10 dc10 pm10 cd10 ct10 : Value}
    {xC0 xF0 xN0 xcc0 xcda0 : Addr} {xnm0 xq0 xfile0 : Str} {xbs0 xbm0 : List Value} {xsn0 : List Str} {xsub0 : List Value} {xab0 : Bool} {xcol0 : Option Bool} {xdd0 xod0 xan0 xcld0 xcdd0 : Option Addr} {xk00 xk10 xk20 xk30 xk50 : Option Value} {xoc0 xdoc0 xpm0 xct0 xcl0 xccl0 : Value} {xosl0 xcsl0 xccs0 : Array (Option Value)} {xvs0 : Array Value} {xtf0 : Tok}
    {yC_DialError : Addr}
    {yC_Clash : Addr}
    {yC_NoLength : Addr}
    {yC_NoLook : Addr}
    {yC_NoRing : Addr}
    {yC_NoRound : Addr}
    {yC_NoSide : Addr}
    {yC_NoSteps : Addr}
    {yC_NoText : Addr}
    {yC_NoUses : Addr}
    {yC_NoWord : Addr}
    (a0 : PySem.W.nsIn K mainGlobals "_law_bag" = some (some (.ref f0)))
    (l0 : K.lookup f0 = some ⟨oc0, od0, .func (PySem.W.fnOf "_law_bag" "_law_bag" (defArgs slaw_bag) (defBody slaw_bag) (defScope slaw_bag) .none kV0 dc0 pm0 an0 cd0 ct0), sl0⟩)
    (c0 : PySem.W.codeIn K cd0 "_law_bag" = true)
    (k0 : PySem.W.keepIn K (.ref f0) = true)
    (a1 : PySem.W.nsIn K mainGlobals "_law_draw" = some (some (.ref f1)))
    (l1 : K.lookup f1 = some ⟨oc1, od1, .func (PySem.W.fnOf "_law_draw" "_law_draw" (defArgs slaw_draw) (defBody slaw_draw) (defScope slaw_draw) .none kV1 dc1 pm1 an1 cd1 ct1), sl1⟩)
    (c1 : PySem.W.codeIn K cd1 "_law_draw" = true)
    (k1 : PySem.W.keepIn K (.ref f1) = true)
    (a2 : PySem.W.nsIn K mainGlobals "_law_divisor" = some (some (.ref f2)))
    (l2 : K.lookup f2 = some ⟨oc2, od2, .func (PySem.W.fnOf "_law_divisor" "_law_divisor" (defArgs slaw_divisor) (defBody slaw_divisor) (defScope slaw_divisor) .none kV2 dc2 pm2 an2 cd2 ct2), sl2⟩)
    (c2 : PySem.W.codeIn K cd2 "_law_divisor" = true)
    (k2 : PySem.W.keepIn K (.ref f2) = true)
    (a3 : PySem.W.nsIn K mainGlobals "_law_lowest" = some (some (.ref f3)))
    (l3 : K.lookup f3 = some ⟨oc3, od3, .func (PySem.W.fnOf "_law_lowest" "_law_lowest" (defArgs slaw_lowest) (defBody slaw_lowest) (defScope slaw_lowest) .none kV3 dc3 pm3 an3 cd3 ct3), sl3⟩)
    (c3 : PySem.W.codeIn K cd3 "_law_lowest" = true)
    (k3 : PySem.W.keepIn K (.ref f3) = true)
    (a4 : PySem.W.nsIn K mainGlobals "_law_below" = some (some (.ref f4)))
    (l4 : K.lookup f4 = some ⟨oc4, od4, .func (PySem.W.fnOf "_law_below" "_law_below" (defArgs slaw_below) (defBody slaw_below) (defScope slaw_below) .none kV4 dc4 pm4 an4 cd4 ct4), sl4⟩)
    (c4 : PySem.W.codeIn K cd4 "_law_below" = true)
    (k4 : PySem.W.keepIn K (.ref f4) = true)
    (a5 : PySem.W.nsIn K mainGlobals "_law_right" = some (some (.ref f5)))
    (l5 : K.lookup f5 = some ⟨oc5, od5, .func (PySem.W.fnOf "_law_right" "_law_right" (defArgs slaw_right) (defBody slaw_right) (defScope slaw_right) .none kV5 dc5 pm5 an5 cd5 ct5), sl5⟩)
    (c5 : PySem.W.codeIn K cd5 "_law_right" = true)
    (k5 : PySem.W.keepIn K (.ref f5) = true)
    (a6 : PySem.W.nsIn K mainGlobals "_law_refused" = some (some (.ref f6)))
    (l6 : K.lookup f6 = some ⟨oc6, od6, .func (PySem.W.fnOf "_law_refused" "_law_refused" (defArgs slaw_refused) (defBody slaw_refused) (defScope slaw_refused) .none kV6 dc6 pm6 an6 cd6 ct6), sl6⟩)
    (c6 : PySem.W.codeIn K cd6 "_law_refused" = true)
    (k6 : PySem.W.keepIn K (.ref f6) = true)
    (a7 : PySem.W.nsIn K mainGlobals "distance" = some (some (.ref f7)))
    (l7 : K.lookup f7 = some ⟨oc7, od7, .func (PySem.W.fnOf "distance" "distance" (defArgs sdistance) (defBody sdistance) (defScope sdistance) .none kV7 dc7 pm7 an7 cd7 ct7), sl7⟩)
    (c7 : PySem.W.codeIn K cd7 "distance" = true)
    (k7 : PySem.W.keepIn K (.ref f7) = true)
    (a8 : PySem.W.nsIn K mainGlobals "nearer" = some (some (.ref f8)))
    (l8 : K.lookup f8 = some ⟨oc8, od8, .func (PySem.W.fnOf "nearer" "nearer" (defArgs snearer) (defBody snearer) (defScope snearer) .none kV8 dc8 pm8 an8 cd8 ct8), sl8⟩)
    (c8 : PySem.W.codeIn K cd8 "nearer" = true)
    (k8 : PySem.W.keepIn K (.ref f8) = true)
    (a9 : PySem.W.nsIn K mainGlobals "neighbours" = some (some (.ref f9)))
    (l9 : K.lookup f9 = some ⟨oc9, od9, .func (PySem.W.fnOf "neighbours" "neighbours" (defArgs sneighbours) (defBody sneighbours) (defScope sneighbours) .none kV9 dc9 pm9 an9 cd9 ct9), sl9⟩)
    (c9 : PySem.W.codeIn K cd9 "neighbours" = true)
    (k9 : PySem.W.keepIn K (.ref f9) = true)
    (a10 : PySem.W.nsIn K mainGlobals "law" = some (some (.ref f10)))
    (l10 : K.lookup f10 = some ⟨oc10, od10, .func (PySem.W.fnOf "law" "law" (defArgs slaw) (defBody slaw) (defScope slaw) .none kV10 dc10 pm10 an10 cd10 ct10), sl10⟩)
    (c10 : PySem.W.codeIn K cd10 "law" = true)
    (k10 : PySem.W.keepIn K (.ref f10) = true)
    (b_len : PySem.W.nsIn K mainGlobals "len" = some none)
    (b_range : PySem.W.nsIn K mainGlobals "range" = some none)
    (b_abs : PySem.W.nsIn K mainGlobals "abs" = some none)
    (b_min : PySem.W.nsIn K mainGlobals "min" = some none)
    (b_max : PySem.W.nsIn K mainGlobals "max" = some none)
    (b_isinstance : PySem.W.nsIn K mainGlobals "isinstance" = some none)
    (b_ValueError : PySem.W.nsIn K mainGlobals "ValueError" = some none)
    (b_super : PySem.W.nsIn K mainGlobals "super" = some none)
    (xg0 : PySem.W.nsIn K mainGlobals "NoBottom" = some (some (.ref xC0)))
    (xL0 : K.lookup xC0 = some (excClassObj xnm0 xq0 xC0 xN0 xbs0 xbm0 true xsn0 xsub0 xab0 xcol0 xdd0 xk00 xk10 xk20 xk30 xk50 "ValueError.__new__"))
    (xbv0 : PySem.HandSPX.refsVE xbm0 = true)
    (xsa0 : PySem.W.findIn K (.ref xC0) "__setattr__" = some (some (.builtin "object.__setattr__")))
    (xnw0 : PySem.W.findIn K (.ref xC0) "what" = some none)
    (xsv0 : PySem.W.subIn K (.ref xC0) (.type "ValueError") = some true)
    (xsu0 : PySem.W.ks_superIn K xC0 xC0 "__init__" = some (some (.builtin "ValueError.__init__")))
    (xop0 : PySem.W.nsIn K PySem.cStatics "thirdparty.any" = some none)
    (xme0 : PySem.W.mroIn K xC0 (.ref xC0) = some true)
    (xin0 : PySem.W.findIn K (.ref xC0) "__init__" = some (some (.ref xF0)))
    (xty0 : PySem.W.typeIn K (.ref xF0) = some (.type "function"))
    (xkc0 : PySem.W.keepIn K (.ref xC0) = true)
    (xex0 : PySem.W.subIn K (.ref xC0) (.type "BaseException") = some true)
    (xtc0 : PySem.W.typeIn K (.ref xC0) = some (.type "type"))
    (xic0 : PySem.W.isClsIn K xC0 = true)
    (xss0 : PySem.W.subIn K (.ref xC0) (.ref xC0) = some true)
    (xto0 : (l.prog.main.scope.names.lookup ("super" : Str)).isSome = false)
    (xl0 : K.lookup xF0 = some ⟨xoc0, xod0, .func (PySem.W.ksFn "__init__" "NoBottom.__init__" (defArgs (inClass (top 11) 0)) (defBody (inClass (top 11) 0)) (defScope (inClass (top 11) 0)) .none .none xdoc0 xpm0 xan0 (.ref xcda0) xct0 xcc0), xosl0⟩)
    (xc0 : PySem.W.codeIn K (.ref xcda0) "NoBottom.__init__" = true)
    (xlc0 : K.lookup xcc0 = some ⟨xcl0, xcld0, .cell (some (.ref xC0)), xcsl0⟩)
    (xld0 : K.lookup xcda0 = some ⟨xccl0, xcdd0, .fields xvs0, xccs0⟩)
    (xv0 : xvs0[2]? = some (.str xfile0 xtf0))
    (xfi0 : ((l.prog.main.file : Str) == xfile0) = true)
    (yg_DialError : PySem.W.nsIn K mainGlobals "DialError" = some (some (.ref yC_DialError)))
    (yi_DialError : PySem.W.isClsIn K yC_DialError = true)
    (yt_DialError : PySem.W.typeIn K (.ref yC_DialError) = some (.type "type"))
    (yg_Clash : PySem.W.nsIn K mainGlobals "Clash" = some (some (.ref yC_Clash)))
    (yi_Clash : PySem.W.isClsIn K yC_Clash = true)
    (yt_Clash : PySem.W.typeIn K (.ref yC_Clash) = some (.type "type"))
    (yg_NoLength : PySem.W.nsIn K mainGlobals "NoLength" = some (some (.ref yC_NoLength)))
    (yi_NoLength : PySem.W.isClsIn K yC_NoLength = true)
    (yt_NoLength : PySem.W.typeIn K (.ref yC_NoLength) = some (.type "type"))
    (yg_NoLook : PySem.W.nsIn K mainGlobals "NoLook" = some (some (.ref yC_NoLook)))
    (yi_NoLook : PySem.W.isClsIn K yC_NoLook = true)
    (yt_NoLook : PySem.W.typeIn K (.ref yC_NoLook) = some (.type "type"))
    (yg_NoRing : PySem.W.nsIn K mainGlobals "NoRing" = some (some (.ref yC_NoRing)))
    (yi_NoRing : PySem.W.isClsIn K yC_NoRing = true)
    (yt_NoRing : PySem.W.typeIn K (.ref yC_NoRing) = some (.type "type"))
    (yg_NoRound : PySem.W.nsIn K mainGlobals "NoRound" = some (some (.ref yC_NoRound)))
    (yi_NoRound : PySem.W.isClsIn K yC_NoRound = true)
    (yt_NoRound : PySem.W.typeIn K (.ref yC_NoRound) = some (.type "type"))
    (yg_NoSide : PySem.W.nsIn K mainGlobals "NoSide" = some (some (.ref yC_NoSide)))
    (yi_NoSide : PySem.W.isClsIn K yC_NoSide = true)
    (yt_NoSide : PySem.W.typeIn K (.ref yC_NoSide) = some (.type "type"))
    (yg_NoSteps : PySem.W.nsIn K mainGlobals "NoSteps" = some (some (.ref yC_NoSteps)))
    (yi_NoSteps : PySem.W.isClsIn K yC_NoSteps = true)
    (yt_NoSteps : PySem.W.typeIn K (.ref yC_NoSteps) = some (.type "type"))
    (yg_NoText : PySem.W.nsIn K mainGlobals "NoText" = some (some (.ref yC_NoText)))
    (yi_NoText : PySem.W.isClsIn K yC_NoText = true)
    (yt_NoText : PySem.W.typeIn K (.ref yC_NoText) = some (.type "type"))
    (yg_NoUses : PySem.W.nsIn K mainGlobals "NoUses" = some (some (.ref yC_NoUses)))
    (yi_NoUses : PySem.W.isClsIn K yC_NoUses = true)
    (yt_NoUses : PySem.W.typeIn K (.ref yC_NoUses) = some (.type "type"))
    (yg_NoWord : PySem.W.nsIn K mainGlobals "NoWord" = some (some (.ref yC_NoWord)))
    (yi_NoWord : PySem.W.isClsIn K yC_NoWord = true)
    (yt_NoWord : PySem.W.typeIn K (.ref yC_NoWord) = some (.type "type"))
    (yb : PySem.W.subIn K (.ref yC_DialError) (.type "BaseException") = some true)
    (yga0 : PySem.W.findIn K (.ref xC0) "__getattribute__" = some (some (.builtin "BaseException.__getattribute__")))
    (ygg0 : PySem.W.findIn K (.ref xC0) "__getattr__" = some none)
    (yhd0 : PySem.W.hasDictIn K xC0 = true)
    (yha0 : PySem.W.findIn K (.ref xC0) "__class__" = some (some (.builtin "object.__class__")))
    (yhm0 : PySem.W.mroIn K xC0 (.type "object") = some true)
    (yhn : PySem.W.specialIn K (.builtin "object.__class__") "__get__" = some (some (.builtin "getset_descriptor.__get__")))
    (yht : PySem.W.takesIn K (.builtin "object.__class__") = some true)
    (ysd0 : PySem.W.subIn K (.ref xC0) (.ref yC_DialError) = some true)
    (ys_0_Clash : PySem.W.subIn K (.ref xC0) (.ref yC_Clash) = some false)
    (yn_0_Clash : ((Value.ref xC0) == .ref yC_Clash) = false)
    (ys_0_NoLength : PySem.W.subIn K (.ref xC0) (.ref yC_NoLength) = some false)
    (yn_0_NoLength : ((Value.ref xC0) == .ref yC_NoLength) = false)
    (ys_0_NoLook : PySem.W.subIn K (.ref xC0) (.ref yC_NoLook) = some false)
    (yn_0_NoLook : ((Value.ref xC0) == .ref yC_NoLook) = false)
    (ys_0_NoRing : PySem.W.subIn K (.ref xC0) (.ref yC_NoRing) = some false)
    (yn_0_NoRing : ((Value.ref xC0) == .ref yC_NoRing) = false)
    (ys_0_NoRound : PySem.W.subIn K (.ref xC0) (.ref yC_NoRound) = some false)
    (yn_0_NoRound : ((Value.ref xC0) == .ref yC_NoRound) = false)
    (ys_0_NoSide : PySem.W.subIn K (.ref xC0) (.ref yC_NoSide) = some false)
    (yn_0_NoSide : ((Value.ref xC0) == .ref yC_NoSide) = false)
    (ys_0_NoSteps : PySem.W.subIn K (.ref xC0) (.ref yC_NoSteps) = some false)
    (yn_0_NoSteps : ((Value.ref xC0) == .ref yC_NoSteps) = false)
    (ys_0_NoText : PySem.W.subIn K (.ref xC0) (.ref yC_NoText) = some false)
    (yn_0_NoText : ((Value.ref xC0) == .ref yC_NoText) = false)
    (ys_0_NoUses : PySem.W.subIn K (.ref xC0) (.ref yC_NoUses) = some false)
    (yn_0_NoUses : ((Value.ref xC0) == .ref yC_NoUses) = false)
    (ys_0_NoWord : PySem.W.subIn K (.ref xC0) (.ref yC_NoWord) = some false)
    (yn_0_NoWord : ((Value.ref xC0) == .ref yC_NoWord) = false) :
    ∃ fd : FuncData, (∀ (s : Shared) (v : Value), BindsTo s fd ⟨[v], []⟩ [("script", v)]) ∧ ∀ base : Heap, K.In base → base.Ns mainGlobals mg → FnOk l.prog w K mg base CX0 6 fa fd ["script"] (spLaw K) := by
  have e := hfa.symm.trans (PySem.W.mg_of X G a10)
  cases e
  have F0 := fun_mk (st := slaw_bag) l0 c0 k0
  have F1 := fun_mk (st := slaw_draw) l1 c1 k1
  have F2 := fun_mk (st := slaw_divisor) l2 c2 k2
  have F3 := fun_mk (st := slaw_lowest) l3 c3 k3
  have F4 := fun_mk (st := slaw_below) l4 c4 k4
  have F5 := fun_mk (st := slaw_right) l5 c5 k5
  have F6 := fun_mk (st := slaw_refused) l6 c6 k6
  have F7 := fun_mk (st := sdistance) l7 c7 k7
  have F8 := fun_mk (st := snearer) l8 c8 k8
  have F9 := fun_mk (st := sneighbours) l9 c9 k9
  have F10 := fun_mk (st := slaw) l10 c10 k10
  let Z : Ad := {
    a_law_bag := f0,
    d_law_bag := PySem.W.fnOf "_law_bag" "_law_bag" (defArgs slaw_bag) (defBody slaw_bag) (defScope slaw_bag) .none kV0 dc0 pm0 an0 cd0 ct0,
    a_law_draw := f1,
    d_law_draw := PySem.W.fnOf "_law_draw" "_law_draw" (defArgs slaw_draw) (defBody slaw_draw) (defScope slaw_draw) .none kV1 dc1 pm1 an1 cd1 ct1,
    a_law_divisor := f2,
    d_law_divisor := PySem.W.fnOf "_law_divisor" "_law_divisor" (defArgs slaw_divisor) (defBody slaw_divisor) (defScope slaw_divisor) .none kV2 dc2 pm2 an2 cd2 ct2,
    a_law_lowest := f3,
    d_law_lowest := PySem.W.fnOf "_law_lowest" "_law_lowest" (defArgs slaw_lowest) (defBody slaw_lowest) (defScope slaw_lowest) .none kV3 dc3 pm3 an3 cd3 ct3,
    a_law_below := f4,
    d_law_below := PySem.W.fnOf "_law_below" "_law_below" (defArgs slaw_below) (defBody slaw_below) (defScope slaw_below) .none kV4 dc4 pm4 an4 cd4 ct4,
    a_law_right := f5,
    d_law_right := PySem.W.fnOf "_law_right" "_law_right" (defArgs slaw_right) (defBody slaw_right) (defScope slaw_right) .none kV5 dc5 pm5 an5 cd5 ct5,
    a_law_refused := f6,
    d_law_refused := PySem.W.fnOf "_law_refused" "_law_refused" (defArgs slaw_refused) (defBody slaw_refused) (defScope slaw_refused) .none kV6 dc6 pm6 an6 cd6 ct6,
    a_distance := f7,
    d_distance := PySem.W.fnOf "distance" "distance" (defArgs sdistance) (defBody sdistance) (defScope sdistance) .none kV7 dc7 pm7 an7 cd7 ct7,
    a_nearer := f8,
    d_nearer := PySem.W.fnOf "nearer" "nearer" (defArgs snearer) (defBody snearer) (defScope snearer) .none kV8 dc8 pm8 an8 cd8 ct8,
    a_neighbours := f9,
    d_neighbours := PySem.W.fnOf "neighbours" "neighbours" (defArgs sneighbours) (defBody sneighbours) (defScope sneighbours) .none kV9 dc9 pm9 an9 cd9 ct9,
    a_law := fa,
    d_law := PySem.W.fnOf "law" "law" (defArgs slaw) (defBody slaw) (defScope slaw) .none kV10 dc10 pm10 an10 cd10 ct10 }
  have T : Tx K w mg Z := {
    F_law_bag := F0,
    bb_law_bag := F0.binds (ps := P_law_bag) fun _ _ _ _ _ _ us hl => match us, hl with | [_], _ => rfl,
    g_law_bag := PySem.W.mg_of X G a0,
    F_law_draw := F1,
    bb_law_draw := F1.binds (ps := P_law_draw) fun _ _ _ _ _ _ us hl => match us, hl with | [_, _], _ => rfl,
    g_law_draw := PySem.W.mg_of X G a1,
    F_law_divisor := F2,
    bb_law_divisor := F2.binds (ps := P_law_divisor) fun _ _ _ _ _ _ us hl => match us, hl with | [_, _], _ => rfl,
    g_law_divisor := PySem.W.mg_of X G a2,
    F_law_lowest := F3,
    bb_law_lowest := F3.binds (ps := P_law_lowest) fun _ _ _ _ _ _ us hl => match us, hl with | [_, _], _ => rfl,
    g_law_lowest := PySem.W.mg_of X G a3,
    F_law_below := F4,
    bb_law_below := F4.binds (ps := P_law_below) fun _ _ _ _ _ _ us hl => match us, hl with | [_, _], _ => rfl,
    g_law_below := PySem.W.mg_of X G a4,
    F_law_right := F5,
    bb_law_right := F5.binds (ps := P_law_right) fun _ _ _ _ _ _ us hl => match us, hl with | [_, _], _ => rfl,
    g_law_right := PySem.W.mg_of X G a5,
    F_law_refused := F6,
    bb_law_refused := F6.binds (ps := P_law_refused) fun _ _ _ _ _ _ us hl => match us, hl with | [_, _], _ => rfl,
    g_law_refused := PySem.W.mg_of X G a6,
    F_distance := F7,
    bb_distance := F7.binds (ps := P_distance) fun _ _ _ _ _ _ us hl => match us, hl with | [_, _], _ => rfl,
    g_distance := PySem.W.mg_of X G a7,
    F_nearer := F8,
    bb_nearer := F8.binds (ps := P_nearer) fun _ _ _ _ _ _ us hl => match us, hl with | [_, _, _, _], _ => rfl,
    g_nearer := PySem.W.mg_of X G a8,
    F_neighbours := F9,
    bb_neighbours := F9.binds (ps := P_neighbours) fun _ _ _ _ _ _ us hl => match us, hl with | [_, _], _ => rfl,
    g_neighbours := PySem.W.mg_of X G a9,
    F_law := F10,
    bb_law := F10.binds (ps := P_law) fun _ _ _ _ _ _ us hl => match us, hl with | [_], _ => rfl,
    g_law := PySem.W.mg_of X G a10,
    b_len := PySem.W.mg_none_of X G b_len,
    b_range := PySem.W.mg_none_of X G b_range,
    b_abs := PySem.W.mg_none_of X G b_abs,
    b_min := PySem.W.mg_none_of X G b_min,
    b_max := PySem.W.mg_none_of X G b_max,
    b_isinstance := PySem.W.mg_none_of X G b_isinstance,
    b_ValueError := PySem.W.mg_none_of X G b_ValueError,
    b_super := PySem.W.mg_none_of X G b_super }
  let Y : AdX := {
    c_NoBottom := xC0,
    i_NoBottom := xF0,
    c_DialError := yC_DialError,
    c_Clash := yC_Clash,
    c_NoLength := yC_NoLength,
    c_NoLook := yC_NoLook,
    c_NoRing := yC_NoRing,
    c_NoRound := yC_NoRound,
    c_NoSide := yC_NoSide,
    c_NoSteps := yC_NoSteps,
    c_NoText := yC_NoText,
    c_NoUses := yC_NoUses,
    c_NoWord := yC_NoWord }
  have X : Ex l.prog K mg Y := {
    NoBottom := ERR.errT_mk (inClass (top 11) 0) xL0 xbv0 xsa0 xnw0 xsv0 xsu0 xop0 xme0 xin0 xty0 xkc0 xex0 xtc0 xto0 xl0 ⟨_, _, rfl⟩ rfl rfl (fun _ => ⟨_, rfl⟩) xc0 xlc0 xld0 xv0 xfi0,
    g_NoBottom := PySem.W.mg_of X G xg0,
    m_NoBottom := ERR.exm_self xex0 xic0 xtc0 xss0,
    g_DialError := PySem.W.mg_of X G yg_DialError,
    g_Clash := PySem.W.mg_of X G yg_Clash,
    g_NoLength := PySem.W.mg_of X G yg_NoLength,
    g_NoLook := PySem.W.mg_of X G yg_NoLook,
    g_NoRing := PySem.W.mg_of X G yg_NoRing,
    g_NoRound := PySem.W.mg_of X G yg_NoRound,
    g_NoSide := PySem.W.mg_of X G yg_NoSide,
    g_NoSteps := PySem.W.mg_of X G yg_NoSteps,
    g_NoText := PySem.W.mg_of X G yg_NoText,
    g_NoUses := PySem.W.mg_of X G yg_NoUses,
    g_NoWord := PySem.W.mg_of X G yg_NoWord,
    x_NoBottom := ⟨yga0, ygg0, xex0, yhd0, yha0, yhn, yht, yhm0, xnw0⟩,
    d_NoBottom := ERR.exm_of yb yi_DialError yt_DialError ysd0,
    kv_NoBottom := ERR.kit_blt (by decide +kernel) xsv0,
    k_NoBottom_Clash := kit_no yn_0_Clash yi_Clash yt_Clash ys_0_Clash,
    k_NoBottom_NoLength := kit_no yn_0_NoLength yi_NoLength yt_NoLength ys_0_NoLength,
    k_NoBottom_NoLook := kit_no yn_0_NoLook yi_NoLook yt_NoLook ys_0_NoLook,
    k_NoBottom_NoRing := kit_no yn_0_NoRing yi_NoRing yt_NoRing ys_0_NoRing,
    k_NoBottom_NoRound := kit_no yn_0_NoRound yi_NoRound yt_NoRound ys_0_NoRound,
    k_NoBottom_NoSide := kit_no yn_0_NoSide yi_NoSide yt_NoSide ys_0_NoSide,
    k_NoBottom_NoSteps := kit_no yn_0_NoSteps yi_NoSteps yt_NoSteps ys_0_NoSteps,
    k_NoBottom_NoText := kit_no yn_0_NoText yi_NoText yt_NoText ys_0_NoText,
    k_NoBottom_NoUses := kit_no yn_0_NoUses yi_NoUses yt_NoUses ys_0_NoUses,
    k_NoBottom_NoWord := kit_no yn_0_NoWord yi_NoWord yt_NoWord ys_0_NoWord }
  exact ⟨PySem.W.fnOf "law" "law" (defArgs slaw) (defBody slaw) (defScope slaw) .none kV10 dc10 pm10 an10 cd10 ct10, fun s v => .of_eq rfl, fun base _ _ => ok_law T X⟩
theorem walk {l : PySem.W.OpenLaw} {q : Program} {loose : List Str} {XP : (Str → Option Value) → Heap → Prop} {YP : World → Heap → Prop} {d : DefRec} {K : Params → PySem.W.Frag} (hn : l.most = some 63) (hdf : d.params.defaults = [])
    (hY : ∀ (w : World) (h : Heap), YP w h → (K w.params).In h)
    (F : ∀ (w : World) (mg : Str → Option Value) (fa : Addr) (h : Heap), (K w.params).In h → h.Ns mainGlobals mg → mg d.name = some (.ref fa) →
      ∃ fd : FuncData, (∀ (s : Shared) (u : Value), BindsTo s fd ⟨[u], []⟩ [("script", u)]) ∧ ∀ base : Heap, (K w.params).In base → base.Ns mainGlobals mg → FnOk l.prog w (K w.params) mg base CX0 6 fa fd ["script"] (spLaw (K w.params))) :
    PySem.W.WalkO q loose XP YP l.row.toRowW d [] (fun f vs => PySem.call f vs) :=
  L2.walk_of (n := 63) (k := 6) (x := "script") (CX := fun _ => CX0) (sp := fun w => spLaw (K w.params)) hn (by decide) hdf ⟨rfl, by decide, by decide⟩ hY F (fun _ _ a ns hl _ hS => ⟨a, ns, rfl, hS, hl, fun _ => rfl⟩) fun _ _ _ _ _ z => z
end KA
open PySem PySem.W PyProof.Rows
set_option maxRecDepth 100000 in
set_option maxHeartbeats 0 in
theorem PySem.Challenge.cw_darkpace_k41_whole_neighbours_are_next_holds : PySem.Challenge.rw_darkpace_k41_whole_neighbours_are_next.Holds := by
  w_on; o_law; k_head; (case hw => w_witness2)
  k_fill
  refine KA.walk (l := PySem.Challenge.rw_darkpace_k41_whole_neighbours_are_next) rfl rfl (fun w h Y => PySem.W.kIn_of Y) ?F
  case F =>
    intro w mg fa h KX G hmg
    refine' KA.all_mk KX G hmg ?a0 ?l0 ?c0 ?k0 ?a1 ?l1 ?c1 ?k1 ?a2 ?l2 ?c2 ?k2 ?a3 ?l3 ?c3 ?k3 ?a4 ?l4 ?c4 ?k4 ?a5 ?l5 ?c5 ?k5 ?a6 ?l6 ?c6 ?k6 ?a7 ?l7 ?c7 ?k7 ?a8 ?l8 ?c8 ?k8 ?a9 ?l9 ?c9 ?k9 ?a10 ?l10 ?c10 ?k10 ?b_len ?b_range ?b_abs ?b_min ?b_max ?b_isinstance ?b_ValueError ?b_super ?xg0 ?xL0 ?xbv0 ?xsa0 ?xnw0 ?xsv0 ?xsu0 ?xop0 ?xme0 ?xin0 ?xty0 ?xkc0 ?xex0 ?xtc0 ?xic0 ?xss0 ?xto0 ?xl0 ?xc0 ?xlc0 ?xld0 ?xv0 ?xfi0 ?yg_DialError ?yi_DialError ?yt_DialError ?yg_Clash ?yi_Clash ?yt_Clash ?yg_NoLength ?yi_NoLength ?yt_NoLength ?yg_NoLook ?yi_NoLook ?yt_NoLook ?yg_NoRing ?yi_NoRing ?yt_NoRing ?yg_NoRound ?yi_NoRound ?yt_NoRound ?yg_NoSide ?yi_NoSide ?yt_NoSide ?yg_NoSteps ?yi_NoSteps ?yt_NoSteps ?yg_NoText ?yi_NoText ?yt_NoText ?yg_NoUses ?yi_NoUses ?yt_NoUses ?yg_NoWord ?yi_NoWord ?yt_NoWord ?yb ?yga0 ?ygg0 ?yhd0 ?yha0 ?yhm0 ?yhn ?yht ?ysd0 ?ys_0_Clash ?yn_0_Clash ?ys_0_NoLength ?yn_0_NoLength ?ys_0_NoLook ?yn_0_NoLook ?ys_0_NoRing ?yn_0_NoRing ?ys_0_NoRound ?yn_0_NoRound ?ys_0_NoSide ?yn_0_NoSide ?ys_0_NoSteps ?yn_0_NoSteps ?ys_0_NoText ?yn_0_NoText ?ys_0_NoUses ?yn_0_NoUses ?ys_0_NoWord ?yn_0_NoWord
    (case a0 => k_is)
    (case l0 => k_is)
    (case c0 => k_is)
    (case k0 => k_is)
    (case a1 => k_is)
    (case l1 => k_is)
    (case c1 => k_is)
    (case k1 => k_is)
    (case a2 => k_is)
    (case l2 => k_is)
    (case c2 => k_is)
    (case k2 => k_is)
    (case a3 => k_is)
    (case l3 => k_is)
    (case c3 => k_is)
    (case k3 => k_is)
    (case a4 => k_is)
    (case l4 => k_is)
    (case c4 => k_is)
    (case k4 => k_is)
    (case a5 => k_is)
    (case l5 => k_is)
    (case c5 => k_is)
    (case k5 => k_is)
    (case a6 => k_is)
    (case l6 => k_is)
    (case c6 => k_is)
    (case k6 => k_is)
    (case a7 => k_is)
    (case l7 => k_is)
    (case c7 => k_is)
    (case k7 => k_is)
    (case a8 => k_is)
    (case l8 => k_is)
    (case c8 => k_is)
    (case k8 => k_is)
    (case a9 => k_is)
    (case l9 => k_is)
    (case c9 => k_is)
    (case k9 => k_is)
    (case a10 => k_is)
    (case l10 => k_is)
    (case c10 => k_is)
    (case k10 => k_is)
    (case b_len => k_is)
    (case b_range => k_is)
    (case b_abs => k_is)
    (case b_min => k_is)
    (case b_max => k_is)
    (case b_isinstance => k_is)
    (case b_ValueError => k_is)
    (case b_super => k_is)
    (case xg0 => k_is)
    (case xL0 => k_is)
    (case xbv0 => decide +kernel)
    (case xsa0 => k_is)
    (case xnw0 => k_is)
    (case xsv0 => k_is)
    (case xsu0 => ks_is)
    (case xop0 => k_is)
    (case xme0 => k_is)
    (case xin0 => k_is)
    (case xty0 => k_is)
    (case xkc0 => k_is)
    (case xex0 => k_is)
    (case xtc0 => k_is)
    (case xic0 => k_is)
    (case xss0 => first | rfl | k_is)
    (case xto0 => first | rfl | decide +kernel)
    (case xl0 => k_is)
    (case xc0 => k_is)
    (case xlc0 => k_is)
    (case xld0 => k_is)
    (case xv0 => rfl)
    (case xfi0 => first | rfl | decide +kernel)
    (case yg_DialError => k_is)
    (case yi_DialError => k_is)
    (case yt_DialError => k_is)
    (case yg_Clash => k_is)
    (case yi_Clash => k_is)
    (case yt_Clash => k_is)
    (case yg_NoLength => k_is)
    (case yi_NoLength => k_is)
    (case yt_NoLength => k_is)
    (case yg_NoLook => k_is)
    (case yi_NoLook => k_is)
    (case yt_NoLook => k_is)
    (case yg_NoRing => k_is)
    (case yi_NoRing => k_is)
    (case yt_NoRing => k_is)
    (case yg_NoRound => k_is)
    (case yi_NoRound => k_is)
    (case yt_NoRound => k_is)
    (case yg_NoSide => k_is)
    (case yi_NoSide => k_is)
    (case yt_NoSide => k_is)
    (case yg_NoSteps => k_is)
    (case yi_NoSteps => k_is)
    (case yt_NoSteps => k_is)
    (case yg_NoText => k_is)
    (case yi_NoText => k_is)
    (case yt_NoText => k_is)
    (case yg_NoUses => k_is)
    (case yi_NoUses => k_is)
    (case yt_NoUses => k_is)
    (case yg_NoWord => k_is)
    (case yi_NoWord => k_is)
    (case yt_NoWord => k_is)
    (case yb => k_is)
    (case yga0 => k_is)
    (case ygg0 => k_is)
    (case yhd0 => k_is)
    (case yha0 => k_is)
    (case yhm0 => k_is)
    (case yhn => k_is)
    (case yht => k_is)
    (case ysd0 => first | k_is | rfl | decide +kernel)
    (case ys_0_Clash => first | k_is | rfl | decide +kernel)
    (case yn_0_Clash => first | rfl | decide +kernel)
    (case ys_0_NoLength => first | k_is | rfl | decide +kernel)
    (case yn_0_NoLength => first | rfl | decide +kernel)
    (case ys_0_NoLook => first | k_is | rfl | decide +kernel)
    (case yn_0_NoLook => first | rfl | decide +kernel)
    (case ys_0_NoRing => first | k_is | rfl | decide +kernel)
    (case yn_0_NoRing => first | rfl | decide +kernel)
    (case ys_0_NoRound => first | k_is | rfl | decide +kernel)
    (case yn_0_NoRound => first | rfl | decide +kernel)
    (case ys_0_NoSide => first | k_is | rfl | decide +kernel)
    (case yn_0_NoSide => first | rfl | decide +kernel)
    (case ys_0_NoSteps => first | k_is | rfl | decide +kernel)
    (case yn_0_NoSteps => first | rfl | decide +kernel)
    (case ys_0_NoText => first | k_is | rfl | decide +kernel)
    (case yn_0_NoText => first | rfl | decide +kernel)
    (case ys_0_NoUses => first | k_is | rfl | decide +kernel)
    (case yn_0_NoUses => first | rfl | decide +kernel)
    (case ys_0_NoWord => first | k_is | rfl | decide +kernel)
    (case yn_0_NoWord => first | rfl | decide +kernel)
