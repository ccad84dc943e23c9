import PyProof.Rows.All
import Wide.All
import OpenK.AllK
import Wide.FinOn
import HandS.ForMost
import HandS.Wide
import HandS.Deep
import HandS.IsInst
import HandS.Strs
import HandS.Codes
import HandS.Gcd
import KE.SortData
import KE.DataMinMax
import HandS.SetFor
import HandS.OwnEq
import HandS.Defaults
import HandS.MakeKwOnly
import HandS.Rev
import HandS.MapJoin
import PyProof.JoinWalk
import HandS.Text
import HandS.StrMore
import HandS.FStr
import HandS.Star
import HandS.Walk
import PySem.Challenge.RW_darkpace_k50_looks_written
set_option Elab.async false
set_option linter.all false
set_option maxRecDepth 100000
set_option exponentiation.threshold 3000
set_option maxHeartbeats 16000000
/-! Rules of our own: data under a growing heap, sorted and max and min of data, set of ints, a written dict's item, a method called with a keyword. -/
namespace DP
open PySem PySem.Spec PyProof.Rows L2

theorem rooms {A : Around} {k : Nat} (hr : Room k A) : A.units + 65 < cLine := by have := hr.un; omega

theorem Same.rd {H H' : Hp} {a : Addr} {u : HO} (S : Same H H') (h : Rd H a u) : Rd H' a u := by
  rcases h with h | ⟨o, h⟩
  · exact Or.inl (S _ _ h)
  · exact Or.inr ⟨o, S _ _ h⟩
theorem Same.sqT {K : PySem.W.Frag} {H H' : Hp} {a : Addr} {xs : List V} (S : Same H H') (h : SqT K H a xs) : SqT K H' a xs := by
  rcases h with h | h
  · exact Or.inl (Same.rd S h)
  · exact Or.inr h
theorem Same.sqL {K : PySem.W.Frag} {H H' : Hp} {a : Addr} {xs : List V} (S : Same H H') (h : SqL K H a xs) : SqL K H' a xs := by
  rcases h with h | h
  · exact Or.inl (Same.rd S h)
  · exact Or.inr h
mutual
theorem dp_mono {K : PySem.W.Frag} {H H' : Hp} (S : Same H H') : ∀ (d : PyData) (v : V), Dp K H v d → Dp K H' v d
  | .none, _, h => by cases h; exact .non
  | .bool b, _, h => by cases h; exact .bl _
  | .int b, _, h => by cases h; exact .int _
  | .str b, _, h => by cases h; exact .str _
  | .list ds, _, h => by
    cases h with
    | lst s a => exact .lst (Same.sqL S s) (dpAll_mono S ds _ a)
  | .tuple ds, _, h => by
    cases h with
    | tup s a => exact .tup (Same.sqT S s) (dpAll_mono S ds _ a)
  | .dict _, _, h => by cases h
theorem dpAll_mono {K : PySem.W.Frag} {H H' : Hp} (S : Same H H') : ∀ (ds : List PyData) (vs : List V), DpAll K H vs ds → DpAll K H' vs ds
  | [], _, h => by cases h; exact .nil
  | d :: ds, _, h => by
    cases h with
    | cons a b => exact .cons (dp_mono S d _ a) (dpAll_mono S ds _ b)
end
section
variable {K : PySem.W.Frag} {H : Hp}
theorem dpAll_len : ∀ {vs : List V} {ds : List PyData}, DpAll K H vs ds → vs.length = ds.length
  | _, _, .nil => rfl
  | _, _, .cons _ t => by rw [List.length_cons, List.length_cons, dpAll_len t]
theorem dpAll_get : ∀ {vs : List V} {ds : List PyData} {i : Nat} {v : V}, DpAll K H vs ds → vs[i]? = some v → ∃ d, ds[i]? = some d ∧ Dp K H v d
  | _, _, _, _, .nil, e => by simp at e
  | _, _, 0, _, .cons r _, e => by simp at e; subst e; exact ⟨_, rfl, r⟩
  | _, _, i + 1, v, .cons _ t, e => by
    obtain ⟨d, h1, h2⟩ := dpAll_get (i := i) (v := v) t (by simpa using e)
    exact ⟨d, by simpa using h1, h2⟩
theorem dpAll_get' : ∀ {vs : List V} {ds : List PyData} {i : Nat} {d : PyData}, DpAll K H vs ds → ds[i]? = some d → ∃ v, vs[i]? = some v ∧ Dp K H v d
  | _, _, _, _, .nil, e => by simp at e
  | _, _, 0, _, .cons r _, e => by simp at e; subst e; exact ⟨_, rfl, r⟩
  | _, _, i + 1, v, .cons _ t, e => by
    obtain ⟨d, h1, h2⟩ := dpAll_get' (i := i) (d := v) t (by simpa using e)
    exact ⟨d, by simpa using h1, h2⟩
theorem dpAll_snoc : ∀ {vs : List V} {ds : List PyData} {v : V} {d : PyData}, DpAll K H vs ds → Dp K H v d → DpAll K H (vs ++ [v]) (ds ++ [d])
  | _, _, _, _, .nil, r => .cons r .nil
  | _, _, _, _, .cons q t, r => .cons q (dpAll_snoc t r)
theorem dpAll_app : ∀ {vs ws : List V} {ds es : List PyData}, DpAll K H vs ds → DpAll K H ws es → DpAll K H (vs ++ ws) (ds ++ es)
  | _, _, _, _, .nil, r => r
  | _, _, _, _, .cons q t, r => .cons q (dpAll_app t r)
theorem dpAll_ints : ∀ ns : List Int, DpAll K H (ns.map V.int) (ns.map PyData.int)
  | [] => .nil
  | n :: ns => .cons (.int n) (dpAll_ints ns)
theorem dpAll_int : ∀ {vs : List V} {ns : List Int}, DpAll K H vs (ns.map PyData.int) → vs = ns.map V.int
  | _, [], h => by cases h; rfl
  | _, n :: ns, h => by
    have h' : DpAll K H _ (PyData.int n :: ns.map PyData.int) := h
    cases h' with
    | cons a b =>
      cases a
      rw [dpAll_int b]; rfl
theorem same_upd {H : Hp} {p : Addr} {o : HO} (h : H p = none) : Same H (upd H p o) := fun b u e => by rw [upd_ne (ne_of_none e h)]; exact e
end

section
variable {X : Cx}
/-- sorted(xs): xs a list of alike data, of any length; P is what is known of each -/
def rSortD (K : PySem.W.Frag) {β : Type} (enc : β → PyData) : List V → Hp → VK → Prop := fun vs H Q => ∃ (a : Addr) (xs : List V) (bs : List β), vs = [V.ref a] ∧ SqL K H a xs ∧ DpAll K H xs (bs.map enc) ∧
  PySem.W.AllAlike (bs.map enc) ∧ PySem.W.Sortable (bs.map enc) ∧ (∀ b ∈ bs, (enc b).depth ≤ 60) ∧
  ∀ (p : Addr) (ys : List V) H', H p = none → Same H H' → H' p = some (.lst ys) → DpAll K H' ys ((bs.mergeSort (PySem.W.dataLe false enc)).map enc) → Q (.ref p) H'
theorem each_vals {K : PySem.W.Frag} {H : Hp} {β : Type} {enc : β → PyData} : ∀ {xs : List V} {us : List Value} {bs : List β}, Vals xs us → DpAll K H xs (bs.map enc) → PySem.W.EachIs (fun u b => ∃ x, RelV x u ∧ Dp K H x (enc b)) us bs
  | _, _, [], r, d => by
    have d' : DpAll K H _ [] := d
    cases d'
    cases r
    exact .nil
  | _, _, b :: bs, r, d => by
    have d' : DpAll K H _ (enc b :: bs.map enc) := d
    cases d' with
    | cons d1 d2 =>
      cases r with
      | cons r1 r2 => exact .cons ⟨_, r1, d1⟩ (each_vals r2 d2)
theorem vals_each {K : PySem.W.Frag} {H : Hp} {β : Type} {enc : β → PyData} : ∀ {us : List Value} {bs : List β}, PySem.W.EachIs (fun u b => ∃ x, RelV x u ∧ Dp K H x (enc b)) us bs → ∃ xs, Vals xs us ∧ DpAll K H xs (bs.map enc)
  | _, _, .nil => ⟨[], .nil, .nil⟩
  | _, _, .cons ⟨x, r, d⟩ t => by
    obtain ⟨xs, h1, h2⟩ := vals_each t
    exact ⟨x :: xs, .cons r h1, .cons d h2⟩
theorem cr_sortD {β : Type} (enc : β → PyData) (hu : X.A.units + 65 < cLine) : CallR X (.builtin "sorted") (rSortD X.K enc) := by
  intro pins s σ H vs us Q I r h
  obtain ⟨a, xs, bs, rfl, hs, hd, hal, hk, hdep, q⟩ := h
  obtain ⟨its, rv, hl, hz⟩ := I.list hs
  rw [Vals.ref1 r]
  have hlen : its.length = bs.length := by rw [← rv.length, dpAll_len hd, List.length_map]
  have e := each_vals rv hd
  obtain ⟨as, ra⟩ := Dp.readsAll I _ _ _ hd rv
  refine PySem.W.sorted_data (enc := enc) (bs := bs) (vs := its) hl.isList e (PySem.W.readsAll_each enc ra) hal hk (by rw [← hlen, ← rv.length]; exact hz) (fun b hb => ?_) fun out ho eo => ?_
  · have := hdep b hb
    omega
  · obtain ⟨ys, h1, h2⟩ := vals_each eo
    obtain ⟨ep, he'⟩ := PyProof.Rows.sortedAll_at s.heap its (List.toArray out)
    have hn : H (s.heap.objs.size + 1) = none := I.hok.fresh (Nat.le_succ _)
    have hyl : ys.length ≤ sizeLine := by
      rw [h1.length, ho, ← hlen, ← rv.length]; exact hz
    refine ⟨.ref _, upd H (s.heap.objs.size + 1) (.lst ys), I.laid (t' := s.toks) (fun _ _ => PyProof.Rows.sortedAll_old) (Nat.le_succ _) ⟨hyl, out, ep, h1, he'⟩, rfl, q _ ys _ hn (same_upd hn) upd_same ?_⟩
    exact dpAll_mono (same_upd hn) _ _ h2

/-- max(xs), min(xs): xs a list of alike data -/
def rBestD (K : PySem.W.Frag) (best : PyData → List PyData → PyData) : List V → Hp → VK → Prop := fun vs H Q => ∃ (a : Addr) (xs : List V) (d : PyData) (ds : List PyData), vs = [V.ref a] ∧ SqL K H a xs ∧ DpAll K H xs (d :: ds) ∧
  PySem.W.AlikeAll (d :: ds) ∧ PyData.canLayAll0 (d :: ds) = true ∧ PyData.depthAll (d :: ds) ≤ 60 ∧
  ∀ (x : V), Dp K H x (best d ds) → Q x H
theorem best_end {pins : List (Addr × Obj)} {s : Shared} {σ : L2.St} {H : Hp} {Q : VK} (I : Inv X pins σ H s) {xs : List V} {its : List Value} {as : List Addr} {ds : List PyData} (rv : Vals xs its) (hd : DpAll X.K H xs ds) (ra : ReadsAll s.heap its ds as) (hc : PyData.canLayAll0 ds = true) {i : Nat} {v : Value} {h' : Heap} {tk : Nat} {bs : List Addr} {e : PyData} (hi : its.toArray[i]? = some v)
    (hr : Reads h' v e bs) (he : e.canLay0 = true) (hk : ∀ b o, s.heap.get? b = some o → h'.get? b = some o) (q : ∀ x, Dp X.K H x e → Q x H) : EP X pins σ Q v { heap := h', gens := s.gens, drawn := s.drawn, toks := tk, os := s.os } := by
  have hi' : its[i]? = some v := by simpa using hi
  have hlt : i < its.length := by
    rcases Nat.lt_or_ge i its.length with h | h
    · exact h
    · rw [List.getElem?_eq_none h] at hi'; cases hi'
  obtain ⟨x, hx⟩ : ∃ x, xs[i]? = some x := ⟨xs[i]'(by rw [rv.length]; exact hlt), List.getElem?_eq_getElem _⟩
  obtain ⟨u, hu, ru⟩ := rv.get hx
  have euv : u = v := Option.some.inj (hu.symm.trans hi')
  subst euv
  obtain ⟨d, hdi, hdx⟩ := dpAll_get hd hx
  obtain ⟨as', rx⟩ := Dp.reads I d x u hdx ru
  have rx' : Reads h' u d as' := PyProof.Rows.Reads.keeps hk rx
  have hcd : d.canLay0 = true := by
    have : ∀ (ds : List PyData) (i : Nat), PyData.canLayAll0 ds = true → ds[i]? = some d → d.canLay0 = true := by
      intro ds
      induction ds with
      | nil => intro i _ h; simp at h
      | cons a r ih =>
        intro i h1 h2
        rw [PyData.canLayAll0, Bool.and_eq_true] at h1
        cases i with
        | zero => simp at h2; rw [← h2]; exact h1.1
        | succ i => exact ih i h1.2 (by simpa using h2)
    exact this ds i hc hdi
  have e1 := SeqAt.readOf_eq hcd rx'
  have e2 := SeqAt.readOf_eq he hr
  have ed : d = e := e1.symm.trans e2
  subst ed
  exact ⟨x, H, I.kept hk, ru, q x hdx⟩
theorem canLay_fold (f : PyData → PyData → Bool) : ∀ (ds : List PyData) (d : PyData), PyData.canLayAll0 (d :: ds) = true → (ds.foldl (fun a y => if f a y then y else a) d).canLay0 = true
  | [], d, h => by
    rw [PyData.canLayAll0, Bool.and_eq_true] at h
    exact h.1
  | e :: ds, d, h => by
    rw [PyData.canLayAll0, PyData.canLayAll0, Bool.and_eq_true, Bool.and_eq_true] at h
    rw [List.foldl_cons]
    refine canLay_fold f ds _ ?_
    rw [PyData.canLayAll0, Bool.and_eq_true]
    refine ⟨?_, h.2.2⟩
    split
    · exact h.2.1
    · exact h.1
theorem cr_maxD (hc : X.calm = true) (hu : X.A.units + 65 < cLine) : CallR X (.builtin "max") (rBestD X.K PySem.W.maxD) := by
  intro pins s σ H vs us Q I r h
  obtain ⟨a, xs, d, ds, rfl, hs, hd, hal, hl0, hdep, q⟩ := h
  obtain ⟨its, rv, hl, hz⟩ := I.list hs
  rw [Vals.ref1 r]
  obtain ⟨as, ra⟩ := Dp.readsAll I _ _ _ hd rv
  exact PySem.W.max_list_data (I.ok.hd hc) hl.isList (by simpa using ra) hal (by omega) fun i v h' tk bs hi hr hk => best_end I rv hd ra hl0 hi hr (canLay_fold _ ds d hl0) hk q
theorem cr_minD (hc : X.calm = true) (hu : X.A.units + 65 < cLine) : CallR X (.builtin "min") (rBestD X.K PySem.W.minD) := by
  intro pins s σ H vs us Q I r h
  obtain ⟨a, xs, d, ds, rfl, hs, hd, hal, hl0, hdep, q⟩ := h
  obtain ⟨its, rv, hl, hz⟩ := I.list hs
  rw [Vals.ref1 r]
  obtain ⟨as, ra⟩ := Dp.readsAll I _ _ _ hd rv
  exact PySem.W.min_list_data (I.ok.hd hc) hl.isList (by simpa using ra) hal (by omega) fun i v h' tk bs hi hr hk => best_end I rv hd ra hl0 hi hr (canLay_fold (fun a y => PySem.W.dataLt y a) ds d hl0) hk q
end
end DP
/-! set(xs) of a list of whole numbers, sorted then. -/
namespace DP
open PySem PySem.Spec PyProof.Rows L2
/-- a fresh set -/
abbrev newSet (w : World) : Obj := { cls := .type "set", dict := none, data := .set #[] 0 (.fresh 0 0 (!w.params.followText "set-order")) }
theorem set_of_ints {P : Program} {w : World} {A : Around} {E : Value → Shared → Prop} {s : Shared} {l : Addr} {items : Array Value} (ns : List Int) {Q : Value → Shared → Prop} (hh : A.handled = none) (hl : s.heap.IsList l items) (hit : IntsAre items.toList ns) (hb : ns.length + 1 < scanBound)
    (h : ∀ (h' : Heap) (tk c : Nat), SetR w h' s.heap.objs.size (fun j => decide (j ∈ ns)) c → c ≤ ns.length → (∀ b o, s.heap.get? b = some o → h'.get? b = some o) → Q (.ref s.heap.objs.size) { s with heap := h', toks := tk }) :
    wpAny (model P w) A (call (.type "set") [.ref l]) Q E s := by
  have hisz : items.size = ns.length := (Array.length_toList (xs := items)).symm.trans (IntsAre.length hit)
  have C := F.called_set
  obtain ⟨c, tl, hmro⟩ := C.mro
  have hmade := C.made; have hsub := C.sub
  refine wpAny_call (codeAny_of_tree ?_)
  show wpAny _ _ (callAny (.type "set") _) _ _ _
  refine wpAny_pure ⟨Code.quiet_builtin _ (by decide +kernel), codeAny_builtin F.entry_type_call ?_⟩
  rw [Around.under_plain (weight_type_call_type "set" [.ref l] []) rfl]
  have h1 := C.notType; have h2 := C.canCreate
  have hct := F.typeCall_set_1 (.ref l)
  repeat (any_goals (first | assumption | wp_step))
  refine codeAny_mono (code_set_led1 (.ref l) (E := E) (Q₁ := fun obj s₁ => obj = .ref s.heap.objs.size ∧ s₁ = { s with heap := s.heap.push (newSet w) }) ⟨rfl, rfl⟩) fun r s₁ hr => ?_
  cases r with
  | error e => exact hr
  | ok fl =>
  cases fl with
  | ret obj =>
    obtain ⟨rfl, rfl⟩ := hr
    have hS : (s.heap.push (newSet w)).get? s.heap.objs.size = some (newSet w) := Heap.get?_push_size _ rfl
    have hT : Shared.TypeIs { s with heap := s.heap.push (newSet w) } (.ref s.heap.objs.size) "set" := ⟨_, hS, rfl⟩
    have hli := C.init.lookup; have hbi := C.init.bind (.ref s.heap.objs.size)
    repeat (any_goals (first | assumption | wp_step))
    refine codeAny_mono (codeAny_call_builtin (R := wants (fun r s₂ => r = .none ∧ ∃ h' tk c, s₂ = { s with heap := h', toks := tk } ∧ SetR w h' s.heap.objs.size (fun j => decide (j ∈ ns)) c ∧ c ≤ ns.length ∧ ∀ b o, s.heap.get? b = some o → h'.get? b = some o) E) C.init.plain F.entry_set_init (check_set_init_1 hT ?_)) fun r₂ s₂ hr₂ => ?_
    · obtain ⟨⟨ocls, odict, odata, oslots⟩, hol, hcl, nl, hdl⟩ := hl
      simp only at hcl hdl
      subst hcl hdl
      have hol' : (s.heap.push (newSet w)).get? l = some { cls := .type "list", dict := odict, data := .seq items nl, slots := oslots } := Heap.get?_push_of_some _ hol
      have hsls := F.sub_list_set; have hslf := F.sub_list_frozenset
      have hne : (Value.type "list" == Value.type "dict") = false := by decide
      have hl1 : (s.heap.push (newSet w)).IsList l items := ⟨_, hol', rfl, nl, rfl⟩
      unfold Builtin.«set.__init__» noKeywords Builtin.Frozenset.updateFrom
      generalize hPI : pyIter = PI
      wp_walk
      subst hPI
      refine wpAny_pyIter_list hl1 (wpAny_bind (wpAny_runValue ?_))
      have hlS : l < s.heap.objs.size := Heap.lt_size hol
      have hh3 : A.in1.in1.in1.handled = none := by simp [hh]
      have hz : (s.heap.push (newSet w)).objs.size = s.heap.objs.size + 1 := Heap.size_push ..
      have hneI : l ≠ (s.heap.push (newSet w)).objs.size := by rw [hz]; exact Nat.ne_of_lt (Nat.lt_succ_of_lt hlS)
      have hSf : s.heap.objs.size ∉ [(s.heap.push (newSet w)).objs.size, l] := by
        rw [hz]; simp only [List.mem_cons, List.not_mem_nil, or_false, not_or]; exact ⟨Nat.ne_of_lt (Nat.lt_succ_self _), Nat.ne_of_gt hlS⟩
      have hval : ∀ (i : Nat) (v : Value), items[i]? = some v → ∃ k t, ns[i]? = some k ∧ v = .int k t := fun i v hv => by
        have hi : i < ns.length := hisz ▸ (Array.getElem?_eq_some_iff.mp hv).1
        obtain ⟨t, e⟩ := PyProof.Rows.IntsAre.int_at hit i v (by rw [Array.getElem?_toList]; exact hv)
        exact ⟨ns[i], t, List.getElem?_eq_getElem hi, by rw [e, List.getD_eq_getElem?_getD, List.getElem?_eq_getElem hi]; rfl⟩
      refine set_update_ints ((Walks.list hh3 _ l hneI items).toS) s.heap.objs.size hSf ns hisz hb hval (items.size - 0) 0 _ (by omega) (Nat.zero_le _) ⟨⟨_, Heap.get?_push_size _ rfl, rfl, rfl⟩, (hl1.push _)⟩ ?z0 ?zR
      case z0 => exact ⟨0, Nat.le_refl 0, setR_new_at (Heap.get?_push_of_some _ hS)⟩
      case zR =>
        intro s' c' hm hc' hS'
        obtain ⟨h', g2, d', tk', os'⟩ := s'
        have eg : g2 = s.gens := hm.gens
        have ed : d' = s.drawn := hm.drawn
        have eo : os' = s.os := hm.os
        subst eg ed eo
        rw [hisz] at hc'
        refine wpAny_pure (?_ : wpAny _ _ (ret Value.none) _ _ _)
        refine wpAny_pure ⟨rfl, h', tk', c', rfl, hS', hc', fun b o e => ?_⟩
        have hb0 : b < s.heap.objs.size := Heap.lt_size e
        refine hm.heap b o ?_ (Heap.get?_push_of_some _ (Heap.get?_push_of_some _ e))
        simp only [List.mem_cons, List.not_mem_nil, or_false, not_or]
        exact ⟨Nat.ne_of_lt hb0, by rw [hz]; exact Nat.ne_of_lt (Nat.lt_succ_of_lt hb0)⟩
    · cases r₂ with
      | error e => exact hr₂
      | ok fl₂ =>
      cases fl₂ with
      | ret r =>
        obtain ⟨rfl, h', tk, c', rfl, hS', hc', hk'⟩ := hr₂
        repeat (any_goals (first | assumption | wp_step))
        exact h _ _ _ hS' hc' hk'
      | _ => exact hr₂.elim
  | _ => exact hr.elim
section
variable {X : Cx}
/-- set(xs), xs a list of whole numbers -/
def rSetI (K : PySem.W.Frag) (w : World) : List V → Hp → VK → Prop := fun vs H Q => ∃ (l : Addr) (ns : List Int), vs = [V.ref l] ∧ SqL K H l (ns.map V.int) ∧ ns.length ≤ 60 ∧
  ∀ (a : Addr) (c : Nat), c ≤ ns.length → H a = none → Q (.ref a) (upd H a (SetO w a (fun j => decide (j ∈ ns)) c))
theorem cr_setI (hc : X.calm = true) : CallR X (.type "set") (rSetI X.K X.w) := by
  intro pins s σ H vs us Q I r h
  obtain ⟨l, ns, rfl, hs, hlen, q⟩ := h
  obtain ⟨its, rv, pl, hz⟩ := I.list hs
  rw [Vals.ref1 r]
  have hi : IntsAre its.toArray.toList ns := by simpa using rv.ints
  refine set_of_ints ns (I.ok.hd hc) pl.isList hi (by unfold scanBound; omega) fun h' tk c R hcl hk => ?_
  exact ⟨.ref _, upd H s.heap.objs.size (SetO X.w s.heap.objs.size (fun j => decide (j ∈ ns)) c), I.laid (t' := tk) hk (Nat.le_refl _) (setO_new R), rfl, q _ c hcl (I.hok.fresh (Nat.le_refl _))⟩
/-- d[k], d a written dict -/
theorem ix_kd {d : Addr} {es : Array DictEntry} {n : Nat} (D : KDict X.K X.w d es n) : IxR X (fun x y H Q => ∃ (z : Str) (u0 : Value) (v0 : V), x = .ref d ∧ y = .str z ∧ PySem.W.nsIn X.K d z = some (some u0) ∧ RelV v0 u0 ∧ Q v0 H) := by
  intro value slice pins s σ H x y v u Q I rx ry h hs
  obtain ⟨z, u0, v0, ex, ey, e, r, q⟩ := h
  subst ex ey
  cases rx
  obtain ⟨t, rfl⟩ := ry
  have fin : EP X pins σ Q u0 s := ⟨v0, H, I, r, q⟩
  exact subscriptTail_builtinR (x := u0) (kd_type D I) PySem.F.slot_dict_getitem.lookup
    (wpAny_getItem_of (PySem.strKind_is X.prog X.w z t) (PySem.W.mapOf_K (prog := X.prog) I.kIn D.at_ D.lit) (PySem.W.find_K D.at_ e) ⟨rfl, ⟨v0, H, I.tok _, r, q⟩⟩) hs
end
end DP
/-! The rules with the written part named, for comprehensions; a method called with keywords. -/
namespace DP
open PySem PySem.Spec PyProof.Rows L2
section
variable {X : Cx} {K : PySem.W.Frag}
theorem ixT (h : X.K = K := by rfl) : IxR X (rIxT K) := by subst h; exact ix_tup
theorem ixL (h : X.K = K := by rfl) : IxR X (rIxL K) := by subst h; exact ix_list
theorem inS (h : X.K = K := by rfl) : OpR X (compareOp .In) (rIn K false) := by subst h; exact op_in_seq
theorem notInS (h : X.K = K := by rfl) : OpR X (compareOp .NotIn) (rIn K true) := by subst h; exact op_notIn_seq
theorem eqDK (hu : X.A.units + 64 < cLine) (h : X.K = K := by rfl) : OpR X (compareOp .Eq) (rEqD K) := by subst h; exact op_eqD hu
theorem neDK (hu : X.A.units + 64 < cLine) (h : X.K = K := by rfl) : OpR X (compareOp .NotEq) (rNeD K) := by subst h; exact op_neD hu
theorem inDK (hu : X.A.units + 65 < cLine) (h : X.K = K := by rfl) : OpR X (compareOp .In) (rInD K) := by subst h; exact op_inD hu
theorem notInDK (hu : X.A.units + 65 < cLine) (h : X.K = K := by rfl) : OpR X (compareOp .NotIn) (rNotInD K) := by subst h; exact op_notInD hu
def rLenK (K : PySem.W.Frag) : List V → Hp → VK → Prop := fun xs H Q => ∃ p ys, xs = [V.ref p] ∧ (SqL K H p ys ∨ SqT K H p ys) ∧ Q (.int ys.length) H
theorem lenK (h : X.K = K := by rfl) : CallR X (.builtin "len") (rLenK K) := by subst h; exact call_len_seq
def rListK (K : PySem.W.Frag) : List V → Hp → VK → Prop := fun xs H Q => ∃ p ys, xs = [V.ref p] ∧ (SqL K H p ys ∨ SqT K H p ys) ∧ ∀ l, H l = none → Q (.ref l) (upd H l (.lst ys))
theorem listK (h : X.K = K := by rfl) : CallR X (.type "list") (rListK K) := by subst h; exact call_list_of
theorem maxK (hc : X.calm = true) (h : X.K = K := by rfl) : CallR X (.builtin "max") (rMax K) := by subst h; exact cr_max hc
theorem minK (hc : X.calm = true) (h : X.K = K := by rfl) : CallR X (.builtin "min") (rMin K) := by subst h; exact cr_min hc
theorem maxDK (hc : X.calm = true) (hu : X.A.units + 65 < cLine) (h : X.K = K := by rfl) : CallR X (.builtin "max") (rBestD K PySem.W.maxD) := by subst h; exact cr_maxD hc hu
theorem minDK (hc : X.calm = true) (hu : X.A.units + 65 < cLine) (h : X.K = K := by rfl) : CallR X (.builtin "min") (rBestD K PySem.W.minD) := by subst h; exact cr_minD hc hu
theorem sortK (h : X.K = K := by rfl) : CallR X (.builtin "sorted") (rSorted K) := by subst h; exact cr_sorted
theorem sortDK {β : Type} (enc : β → PyData) (hu : X.A.units + 65 < cLine) (h : X.K = K := by rfl) : CallR X (.builtin "sorted") (rSortD K enc) := by subst h; exact cr_sortD enc hu
theorem setIK {w : World} (hc : X.calm = true) (h : X.K = K := by rfl) (hw : X.w = w := by rfl) : CallR X (.type "set") (rSetI K w) := by subst h hw; exact cr_setI hc
theorem sortedSetK {w : World} (hc : X.calm = true) (hw : X.w = w := by rfl) : CallR X (.builtin "sorted") (rSortedSet w) := by subst hw; exact cr_sortedSet hc
theorem slL (h : X.K = K := by rfl) : SlR X (rSlL K) := by subst h; exact sl_list
theorem isiK (h : X.K = K := by rfl) : CallR X (.builtin "isinstance") (rIsi K) := by subst h; exact call_isi
theorem fldK {o : Expr} {ta : TE} {f : Str} {pos : Pos} (he : PE X o ta) (hb : attributeBase o f X.env (eval o X.env) = eval o X.env := by rfl) (h : X.K = K := by rfl) : PE X (.Attribute o f pos) (tFld K ta f) := by subst h; exact pe_fld he hb
theorem tupK {es : List Expr} {k : Nat} {t : TGs} {n : Nat} {pos : Pos} (hc : X.calm = true) (h1 : PGs X es t) (hn : (assignEach es X.env).length = n := by rfl) (hst : (assignEach es X.env).findIdx? (·.1) = none := by rfl) (h : X.K = K := by rfl) :
    PG X (.Tuple es k pos) (gTup K n t) := by subst h; exact pg_tup hc h1 hn hst
end
section
variable {X : Cx} {CX : CXT} {k : Nat} {f C : Addr} {fd : FuncData} {ps ks : List Str} {sp : Sp} {E : XK} {m : Str} {pos apos : Pos} {o : Expr} {kws : List Keyword} {ta : TE} {tk : TA} {g : List Value → List Value → List Value} {gV : List V → List V → List V}
/-- o.m(k = v, ..) -/
def tMethK (C : Addr) (m : Str) (sp : Sp) (gV : List V → List V → List V) (E : XK) (ta : TE) (tk : TA) : TE := fun σ H Q => ta σ H fun x H1 => ∃ a dx fs, x = .ref a ∧ H1 a = some (.ins C dx fs) ∧ fs.lookup m = none ∧ tk σ H1 fun zs H2 => sp (gV [.ref a] zs) H2 Q E
theorem pe_methK0 {pl : Sem Bool} (he : PE X o ta) (c : Cls X.K C) (hm : Meth X.K C m f) (F : FnOk X.prog X.w X.K X.mg X.base CX k f fd ps sp) (hr : Room k X.A) (hb : KBinds X.K fd ps ks g gV) (hx : Passes CX X E) (hkw : PK X kws tk)
    (hall : (backToKw pos (keywordEach kws X.env)).all (·.1.isSome) = true := by rfl) (hks : (backToKw pos (keywordEach kws X.env)).filterMap (·.1) = ks := by rfl)
    (hpl : ((backTo pos (starEach [] X.env)).any (·.1) || (backToKw pos (keywordEach kws X.env)).any (·.1.isNone)) = false := by rfl)
    (ht : eval (.Call (.Attribute o m apos) [] kws pos) X.env = (do
      let ov ← eval o X.env
      standAt apos.atName
      let (f, first) ← holding [ov] (getMethod ov m pl)
      callWith pos f first (backTo pos (starEach [] X.env)) (backToKw pos (keywordEach kws X.env))) := by rfl) :
    PE X (.Call (.Attribute o m apos) [] kws pos) (tMethK C m sp gV E ta tk) := by
  refine ⟨fun pins s σ H Q I h => ?_⟩
  refine PySem.W.methodCall_KW (pl := pl) (thn (he.run pins s σ H _ I h) fun u s1 ⟨x, H1, I1, rx, a, dx, fs, ex, ea, l, q⟩ => ?_) ht
  subst ex
  obtain rfl : u = Value.ref a := rx
  refine getmeth_ok I1 ea c hm l ?_
  refine PySem.W.callWith_KW0 (first := [.ref a]) (h₀ := X.base) I.ok.mod.kin hm.kp hall ?_ hpl
  refine thn (hkw.run pos pins s1 σ H1 _ I1 q) fun ws s2 ⟨zs, H2, I2, rz, q2⟩ => ⟨I2.kIn, ?_⟩
  rw [hks]
  exact run_fnk (us := [.ref a]) (vs := [.ref a]) F hr hb hx I2 (.cons rfl .nil) rz q2
end
/-- one positional value, one keyword -/
def g11 {α : Type} : List α → List α → List α
  | [a], [b] => [a, b]
  | _, _ => []
theorem g11_rel {vs : List V} {us : List Value} {zs : List V} {ws : List Value} (r : Vals vs us) (q : Vals zs ws) : Vals (g11 vs zs) (g11 us ws) := by
  cases r with
  | nil => exact .nil
  | cons a t =>
    cases t with
    | cons _ _ => exact .nil
    | nil =>
      cases q with
      | nil => exact .nil
      | cons b t =>
        cases t with
        | cons _ _ => exact .nil
        | nil => exact .cons a (.cons b .nil)
end DP
/-! == and != by an own class's __eq__ and __ne__, whatever they answer. -/
namespace DP
open PySem PySem.Spec PyProof.Rows L2
theorem rooms64 {A : Around} {k : Nat} (hr : Room k A) : A.units + 64 < cLine := by have := hr.un; omega
/-- what isinstance asks of an own class's instances -/
structure IsiC (K : PySem.W.Frag) (C : Addr) : Prop where
  ha : PySem.W.findIn K (.ref C) "__class__" = some (some (.builtin "object.__class__"))
  hn : PySem.W.specialIn K (.builtin "object.__class__") "__get__" = some (some (.builtin "getset_descriptor.__get__"))
  htk : PySem.W.takesIn K (.builtin "object.__class__") = some true
  hm : PySem.W.mroIn K C (.type "object") = some true
theorem kit_self (K : PySem.W.Frag) (C : Addr) : PySem.W.kitOne K (.ref C) (.ref C) = some true := if_pos (beq_self_eq_true _)
theorem kit_no {K : PySem.W.Frag} {S : Addr} {t : Value} (h0 : (t == .ref S) = false) (h2 : PySem.W.isClsIn K S = true) (h3 : PySem.W.typeIn K (.ref S) = some (.type "type")) {b : Option Bool} (h4 : PySem.W.subIn K t (.ref S) = b) : PySem.W.kitOne K t (.ref S) = b := by
  have e2 : ((PySem.W.clsIn K S).isSome && PySem.W.typeIn K (.ref S) == some (.type "type")) = true := by
    have h2' : (PySem.W.clsIn K S).isSome = true := h2
    rw [h2', h3] <;> rfl
  show (if (t == .ref S) = true then some true else if ((PySem.W.clsIn K S).isSome && PySem.W.typeIn K (.ref S) == some (.type "type")) = true then PySem.W.subIn K t (.ref S) else none) = b
  rw [h0, if_neg Bool.false_ne_true, if_pos e2]
  exact h4
section
variable {X : Cx} {CX : CXT} {C f : Addr} {fd : FuncData} {ps : List Str} {sp : Sp} {E : XK} {k : Nat} {op : CmpOp}
/-- the right side: of the same class, a list, a whole number -/
inductive Right (K : PySem.W.Frag) (C : Addr) (H : Hp) : V → Prop
  | ins {b dy gs} : H b = some (.ins C dy gs) → Right K C H (.ref b)
  | lst {b xs} : SqL K H b xs → PySem.W.notFirst K C (.type "list") = true → Right K C H (.ref b)
  | int {i} : PySem.W.notFirst K C (.type "int") = true → Right K C H (.int i)
  | any {v t} : TyX K H v (.type t) → PySem.W.notFirst K C (.type t) = true → Right K C H v
def rOwn (K : PySem.W.Frag) (C : Addr) (sp : Sp) (E : XK) : V → V → Hp → VK → Prop := fun x y H Q => ∃ a dx fs, x = .ref a ∧ H a = some (.ins C dx fs) ∧ Right K C H y ∧ sp [x, y] H (fun v H' => ∃ b, v = .bl b ∧ Q (.bl b) H') E
theorem own_run (F : FnOk X.prog X.w X.K X.mg X.base CX k f fd ps sp) (hs : PySem.W.findIn X.K (.ref C) (cmpInfo op).2.1 = some (some (.ref f))) (hf : PySem.W.isFn X.K (.ref f) = true) (hb : Binds X.K fd ps []) (hx : Passes CX X E) (hr : Room k X.A) : ∀ (pins : List (Addr × Obj)) (s : Shared) (σ : L2.St) (H : Hp) (x y : V) (v u : Value) (Q : VK), Inv X pins σ H s → RelV x v → RelV y u → rOwn X.K C sp E x y H Q → wpAny (model X.prog X.w) X.A (richCompare op v u) (EP X pins σ Q) X.xe s := by
  intro pins s σ H x y v u Q I rx ry hq
  obtain ⟨a, dx, fs, rfl, ha, hy, q⟩ := hq
  cases rx
  obtain ⟨mA, J, _⟩ := ins_get I.hok ha
  obtain ⟨od, J, _⟩ := J.look
  obtain ⟨m, hF⟩ := I.fr
  obtain ⟨tb, hl, hn⟩ : ∃ tb, PySem.W.Looks (model X.prog X.w) s.heap (typeOf u) tb ∧ PySem.W.notFirst X.K C tb = true := by
    cases hy with
    | ins h =>
      cases ry
      obtain ⟨mB, J', _⟩ := ins_get I.hok h
      obtain ⟨od', J', _⟩ := J'.look
      exact ⟨.ref C, J'.type, by simp [PySem.W.notFirst]⟩
    | lst h hn =>
      cases ry
      obtain ⟨its, rv, pl, hz⟩ := I.list h
      exact ⟨_, fun A Q E s1 k q => (by
        obtain ⟨o, ho, hc, r⟩ := pl.isList
        exact wpAny_typeOf_ref (k _ _ ho) (by rw [hc]; exact q)), hn⟩
    | int hn =>
      obtain ⟨t, rfl⟩ := ry
      exact ⟨_, fun A Q E s1 k q => wpAny_pure q, hn⟩
    | any h hn =>
      obtain ⟨Pk, kx, hp, _⟩ := kit_of I ry h
      exact ⟨_, kx.ty _ _ I.kIn hp, hn⟩
  refine PySem.W.cmp_K (op := op) (tb := tb) hr.units0 hF I.ok.mod.kin J hl hn hs hf ?_
  have r2 : Vals [V.ref a, y] [Value.ref a, u] := .cons rfl (.cons ry .nil)
  have hlen := F.len _ _ _ _ q
  refine wpAny_call (codeAny_mono (F.run X.A X.stack s H ⟨[.ref a, u], []⟩ [.ref a, u] [.ref a, y] _ E hr I.env0 (by
    have := hb s [.ref a, u] I.kIn (by simpa using hlen)
    simpa using this) r2 q) fun r s' hq => ?_)
  cases r with
  | error e => exact hx pins σ H s e s' I hq
  | ok fl =>
    cases fl with
    | ret w =>
      obtain ⟨z, H', I', rz, b, ez, q2⟩ := I.after hq
      subst ez
      cases rz
      exact ⟨.bl b, H', I', rfl, q2⟩
    | next => exact hq.elim
    | brk => exact hq.elim
    | cont => exact hq.elim
theorem op_ownEq (F : FnOk X.prog X.w X.K X.mg X.base CX k f fd ps sp) (hs : PySem.W.findIn X.K (.ref C) "__eq__" = some (some (.ref f))) (hf : PySem.W.isFn X.K (.ref f) = true) (hb : Binds X.K fd ps []) (hx : Passes CX X E) (hr : Room k X.A) : OpR X (compareOp .Eq) (rOwn X.K C sp E) := fun pins s σ H x y v u Q I rx ry hq =>
  own_run (op := .Eq) F hs hf hb hx hr pins s σ H x y v u Q I rx ry hq
theorem op_ownNe (F : FnOk X.prog X.w X.K X.mg X.base CX k f fd ps sp) (hs : PySem.W.findIn X.K (.ref C) "__ne__" = some (some (.ref f))) (hf : PySem.W.isFn X.K (.ref f) = true) (hb : Binds X.K fd ps []) (hx : Passes CX X E) (hr : Room k X.A) : OpR X (compareOp .NotEq) (rOwn X.K C sp E) := fun pins s σ H x y v u Q I rx ry hq =>
  own_run (op := .NotEq) F hs hf hb hx hr pins s σ H x y v u Q I rx ry hq
/-- in a comprehension: K named -/
theorem ownEqK {K : PySem.W.Frag} {P : Program} {w : World} {mg : Str → Option Value} {base : Heap} (F : FnOk P w K mg base CX k f fd ps sp) (hs : PySem.W.findIn K (.ref C) "__eq__" = some (some (.ref f))) (hf : PySem.W.isFn K (.ref f) = true) (hb : Binds K fd ps []) (hx : Passes CX X E) (hr : Room k X.A) (h1 : X.prog = P := by rfl) (h2 : X.w = w := by rfl) (h3 : X.K = K := by rfl) (h4 : X.mg = mg := by rfl) (h5 : X.base = base := by rfl) : OpR X (compareOp .Eq) (rOwn K C sp E) := by
  subst h1 h2 h3 h4 h5
  exact op_ownEq F hs hf hb hx hr
end
end DP
/-! Calls by keywords, in any order, with defaults: functions, methods, classes. -/
namespace KW
open PySem PySem.Spec PyProof.Rows L2 DP
/-- those of a list that stand at these places -/
def pick {α : Type} (is : List Nat) (l : List α) : List α := is.filterMap fun i => l[i]?
theorem vals_at : ∀ {vs : List V} {us : List Value} (r : Vals vs us) (i : Nat), (vs[i]? = none ∧ us[i]? = none) ∨ ∃ v u, vs[i]? = some v ∧ us[i]? = some u ∧ RelV v u
  | _, _, .nil, i => .inl ⟨by simp, by simp⟩
  | _, _, .cons h t, 0 => .inr ⟨_, _, rfl, rfl, h⟩
  | _, _, .cons h t, i + 1 => by simpa using vals_at t i
theorem pick_rel {vs : List V} {us : List Value} (r : Vals vs us) : ∀ is : List Nat, Vals (pick is vs) (pick is us)
  | [] => .nil
  | i :: is => by
    unfold pick
    rw [List.filterMap_cons, List.filterMap_cons]
    rcases vals_at r i with ⟨e1, e2⟩ | ⟨v, u, e1, e2, h⟩
    · rw [e1, e2]; exact pick_rel r is
    · rw [e1, e2]; exact .cons h (pick_rel r is)
/-- positional values, then the rest out of the keywords' values and the defaults -/
def gk {α : Type} (is : List Nat) (ds us ws : List α) : List α := us ++ pick is (ws ++ ds)
theorem gk_rel {is : List Nat} {dv vs zs : List V} {ds us ws : List Value} (rd : Vals dv ds) (r : Vals vs us) (rz : Vals zs ws) : Vals (gk is dv vs zs) (gk is ds us ws) := r.append (pick_rel (rz.append rd) is)
/-- all parameters are given -/
theorem kbn0 {K : PySem.W.Frag} {fd : FuncData} {ps ks : List Str} {n : Nat} (is : List Nat) (h : ∀ us ws : List Value, us.length = n → ws.length = ks.length → bindArgs fd ⟨us, ks.zip ws⟩ = pure (ps.zip (gk is [] us ws))) : KBn K fd ps n ks (gk is []) (gk is []) :=
  ⟨fun s us ws _ h1 h2 => .of_eq (h us ws h1 h2), fun r rz => gk_rel .nil r rz⟩
section
variable {K : PySem.W.Frag} {x qual : Str} {params : Arguments} {body : List Stmt} {scope : Scope} {dvs : List V} {f : Addr} {fd : FuncData} {ps : List Str}
/-- the lacking ones stand among the defaults -/
theorem kbnD (F : FunD K x qual params body scope dvs [] f fd) (n : Nat) (ks : List Str) (is : List Nat) (hd : dvs ≠ [])
    (h : ∀ (T : Addr) (kV doc pm : Value) (an : Option Addr) (cdv ct : Value) (us its ws : List Value), us.length = n → its.length = dvs.length → ws.length = ks.length →
      ∃ k, bindArgs (PySem.W.fnOf x qual params body scope (.ref T) kV doc pm an cdv ct) ⟨us, ks.zip ws⟩ = seqItems? (.ref T) >>= k ∧ k (some its.toArray) = pure (ps.zip (gk is its us ws))) : ∃ its : List Value, KBn K fd ps n ks (gk is its) (gk is dvs) := by
  obtain ⟨oc, od, dV, kV, doc, pm, an, cdv, ct, osl, rfl, lk, hcd, hD, hK⟩ := F.ex
  rcases hD with ⟨e, _⟩ | ⟨_, T, o, its, m, rfl, lT, oT, rT⟩
  · exact absurd e hd
  · refine ⟨its, fun s us ws X l1 l2 => ?_, fun r rz => gk_rel rT r rz⟩
    obtain ⟨k, e1, e2⟩ := h T kV doc pm an cdv ct us its ws l1 rT.length.symm l2
    refine BindsTo.of_looks fun M => ?_
    rw [e1]
    exact looks_items X lT oT (.of_pure e2)
end
section
variable {X : Cx} {CX : CXT} {k : Nat} {f C : Addr} {fd : FuncData} {ps ks : List Str} {sp : Sp} {E : XK} {x m : Str} {p pos apos : Pos} {o : Expr} {kws : List Keyword} {ta : TE} {tk : TA} {g : List Value → List Value → List Value} {gV : List V → List V → List V}
def tCallN0 (c : Nat) (sp : Sp) (gV : List V → List V → List V) (E : XK) (tk : TA) : TE := fun σ H Q => tk σ H fun zs H2 => zs.length = c ∧ sp (gV [] zs) H2 Q E
/-- f(k = v, ..) -/
theorem pe_callN0 (F : FnOk X.prog X.w X.K X.mg X.base CX k f fd ps sp) (hr : Room k X.A) (hg : Gl X x) (hm : X.mg x = some (.ref f)) (hk : PySem.W.keepIn X.K (.ref f) = true) (hb : KBn X.K fd ps 0 ks g gV) (hx : Passes CX X E) (hkw : PK X kws tk)
    (hall : (backToKw pos (keywordEach kws X.env)).all (·.1.isSome) = true := by rfl) (hks : (backToKw pos (keywordEach kws X.env)).filterMap (·.1) = ks := by rfl) (hdb : (x == ("__debug__" : Str)) = false := by decide)
    (hpl : ((backTo pos (starEach [] X.env)).any (·.1) || (backToKw pos (keywordEach kws X.env)).any (·.1.isNone)) = false := by rfl) :
    PE X (.Call (.Name x p) [] kws pos) (tCallN0 ks.length sp gV E tk) := by
  refine ⟨fun pins s σ H Q I h => ?_⟩
  refine wpAny_Call_Name_kw (ld_glob I hg hm ?_ hdb)
  refine PySem.W.callWith_KW0 (h₀ := X.base) I.ok.mod.kin hk hall ?_ hpl
  refine thn (hkw.run pos pins s σ H _ I h) fun ws s2 ⟨zs, H2, I2, rz, l2, q2⟩ => ⟨I2.kIn, ?_⟩
  rw [hks]
  exact run_fnN (us := []) (vs := []) F hr hb hx I2 .nil rz rfl l2 q2
def tMethN (C : Addr) (m : Str) (c : Nat) (sp : Sp) (gV : List V → List V → List V) (E : XK) (ta : TE) (tk : TA) : TE := fun σ H Q => ta σ H fun x H1 => ∃ a dx fs, x = .ref a ∧ H1 a = some (.ins C dx fs) ∧ fs.lookup m = none ∧ tk σ H1 fun zs H2 => zs.length = c ∧ sp (gV [.ref a] zs) H2 Q E
/-- o.m(k = v, ..) -/
theorem pe_methN {pl : Sem Bool} (he : PE X o ta) (c : Cls X.K C) (hm : Meth X.K C m f) (F : FnOk X.prog X.w X.K X.mg X.base CX k f fd ps sp) (hr : Room k X.A) (hb : KBn X.K fd ps 1 ks g gV) (hx : Passes CX X E) (hkw : PK X kws tk)
    (hall : (backToKw pos (keywordEach kws X.env)).all (·.1.isSome) = true := by rfl) (hks : (backToKw pos (keywordEach kws X.env)).filterMap (·.1) = ks := by rfl)
    (hpl : ((backTo pos (starEach [] X.env)).any (·.1) || (backToKw pos (keywordEach kws X.env)).any (·.1.isNone)) = false := by rfl)
    (ht : eval (.Call (.Attribute o m apos) [] kws pos) X.env = (do
      let ov ← eval o X.env
      standAt apos.atName
      let (f, first) ← holding [ov] (getMethod ov m pl)
      callWith pos f first (backTo pos (starEach [] X.env)) (backToKw pos (keywordEach kws X.env))) := by rfl) :
    PE X (.Call (.Attribute o m apos) [] kws pos) (tMethN C m ks.length sp gV E ta tk) := by
  refine ⟨fun pins s σ H Q I h => ?_⟩
  refine PySem.W.methodCall_KW (pl := pl) (thn (he.run pins s σ H _ I h) fun u s1 ⟨x, H1, I1, rx, a, dx, fs, ex, ea, l, q⟩ => ?_) ht
  subst ex
  obtain rfl : u = Value.ref a := rx
  refine getmeth_ok I1 ea c hm l ?_
  refine PySem.W.callWith_KW0 (first := [.ref a]) (h₀ := X.base) I.ok.mod.kin hm.kp hall ?_ hpl
  refine thn (hkw.run pos pins s1 σ H1 _ I1 q) fun ws s2 ⟨zs, H2, I2, rz, l2, q2⟩ => ⟨I2.kIn, ?_⟩
  rw [hks]
  exact run_fnN (us := [.ref a]) (vs := [.ref a]) F hr hb hx I2 (.cons rfl .nil) rz rfl l2 q2
end
section
variable {P : Program} {w : World} {K : PySem.W.Frag} {mg : Str → Option Value} {base : Heap} {x qual : Str} {st : Stmt} {dvs : List V} {f : Addr} {fd : FuncData}
/-- a def with defaults, by its body -/
theorem FunD.okN {N ps : List Str} {k : Nat} {sp : Sp} (F : FunD K x qual (defArgs st) (defBody st) (defScope st) dvs [] f fd) (S : FnScope N ps (defScope st)) (len : ∀ vs H Q E, sp vs H Q E → vs.length = ps.length)
    (hbody : ∀ (cdv : Value) (A : Around) (outer : List Env) (s : Shared) (H : Hp) (vs : List V) (Q : VK) (E : XK), Room k (A.deeper (envOfC qual (defScope st) s.heap.objs.size f cdv)) → sp vs H Q E →
      ∃ t, PSs (cxOf CX0 P w K mg base N qual (defScope st) f cdv A outer s H E).nox (defBody st) t ∧ t { nx := fun _ H' => Q .non H', rt := Q } (start N vs) H) : FnOk P w K mg base CX0 (k + 1) f fd ps sp :=
  F.ok S len fun cdv A outer s H vs Q E hr hsp => by
    obtain ⟨t, h, q⟩ := hbody cdv A outer s H vs Q E hr hsp
    exact ⟨t, h.nox, q⟩
end
end KW
/-! sep.join(reversed(a list of texts)). -/
namespace DP
open PySem PySem.Spec PyProof.Rows L2
section
variable {prog : Program} {w : World} {A : Around} {E : Value → Shared → Prop} {s : Shared}
theorem join_rev {x : Str} {t : Tok} {it l : Addr} {items : Array Value} {ys : List Str} {Q : Value → Shared → Prop} (hh : A.handled = none) (hit : s.heap.IsRevIter it l ((items.size : Int) - 1)) (hl : s.heap.IsList l items) (hne : l ≠ it) (hn : items.size ≤ sizeLine)
    (hP : ∀ acc : Array Value, ItemsOf (fun i v => items[items.size - 1 - i]? = some v) acc items.size → StrsAre acc.toList ys) (hok : (ys.map (·.length)).sum + ys.length * x.length ≤ 16777216)
    (hq : ∀ h' k, (∀ b o, b ≠ it → s.heap.get? b = some o → h'.get? b = some o) → ∀ t', Q (.str (Txt.join x ys) t') { s with heap := h', toks := k }) :
    wpAny (model prog w) A (call (.builtin "str.join") [.str x t, .ref it]) Q E s := by
  refine wpAny_call (codeAny_call_builtin F.slot_str_join.plain F.entry_str_join (F.slot_str_join.check _ _ _ _ _ _ _ _ (typeIs_str _ _ _) (F.args_str_join_2 _ _) ?_))
  rw [join_tree_other]
  refine wpAny_bind (wpAny_typeOf hit.typeIs ?_)
  show wpAny _ A.in1 ((pyIter (.ref it)).tryCatch _ >>= fun it => collect it >>= fun items => joinTail x items) _ _ s
  refine wpAny_bind (wpAny_tryCatch (wpAny_pyIter_revIter hit ?_))
  refine wpAny_bind (RT.collect_rev (A := A.in1) hh hit hl hne hn fun h' tk acc hk hacc => ?_)
  obtain ⟨ps, hps, ht⟩ := strsAre_values (hP acc hacc)
  subst ht
  rw [hps]
  have hok' := joinOk_of hok
  unfold JoinOk at hok'
  rw [Bool.not_eq_true'] at hok'
  have g : Gives (joinTail x (strValues ps)) (joinMade x ps) := by
    have g0 := gives_joinTail x ps hok'
    cases ps with
    | nil => exact g0
    | cons p r => cases r with
      | nil => exact g0
      | cons q r' => exact g0
  exact g prog w A (wants Q E) { s with heap := h', toks := tk } (post_join ps ⟨joinFit_length hok', fun t' k => hq h' k hk t'⟩)
end
section
variable {X : Cx}
def tJoinRev (K : PySem.W.Frag) (to te : TE) : TE := fun σ H Q => to σ H fun x H1 => (∃ a, x = .str a) ∧ te σ H1 fun v H2 => ∃ (a : Str) (q : Addr) (ys : List Str),
  x = .str a ∧ v = .ref q ∧ SqL K H2 q (ys.map V.str) ∧ (ys.map (·.length)).sum + ys.length * a.length ≤ 16777216 ∧ Q (.str (Txt.join a ys.reverse)) H2
theorem pe_joinRev {K : PySem.W.Frag} {o e : Expr} {to te : TE} {apos pos p pos2 : Pos} (hc : X.calm = true) (ho : PE X o to) (hg : Gl X "reversed") (hm : X.mg "reversed" = none) (he : PE X e te) (hK : X.K = K := by rfl)
    (hs1 : starEach [.Call (.Name "reversed" p) [e] [] pos2] X.env = [(false, eval (.Call (.Name "reversed" p) [e] [] pos2) X.env)] := by rfl)
    (hs : starEach [e] X.env = (false, eval e X.env) :: starEach [] X.env := by rfl)
    (hbase : attributeBase o "join" X.env (eval o X.env) = eval o X.env := by rfl) (hline : (apos.endLine == pos.line) = true := by rfl) :
    PE X (.Call (.Attribute o "join" apos) [.Call (.Name "reversed" p) [e] [] pos2] [] pos) (tJoinRev K to te) := by
  subst hK
  refine ⟨fun pins s σ H Q I h => ?_⟩
  refine PySem.Call_method1 hbase hs1 hline (thn (ho.run pins s σ H _ I h) fun v s1 ⟨x, H1, I1, r1, q1⟩ => ?_)
  obtain ⟨⟨a, rfl⟩, q1⟩ := q1
  obtain ⟨t, rfl⟩ := _root_.id r1
  refine ⟨"str", _, F.plainAttrs_str, F.slot_str_join, F.type_str_join, typeIs_str _ _ _, (fun _ e => nomatch e), Calls.callWith_builtin rfl (Calls.evalArgs_plain (Calls.spliced_cons ?_))⟩
  refine Call_ (ld_blt I1 hg hm PyProof.Rows.boot_reversed (PyProof.Rows.callWith_type1 (args_cons (thn (he.run pins s1 σ H1 _ I1 q1) fun u s2 ⟨v, H2, I2, r2, q2⟩ => args_nil ?_) hs) hs rfl))
  obtain ⟨a', q, ys, ea, ev, hq, hz, q2⟩ := q2
  cases ea
  subst ev
  obtain rfl : u = Value.ref q := r2
  obtain ⟨its, rv, p', hsz⟩ := I2.list hq
  refine call_reversed_list p'.isList (Calls.spliced_nil ?_)
  have k0 : ∀ b o, s2.heap.get? b = some o → (s2.heap.push (revObj q ((its.toArray.size : Int) - 1))).get? b = some o := fun b o e => Heap.get?_push_of_some _ e
  have I3 : Inv X pins σ H2 { s2 with heap := s2.heap.push (revObj q ((its.toArray.size : Int) - 1)) } := I2.kept (t' := s2.toks) k0
  obtain ⟨f0, f1, f2, f3, f4, f5⟩ := I2.fpOk (H' := H2) (b := s2.heap.objs.size) (Nat.le_refl _) (I2.hok.fresh (Nat.le_refl _))
  have hl := p'.isList
  obtain ⟨ol, hol, _⟩ := id hl
  have hne : q ≠ s2.heap.objs.size := Nat.ne_of_lt (Heap.lt_size hol)
  have hn : its.toArray.size ≤ sizeLine := by rw [List.size_toArray, ← rv.length]; exact hsz
  refine join_rev (ys := ys.reverse) (s := { s2 with heap := s2.heap.push (revObj q ((its.toArray.size : Int) - 1)) }) (I2.ok.hd hc) ⟨_, Heap.get?_push_size _ rfl, rfl, rfl⟩ (hl.push _) hne hn (fun acc hacc => ?_) (by rw [List.map_reverse, List.sum_reverse, List.length_reverse]; exact hz) fun h' tk hk t' => ?_
  · have r := RT.vals_rev rv hacc
    rw [← List.map_reverse] at r
    exact L2.strs_of_vals r
  · exact ⟨.str _, H2, I3.turned (t' := tk) (fun b o hb e => hk b o hb e) f0 f1 f3 f4 f5, ⟨t', rfl⟩, q2⟩
end
end DP
namespace KA
open PySem PySem.Spec PyProof.Rows L2 DP
def top (i : Nat) : Stmt := PySem.Challenge.pw_darkpace_k50_looks_written.main.body.getD i (.Pass ⟨0, 0, 0, 0⟩)
abbrev slaw_tray : Stmt := top 15
abbrev N_law_tray : List Str := ["script", "fold", "great", "cell", "much"]
abbrev P_law_tray : List Str := ["script"]
theorem sclaw_tray : FnScope N_law_tray P_law_tray (defScope slaw_tray) := ⟨rfl, rfl, rfl, by decide +kernel, rfl, by decide +kernel, by decide +kernel⟩
abbrev slaw_draw : Stmt := top 16
abbrev N_law_draw : List Str := ["tray", "many", "found", "mixed"]
abbrev P_law_draw : List Str := ["tray", "many"]
theorem sclaw_draw : FnScope N_law_draw P_law_draw (defScope slaw_draw) := ⟨rfl, rfl, rfl, by decide +kernel, rfl, by decide +kernel, by decide +kernel⟩
abbrev slaw_great : Stmt := top 17
abbrev N_law_great : List Str := ["tray", "found", "k"]
abbrev P_law_great : List Str := ["tray"]
theorem sclaw_great : FnScope N_law_great P_law_great (defScope slaw_great) := ⟨rfl, rfl, rfl, by decide +kernel, rfl, by decide +kernel, by decide +kernel⟩
abbrev slaw_alike : Stmt := top 18
abbrev N_law_alike : List Str := ["found", "due", "k"]
abbrev P_law_alike : List Str := ["found", "due"]
theorem sclaw_alike : FnScope N_law_alike P_law_alike (defScope slaw_alike) := ⟨rfl, rfl, rfl, by decide +kernel, rfl, by decide +kernel, by decide +kernel⟩
abbrev slaw_far_number : Stmt := top 19
abbrev N_law_far_number : List Str := ["tray", "lot"]
abbrev P_law_far_number : List Str := ["tray"]
theorem sclaw_far_number : FnScope N_law_far_number P_law_far_number (defScope slaw_far_number) := ⟨rfl, rfl, rfl, by decide +kernel, rfl, by decide +kernel, by decide +kernel⟩
abbrev sfigures : Stmt := top 1
abbrev N_figures : List Str := ["number", "blocks"]
abbrev P_figures : List Str := ["number"]
theorem scfigures : FnScope N_figures P_figures (defScope sfigures) := ⟨rfl, rfl, rfl, by decide +kernel, rfl, by decide +kernel, by decide +kernel⟩
abbrev sshow_look : Stmt := top 2
abbrev N_show_look : List Str := ["look", "word", "x", "y"]
abbrev P_show_look : List Str := ["look"]
theorem scshow_look : FnScope N_show_look P_show_look (defScope sshow_look) := ⟨rfl, rfl, rfl, by decide +kernel, rfl, by decide +kernel, by decide +kernel⟩
abbrev snumber_of : Stmt := top 10
abbrev N_number_of : List Str := ["word", "figures", "sign", "number"]
abbrev P_number_of : List Str := ["word"]
theorem scnumber_of : FnScope N_number_of P_number_of (defScope snumber_of) := ⟨rfl, rfl, rfl, by decide +kernel, rfl, by decide +kernel, by decide +kernel⟩
abbrev sstep_of : Stmt := top 11
abbrev N_step_of : List Str := ["text", "numbers", "word"]
abbrev P_step_of : List Str := ["text"]
theorem scstep_of : FnScope N_step_of P_step_of (defScope sstep_of) := ⟨rfl, rfl, rfl, by decide +kernel, rfl, by decide +kernel, by decide +kernel⟩
abbrev slook_of : Stmt := top 12
abbrev N_look_of : List Str := ["text", "word", "_", "rest", "step"]
abbrev P_look_of : List Str := ["text"]
theorem sclook_of : FnScope N_look_of P_look_of (defScope slook_of) := ⟨rfl, rfl, rfl, by decide +kernel, rfl, by decide +kernel, by decide +kernel⟩
abbrev sread_look : Stmt := top 13
abbrev N_read_look : List Str := ["text", "look"]
abbrev P_read_look : List Str := ["text"]
theorem scread_look : FnScope N_read_look P_read_look (defScope sread_look) := ⟨rfl, rfl, rfl, by decide +kernel, rfl, by decide +kernel, by decide +kernel⟩
abbrev slaw : Stmt := top 20
abbrev N_law : List Str := ["script", "tray", "k", "one", "due", "told"]
abbrev P_law : List Str := ["script"]
theorem sclaw : FnScope N_law P_law (defScope slaw) := ⟨rfl, rfl, rfl, by decide +kernel, rfl, by decide +kernel, by decide +kernel⟩
structure Ad where
  a_law_tray : Addr
  d_law_tray : FuncData
  a_law_draw : Addr
  d_law_draw : FuncData
  a_law_great : Addr
  d_law_great : FuncData
  a_law_alike : Addr
  d_law_alike : FuncData
  a_law_far_number : Addr
  d_law_far_number : FuncData
  a_figures : Addr
  d_figures : FuncData
  a_show_look : Addr
  d_show_look : FuncData
  a_number_of : Addr
  d_number_of : FuncData
  a_step_of : Addr
  d_step_of : FuncData
  a_look_of : Addr
  d_look_of : FuncData
  a_read_look : Addr
  d_read_look : FuncData
  a_law : Addr
  d_law : FuncData
  v_FIGURES : Value
  v_MOST_FIGURES : Value
  a_LW : Addr
structure Tx (K : PySem.W.Frag) (w : World) (mg : Str → Option Value) (Z : Ad) : Prop where
  F_law_tray : Fun K "_law_tray" "_law_tray" slaw_tray Z.a_law_tray Z.d_law_tray
  bb_law_tray : Binds K Z.d_law_tray P_law_tray []
  g_law_tray : mg "_law_tray" = some (.ref Z.a_law_tray)
  F_law_draw : Fun K "_law_draw" "_law_draw" slaw_draw Z.a_law_draw Z.d_law_draw
  bb_law_draw : Binds K Z.d_law_draw P_law_draw []
  g_law_draw : mg "_law_draw" = some (.ref Z.a_law_draw)
  F_law_great : Fun K "_law_great" "_law_great" slaw_great Z.a_law_great Z.d_law_great
  bb_law_great : Binds K Z.d_law_great P_law_great []
  g_law_great : mg "_law_great" = some (.ref Z.a_law_great)
  F_law_alike : Fun K "_law_alike" "_law_alike" slaw_alike Z.a_law_alike Z.d_law_alike
  bb_law_alike : Binds K Z.d_law_alike P_law_alike []
  g_law_alike : mg "_law_alike" = some (.ref Z.a_law_alike)
  F_law_far_number : Fun K "_law_far_number" "_law_far_number" slaw_far_number Z.a_law_far_number Z.d_law_far_number
  bb_law_far_number : Binds K Z.d_law_far_number P_law_far_number []
  g_law_far_number : mg "_law_far_number" = some (.ref Z.a_law_far_number)
  F_figures : Fun K "figures" "figures" sfigures Z.a_figures Z.d_figures
  bb_figures : Binds K Z.d_figures P_figures []
  g_figures : mg "figures" = some (.ref Z.a_figures)
  F_show_look : Fun K "show_look" "show_look" sshow_look Z.a_show_look Z.d_show_look
  bb_show_look : Binds K Z.d_show_look P_show_look []
  g_show_look : mg "show_look" = some (.ref Z.a_show_look)
  F_number_of : Fun K "number_of" "number_of" snumber_of Z.a_number_of Z.d_number_of
  bb_number_of : Binds K Z.d_number_of P_number_of []
  g_number_of : mg "number_of" = some (.ref Z.a_number_of)
  F_step_of : Fun K "step_of" "step_of" sstep_of Z.a_step_of Z.d_step_of
  bb_step_of : Binds K Z.d_step_of P_step_of []
  g_step_of : mg "step_of" = some (.ref Z.a_step_of)
  F_look_of : Fun K "look_of" "look_of" slook_of Z.a_look_of Z.d_look_of
  bb_look_of : Binds K Z.d_look_of P_look_of []
  g_look_of : mg "look_of" = some (.ref Z.a_look_of)
  F_read_look : Fun K "read_look" "read_look" sread_look Z.a_read_look Z.d_read_look
  bb_read_look : Binds K Z.d_read_look P_read_look []
  g_read_look : mg "read_look" = some (.ref Z.a_read_look)
  F_law : Fun K "law" "law" slaw Z.a_law Z.d_law
  bb_law : Binds K Z.d_law P_law []
  g_law : mg "law" = some (.ref Z.a_law)
  kn_show_look_look : KBn K Z.d_show_look P_show_look 0 ["look"] (KW.gk [0] []) (KW.gk [0] [])
  kn_read_look_text : KBn K Z.d_read_look P_read_look 0 ["text"] (KW.gk [0] []) (KW.gk [0] [])
  b_max : mg "max" = none
  b_len : mg "len" = none
  b_range : mg "range" = none
  b_isinstance : mg "isinstance" = none
  b_list : mg "list" = none
  b_tuple : mg "tuple" = none
  b_bool : mg "bool" = none
  b_int : mg "int" = none
  b_str : mg "str" = none
  b_all : mg "all" = none
  b_reversed : mg "reversed" = none
  g_FIGURES : mg "FIGURES" = some Z.v_FIGURES
  r_FIGURES : RelV (.str "0123456789") Z.v_FIGURES
  g_MOST_FIGURES : mg "MOST_FIGURES" = some Z.v_MOST_FIGURES
  r_MOST_FIGURES : RelV (.int 60) Z.v_MOST_FIGURES
  g_LOOK_WORDS : mg "LOOK_WORDS" = some (.ref Z.a_LW)
  q_LW : ∀ H, SqT K H Z.a_LW [.str "at", .str "from", .str "upto"]
end KA
/-! Looks in plain Lean. -/
namespace KA
open PySem PySem.Spec PyProof.Rows L2 DP
/-- a look: word, x, y -/
abbrev Lk := Str × Int × Int
def encL (l : Lk) : PyData := .tuple [.str l.1, .int l.2.1, .int l.2.2]
def WordOk (x : Str) : Prop := x = "at" ∨ x = "from" ∨ x = "upto"
def SideOk (x : Str) : Prop := x = "slow" ∨ x = "fast"
/-- the words of a side, by truth -/
def onSide (sd x : Str) : Bool := if sd = "slow" then (decide (x = "at") || decide (x = "from")) else (decide (x = "at") || decide (x = "upto"))
/-- where a look alone tells that x is led -/
def plc (sd : Str) (l : Lk) (x L : Int) : Int := if sd = "slow" then l.2.2 + (x - l.2.1) / L * L else l.2.2 - (l.2.1 - x) / L * L
def Sized (n : Nat) (l : Lk) : Prop := l.2.1.natAbs < 2 ^ n ∧ l.2.2.natAbs < 2 ^ n
theorem slow_ne : ¬ (("fast" : Str) = "slow") := by decide +kernel
theorem plc_slow (l : Lk) (x L : Int) : plc "slow" l x L = l.2.2 + (x - l.2.1) / L * L := if_pos rfl
theorem plc_fast (l : Lk) (x L : Int) : plc "fast" l x L = l.2.2 - (l.2.1 - x) / L * L := if_neg slow_ne
def tooFar (a b : Lk) (L : Int) : Bool := onSide "slow" a.1 && onSide "fast" b.1 && decide (b.2.2 < plc "slow" a b.2.1 L)
def clashB (a b : Lk) (L : Int) : Bool := tooFar a b L || tooFar b a L
/-- brought home -/
def home (L : Int) (l : Lk) : Lk := (l.1, l.2.1 - l.2.1 / L * L, l.2.2 - l.2.1 / L * L)
theorem nat_div {a L : Int} (h : 0 < L) : (a / L).natAbs ≤ a.natAbs + 1 := Nat.le_succ_of_le (Int.natAbs_ediv_le_natAbs a L)
theorem sub_lt {a b : Int} {n : Nat} (ha : a.natAbs < 2 ^ n) (hb : b.natAbs < 2 ^ n) : (a - b).natAbs < 2 ^ (n + 1) := by
  rw [Nat.pow_succ]; omega
theorem add_lt {a b : Int} {n : Nat} (ha : a.natAbs < 2 ^ n) (hb : b.natAbs < 2 ^ n) : (a + b).natAbs < 2 ^ (n + 1) := by
  rw [Nat.pow_succ]; omega
theorem div_lt {a L : Int} {n : Nat} (h : 0 < L) (ha : a.natAbs < 2 ^ n) : (a / L).natAbs < 2 ^ (n + 1) := by
  have := nat_div (a := a) h
  have h1 : 1 ≤ 2 ^ n := Nat.one_le_two_pow
  rw [Nat.pow_succ]; omega
theorem lt_up {a : Int} {m n : Nat} (ha : a.natAbs < 2 ^ m) (h : m ≤ n) : a.natAbs < 2 ^ n := Nat.lt_of_lt_of_le ha (Nat.pow_le_pow_right (by decide) h)
section
variable {K : PySem.W.Frag} {H : Hp}
theorem dp_look {v : V} {l : Lk} (h : Dp K H v (encL l)) : ∃ a, v = .ref a ∧ SqT K H a [.str l.1, .int l.2.1, .int l.2.2] := by
  have h' : Dp K H v (.tuple [.str l.1, .int l.2.1, .int l.2.2]) := h
  cases h' with
  | tup s a =>
    cases a with
    | cons a1 a =>
      cases a with
      | cons a2 a =>
        cases a with
        | cons a3 a =>
          cases a; cases a1; cases a2; cases a3
          exact ⟨_, rfl, s⟩
theorem dp_list {v : V} {ds : List PyData} (h : Dp K H v (.list ds)) : ∃ a xs, v = .ref a ∧ SqL K H a xs ∧ DpAll K H xs ds := by
  cases h with
  | lst s a => exact ⟨_, _, rfl, s, a⟩
end
theorem decl_words {x : Str} (h : WordOk x) : inV (.str x) [.str "at", .str "from"] = onSide "slow" x ∧ inV (.str x) [.str "at", .str "upto"] = onSide "fast" x ∧ inV (.str x) [.str "at", .str "from", .str "upto"] = true := by
  rcases h with e | e | e <;> subst e <;> decide +kernel
theorem yes_ite {σ : L2.St} {H : Hp} {A B : Hp → Prop} (h : A H) : tYes σ H (fun b H3 => if b = true then A H3 else B H3) := by
  show (if true = true then A H else B H)
  rw [if_pos rfl]
  exact h
/-- data without lists: tuples, numbers, texts -/
def noL : PyData → Bool
  | .list _ => false
  | .dict _ => false
  | .tuple xs => noLs xs
  | _ => true
where noLs : List PyData → Bool
  | [] => true
  | x :: xs => noL x && noLs xs
/-- tuples stand -/
def Tups (H H' : Hp) : Prop := ∀ b xs, Rd H b (.tup xs) → Rd H' b (.tup xs)
theorem Tups.of_same {H H' : Hp} (S : Same H H') : Tups H H' := fun _ _ h => DP.Same.rd S h
theorem Tups.upd_lst {H : Hp} {D : Addr} {ys : List V} {o : HO} (h : H D = some (.lst ys)) : Tups H (upd H D o) := fun b xs hb => by
  have hn : b ≠ D := by
    rintro rfl
    rcases hb with e | ⟨q, e⟩ <;> rw [h] at e <;> cases e
  rcases hb with e | ⟨q, e⟩
  · exact .inl ((upd_ne hn).trans e)
  · exact .inr ⟨q, (upd_ne hn).trans e⟩
theorem Tups.upd_ins {H : Hp} {D C dx : Addr} {fs : List (Str × V)} {o : HO} (h : H D = some (.ins C dx fs)) : Tups H (upd H D o) := fun b xs hb => by
  have hn : b ≠ D := by
    rintro rfl
    rcases hb with e | ⟨q, e⟩ <;> rw [h] at e <;> cases e
  rcases hb with e | ⟨q, e⟩
  · exact .inl ((upd_ne hn).trans e)
  · exact .inr ⟨q, (upd_ne hn).trans e⟩
theorem Tups.trans {H H1 H2 : Hp} (a : Tups H H1) (b : Tups H1 H2) : Tups H H2 := fun c xs h => b c xs (a c xs h)
section
variable {K : PySem.W.Frag} {H H' : Hp}
mutual
theorem dp_tups (S : Tups H H') : ∀ (d : PyData) (v : V), noL d = true → Dp K H v d → Dp K H' v d
  | .none, _, _, h => by cases h; exact .non
  | .bool _, _, _, h => by cases h; exact .bl _
  | .int _, _, _, h => by cases h; exact .int _
  | .str _, _, _, h => by cases h; exact .str _
  | .list _, _, n, _ => by simp [noL] at n
  | .dict _, _, n, _ => by simp [noL] at n
  | .tuple ds, _, n, h => by
    cases h with
    | tup s a =>
      refine .tup ?_ (dpAll_tups S ds _ (by simpa [noL] using n) a)
      rcases s with s | s
      · exact .inl (S _ _ s)
      · exact .inr s
theorem dpAll_tups (S : Tups H H') : ∀ (ds : List PyData) (vs : List V), noL.noLs ds = true → DpAll K H vs ds → DpAll K H' vs ds
  | [], _, _, h => by cases h; exact .nil
  | d :: ds, _, n, h => by
    rw [noL.noLs, Bool.and_eq_true] at n
    cases h with
    | cons a b => exact .cons (dp_tups S d _ n.1 a) (dpAll_tups S ds _ n.2 b)
end
theorem noLs_map {β : Type} {enc : β → PyData} (h : ∀ b, noL (enc b) = true) : ∀ bs : List β, noL.noLs (bs.map enc) = true
  | [] => rfl
  | b :: bs => by
    show noL.noLs (enc b :: bs.map enc) = true
    rw [noL.noLs, h b, noLs_map h bs]; rfl
theorem noL_encL (l : Lk) : noL (encL l) = true := rfl
/-- one more at the list that a comprehension makes -/
theorem acc_step {D : Addr} {ys : List V} {ds : List PyData} {y : V} {d : PyData} (hD : H D = some (.lst ys)) (hn : noL.noLs ds = true) (hd : noL d = true) (h : DpAll K H ys ds) (hy : Dp K H y d) :
    DpAll K (upd H D (.lst (ys ++ [y]))) (ys ++ [y]) (ds ++ [d]) :=
  dpAll_snoc (dpAll_tups (Tups.upd_lst hD) _ _ hn h) (dp_tups (Tups.upd_lst hD) _ _ hd hy)
end
theorem same_set {H : Hp} {p : Addr} {o : HO} {H1 : Hp} (S : Same H H1) (hn : H p = none) : Same H (upd H1 p o) := fun b u e => by rw [upd_ne (ne_of_none e hn)]; exact S b u e
theorem take_snoc {α : Type} : ∀ {l : List α} {i : Nat} {x : α}, l[i]? = some x → l.take (i + 1) = l.take i ++ [x]
  | [], i, x, h => by simp at h
  | a :: l, 0, x, h => by
    have e : a = x := Option.some.inj h
    subst e
    rfl
  | a :: l, i + 1, x, h => by
    have ih := take_snoc (l := l) (i := i) (x := x) h
    show a :: l.take (i + 1) = a :: l.take i ++ [x]
    rw [ih]; rfl
theorem map_at {α β : Type} {f : α → β} {l : List α} {i : Nat} {y : β} (h : (l.map f)[i]? = some y) : ∃ x, l[i]? = some x ∧ y = f x := by
  rw [List.getElem?_map] at h
  cases e : l[i]? with
  | none => rw [e] at h; cases h
  | some x => rw [e] at h; exact ⟨x, rfl, (Option.some.inj h).symm⟩
end KA
namespace KA
open PySem PySem.Spec PyProof.Rows L2 DP
/-! ### numbers in figures -/
def numT (n : Int) : Str := Str.ofString (toString n)
theorem numT_neg {n : Int} (h : n < 0) : TL.tl (numT n) = 45 :: TL.numL n.natAbs := by
  unfold numT
  rw [PyProof.Rows.toString_neg h, TL.tl_ofString, String.toList_append, List.map_append]
  have e : (0 - n : Int) = ((n.natAbs : Nat) : Int) := by omega
  rw [e, ← TL.tl_ofString (toString ((n.natAbs : Nat) : Int)), TL.tl_num]; rfl
theorem numT_pos {n : Int} (h : 0 ≤ n) : TL.tl (numT n) = TL.numL n.natAbs := by
  have e : n = ((n.natAbs : Nat) : Int) := by omega
  unfold numT
  rw [← TL.tl_num, ← e]
theorem numT_len {n : Int} (h : n.natAbs < 10 ^ 60) : (numT n).length ≤ 61 := by
  have h1 := TL.numL_len (n := n.natAbs) (k := 60) (by decide) h
  rw [TL.len_tl]
  by_cases c : n < 0
  · rw [numT_neg c, List.length_cons]; omega
  · rw [numT_pos (by omega)]; omega
theorem numT_free {n : Int} : (32 : Nat) ∉ TL.tl (numT n) := fun hm => by
  have h1 : (32 : Nat) ∉ TL.numL n.natAbs := TL.numL_free (.inl (by decide))
  by_cases c : n < 0
  · rw [numT_neg c] at hm
    rcases List.mem_cons.mp hm with e | e
    · exact absurd e (by decide)
    · exact h1 e
  · rw [numT_pos (by omega)] at hm
    exact h1 hm
theorem minus_tl : TL.tl ("-" : Str) = [45] := by rfl
theorem minus_len : ("-" : Str).length = 1 := by rfl
theorem numT_rm (n : Int) : TL.tl (Txt.removeprefix (numT n) "-") = TL.numL n.natAbs := by
  rw [PySem.StrLaws.removeprefix_eq]
  have hs : Builtin.Str.subAt (numT n) ("-" : Str) 0 = ((TL.tl (numT n)).take 1 == [45]) := by
    rw [PySem.StrLaws.subAt_eq, List.drop_zero]; rfl
  by_cases c : n < 0
  · have h0 := numT_neg c
    have hl : (numT n).length = (TL.numL n.natAbs).length + 1 := by rw [TL.len_tl, h0, List.length_cons]
    rw [if_pos (by rw [hs, h0, minus_len, hl]; simp)]
    show ((TL.tl (numT n)).drop ("-" : Str).length).take ((numT n).length - ("-" : Str).length) = _
    rw [h0, minus_len, hl, List.drop_succ_cons, List.drop_zero, Nat.add_sub_cancel, List.take_length]
  · have h0 := numT_pos (n := n) (by omega)
    rw [if_neg, h0]
    rw [hs, h0]
    obtain ⟨x, xs, e⟩ : ∃ x xs, TL.numL n.natAbs = x :: xs := by
      cases h : TL.numL n.natAbs with
      | nil => exact absurd h (TL.numL_ne _)
      | cons x xs => exact ⟨x, xs, rfl⟩
    have hx := TL.numL_digits n.natAbs x (by rw [e]; exact List.mem_cons_self)
    rw [e]
    have : x ≠ 45 := by omega
    simp [this]
theorem numT_int {n : Int} (h : n.natAbs < 10 ^ 60) : intText? (numT n) = some n := by
  have h1 := TL.numL_len (n := n.natAbs) (k := 60) (by decide) h
  by_cases c : n < 0
  · have e := intText_neg (x := numT n) (cs := TL.numL n.natAbs) (numT_neg c) (TL.numL_digits _) (TL.numL_ne _) (by have := numT_len h; omega)
    rw [e, TL.numL_val]
    congr 1
    omega
  · have e : n = ((n.natAbs : Nat) : Int) := by omega
    have e2 : numT n = Str.ofString (toString ((n.natAbs : Nat) : Int)) := by unfold numT; rw [← e]
    rw [e2, TL.int_num (by omega), ← e]
theorem log_small {n : Int} (h : n.natAbs < 10 ^ 60) : n.natAbs.log2 < 1920 := by
  by_cases c : n.natAbs = 0
  · rw [c]; decide
  · exact (Nat.log2_lt c).mpr (Nat.lt_trans h (by decide))
theorem str_assoc (a b c : Str) : a ++ b ++ c = a ++ (b ++ c) := TL.ext_tl (by rw [TL.tl_append, TL.tl_append, TL.tl_append, TL.tl_append, List.append_assoc])
theorem empty_app (a : Str) : Str.empty ++ a = a := TL.ext_tl (by rw [TL.tl_append]; rfl)
theorem neg_text {n : Int} (h : n < 0) : ("-" : Str) ++ numT (-n) = numT n := TL.ext_tl (by
  rw [TL.tl_append, minus_tl, numT_neg h, numT_pos (n := -n) (by omega), Int.natAbs_neg]; rfl)
theorem len_app (a b : Str) : (a ++ b).length = a.length + b.length := by
  rw [TL.len_tl, TL.tl_append, List.length_append, ← TL.len_tl, ← TL.len_tl]
theorem blank_tl : TL.tl (" " : Str) = 32 :: [] := by rfl
theorem blank_len : (" " : Str).length = 1 := by rfl
/-- a step, a look -/
def stepT (x y : Int) : Str := numT x ++ " " ++ numT y
def lookT (l : Lk) : Str := l.1 ++ " " ++ numT l.2.1 ++ " " ++ numT l.2.2
theorem lookT_eq (l : Lk) : lookT l = l.1 ++ " " ++ stepT l.2.1 l.2.2 := by
  unfold lookT stepT
  rw [str_assoc, str_assoc (l.1 ++ " ") (numT l.2.1), str_assoc (numT l.2.1)]
theorem step_split (x y : Int) : Txt.split (stepT x y) " " = [numT x, numT y] := by
  have h := TL.split_join (y := " ") (s := 32) (S := []) blank_tl (by decide +kernel) (parts := [numT x, numT y]) (by simp) (fun p hp => by
    rcases List.mem_cons.mp hp with e | e
    · rw [e]; exact numT_free
    · rw [List.mem_singleton.mp e]; exact numT_free)
  rw [TL.join_eq] at h
  exact h
theorem word_free {w : Str} (h : WordOk w) : (32 : Nat) ∉ TL.tl w := by
  rcases h with rfl | rfl | rfl <;> decide +kernel
theorem word_len {w : Str} (h : WordOk w) : w.length ≤ 4 := by
  rcases h with rfl | rfl | rfl <;> decide +kernel
theorem look_part {l : Lk} (h : WordOk l.1) : Txt.partition (lookT l) " " = (l.1, (" " : Str), stepT l.2.1 l.2.2) := by
  rw [lookT_eq]
  exact TL.partition_app blank_tl (word_free h)
def Small (l : Lk) : Prop := l.2.1.natAbs < 10 ^ 60 ∧ l.2.2.natAbs < 10 ^ 60
theorem stepT_len {x y : Int} (hx : x.natAbs < 10 ^ 60) (hy : y.natAbs < 10 ^ 60) : (stepT x y).length ≤ 123 := by
  unfold stepT
  rw [len_app, len_app, blank_len]
  have := numT_len hx
  have := numT_len hy
  omega
theorem lookT_len {l : Lk} (h : WordOk l.1) (hs : Small l) : (lookT l).length ≤ 128 := by
  rw [lookT_eq, len_app, len_app, blank_len]
  have := word_len h
  have := stepT_len hs.1 hs.2
  omega
theorem words_in {w : Str} (h : WordOk w) : inV (V.str w) [V.str "at", .str "from", .str "upto"] = true := by
  rcases h with rfl | rfl | rfl <;> decide +kernel
end KA
namespace KA
open PySem PySem.Spec PyProof.Rows L2 DP
/-- what stood stands, but at t and g -/
def Keep (t g : Addr) (H H' : Hp) : Prop := ∀ b o, H b = some o → b ≠ t → b ≠ g → H' b = some o
theorem Keep.refl (t g : Addr) (H : Hp) : Keep t g H H := fun _ _ h _ _ => h
theorem Keep.trans {t g : Addr} {H H1 H2 : Hp} (a : Keep t g H H1) (b : Keep t g H1 H2) : Keep t g H H2 := fun c o h x y => b c o (a c o h x y) x y
/-- the tray: at t, its great numbers at g; no more than n draws so far went by the fold -/
structure Tray (H : Hp) (t g : Addr) (n : Nat) : Prop where
  ex : ∃ (gs : List Int) (l f c : Int), H t = some (.lst [.ref g, .int l, .int f, .int c]) ∧ H g = some (.lst (gs.map V.int)) ∧ gs.length ≤ 63 ∧ (∀ x ∈ gs, 0 ≤ x) ∧ 0 ≤ l ∧ 0 ≤ f ∧ f < 2 ^ 61 ∧ 0 ≤ c ∧ c ≤ (n : Int)
  ne : t ≠ g
theorem Tray.same {H H' : Hp} {t g : Addr} {n : Nat} (T : Tray H t g n) (S : Same H H') : Tray H' t g n := by
  obtain ⟨⟨gs, l, f, c, h1, h2, r⟩, hne⟩ := T
  exact ⟨⟨gs, l, f, c, S _ _ h1, S _ _ h2, r⟩, hne⟩
theorem Keep.of_same {t g : Addr} {H H' : Hp} (S : Same H H') : Keep t g H H' := fun b o e _ _ => S b o e
def spDraw : Sp := fun vs H Q _ => ∃ (t g : Addr) (n : Nat) (m : Int), vs = [.ref t, .int m] ∧ Tray H t g n ∧ 0 < m ∧ m.natAbs < 2 ^ 1000 ∧ n < 2 ^ 60 ∧
  ∀ (H' : Hp) (r : Int), 0 ≤ r → r < m → Tray H' t g (n + 1) → Keep t g H H' → Q (.int r) H'
/-- the length of the list at g -/
def lenAt (H : Hp) (g : Addr) : Nat := match H g with | some (.lst xs) => xs.length | _ => 0
theorem lenAt_of {H : Hp} {g : Addr} {xs : List V} (h : H g = some (.lst xs)) : lenAt H g = xs.length := by unfold lenAt; rw [h]
theorem shaped_ints (ns : List Int) : SeqAt.shaped (.list (ns.map .int)) = true := by
  have h1 : ∀ ns : List Int, PyData.canLayAll0 (ns.map .int) = true := by
    intro ns
    induction ns with
    | nil => rfl
    | cons a r ih => simp [PyData.canLayAll0, PyData.canLay0, ih]
  have h2 : ∀ ns : List Int, PyData.depthAll (ns.map .int) = 0 := PySem.W.depth_ints
  unfold SeqAt.shaped
  simp [PyData.canLay0, PyData.depth, h1, h2]
theorem pow_lt {i : Int} {a n : Nat} (h : i.natAbs < 2 ^ a) (h0 : n ≠ 0) : (i ^ n).natAbs < 2 ^ (a * n) := by
  rw [Int.natAbs_pow, Nat.pow_mul]
  exact Nat.pow_lt_pow_left h h0
theorem seqIx0 {n : Nat} (h : 0 < n) : seqIndex? 0 n = some 0 := by
  unfold seqIndex?
  simp
  omega
theorem while_post {c : TT} {tb : TS} {D : Ends} {σ : L2.St} {H : Hp} (Pv : L2.St → Hp → Prop) (μ : L2.St → Hp → Nat) (Po : L2.St → Hp → Prop) (h0 : Pv σ H)
    (hs : ∀ σ H, Pv σ H → c σ H fun b H1 => if b = true then tb { D with nx := fun σ' H' => Pv σ' H' ∧ μ σ' H' < μ σ H, ct := fun σ' H' => Pv σ' H' ∧ μ σ' H' < μ σ H, bk := D.nx } σ H1 else Po σ H1)
    (hd : ∀ σ H, Po σ H → D.nx σ H) (mono : ∀ σ H Q Q', (∀ b H1, Q b H1 → Q' b H1) → c σ H Q → c σ H Q') : tWhile c tb D σ H :=
  while_by Pv μ h0 (fun σ1 H1 p => mono σ1 H1 _ _ (fun b H2 q => by
    cases b with
    | true => exact q
    | false => exact hd _ _ q) (hs σ1 H1 p)) mono
section
variable {P : Program} {w : World} {K : PySem.W.Frag} {mg : Str → Option Value} {base : Heap} {Z : Ad}
theorem ok_law_draw (T : Tx K w mg Z) : FnOk P w K mg base CX0 1 Z.a_law_draw Z.d_law_draw P_law_draw (spDraw) := by
  refine T.F_law_draw.ok sclaw_draw (fun vs H Q E h => ?_) (fun cdv A outer s H vs Q E hr h => ?_)
  · obtain ⟨t, g, n, m, rfl, _⟩ := h
    rfl
  · obtain ⟨t, g, n, m, rfl, ⟨ht, hne⟩, hm, hmb, hn, k⟩ := h
    refine ⟨_, (C8.pss_cut (ps_while PassesOwn.never (PW.pt (pw_and (pt_cmpR op_lt (pe_ix (ixL (K := K)) (pv 0) pe_int (fun _ _ => rfl)) pe_int (nomark _)) (pw_and1 (pt_cmpR (neDK (K := K) hr.units) (pe_ix (ixL (K := K)) (pv 0) pe_int (fun _ _ => rfl)) (pe_lst pa_nil) (nomark _))))) (pss_one (ps_asg (pe_bm PySem.F.plainAttrs_list PySem.F.slot_list_pop PySem.F.type_list_pop mt_popAt (pe_ix (ixL (K := K)) (pv 0) pe_int (fun _ _ => rfl)) (pa_cons pe_int pa_nil)) (pg_sub (pv 0) pe_int set_list))))
      (C8.pss_cut (ps_if (pt_cmpR op_ge (pe_ix (ixL (K := K)) (pv 0) pe_int (fun _ _ => rfl)) pe_int (nomark _)) (pss_cons (ps_set (i := 2) sclaw_draw.nd rfl (Or.inl rfl) (pe_op op_mod (pe_ix (ixL (K := K)) (pv 0) pe_int (fun _ _ => rfl)) (pv 1)))
      (pss_cons (ps_asg (pe_op op_fdivW (pe_ix (ixL (K := K)) (pv 0) pe_int (fun _ _ => rfl)) (pv 1)) (pg_sub (pv 0) pe_int set_list))
      (pss_one (ps_ret (pv 2))))) pss_nil)
      (pss_cons (ps_asg (pe_op op_add (pe_ix (ixL (K := K)) (pv 0) pe_int (fun _ _ => rfl)) pe_int) (pg_sub (pv 0) pe_int set_list))
      (pss_cons (ps_set (i := 3) sclaw_draw.nd rfl (Or.inl rfl) (pe_op op_mod (pe_op op_add (pe_op op_mulW (pe_op op_add (pe_ix (ixL (K := K)) (pv 0) pe_int (fun _ _ => rfl)) pe_int) (pe_op op_pow (pe_op op_add (pe_ix (ixL (K := K)) (pv 0) pe_int (fun _ _ => rfl)) pe_int) pe_int)) (pe_op op_mulW pe_int (pe_ix (ixL (K := K)) (pv 0) pe_int (fun _ _ => rfl)))) (pe_op op_sub (pe_op op_pow pe_int pe_int) pe_int)))
      (pss_one (ps_ret (pe_op op_mod (pe_op op_fdivW (pe_op op_mod (pe_op op_pow (pv 3) pe_int) (pe_op op_add (pe_op op_pow pe_int pe_int) pe_int)) pe_int) (pv 1)))))))), ?_⟩
    -- while tray[1] < 2 and tray[0] != []
    refine ⟨fun σ' H' => σ' = [some (.ref t), some (.int m), none, none] ∧ Tray H' t g n ∧ Keep t g H H', ?_, ?_⟩
    · refine while_post (fun σ' H' => σ' = [some (.ref t), some (.int m), none, none] ∧ Tray H' t g n ∧ Keep t g H H') (fun _ H' => lenAt H' g) (fun σ' H' => σ' = [some (.ref t), some (.int m), none, none] ∧ Tray H' t g n ∧ Keep t g H H') ⟨rfl, ⟨ht, hne⟩, Keep.refl _ _ _⟩ ?_ (fun _ _ q => q) ?_
      · rintro σ1 H1 ⟨rfl, ⟨⟨gs, l, f, c, h1, h2, hl, hge, hl0, hf0, hf1, hc0, hc1⟩, _⟩, kp⟩
        refine ⟨_, rfl, _, _, _, _, rfl, rfl, SqL.of h1, rfl, _, _, rfl, rfl, _, rfl, ?_⟩
        refine ite2 (fun hlt => ?_) (fun hnl => ?_)
        · refine ⟨_, rfl, _, _, _, _, rfl, rfl, SqL.of h1, rfl, (by show 0 ≤ sizeLine; decide), fun p hp => ?_⟩
          have g2 : (upd H1 p (.lst [])) g = some (.lst (gs.map V.int)) := (upd_ne (ne_of_none h2 hp)).trans h2
          have g1 : (upd H1 p (.lst [])) t = some (.lst [.ref g, .int l, .int f, .int c]) := (upd_ne (ne_of_none h1 hp)).trans h1
          have kp1 : Keep t g H (upd H1 p (.lst [])) := fun b o e n1 n2 => (upd_ne (ne_of_none (kp b o e n1 n2) hp)).trans (kp b o e n1 n2)
          refine ⟨_, _, .lst (SqL.of g2) (dpAll_ints gs), .lst (SqL.of upd_same) .nil, shaped_ints gs, rfl, _, rfl, ?_⟩
          cases gs with
          | nil => exact iteF ⟨rfl, ⟨⟨[], l, f, c, g1, g2, hl, hge, hl0, hf0, hf1, hc0, hc1⟩, hne⟩, kp1⟩
          | cons y ys =>
            refine iteT ?_
            -- tray[1] = tray[0].pop(0)
            refine ⟨_, rfl, _, _, _, _, rfl, rfl, SqL.of g1, rfl, .inl ⟨rfl, _, SqL.of g2⟩, _, _, _, 0, _, rfl, rfl, g2, by decide, by decide, seqIx0 (by simp), rfl, ?_⟩
            refine ⟨_, rfl, _, _, _, 1, rfl, rfl, (upd_ne hne).trans g1, rfl, ?_⟩
            refine ⟨⟨rfl, ⟨⟨ys, y, f, c, upd_same, (upd_ne (Ne.symm hne)).trans upd_same, ?_, ?_, ?_, hf0, hf1, hc0, hc1⟩, hne⟩, ?_⟩, ?_⟩
            · simp at hl; omega
            · exact fun x hx => hge x (List.mem_cons_of_mem _ hx)
            · exact hge y List.mem_cons_self
            · exact fun b o e n1 n2 => (upd_ne n1).trans ((upd_ne n2).trans (kp1 b o e n1 n2))
            · rw [lenAt_of ((upd_ne (Ne.symm hne)).trans upd_same), lenAt_of h2]
              simp
        · exact iteF ⟨rfl, ⟨⟨gs, l, f, c, h1, h2, hl, hge, hl0, hf0, hf1, hc0, hc1⟩, hne⟩, kp⟩
      · intro σ1 H1 Q1 Q2 hQ hc
        obtain ⟨v, hv, p, xs, i, x, e1, e2, hs, ha, i1, j1, e3, e4, k1, ek, hif⟩ := hc
        refine ⟨v, hv, p, xs, i, x, e1, e2, hs, ha, i1, j1, e3, e4, k1, ek, ?_⟩
        cases k1 with
        | false => exact hQ _ _ hif
        | true =>
          obtain ⟨v, hv, p, xs, i, x, e1, e2, hs, ha, hz, hp⟩ := hif
          refine ⟨v, hv, p, xs, i, x, e1, e2, hs, ha, hz, fun p' np => ?_⟩
          obtain ⟨d, e, d1, d2, s1, s2, b, eb, q⟩ := hp p' np
          exact ⟨d, e, d1, d2, s1, s2, b, eb, hQ _ _ q⟩
    · rintro σ1 H1 ⟨rfl, ⟨⟨gs, l, f, c, h1, h2, hl, hge, hl0, hf0, hf1, hc0, hc1⟩, _⟩, kp⟩
      refine ⟨fun σ' H' => σ' = [some (.ref t), some (.int m), none, none] ∧ H' = H1, ?_, ?_⟩
      · refine ⟨_, rfl, _, _, _, _, rfl, rfl, SqL.of h1, rfl, _, _, rfl, rfl, _, rfl, ?_⟩
        refine ite2 (fun hge2 => ?_) (fun _ => ⟨rfl, rfl⟩)
        refine ⟨_, rfl, _, _, _, _, rfl, rfl, SqL.of h1, rfl, _, rfl, _, _, rfl, rfl, hm, ?_⟩
        refine ⟨_, rfl, _, _, _, _, rfl, rfl, SqL.of h1, rfl, _, rfl, _, _, rfl, rfl, wide_div hm hmb (by decide) (by decide), _, rfl, _, _, _, 1, rfl, rfl, h1, rfl, _, rfl, ?_⟩
        refine k _ _ (Int.emod_nonneg _ (by omega)) (Int.emod_lt_of_pos _ hm) ⟨⟨gs, l / m, f, c, upd_same, (upd_ne (Ne.symm hne)).trans h2, hl, hge, Int.ediv_nonneg hl0 (by omega), hf0, hf1, hc0, by push_cast; omega⟩, hne⟩ fun b o e n1 n2 => (upd_ne n1).trans (kp b o e n1 n2)
      · rintro σ2 H2 ⟨rfl, rfl⟩
        refine ⟨_, rfl, _, _, _, _, rfl, rfl, SqL.of h1, rfl, _, _, rfl, rfl, _, rfl, _, _, _, 3, rfl, rfl, h1, rfl, ?_⟩
        have g1 : (upd H2 t (.lst (List.set [.ref g, .int l, .int f, .int c] 3 (.int (c + 1))))) t = some (.lst [.ref g, .int l, .int f, .int (c + 1)]) := upd_same
        have bf : (f + 5).natAbs < 2 ^ 63 := by omega
        have bc : (c + 1 + 2).natAbs < 2 ^ 61 := by omega
        have b3 : ((c + 1 + 2) ^ (3 : Int).toNat).natAbs < 2 ^ (61 * 3) := pow_lt bc (by decide)
        refine ⟨_, rfl, _, _, _, _, rfl, rfl, SqL.of g1, rfl, _, _, rfl, rfl, _, rfl, _, _, _, _, rfl, rfl, SqL.of g1, rfl, _, _, rfl, rfl, _, _, rfl, rfl, ⟨by decide, by decide, Nat.lt_trans bc (by decide)⟩, _, _, rfl, rfl, wide_mul bf b3 (by decide) (by decide) (by decide), ?_⟩
        refine ⟨_, rfl, _, _, _, _, rfl, rfl, SqL.of g1, rfl, _, _, rfl, rfl, wide_mul (a := 30) (b := 61) (by decide) (by omega) (by decide) (by decide) (by decide), _, _, rfl, rfl, ?_⟩
        refine ⟨_, _, rfl, rfl, ⟨by decide, by decide, by decide⟩, _, _, rfl, rfl, _, _, rfl, rfl, (by show (0 : Int) < _; decide), ?_⟩
        have hx0 := Int.emod_nonneg ((f + 5) * (c + 1 + 2) ^ (3 : Int).toNat + 1000003 * (c + 1)) (show (2 : Int) ^ (61 : Int).toNat - 1 ≠ 0 by decide)
        have hx1 := Int.emod_lt_of_pos ((f + 5) * (c + 1 + 2) ^ (3 : Int).toNat + 1000003 * (c + 1)) (show (0 : Int) < (2 : Int) ^ (61 : Int).toNat - 1 by decide)
        have e61 : (2 : Int) ^ (61 : Int).toNat - 1 = 2305843009213693951 := by decide
        rw [e61] at hx0 hx1
        refine ⟨_, rfl, _, _, rfl, rfl, ⟨by decide, by decide, ?_⟩, _, _, rfl, rfl, ⟨by decide, by decide, by decide⟩, _, _, rfl, rfl, _, _, rfl, rfl, (by show (0 : Int) < _; decide), _, _, rfl, rfl, wide_div (b := 10) (by decide) (by decide) (by decide) (by decide), _, rfl, _, _, rfl, rfl, hm, ?_⟩
        · show (((f + 5) * (c + 1 + 2) ^ (3 : Int).toNat + 1000003 * (c + 1)) % ((2 : Int) ^ (61 : Int).toNat - 1)).natAbs < 2 ^ 64
          rw [e61]
          omega
        · refine k _ _ (Int.emod_nonneg _ (by omega)) (Int.emod_lt_of_pos _ hm) ⟨⟨gs, l, f, c + 1, g1, (upd_ne (Ne.symm hne)).trans h2, hl, hge, hl0, hf0, hf1, by omega, by push_cast; omega⟩, hne⟩ fun b o e n1 n2 => (upd_ne n1).trans (kp b o e n1 n2)
end
end KA
namespace KA
open PySem PySem.Spec PyProof.Rows L2 DP
def spTray (K : PySem.W.Frag) : Sp := fun vs H Q _ => ∃ (a : Addr) (ns : List Int), vs = [.ref a] ∧ SqL K H a (ns.map V.int) ∧ ns.length ≤ 63 ∧ ∀ (H' : Hp) (t g : Addr), Tray H' t g 0 → Same H H' → H t = none → H g = none → Q (.ref t) H'
def spGreat : Sp := fun vs H Q _ => ∃ (t g : Addr) (n : Nat), vs = [.ref t] ∧ Tray H t g n ∧ n < 2 ^ 50 ∧ ∀ (H' : Hp) (r : Int), 0 ≤ r → r < 10 ^ 59 → Tray H' t g (n + 4) → Keep t g H H' → Q (.int r) H'
def spLength : Sp := fun vs H Q _ => ∃ (t g : Addr) (n : Nat), vs = [.ref t] ∧ Tray H t g n ∧ n < 2 ^ 49 ∧ ∀ (H' : Hp) (r : Int), 0 < r → r ≤ 10 ^ 30 → Tray H' t g (n + 10) → Keep t g H H' → Q (.int r) H'
theorem Tray.up {H : Hp} {t g : Addr} {m n : Nat} (T : Tray H t g m) (h : m ≤ n) : Tray H t g n := by
  obtain ⟨⟨gs, l, f, c, h1, h2, hl, hge, hl0, hf0, hf1, hc0, hc1⟩, hne⟩ := T
  exact ⟨⟨gs, l, f, c, h1, h2, hl, hge, hl0, hf0, hf1, hc0, by omega⟩, hne⟩
theorem pow_ten : (10 : Int) ^ (14 : Int).toNat = 10 ^ 14 ∧ (10 : Int) ^ (15 : Int).toNat = 10 ^ 15 ∧ (10 : Int) ^ (29 : Int).toNat = 10 ^ 29 ∧ (10 : Int) ^ (31 : Int).toNat = 10 ^ 31 ∧ (10 : Int) ^ (57 : Int).toNat = 10 ^ 57 := ⟨rfl, rfl, rfl, rfl, rfl⟩
section
variable {P : Program} {w : World} {K : PySem.W.Frag} {mg : Str → Option Value} {base : Heap} {Z : Ad}
theorem ok_law_tray (T : Tx K w mg Z) : FnOk P w K mg base CX0 1 Z.a_law_tray Z.d_law_tray P_law_tray (spTray K) := by
  refine T.F_law_tray.ok sclaw_tray (fun vs H Q E h => ?_) (fun cdv A outer s H vs Q E hr h => ?_)
  · obtain ⟨a, ns, rfl, _⟩ := h
    rfl
  · obtain ⟨a, ns, rfl, hS, hlen, k⟩ := h
    refine ⟨_, (pss_cons (ps_set (i := 1) sclaw_tray.nd rfl (Or.inl rfl) pe_int)
      (pss_cons (ps_set (i := 2) sclaw_tray.nd rfl (Or.inl rfl) (pe_lst pa_nil))
      (pss_cons (ps_for PassesOwn.never rfl (pi_list (pv 0)) (pg_name (i := 3) sclaw_tray.nd rfl (Or.inl rfl)) (pss_cons (ps_set (i := 1) sclaw_tray.nd rfl (Or.inl rfl) (pe_op op_mod (pe_op op_add (pe_op op_mulW (pv 1) pe_int) (pv 3)) (pe_op op_sub (pe_op op_pow pe_int pe_int) pe_int)))
      (pss_cons (ps_set (i := 4) sclaw_tray.nd rfl (Or.inl rfl) (pe_callB (call_max2 rfl) (by rfl) T.b_max (by decide +kernel) (pa_cons (pv 3) (pa_cons (pe_op op_sub pe_int (pv 3)) pa_nil))))
      (pss_one (ps_if (pt_cmpR op_ge (pv 4) (pe_op op_pow pe_int pe_int) (nomark _)) (pss_one (ps_expr (pe_bm PySem.F.plainAttrs_list PySem.F.slot_list_append PySem.F.type_list_append mt_append (pv 2) (pa_cons (pe_op op_sub (pv 4) (pe_op op_pow pe_int pe_int)) pa_nil)))) pss_nil)))))
      (pss_one (ps_ret (pe_lst (pa_cons (pv 2) (pa_cons pe_int (pa_cons (pv 1) (pa_cons pe_int pa_nil)))))))))), ?_⟩
    refine ⟨(by show 0 ≤ sizeLine; decide), fun G hG => ?_⟩
    refine ⟨_, rfl, a, rfl, ⟨_, Same.sqL (same_upd hG) hS⟩, ?_⟩
    refine for_list (K := K) (a := a) (xs := ns.map V.int) (fun i σ' H' => ∃ (gs : List Int) (f : Int) (u v : Option V), σ' = [some (.ref a), some (.int f), some (.ref G), u, v] ∧ Same H H' ∧ H' G = some (.lst (gs.map V.int)) ∧ gs.length ≤ i ∧ (∀ x ∈ gs, 0 ≤ x) ∧ 0 ≤ f ∧ f < 2 ^ 61)
      ⟨[], 314159265358979, none, none, rfl, same_upd hG, upd_same, Nat.le_refl _, (fun _ z => absurd z (by simp)), by decide, by decide⟩ (fun i σ' H' _ ⟨_, _, _, _, _, S, _⟩ => Same.sqL S hS) ?_ ?_
    · rintro i y σ' H' hi ⟨gs, f, u, v, rfl, S, hg, hgl, hge, hf0, hf1⟩
      obtain ⟨z, hz, rfl⟩ := map_at hi
      have hi63 : i < 63 := by
        have := (List.getElem?_eq_some_iff.mp hz).1
        omega
      have bf : f.natAbs < 2 ^ 61 := by omega
      refine ⟨_, rfl, _, _, rfl, rfl, wide_mul (b := 30) bf (by decide) (by decide) (by decide) (by decide), _, rfl, _, _, rfl, rfl, ?_⟩
      refine ⟨_, _, rfl, rfl, ⟨by decide, by decide, by decide⟩, _, _, rfl, rfl, _, _, rfl, rfl, (by show (0 : Int) < _; decide), ?_⟩
      have hx0 := Int.emod_nonneg (f * 1000003 + z) (show (2 : Int) ^ (61 : Int).toNat - 1 ≠ 0 by decide)
      have hx1 := Int.emod_lt_of_pos (f * 1000003 + z) (show (0 : Int) < (2 : Int) ^ (61 : Int).toNat - 1 by decide)
      have e61 : (2 : Int) ^ (61 : Int).toNat - 1 = 2305843009213693951 := by decide
      refine ⟨_, rfl, _, rfl, _, _, rfl, rfl, _, _, rfl, _, rfl, _, _, rfl, rfl, ⟨by decide, by decide, by decide⟩, _, _, rfl, rfl, _, rfl, ?_⟩
      refine ite2 (fun c => ?_) (fun _ => ?_)
      · refine ⟨_, rfl, .inl ⟨rfl, _, SqL.of hg⟩, _, rfl, _, _, rfl, rfl, ⟨by decide, by decide, by decide⟩, _, _, rfl, rfl, G, _, _, rfl, rfl, hg, ?_, ?_⟩
        · exact small1000 (by simp; omega)
        · have c' := of_decide_eq_true c
          refine ⟨gs ++ [(if 0 - z > z then 0 - z else z) - 10 ^ (18 : Int).toNat], _, _, _, rfl, same_set S hG, ?_, ?_, ?_, hx0, by rw [e61] at hx1; rw [e61]; omega⟩
          · rw [List.map_append]; exact upd_same
          · simp; omega
          · intro x hx
            rcases List.mem_append.mp hx with h | h
            · exact hge x h
            · rw [List.mem_singleton] at h
              subst h
              omega
      · exact ⟨gs, _, _, _, rfl, S, hg, by omega, hge, hx0, by rw [e61] at hx1; rw [e61]; omega⟩
    · rintro σ' H' ⟨gs, f, u, v, rfl, S, hg, hgl, hge, hf0, hf1⟩
      refine ⟨_, rfl, _, rfl, (by show 4 ≤ sizeLine; decide), fun t ht => ?_⟩
      have hgt : G ≠ t := ne_of_none hg ht
      refine k _ t G ⟨⟨gs, 0, f, 0, upd_same, (upd_ne hgt).trans hg, ?_, hge, Int.le_refl _, hf0, hf1, Int.le_refl _, Int.le_refl _⟩, Ne.symm hgt⟩ (same_set S (S.free ht)) (S.free ht) hG
      rw [List.length_map] at hgl
      omega
theorem ok_law_great (T : Tx K w mg Z) : FnOk P w K mg base CX0 2 Z.a_law_great Z.d_law_great P_law_great (spGreat) := by
  refine T.F_law_great.ok sclaw_great (fun vs H Q E h => ?_) (fun cdv A outer s H vs Q E hr h => ?_)
  · obtain ⟨t, g, n, rfl, _⟩ := h
    rfl
  · obtain ⟨t, g, n, rfl, hT, hn, k⟩ := h
    refine ⟨_, (pss_cons (ps_set (i := 1) sclaw_great.nd rfl (Or.inl rfl) (pe_call (ok_law_draw T) (hr.mono (by decide)) (by rfl) T.g_law_draw T.F_law_draw.kp T.bb_law_draw .nil pass0 (pa_cons (pv 0) (pa_cons (pe_op op_pow pe_int pe_int) pa_nil))))
      (pss_cons (ps_for PassesOwn.never rfl (pi_range1 (by rfl) T.b_range (pa_cons pe_int pa_nil)) (pg_name (i := 2) sclaw_great.nd rfl (Or.inl rfl)) (pss_one (ps_set (i := 1) sclaw_great.nd rfl (Or.inl rfl) (pe_op op_add (pe_op op_mulW (pv 1) (pe_op op_pow pe_int pe_int)) (pe_call (ok_law_draw T) (hr.mono (by decide)) (by rfl) T.g_law_draw T.F_law_draw.kp T.bb_law_draw .nil pass0 (pa_cons (pv 0) (pa_cons (pe_op op_pow pe_int pe_int) pa_nil)))))))
      (pss_one (ps_ret (pv 1))))), ?_⟩
    refine ⟨_, rfl, _, _, rfl, rfl, ⟨by decide, by decide, by decide⟩, t, g, n, _, rfl, hT, by decide, by decide, Nat.lt_trans hn (by decide), fun H1 r h0 h1 T1 k1 => ?_⟩
    refine ⟨3, rfl, by decide, by decide, ?_⟩
    refine for_range (n := 3) (fun i σ' H' => ∃ (r : Int) (u : Option V), σ' = [some (.ref t), some (.int r), u] ∧ 0 ≤ r ∧ r < 10 ^ 14 * (10 ^ 15) ^ i ∧ Tray H' t g (n + 1 + i) ∧ Keep t g H H') ⟨r, none, rfl, h0, by simpa using h1, T1, k1⟩ ?_ ?_
    · rintro i σ' H' hi ⟨r, u, rfl, r0, r1, T2, k2⟩
      have hb : (10 : Int) ^ 14 * (10 ^ 15) ^ i ≤ 10 ^ 14 * (10 ^ 15) ^ 2 := by
        have : i = 0 ∨ i = 1 ∨ i = 2 := by omega
        rcases this with e | e | e <;> subst e <;> decide
      have rb : r.natAbs < 2 ^ 200 := by
        have : r < 10 ^ 14 * (10 ^ 15) ^ 2 := Int.lt_of_lt_of_le r1 hb
        have e : (10 : Int) ^ 14 * (10 ^ 15) ^ 2 = 100000000000000000000000000000000000000000000 := by decide
        rw [e] at this
        have e2 : (2 : Nat) ^ 200 = 1606938044258990275541962092341162602522202993782792835301376 := by decide
        rw [e2]; omega
      refine ⟨_, rfl, _, _, rfl, rfl, ⟨by decide, by decide, by decide⟩, _, _, rfl, rfl, wide_mul (b := 60) rb (by decide) (by decide) (by decide) (by decide), ?_⟩
      refine ⟨_, rfl, _, _, rfl, rfl, ⟨by decide, by decide, by decide⟩, t, g, n + 1 + i, _, rfl, T2, by decide, by decide, (by omega), fun H3 q q0 q1 T3 k3 => ?_⟩
      refine ⟨_, _, rfl, rfl, ?_⟩
      have e15 : (10 : Int) ^ (15 : Int).toNat = 1000000000000000 := by decide
      rw [e15] at q1
      refine ⟨_, _, rfl, ?_, ?_, T3, k2.trans k3⟩
      · rw [e15]; omega
      · rw [e15, Int.pow_succ (10 ^ 15) i, ← Int.mul_assoc]
        generalize (10 : Int) ^ 14 * (10 ^ 15) ^ i = B at r1 ⊢
        have e : (10 : Int) ^ 15 = 1000000000000000 := by decide
        rw [e]; omega
    · rintro σ' H' ⟨r, u, rfl, r0, r1, T2, k2⟩
      refine ⟨_, rfl, k _ _ r0 ?_ (T2.up (by omega)) k2⟩
      exact Int.lt_of_lt_of_le r1 (by decide)
end
end KA
namespace KA
open PySem PySem.Spec PyProof.Rows L2 DP
/-- no list of it is long -/
def fewD : PyData → Bool
  | .list xs => decide (xs.length ≤ 1000) && fewDs xs
  | .tuple xs => decide (xs.length ≤ 1000) && fewDs xs
  | _ => true
where fewDs : List PyData → Bool
  | [] => true
  | x :: xs => fewD x && fewDs xs
def tyName : PyData → String
  | .none => "NoneType"
  | .bool _ => "bool"
  | .int _ => "int"
  | .str _ => "str"
  | .list _ => "list"
  | .tuple _ => "tuple"
  | .dict _ => "dict"
theorem ty_of {K : PySem.W.Frag} {H : Hp} {v : V} {d : PyData} (h : Dp K H v d) : TyX K H v (.type (tyName d)) := by
  cases h with
  | non => exact .base .non
  | bl b => exact .base (.bl b)
  | int i => exact .base (.int i)
  | str x => exact .base (.str x)
  | lst s a =>
    rcases s with (s | ⟨o, s⟩) | ⟨o, its, n, e, c, _⟩
    · exact .base (.lst s)
    · exact .base (.frz s)
    · exact .kList e c
  | tup s a =>
    rcases s with (s | ⟨o, s⟩) | ⟨o, its, n, e, c, _⟩
    · exact .base (.tup s)
    · exact .fTuple s
    · exact .kTuple e c
theorem isi {K : PySem.W.Frag} {H : Hp} {v : V} {d : PyData} {C : String} {b : Bool} {Q : VK} (h : Dp K H v d) (hk : kitB (tyName d) C = some b) (q : Q (.bl b) H) : rIsi K [v, .ty C] H Q :=
  ⟨v, .ty C, _, .type C, b, rfl, ClsV.ty C, ty_of h, kit_ty hk, q⟩
def spAlike (K : PySem.W.Frag) (n : Nat) : Sp := fun vs H Q _ => ∃ (v u : V) (d : PyData), vs = [v, u] ∧ Dp K H v d ∧ Dp K H u d ∧ fewD d = true ∧ d.depth < n ∧ Q (.bl true) H
theorem few_at : ∀ {ds : List PyData} {i : Nat} {d : PyData}, fewD.fewDs ds = true → ds[i]? = some d → fewD d = true
  | [], _, _, _, h => by simp at h
  | a :: r, 0, d, n, h => by
    rw [fewD.fewDs, Bool.and_eq_true] at n
    have e : a = d := Option.some.inj h
    subst e; exact n.1
  | a :: r, i + 1, d, n, h => by
    rw [fewD.fewDs, Bool.and_eq_true] at n
    exact few_at n.2 (by simpa using h)
theorem depth_at : ∀ {ds : List PyData} {i : Nat} {d : PyData}, ds[i]? = some d → d.depth ≤ PyData.depthAll ds
  | [], _, _, h => by simp at h
  | a :: r, 0, d, h => by
    have e : a = d := Option.some.inj h
    subst e; rw [PyData.depthAll]; omega
  | a :: r, i + 1, d, h => by
    have := depth_at (ds := r) (i := i) (d := d) (by simpa using h)
    rw [PyData.depthAll]; omega
theorem ix_any {K : PySem.W.Frag} {H : Hp} {p : Addr} {xs : List V} {i : Int} {x : V} {Q : VK} (s : SqL K H p xs ∨ SqT K H p xs) (h : atI xs i = some x) (q : Q x H) : rIx K (.ref p) (.int i) H Q := by
  rcases s with s | s
  · exact .inl ⟨p, xs, i, x, rfl, rfl, s, h, q⟩
  · exact .inr (.inl ⟨p, xs, i, x, rfl, rfl, s, h, q⟩)
section
variable {P : Program} {w : World} {K : PySem.W.Frag} {mg : Str → Option Value} {base : Heap} {Z : Ad}
/-- what the loop asks: the items alike, by the promise one level down -/
theorem ok_law_alike_of {k n : Nat} (T : Tx K w mg Z) (ih : FnOk P w K mg base CX0 k Z.a_law_alike Z.d_law_alike P_law_alike (spAlike K n)) : FnOk P w K mg base CX0 (k + 1) Z.a_law_alike Z.d_law_alike P_law_alike (spAlike K (n + 1)) := by
  refine T.F_law_alike.ok sclaw_alike (fun vs H Q E h => ?_) (fun cdv A outer s H vs Q E hr h => ?_)
  · obtain ⟨v, u, d, rfl, _⟩ := h
    rfl
  · obtain ⟨v, u, d, rfl, hv, hu, hf, hd, k⟩ := h
    -- the data's kinds: what the tests answer
    have ty := ty_of hu
    refine ⟨_, (C8.pss_cut (ps_if (pt_cmpR op_isN (pv 1) pe_non (nomark _)) (pss_one (ps_ret (pe_cmpR op_isN (pv 0) pe_non (nomark _)))) pss_nil)
      (C8.pss_cut (ps_if (pt_val (pe_callB (isiK (K := K)) (by rfl) T.b_isinstance (by decide +kernel) (pa_cons (pv 1) (pa_cons (pe_bltn (v := .ty "bool") (by rfl) T.b_bool (by decide +kernel) rfl) pa_nil)))) (pss_one (ps_ret (pe_and (pe_callB (isiK (K := K)) (by rfl) T.b_isinstance (by decide +kernel) (pa_cons (pv 0) (pa_cons (pe_bltn (v := .ty "bool") (by rfl) T.b_bool (by decide +kernel) rfl) pa_nil))) (pe_one (pe_cmpR op_eq (pv 0) (pv 1) (nomark _)))))) pss_nil)
      (C8.pss_cut (ps_if (pt_val (pe_callB (isiK (K := K)) (by rfl) T.b_isinstance (by decide +kernel) (pa_cons (pv 1) (pa_cons (pe_bltn (v := .ty "int") (by rfl) T.b_int (by decide +kernel) rfl) pa_nil)))) (pss_one (ps_ret (pe_and (pe_callB (isiK (K := K)) (by rfl) T.b_isinstance (by decide +kernel) (pa_cons (pv 0) (pa_cons (pe_bltn (v := .ty "int") (by rfl) T.b_int (by decide +kernel) rfl) pa_nil))) (pe_and (pe_not (pe_callB (isiK (K := K)) (by rfl) T.b_isinstance (by decide +kernel) (pa_cons (pv 0) (pa_cons (pe_bltn (v := .ty "bool") (by rfl) T.b_bool (by decide +kernel) rfl) pa_nil)))) (pe_one (pe_cmpR op_eq (pv 0) (pv 1) (nomark _))))))) pss_nil)
      (C8.pss_cut (ps_if (pt_val (pe_callB (isiK (K := K)) (by rfl) T.b_isinstance (by decide +kernel) (pa_cons (pv 1) (pa_cons (pe_bltn (v := .ty "str") (by rfl) T.b_str (by decide +kernel) rfl) pa_nil)))) (pss_one (ps_ret (pe_and (pe_callB (isiK (K := K)) (by rfl) T.b_isinstance (by decide +kernel) (pa_cons (pv 0) (pa_cons (pe_bltn (v := .ty "str") (by rfl) T.b_str (by decide +kernel) rfl) pa_nil))) (pe_one (pe_cmpR op_eq (pv 0) (pv 1) (nomark _)))))) pss_nil)
      (C8.pss_cut (ps_if (PW.pt (pw_or (pt_cmpR (neDK (K := K) hr.units) (pe_callB (isiK (K := K)) (by rfl) T.b_isinstance (by decide +kernel) (pa_cons (pv 0) (pa_cons (pe_bltn (v := .ty "list") (by rfl) T.b_list (by decide +kernel) rfl) pa_nil))) (pe_callB (isiK (K := K)) (by rfl) T.b_isinstance (by decide +kernel) (pa_cons (pv 1) (pa_cons (pe_bltn (v := .ty "list") (by rfl) T.b_list (by decide +kernel) rfl) pa_nil))) (nomark _)) (pw_or1 (pt_cmpR (neDK (K := K) hr.units) (pe_callB (isiK (K := K)) (by rfl) T.b_isinstance (by decide +kernel) (pa_cons (pv 0) (pa_cons (pe_bltn (v := .ty "tuple") (by rfl) T.b_tuple (by decide +kernel) rfl) pa_nil))) (pe_callB (isiK (K := K)) (by rfl) T.b_isinstance (by decide +kernel) (pa_cons (pv 1) (pa_cons (pe_bltn (v := .ty "tuple") (by rfl) T.b_tuple (by decide +kernel) rfl) pa_nil))) (nomark _))))) (pss_one (ps_ret pe_bl)) pss_nil)
      (C8.pss_cut (ps_if (pt_cmpR op_ne (pe_callB (lenK (K := K)) (by rfl) T.b_len (by decide +kernel) (pa_cons (pv 0) pa_nil)) (pe_callB (lenK (K := K)) (by rfl) T.b_len (by decide +kernel) (pa_cons (pv 1) pa_nil)) (nomark _)) (pss_one (ps_ret pe_bl)) pss_nil)
      (pss_cons (ps_for PassesOwn.never rfl (pi_range1 (by rfl) T.b_range (pa_cons (pe_callB (lenK (K := K)) (by rfl) T.b_len (by decide +kernel) (pa_cons (pv 1) pa_nil)) pa_nil)) (pg_name (i := 2) sclaw_alike.nd rfl (Or.inl rfl)) (pss_one (ps_if (pt_not (pt_val (pe_call ih hr (by rfl) T.g_law_alike T.F_law_alike.kp T.bb_law_alike .nil pass0 (pa_cons (pe_ix ix_seq (pv 0) (pv 2) (fun _ _ => rfl)) (pa_cons (pe_ix ix_seq (pv 1) (pv 2) (fun _ _ => rfl)) pa_nil))))) (pss_one (ps_ret pe_bl)) pss_nil)))
      (pss_one (ps_ret pe_bl))))))))), ?_⟩
    refine ⟨fun σ' H' => σ' = [some v, some u, none] ∧ H' = H ∧ d ≠ .none, ?_, ?_⟩
    · refine ⟨_, rfl, rfl, _, rfl, ?_⟩
      cases hu with
      | non =>
        cases hv
        exact iteT ⟨_, rfl, rfl, k⟩
      | bl b => exact iteF ⟨rfl, rfl, fun e => by cases e⟩
      | int b => exact iteF ⟨rfl, rfl, fun e => by cases e⟩
      | str b => exact iteF ⟨rfl, rfl, fun e => by cases e⟩
      | lst s a => exact iteF ⟨rfl, rfl, fun e => by cases e⟩
      | tup s a => exact iteF ⟨rfl, rfl, fun e => by cases e⟩
    rintro σ1 H1 ⟨rfl, rfl, n1⟩
    refine ⟨fun σ' H' => σ' = [some v, some u, none] ∧ H' = H1 ∧ ∀ b, d ≠ .bool b, ?_, ?_⟩
    · cases hu with
      | non => exact absurd rfl n1
      | bl b =>
        have hv' := hv
        cases hv
        exact ⟨_, rfl, ⟨_, _, _, _, true, rfl, .ty _, ty_of (.bl b), kit_ty (by simp only [tyName]; decide +kernel), _, rfl, iteT ⟨_, rfl, ⟨_, _, _, _, true, rfl, .ty _, ty_of hv', kit_ty (by simp only [tyName]; decide +kernel), _, rfl, iteT ⟨_, rfl, _, rfl, rfl, (by simpa using k)⟩⟩⟩⟩⟩
      | int b => exact ⟨_, rfl, ⟨_, _, _, _, false, rfl, .ty _, ty_of (.int b), kit_ty (by simp only [tyName]; decide +kernel), _, rfl, iteF ⟨rfl, rfl, fun _ e => by cases e⟩⟩⟩
      | str b => exact ⟨_, rfl, ⟨_, _, _, _, false, rfl, .ty _, ty_of (.str b), kit_ty (by simp only [tyName]; decide +kernel), _, rfl, iteF ⟨rfl, rfl, fun _ e => by cases e⟩⟩⟩
      | lst s a => exact ⟨_, rfl, ⟨_, _, _, _, false, rfl, .ty _, ty_of (.lst s a), kit_ty (by simp only [tyName]; decide +kernel), _, rfl, iteF ⟨rfl, rfl, fun _ e => by cases e⟩⟩⟩
      | tup s a => exact ⟨_, rfl, ⟨_, _, _, _, false, rfl, .ty _, ty_of (.tup s a), kit_ty (by simp only [tyName]; decide +kernel), _, rfl, iteF ⟨rfl, rfl, fun _ e => by cases e⟩⟩⟩
    rintro σ2 H2 ⟨rfl, rfl, n2⟩
    refine ⟨fun σ' H' => σ' = [some v, some u, none] ∧ H' = H2 ∧ ∀ b, d ≠ .int b, ?_, ?_⟩
    · cases hu with
      | non => exact absurd rfl n1
      | bl b => exact absurd rfl (n2 b)
      | int b =>
        have hv' := hv
        cases hv
        exact ⟨_, rfl, ⟨_, _, _, _, true, rfl, .ty _, ty_of (.int b), kit_ty (by simp only [tyName]; decide +kernel), _, rfl, iteT ⟨_, rfl, ⟨_, _, _, _, true, rfl, .ty _, ty_of hv', kit_ty (by simp only [tyName]; decide +kernel), _, rfl, iteT ⟨_, rfl, ⟨_, _, _, _, false, rfl, .ty _, ty_of hv', kit_ty (by simp only [tyName]; decide +kernel), _, rfl, _, rfl, iteT ⟨_, rfl, _, rfl, rfl, (by simpa using k)⟩⟩⟩⟩⟩⟩⟩
      | str b => exact ⟨_, rfl, ⟨_, _, _, _, false, rfl, .ty _, ty_of (.str b), kit_ty (by simp only [tyName]; decide +kernel), _, rfl, iteF ⟨rfl, rfl, fun _ e => by cases e⟩⟩⟩
      | lst s a => exact ⟨_, rfl, ⟨_, _, _, _, false, rfl, .ty _, ty_of (.lst s a), kit_ty (by simp only [tyName]; decide +kernel), _, rfl, iteF ⟨rfl, rfl, fun _ e => by cases e⟩⟩⟩
      | tup s a => exact ⟨_, rfl, ⟨_, _, _, _, false, rfl, .ty _, ty_of (.tup s a), kit_ty (by simp only [tyName]; decide +kernel), _, rfl, iteF ⟨rfl, rfl, fun _ e => by cases e⟩⟩⟩
    rintro σ3 H3 ⟨rfl, rfl, n3⟩
    refine ⟨fun σ' H' => σ' = [some v, some u, none] ∧ H' = H3 ∧ ∀ b, d ≠ .str b, ?_, ?_⟩
    · cases hu with
      | non => exact absurd rfl n1
      | bl b => exact absurd rfl (n2 b)
      | int b => exact absurd rfl (n3 b)
      | str b =>
        have hv' := hv
        cases hv
        exact ⟨_, rfl, ⟨_, _, _, _, true, rfl, .ty _, ty_of (.str b), kit_ty (by simp only [tyName]; decide +kernel), _, rfl, iteT ⟨_, rfl, ⟨_, _, _, _, true, rfl, .ty _, ty_of hv', kit_ty (by simp only [tyName]; decide +kernel), _, rfl, iteT ⟨_, rfl, _, rfl, rfl, (by simpa using k)⟩⟩⟩⟩⟩
      | lst s a => exact ⟨_, rfl, ⟨_, _, _, _, false, rfl, .ty _, ty_of (.lst s a), kit_ty (by simp only [tyName]; decide +kernel), _, rfl, iteF ⟨rfl, rfl, fun _ e => by cases e⟩⟩⟩
      | tup s a => exact ⟨_, rfl, ⟨_, _, _, _, false, rfl, .ty _, ty_of (.tup s a), kit_ty (by simp only [tyName]; decide +kernel), _, rfl, iteF ⟨rfl, rfl, fun _ e => by cases e⟩⟩⟩
    rintro σ4 H4 ⟨rfl, rfl, n4⟩
    -- a list or a tuple
    obtain ⟨p, q, xs, ys, ds, ev, eu, sx, sy, hx, hy, hl, hfw, hdp, hty⟩ : ∃ (p q : Addr) (xs ys : List V) (ds : List PyData), v = .ref p ∧ u = .ref q ∧ (SqL K H4 p xs ∨ SqT K H4 p xs) ∧ (SqL K H4 q ys ∨ SqT K H4 q ys) ∧ DpAll K H4 xs ds ∧ DpAll K H4 ys ds ∧ ds.length ≤ 1000 ∧ fewD.fewDs ds = true ∧ PyData.depthAll ds < n ∧ (tyName d = "list" ∨ tyName d = "tuple") := by
      cases hu with
      | non => exact absurd rfl n1
      | bl b => exact absurd rfl (n2 b)
      | int b => exact absurd rfl (n3 b)
      | str b => exact absurd rfl (n4 b)
      | lst s a =>
        cases hv with
        | lst s' a' =>
          rw [fewD, Bool.and_eq_true, decide_eq_true_eq] at hf
          rw [PyData.depth] at hd
          exact ⟨_, _, _, _, _, rfl, rfl, .inl s', .inl s, a', a, hf.1, hf.2, by omega, .inl rfl⟩
      | tup s a =>
        cases hv with
        | tup s' a' =>
          rw [fewD, Bool.and_eq_true, decide_eq_true_eq] at hf
          rw [PyData.depth] at hd
          exact ⟨_, _, _, _, _, rfl, rfl, .inr s', .inr s, a', a, hf.1, hf.2, by omega, .inr rfl⟩
    have lx := dpAll_len hx
    have ly := dpAll_len hy
    refine ⟨fun σ' H' => σ' = [some v, some u, none] ∧ H' = H4, ?_, ?_⟩
    · obtain ⟨b1, e1⟩ : ∃ b, kitB (tyName d) "list" = some b := by
        rcases hty with e | e <;> rw [e]
        · exact ⟨true, by decide +kernel⟩
        · exact ⟨false, by decide +kernel⟩
      obtain ⟨b2, e2⟩ : ∃ b, kitB (tyName d) "tuple" = some b := by
        rcases hty with e | e <;> rw [e]
        · exact ⟨false, by decide +kernel⟩
        · exact ⟨true, by decide +kernel⟩
      refine ⟨_, rfl, ⟨_, _, _, _, _, rfl, .ty _, ty_of hv, kit_ty e1, _, rfl, ⟨_, _, _, _, _, rfl, .ty _, ty_of hu, kit_ty e1, .bool b1, .bool b1, .bl _, .bl _, rfl, rfl, _, rfl, ?_⟩⟩⟩
      have d1 : (!PyData.eqv (.bool b1) (.bool b1)) = false := by cases b1 <;> decide +kernel
      rw [d1]
      refine iteF ⟨_, rfl, ⟨_, _, _, _, _, rfl, .ty _, ty_of hv, kit_ty e2, _, rfl, ⟨_, _, _, _, _, rfl, .ty _, ty_of hu, kit_ty e2, .bool b2, .bool b2, .bl _, .bl _, rfl, rfl, _, rfl, ?_⟩⟩⟩
      have d2 : (!PyData.eqv (.bool b2) (.bool b2)) = false := by cases b2 <;> decide +kernel
      rw [d2]
      exact iteF ⟨rfl, rfl⟩
    rintro σ5 H5 ⟨rfl, rfl⟩
    refine ⟨fun σ' H' => σ' = [some v, some u, none] ∧ H' = H5, ?_, ?_⟩
    · subst ev eu
      refine ⟨_, rfl, p, xs, rfl, sx, _, rfl, q, ys, rfl, sy, rfl, _, rfl, ?_⟩
      have d1 : (!decide (V.int (xs.length : Int) = V.int (ys.length : Int))) = false := by rw [lx, ly]; simp
      rw [d1]
      exact iteF ⟨rfl, rfl⟩
    rintro σ6 H6 ⟨rfl, rfl⟩
    subst ev eu
    refine ⟨_, rfl, q, ys, rfl, sy, (ys.length : Int), rfl, ?_, ?_, ?_⟩
    · exact Int.le_trans (by decide) (Int.natCast_nonneg _)
    · have : (ys.length : Int) ≤ 1000 := by rw [ly]; exact_mod_cast hl
      exact Int.lt_of_le_of_lt this (by decide)
    refine for_range (n := (ys.length : Int).toNat) (fun i σ' H' => ∃ w0, σ' = [some (.ref p), some (.ref q), w0] ∧ H' = H6) ⟨none, rfl, rfl⟩ ?_ ?_
    · rintro i σ' H' hi ⟨w0, rfl, rfl⟩
      have hi' : i < ds.length := by rw [← ly]; simpa using hi
      obtain ⟨e, he⟩ : ∃ e, ds[i]? = some e := ⟨ds[i], List.getElem?_eq_getElem hi'⟩
      obtain ⟨x, hxi, hxe⟩ := dpAll_get' hx he
      obtain ⟨y, hyi, hye⟩ := dpAll_get' hy he
      refine ⟨_, rfl, _, rfl, ?_⟩
      refine ix_any (K := K) sx (at_of (by simp) hxi) ?_
      refine ⟨_, rfl, _, rfl, ?_⟩
      refine ix_any (K := K) sy (at_of (by simp) hyi) ?_
      exact ⟨x, y, e, rfl, hxe, hye, few_at hfw he, Nat.lt_of_le_of_lt (depth_at he) hdp, _, rfl, iteF ⟨_, rfl, rfl⟩⟩
    · rintro σ' H' ⟨w0, rfl, rfl⟩
      exact k
theorem ok_law_alike0 (T : Tx K w mg Z) : FnOk P w K mg base CX0 1 Z.a_law_alike Z.d_law_alike P_law_alike (spAlike K 0) := by
  refine T.F_law_alike.ok sclaw_alike (fun vs H Q E h => ?_) (fun cdv A outer s H vs Q E hr h => ?_)
  · obtain ⟨v, u, d, rfl, _⟩ := h
    rfl
  · obtain ⟨v, u, d, rfl, hv, hu, hf, hd, k⟩ := h
    exact absurd hd (Nat.not_lt_zero _)
theorem ok_law_alike (T : Tx K w mg Z) : ∀ n, FnOk P w K mg base CX0 (n + 1) Z.a_law_alike Z.d_law_alike P_law_alike (spAlike K n)
  | 0 => ok_law_alike0 T
  | n + 1 => ok_law_alike_of T (ok_law_alike T n)
end
end KA
namespace KA
open PySem PySem.Spec PyProof.Rows L2 DP
def spNo : Sp := fun _ _ _ _ => False
def spFig0 : Sp := fun vs H Q _ => ∃ n : Int, vs = [.int n] ∧ 0 ≤ n ∧ n.natAbs < 10 ^ 60 ∧ ∀ H', Same H H' → Q (.str (numT n)) H'
def spFig : Sp := fun vs H Q _ => ∃ n : Int, vs = [.int n] ∧ n.natAbs < 10 ^ 60 ∧ ∀ H', Same H H' → Q (.str (numT n)) H'
theorem join_one (a : Str) : Txt.join ("" : Str) [a].reverse = a := by
  show Txt.join ("" : Str) [a] = a
  rw [TL.join_eq]; rfl
section
variable {P : Program} {w : World} {K : PySem.W.Frag} {mg : Str → Option Value} {base : Heap} {Z : Ad}
theorem ok_figuresN (T : Tx K w mg Z) : FnOk P w K mg base CX0 1 Z.a_figures Z.d_figures P_figures spNo := by
  refine T.F_figures.ok scfigures (fun vs H Q E h => ?_) (fun cdv A outer s H vs Q E hr h => ?_)
  · exact False.elim h
  · exact False.elim h
theorem fig_body {σ : L2.St} {H : Hp} {n : Int} (h0 : 0 ≤ n) (hn : n.natAbs < 10 ^ 60) : (10 : Int) ^ (60 : Int).toNat = 10 ^ 60 ∧ ¬ n ≥ (10 : Int) ^ (60 : Int).toNat := by
  have e : (10 : Int) ^ (60 : Int).toNat = 10 ^ 60 := rfl
  refine ⟨e, ?_⟩
  rw [e]
  omega
theorem ok_figures0 (T : Tx K w mg Z) : FnOk P w K mg base CX0 2 Z.a_figures Z.d_figures P_figures spFig0 := by
  have ih := ok_figuresN (P := P) (base := base) T
  refine T.F_figures.ok scfigures (fun vs H Q E h => ?_) (fun cdv A outer s H vs Q E hr h => ?_)
  · obtain ⟨n, rfl, _⟩ := h
    rfl
  · obtain ⟨n, rfl, h0, hn, k⟩ := h
    refine ⟨_, (C8.pss_cut (ps_if (pt_cmpR op_lt (pv 0) pe_int (nomark _)) (pss_one (ps_ret (pe_op op_add_str pe_str (pe_call ih hr (by rfl) T.g_figures T.F_figures.kp T.bb_figures .nil pass0 (pa_cons (pe_un un_neg (pv 0)) pa_nil))))) pss_nil)
      (pss_cons (ps_set (i := 1) scfigures.nd rfl (Or.inl rfl) (pe_lst pa_nil))
      (C8.pss_cut (ps_while PassesOwn.never (pt_cmpR op_ge (pv 0) (pe_op op_pow pe_int pe_int) (nomark _)) (pss_cons (ps_expr (pe_bm PySem.F.plainAttrs_list PySem.F.slot_list_append PySem.F.type_list_append mt_append (pv 1) (pa_cons (pe_m1 PySem.F.slot_str_zfill PySem.F.type_str_zfill mt_zfill (pe_callTy call_str_int (by rfl) T.b_str (by decide +kernel) (pa_cons (pe_op op_mod (pv 0) (pe_op op_pow pe_int pe_int)) pa_nil)) pe_int) pa_nil)))
      (pss_one (ps_set (i := 0) scfigures.nd rfl (Or.inl rfl) (pe_op op_fdivW (pv 0) (pe_op op_pow pe_int pe_int))))))
      (pss_cons (ps_expr (pe_bm PySem.F.plainAttrs_list PySem.F.slot_list_append PySem.F.type_list_append mt_append (pv 1) (pa_cons (pe_callTy call_str_int (by rfl) T.b_str (by decide +kernel) (pa_cons (pv 0) pa_nil)) pa_nil)))
      (pss_one (ps_ret (pe_joinRev (K := K) rfl pe_str (by rfl) T.b_reversed (pv 1)))))))), ?_⟩
    refine ⟨fun σ' H' => σ' = [some (.int n), none] ∧ H' = H, ?_, ?_⟩
    · refine ⟨_, rfl, _, _, rfl, rfl, _, rfl, ite2 (fun c => ?_) (fun _ => ⟨rfl, rfl⟩)⟩
      exact absurd (of_decide_eq_true c) (by omega)
    rintro σ1 H1 ⟨rfl, rfl⟩
    refine ⟨(by show 0 ≤ sizeLine; decide), fun B hB => ?_⟩
    have SB := same_upd (o := HO.lst []) hB
    have gB : (upd H1 B (.lst [])) B = some (.lst []) := upd_same
    generalize upd H1 B (.lst []) = H2 at SB gB ⊢
    refine ⟨fun σ' H' => σ' = [some (.int n), some (.ref B)] ∧ H' = H2, ?_, ?_⟩
    · refine while_post (fun σ' H' => σ' = [some (.int n), some (.ref B)] ∧ H' = H2) (fun _ _ => 0) (fun σ' H' => σ' = [some (.int n), some (.ref B)] ∧ H' = H2) ⟨rfl, rfl⟩ ?_ (fun _ _ q => q) ?_
      · rintro σ' H' ⟨rfl, rfl⟩
        refine ⟨_, rfl, _, _, rfl, rfl, ⟨by decide, by decide, by decide⟩, _, _, rfl, rfl, _, rfl, ?_⟩
        refine ite2 (fun c => ?_) (fun _ => ⟨rfl, rfl⟩)
        exact absurd (of_decide_eq_true c) (fig_body (σ := []) (H := H') h0 hn).2
      · rintro σ' H' Q1 Q2 hQ ⟨v, hv, i, j, e1, e2, hp, a, b, e3, e4, k1, ek, q⟩
        exact ⟨v, hv, i, j, e1, e2, hp, a, b, e3, e4, k1, ek, hQ _ _ q⟩
    rintro σ2 H3 ⟨rfl, rfl⟩
    refine ⟨_, rfl, .inl ⟨rfl, _, SqL.of gB⟩, _, rfl, n, rfl, log_small hn, B, [], _, rfl, rfl, gB, small1000 (by simp), ?_⟩
    refine ⟨⟨_, rfl⟩, _, rfl, ("" : Str), B, [numT n], rfl, rfl, SqL.of upd_same, ?_, ?_⟩
    · have := numT_len hn
      have e0 : (Str.ofString "").length = 0 := rfl
      simp
      omega
    rw [join_one]
    exact k _ (same_set SB hB)
theorem ok_figures (T : Tx K w mg Z) : FnOk P w K mg base CX0 3 Z.a_figures Z.d_figures P_figures spFig := by
  have ih := ok_figures0 (P := P) (base := base) T
  refine T.F_figures.ok scfigures (fun vs H Q E h => ?_) (fun cdv A outer s H vs Q E hr h => ?_)
  · obtain ⟨n, rfl, _⟩ := h
    rfl
  · obtain ⟨n, rfl, hn, k⟩ := h
    refine ⟨_, (C8.pss_cut (ps_if (pt_cmpR op_lt (pv 0) pe_int (nomark _)) (pss_one (ps_ret (pe_op op_add_str pe_str (pe_call ih hr (by rfl) T.g_figures T.F_figures.kp T.bb_figures .nil pass0 (pa_cons (pe_un un_neg (pv 0)) pa_nil))))) pss_nil)
      (pss_cons (ps_set (i := 1) scfigures.nd rfl (Or.inl rfl) (pe_lst pa_nil))
      (C8.pss_cut (ps_while PassesOwn.never (pt_cmpR op_ge (pv 0) (pe_op op_pow pe_int pe_int) (nomark _)) (pss_cons (ps_expr (pe_bm PySem.F.plainAttrs_list PySem.F.slot_list_append PySem.F.type_list_append mt_append (pv 1) (pa_cons (pe_m1 PySem.F.slot_str_zfill PySem.F.type_str_zfill mt_zfill (pe_callTy call_str_int (by rfl) T.b_str (by decide +kernel) (pa_cons (pe_op op_mod (pv 0) (pe_op op_pow pe_int pe_int)) pa_nil)) pe_int) pa_nil)))
      (pss_one (ps_set (i := 0) scfigures.nd rfl (Or.inl rfl) (pe_op op_fdivW (pv 0) (pe_op op_pow pe_int pe_int))))))
      (pss_cons (ps_expr (pe_bm PySem.F.plainAttrs_list PySem.F.slot_list_append PySem.F.type_list_append mt_append (pv 1) (pa_cons (pe_callTy call_str_int (by rfl) T.b_str (by decide +kernel) (pa_cons (pv 0) pa_nil)) pa_nil)))
      (pss_one (ps_ret (pe_joinRev (K := K) rfl pe_str (by rfl) T.b_reversed (pv 1)))))))), ?_⟩
    refine ⟨fun σ' H' => σ' = [some (.int n), none] ∧ H' = H ∧ 0 ≤ n, ?_, ?_⟩
    · refine ⟨_, rfl, _, _, rfl, rfl, _, rfl, ite2 (fun c => ?_) (fun c => ⟨rfl, rfl, ?_⟩)⟩
      · have c1 : n < 0 := of_decide_eq_true c
        refine ⟨_, rfl, _, rfl, -n, rfl, by omega, by rw [Int.natAbs_neg]; exact hn, fun H' S => ⟨_, _, rfl, rfl, ?_, ?_⟩⟩
        · have h1 := numT_len (n := -n) (by rw [Int.natAbs_neg]; exact hn)
          have h2 := minus_len
          rw [h2]
          exact Nat.le_trans (by omega : _ ≤ 100) (by decide)
        · rw [neg_text c1]
          exact k _ S
      · have : ¬ n < 0 := fun e => c (decide_eq_true e)
        omega
    rintro σ1 H1 ⟨rfl, rfl, h0⟩
    refine ⟨(by show 0 ≤ sizeLine; decide), fun B hB => ?_⟩
    have SB := same_upd (o := HO.lst []) hB
    have gB : (upd H1 B (.lst [])) B = some (.lst []) := upd_same
    generalize upd H1 B (.lst []) = H2 at SB gB ⊢
    refine ⟨fun σ' H' => σ' = [some (.int n), some (.ref B)] ∧ H' = H2, ?_, ?_⟩
    · refine while_post (fun σ' H' => σ' = [some (.int n), some (.ref B)] ∧ H' = H2) (fun _ _ => 0) (fun σ' H' => σ' = [some (.int n), some (.ref B)] ∧ H' = H2) ⟨rfl, rfl⟩ ?_ (fun _ _ q => q) ?_
      · rintro σ' H' ⟨rfl, rfl⟩
        refine ⟨_, rfl, _, _, rfl, rfl, ⟨by decide, by decide, by decide⟩, _, _, rfl, rfl, _, rfl, ?_⟩
        refine ite2 (fun c => ?_) (fun _ => ⟨rfl, rfl⟩)
        exact absurd (of_decide_eq_true c) (fig_body (σ := []) (H := H') h0 hn).2
      · rintro σ' H' Q1 Q2 hQ ⟨v, hv, i, j, e1, e2, hp, a, b, e3, e4, k1, ek, q⟩
        exact ⟨v, hv, i, j, e1, e2, hp, a, b, e3, e4, k1, ek, hQ _ _ q⟩
    rintro σ2 H3 ⟨rfl, rfl⟩
    refine ⟨_, rfl, .inl ⟨rfl, _, SqL.of gB⟩, _, rfl, n, rfl, log_small hn, B, [], _, rfl, rfl, gB, small1000 (by simp), ?_⟩
    refine ⟨⟨_, rfl⟩, _, rfl, ("" : Str), B, [numT n], rfl, rfl, SqL.of upd_same, ?_, ?_⟩
    · have := numT_len hn
      have e0 : (Str.ofString "").length = 0 := rfl
      simp
      omega
    rw [join_one]
    exact k _ (same_set SB hB)
end
end KA
namespace KA
open PySem PySem.Spec PyProof.Rows L2 DP
theorem allK {X : Cx} {K : PySem.W.Frag} (hc : X.calm = true) (h : X.K = K := by rfl) : CallR X (.builtin "all") (rAll K) := by subst h; exact cr_all hc
def spShowLook (K : PySem.W.Frag) : Sp := fun vs H Q _ => ∃ (p : Addr) (l : Lk), vs = [.ref p] ∧ SqT K H p [.str l.1, .int l.2.1, .int l.2.2] ∧ WordOk l.1 ∧ Small l ∧ ∀ H', Same H H' → Q (.str (lookT l)) H'
def spNumOf : Sp := fun vs H Q _ => ∃ n : Int, vs = [.str (numT n)] ∧ n.natAbs < 10 ^ 60 ∧ ∀ H', Same H H' → Q (.int n) H'
def spStepOf : Sp := fun vs H Q _ => ∃ x y : Int, vs = [.str (stepT x y)] ∧ x.natAbs < 10 ^ 60 ∧ y.natAbs < 10 ^ 60 ∧ ∀ (H' : Hp) (q : Addr), Same H H' → H q = none → H' q = some (.tup [.int x, .int y]) → Q (.ref q) H'
def spLookOf : Sp := fun vs H Q _ => ∃ l : Lk, vs = [.str (lookT l)] ∧ WordOk l.1 ∧ Small l ∧ ∀ (H' : Hp) (q : Addr), Same H H' → H q = none → H' q = some (.tup [.str l.1, .int l.2.1, .int l.2.2]) → Q (.ref q) H'
theorem sign_in {c : Nat} (h : 48 ≤ c ∧ c ≤ 57) : decide (c ∈ ("0123456789" : Str).cps.toList) = true := by
  have : ∀ d : Nat, d < 10 → decide (48 + d ∈ ("0123456789" : Str).cps.toList) = true := by decide +kernel
  have e := this (c - 48) (by omega)
  rwa [show 48 + (c - 48) = c by omega] at e
section
variable {P : Program} {w : World} {K : PySem.W.Frag} {mg : Str → Option Value} {base : Heap} {Z : Ad}
theorem ok_show_look (T : Tx K w mg Z) : FnOk P w K mg base CX0 4 Z.a_show_look Z.d_show_look P_show_look (spShowLook K) := by
  refine T.F_show_look.ok scshow_look (fun vs H Q E h => ?_) (fun cdv A outer s H vs Q E hr h => ?_)
  · obtain ⟨p, l, rfl, _⟩ := h
    rfl
  · obtain ⟨p, l, rfl, hp, hw, hs, k⟩ := h
    refine ⟨_, (pss_cons (ps_asg (pv 0) (tupK (K := K) (by rfl) (pgs_cons (pg_name (i := 1) scshow_look.nd rfl (Or.inl rfl)) (pgs_cons (pg_name (i := 2) scshow_look.nd rfl (Or.inl rfl)) (pgs_cons (pg_name (i := 3) scshow_look.nd rfl (Or.inl rfl)) pgs_nil)))))
      (pss_one (ps_ret (pe_joined (PJ.cons (pe_fmt (pv 1)) (PJ.cons pe_str (PJ.cons (pe_fmt (pe_call (ok_figures T) (hr.mono (by decide)) (by rfl) T.g_figures T.F_figures.kp T.bb_figures .nil pass0 (pa_cons (pv 2) pa_nil))) (PJ.cons pe_str (PJ.cons (pe_fmt (pe_call (ok_figures T) (hr.mono (by decide)) (by rfl) T.g_figures T.F_figures.kp T.bb_figures .nil pass0 (pa_cons (pv 3) pa_nil))) PJ.nil))))))))), ?_⟩
    have b1 := word_len hw
    have b2 := numT_len hs.1
    have b3 := numT_len hs.2
    have b4 := blank_len
    have big : ∀ {m : Nat}, m ≤ 1000 → m ≤ sizeLine := fun {m} h => Nat.le_of_lt (small1000 h)
    refine ⟨_, rfl, _, _, rfl, hp, rfl, _, _, rfl, _, _, rfl, _, _, rfl, rfl, ?_⟩
    refine ⟨_, rfl, .inl ⟨l.1, rfl, big (by omega), l.1, rfl, ?_, ?_⟩⟩
    · rw [empty_app]; exact big (by omega)
    rw [empty_app]
    refine ⟨_, rfl, ?_, ?_⟩
    · rw [len_app]; exact big (by omega)
    refine ⟨_, rfl, l.2.1, rfl, hs.1, fun H1 S1 => .inl ⟨_, rfl, big (by omega), _, rfl, ?_, ?_⟩⟩
    · rw [len_app, len_app]; exact big (by omega)
    refine ⟨_, rfl, ?_, ?_⟩
    · rw [len_app, len_app, len_app]; exact big (by omega)
    refine ⟨_, rfl, l.2.2, rfl, hs.2, fun H2 S2 => .inl ⟨_, rfl, big (by omega), _, rfl, ?_, ?_⟩⟩
    · rw [len_app, len_app, len_app, len_app]; exact big (by omega)
    exact k _ (S1.trans S2)
theorem ok_number_of (T : Tx K w mg Z) : FnOk P w K mg base CX0 1 Z.a_number_of Z.d_number_of P_number_of (spNumOf) := by
  refine T.F_number_of.ok scnumber_of (fun vs H Q E h => ?_) (fun cdv A outer s H vs Q E hr h => ?_)
  · obtain ⟨n, rfl, _⟩ := h
    rfl
  · obtain ⟨n, rfl, hn, k⟩ := h
    refine ⟨_, (pss_cons (ps_set (i := 1) scnumber_of.nd rfl (Or.inl rfl) (pe_m1 PySem.F.slot_str_removeprefix PySem.F.type_str_removeprefix mt_removeprefix (pv 0) pe_str))
      (C8.pss_cut (ps_if (PW.pt (pw_or (pt_not (pt_chain op_le op_le pe_int (pe_callB call_len_str (by rfl) T.b_len (by decide +kernel) (pa_cons (pv 1) pa_nil)) (pe_glob rfl T.g_MOST_FIGURES T.r_MOST_FIGURES))) (pw_or1 (pt_not (pt_val (pe_callB (allK (K := K) rfl) (by rfl) T.b_all (by decide +kernel) (pa_cons (pe_lc (own := [("sign", 2)]) (g := gName 2) (tt := tYes) rfl scnumber_of.nd (pi_str (pv 1)) (blkOk_by (own := [("sign", 2)]) (N := N_number_of) (sc := defScope snumber_of) (by decide +kernel)) (fun _ _ _ _ _ => (pg_name (i := 2) scnumber_of.nd rfl (Or.inl rfl))) (fun _ _ _ _ _ => pts_nil) (fun _ _ _ _ _ => (pe_cmpR op_in_sign (pv 2) (pe_glob rfl T.g_FIGURES T.r_FIGURES) (by rfl)))) pa_nil))))))) (pss_one (ps_ret pe_non)) pss_nil)
      (pss_cons (ps_set (i := 3) scnumber_of.nd rfl (Or.inl rfl) (pe_callTy call_int_str (by rfl) T.b_int (by decide +kernel) (pa_cons (pv 0) pa_nil)))
      (pss_one (ps_ret (pe_ifExp (pt_cmpR op_eq (pe_callTy call_str_int (by rfl) T.b_str (by decide +kernel) (pa_cons (pv 3) pa_nil)) (pv 0) (nomark _)) (pv 3) pe_non)))))), ?_⟩
    have b2 := numT_len hn
    have b5 := TL.numL_len (n := n.natAbs) (k := 60) (by decide) hn
    have big : ∀ {m : Nat}, m ≤ 1000 → m ≤ sizeLine := fun {m} h => Nat.le_of_lt (small1000 h)
    refine ⟨_, rfl, ⟨_, rfl⟩, _, _, rfl, rfl, big (by omega), ?_⟩
    have hf := numT_rm n
    obtain ⟨f, ef⟩ : ∃ f, f = Txt.removeprefix (numT n) "-" := ⟨_, rfl⟩
    rw [← ef] at hf
    have hfl : f.length = (TL.numL n.natAbs).length := by rw [TL.len_tl, hf]
    have hf1 : 1 ≤ f.length := by
      rw [hfl]
      exact List.length_pos_iff.mpr (TL.numL_ne _)
    refine ⟨fun σ' H' => σ' = [some (.str (numT n)), some (.str f), none, none] ∧ Same H H', ?_, ?_⟩
    · rw [← ef]
      refine ⟨_, rfl, f, rfl, big (by omega), _, _, rfl, rfl, _, rfl, ?_⟩
      rw [decide_eq_true (by omega : (1 : Int) ≤ (f.length : Int))]
      refine iteT ⟨_, _, rfl, rfl, _, rfl, ?_⟩
      rw [decide_eq_true (by omega : (f.length : Int) ≤ 60)]
      refine iteF ⟨_, rfl, f, rfl, fun D hD => ?_⟩
      refine lc_it (walk_str (z := f)) (fun i H' => Same H H' ∧ H' D = some (.lst ((List.replicate i true).map V.bl))) ⟨same_upd hD, upd_same⟩ (fun _ _ _ _ => trivial) ?_ ?_
      · rintro i x H1 H1' hi ⟨S1, gD⟩ ⟨rfl, c, hc, rfl⟩
        have hcm : c ∈ TL.numL n.natAbs := by
          rw [← hf]
          exact Array.mem_toList_iff.mpr (Array.mem_of_getElem? hc)
        have hcd := TL.numL_digits _ c hcm
        have hi2 : i < f.length := hi
        refine ⟨rfl, yes_ite ?_⟩
        refine ⟨_, rfl, c, _, rfl, rfl, ?_⟩
        rw [sign_in hcd]
        refine ⟨_, gD, small1000 (by simp; omega), same_set S1 hD, ?_⟩
        rw [upd_same, List.replicate_succ', List.map_append]; rfl
      rintro H1 ⟨S1, gD⟩
      refine ⟨D, _, rfl, SqL.of gD, ?_⟩
      rw [show (List.replicate f.cps.size true).all id = true by rw [List.all_eq_true]; intro x hx; rw [List.mem_replicate] at hx; rw [hx.2]; rfl]
      exact ⟨_, rfl, iteF ⟨rfl, S1⟩⟩
    rintro σ1 H1 ⟨rfl, S1⟩
    refine ⟨_, rfl, numT n, n, rfl, numT_int hn, by omega, ?_⟩
    refine ⟨_, rfl, n, rfl, log_small hn, _, rfl, rfl, _, rfl, ite2 (fun _ => ⟨_, rfl, k _ S1⟩) (fun c => absurd ?_ c)⟩
    exact decide_eq_true rfl
theorem ok_step_of (T : Tx K w mg Z) : FnOk P w K mg base CX0 2 Z.a_step_of Z.d_step_of P_step_of (spStepOf) := by
  refine T.F_step_of.ok scstep_of (fun vs H Q E h => ?_) (fun cdv A outer s H vs Q E hr h => ?_)
  · obtain ⟨x, y, rfl, _⟩ := h
    rfl
  · obtain ⟨x, y, rfl, hx, hy, k⟩ := h
    refine ⟨_, (pss_cons (ps_setLc (i := 1) (own := [("word", 2)]) (g := gName 2) (tt := tYes) rfl scstep_of.nd rfl rfl (sw_true rfl rfl rfl (by decide +kernel)) (pi_list (pe_m1 PySem.F.slot_str_split PySem.F.type_str_split mt_split (pv 0) pe_str)) (blkOk_by (own := [("word", 2)]) (N := N_step_of) (sc := defScope sstep_of) (by decide +kernel)) (fun _ _ _ _ _ => (pg_name (i := 2) scstep_of.nd rfl (Or.inl rfl))) (fun _ _ _ _ _ => pts_nil) (fun _ _ _ _ _ => (pe_call (ok_number_of T) (hr.mono (by decide)) (by rfl) T.g_number_of T.F_number_of.kp T.bb_number_of .nil pass0 (pa_cons (pv 2) pa_nil))))
      (pss_one (ps_ret (pe_ifExp (PW.pt (pw_or (pt_cmpR op_ne (pe_callB (lenK (K := K)) (by rfl) T.b_len (by decide +kernel) (pa_cons (pv 1) pa_nil)) pe_int (nomark _)) (pw_or1 (pt_cmpR (inS (K := K)) pe_non (pv 1) (by rfl))))) pe_non (pe_callTy call_tuple_of (by rfl) T.b_tuple (by decide +kernel) (pa_cons (pv 1) pa_nil)))))), ?_⟩
    have hl := stepT_len hx hy
    refine ⟨_, rfl, ⟨_, rfl⟩, _, _, rfl, rfl, by decide +kernel, Nat.le_of_lt (small1000 (by omega)), fun p hp => ?_⟩
    rw [step_split]
    have Sp := same_upd (o := HO.lst (([numT x, numT y] : List Str).map V.str)) hp
    have gp : (upd H p (.lst (([numT x, numT y] : List Str).map V.str))) p = some (.lst [V.str (numT x), .str (numT y)]) := upd_same
    generalize upd H p (.lst (([numT x, numT y] : List Str).map V.str)) = H1 at Sp gp ⊢
    refine ⟨p, rfl, ⟨_, SqL.of gp⟩, fun D hD => ?_⟩
    refine lc_list (K := K) (a := p) (xs := [V.str (numT x), .str (numT y)]) (fun i H' => Same H1 H' ∧ H' D = some (.lst (([x, y].take i).map V.int))) ⟨same_upd hD, upd_same⟩ (fun i H' _ ⟨S, _⟩ => SqL.of (S _ _ gp)) ?_ ?_
    · rintro i v H2 hi ⟨S2, gD⟩
      obtain ⟨z, hz, rfl, hzb⟩ : ∃ z : Int, [x, y][i]? = some z ∧ v = .str (numT z) ∧ z.natAbs < 10 ^ 60 := by
        have hi2 : i < 2 := (List.getElem?_eq_some_iff.mp hi).1
        have : i = 0 ∨ i = 1 := by omega
        rcases this with rfl | rfl
        · exact ⟨x, rfl, (Option.some.inj hi).symm, hx⟩
        · exact ⟨y, rfl, (Option.some.inj hi).symm, hy⟩
      refine ⟨rfl, yes_ite ?_⟩
      refine ⟨_, rfl, z, rfl, hzb, fun H3 S3 => ⟨_, S3 _ _ gD, small1000 (by simp; omega), same_set (S2.trans S3) hD, ?_⟩⟩
      rw [take_snoc hz, List.map_append]
      exact upd_same
    rintro H2 ⟨S2, gD⟩
    have gD' : H2 D = some (.lst [V.int x, .int y]) := gD
    refine ⟨_, rfl, D, _, rfl, .inl (SqL.of gD'), rfl, _, rfl, iteF ⟨_, rfl, D, _, rfl, .inl (SqL.of gD'), rfl, rfl, _, rfl, iteF ?_⟩⟩
    refine ⟨_, rfl, D, _, rfl, .inl ⟨SqL.of gD', fun q hq => ?_⟩⟩
    have S3 := Sp.trans S2
    exact k _ q (S3.trans (same_upd hq)) (S3.free hq) upd_same
theorem ok_look_of (T : Tx K w mg Z) : FnOk P w K mg base CX0 3 Z.a_look_of Z.d_look_of P_look_of (spLookOf) := by
  refine T.F_look_of.ok sclook_of (fun vs H Q E h => ?_) (fun cdv A outer s H vs Q E hr h => ?_)
  · obtain ⟨l, rfl, _⟩ := h
    rfl
  · obtain ⟨l, rfl, hw, hs, k⟩ := h
    refine ⟨_, (pss_cons (ps_asg (pe_m1 PySem.F.slot_str_partition PySem.F.type_str_partition mt_partition (pv 0) pe_str) (tupK (K := K) (by rfl) (pgs_cons (pg_name (i := 1) sclook_of.nd rfl (Or.inl rfl)) (pgs_cons (pg_name (i := 2) sclook_of.nd rfl (Or.inl rfl)) (pgs_cons (pg_name (i := 3) sclook_of.nd rfl (Or.inl rfl)) pgs_nil)))))
      (pss_cons (ps_set (i := 4) sclook_of.nd rfl (Or.inl rfl) (pe_call (ok_step_of T) (hr.mono (by decide)) (by rfl) T.g_step_of T.F_step_of.kp T.bb_step_of .nil pass0 (pa_cons (pv 3) pa_nil)))
      (pss_one (ps_ret (pe_ifExp (PW.pt (pw_or (pt_cmpR (notInS (K := K)) (pv 1) (pe_glob (v := .ref Z.a_LW) rfl T.g_LOOK_WORDS rfl) (by rfl)) (pw_or1 (pt_cmpR op_isN (pv 4) pe_non (nomark _))))) pe_non (pe_tup (pa_cons (pv 1) (StX.pa_star (pv 4) pa_nil)))))))), ?_⟩
    have hl := lookT_len hw hs
    refine ⟨_, rfl, ⟨_, rfl⟩, _, _, rfl, rfl, by decide +kernel, Nat.le_of_lt (small1000 (by omega)), fun p hp => ?_⟩
    rw [look_part hw]
    have Sp := same_upd (o := HO.tup [V.str l.1, .str (" " : Str), .str (stepT l.2.1 l.2.2)]) hp
    have gp : (upd H p (.tup [V.str l.1, .str (" " : Str), .str (stepT l.2.1 l.2.2)])) p = some (.tup [V.str l.1, .str (" " : Str), .str (stepT l.2.1 l.2.2)]) := upd_same
    generalize upd H p (.tup [V.str l.1, .str (" " : Str), .str (stepT l.2.1 l.2.2)]) = H1 at Sp gp ⊢
    refine ⟨_, _, rfl, SqT.of gp, rfl, _, _, rfl, _, _, rfl, _, _, rfl, rfl, ?_⟩
    refine ⟨_, rfl, l.2.1, l.2.2, rfl, hs.1, hs.2, fun H2 q S2 hq gq => ?_⟩
    refine ⟨_, rfl, Z.a_LW, _, rfl, .inr (T.q_LW _), rfl, rfl, _, rfl, ?_⟩
    have ew := words_in hw
    rw [ew]
    refine iteF ⟨_, rfl, rfl, _, rfl, iteF ?_⟩
    refine ⟨_, rfl, _, rfl, q, _, rfl, .inl (SqT.of gq), (by show 3 ≤ sizeLine; decide), fun r hr => ?_⟩
    have S3 := Sp.trans S2
    exact k _ r (S3.trans (same_upd hr)) (S3.free hr) upd_same
theorem ok_read_look (T : Tx K w mg Z) : FnOk P w K mg base CX0 4 Z.a_read_look Z.d_read_look P_read_look (spLookOf) := by
  refine T.F_read_look.ok scread_look (fun vs H Q E h => ?_) (fun cdv A outer s H vs Q E hr h => ?_)
  · obtain ⟨l, rfl, _⟩ := h
    rfl
  · obtain ⟨l, rfl, hw, hs, k⟩ := h
    refine ⟨_, (pss_cons (ps_set (i := 1) scread_look.nd rfl (Or.inl rfl) (pe_call (ok_look_of T) (hr.mono (by decide)) (by rfl) T.g_look_of T.F_look_of.kp T.bb_look_of .nil pass0 (pa_cons (pv 0) pa_nil)))
      (C8.pss_cut (ps_if (pt_cmpR op_isN (pv 1) pe_non (nomark _)) (pss_one ps_never) pss_nil)
      (pss_one (ps_ret (pv 1))))), ?_⟩
    refine ⟨_, rfl, l, rfl, hw, hs, fun H1 q S1 hq gq => ?_⟩
    refine ⟨fun σ' H' => σ' = [some (.str (lookT l)), some (.ref q)] ∧ H' = H1, ?_, ?_⟩
    · exact ⟨_, rfl, rfl, _, rfl, iteF ⟨rfl, rfl⟩⟩
    rintro σ1 H2 ⟨rfl, rfl⟩
    exact ⟨_, rfl, k _ q S1 hq gq⟩
end
end KA
namespace KA
open PySem PySem.Spec PyProof.Rows L2 DP
theorem tray_ne {H : Hp} {t g p : Addr} {n : Nat} (T : Tray H t g n) (hp : H p = none) : p ≠ t ∧ p ≠ g := by
  obtain ⟨⟨gs, l, f, c, h1, h2, r⟩, hne⟩ := T
  exact ⟨Ne.symm (ne_of_none h1 hp), Ne.symm (ne_of_none h2 hp)⟩
def spFar : Sp := fun vs H Q _ => ∃ (t g : Addr) (n : Nat), vs = [.ref t] ∧ Tray H t g n ∧ n < 2 ^ 49 ∧ ∀ (H' : Hp) (r : Int), r.natAbs < 10 ^ 60 → Tray H' t g (n + 10) → Keep t g H H' → Q (.int r) H'
section
variable {P : Program} {w : World} {K : PySem.W.Frag} {mg : Str → Option Value} {base : Heap} {Z : Ad}
theorem ok_law_far_number (T : Tx K w mg Z) : FnOk P w K mg base CX0 3 Z.a_law_far_number Z.d_law_far_number P_law_far_number (spFar) := by
  refine T.F_law_far_number.ok sclaw_far_number (fun vs H Q E h => ?_) (fun cdv A outer s H vs Q E hr h => ?_)
  · obtain ⟨t, g, n, rfl, _⟩ := h
    rfl
  · obtain ⟨t, g, n, rfl, hT, hn, k⟩ := h
    have hb : ∀ m, m ≤ n + 10 → m < 2 ^ 50 := fun m hm => Nat.lt_of_le_of_lt hm (Nat.lt_of_lt_of_le (Nat.add_lt_add_right hn 10) (by decide))
    have hb' : ∀ m, m ≤ n + 10 → m < 2 ^ 60 := fun m hm => Nat.lt_trans (hb m hm) (by decide)
    refine ⟨_, (pss_cons (ps_set (i := 1) sclaw_far_number.nd rfl (Or.inl rfl) (pe_call (ok_law_draw T) (hr.mono (by decide)) (by rfl) T.g_law_draw T.F_law_draw.kp T.bb_law_draw .nil pass0 (pa_cons (pv 0) (pa_cons pe_int pa_nil))))
      (C8.pss_cut (ps_if (pt_cmpR op_eq (pv 1) pe_int (nomark _)) (pss_one (ps_ret (pe_op op_mulW (pe_op op_add (pe_op op_mulW (pe_call (ok_law_great T) (hr.mono (by decide)) (by rfl) T.g_law_great T.F_law_great.kp T.bb_law_great .nil pass0 (pa_cons (pv 0) pa_nil)) pe_int) (pe_call (ok_law_draw T) (hr.mono (by decide)) (by rfl) T.g_law_draw T.F_law_draw.kp T.bb_law_draw .nil pass0 (pa_cons (pv 0) (pa_cons pe_int pa_nil)))) (pe_ix (ixL (K := K)) (pe_lst (pa_cons pe_int (pa_cons (pe_un un_neg pe_int) pa_nil))) (pe_call (ok_law_draw T) (hr.mono (by decide)) (by rfl) T.g_law_draw T.F_law_draw.kp T.bb_law_draw .nil pass0 (pa_cons (pv 0) (pa_cons pe_int pa_nil))) (fun _ _ => rfl))))) pss_nil)
      (pss_one (ps_ret (pe_op op_sub (pe_call (ok_law_draw T) (hr.mono (by decide)) (by rfl) T.g_law_draw T.F_law_draw.kp T.bb_law_draw .nil pass0 (pa_cons (pv 0) (pa_cons (pe_ix (ixL (K := K)) (pe_lst (pa_cons pe_int (pa_cons pe_int (pa_cons pe_int pa_nil)))) (pv 1) (fun _ _ => rfl)) pa_nil))) (pe_ix (ixL (K := K)) (pe_lst (pa_cons pe_int (pa_cons pe_int (pa_cons pe_int pa_nil)))) (pv 1) (fun _ _ => rfl))))))), ?_⟩
    refine ⟨_, rfl, t, g, n, 4, rfl, hT, by decide, by decide, hb' _ (by omega), fun H1 lot l0 l1 T1 k1 => ?_⟩
    refine ⟨fun σ' H' => σ' = [some (.ref t), some (.int lot)] ∧ H' = H1 ∧ lot < 3, ?_, ?_⟩
    · refine ⟨_, rfl, rfl, _, rfl, ite2 (fun c => ?_) (fun c => ⟨rfl, rfl, ?_⟩)⟩
      · refine ⟨_, rfl, t, g, n + 1, rfl, T1, hb _ (by omega), fun H2 a a0 a1 T2 k2 => ?_⟩
        have ha : a.natAbs < 2 ^ 200 := Nat.lt_of_le_of_lt (by omega : a.natAbs ≤ 10 ^ 59) (by decide)
        refine ⟨_, _, rfl, rfl, wide_mul ha (b := 10) (by decide) (by decide) (by decide) (by decide), ?_⟩
        refine ⟨_, rfl, t, g, n + 5, 10, rfl, T2.up (by omega), by decide, by decide, hb' _ (by omega), fun H3 b b0 b1 T3 k3 => ⟨_, _, rfl, rfl, ?_⟩⟩
        refine ⟨_, rfl, (by show 2 ≤ sizeLine; decide), fun q hq => ?_⟩
        have Sq := same_upd (o := HO.lst [V.int 1, .int (-1)]) hq
        have T4 := T3.same Sq
        obtain ⟨qt, qg⟩ := tray_ne T3 hq
        have gq : (upd H3 q (.lst [V.int 1, .int (-1)])) q = some (.lst [V.int 1, .int (-1)]) := upd_same
        generalize upd H3 q (.lst [V.int 1, .int (-1)]) = H4 at Sq T4 gq ⊢
        refine ⟨_, rfl, t, g, n + 6, 2, rfl, T4.up (by omega), by decide, by decide, hb' _ (by omega), fun H5 c c0 c1 T5 k5 => ?_⟩
        obtain ⟨s, hs, hs1⟩ : ∃ s : Int, atI [V.int 1, .int (-1)] c = some (.int s) ∧ (s = 1 ∨ s = -1) := by
          have : c = 0 ∨ c = 1 := by omega
          rcases this with e | e <;> subst e
          · exact ⟨1, rfl, .inl rfl⟩
          · exact ⟨-1, rfl, .inr rfl⟩
        have hab : (a * 10 + b).natAbs < 2 ^ 210 := Nat.lt_of_le_of_lt (by omega : (a * 10 + b).natAbs ≤ 10 ^ 60) (by decide)
        have hsb : s.natAbs < 2 ^ 10 := by rcases hs1 with rfl | rfl <;> decide
        refine ⟨q, _, _, _, rfl, rfl, SqL.of (k5 _ _ gq qt qg), hs, _, _, rfl, rfl, wide_mul hab hsb (by decide) (by decide) (by decide), ?_⟩
        refine k _ _ ?_ (T5.up (by omega)) ((((k1.trans k2).trans k3).trans (Keep.of_same Sq)).trans k5)
        rcases hs1 with rfl | rfl <;> omega
      · have : ¬ lot = 3 := fun e => c (by rw [e]; exact decide_eq_true rfl)
        omega
    rintro σ1 H2 ⟨rfl, rfl, hl⟩
    refine ⟨_, rfl, (by show 3 ≤ sizeLine; decide), fun q hq => ?_⟩
    have Sq := same_upd (o := HO.lst [V.int 3, .int 21, .int 20001]) hq
    have T3 := T1.same Sq
    have gq : (upd H2 q (.lst [V.int 3, .int 21, .int 20001])) q = some (.lst [V.int 3, .int 21, .int 20001]) := upd_same
    generalize upd H2 q (.lst [V.int 3, .int 21, .int 20001]) = H3 at Sq T3 gq ⊢
    obtain ⟨m, hm, m0, m1⟩ : ∃ m : Int, atI [V.int 3, .int 21, .int 20001] lot = some (.int m) ∧ 0 < m ∧ m ≤ 20001 := by
      have : lot = 0 ∨ lot = 1 ∨ lot = 2 := by omega
      rcases this with e | e | e <;> subst e
      · exact ⟨3, rfl, by decide, by decide⟩
      · exact ⟨21, rfl, by decide, by decide⟩
      · exact ⟨20001, rfl, by decide, by decide⟩
    obtain ⟨m2, hm2, m20, m21⟩ : ∃ m : Int, atI [V.int 0, .int 10, .int 10000] lot = some (.int m) ∧ 0 ≤ m ∧ m ≤ 10000 := by
      have : lot = 0 ∨ lot = 1 ∨ lot = 2 := by omega
      rcases this with e | e | e <;> subst e
      · exact ⟨0, rfl, by decide, by decide⟩
      · exact ⟨10, rfl, by decide, by decide⟩
      · exact ⟨10000, rfl, by decide, by decide⟩
    refine ⟨_, rfl, q, _, _, _, rfl, rfl, SqL.of gq, hm, ?_⟩
    refine ⟨t, g, n + 1, m, rfl, T3, m0, Nat.lt_of_le_of_lt (by omega : m.natAbs ≤ 20001) (by decide), hb' _ (by omega), fun H4 r r0 r1 T4 k4 => ?_⟩
    refine ⟨(by show 3 ≤ sizeLine; decide), fun q2 hq2 => ?_⟩
    have Sq2 := same_upd (o := HO.lst [V.int 0, .int 10, .int 10000]) hq2
    refine ⟨_, rfl, q2, _, _, _, rfl, rfl, SqL.of upd_same, hm2, _, _, rfl, rfl, ?_⟩
    refine k _ _ ?_ ((T4.same Sq2).up (by omega)) (((k1.trans (Keep.of_same Sq)).trans k4).trans (Keep.of_same Sq2))
    exact Nat.lt_of_le_of_lt (by omega : (r - m2).natAbs ≤ 40000) (by decide)
end
end KA
namespace KA
open PySem PySem.Spec PyProof.Rows L2 DP
def spLaw (K : PySem.W.Frag) : Sp := fun vs H Q _ => ∃ (a : Addr) (ns : List Int), vs = [.ref a] ∧ SqL K H a (ns.map V.int) ∧ ns.length ≤ 63 ∧ ∀ H', Q (.bl true) H'
section
variable {P : Program} {w : World} {K : PySem.W.Frag} {mg : Str → Option Value} {base : Heap} {Z : Ad}
theorem ok_law (T : Tx K w mg Z) : FnOk P w K mg base CX0 6 Z.a_law Z.d_law P_law (spLaw K) := by
  refine T.F_law.ok sclaw (fun vs H Q E h => ?_) (fun cdv A outer s H vs Q E hr h => ?_)
  · obtain ⟨a, ns, rfl, _⟩ := h
    rfl
  · obtain ⟨a, ns, rfl, hS, hlen, k⟩ := h
    refine ⟨_, (pss_cons (ps_set (i := 1) sclaw.nd rfl (Or.inl rfl) (pe_call (ok_law_tray T) (hr.mono (by decide)) (by rfl) T.g_law_tray T.F_law_tray.kp T.bb_law_tray .nil pass0 (pa_cons (pv 0) pa_nil)))
      (pss_cons (ps_for PassesOwn.never rfl (pi_range1 (by rfl) T.b_range (pa_cons (pe_op op_add pe_int (pe_op op_mulW pe_int (pe_callB (lenK (K := K)) (by rfl) T.b_len (by decide +kernel) (pa_cons (pe_slice (slL (K := K)) (pv 0) po_none (po_some pe_int)) pa_nil)))) pa_nil)) (pg_name (i := 2) sclaw.nd rfl (Or.inl rfl)) (pss_cons (ps_set (i := 3) sclaw.nd rfl (Or.inl rfl) (pe_tup (pa_cons (pe_ix (ixL (K := K)) (pe_lst (pa_cons pe_str (pa_cons pe_str (pa_cons pe_str pa_nil)))) (pe_call (ok_law_draw T) (hr.mono (by decide)) (by rfl) T.g_law_draw T.F_law_draw.kp T.bb_law_draw .nil pass0 (pa_cons (pv 1) (pa_cons pe_int pa_nil))) (fun _ _ => rfl)) (pa_cons (pe_call (ok_law_far_number T) (hr.mono (by decide)) (by rfl) T.g_law_far_number T.F_law_far_number.kp T.bb_law_far_number .nil pass0 (pa_cons (pv 1) pa_nil)) (pa_cons (pe_call (ok_law_far_number T) (hr.mono (by decide)) (by rfl) T.g_law_far_number T.F_law_far_number.kp T.bb_law_far_number .nil pass0 (pa_cons (pv 1) pa_nil)) pa_nil)))))
      (pss_cons (ps_set (i := 4) sclaw.nd rfl (Or.inl rfl) (pe_op op_add_str (pe_op op_add_str (pe_op op_add_str (pe_op op_add_str (pe_ix (ixT (K := K)) (pv 3) pe_int (fun _ _ => rfl)) pe_str) (pe_callTy call_str_int (by rfl) T.b_str (by decide +kernel) (pa_cons (pe_ix (ixT (K := K)) (pv 3) pe_int (fun _ _ => rfl)) pa_nil))) pe_str) (pe_callTy call_str_int (by rfl) T.b_str (by decide +kernel) (pa_cons (pe_ix (ixT (K := K)) (pv 3) pe_int (fun _ _ => rfl)) pa_nil))))
      (pss_cons (ps_set (i := 5) sclaw.nd rfl (Or.inl rfl) (pe_lst (pa_cons (pe_call (ok_show_look T) (hr.mono (by decide)) (by rfl) T.g_show_look T.F_show_look.kp T.bb_show_look .nil pass0 (pa_cons (pv 3) pa_nil)) (pa_cons (KW.pe_callN0 (ok_show_look T) (hr.mono (by decide)) (by rfl) T.g_show_look T.F_show_look.kp T.kn_show_look_look pass0 (pk_cons (pv 3) pk_nil)) (pa_cons (pe_call (ok_read_look T) (hr.mono (by decide)) (by rfl) T.g_read_look T.F_read_look.kp T.bb_read_look .nil pass0 (pa_cons (pv 4) pa_nil)) (pa_cons (KW.pe_callN0 (ok_read_look T) (hr.mono (by decide)) (by rfl) T.g_read_look T.F_read_look.kp T.kn_read_look_text pass0 (pk_cons (pv 4) pk_nil)) pa_nil))))))
      (pss_one (ps_if (pt_not (pt_val (pe_call (ok_law_alike T 4) (hr.mono (by decide)) (by rfl) T.g_law_alike T.F_law_alike.kp T.bb_law_alike .nil pass0 (pa_cons (pv 5) (pa_cons (pe_lst (pa_cons (pv 4) (pa_cons (pv 4) (pa_cons (pv 3) (pa_cons (pv 3) pa_nil))))) pa_nil))))) (pss_one (ps_ret pe_bl)) pss_nil))))))
      (pss_one (ps_ret pe_bl)))), ?_⟩
    refine ⟨_, rfl, a, ns, rfl, hS, hlen, fun H0 t g T0 S0 ht hg => ?_⟩
    refine ⟨_, rfl, _, rfl, a, _, rfl, Same.sqL S0 hS, fun q hq => ⟨q, _, rfl, .inl (SqL.of upd_same), ?_⟩⟩
    have hcut : ((cutV (ns.map V.int) none (some 12)).length : Int) ≤ 63 := by
      have e : (cutV (ns.map V.int) none (some (12 : Int))).length ≤ 63 := Nat.le_trans (cutV_length _ _ _) (by rw [List.length_map]; exact hlen)
      exact_mod_cast e
    have hcut0 : (0 : Int) ≤ ((cutV (ns.map V.int) none (some 12)).length : Int) := Int.natCast_nonneg _
    generalize ((cutV (ns.map V.int) none (some 12)).length : Int) = cut at hcut hcut0 ⊢
    have T0' : Tray (upd H0 q (.lst (cutV (ns.map V.int) none (some 12)))) t g 0 := T0.same (same_upd hq)
    generalize upd H0 q (.lst (cutV (ns.map V.int) none (some 12))) = H0' at T0' ⊢
    refine ⟨_, _, rfl, rfl, wide_mul (a := 10) (b := 10) (by decide) (Nat.lt_of_le_of_lt (by omega : cut.natAbs ≤ 63) (by decide)) (by decide) (by decide) (by decide), _, _, rfl, rfl, 6 + 3 * cut, rfl, by omega, by omega, ?_⟩
    refine for_range (n := (6 + 3 * cut).toNat) (fun i σ' H' => ∃ (u2 u3 u4 u5 : Option V), σ' = [some (.ref a), some (.ref t), u2, u3, u4, u5] ∧ Tray H' t g (50 * i)) ⟨_, _, _, _, rfl, T0'⟩ ?_ ?_
    rotate_left
    · rintro σ' H' ⟨_, _, _, _, rfl, _⟩
      exact k H'
    rintro i σ' H1 hi ⟨u2, u3, u4, u5, rfl, T1⟩
    have hi13 : i < 300 := by omega
    have hn : ∀ m, m ≤ 50 * i + 50 → m < 2 ^ 49 := fun m hm => Nat.lt_of_le_of_lt (by omega : m ≤ 1000000) (by decide)
    have hn6 : ∀ m, m ≤ 50 * i + 50 → m < 2 ^ 60 := fun m hm => Nat.lt_trans (hn m hm) (by decide)
    -- one
    refine ⟨(by show 3 ≤ sizeLine; decide), fun q hq => ?_⟩
    have Sq := same_upd (o := HO.lst [V.str "at", .str "from", .str "upto"]) hq
    obtain ⟨qt, qg⟩ := tray_ne T1 hq
    have T2 := T1.same Sq
    have gq : (upd H1 q (.lst [V.str "at", .str "from", .str "upto"])) q = some (.lst [V.str "at", .str "from", .str "upto"]) := upd_same
    generalize upd H1 q (.lst [V.str "at", .str "from", .str "upto"]) = H2 at T2 gq ⊢
    refine ⟨_, rfl, t, g, 50 * i, 3, rfl, T2, by decide, by decide, hn6 _ (by omega), fun H3 c c0 c1 T3 k3 => ?_⟩
    obtain ⟨wd, hwd, hwk⟩ : ∃ wd : Str, atI [V.str "at", .str "from", .str "upto"] c = some (.str wd) ∧ WordOk wd := by
      have : c = 0 ∨ c = 1 ∨ c = 2 := by omega
      rcases this with e | e | e <;> subst e
      · exact ⟨"at", rfl, .inl rfl⟩
      · exact ⟨"from", rfl, .inr (.inl rfl)⟩
      · exact ⟨"upto", rfl, .inr (.inr rfl)⟩
    refine ⟨q, _, _, _, rfl, rfl, SqL.of (k3 _ _ gq qt qg), hwd, ?_⟩
    refine ⟨_, rfl, t, g, 50 * i + 1, rfl, T3, hn _ (by omega), fun H4 x hx T4 k4 => ?_⟩
    refine ⟨_, rfl, t, g, 50 * i + 1 + 10, rfl, T4, hn _ (by omega), fun H5 y hy T5 k5 => ?_⟩
    refine ⟨(by show 3 ≤ sizeLine; decide), fun p hp => ?_⟩
    have Tp := T5.same (same_upd (o := HO.tup [V.str wd, .int x, .int y]) hp)
    have gp : (upd H5 p (.tup [V.str wd, .int x, .int y])) p = some (.tup [V.str wd, .int x, .int y]) := upd_same
    generalize upd H5 p (.tup [V.str wd, .int x, .int y]) = H6 at Tp gp ⊢
    obtain ⟨l, el⟩ : ∃ l : Lk, l = (wd, x, y) := ⟨_, rfl⟩
    have hw : WordOk l.1 := by rw [el]; exact hwk
    have hs : Small l := by rw [el]; exact ⟨hx, hy⟩
    have gp' : SqT K H6 p [.str l.1, .int l.2.1, .int l.2.2] := by rw [el]; exact SqT.of gp
    -- due
    have b1 := word_len hwk
    have b2 := numT_len hx
    have b3 := numT_len hy
    have b4 := blank_len
    have big : ∀ {m : Nat}, m ≤ 1000 → m ≤ sizeLine := fun {m} h => Nat.le_of_lt (small1000 h)
    refine ⟨_, rfl, p, _, _, _, rfl, rfl, SqT.of gp, rfl, _, _, rfl, rfl, big (by omega), ?_⟩
    refine ⟨_, rfl, p, _, _, _, rfl, rfl, SqT.of gp, rfl, x, rfl, log_small hx, _, _, rfl, rfl, ?_, ?_⟩
    · show (wd ++ (" " : Str)).length + (numT x).length ≤ sizeLine
      rw [len_app]; exact big (by omega)
    refine ⟨_, _, rfl, rfl, ?_, ?_⟩
    · show (wd ++ (" " : Str) ++ numT x).length + (" " : Str).length ≤ sizeLine
      rw [len_app, len_app]; exact big (by omega)
    refine ⟨_, rfl, p, _, _, _, rfl, rfl, SqT.of gp, rfl, y, rfl, log_small hy, _, _, rfl, rfl, ?_, ?_⟩
    · show (wd ++ (" " : Str) ++ numT x ++ (" " : Str)).length + (numT y).length ≤ sizeLine
      rw [len_app, len_app, len_app]; exact big (by omega)
    have edue : wd ++ (" " : Str) ++ numT x ++ (" " : Str) ++ numT y = lookT l := by rw [el]; rfl
    -- told
    refine ⟨_, rfl, p, l, rfl, gp', hw, hs, fun H7 S7 => ?_⟩
    refine ⟨_, rfl, rfl, p, l, rfl, Same.sqT S7 gp', hw, hs, fun H8 S8 => ?_⟩
    refine ⟨_, rfl, l, by rw [← edue]; rfl, hw, hs, fun H9 q9 S9 _ g9 => ?_⟩
    refine ⟨_, rfl, rfl, l, by rw [← edue]; rfl, hw, hs, fun H10 q10 S10 _ g10 => ?_⟩
    refine ⟨(by show 4 ≤ sizeLine; decide), fun tp htp => ?_⟩
    have S610 := ((S7.trans S8).trans S9).trans S10
    have St := same_upd (o := HO.lst [V.str (lookT l), .str (lookT l), .ref q9, .ref q10]) htp
    have gt : (upd H10 tp (.lst [V.str (lookT l), .str (lookT l), .ref q9, .ref q10])) tp = some (.lst [V.str (lookT l), .str (lookT l), .ref q9, .ref q10]) := upd_same
    have g9' := St _ _ (S10 _ _ g9)
    have g10' := St _ _ g10
    have gp11 := Same.sqT (S610.trans St) gp'
    have T11 := Tp.same (S610.trans St)
    generalize upd H10 tp (.lst [V.str (lookT l), .str (lookT l), .ref q9, .ref q10]) = H11 at gt g9' g10' gp11 T11 ⊢
    refine ⟨_, rfl, _, rfl, _, rfl, _, rfl, _, rfl, (by show 4 ≤ sizeLine; decide), fun up hup => ?_⟩
    have Su := same_upd (o := HO.lst [V.str (lookT l), .str (lookT l), .ref p, .ref p]) hup
    have dl : ∀ {H : Hp} {q : Addr}, SqT K H q [.str l.1, .int l.2.1, .int l.2.2] → Dp K H (.ref q) (encL l) := fun {H q} h => .tup h (.cons (.str _) (.cons (.int _) (.cons (.int _) .nil)))
    have gu : (upd H11 up (.lst [V.str (wd ++ (" " : Str) ++ numT x ++ (" " : Str) ++ numT y), .str (wd ++ (" " : Str) ++ numT x ++ (" " : Str) ++ numT y), .ref p, .ref p])) up = some (.lst [V.str (lookT l), .str (lookT l), .ref p, .ref p]) := by rw [upd_same, edue]
    have Su2 := same_upd (o := HO.lst [V.str (wd ++ (" " : Str) ++ numT x ++ (" " : Str) ++ numT y), .str (wd ++ (" " : Str) ++ numT x ++ (" " : Str) ++ numT y), .ref p, .ref p]) hup
    refine ⟨.ref tp, .ref up, .list [.str (lookT l), .str (lookT l), encL l, encL l], rfl, .lst (SqL.of (Su2 _ _ gt)) (.cons (.str _) (.cons (.str _) (.cons (dl (SqT.of (Su2 _ _ g9'))) (.cons (dl (SqT.of (Su2 _ _ g10'))) .nil)))), .lst (SqL.of gu) (.cons (.str _) (.cons (.str _) (.cons (dl (Same.sqT Su2 gp11)) (.cons (dl (Same.sqT Su2 gp11)) .nil)))), rfl, by simp [PyData.depth, PyData.depthAll, encL], _, rfl, iteF ⟨_, _, _, _, rfl, (T11.same Su2).up (by omega)⟩⟩
end
end KA
namespace KA
open PySem PySem.Spec PyProof.Rows L2 DP
theorem g11_of {α : Type} : ∀ {us ws : List α}, (g11 us ws).length = 2 → ∃ a b, us = [a] ∧ ws = [b]
  | [a], [b], _ => ⟨a, b, rfl, rfl⟩
  | [], _, h => nomatch (show (0 : Nat) = 2 from h)
  | [_], [], h => nomatch (show (0 : Nat) = 2 from h)
  | [_], _ :: _ :: _, h => nomatch (show (0 : Nat) = 2 from h)
  | _ :: _ :: _, _, h => nomatch (show (0 : Nat) = 2 from h)
theorem sqt2 {K : PySem.W.Frag} {H : Hp} {t : Addr} {x y : Str} {o : Option Addr} {u v : Tok} {n : Nat} {s : Array (Option Value)} (l : K.lookup t = some ⟨.type "tuple", o, .seq #[.str x u, .str y v] n, s⟩) : SqT K H t [.str x, .str y] :=
  .inr ⟨_, _, n, l, rfl, rfl, (by show 2 ≤ sizeLine; decide), .cons ⟨u, rfl⟩ (.cons ⟨v, rfl⟩ .nil)⟩
theorem sqt3 {K : PySem.W.Frag} {H : Hp} {t : Addr} {x y z : Str} {o : Option Addr} {u v q : Tok} {n : Nat} {s : Array (Option Value)} (l : K.lookup t = some ⟨.type "tuple", o, .seq #[.str x u, .str y v, .str z q] n, s⟩) : SqT K H t [.str x, .str y, .str z] :=
  .inr ⟨_, _, n, l, rfl, rfl, (by show 3 ≤ sizeLine; decide), .cons ⟨u, rfl⟩ (.cons ⟨v, rfl⟩ (.cons ⟨q, rfl⟩ .nil))⟩
theorem all_mk {l : PySem.W.OpenLaw} {w : World} {K : PySem.W.Frag} {h : Heap} {mg : Str → Option Value} {fa : Addr} (X : K.In h) (G : h.Ns mainGlobals mg) (hfa : mg "law" = some (.ref fa))
    {f0 : Addr} {od0 an0 : Option Addr} {sl0 : Array (Option Value)} {oc0 kV0 dc0 pm0 cd0 ct0 : Value}
    {f1 : Addr} {od1 an1 : Option Addr} {sl1 : Array (Option Value)} {oc1 kV1 dc1 pm1 cd1 ct1 : Value}
    {f2 : Addr} {od2 an2 : Option Addr} {sl2 : Array (Option Value)} {oc2 kV2 dc2 pm2 cd2 ct2 : Value}
    {f3 : Addr} {od3 an3 : Option Addr} {sl3 : Array (Option Value)} {oc3 kV3 dc3 pm3 cd3 ct3 : Value}
    {f4 : Addr} {od4 an4 : Option Addr} {sl4 : Array (Option Value)} {oc4 kV4 dc4 pm4 cd4 ct4 : Value}
    {f5 : Addr} {od5 an5 : Option Addr} {sl5 : Array (Option Value)} {oc5 kV5 dc5 pm5 cd5 ct5 : Value}
    {f6 : Addr} {od6 an6 : Option Addr} {sl6 : Array (Option Value)} {oc6 kV6 dc6 pm6 cd6 ct6 : Value}
    {f7 : Addr} {od7 an7 : Option Addr} {sl7 : Array (Option Value)} {oc7 kV7 dc7 pm7 cd7 ct7 : Value}
    {f8 : Addr} {od8 an8 : Option Addr} {sl8 : Array (Option Value)} {oc8 kV8 dc8 pm8 cd8 ct8 : Value}
    {f9 : Addr} {od9 an9 : Option Addr} {sl9 : Array (Option Value)} {oc9 kV9 dc9 pm9 cd9 ct9 : Value}
    {f10 : Addr} {od10 an10 : Option Addr} {sl10 : Array (Option Value)} {oc10 kV10 dc10 pm10 cd10 ct10 : Value}
    {f11 : Addr} {od11 an11 : Option Addr} {sl11 : Array (Option Value)} {oc11 kV11 dc11 pm11 cd11 ct11 : Value}
    {tcFIGURES : Tok}
    {tcMOST_FIGURES : Tok}
    {aL : Addr} {n3 : Nat} {o3 : Option Addr} {s3 : Array (Option Value)} {u5 u6 u7 : Tok}
    (a0 : PySem.W.nsIn K mainGlobals "_law_tray" = some (some (.ref f0)))
    (l0 : K.lookup f0 = some ⟨oc0, od0, .func (PySem.W.fnOf "_law_tray" "_law_tray" (defArgs slaw_tray) (defBody slaw_tray) (defScope slaw_tray) .none kV0 dc0 pm0 an0 cd0 ct0), sl0⟩)
    (c0 : PySem.W.codeIn K cd0 "_law_tray" = true)
    (k0 : PySem.W.keepIn K (.ref f0) = true)
    (a1 : PySem.W.nsIn K mainGlobals "_law_draw" = some (some (.ref f1)))
    (l1 : K.lookup f1 = some ⟨oc1, od1, .func (PySem.W.fnOf "_law_draw" "_law_draw" (defArgs slaw_draw) (defBody slaw_draw) (defScope slaw_draw) .none kV1 dc1 pm1 an1 cd1 ct1), sl1⟩)
    (c1 : PySem.W.codeIn K cd1 "_law_draw" = true)
    (k1 : PySem.W.keepIn K (.ref f1) = true)
    (a2 : PySem.W.nsIn K mainGlobals "_law_great" = some (some (.ref f2)))
    (l2 : K.lookup f2 = some ⟨oc2, od2, .func (PySem.W.fnOf "_law_great" "_law_great" (defArgs slaw_great) (defBody slaw_great) (defScope slaw_great) .none kV2 dc2 pm2 an2 cd2 ct2), sl2⟩)
    (c2 : PySem.W.codeIn K cd2 "_law_great" = true)
    (k2 : PySem.W.keepIn K (.ref f2) = true)
    (a3 : PySem.W.nsIn K mainGlobals "_law_alike" = some (some (.ref f3)))
    (l3 : K.lookup f3 = some ⟨oc3, od3, .func (PySem.W.fnOf "_law_alike" "_law_alike" (defArgs slaw_alike) (defBody slaw_alike) (defScope slaw_alike) .none kV3 dc3 pm3 an3 cd3 ct3), sl3⟩)
    (c3 : PySem.W.codeIn K cd3 "_law_alike" = true)
    (k3 : PySem.W.keepIn K (.ref f3) = true)
    (a4 : PySem.W.nsIn K mainGlobals "_law_far_number" = some (some (.ref f4)))
    (l4 : K.lookup f4 = some ⟨oc4, od4, .func (PySem.W.fnOf "_law_far_number" "_law_far_number" (defArgs slaw_far_number) (defBody slaw_far_number) (defScope slaw_far_number) .none kV4 dc4 pm4 an4 cd4 ct4), sl4⟩)
    (c4 : PySem.W.codeIn K cd4 "_law_far_number" = true)
    (k4 : PySem.W.keepIn K (.ref f4) = true)
    (a5 : PySem.W.nsIn K mainGlobals "figures" = some (some (.ref f5)))
    (l5 : K.lookup f5 = some ⟨oc5, od5, .func (PySem.W.fnOf "figures" "figures" (defArgs sfigures) (defBody sfigures) (defScope sfigures) .none kV5 dc5 pm5 an5 cd5 ct5), sl5⟩)
    (c5 : PySem.W.codeIn K cd5 "figures" = true)
    (k5 : PySem.W.keepIn K (.ref f5) = true)
    (a6 : PySem.W.nsIn K mainGlobals "show_look" = some (some (.ref f6)))
    (l6 : K.lookup f6 = some ⟨oc6, od6, .func (PySem.W.fnOf "show_look" "show_look" (defArgs sshow_look) (defBody sshow_look) (defScope sshow_look) .none kV6 dc6 pm6 an6 cd6 ct6), sl6⟩)
    (c6 : PySem.W.codeIn K cd6 "show_look" = true)
    (k6 : PySem.W.keepIn K (.ref f6) = true)
    (a7 : PySem.W.nsIn K mainGlobals "number_of" = some (some (.ref f7)))
    (l7 : K.lookup f7 = some ⟨oc7, od7, .func (PySem.W.fnOf "number_of" "number_of" (defArgs snumber_of) (defBody snumber_of) (defScope snumber_of) .none kV7 dc7 pm7 an7 cd7 ct7), sl7⟩)
    (c7 : PySem.W.codeIn K cd7 "number_of" = true)
    (k7 : PySem.W.keepIn K (.ref f7) = true)
    (a8 : PySem.W.nsIn K mainGlobals "step_of" = some (some (.ref f8)))
    (l8 : K.lookup f8 = some ⟨oc8, od8, .func (PySem.W.fnOf "step_of" "step_of" (defArgs sstep_of) (defBody sstep_of) (defScope sstep_of) .none kV8 dc8 pm8 an8 cd8 ct8), sl8⟩)
    (c8 : PySem.W.codeIn K cd8 "step_of" = true)
    (k8 : PySem.W.keepIn K (.ref f8) = true)
    (a9 : PySem.W.nsIn K mainGlobals "look_of" = some (some (.ref f9)))
    (l9 : K.lookup f9 = some ⟨oc9, od9, .func (PySem.W.fnOf "look_of" "look_of" (defArgs slook_of) (defBody slook_of) (defScope slook_of) .none kV9 dc9 pm9 an9 cd9 ct9), sl9⟩)
    (c9 : PySem.W.codeIn K cd9 "look_of" = true)
    (k9 : PySem.W.keepIn K (.ref f9) = true)
    (a10 : PySem.W.nsIn K mainGlobals "read_look" = some (some (.ref f10)))
    (l10 : K.lookup f10 = some ⟨oc10, od10, .func (PySem.W.fnOf "read_look" "read_look" (defArgs sread_look) (defBody sread_look) (defScope sread_look) .none kV10 dc10 pm10 an10 cd10 ct10), sl10⟩)
    (c10 : PySem.W.codeIn K cd10 "read_look" = true)
    (k10 : PySem.W.keepIn K (.ref f10) = true)
    (a11 : PySem.W.nsIn K mainGlobals "law" = some (some (.ref f11)))
    (l11 : K.lookup f11 = some ⟨oc11, od11, .func (PySem.W.fnOf "law" "law" (defArgs slaw) (defBody slaw) (defScope slaw) .none kV11 dc11 pm11 an11 cd11 ct11), sl11⟩)
    (c11 : PySem.W.codeIn K cd11 "law" = true)
    (k11 : PySem.W.keepIn K (.ref f11) = true)
    (b_max : PySem.W.nsIn K mainGlobals "max" = some none)
    (b_len : PySem.W.nsIn K mainGlobals "len" = some none)
    (b_range : PySem.W.nsIn K mainGlobals "range" = some none)
    (b_isinstance : PySem.W.nsIn K mainGlobals "isinstance" = some none)
    (b_list : PySem.W.nsIn K mainGlobals "list" = some none)
    (b_tuple : PySem.W.nsIn K mainGlobals "tuple" = some none)
    (b_bool : PySem.W.nsIn K mainGlobals "bool" = some none)
    (b_int : PySem.W.nsIn K mainGlobals "int" = some none)
    (b_str : PySem.W.nsIn K mainGlobals "str" = some none)
    (b_all : PySem.W.nsIn K mainGlobals "all" = some none)
    (b_reversed : PySem.W.nsIn K mainGlobals "reversed" = some none)
    (gcFIGURES : PySem.W.nsIn K mainGlobals "FIGURES" = some (some (.str "0123456789" tcFIGURES)))
    (gcMOST_FIGURES : PySem.W.nsIn K mainGlobals "MOST_FIGURES" = some (some (.int (60) tcMOST_FIGURES)))
    (gL : PySem.W.nsIn K mainGlobals "LOOK_WORDS" = some (some (.ref aL)))
    (lL : K.lookup aL = some ⟨.type "tuple", o3, .seq #[.str "at" u5, .str "from" u6, .str "upto" u7] n3, s3⟩) :
    ∃ fd : FuncData, (∀ (s : Shared) (v : Value), BindsTo s fd ⟨[v], []⟩ [("script", v)]) ∧ ∀ base : Heap, K.In base → base.Ns mainGlobals mg → FnOk l.prog w K mg base CX0 6 fa fd ["script"] (spLaw K) := by
  have e := hfa.symm.trans (PySem.W.mg_of X G a11)
  cases e
  have F0 := fun_mk (st := slaw_tray) l0 c0 k0
  have F1 := fun_mk (st := slaw_draw) l1 c1 k1
  have F2 := fun_mk (st := slaw_great) l2 c2 k2
  have F3 := fun_mk (st := slaw_alike) l3 c3 k3
  have F4 := fun_mk (st := slaw_far_number) l4 c4 k4
  have F5 := fun_mk (st := sfigures) l5 c5 k5
  have F6 := fun_mk (st := sshow_look) l6 c6 k6
  have F7 := fun_mk (st := snumber_of) l7 c7 k7
  have F8 := fun_mk (st := sstep_of) l8 c8 k8
  have F9 := fun_mk (st := slook_of) l9 c9 k9
  have F10 := fun_mk (st := sread_look) l10 c10 k10
  have F11 := fun_mk (st := slaw) l11 c11 k11
  let Z : Ad := {
    a_law_tray := f0,
    d_law_tray := PySem.W.fnOf "_law_tray" "_law_tray" (defArgs slaw_tray) (defBody slaw_tray) (defScope slaw_tray) .none kV0 dc0 pm0 an0 cd0 ct0,
    a_law_draw := f1,
    d_law_draw := PySem.W.fnOf "_law_draw" "_law_draw" (defArgs slaw_draw) (defBody slaw_draw) (defScope slaw_draw) .none kV1 dc1 pm1 an1 cd1 ct1,
    a_law_great := f2,
    d_law_great := PySem.W.fnOf "_law_great" "_law_great" (defArgs slaw_great) (defBody slaw_great) (defScope slaw_great) .none kV2 dc2 pm2 an2 cd2 ct2,
    a_law_alike := f3,
    d_law_alike := PySem.W.fnOf "_law_alike" "_law_alike" (defArgs slaw_alike) (defBody slaw_alike) (defScope slaw_alike) .none kV3 dc3 pm3 an3 cd3 ct3,
    a_law_far_number := f4,
    d_law_far_number := PySem.W.fnOf "_law_far_number" "_law_far_number" (defArgs slaw_far_number) (defBody slaw_far_number) (defScope slaw_far_number) .none kV4 dc4 pm4 an4 cd4 ct4,
    a_figures := f5,
    d_figures := PySem.W.fnOf "figures" "figures" (defArgs sfigures) (defBody sfigures) (defScope sfigures) .none kV5 dc5 pm5 an5 cd5 ct5,
    a_show_look := f6,
    d_show_look := PySem.W.fnOf "show_look" "show_look" (defArgs sshow_look) (defBody sshow_look) (defScope sshow_look) .none kV6 dc6 pm6 an6 cd6 ct6,
    a_number_of := f7,
    d_number_of := PySem.W.fnOf "number_of" "number_of" (defArgs snumber_of) (defBody snumber_of) (defScope snumber_of) .none kV7 dc7 pm7 an7 cd7 ct7,
    a_step_of := f8,
    d_step_of := PySem.W.fnOf "step_of" "step_of" (defArgs sstep_of) (defBody sstep_of) (defScope sstep_of) .none kV8 dc8 pm8 an8 cd8 ct8,
    a_look_of := f9,
    d_look_of := PySem.W.fnOf "look_of" "look_of" (defArgs slook_of) (defBody slook_of) (defScope slook_of) .none kV9 dc9 pm9 an9 cd9 ct9,
    a_read_look := f10,
    d_read_look := PySem.W.fnOf "read_look" "read_look" (defArgs sread_look) (defBody sread_look) (defScope sread_look) .none kV10 dc10 pm10 an10 cd10 ct10,
    a_law := fa,
    d_law := PySem.W.fnOf "law" "law" (defArgs slaw) (defBody slaw) (defScope slaw) .none kV11 dc11 pm11 an11 cd11 ct11,
    v_FIGURES := .str "0123456789" tcFIGURES,
    v_MOST_FIGURES := .int (60) tcMOST_FIGURES,
    a_LW := aL }
  have T : Tx K w mg Z := {
    F_law_tray := F0,
    bb_law_tray := F0.binds (ps := P_law_tray) fun _ _ _ _ _ _ us hl => match us, hl with | [_], _ => rfl,
    g_law_tray := PySem.W.mg_of X G a0,
    F_law_draw := F1,
    bb_law_draw := F1.binds (ps := P_law_draw) fun _ _ _ _ _ _ us hl => match us, hl with | [_, _], _ => rfl,
    g_law_draw := PySem.W.mg_of X G a1,
    F_law_great := F2,
    bb_law_great := F2.binds (ps := P_law_great) fun _ _ _ _ _ _ us hl => match us, hl with | [_], _ => rfl,
    g_law_great := PySem.W.mg_of X G a2,
    F_law_alike := F3,
    bb_law_alike := F3.binds (ps := P_law_alike) fun _ _ _ _ _ _ us hl => match us, hl with | [_, _], _ => rfl,
    g_law_alike := PySem.W.mg_of X G a3,
    F_law_far_number := F4,
    bb_law_far_number := F4.binds (ps := P_law_far_number) fun _ _ _ _ _ _ us hl => match us, hl with | [_], _ => rfl,
    g_law_far_number := PySem.W.mg_of X G a4,
    F_figures := F5,
    bb_figures := F5.binds (ps := P_figures) fun _ _ _ _ _ _ us hl => match us, hl with | [_], _ => rfl,
    g_figures := PySem.W.mg_of X G a5,
    F_show_look := F6,
    bb_show_look := F6.binds (ps := P_show_look) fun _ _ _ _ _ _ us hl => match us, hl with | [_], _ => rfl,
    kn_show_look_look := KW.kbn0 [0] fun us ws h1 h2 => match us, ws, h1, h2 with | [], [_], _, _ => rfl,
    g_show_look := PySem.W.mg_of X G a6,
    F_number_of := F7,
    bb_number_of := F7.binds (ps := P_number_of) fun _ _ _ _ _ _ us hl => match us, hl with | [_], _ => rfl,
    g_number_of := PySem.W.mg_of X G a7,
    F_step_of := F8,
    bb_step_of := F8.binds (ps := P_step_of) fun _ _ _ _ _ _ us hl => match us, hl with | [_], _ => rfl,
    g_step_of := PySem.W.mg_of X G a8,
    F_look_of := F9,
    bb_look_of := F9.binds (ps := P_look_of) fun _ _ _ _ _ _ us hl => match us, hl with | [_], _ => rfl,
    g_look_of := PySem.W.mg_of X G a9,
    F_read_look := F10,
    bb_read_look := F10.binds (ps := P_read_look) fun _ _ _ _ _ _ us hl => match us, hl with | [_], _ => rfl,
    kn_read_look_text := KW.kbn0 [0] fun us ws h1 h2 => match us, ws, h1, h2 with | [], [_], _, _ => rfl,
    g_read_look := PySem.W.mg_of X G a10,
    F_law := F11,
    bb_law := F11.binds (ps := P_law) fun _ _ _ _ _ _ us hl => match us, hl with | [_], _ => rfl,
    g_law := PySem.W.mg_of X G a11,
    b_max := PySem.W.mg_none_of X G b_max,
    b_len := PySem.W.mg_none_of X G b_len,
    b_range := PySem.W.mg_none_of X G b_range,
    b_isinstance := PySem.W.mg_none_of X G b_isinstance,
    b_list := PySem.W.mg_none_of X G b_list,
    b_tuple := PySem.W.mg_none_of X G b_tuple,
    b_bool := PySem.W.mg_none_of X G b_bool,
    b_int := PySem.W.mg_none_of X G b_int,
    b_str := PySem.W.mg_none_of X G b_str,
    b_all := PySem.W.mg_none_of X G b_all,
    b_reversed := PySem.W.mg_none_of X G b_reversed,
    g_FIGURES := PySem.W.mg_of X G gcFIGURES,
    r_FIGURES := ⟨tcFIGURES, rfl⟩,
    g_MOST_FIGURES := PySem.W.mg_of X G gcMOST_FIGURES,
    r_MOST_FIGURES := ⟨tcMOST_FIGURES, rfl⟩,
    g_LOOK_WORDS := PySem.W.mg_of X G gL,
    q_LW := fun _ => sqt3 lL }
  exact ⟨PySem.W.fnOf "law" "law" (defArgs slaw) (defBody slaw) (defScope slaw) .none kV11 dc11 pm11 an11 cd11 ct11, fun s v => .of_eq rfl, fun base _ _ => ok_law T⟩
theorem walk {l : PySem.W.OpenLaw} {q : Program} {loose : List Str} {XP : (Str → Option Value) → Heap → Prop} {YP : World → Heap → Prop} {d : DefRec} {K : Params → PySem.W.Frag} (hn : l.most = some 63) (hdf : d.params.defaults = [])
    (hY : ∀ (w : World) (h : Heap), YP w h → (K w.params).In h)
    (F : ∀ (w : World) (mg : Str → Option Value) (fa : Addr) (h : Heap), (K w.params).In h → h.Ns mainGlobals mg → mg d.name = some (.ref fa) →
      ∃ fd : FuncData, (∀ (s : Shared) (u : Value), BindsTo s fd ⟨[u], []⟩ [("script", u)]) ∧ ∀ base : Heap, (K w.params).In base → base.Ns mainGlobals mg → FnOk l.prog w (K w.params) mg base CX0 6 fa fd ["script"] (spLaw (K w.params))) :
    PySem.W.WalkO q loose XP YP l.row.toRowW d [] (fun f vs => PySem.call f vs) :=
  L2.walk_of (n := 63) (k := 6) (x := "script") (CX := fun _ => CX0) (sp := fun w => spLaw (K w.params)) hn (by decide) hdf ⟨rfl, by decide, by decide⟩ hY F (fun _ _ a ns hl _ hS => ⟨a, ns, rfl, hS, hl, fun _ => rfl⟩) fun _ _ _ _ _ z => z
end KA
open PySem PySem.W PyProof.Rows
set_option maxRecDepth 100000 in
set_option maxHeartbeats 0 in
theorem PySem.Challenge.cw_darkpace_k50_looks_written_holds : PySem.Challenge.rw_darkpace_k50_looks_written.Holds := by
  w_on; o_law; k_head; (case hw => w_witness2)
  k_fill
  refine KA.walk (l := PySem.Challenge.rw_darkpace_k50_looks_written) rfl rfl (fun w h Y => PySem.W.kIn_of Y) ?F
  case F =>
    intro w mg fa h KX G hmg
    refine' KA.all_mk KX G hmg ?a0 ?l0 ?c0 ?k0 ?a1 ?l1 ?c1 ?k1 ?a2 ?l2 ?c2 ?k2 ?a3 ?l3 ?c3 ?k3 ?a4 ?l4 ?c4 ?k4 ?a5 ?l5 ?c5 ?k5 ?a6 ?l6 ?c6 ?k6 ?a7 ?l7 ?c7 ?k7 ?a8 ?l8 ?c8 ?k8 ?a9 ?l9 ?c9 ?k9 ?a10 ?l10 ?c10 ?k10 ?a11 ?l11 ?c11 ?k11 ?b_max ?b_len ?b_range ?b_isinstance ?b_list ?b_tuple ?b_bool ?b_int ?b_str ?b_all ?b_reversed ?gcFIGURES ?gcMOST_FIGURES ?gL ?lL
    (case a0 => k_is)
    (case l0 => k_is)
    (case c0 => k_is)
    (case k0 => k_is)
    (case a1 => k_is)
    (case l1 => k_is)
    (case c1 => k_is)
    (case k1 => k_is)
    (case a2 => k_is)
    (case l2 => k_is)
    (case c2 => k_is)
    (case k2 => k_is)
    (case a3 => k_is)
    (case l3 => k_is)
    (case c3 => k_is)
    (case k3 => k_is)
    (case a4 => k_is)
    (case l4 => k_is)
    (case c4 => k_is)
    (case k4 => k_is)
    (case a5 => k_is)
    (case l5 => k_is)
    (case c5 => k_is)
    (case k5 => k_is)
    (case a6 => k_is)
    (case l6 => k_is)
    (case c6 => k_is)
    (case k6 => k_is)
    (case a7 => k_is)
    (case l7 => k_is)
    (case c7 => k_is)
    (case k7 => k_is)
    (case a8 => k_is)
    (case l8 => k_is)
    (case c8 => k_is)
    (case k8 => k_is)
    (case a9 => k_is)
    (case l9 => k_is)
    (case c9 => k_is)
    (case k9 => k_is)
    (case a10 => k_is)
    (case l10 => k_is)
    (case c10 => k_is)
    (case k10 => k_is)
    (case a11 => k_is)
    (case l11 => k_is)
    (case c11 => k_is)
    (case k11 => k_is)
    (case b_max => k_is)
    (case b_len => k_is)
    (case b_range => k_is)
    (case b_isinstance => k_is)
    (case b_list => k_is)
    (case b_tuple => k_is)
    (case b_bool => k_is)
    (case b_int => k_is)
    (case b_str => k_is)
    (case b_all => k_is)
    (case b_reversed => k_is)
    (case gcFIGURES => k_is)
    (case gcMOST_FIGURES => k_is)
    (case gL => k_is)
    (case lL => k_is)
