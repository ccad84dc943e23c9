import PyProof.Rows.All
import Wide.All
import OpenK.AllK
import Wide.FinOn
import HandS.ForMost
import HandS.Wide
import HandS.Deep
import HandS.IsInst
import HandS.Strs
import HandS.Codes
import HandS.Gcd
import KE.SortData
import KE.DataMinMax
import HandS.SetFor
import HandS.TupSets
import HandS.SetKeys
import HandS.OwnEq
import HandS.Defaults
import HandS.MakeKwOnly
import HandS.Rev
import HandS.MapJoin
import PyProof.JoinWalk
import HandS.Text
import HandS.StrMore
import HandS.FStr
import HandS.Star
import HandS.Walk
import PySem.Challenge.RW_darkpace_k52_hands_written
set_option Elab.async false
set_option linter.all false
set_option maxRecDepth 100000
set_option exponentiation.threshold 3000
set_option maxHeartbeats 16000000
/-! Rules of our own: data under a growing heap, sorted and max and min of data, set of ints, a written dict's item, a method called with a keyword. -/
namespace DP
open PySem PySem.Spec PyProof.Rows L2

theorem rooms {A : Around} {k : Nat} (hr : Room k A) : A.units + 65 < cLine := by have := hr.un; omega

theorem Same.rd {H H' : Hp} {a : Addr} {u : HO} (S : Same H H') (h : Rd H a u) : Rd H' a u := by
  rcases h with h | ⟨o, h⟩
  · exact Or.inl (S _ _ h)
  · exact Or.inr ⟨o, S _ _ h⟩
theorem Same.sqT {K : PySem.W.Frag} {H H' : Hp} {a : Addr} {xs : List V} (S : Same H H') (h : SqT K H a xs) : SqT K H' a xs := by
  rcases h with h | h
  · exact Or.inl (Same.rd S h)
  · exact Or.inr h
theorem Same.sqL {K : PySem.W.Frag} {H H' : Hp} {a : Addr} {xs : List V} (S : Same H H') (h : SqL K H a xs) : SqL K H' a xs := by
  rcases h with h | h
  · exact Or.inl (Same.rd S h)
  · exact Or.inr h
mutual
theorem dp_mono {K : PySem.W.Frag} {H H' : Hp} (S : Same H H') : ∀ (d : PyData) (v : V), Dp K H v d → Dp K H' v d
  | .none, _, h => by cases h; exact .non
  | .bool b, _, h => by cases h; exact .bl _
  | .int b, _, h => by cases h; exact .int _
  | .str b, _, h => by cases h; exact .str _
  | .list ds, _, h => by
    cases h with
    | lst s a => exact .lst (Same.sqL S s) (dpAll_mono S ds _ a)
  | .tuple ds, _, h => by
    cases h with
    | tup s a => exact .tup (Same.sqT S s) (dpAll_mono S ds _ a)
  | .dict _, _, h => by cases h
theorem dpAll_mono {K : PySem.W.Frag} {H H' : Hp} (S : Same H H') : ∀ (ds : List PyData) (vs : List V), DpAll K H vs ds → DpAll K H' vs ds
  | [], _, h => by cases h; exact .nil
  | d :: ds, _, h => by
    cases h with
    | cons a b => exact .cons (dp_mono S d _ a) (dpAll_mono S ds _ b)
end
section
variable {K : PySem.W.Frag} {H : Hp}
theorem dpAll_len : ∀ {vs : List V} {ds : List PyData}, DpAll K H vs ds → vs.length = ds.length
  | _, _, .nil => rfl
  | _, _, .cons _ t => by rw [List.length_cons, List.length_cons, dpAll_len t]
theorem dpAll_get : ∀ {vs : List V} {ds : List PyData} {i : Nat} {v : V}, DpAll K H vs ds → vs[i]? = some v → ∃ d, ds[i]? = some d ∧ Dp K H v d
  | _, _, _, _, .nil, e => by simp at e
  | _, _, 0, _, .cons r _, e => by simp at e; subst e; exact ⟨_, rfl, r⟩
  | _, _, i + 1, v, .cons _ t, e => by
    obtain ⟨d, h1, h2⟩ := dpAll_get (i := i) (v := v) t (by simpa using e)
    exact ⟨d, by simpa using h1, h2⟩
theorem dpAll_get' : ∀ {vs : List V} {ds : List PyData} {i : Nat} {d : PyData}, DpAll K H vs ds → ds[i]? = some d → ∃ v, vs[i]? = some v ∧ Dp K H v d
  | _, _, _, _, .nil, e => by simp at e
  | _, _, 0, _, .cons r _, e => by simp at e; subst e; exact ⟨_, rfl, r⟩
  | _, _, i + 1, v, .cons _ t, e => by
    obtain ⟨d, h1, h2⟩ := dpAll_get' (i := i) (d := v) t (by simpa using e)
    exact ⟨d, by simpa using h1, h2⟩
theorem dpAll_snoc : ∀ {vs : List V} {ds : List PyData} {v : V} {d : PyData}, DpAll K H vs ds → Dp K H v d → DpAll K H (vs ++ [v]) (ds ++ [d])
  | _, _, _, _, .nil, r => .cons r .nil
  | _, _, _, _, .cons q t, r => .cons q (dpAll_snoc t r)
theorem dpAll_app : ∀ {vs ws : List V} {ds es : List PyData}, DpAll K H vs ds → DpAll K H ws es → DpAll K H (vs ++ ws) (ds ++ es)
  | _, _, _, _, .nil, r => r
  | _, _, _, _, .cons q t, r => .cons q (dpAll_app t r)
theorem dpAll_ints : ∀ ns : List Int, DpAll K H (ns.map V.int) (ns.map PyData.int)
  | [] => .nil
  | n :: ns => .cons (.int n) (dpAll_ints ns)
theorem dpAll_int : ∀ {vs : List V} {ns : List Int}, DpAll K H vs (ns.map PyData.int) → vs = ns.map V.int
  | _, [], h => by cases h; rfl
  | _, n :: ns, h => by
    have h' : DpAll K H _ (PyData.int n :: ns.map PyData.int) := h
    cases h' with
    | cons a b =>
      cases a
      rw [dpAll_int b]; rfl
theorem same_upd {H : Hp} {p : Addr} {o : HO} (h : H p = none) : Same H (upd H p o) := fun b u e => by rw [upd_ne (ne_of_none e h)]; exact e
end

section
variable {X : Cx}
/-- sorted(xs): xs a list of alike data, of any length; P is what is known of each -/
def rSortD (K : PySem.W.Frag) {β : Type} (enc : β → PyData) : List V → Hp → VK → Prop := fun vs H Q => ∃ (a : Addr) (xs : List V) (bs : List β), vs = [V.ref a] ∧ SqL K H a xs ∧ DpAll K H xs (bs.map enc) ∧
  PySem.W.AllAlike (bs.map enc) ∧ PySem.W.Sortable (bs.map enc) ∧ (∀ b ∈ bs, (enc b).depth ≤ 60) ∧
  ∀ (p : Addr) (ys : List V) H', H p = none → Same H H' → H' p = some (.lst ys) → DpAll K H' ys ((bs.mergeSort (PySem.W.dataLe false enc)).map enc) → Q (.ref p) H'
theorem each_vals {K : PySem.W.Frag} {H : Hp} {β : Type} {enc : β → PyData} : ∀ {xs : List V} {us : List Value} {bs : List β}, Vals xs us → DpAll K H xs (bs.map enc) → PySem.W.EachIs (fun u b => ∃ x, RelV x u ∧ Dp K H x (enc b)) us bs
  | _, _, [], r, d => by
    have d' : DpAll K H _ [] := d
    cases d'
    cases r
    exact .nil
  | _, _, b :: bs, r, d => by
    have d' : DpAll K H _ (enc b :: bs.map enc) := d
    cases d' with
    | cons d1 d2 =>
      cases r with
      | cons r1 r2 => exact .cons ⟨_, r1, d1⟩ (each_vals r2 d2)
theorem vals_each {K : PySem.W.Frag} {H : Hp} {β : Type} {enc : β → PyData} : ∀ {us : List Value} {bs : List β}, PySem.W.EachIs (fun u b => ∃ x, RelV x u ∧ Dp K H x (enc b)) us bs → ∃ xs, Vals xs us ∧ DpAll K H xs (bs.map enc)
  | _, _, .nil => ⟨[], .nil, .nil⟩
  | _, _, .cons ⟨x, r, d⟩ t => by
    obtain ⟨xs, h1, h2⟩ := vals_each t
    exact ⟨x :: xs, .cons r h1, .cons d h2⟩
theorem cr_sortD {β : Type} (enc : β → PyData) (hu : X.A.units + 65 < cLine) : CallR X (.builtin "sorted") (rSortD X.K enc) := by
  intro pins s σ H vs us Q I r h
  obtain ⟨a, xs, bs, rfl, hs, hd, hal, hk, hdep, q⟩ := h
  obtain ⟨its, rv, hl, hz⟩ := I.list hs
  rw [Vals.ref1 r]
  have hlen : its.length = bs.length := by rw [← rv.length, dpAll_len hd, List.length_map]
  have e := each_vals rv hd
  obtain ⟨as, ra⟩ := Dp.readsAll I _ _ _ hd rv
  refine PySem.W.sorted_data (enc := enc) (bs := bs) (vs := its) hl.isList e (PySem.W.readsAll_each enc ra) hal hk (by rw [← hlen, ← rv.length]; exact hz) (fun b hb => ?_) fun out ho eo => ?_
  · have := hdep b hb
    omega
  · obtain ⟨ys, h1, h2⟩ := vals_each eo
    obtain ⟨ep, he'⟩ := PyProof.Rows.sortedAll_at s.heap its (List.toArray out)
    have hn : H (s.heap.objs.size + 1) = none := I.hok.fresh (Nat.le_succ _)
    have hyl : ys.length ≤ sizeLine := by
      rw [h1.length, ho, ← hlen, ← rv.length]; exact hz
    refine ⟨.ref _, upd H (s.heap.objs.size + 1) (.lst ys), I.laid (t' := s.toks) (fun _ _ => PyProof.Rows.sortedAll_old) (Nat.le_succ _) ⟨hyl, out, ep, h1, he'⟩, rfl, q _ ys _ hn (same_upd hn) upd_same ?_⟩
    exact dpAll_mono (same_upd hn) _ _ h2

/-- max(xs), min(xs): xs a list of alike data -/
def rBestD (K : PySem.W.Frag) (best : PyData → List PyData → PyData) : List V → Hp → VK → Prop := fun vs H Q => ∃ (a : Addr) (xs : List V) (d : PyData) (ds : List PyData), vs = [V.ref a] ∧ SqL K H a xs ∧ DpAll K H xs (d :: ds) ∧
  PySem.W.AlikeAll (d :: ds) ∧ PyData.canLayAll0 (d :: ds) = true ∧ PyData.depthAll (d :: ds) ≤ 60 ∧
  ∀ (x : V), Dp K H x (best d ds) → Q x H
theorem best_end {pins : List (Addr × Obj)} {s : Shared} {σ : L2.St} {H : Hp} {Q : VK} (I : Inv X pins σ H s) {xs : List V} {its : List Value} {as : List Addr} {ds : List PyData} (rv : Vals xs its) (hd : DpAll X.K H xs ds) (ra : ReadsAll s.heap its ds as) (hc : PyData.canLayAll0 ds = true) {i : Nat} {v : Value} {h' : Heap} {tk : Nat} {bs : List Addr} {e : PyData} (hi : its.toArray[i]? = some v)
    (hr : Reads h' v e bs) (he : e.canLay0 = true) (hk : ∀ b o, s.heap.get? b = some o → h'.get? b = some o) (q : ∀ x, Dp X.K H x e → Q x H) : EP X pins σ Q v { heap := h', gens := s.gens, drawn := s.drawn, toks := tk, os := s.os } := by
  have hi' : its[i]? = some v := by simpa using hi
  have hlt : i < its.length := by
    rcases Nat.lt_or_ge i its.length with h | h
    · exact h
    · rw [List.getElem?_eq_none h] at hi'; cases hi'
  obtain ⟨x, hx⟩ : ∃ x, xs[i]? = some x := ⟨xs[i]'(by rw [rv.length]; exact hlt), List.getElem?_eq_getElem _⟩
  obtain ⟨u, hu, ru⟩ := rv.get hx
  have euv : u = v := Option.some.inj (hu.symm.trans hi')
  subst euv
  obtain ⟨d, hdi, hdx⟩ := dpAll_get hd hx
  obtain ⟨as', rx⟩ := Dp.reads I d x u hdx ru
  have rx' : Reads h' u d as' := PyProof.Rows.Reads.keeps hk rx
  have hcd : d.canLay0 = true := by
    have : ∀ (ds : List PyData) (i : Nat), PyData.canLayAll0 ds = true → ds[i]? = some d → d.canLay0 = true := by
      intro ds
      induction ds with
      | nil => intro i _ h; simp at h
      | cons a r ih =>
        intro i h1 h2
        rw [PyData.canLayAll0, Bool.and_eq_true] at h1
        cases i with
        | zero => simp at h2; rw [← h2]; exact h1.1
        | succ i => exact ih i h1.2 (by simpa using h2)
    exact this ds i hc hdi
  have e1 := SeqAt.readOf_eq hcd rx'
  have e2 := SeqAt.readOf_eq he hr
  have ed : d = e := e1.symm.trans e2
  subst ed
  exact ⟨x, H, I.kept hk, ru, q x hdx⟩
theorem canLay_fold (f : PyData → PyData → Bool) : ∀ (ds : List PyData) (d : PyData), PyData.canLayAll0 (d :: ds) = true → (ds.foldl (fun a y => if f a y then y else a) d).canLay0 = true
  | [], d, h => by
    rw [PyData.canLayAll0, Bool.and_eq_true] at h
    exact h.1
  | e :: ds, d, h => by
    rw [PyData.canLayAll0, PyData.canLayAll0, Bool.and_eq_true, Bool.and_eq_true] at h
    rw [List.foldl_cons]
    refine canLay_fold f ds _ ?_
    rw [PyData.canLayAll0, Bool.and_eq_true]
    refine ⟨?_, h.2.2⟩
    split
    · exact h.2.1
    · exact h.1
theorem cr_maxD (hc : X.calm = true) (hu : X.A.units + 65 < cLine) : CallR X (.builtin "max") (rBestD X.K PySem.W.maxD) := by
  intro pins s σ H vs us Q I r h
  obtain ⟨a, xs, d, ds, rfl, hs, hd, hal, hl0, hdep, q⟩ := h
  obtain ⟨its, rv, hl, hz⟩ := I.list hs
  rw [Vals.ref1 r]
  obtain ⟨as, ra⟩ := Dp.readsAll I _ _ _ hd rv
  exact PySem.W.max_list_data (I.ok.hd hc) hl.isList (by simpa using ra) hal (by omega) fun i v h' tk bs hi hr hk => best_end I rv hd ra hl0 hi hr (canLay_fold _ ds d hl0) hk q
theorem cr_minD (hc : X.calm = true) (hu : X.A.units + 65 < cLine) : CallR X (.builtin "min") (rBestD X.K PySem.W.minD) := by
  intro pins s σ H vs us Q I r h
  obtain ⟨a, xs, d, ds, rfl, hs, hd, hal, hl0, hdep, q⟩ := h
  obtain ⟨its, rv, hl, hz⟩ := I.list hs
  rw [Vals.ref1 r]
  obtain ⟨as, ra⟩ := Dp.readsAll I _ _ _ hd rv
  exact PySem.W.min_list_data (I.ok.hd hc) hl.isList (by simpa using ra) hal (by omega) fun i v h' tk bs hi hr hk => best_end I rv hd ra hl0 hi hr (canLay_fold (fun a y => PySem.W.dataLt y a) ds d hl0) hk q
end
end DP
/-! set(xs) of a list of whole numbers, sorted then. -/
namespace DP
open PySem PySem.Spec PyProof.Rows L2
/-- a fresh set -/
abbrev newSet (w : World) : Obj := { cls := .type "set", dict := none, data := .set #[] 0 (.fresh 0 0 (!w.params.followText "set-order")) }
theorem set_of_ints {P : Program} {w : World} {A : Around} {E : Value → Shared → Prop} {s : Shared} {l : Addr} {items : Array Value} (ns : List Int) {Q : Value → Shared → Prop} (hh : A.handled = none) (hl : s.heap.IsList l items) (hit : IntsAre items.toList ns) (hb : ns.length + 1 < scanBound)
    (h : ∀ (h' : Heap) (tk c : Nat), SetR w h' s.heap.objs.size (fun j => decide (j ∈ ns)) c → c ≤ ns.length → (∀ b o, s.heap.get? b = some o → h'.get? b = some o) → Q (.ref s.heap.objs.size) { s with heap := h', toks := tk }) :
    wpAny (model P w) A (call (.type "set") [.ref l]) Q E s := by
  have hisz : items.size = ns.length := (Array.length_toList (xs := items)).symm.trans (IntsAre.length hit)
  have C := F.called_set
  obtain ⟨c, tl, hmro⟩ := C.mro
  have hmade := C.made; have hsub := C.sub
  refine wpAny_call (codeAny_of_tree ?_)
  show wpAny _ _ (callAny (.type "set") _) _ _ _
  refine wpAny_pure ⟨Code.quiet_builtin _ (by decide +kernel), codeAny_builtin F.entry_type_call ?_⟩
  rw [Around.under_plain (weight_type_call_type "set" [.ref l] []) rfl]
  have h1 := C.notType; have h2 := C.canCreate
  have hct := F.typeCall_set_1 (.ref l)
  repeat (any_goals (first | assumption | wp_step))
  refine codeAny_mono (code_set_led1 (.ref l) (E := E) (Q₁ := fun obj s₁ => obj = .ref s.heap.objs.size ∧ s₁ = { s with heap := s.heap.push (newSet w) }) ⟨rfl, rfl⟩) fun r s₁ hr => ?_
  cases r with
  | error e => exact hr
  | ok fl =>
  cases fl with
  | ret obj =>
    obtain ⟨rfl, rfl⟩ := hr
    have hS : (s.heap.push (newSet w)).get? s.heap.objs.size = some (newSet w) := Heap.get?_push_size _ rfl
    have hT : Shared.TypeIs { s with heap := s.heap.push (newSet w) } (.ref s.heap.objs.size) "set" := ⟨_, hS, rfl⟩
    have hli := C.init.lookup; have hbi := C.init.bind (.ref s.heap.objs.size)
    repeat (any_goals (first | assumption | wp_step))
    refine codeAny_mono (codeAny_call_builtin (R := wants (fun r s₂ => r = .none ∧ ∃ h' tk c, s₂ = { s with heap := h', toks := tk } ∧ SetR w h' s.heap.objs.size (fun j => decide (j ∈ ns)) c ∧ c ≤ ns.length ∧ ∀ b o, s.heap.get? b = some o → h'.get? b = some o) E) C.init.plain F.entry_set_init (check_set_init_1 hT ?_)) fun r₂ s₂ hr₂ => ?_
    · obtain ⟨⟨ocls, odict, odata, oslots⟩, hol, hcl, nl, hdl⟩ := hl
      simp only at hcl hdl
      subst hcl hdl
      have hol' : (s.heap.push (newSet w)).get? l = some { cls := .type "list", dict := odict, data := .seq items nl, slots := oslots } := Heap.get?_push_of_some _ hol
      have hsls := F.sub_list_set; have hslf := F.sub_list_frozenset
      have hne : (Value.type "list" == Value.type "dict") = false := by decide
      have hl1 : (s.heap.push (newSet w)).IsList l items := ⟨_, hol', rfl, nl, rfl⟩
      unfold Builtin.«set.__init__» noKeywords Builtin.Frozenset.updateFrom
      generalize hPI : pyIter = PI
      wp_walk
      subst hPI
      refine wpAny_pyIter_list hl1 (wpAny_bind (wpAny_runValue ?_))
      have hlS : l < s.heap.objs.size := Heap.lt_size hol
      have hh3 : A.in1.in1.in1.handled = none := by simp [hh]
      have hz : (s.heap.push (newSet w)).objs.size = s.heap.objs.size + 1 := Heap.size_push ..
      have hneI : l ≠ (s.heap.push (newSet w)).objs.size := by rw [hz]; exact Nat.ne_of_lt (Nat.lt_succ_of_lt hlS)
      have hSf : s.heap.objs.size ∉ [(s.heap.push (newSet w)).objs.size, l] := by
        rw [hz]; simp only [List.mem_cons, List.not_mem_nil, or_false, not_or]; exact ⟨Nat.ne_of_lt (Nat.lt_succ_self _), Nat.ne_of_gt hlS⟩
      have hval : ∀ (i : Nat) (v : Value), items[i]? = some v → ∃ k t, ns[i]? = some k ∧ v = .int k t := fun i v hv => by
        have hi : i < ns.length := hisz ▸ (Array.getElem?_eq_some_iff.mp hv).1
        obtain ⟨t, e⟩ := PyProof.Rows.IntsAre.int_at hit i v (by rw [Array.getElem?_toList]; exact hv)
        exact ⟨ns[i], t, List.getElem?_eq_getElem hi, by rw [e, List.getD_eq_getElem?_getD, List.getElem?_eq_getElem hi]; rfl⟩
      refine set_update_ints ((Walks.list hh3 _ l hneI items).toS) s.heap.objs.size hSf ns hisz hb hval (items.size - 0) 0 _ (by omega) (Nat.zero_le _) ⟨⟨_, Heap.get?_push_size _ rfl, rfl, rfl⟩, (hl1.push _)⟩ ?z0 ?zR
      case z0 => exact ⟨0, Nat.le_refl 0, setR_new_at (Heap.get?_push_of_some _ hS)⟩
      case zR =>
        intro s' c' hm hc' hS'
        obtain ⟨h', g2, d', tk', os'⟩ := s'
        have eg : g2 = s.gens := hm.gens
        have ed : d' = s.drawn := hm.drawn
        have eo : os' = s.os := hm.os
        subst eg ed eo
        rw [hisz] at hc'
        refine wpAny_pure (?_ : wpAny _ _ (ret Value.none) _ _ _)
        refine wpAny_pure ⟨rfl, h', tk', c', rfl, hS', hc', fun b o e => ?_⟩
        have hb0 : b < s.heap.objs.size := Heap.lt_size e
        refine hm.heap b o ?_ (Heap.get?_push_of_some _ (Heap.get?_push_of_some _ e))
        simp only [List.mem_cons, List.not_mem_nil, or_false, not_or]
        exact ⟨Nat.ne_of_lt hb0, by rw [hz]; exact Nat.ne_of_lt (Nat.lt_succ_of_lt hb0)⟩
    · cases r₂ with
      | error e => exact hr₂
      | ok fl₂ =>
      cases fl₂ with
      | ret r =>
        obtain ⟨rfl, h', tk, c', rfl, hS', hc', hk'⟩ := hr₂
        repeat (any_goals (first | assumption | wp_step))
        exact h _ _ _ hS' hc' hk'
      | _ => exact hr₂.elim
  | _ => exact hr.elim
section
variable {X : Cx}
/-- set(xs), xs a list of whole numbers -/
def rSetI (K : PySem.W.Frag) (w : World) : List V → Hp → VK → Prop := fun vs H Q => ∃ (l : Addr) (ns : List Int), vs = [V.ref l] ∧ SqL K H l (ns.map V.int) ∧ ns.length ≤ 60 ∧
  ∀ (a : Addr) (c : Nat), c ≤ ns.length → H a = none → Q (.ref a) (upd H a (SetO w a (fun j => decide (j ∈ ns)) c))
theorem cr_setI (hc : X.calm = true) : CallR X (.type "set") (rSetI X.K X.w) := by
  intro pins s σ H vs us Q I r h
  obtain ⟨l, ns, rfl, hs, hlen, q⟩ := h
  obtain ⟨its, rv, pl, hz⟩ := I.list hs
  rw [Vals.ref1 r]
  have hi : IntsAre its.toArray.toList ns := by simpa using rv.ints
  refine set_of_ints ns (I.ok.hd hc) pl.isList hi (by unfold scanBound; omega) fun h' tk c R hcl hk => ?_
  exact ⟨.ref _, upd H s.heap.objs.size (SetO X.w s.heap.objs.size (fun j => decide (j ∈ ns)) c), I.laid (t' := tk) hk (Nat.le_refl _) (setO_new R), rfl, q _ c hcl (I.hok.fresh (Nat.le_refl _))⟩
/-- d[k], d a written dict -/
theorem ix_kd {d : Addr} {es : Array DictEntry} {n : Nat} (D : KDict X.K X.w d es n) : IxR X (fun x y H Q => ∃ (z : Str) (u0 : Value) (v0 : V), x = .ref d ∧ y = .str z ∧ PySem.W.nsIn X.K d z = some (some u0) ∧ RelV v0 u0 ∧ Q v0 H) := by
  intro value slice pins s σ H x y v u Q I rx ry h hs
  obtain ⟨z, u0, v0, ex, ey, e, r, q⟩ := h
  subst ex ey
  cases rx
  obtain ⟨t, rfl⟩ := ry
  have fin : EP X pins σ Q u0 s := ⟨v0, H, I, r, q⟩
  exact subscriptTail_builtinR (x := u0) (kd_type D I) PySem.F.slot_dict_getitem.lookup
    (wpAny_getItem_of (PySem.strKind_is X.prog X.w z t) (PySem.W.mapOf_K (prog := X.prog) I.kIn D.at_ D.lit) (PySem.W.find_K D.at_ e) ⟨rfl, ⟨v0, H, I.tok _, r, q⟩⟩) hs
end
end DP
/-! The rules with the written part named, for comprehensions; a method called with keywords. -/
namespace DP
open PySem PySem.Spec PyProof.Rows L2
section
variable {X : Cx} {K : PySem.W.Frag}
theorem ixT (h : X.K = K := by rfl) : IxR X (rIxT K) := by subst h; exact ix_tup
theorem ixL (h : X.K = K := by rfl) : IxR X (rIxL K) := by subst h; exact ix_list
theorem inS (h : X.K = K := by rfl) : OpR X (compareOp .In) (rIn K false) := by subst h; exact op_in_seq
theorem notInS (h : X.K = K := by rfl) : OpR X (compareOp .NotIn) (rIn K true) := by subst h; exact op_notIn_seq
theorem eqDK (hu : X.A.units + 64 < cLine) (h : X.K = K := by rfl) : OpR X (compareOp .Eq) (rEqD K) := by subst h; exact op_eqD hu
theorem neDK (hu : X.A.units + 64 < cLine) (h : X.K = K := by rfl) : OpR X (compareOp .NotEq) (rNeD K) := by subst h; exact op_neD hu
theorem inDK (hu : X.A.units + 65 < cLine) (h : X.K = K := by rfl) : OpR X (compareOp .In) (rInD K) := by subst h; exact op_inD hu
theorem notInDK (hu : X.A.units + 65 < cLine) (h : X.K = K := by rfl) : OpR X (compareOp .NotIn) (rNotInD K) := by subst h; exact op_notInD hu
def rLenK (K : PySem.W.Frag) : List V → Hp → VK → Prop := fun xs H Q => ∃ p ys, xs = [V.ref p] ∧ (SqL K H p ys ∨ SqT K H p ys) ∧ Q (.int ys.length) H
theorem lenK (h : X.K = K := by rfl) : CallR X (.builtin "len") (rLenK K) := by subst h; exact call_len_seq
def rListK (K : PySem.W.Frag) : List V → Hp → VK → Prop := fun xs H Q => ∃ p ys, xs = [V.ref p] ∧ (SqL K H p ys ∨ SqT K H p ys) ∧ ∀ l, H l = none → Q (.ref l) (upd H l (.lst ys))
theorem listK (h : X.K = K := by rfl) : CallR X (.type "list") (rListK K) := by subst h; exact call_list_of
theorem maxK (hc : X.calm = true) (h : X.K = K := by rfl) : CallR X (.builtin "max") (rMax K) := by subst h; exact cr_max hc
theorem minK (hc : X.calm = true) (h : X.K = K := by rfl) : CallR X (.builtin "min") (rMin K) := by subst h; exact cr_min hc
theorem maxDK (hc : X.calm = true) (hu : X.A.units + 65 < cLine) (h : X.K = K := by rfl) : CallR X (.builtin "max") (rBestD K PySem.W.maxD) := by subst h; exact cr_maxD hc hu
theorem minDK (hc : X.calm = true) (hu : X.A.units + 65 < cLine) (h : X.K = K := by rfl) : CallR X (.builtin "min") (rBestD K PySem.W.minD) := by subst h; exact cr_minD hc hu
theorem sortK (h : X.K = K := by rfl) : CallR X (.builtin "sorted") (rSorted K) := by subst h; exact cr_sorted
theorem sortDK {β : Type} (enc : β → PyData) (hu : X.A.units + 65 < cLine) (h : X.K = K := by rfl) : CallR X (.builtin "sorted") (rSortD K enc) := by subst h; exact cr_sortD enc hu
theorem setIK {w : World} (hc : X.calm = true) (h : X.K = K := by rfl) (hw : X.w = w := by rfl) : CallR X (.type "set") (rSetI K w) := by subst h hw; exact cr_setI hc
theorem sortedSetK {w : World} (hc : X.calm = true) (hw : X.w = w := by rfl) : CallR X (.builtin "sorted") (rSortedSet w) := by subst hw; exact cr_sortedSet hc
theorem slL (h : X.K = K := by rfl) : SlR X (rSlL K) := by subst h; exact sl_list
theorem isiK (h : X.K = K := by rfl) : CallR X (.builtin "isinstance") (rIsi K) := by subst h; exact call_isi
theorem fldK {o : Expr} {ta : TE} {f : Str} {pos : Pos} (he : PE X o ta) (hb : attributeBase o f X.env (eval o X.env) = eval o X.env := by rfl) (h : X.K = K := by rfl) : PE X (.Attribute o f pos) (tFld K ta f) := by subst h; exact pe_fld he hb
theorem tupK {es : List Expr} {k : Nat} {t : TGs} {n : Nat} {pos : Pos} (hc : X.calm = true) (h1 : PGs X es t) (hn : (assignEach es X.env).length = n := by rfl) (hst : (assignEach es X.env).findIdx? (·.1) = none := by rfl) (h : X.K = K := by rfl) :
    PG X (.Tuple es k pos) (gTup K n t) := by subst h; exact pg_tup hc h1 hn hst
end
section
variable {X : Cx} {CX : CXT} {k : Nat} {f C : Addr} {fd : FuncData} {ps ks : List Str} {sp : Sp} {E : XK} {m : Str} {pos apos : Pos} {o : Expr} {kws : List Keyword} {ta : TE} {tk : TA} {g : List Value → List Value → List Value} {gV : List V → List V → List V}
/-- o.m(k = v, ..) -/
def tMethK (C : Addr) (m : Str) (sp : Sp) (gV : List V → List V → List V) (E : XK) (ta : TE) (tk : TA) : TE := fun σ H Q => ta σ H fun x H1 => ∃ a dx fs, x = .ref a ∧ H1 a = some (.ins C dx fs) ∧ fs.lookup m = none ∧ tk σ H1 fun zs H2 => sp (gV [.ref a] zs) H2 Q E
theorem pe_methK0 {pl : Sem Bool} (he : PE X o ta) (c : Cls X.K C) (hm : Meth X.K C m f) (F : FnOk X.prog X.w X.K X.mg X.base CX k f fd ps sp) (hr : Room k X.A) (hb : KBinds X.K fd ps ks g gV) (hx : Passes CX X E) (hkw : PK X kws tk)
    (hall : (backToKw pos (keywordEach kws X.env)).all (·.1.isSome) = true := by rfl) (hks : (backToKw pos (keywordEach kws X.env)).filterMap (·.1) = ks := by rfl)
    (hpl : ((backTo pos (starEach [] X.env)).any (·.1) || (backToKw pos (keywordEach kws X.env)).any (·.1.isNone)) = false := by rfl)
    (ht : eval (.Call (.Attribute o m apos) [] kws pos) X.env = (do
      let ov ← eval o X.env
      standAt apos.atName
      let (f, first) ← holding [ov] (getMethod ov m pl)
      callWith pos f first (backTo pos (starEach [] X.env)) (backToKw pos (keywordEach kws X.env))) := by rfl) :
    PE X (.Call (.Attribute o m apos) [] kws pos) (tMethK C m sp gV E ta tk) := by
  refine ⟨fun pins s σ H Q I h => ?_⟩
  refine PySem.W.methodCall_KW (pl := pl) (thn (he.run pins s σ H _ I h) fun u s1 ⟨x, H1, I1, rx, a, dx, fs, ex, ea, l, q⟩ => ?_) ht
  subst ex
  obtain rfl : u = Value.ref a := rx
  refine getmeth_ok I1 ea c hm l ?_
  refine PySem.W.callWith_KW0 (first := [.ref a]) (h₀ := X.base) I.ok.mod.kin hm.kp hall ?_ hpl
  refine thn (hkw.run pos pins s1 σ H1 _ I1 q) fun ws s2 ⟨zs, H2, I2, rz, q2⟩ => ⟨I2.kIn, ?_⟩
  rw [hks]
  exact run_fnk (us := [.ref a]) (vs := [.ref a]) F hr hb hx I2 (.cons rfl .nil) rz q2
end
/-- one positional value, one keyword -/
def g11 {α : Type} : List α → List α → List α
  | [a], [b] => [a, b]
  | _, _ => []
theorem g11_rel {vs : List V} {us : List Value} {zs : List V} {ws : List Value} (r : Vals vs us) (q : Vals zs ws) : Vals (g11 vs zs) (g11 us ws) := by
  cases r with
  | nil => exact .nil
  | cons a t =>
    cases t with
    | cons _ _ => exact .nil
    | nil =>
      cases q with
      | nil => exact .nil
      | cons b t =>
        cases t with
        | cons _ _ => exact .nil
        | nil => exact .cons a (.cons b .nil)
end DP
/-! A set of tuples whose parts are plain (whole numbers, texts), made of a list and sorted: over any kind of plain parts. -/
namespace SD
open PySem PySem.Spec PyProof.Rows L2
section
variable {P : Program} {w : World} {κ : Type} [DecidableEq κ] {kn : KeyKind P w κ} {A : Around} {E : Value → Shared → Prop} {s : Shared}
/-- parts are no objects -/
def Plain (kn : KeyKind P w κ) : Prop := ∀ k v, kn.is k v = true → v.scannable = true
abbrev TupAt (kn : KeyKind P w κ) (h : Heap) (p : Addr × List κ) : Prop := IsTupleKey kn h p.2 p.1
abbrev hsh (kn : KeyKind P w κ) (k : List κ) : Int := tupleKeyHash kn k
theorem parts (pl : Plain kn) : ∀ {k : List κ} {vs : List Value}, ItemsAre kn k vs → ∀ v ∈ vs, v.scannable = true
  | _, _, .nil, v, h => by cases h
  | _, _, .cons a t, v, h => by
    rcases List.mem_cons.mp h with e | h
    · rw [e]; exact pl _ _ a
    · exact parts pl t v h
theorem no_class1 (n : Nat) {v : Value} (h : v.scannable = true) : ofAClassStatement n v = pure false := by
  cases n <;> cases v <;> simp_all [Value.scannable, ofAClassStatement]
theorem no_class (pl : Plain kn) {b : Addr} {k : List κ} {Q : Bool → Shared → Prop} (hk : TupAt kn s.heap (b, k)) (q : Q false s) : wpAny (model P w) A (ofAClassStatement 8 (.ref b)) Q E s := by
  have ty := IsTupleKey.typeIs hk
  obtain ⟨o, items, n, ho, _, hd, hi⟩ := hk
  have hp := parts pl hi
  unfold ofAClassStatement
  refine wpAny_bind (wpAny_typeOf ty ?_)
  dsimp only
  simp only [show (("tuple" : String) == "tuple") = true by decide, if_true, Bool.not_true, Bool.false_eq_true, if_false]
  try refine wpAny_bind (wpAny_pure ?_)
  try simp only [Bool.not_true, Bool.false_eq_true, if_false]
  refine wpAny_bind (wpAny_seqItems ho hd ?_)
  dsimp only
  refine wpAny_bind ?_
  rw [← Array.forIn_toList]
  refine wpAny_forIn_list _ (fun rest r s2 => (r.1 = none ∧ s2 = s) ∧ ∀ v ∈ rest, v.scannable = true) _ (fun v rest r s2 hh => ?_) (fun r s2 hh => ?_) _ _ ⟨⟨rfl, rfl⟩, hp⟩
  · obtain ⟨⟨h1, rfl⟩, h2⟩ := hh
    rw [no_class1 _ (h2 v List.mem_cons_self)]
    refine wpAny_bind (wpAny_pure ?_)
    simp only [Bool.false_eq_true, if_false]
    exact wpAny_pure ⟨⟨rfl, rfl⟩, fun u hu => h2 u (List.mem_cons_of_mem _ hu)⟩
  · obtain ⟨⟨h1, rfl⟩, _⟩ := hh
    obtain ⟨r1, r2⟩ := r
    have h1' : r1 = none := h1
    subst h1'
    exact wpAny_pure q
theorem by_value (pl : Plain kn) {b : Addr} {k : List κ} {Q : Bool → Shared → Prop} (hk : TupAt kn s.heap (b, k)) (q : ∀ r, Q r s) : wpAny (model P w) A (hashByValue 8 (.ref b)) Q E s := by
  have ty := IsTupleKey.typeIs hk
  obtain ⟨o, items, n, ho, _, hd, hi⟩ := hk
  have hp := parts pl hi
  unfold hashByValue
  refine wpAny_bind (wpAny_specialOf ty F.slot_tuple_hash.lookup ?_)
  show wpAny _ _ (seqItems? (.ref b) >>= _) _ _ s
  refine wpAny_bind (wpAny_seqItems ho hd ?_)
  refine wpAny_bind ?_
  show wpAny _ _ (forIn items _ _) _ _ s
  rw [← Array.forIn_toList]
  refine wpAny_forIn_list _ (fun rest r s2 => s2 = s ∧ ∀ v ∈ rest, v.scannable = true) _ (fun v rest r s2 hh => ?_) (fun r s2 hh => ?_) _ _ ⟨rfl, hp⟩
  · obtain ⟨rfl, h2⟩ := hh
    rw [hashByValue_scannable _ (h2 v List.mem_cons_self)]
    refine wpAny_bind (wpAny_pure ?_)
    cases plainKind v
    · simp only [Bool.not_false, if_true]
      exact wpAny_pure (show wpAny _ _ (pure false) _ _ _ from wpAny_pure (q false))
    · simp only [Bool.not_true, Bool.false_eq_true, if_false]
      exact wpAny_pure ⟨rfl, fun u hu => h2 u (List.mem_cons_of_mem _ hu)⟩
  · obtain ⟨rfl, _⟩ := hh
    obtain ⟨r1, r2⟩ := r
    cases r1 with
    | none => exact wpAny_pure (q true)
    | some r => exact wpAny_pure (q r)
end
section
variable {P : Program} {w : World} {κ : Type} [DecidableEq κ] {kn : KeyKind P w κ} {A : Around} {E : Value → Shared → Prop} {s : Shared}
/-- looking for a tuple among tuples shows nothing -/
theorem unseen (pl : Plain kn) {b : Addr} {k : List κ} {Q : Bool → Shared → Prop} (hk : TupAt kn s.heap (b, k)) {ys : List Value} (hy : ∀ y ∈ ys, ∃ p : Addr × List κ, y = Value.ref p.1 ∧ TupAt kn s.heap p) (q : Q false s) :
    wpAny (model P w) A (searchCouldBeSeen (.ref b) ys) Q E s := by
  unfold searchCouldBeSeen
  refine wpAny_bind ?_
  refine wpAny_forIn_list _ (fun rest r s2 => (r.1 = none ∧ s2 = s) ∧ ∀ y ∈ rest, ∃ p : Addr × List κ, y = Value.ref p.1 ∧ TupAt kn s.heap p) _ (fun v rest r s2 hh => ?_) (fun r s2 hh => ?_) _ _ ⟨⟨rfl, rfl⟩, hy⟩
  · obtain ⟨⟨h1, rfl⟩, h2⟩ := hh
    obtain ⟨p, rfl, hp⟩ := h2 v List.mem_cons_self
    have more : ∀ y ∈ rest, ∃ p : Addr × List κ, y = Value.ref p.1 ∧ TupAt kn s2.heap p := fun u hu => h2 u (List.mem_cons_of_mem _ hu)
    dsimp only
    cases c : (b == p.1 || (carriedByValue (.ref b) && carriedByValue (.ref p.1))) with
    | true =>
      refine wp_if_pos rfl ?_
      exact wpAny_pure ⟨⟨rfl, rfl⟩, more⟩
    | false =>
      refine wp_if_neg Bool.false_ne_true ?_
      refine wpAny_bind (wpAny_eqIsQuiet_tuple hk ?_)
      simp only [Bool.not_true, Bool.false_eq_true, if_false]
      refine wpAny_bind (wpAny_eqIsQuiet_tuple hp ?_)
      simp only [Bool.not_true, Bool.false_eq_true, if_false]
      refine wpAny_bind (no_class pl hk ?_)
      simp only [Bool.false_eq_true, if_false]
      refine wpAny_bind (no_class pl hp ?_)
      simp only [Bool.false_eq_true, if_false]
      exact wpAny_pure ⟨⟨rfl, rfl⟩, more⟩
  · obtain ⟨⟨h1, rfl⟩, _⟩ := hh
    obtain ⟨r1, r2⟩ := r
    have h1' : r1 = none := h1
    subst h1'
    exact wpAny_pure q
/-- an entry's row -/
def row (kn : KeyKind P w κ) (p : Addr × List κ) : Int × Value := (hsh kn p.2, .ref p.1)
/-- the set at a has the tuples L -/
structure Tb (kn : KeyKind P w κ) (h : Heap) (a : Addr) (L : List (Addr × List κ)) (es : Array (Int × Value)) (ep : Nat) (t : SetTable) : Prop where
  obj : ∃ o, h.get? a = some o ∧ o.ExactSet ∧ o.data = .set es ep t
  rows : es.toList = L.map (row kn)
  tab : TabOk t (L.map fun p => hsh kn p.2)
  one : (L.map Prod.snd).Nodup
  led : w.params.followText "set-order" = true ∨ t.led = true
  room : L.length * 5 < t.mask * 3
  few : L.length < 64
def All (kn : KeyKind P w κ) (h : Heap) (L : List (Addr × List κ)) : Prop := ∀ p ∈ L, TupAt kn h p
variable {a : Addr} {L : List (Addr × List κ)} {es : Array (Int × Value)} {ep : Nat} {t : SetTable}
theorem rows_len {L : List (Addr × List κ)} {es : Array (Int × Value)} (h : es.toList = L.map (row kn)) : es.size = L.length := by
  have e := congrArg List.length h
  rwa [Array.length_toList, List.length_map] at e
theorem tab_len {t : SetTable} {L : List (Addr × List κ)} (T : TabOk t (L.map fun p => hsh kn p.2)) : t.place.size = L.length := by
  have e := T.sz
  rwa [List.length_map] at e
theorem fits_of {t : SetTable} {n : Nat} (h1 : t.place.size = n) (h2 : t.dummies = #[]) (h3 : n ≤ t.mask) : t.fits n = true := by
  unfold SetTable.fits SetTable.fill
  rw [h2, h1, Bool.and_eq_true, beq_iff_eq, decide_eq_true_eq]
  exact ⟨rfl, h3⟩
theorem Tb.fit (R : Tb kn s.heap a L es ep t) : t.fits es.size = true := by
  rw [rows_len R.rows]
  have h := R.room
  exact fits_of (tab_len R.tab) R.tab.dm (by omega)
theorem row_at {L : List (Addr × List κ)} {es : Array (Int × Value)} (h : es.toList = L.map (row kn)) {i : Nat} {p : Addr × List κ} (hp : L[i]? = some p) : es[i]? = some (hsh kn p.2, Value.ref p.1) := by
  rw [← Array.getElem?_toList, h, List.getElem?_map, hp]; rfl
theorem undumb (m : Nat) : ∀ (n : Nat) (p : SetTable.Probe), p.dummy = none → (nth m p n).dummy = none
  | 0, _, h => h
  | n + 1, p, h => undumb m n (adv m p) (by unfold adv; split <;> exact h)
abbrev from0 (m : Nat) (h : Int) : SetTable.Probe := runAt m (SetTable.bits h % (m + 1)) (SetTable.bits h)
/-- the search for x, from step c of its way on -/
theorem seek (pl : Plain kn) (R : Tb kn s.heap a L es ep t) (R2 : All kn s.heap L) {x : Addr} {k : List κ} (hx : TupAt kn s.heap (x, k)) (hu : A.units < cLine) {n : Nat} (hn : n < 10 * SetTable.turns t.mask)
    (free : way t.mask (hsh kn k) n ∉ t.place.toList) (full : ∀ c, c < n → way t.mask (hsh kn k) c ∈ t.place.toList) {Q : SetFound → Shared → Prop} (yes : k ∈ L.map Prod.snd → Q (.there none) s)
    (no : k ∉ L.map Prod.snd → Q (.free (way t.mask (hsh kn k) n) false) s) :
    ∀ (f c : Nat) (stand : Option SetTable.Probe), stand.getD (t.probeStart (hsh kn k)) = nth t.mask (from0 t.mask (hsh kn k)) c → c ≤ n → n - c < f →
      (∀ (i : Nat) p, L[i]? = some p → p.2 = k → ∃ d, (c ≤ d ∧ d < n) ∧ t.place.toList[i]? = some (way t.mask (hsh kn k) d)) →
      wpAny (model P w) A (setSearchFrom a (.ref x) (hsh kn k) true f stand) Q E s := by
  intro f
  induction f with
  | zero => intro c stand _ _ z _; exact absurd z (Nat.not_lt_zero _)
  | succ f ih =>
    intro c stand hs hc hf left
    obtain ⟨o, ho, _, hd⟩ := R.obj
    have gw : ¬ t.gaveWay = true := by
      unfold SetTable.gaveWay
      rw [mask_odd R.tab.mok]; decide
    have shift : ∀ q, nth t.mask (nth t.mask (from0 t.mask (hsh kn k)) c) q = nth t.mask (from0 t.mask (hsh kn k)) (c + q) := fun q => (nth_add t.mask c _ q).symm
    have wj : ∀ q, (nth t.mask (nth t.mask (from0 t.mask (hsh kn k)) c) q).j = way t.mask (hsh kn k) (c + q) := fun q => congrArg SetTable.Probe.j (shift q)
    have hcn : c + (n - c) = n := by omega
    have at_ : ∀ (i : Nat) p, L[i]? = some p → ((es[i]?.map (·.1)).getD 0 : Int) = hsh kn p.2 := fun i p hp => by rw [row_at R.rows hp]; rfl
    rw [setSearchFrom_succ]
    refine wpAny_bind (wpAny_setState_of ho hd R.fit ?_)
    dsimp only
    refine wp_if_neg gw ?_
    try refine wpAny_bind (wpAny_pure ?_)
    rcases go_spec t R.tab.ris R.tab.dm (fun i => (es[i]?.map (·.1)).getD 0) (hsh kn k) (10 * SetTable.turns t.mask) (n - c) _ (undumb t.mask c _ rfl) (by omega) (fun q hq => by rw [wj]; exact full _ (by omega)) (by rw [wj, hcn]; exact free) with ⟨q, i, hq, hi, hh, nb, pr⟩ | ⟨nb, pr⟩
    · have pr2 : t.probe (fun i => (es[i]?.map (·.1)).getD 0) (hsh kn k) (stand.getD (t.probeStart (hsh kn k))) = some (.candidate (way t.mask (hsh kn k) (c + q)) i (nth t.mask (from0 t.mask (hsh kn k)) (c + (q + 1)))) := by
        rw [hs, ← wj, ← shift]; exact pr
      rw [pr2]
      dsimp only
      rw [wj] at hi
      have hil : i < L.length := by
        have h1 := (List.getElem?_eq_some_iff.mp hi).1
        rw [Array.length_toList, tab_len R.tab] at h1
        exact h1
      obtain ⟨p, hp⟩ : ∃ p, L[i]? = some p := ⟨_, List.getElem?_eq_getElem hil⟩
      have hpL := List.mem_of_getElem? hp
      have live : t.slot (way t.mask (hsh kn k) (c + q)) = .live i := slot_live R.tab.ris hi
      have cand : wpAny (model P w) A (searchRest a (.ref x) (hsh kn k) true f es t (way t.mask (hsh kn k) (c + q)) i (nth t.mask (from0 t.mask (hsh kn k)) (c + (q + 1)))) Q E s := by
        unfold searchRest
        rw [row_at R.rows hp]
        dsimp only
        refine wpAny_bind (wpAny_holding (wpAny_eqBool_tuple hu (R2 p hpL) hx ?_))
        refine wpAny_bind (wpAny_setState_of ho hd R.fit ?_)
        dsimp only
        by_cases same : p.2 = k
        · refine wp_if_pos (by simp [same]) (wpAny_pure (yes ?_))
          exact List.mem_map.mpr ⟨p, hpL, same⟩
        · refine wp_if_neg (by simp [same]) ?_
          try refine wpAny_bind (wpAny_pure ?_)
          rw [L2.sameMem]
          dsimp only
          simp only [if_true, live, row_at R.rows hp]
          refine wpAny_bind (wpAny_isSame_ref_self (wpAny_bind (wpAny_pure ?_)))
          simp only [if_true]
          refine wp_if_neg (by simp [same]) ?_
          refine ih (c + (q + 1)) _ rfl (by omega) (by omega) fun i2 p2 h2 hk2 => ?_
          obtain ⟨d, ⟨d1, d2⟩, d3⟩ := left i2 p2 h2 hk2
          refine ⟨d, ⟨?_, d2⟩, d3⟩
          rcases Nat.lt_trichotomy d (c + q) with z | z | z
          · refine absurd ((at_ i2 p2 h2).trans (congrArg (hsh kn) hk2)) (nb (d - c) i2 (by omega) ?_)
            rw [wj, show c + (d - c) = d by omega]; exact d3
          · rw [z] at d3
            have e := (slot_live R.tab.ris d3).symm.trans live
            injection e with e
            rw [e, hp] at h2
            exact absurd ((congrArg Prod.snd (Option.some.inj h2)).trans hk2) same
          · omega
      cases hl : t.led with
      | true =>
        refine wp_if_neg (by simp) ?_
        try refine wpAny_bind (wpAny_pure ?_)
        exact cand
      | false =>
        refine wp_if_pos (by simp) ?_
        refine wpAny_bind (unseen pl hx (fun y hy => ?_) ?_)
        · obtain ⟨e, he, rfl⟩ := List.mem_map.mp hy
          have he2 : e ∈ es.toList := by
            have h3 : e ∈ es ∧ e.1 = hsh kn k := by simpa using he
            simpa using h3.1
          rw [R.rows] at he2
          obtain ⟨p2, hp2, rfl⟩ := List.mem_map.mp he2
          exact ⟨p2, rfl, R2 p2 hp2⟩
        · refine wp_if_neg (by decide) ?_
          try refine wpAny_bind (wpAny_pure ?_)
          exact cand
    · have pr2 : t.probe (fun i => (es[i]?.map (·.1)).getD 0) (hsh kn k) (stand.getD (t.probeStart (hsh kn k))) = some (.empty (way t.mask (hsh kn k) n) none) := by
        have e : way t.mask (hsh kn k) n = (nth t.mask (nth t.mask (from0 t.mask (hsh kn k)) c) (n - c)).j := by rw [wj, hcn]
        rw [hs, e]; exact pr
      rw [pr2]
      dsimp only
      refine wpAny_pure (no fun hm => ?_)
      obtain ⟨p2, h2, hk2⟩ := List.mem_map.mp hm
      obtain ⟨i2, hi2⟩ := List.mem_iff_getElem?.mp h2
      obtain ⟨d, ⟨d1, d2⟩, d3⟩ := left i2 p2 hi2 hk2
      refine absurd ((at_ i2 p2 hi2).trans (congrArg (hsh kn) hk2)) (nb (d - c) i2 (by omega) ?_)
      rw [wj, show c + (d - c) = d by omega]; exact d3
theorem seek0 (pl : Plain kn) (R : Tb kn s.heap a L es ep t) (R2 : All kn s.heap L) {x : Addr} {k : List κ} (hx : TupAt kn s.heap (x, k)) (hu : A.units < cLine) {Q : SetFound → Shared → Prop} (yes : k ∈ L.map Prod.snd → Q (.there none) s)
    (no : ∀ n, k ∉ L.map Prod.snd → way t.mask (hsh kn k) n ∉ t.place.toList → (∀ c, c < n → way t.mask (hsh kn k) c ∈ t.place.toList) → Q (.free (way t.mask (hsh kn k) n) false) s) :
    wpAny (model P w) A (setSearch a (.ref x) (hsh kn k) true) Q E s := by
  have hr := R.room
  obtain ⟨n, hn, h1, h2⟩ := R.tab.first (by rw [List.length_map]; omega) (hsh kn k)
  have small : n < 100000 := by
    have : SetTable.turns t.mask ≤ 142 := by
      unfold SetTable.turns
      rcases R.tab.mok with e | e | e <;> omega
    omega
  unfold setSearch
  refine seek pl R R2 hx hu hn h1 h2 yes (fun c => no n c h1 h2) 100000 0 none rfl (Nat.zero_le _) (by omega) fun i p hp hk => ?_
  have hi : (L.map fun p => hsh kn p.2)[i]? = some (hsh kn k) := by rw [List.getElem?_map, hp, ← hk]; rfl
  have hil : i < t.place.toList.length := by
    rw [Array.length_toList, tab_len R.tab]
    exact (List.getElem?_eq_some_iff.mp hp).1
  have hj := List.getElem?_eq_getElem hil
  obtain ⟨d, hd, e⟩ := R.tab.before h1 hi hj
  exact ⟨d, ⟨Nat.zero_le _, hd⟩, by rw [hj, e]⟩
end
section
variable {P : Program} {w : World} {κ : Type} [DecidableEq κ] {kn : KeyKind P w κ} {A : Around} {E : Value → Shared → Prop} {s : Shared}
theorem tup_but {h h' : Heap} {p : Addr × List κ} {a : Addr} {o : Obj} {es : Array (Int × Value)} {ep : Nat} {t : SetTable} (hp : TupAt kn h p) (ho : h.get? a = some o) (hd : o.data = .set es ep t) (hs : Heap.SameBut a h h') : TupAt kn h' p := by
  obtain ⟨o2, its, n, ho2, hc, hd2, hi⟩ := hp
  have ne : p.1 ≠ a := fun e => by
    rw [e, ho] at ho2
    rw [← Option.some.inj ho2, hd] at hd2
    exact nomatch hd2
  exact ⟨o2, its, n, (hs.2 p.1 ne).trans ho2, hc, hd2, hi⟩
theorem tup_keep {h h' : Heap} {p : Addr × List κ} (hp : TupAt kn h p) (hk : ∀ c o, h.get? c = some o → h'.get? c = some o) : TupAt kn h' p := by
  obtain ⟨o2, its, n, ho2, r⟩ := hp
  exact ⟨o2, its, n, hk _ _ ho2, r⟩
theorem mid_perm {α : Type} (L : List α) (p : Nat) (x : α) : (L.take p ++ x :: L.drop p).Perm (x :: L) := by
  have h := List.perm_middle (a := x) (l₁ := L.take p) (l₂ := L.drop p)
  rwa [List.take_append_drop] at h
theorem map_mid {α β : Type} (f : α → β) (L : List α) (p : Nat) (x : α) : (L.take p ++ x :: L.drop p).map f = (L.map f).take p ++ f x :: (L.map f).drop p := by
  rw [List.map_append, List.map_cons, List.map_take, List.map_drop]
/-- the rows in another order -/
theorem reorder {L : List (Addr × List κ)} {es : Array (Int × Value)} {order : Array Nat} (hr : es.toList = L.map (row kn)) (hp : order.toList.Perm (List.range L.length)) :
    ∃ M : List (Addr × List κ), (order.filterMap (es[·]?)).toList = M.map (row kn) ∧ M.Perm L ∧ (M.map fun p => hsh kn p.2) = order.toList.map fun i => (es.map (·.1)).getD i 0 := by
  have each : ∀ l : List Nat, (∀ i ∈ l, i < L.length) → l.filterMap (fun i => es[i]?) = (l.filterMap fun i => L[i]?).map (row kn) ∧ ((l.filterMap fun i => L[i]?).map fun p => hsh kn p.2) = l.map fun i => (es.map (·.1)).getD i 0 := by
    intro l
    induction l with
    | nil => intro _; exact ⟨rfl, rfl⟩
    | cons i l ih =>
      intro hl
      obtain ⟨e1, e2⟩ := ih fun j hj => hl j (List.mem_cons_of_mem _ hj)
      have hi := hl i List.mem_cons_self
      obtain ⟨p, hp⟩ : ∃ p, L[i]? = some p := ⟨_, List.getElem?_eq_getElem hi⟩
      have hrow := row_at hr hp
      rw [List.filterMap_cons_some hrow, List.filterMap_cons_some hp, List.map_cons, List.map_cons, List.map_cons, e1, e2]
      refine ⟨rfl, ?_⟩
      have e3 : (es.map (·.1))[i]? = some (hsh kn p.2) := by rw [Array.getElem?_map, hrow]; rfl
      have e4 : (es.map (·.1)).getD i 0 = hsh kn p.2 := by simp [Array.getD_eq_getD_getElem?, e3]
      rw [e4]
  obtain ⟨e1, e2⟩ := each order.toList fun i hi => List.mem_range.mp (hp.mem_iff.mp hi)
  refine ⟨_, by first | (rw [Array.toList_filterMap]; exact e1) | simpa using e1, ?_, e2⟩
  have all : (List.range L.length).filterMap (fun i => L[i]?) = L := by
    have z : ∀ n, n ≤ L.length → (List.range n).filterMap (fun i => L[i]?) = L.take n := by
      intro n
      induction n with
      | zero => intro _; rfl
      | succ n ih =>
        intro hn
        rw [List.range_succ, List.filterMap_append, ih (Nat.le_of_lt hn), List.take_succ, List.getElem?_eq_getElem hn, List.filterMap_cons_some (List.getElem?_eq_getElem hn)]; rfl
    rw [z _ (Nat.le_refl _), List.take_length]
  have h := hp.filterMap fun i => L[i]?
  rwa [all] at h
variable {a : Addr} {L : List (Addr × List κ)} {es : Array (Int × Value)} {ep : Nat} {t : SetTable}
/-- a larger table -/
theorem larger {o : Obj} (ho : s.heap.get? a = some o) (hx : o.ExactSet) (hd : o.data = .set es ep t) (rows : es.toList = L.map (row kn)) (sz : t.place.size = es.size) (dm : t.dummies = #[]) (fl : es.size ≤ t.mask)
    (one : (L.map Prod.snd).Nodup) (led : w.params.followText "set-order" = true ∨ t.led = true) (few : L.length < 64) {wanted M : Nat}
    (hw : SetTable.sizeAbove wanted - 1 = M) (hM : MaskOk M) (hw2 : SetTable.sizeAbove wanted ≤ 128) (room : L.length * 5 < M * 3) {Q : Unit → Shared → Prop}
    (q : ∀ h' L' es' ep' t', Heap.SameBut a s.heap h' → Tb kn h' a L' es' ep' t' → L'.Perm L → Q () { s with heap := h' }) : wpAny (model P w) A (setRelay a wanted) Q E s := by
  have hn := rows_len rows
  obtain ⟨t2, order, e, hp, T, em, el, _, _⟩ := relaid_ok t (hs := es.map (·.1)) (wanted := wanted) hw hM (by rw [Array.size_map, hn]; omega)
  rw [Array.size_map, hn] at hp
  obtain ⟨N, r1, r2, r3⟩ := reorder rows hp
  rw [← r3] at T
  have hz : (order.filterMap (es[·]?)).size = es.size := by rw [rows_len r1, r2.length_eq, hn]
  rw [setRelay_eq]
  refine wpAny_bind (wpAny_setState_of ho hd (fits_of sz dm fl) ?_)
  dsimp only
  refine wp_if_neg (by rw [sizeLine_eq]; omega) ?_
  try refine wpAny_bind (wpAny_pure ?_)
  rw [e]
  dsimp only
  refine wpAny_bind ?_
  refine wp_if_neg (by rw [hz]; simp) ?_
  try refine wpAny_bind (wpAny_pure ?_)
  refine wpAny_pure ?_
  dsimp only
  refine wpAny_storeSet_of ho hd ?_ (by rw [hz, hn, sizeLine_eq]; omega)
  have but : Heap.SameBut a s.heap (s.heap.update a (Obj.putSet (order.filterMap (es[·]?)) t2)) := Heap.SameBut.update ..
  refine q _ N _ (ep + 1) t2 but ⟨⟨_, store_at ho hd, ⟨hx.1, hx.2.1, hx.2.2⟩, rfl⟩, r1, T, (r2.map Prod.snd).nodup_iff.mpr one, by rw [el]; exact led, by rw [r2.length_eq, em]; exact room, by rw [r2.length_eq]; exact few⟩ r2
theorem plain_off {t : SetTable} {hs : List Int} (T : TabOk t hs) : TabOk { t with plain := false } hs := ⟨T.ris, T.dm, T.sz, T.mok, T.bd, T.reach⟩
/-- one tuple put in -/
theorem adding (pl : Plain kn) (R : Tb kn s.heap a L es ep t) (R2 : All kn s.heap L) {x : Addr} {k : List κ} (hx : TupAt kn s.heap (x, k)) (hu : A.units < cLine) (few : L.length + 1 < 64) {Q : Bool → Shared → Prop}
    (q : ∀ b h' L' es' ep' t', Heap.SameBut a s.heap h' → Tb kn h' a L' es' ep' t' → (L' = L ∧ k ∈ L.map Prod.snd ∨ L'.Perm ((x, k) :: L)) → Q b { s with heap := h' }) :
    wpAny (model P w) A (setAddHashed a (.ref x) (hsh kn k)) Q E s := by
  obtain ⟨o, ho, hex, hd⟩ := R.obj
  have hn := rows_len R.rows
  have hroom := R.room
  unfold setAddHashed
  refine wpAny_holding ?_
  rw [show (100000 : Nat) = 99999 + 1 from rfl, setAddHashedIn_succ]
  refine wpAny_bind (wpAny_setState_of ho hd R.fit ?_)
  dsimp only
  refine wp_if_neg (by simp [byScan, Value.scannable]) ?_
  try refine wpAny_bind (wpAny_pure ?_)
  refine wpAny_bind (seek0 pl R R2 hx hu (fun hm => ?_) fun n hm free full => ?_)
  · dsimp only
    exact wpAny_pure (q false s.heap L es ep t (Heap.SameBut.refl a s.heap) R (.inl ⟨rfl, hm⟩))
  dsimp only
  refine wpAny_bind (wpAny_setState_of ho hd R.fit ?_)
  dsimp only
  obtain ⟨q1, q2, q3, q4, q5, _, _, _, q9⟩ := R.tab.put free full
  generalize t.put (way t.mask (hsh kn k) n) = pt at q1 q3 q4 q5 q9 ⊢
  obtain ⟨t0, p0⟩ := pt
  dsimp only at q1 q3 q4 q5 q9 ⊢
  subst q1
  generalize SetTable.below t.place (way t.mask (hsh kn k) n) = p at q2 q3 ⊢
  -- whatever the table is called now
  have fin : ∀ t1 : SetTable, TabOk t1 ((L.map fun p => hsh kn p.2).take p ++ hsh kn k :: (L.map fun p => hsh kn p.2).drop p) → t1.mask = t.mask → t1.led = t.led → t1.fill = (L.map fun p => hsh kn p.2).length + 1 →
      wpAny (model P w) A (do
        storeSet a (SetTable.insertAt es p (hsh kn k, .ref x)) t1
        if !false && t1.tooFull then setRelay a (SetTable.grown (es.size + 1))
        return true) Q E s := by
    intro t1 T1 em el ef
    have hins : (SetTable.insertAt es p (hsh kn k, Value.ref x)).toList = (L.take p ++ (x, k) :: L.drop p).map (row kn) := by
      rw [SetTable.toList_insertAt, map_mid, R.rows]; rfl
    have pm := mid_perm L p (x, k)
    have hlen : (L.take p ++ (x, k) :: L.drop p).length = L.length + 1 := pm.length_eq
    have T2 : TabOk t1 ((L.take p ++ (x, k) :: L.drop p).map fun p => hsh kn p.2) := by rw [map_mid]; exact T1
    have one1 : ((L.take p ++ (x, k) :: L.drop p).map Prod.snd).Nodup := by
      refine (pm.map Prod.snd).nodup_iff.mpr ?_
      rw [List.map_cons]
      exact List.nodup_cons.mpr ⟨hm, R.one⟩
    have hsz := rows_len hins
    rw [hlen] at hsz
    generalize SetTable.insertAt es p (hsh kn k, Value.ref x) = es1 at hins hsz ⊢
    generalize L.take p ++ (x, k) :: L.drop p = L1 at pm hlen T2 one1 hins
    refine wpAny_bind (wpAny_storeSet_of ho hd ?_ (by rw [hsz, sizeLine_eq]; omega))
    have but : Heap.SameBut a s.heap (s.heap.update a (Obj.putSet es1 t1)) := Heap.SameBut.update ..
    have ho1 := store_at (es' := es1) (t' := t1) ho hd
    generalize s.heap.update a (Obj.putSet es1 t1) = h1 at but ho1 ⊢
    have led1 : w.params.followText "set-order" = true ∨ t1.led = true := by rw [el]; exact R.led
    cases full1 : t1.tooFull with
    | true =>
      have hb : (L.length + 1) * 5 ≥ t.mask * 3 := by
        have h := full1
        unfold SetTable.tooFull at h
        rw [decide_eq_true_eq, ef, em, List.length_map] at h
        exact h
      have two : (t.mask = 7 ∧ L.length = 4) ∨ (t.mask = 31 ∧ L.length = 18) := by
        rcases R.tab.mok with e | e | e <;> rw [e] at hb hroom
        · exact .inl ⟨e, by omega⟩
        · exact .inr ⟨e, by omega⟩
        · exfalso; omega
      have go : ∀ M, SetTable.sizeAbove (SetTable.grown (es.size + 1)) - 1 = M → MaskOk M → SetTable.sizeAbove (SetTable.grown (es.size + 1)) ≤ 128 → (L.length + 1) * 5 < M * 3 →
          wpAny (model P w) A (setRelay a (SetTable.grown (es.size + 1))) (fun _ s' => wpAny (model P w) A (pure true) Q E s') E { s with heap := h1 } := fun M g1 g2 g3 g4 => by
        refine larger (s := { s with heap := h1 }) ho1 ⟨hex.1, hex.2.1, hex.2.2⟩ rfl hins (by rw [tab_len T2, hsz, hlen]) T2.dm (by rw [hsz, em]; omega) one1 led1 (by rw [hlen]; exact few) g1 g2 g3 (by rw [hlen]; exact g4) ?_
        intro h2 L2 es2 ep2 t2 but2 R3 pm2
        exact wpAny_pure (q true h2 L2 es2 ep2 t2 (but.trans but2) R3 (.inr (pm2.trans pm)))
      first
        | (refine wpAny_bind ?_; refine wp_if_pos (by simp) ?_)
        | (refine wp_if_pos (by simp) ?_; refine wpAny_bind ?_)
      rcases two with ⟨_, e2⟩ | ⟨_, e2⟩
      · exact go 31 (by rw [hn, e2, size_20]) (.inr (.inl rfl)) (by rw [hn, e2, size_20]; decide) (by omega)
      · exact go 127 (by rw [hn, e2, size_76]) (.inr (.inr rfl)) (by rw [hn, e2, size_76]; decide) (by omega)
    | false =>
      first
        | refine wp_if_neg (by simp) ?_
        | (refine wpAny_bind ?_; refine wp_if_neg (by simp) ?_; refine wpAny_pure ?_)
      refine wpAny_pure (q true h1 L1 es1 (ep + 1) t1 but ⟨⟨_, ho1, ⟨hex.1, hex.2.1, hex.2.2⟩, rfl⟩, hins, T2, one1, led1, ?_, by rw [hlen]; exact few⟩ (.inr pm))
      have h := full1
      unfold SetTable.tooFull at h
      rw [decide_eq_false_iff_not, ef, em, List.length_map] at h
      rw [hlen, em]
      omega
  by_cases hpl : t0.plain = true
  · first
      | (refine wpAny_bind ?_; refine wp_if_pos hpl ?_; refine by_value pl hx fun r => ?_)
      | (refine wp_if_pos hpl ?_; refine wpAny_bind (by_value pl hx fun r => ?_))
    cases r with
    | true => simp only [if_true]; exact fin t0 q3 q4 q5 q9
    | false => simp only [Bool.false_eq_true, if_false]; exact fin _ (plain_off q3) q4 q5 q9
  · first
      | (refine wpAny_bind ?_; refine wp_if_neg hpl ?_; refine wpAny_pure ?_)
      | (refine wp_if_neg hpl ?_; refine wpAny_bind (wpAny_pure ?_))
    simp only [if_true]; exact fin t0 q3 q4 q5 q9
end
section
variable {P : Program} {w : World} {κ : Type} [DecidableEq κ] {kn : KeyKind P w κ} {A : Around} {E : Value → Shared → Prop} {s : Shared}
/-- L has what the first i of ks are, each once -/
structure Has (ks : List (Addr × List κ)) (i : Nat) (L : List (Addr × List κ)) : Prop where
  from_ : ∀ p ∈ L, p ∈ ks
  all : ∀ p ∈ ks.take i, p.2 ∈ L.map Prod.snd
  len : L.length ≤ i
theorem has_next {ks L L' : List (Addr × List κ)} {i : Nat} {x : Addr × List κ} (g : Has ks i L) (h : ks[i]? = some x) (c : (L' = L ∧ x.2 ∈ L.map Prod.snd) ∨ L'.Perm (x :: L)) : Has ks (i + 1) L' := by
  have tk : ks.take (i + 1) = ks.take i ++ [x] := by rw [List.take_succ, h]; rfl
  rcases c with ⟨rfl, hm⟩ | pm
  · refine ⟨g.from_, fun p hp => ?_, Nat.le_succ_of_le g.len⟩
    rw [tk] at hp
    rcases List.mem_append.mp hp with z | z
    · exact g.all p z
    · rw [List.mem_singleton.mp z]; exact hm
  · refine ⟨fun p hp => ?_, fun p hp => ?_, by rw [pm.length_eq]; exact Nat.succ_le_succ g.len⟩
    · rcases List.mem_cons.mp (pm.mem_iff.mp hp) with e | z
      · rw [e]; exact List.mem_of_getElem? h
      · exact g.from_ p z
    · rw [(pm.map Prod.snd).mem_iff, List.map_cons, List.mem_cons]
      rw [tk] at hp
      rcases List.mem_append.mp hp with z | z
      · exact .inr (g.all p z)
      · exact .inl (congrArg Prod.snd (List.mem_singleton.mp z))
theorem tb_keep {h h' : Heap} {a : Addr} {L : List (Addr × List κ)} {es : Array (Int × Value)} {ep : Nat} {t : SetTable} (R : Tb kn h a L es ep t) (k : ∀ o, h.get? a = some o → h'.get? a = some o) : Tb kn h' a L es ep t := by
  obtain ⟨o, ho, r⟩ := R.obj
  exact ⟨⟨o, k o ho, r⟩, R.rows, R.tab, R.one, R.led, R.room, R.few⟩
theorem tb_new {h : Heap} {a : Addr} (ho : h.get? a = some (DP.newSet w)) : Tb kn h a [] #[] 0 (.fresh 0 0 (!w.params.followText "set-order")) where
  obj := ⟨_, ho, ⟨rfl, rfl, rfl⟩, rfl⟩
  rows := rfl
  tab := ⟨.nil, rfl, rfl, .inl rfl, fun x h => (by cases h), fun i h j e => (by simp at e)⟩
  one := .nil
  led := by
    cases e : w.params.followText "set-order" with
    | true => exact .inl rfl
    | false => exact .inr rfl
  room := (by decide : 0 * 5 < 7 * 3)
  few := (by decide : 0 < 64)
/-- the loop of set.update over a list of tuples -/
theorem filling (pl : Plain kn) {I : Addr} {fp wr : List Addr} {G : Array GenState → Array GenState → Prop} {n : Nat} {Pv : Nat → Value → Prop} {St : Nat → Shared → Prop} {R : Result → Shared → Prop}
    (W : WalksS P w A.in1 I fp wr G n Pv St) {S : Addr} (hSf : S ∉ fp) {ks : List (Addr × List κ)} (few : ks.length < 64) (val : ∀ i v, Pv i v → ∃ p, ks[i]? = some p ∧ v = .ref p.1)
    {h0 : Heap} (hk : All kn h0 ks) (hS0 : h0.get? S = none) (hw0 : ∀ b ∈ wr, h0.get? b = none) (hu : A.in1.units < cLine)
    (q : ∀ s1 s' L es ep t, Moved (S :: wr) G s1 s' → Tb kn s'.heap S L es ep t → Has ks n L → (∀ b o, h0.get? b = some o → s'.heap.get? b = some o) → s1 = s → R (.ok (.ret .none)) s') :
    ∀ (j i : Nat) (s2 : Shared), n - i = j → i ≤ n → St i s2 → (∀ b o, h0.get? b = some o → s2.heap.get? b = some o) → (∃ L es ep t, Tb kn s2.heap S L es ep t ∧ Has ks i L) → (i = 0 → s2 = s) → (i ≠ 0 → Moved (S :: wr) G s s2) →
      codeAny (model P w) A (.builtin "set.update.loop" ⟨[.ref S, .ref I], []⟩) R s2 := by
  have hSw : S ∉ wr := fun h => hSf (W.sub _ h)
  have inS : ∀ b ∈ wr, b ∈ S :: wr := fun b hb => List.mem_cons_of_mem _ hb
  have still : ∀ {x y : Shared}, Moved wr G x y → (∀ b o, h0.get? b = some o → x.heap.get? b = some o) → ∀ b o, h0.get? b = some o → y.heap.get? b = some o := fun m k b o e => m.heap b o (fun hb => by rw [hw0 b hb] at e; cases e) (k b o e)
  have join : ∀ {i : Nat} {x y : Shared}, (i = 0 → x = s) → (i ≠ 0 → Moved (S :: wr) G s x) → Moved (S :: wr) G x y → Moved (S :: wr) G s y := fun {i x y} e0 e1 m => by
    by_cases c : i = 0
    · rw [← e0 c]; exact m
    · exact Moved.trans W.gtrans (e1 c) m
  intro j
  induction j with
  | zero =>
    intro i s2 hj hi hst kp ⟨L, es, ep, t, T, g⟩ e0 e1
    have hin : i = n := by omega
    subst hin
    refine codeAny_builtin F.entry_set_update_loop ?_
    rw [Around.under_plainId F.plain_set_update_loop _]
    show wpAny _ A.in1 (pyNext (.ref I) >>= _) _ _ s2
    refine wpAny_bind (W.done s2 _ _ hst fun s3 m => ?_)
    exact wpAny_pure (q s s3 L es ep t (join e0 e1 (m.mono inS)) (tb_keep T fun o e => m.heap S o hSw e) g (still m kp) rfl)
  | succ j ih =>
    intro i s2 hj hi hst kp ⟨L, es, ep, t, T, g⟩ e0 e1
    have hlt : i < n := by omega
    refine codeAny_builtin F.entry_set_update_loop ?_
    rw [Around.under_plainId F.plain_set_update_loop _]
    show wpAny _ A.in1 (pyNext (.ref I) >>= _) _ _ s2
    refine wpAny_bind (W.item i s2 _ _ hlt hst fun v s3 hP hst3 m => ?_)
    obtain ⟨p, hp, rfl⟩ := val i v hP
    have kp3 := still m kp
    have T3 : Tb kn s3.heap S L es ep t := tb_keep T fun o e => m.heap S o hSw e
    have hx : TupAt kn s3.heap p := tup_keep (hk p (List.mem_of_getElem? hp)) kp3
    have hL : All kn s3.heap L := fun r hr => tup_keep (hk r (g.from_ r hr)) kp3
    show wpAny _ A.in1 (holding [Value.ref p.1] (setAdd S (.ref p.1)) >>= _) _ _ s3
    refine wpAny_bind (wpAny_holding ?_)
    unfold setAdd
    refine wpAny_holding (wpAny_bind (wpAny_pyHash_tuple hu hx ?_))
    have hlen := (List.getElem?_eq_some_iff.mp hp).1
    refine adding (s := { s3 with toks := s3.toks + (p.2.length + 1) }) pl T3 hL hx hu (by have := g.len; omega) fun b h4 L4 es4 ep4 t4 but T4 c => ?_
    have keepB : ∀ b o, b ≠ S → s3.heap.get? b = some o → h4.get? b = some o := fun b o hb e => (but.2 b hb).trans e
    refine wpAny_pure ⟨plainId_quiet F.plain_set_update_loop _, ih (i + 1) _ (by omega) hlt (W.frame _ s3 _ _ hst3 (Nat.le_add_right _ _) fun b hb o e => keepB b o (fun e2 => hSf (e2 ▸ hb)) e) (fun b o e => keepB b o (fun z => by rw [z, hS0] at e; cases e) (kp3 b o e)) ⟨L4, es4, ep4, t4, T4, has_next g hp c⟩ (fun z => absurd z (Nat.succ_ne_zero _)) fun _ => ?_⟩
    exact join e0 e1 ((m.mono inS).then_heap (Nat.le_add_right _ _) fun b o hb e => keepB b o (fun z => hb (z ▸ List.mem_cons_self)) e)
/-- set(xs) -/
theorem set_made (pl : Plain kn) {l : Addr} {its : Array Value} (ks : List (Addr × List κ)) {Q : Value → Shared → Prop} (hh : A.handled = none) (hl : s.heap.IsList l its) (hit : its.toList = ks.map fun p => Value.ref p.1)
    (hk : All kn s.heap ks) (few : ks.length < 64) (hu : A.units + 3 < cLine)
    (q : ∀ (h' : Heap) (tk : Nat) L es ep t, Tb kn h' s.heap.objs.size L es ep t → Has ks ks.length L → (∀ b o, s.heap.get? b = some o → h'.get? b = some o) → Q (.ref s.heap.objs.size) { s with heap := h', toks := tk }) :
    wpAny (model P w) A (call (.type "set") [.ref l]) Q E s := by
  have hz : its.size = ks.length := by
    have e := congrArg List.length hit
    rwa [Array.length_toList, List.length_map] at e
  have C := F.called_set
  obtain ⟨c, tl, hmro⟩ := C.mro
  have hmade := C.made; have hsub := C.sub
  refine wpAny_call (codeAny_of_tree ?_)
  show wpAny _ _ (callAny (.type "set") _) _ _ _
  refine wpAny_pure ⟨Code.quiet_builtin _ (by decide +kernel), codeAny_builtin F.entry_type_call ?_⟩
  rw [Around.under_plain (weight_type_call_type "set" [.ref l] []) rfl]
  have h1 := C.notType; have h2 := C.canCreate
  have hct := F.typeCall_set_1 (.ref l)
  repeat (any_goals (first | assumption | wp_step))
  refine codeAny_mono (code_set_led1 (.ref l) (E := E) (Q₁ := fun obj s₁ => obj = .ref s.heap.objs.size ∧ s₁ = { s with heap := s.heap.push (DP.newSet w) }) ⟨rfl, rfl⟩) fun r s₁ hr => ?_
  cases r with
  | error e => exact hr
  | ok fl =>
  cases fl with
  | ret obj =>
    obtain ⟨rfl, rfl⟩ := hr
    have hS : (s.heap.push (DP.newSet w)).get? s.heap.objs.size = some (DP.newSet w) := Heap.get?_push_size _ rfl
    have hT : Shared.TypeIs { s with heap := s.heap.push (DP.newSet w) } (.ref s.heap.objs.size) "set" := ⟨_, hS, rfl⟩
    have hli := C.init.lookup; have hbi := C.init.bind (.ref s.heap.objs.size)
    repeat (any_goals (first | assumption | wp_step))
    refine codeAny_mono (codeAny_call_builtin (R := wants (fun r s₂ => r = .none ∧ ∃ h' tk L es ep t, s₂ = { s with heap := h', toks := tk } ∧ Tb kn h' s.heap.objs.size L es ep t ∧ Has ks ks.length L ∧ ∀ b o, s.heap.get? b = some o → h'.get? b = some o) E) C.init.plain F.entry_set_init (check_set_init_1 hT ?_)) fun r₂ s₂ hr₂ => ?_
    · obtain ⟨⟨ocls, odict, odata, oslots⟩, hol, hcl, nl, hdl⟩ := hl
      simp only at hcl hdl
      subst hcl hdl
      have hol' : (s.heap.push (DP.newSet w)).get? l = some { cls := .type "list", dict := odict, data := .seq its nl, slots := oslots } := Heap.get?_push_of_some _ hol
      have hsls := F.sub_list_set; have hslf := F.sub_list_frozenset
      have hne : (Value.type "list" == Value.type "dict") = false := by decide
      have hl1 : (s.heap.push (DP.newSet w)).IsList l its := ⟨_, hol', rfl, nl, rfl⟩
      unfold Builtin.«set.__init__» noKeywords Builtin.Frozenset.updateFrom
      generalize hPI : pyIter = PI
      wp_walk
      subst hPI
      refine wpAny_pyIter_list hl1 (wpAny_bind (wpAny_runValue ?_))
      have hlS : l < s.heap.objs.size := Heap.lt_size hol
      have hh3 : A.in1.in1.in1.handled = none := by simp [hh]
      have sz : (s.heap.push (DP.newSet w)).objs.size = s.heap.objs.size + 1 := Heap.size_push ..
      have neI : l ≠ (s.heap.push (DP.newSet w)).objs.size := by rw [sz]; exact Nat.ne_of_lt (Nat.lt_succ_of_lt hlS)
      have hSf : s.heap.objs.size ∉ [(s.heap.push (DP.newSet w)).objs.size, l] := by
        rw [sz]; simp only [List.mem_cons, List.not_mem_nil, or_false, not_or]; exact ⟨Nat.ne_of_lt (Nat.lt_succ_self _), Nat.ne_of_gt hlS⟩
      have val : ∀ (i : Nat) (v : Value), its[i]? = some v → ∃ p, ks[i]? = some p ∧ v = .ref p.1 := fun i v hv => by
        have e : its.toList[i]? = some v := by rw [Array.getElem?_toList]; exact hv
        rw [hit, List.getElem?_map, Option.map_eq_some_iff] at e
        obtain ⟨p, e1, e2⟩ := e
        exact ⟨p, e1, e2.symm⟩
      have gone : ∀ b, s.heap.objs.size ≤ b → s.heap.get? b = none := fun b hb => by
        cases e : s.heap.get? b with
        | none => rfl
        | some o => exact absurd (Heap.lt_size e) (Nat.not_lt.mpr hb)
      refine filling pl ((Walks.list hh3 _ l neI its).toS) hSf few val hk (gone _ (Nat.le_refl _)) (fun b hb => gone b (by rw [List.mem_singleton.mp hb, sz]; exact Nat.le_succ _)) hu ?fin (its.size - 0) 0 _ (by omega) (Nat.zero_le _) ⟨⟨_, Heap.get?_push_size _ rfl, rfl, rfl⟩, (hl1.push _)⟩ (fun b o e => Heap.get?_push_of_some _ (Heap.get?_push_of_some _ e)) ⟨[], _, _, _, tb_new (Heap.get?_push_of_some _ hS), ⟨fun p h => (by cases h), fun p h => (by simp at h), Nat.le_refl _⟩⟩ (fun _ => rfl) fun z => absurd rfl z
      case fin =>
        intro s1 s' L es ep t m T g k es1
        subst es1
        obtain ⟨h', g2, d', tk', os'⟩ := s'
        have eg : g2 = s.gens := m.gens
        have ed : d' = s.drawn := m.drawn
        have eo : os' = s.os := m.os
        subst eg ed eo
        refine wpAny_pure (?_ : wpAny _ _ (ret Value.none) _ _ _)
        rw [hz] at g
        exact wpAny_pure ⟨rfl, h', tk', L, es, ep, t, rfl, T, g, k⟩
    · cases r₂ with
      | error e => exact hr₂
      | ok fl₂ =>
      cases fl₂ with
      | ret r =>
        obtain ⟨rfl, h', tk, L, es, ep, t, rfl, T, g, k⟩ := hr₂
        repeat (any_goals (first | assumption | wp_step))
        exact q _ _ _ _ _ _ T g k
      | _ => exact hr₂.elim
  | _ => exact hr.elim
end
end SD
/-! The rules: set(xs) of a list of tuples of whole numbers and texts; sorted of such a set. -/
namespace SD
open PySem PySem.Spec PyProof.Rows L2 DP
theorem mix_plain (P : Program) (w : World) : Plain (mixKind P w) := fun k v h => by
  rcases keyIs_shape h with ⟨i, t, _, rfl⟩ | ⟨x, t, _, rfl⟩ <;> rfl
/-- a set with the tuples L -/
def SetDO (P : Program) (w : World) (a : Addr) (L : List (Addr × List Key)) : HO := .ext fun h => ∃ es ep t, Tb (mixKind P w) h a L es ep t
theorem set_new {P : Program} {w : World} {H : Hp} {h : Heap} {a : Addr} {L : List (Addr × List Key)} {es : Array (Int × Value)} {ep : Nat} {t : SetTable} (R : Tb (mixKind P w) h a L es ep t) : ObjOk P w H h a (SetDO P w a L) := by
  have ⟨o, ho, r⟩ := R.obj
  exact ⟨⟨es, ep, t, R⟩, ⟨o, ho⟩, fun h1 h2 ⟨es', ep', t', R'⟩ k => ⟨es', ep', t', tb_keep R' k⟩⟩
theorem keys_of {P : Program} {w : World} : ∀ {k : List Key} {us : List Value}, Vals (k.map kV) us → ItemsAre (mixKind P w) k us
  | [], _, .nil => .nil
  | n :: k, _, .cons r t => .cons (by
      cases n with
      | inl i =>
        obtain ⟨tk, rfl⟩ := r
        simp [mixKind, keyIs, Value.isInt]
      | inr z =>
        obtain ⟨tk, rfl⟩ := r
        simp [mixKind, keyIs, Value.isStrOf]) (keys_of t)
theorem refs_eq : ∀ {ks : List (Addr × List Key)} {us : List Value}, Vals (ks.map fun p => V.ref p.1) us → us = ks.map fun p => Value.ref p.1
  | [], _, .nil => rfl
  | p :: ks, _, .cons r t => by
    cases r
    rw [refs_eq t]; rfl
theorem refs_vals : ∀ (ks : List (Addr × List Key)), Vals (ks.map fun p => V.ref p.1) (ks.map fun p => Value.ref p.1)
  | [] => .nil
  | p :: ks => .cons rfl (refs_vals ks)
def kD : Key → PyData
  | .inl i => .int i
  | .inr z => .str z
section
variable {X : Cx}
theorem tup_inv {pins : List (Addr × Obj)} {σ : L2.St} {H : Hp} {s : Shared} {p : Addr × List Key} (I : Inv X pins σ H s) (h : SqT X.K H p.1 (p.2.map kV)) : TupAt (mixKind X.prog X.w) s.heap p := by
  obtain ⟨its, r, ⟨o, ho, hc, n, hd⟩, _⟩ := I.tuple h
  exact ⟨o, its.toArray, n, ho, hc, hd, by simpa using keys_of r⟩
/-- the tuples of the list stand there -/
def Stand (K : PySem.W.Frag) (H : Hp) (ks : List (Addr × List Key)) : Prop := ∀ p ∈ ks, SqT K H p.1 (p.2.map kV)
theorem Stand.same {K : PySem.W.Frag} {H H' : Hp} {ks : List (Addr × List Key)} (h : Stand K H ks) (S : Same H H') : Stand K H' ks := fun p hp => Same.sqT S (h p hp)
def rSetD (K : PySem.W.Frag) (P : Program) (w : World) : List V → Hp → VK → Prop := fun xs H Q => ∃ (l : Addr) (ks : List (Addr × List Key)), xs = [V.ref l] ∧ SqL K H l (ks.map fun p => V.ref p.1) ∧ Stand K H ks ∧ ks.length < 64 ∧
  ∀ a L, H a = none → (∀ p ∈ L, p ∈ ks) → (∀ p ∈ ks, p.2 ∈ L.map Prod.snd) → (L.map Prod.snd).Nodup → Q (.ref a) (upd H a (SetDO P w a L))
theorem cr_setD (hc : X.calm = true) (hu : X.A.units + 64 < cLine) : CallR X (.type "set") (rSetD X.K X.prog X.w) := by
  intro pins s σ H xs us Q I r h
  obtain ⟨l, ks, rfl, hl, hk, few, q⟩ := h
  rw [Vals.ref1 r]
  obtain ⟨its, rv, pl, hz⟩ := I.list hl
  refine set_made (P := X.prog) (w := X.w) (mix_plain _ _) ks (I.ok.hd hc) pl.isList (by simpa using refs_eq rv) (fun p hp => tup_inv I (hk p hp)) few (by omega) fun h' tk L es ep t T g k => ?_
  refine ⟨.ref s.heap.objs.size, upd H s.heap.objs.size (SetDO X.prog X.w s.heap.objs.size L), I.laid (t' := tk) k (Nat.le_refl _) (set_new T), rfl, q _ L (I.hok.fresh (Nat.le_refl _)) g.from_ (fun p hp => ?_) T.one⟩
  exact g.all p (by rw [List.take_length]; exact hp)
end
section
variable {P : Program} {w : World} {A : Around} {E : Value → Shared → Prop} {s : Shared}
def encK (p : Addr × List Key) : PyData := .tuple (p.2.map kD)
theorem reads_parts : ∀ {k : List Key} {us : List Value} {h : Heap}, ItemsAre (mixKind P w) k us → ReadsAll h us (k.map kD) []
  | _, _, _, .nil => .nil
  | _, _, h, .cons (k := n) a t => by
    rcases keyIs_shape a with ⟨i, tk, rfl, rfl⟩ | ⟨x, tk, rfl, rfl⟩
    · exact .cons (as := []) (.int _ _) (reads_parts t)
    · exact .cons (as := []) (.str _ _) (reads_parts t)
theorem reads_tup {h : Heap} {p : Addr × List Key} (x : TupAt (mixKind P w) h p) : Reads h (.ref p.1) (encK p) [] := by
  obtain ⟨o, its, n, ho, hc, hd, hi⟩ := x
  exact .tuple ho hc hd (reads_parts hi)
theorem each_refs : ∀ L : List (Addr × List Key), PySem.W.EachIs (fun (u : Value) (p : Addr × List Key) => u = .ref p.1) (L.map fun q => Value.ref q.1) L
  | [] => .nil
  | p :: L => .cons rfl (each_refs L)
theorem of_each : ∀ {us : List Value} {L : List (Addr × List Key)}, PySem.W.EachIs (fun (u : Value) (p : Addr × List Key) => u = .ref p.1) us L → us = L.map fun q => Value.ref q.1
  | _, _, .nil => rfl
  | _, _, .cons a t => by rw [a, of_each t]; rfl
theorem each_reads {h : Heap} : ∀ {L : List (Addr × List Key)} {a : Addr}, All (mixKind P w) h L → PySem.W.EachIs (fun (u : Value) (p : Addr × List Key) => ∃ as, Reads h u (encK p) as ∧ a ∉ as) (L.map fun q => Value.ref q.1) L
  | [], _, _ => .nil
  | p :: L, _, k => .cons ⟨[], reads_tup (k p List.mem_cons_self), by simp⟩ (each_reads fun q hq => k q (List.mem_cons_of_mem _ hq))
/-- what is known of the parts so that tuples can be put in order -/
structure Even (L : List (Addr × List Key)) : Prop where
  alike : ∀ p ∈ L, ∀ q ∈ L, PySem.W.alike (encK p) (encK q) = true
  some_ : ∀ p ∈ L, p.2 ≠ []
theorem Even.sub {L M : List (Addr × List Key)} (e : Even L) (h : ∀ p ∈ M, p ∈ L) : Even M := ⟨fun p hp q hq => e.alike p (h p hp) q (h q hq), fun p hp => e.some_ p (h p hp)⟩
theorem depth_parts : ∀ k : List Key, PyData.depthAll (k.map kD) = 0
  | [] => rfl
  | .inl i :: k => by
    show PyData.depthAll (PyData.int i :: k.map kD) = 0
    rw [PyData.depthAll, depth_parts k]; rfl
  | .inr z :: k => by
    show PyData.depthAll (PyData.str z :: k.map kD) = 0
    rw [PyData.depthAll, depth_parts k]; rfl
theorem depth_tup (p : Addr × List Key) : (encK p).depth = 1 := by
  unfold encK
  rw [PyData.depth, depth_parts]
theorem sorted_set {a : Addr} {L : List (Addr × List Key)} {es : Array (Int × Value)} {ep : Nat} {t : SetTable} {Q : Value → Shared → Prop} (R : Tb (mixKind P w) s.heap a L es ep t) (R2 : All (mixKind P w) s.heap L) (hh : A.handled = none) (hu : A.units + 64 < cLine) (ev : Even L)
    (q : ∀ s' p (out : Array Value) (c : Nat) (M : List (Addr × List Key)), (∀ b o, s.heap.get? b = some o → s'.heap.get? b = some o) → s'.gens = s.gens → s'.os = s.os → s.heap.objs.size ≤ p → M.Perm L →
      s'.heap.get? p = some (seqObj "list" out c) → out.toList = (M.mergeSort (PySem.W.dataLe false encK)).map (fun q => Value.ref q.1) → Q (.ref p) s') :
    wpAny (model P w) A (call (.builtin "sorted") [.ref a]) Q E s := by
  obtain ⟨o, ho, hex, hd⟩ := R.obj
  have hn := rows_len R.rows
  have few := R.few
  refine Calls.call_function_entry kind_sorted plain_sorted entry_sorted (args_sorted1 _) ?_
  unfold Builtin.«sorted»
  refine wpAny_bind (m := checkCount "sorted" 1 1 _) (wpAny_pure ?_)
  refine wpAny_bind (collect_set (A := A.in1) hh ⟨o, ho, hex.1, hd⟩ R.fit (by unfold scanBound; omega) R.tab.ris R.led fun s1 vs k1 hz g1 o1 pm => ?_)
  have hv : es.toList.map (·.2) = L.map fun q => Value.ref q.1 := by
    rw [R.rows, List.map_map]; rfl
  rw [hv] at pm
  -- the values' own list of rows
  obtain ⟨M, eM, pL⟩ : ∃ M : List (Addr × List Key), vs = M.map (fun q => Value.ref q.1) ∧ M.Perm L := by
    have z : ∀ {xs ys : List Value}, xs.Perm ys → ∀ L : List (Addr × List Key), ys = L.map (fun q => Value.ref q.1) → ∃ M : List (Addr × List Key), xs = M.map (fun q => Value.ref q.1) ∧ M.Perm L := by
      intro xs ys pm
      induction pm with
      | nil => intro L e; exact ⟨L, e, .refl _⟩
      | @cons x l1 l2 _ ih =>
        intro L e
        cases L with
        | nil => cases e
        | cons p L =>
          injection e with e1 e2
          obtain ⟨M, e3, p3⟩ := ih L e2
          exact ⟨p :: M, by rw [e1, e3]; rfl, p3.cons p⟩
      | swap x y l =>
        intro L e
        cases L with
        | nil => cases e
        | cons p L =>
          cases L with
          | nil => injection e with _ e2; cases e2
          | cons q L =>
            injection e with e1 e2
            injection e2 with e2 e3
            exact ⟨q :: p :: L, by rw [e1, e2, e3]; rfl, .swap _ _ _⟩
      | trans _ _ ih1 ih2 =>
        intro L e
        obtain ⟨M, e3, p3⟩ := ih2 L e
        obtain ⟨N, e4, p4⟩ := ih1 M e3
        exact ⟨N, e4, p4.trans p3⟩
    exact z pm L rfl
  subst eM
  have hml : M.length < 64 := by rw [pL.length_eq]; exact few
  have evM : Even M := ev.sub fun p hp => pL.mem_iff.mp hp
  refine wpAny_bind (wpAny_newList ?_ (by rw [List.length_map, sizeLine_eq]; omega))
  have hoL : (s1.heap.push (seqObj "list" (M.map fun q => Value.ref q.1).toArray 0)).get? s1.heap.objs.size = some (seqObj "list" (M.map fun q => Value.ref q.1).toArray 0) := Heap.get?_push_size _ rfl
  have stand : All (mixKind P w) (s1.heap.push (seqObj "list" (M.map fun q => Value.ref q.1).toArray 0)) M := fun p hp => tup_keep (R2 p (pL.mem_iff.mp hp)) fun b u e => Heap.get?_push_of_some _ (k1 b u e)
  refine wpAny_bind (wpAny_holding (PySem.W.list_sort_data (enc := encK) (s := { s1 with heap := s1.heap.push (seqObj "list" (M.map fun q => Value.ref q.1).toArray 0) }) hoL (each_refs M) (each_reads stand) (fun d hd' d' hd2 => ?_) (.inl fun d hd' => ?_) (by rw [sizeLine_eq]; omega) (fun p _ => ?_) fun out ho2 eo => ?_))
  · obtain ⟨p, hp, rfl⟩ := List.mem_map.mp hd'
    obtain ⟨p2, hp2, rfl⟩ := List.mem_map.mp hd2
    exact evM.alike p hp p2 hp2
  · obtain ⟨p, hp, rfl⟩ := List.mem_map.mp hd'
    have h2 := evM.some_ p hp
    unfold encK
    cases e : p.2 with
    | nil => exact absurd e h2
    | cons k r => exact ⟨_, _, rfl⟩
  · rw [depth_tup]
    have e : A.in1.units ≤ A.units + 1 := by first | exact Nat.le_refl _ | (show _ ≤ _; simp [Around.in1, Around.units])
    omega
  · obtain ⟨c, hc⟩ := sortedHeap_at (vs := M.map fun q => Value.ref q.1) (out := List.toArray out) hoL
    refine wpAny_pure ⟨_, rfl, q _ s1.heap.objs.size (List.toArray out) c M (fun b u e => ?_) g1 o1 hz pL hc (by simpa using of_each eo)⟩
    have e2 := k1 b u e
    have hlt := Heap.lt_size e2
    show (sortedHeap (s1.heap.push (seqObj "list" (M.map fun q => Value.ref q.1).toArray 0)) s1.heap.objs.size (M.map fun q => Value.ref q.1) (List.toArray out)).get? b = some u
    rw [sortedHeap_old (Nat.ne_of_lt hlt) (by rw [size_push']; exact Nat.lt_succ_of_lt hlt)]
    exact Heap.get?_push_of_some _ e2
end
section
variable {X : Cx}
/-- sorted(a set of tuples) -/
def rSortSetD (K : PySem.W.Frag) (P : Program) (w : World) : List V → Hp → VK → Prop := fun vs H Q => ∃ (a : Addr) (L : List (Addr × List Key)), vs = [V.ref a] ∧ H a = some (SetDO P w a L) ∧ Stand K H L ∧ Even L ∧
  ∀ (M : List (Addr × List Key)) (p : Addr), M.Perm L → H p = none → Q (.ref p) (upd H p (.lst ((M.mergeSort (PySem.W.dataLe false encK)).map fun q => V.ref q.1)))
theorem cr_sortSetD (hc : X.calm = true) (hu : X.A.units + 64 < cLine) : CallR X (.builtin "sorted") (rSortSetD X.K X.prog X.w) := by
  intro pins s σ H vs us Q I r h
  obtain ⟨a, L, rfl, ha, st, ev, q⟩ := h
  obtain ⟨es, ep, t, R⟩ : ∃ es ep t, Tb (mixKind X.prog X.w) s.heap a L es ep t := (I.hok a _ ha).1
  rw [Vals.ref1 r]
  refine sorted_set R (fun p hp => tup_inv I (st p hp)) (I.ok.hd hc) hu ev fun s' p out c M k g o hp pm hg hout => ?_
  have few := R.few
  have hlen : ((M.mergeSort (PySem.W.dataLe false encK)).map fun q => V.ref q.1).length ≤ sizeLine := by rw [List.length_map, List.length_mergeSort, pm.length_eq, sizeLine_eq]; omega
  have hn : H p = none := I.hok.fresh hp
  have hv : Vals ((M.mergeSort (PySem.W.dataLe false encK)).map fun q => V.ref q.1) out.toList := by rw [hout]; exact refs_vals _
  have J : Inv X pins σ (upd H p (.lst ((M.mergeSort (PySem.W.dataLe false encK)).map fun q => V.ref q.1))) { s with heap := s'.heap, gens := s'.gens, drawn := s'.drawn, toks := s'.toks } :=
    I.call (ch := []) (Un.laid k hp hn) (I.hok.laid k hp ⟨hlen, out.toList, c, hv, hg⟩) (by rw [g]; exact I.bare) (fun _ z => nomatch z)
  have e : s' = { s with heap := s'.heap, gens := s'.gens, drawn := s'.drawn, toks := s'.toks } := by
    cases s'; cases s; cases o; rfl
  rw [e]
  exact ⟨.ref p, _, J, rfl, q M p pm hn⟩
theorem setDK {K : PySem.W.Frag} {P : Program} {w : World} (hc : X.calm = true) (hu : X.A.units + 64 < cLine) (h : X.K = K := by rfl) (hp : X.prog = P := by rfl) (hw : X.w = w := by rfl) : CallR X (.type "set") (rSetD K P w) := by subst h hp hw; exact cr_setD hc hu
theorem sortSetDK {K : PySem.W.Frag} {P : Program} {w : World} (hc : X.calm = true) (hu : X.A.units + 64 < cLine) (h : X.K = K := by rfl) (hp : X.prog = P := by rfl) (hw : X.w = w := by rfl) : CallR X (.builtin "sorted") (rSortSetD K P w) := by subst h hp hw; exact cr_sortSetD hc hu
end
end SD
/-! == and != by an own class's __eq__ and __ne__, whatever they answer. -/
namespace DP
open PySem PySem.Spec PyProof.Rows L2
theorem rooms64 {A : Around} {k : Nat} (hr : Room k A) : A.units + 64 < cLine := by have := hr.un; omega
/-- what isinstance asks of an own class's instances -/
structure IsiC (K : PySem.W.Frag) (C : Addr) : Prop where
  ha : PySem.W.findIn K (.ref C) "__class__" = some (some (.builtin "object.__class__"))
  hn : PySem.W.specialIn K (.builtin "object.__class__") "__get__" = some (some (.builtin "getset_descriptor.__get__"))
  htk : PySem.W.takesIn K (.builtin "object.__class__") = some true
  hm : PySem.W.mroIn K C (.type "object") = some true
theorem kit_self (K : PySem.W.Frag) (C : Addr) : PySem.W.kitOne K (.ref C) (.ref C) = some true := if_pos (beq_self_eq_true _)
theorem kit_no {K : PySem.W.Frag} {S : Addr} {t : Value} (h0 : (t == .ref S) = false) (h2 : PySem.W.isClsIn K S = true) (h3 : PySem.W.typeIn K (.ref S) = some (.type "type")) {b : Option Bool} (h4 : PySem.W.subIn K t (.ref S) = b) : PySem.W.kitOne K t (.ref S) = b := by
  have e2 : ((PySem.W.clsIn K S).isSome && PySem.W.typeIn K (.ref S) == some (.type "type")) = true := by
    have h2' : (PySem.W.clsIn K S).isSome = true := h2
    rw [h2', h3] <;> rfl
  show (if (t == .ref S) = true then some true else if ((PySem.W.clsIn K S).isSome && PySem.W.typeIn K (.ref S) == some (.type "type")) = true then PySem.W.subIn K t (.ref S) else none) = b
  rw [h0, if_neg Bool.false_ne_true, if_pos e2]
  exact h4
section
variable {X : Cx} {CX : CXT} {C f : Addr} {fd : FuncData} {ps : List Str} {sp : Sp} {E : XK} {k : Nat} {op : CmpOp}
/-- the right side: of the same class, a list, a whole number -/
inductive Right (K : PySem.W.Frag) (C : Addr) (H : Hp) : V → Prop
  | ins {b dy gs} : H b = some (.ins C dy gs) → Right K C H (.ref b)
  | lst {b xs} : SqL K H b xs → PySem.W.notFirst K C (.type "list") = true → Right K C H (.ref b)
  | int {i} : PySem.W.notFirst K C (.type "int") = true → Right K C H (.int i)
  | any {v t} : TyX K H v (.type t) → PySem.W.notFirst K C (.type t) = true → Right K C H v
def rOwn (K : PySem.W.Frag) (C : Addr) (sp : Sp) (E : XK) : V → V → Hp → VK → Prop := fun x y H Q => ∃ a dx fs, x = .ref a ∧ H a = some (.ins C dx fs) ∧ Right K C H y ∧ sp [x, y] H (fun v H' => ∃ b, v = .bl b ∧ Q (.bl b) H') E
theorem own_run (F : FnOk X.prog X.w X.K X.mg X.base CX k f fd ps sp) (hs : PySem.W.findIn X.K (.ref C) (cmpInfo op).2.1 = some (some (.ref f))) (hf : PySem.W.isFn X.K (.ref f) = true) (hb : Binds X.K fd ps []) (hx : Passes CX X E) (hr : Room k X.A) : ∀ (pins : List (Addr × Obj)) (s : Shared) (σ : L2.St) (H : Hp) (x y : V) (v u : Value) (Q : VK), Inv X pins σ H s → RelV x v → RelV y u → rOwn X.K C sp E x y H Q → wpAny (model X.prog X.w) X.A (richCompare op v u) (EP X pins σ Q) X.xe s := by
  intro pins s σ H x y v u Q I rx ry hq
  obtain ⟨a, dx, fs, rfl, ha, hy, q⟩ := hq
  cases rx
  obtain ⟨mA, J, _⟩ := ins_get I.hok ha
  obtain ⟨od, J, _⟩ := J.look
  obtain ⟨m, hF⟩ := I.fr
  obtain ⟨tb, hl, hn⟩ : ∃ tb, PySem.W.Looks (model X.prog X.w) s.heap (typeOf u) tb ∧ PySem.W.notFirst X.K C tb = true := by
    cases hy with
    | ins h =>
      cases ry
      obtain ⟨mB, J', _⟩ := ins_get I.hok h
      obtain ⟨od', J', _⟩ := J'.look
      exact ⟨.ref C, J'.type, by simp [PySem.W.notFirst]⟩
    | lst h hn =>
      cases ry
      obtain ⟨its, rv, pl, hz⟩ := I.list h
      exact ⟨_, fun A Q E s1 k q => (by
        obtain ⟨o, ho, hc, r⟩ := pl.isList
        exact wpAny_typeOf_ref (k _ _ ho) (by rw [hc]; exact q)), hn⟩
    | int hn =>
      obtain ⟨t, rfl⟩ := ry
      exact ⟨_, fun A Q E s1 k q => wpAny_pure q, hn⟩
    | any h hn =>
      obtain ⟨Pk, kx, hp, _⟩ := kit_of I ry h
      exact ⟨_, kx.ty _ _ I.kIn hp, hn⟩
  refine PySem.W.cmp_K (op := op) (tb := tb) hr.units0 hF I.ok.mod.kin J hl hn hs hf ?_
  have r2 : Vals [V.ref a, y] [Value.ref a, u] := .cons rfl (.cons ry .nil)
  have hlen := F.len _ _ _ _ q
  refine wpAny_call (codeAny_mono (F.run X.A X.stack s H ⟨[.ref a, u], []⟩ [.ref a, u] [.ref a, y] _ E hr I.env0 (by
    have := hb s [.ref a, u] I.kIn (by simpa using hlen)
    simpa using this) r2 q) fun r s' hq => ?_)
  cases r with
  | error e => exact hx pins σ H s e s' I hq
  | ok fl =>
    cases fl with
    | ret w =>
      obtain ⟨z, H', I', rz, b, ez, q2⟩ := I.after hq
      subst ez
      cases rz
      exact ⟨.bl b, H', I', rfl, q2⟩
    | next => exact hq.elim
    | brk => exact hq.elim
    | cont => exact hq.elim
theorem op_ownEq (F : FnOk X.prog X.w X.K X.mg X.base CX k f fd ps sp) (hs : PySem.W.findIn X.K (.ref C) "__eq__" = some (some (.ref f))) (hf : PySem.W.isFn X.K (.ref f) = true) (hb : Binds X.K fd ps []) (hx : Passes CX X E) (hr : Room k X.A) : OpR X (compareOp .Eq) (rOwn X.K C sp E) := fun pins s σ H x y v u Q I rx ry hq =>
  own_run (op := .Eq) F hs hf hb hx hr pins s σ H x y v u Q I rx ry hq
theorem op_ownNe (F : FnOk X.prog X.w X.K X.mg X.base CX k f fd ps sp) (hs : PySem.W.findIn X.K (.ref C) "__ne__" = some (some (.ref f))) (hf : PySem.W.isFn X.K (.ref f) = true) (hb : Binds X.K fd ps []) (hx : Passes CX X E) (hr : Room k X.A) : OpR X (compareOp .NotEq) (rOwn X.K C sp E) := fun pins s σ H x y v u Q I rx ry hq =>
  own_run (op := .NotEq) F hs hf hb hx hr pins s σ H x y v u Q I rx ry hq
/-- in a comprehension: K named -/
theorem ownEqK {K : PySem.W.Frag} {P : Program} {w : World} {mg : Str → Option Value} {base : Heap} (F : FnOk P w K mg base CX k f fd ps sp) (hs : PySem.W.findIn K (.ref C) "__eq__" = some (some (.ref f))) (hf : PySem.W.isFn K (.ref f) = true) (hb : Binds K fd ps []) (hx : Passes CX X E) (hr : Room k X.A) (h1 : X.prog = P := by rfl) (h2 : X.w = w := by rfl) (h3 : X.K = K := by rfl) (h4 : X.mg = mg := by rfl) (h5 : X.base = base := by rfl) : OpR X (compareOp .Eq) (rOwn K C sp E) := by
  subst h1 h2 h3 h4 h5
  exact op_ownEq F hs hf hb hx hr
end
end DP
/-! Calls by keywords, in any order, with defaults: functions, methods, classes. -/
namespace KW
open PySem PySem.Spec PyProof.Rows L2 DP
/-- those of a list that stand at these places -/
def pick {α : Type} (is : List Nat) (l : List α) : List α := is.filterMap fun i => l[i]?
theorem vals_at : ∀ {vs : List V} {us : List Value} (r : Vals vs us) (i : Nat), (vs[i]? = none ∧ us[i]? = none) ∨ ∃ v u, vs[i]? = some v ∧ us[i]? = some u ∧ RelV v u
  | _, _, .nil, i => .inl ⟨by simp, by simp⟩
  | _, _, .cons h t, 0 => .inr ⟨_, _, rfl, rfl, h⟩
  | _, _, .cons h t, i + 1 => by simpa using vals_at t i
theorem pick_rel {vs : List V} {us : List Value} (r : Vals vs us) : ∀ is : List Nat, Vals (pick is vs) (pick is us)
  | [] => .nil
  | i :: is => by
    unfold pick
    rw [List.filterMap_cons, List.filterMap_cons]
    rcases vals_at r i with ⟨e1, e2⟩ | ⟨v, u, e1, e2, h⟩
    · rw [e1, e2]; exact pick_rel r is
    · rw [e1, e2]; exact .cons h (pick_rel r is)
/-- positional values, then the rest out of the keywords' values and the defaults -/
def gk {α : Type} (is : List Nat) (ds us ws : List α) : List α := us ++ pick is (ws ++ ds)
theorem gk_rel {is : List Nat} {dv vs zs : List V} {ds us ws : List Value} (rd : Vals dv ds) (r : Vals vs us) (rz : Vals zs ws) : Vals (gk is dv vs zs) (gk is ds us ws) := r.append (pick_rel (rz.append rd) is)
/-- all parameters are given -/
theorem kbn0 {K : PySem.W.Frag} {fd : FuncData} {ps ks : List Str} {n : Nat} (is : List Nat) (h : ∀ us ws : List Value, us.length = n → ws.length = ks.length → bindArgs fd ⟨us, ks.zip ws⟩ = pure (ps.zip (gk is [] us ws))) : KBn K fd ps n ks (gk is []) (gk is []) :=
  ⟨fun s us ws _ h1 h2 => .of_eq (h us ws h1 h2), fun r rz => gk_rel .nil r rz⟩
section
variable {K : PySem.W.Frag} {x qual : Str} {params : Arguments} {body : List Stmt} {scope : Scope} {dvs : List V} {f : Addr} {fd : FuncData} {ps : List Str}
/-- the lacking ones stand among the defaults -/
theorem kbnD (F : FunD K x qual params body scope dvs [] f fd) (n : Nat) (ks : List Str) (is : List Nat) (hd : dvs ≠ [])
    (h : ∀ (T : Addr) (kV doc pm : Value) (an : Option Addr) (cdv ct : Value) (us its ws : List Value), us.length = n → its.length = dvs.length → ws.length = ks.length →
      ∃ k, bindArgs (PySem.W.fnOf x qual params body scope (.ref T) kV doc pm an cdv ct) ⟨us, ks.zip ws⟩ = seqItems? (.ref T) >>= k ∧ k (some its.toArray) = pure (ps.zip (gk is its us ws))) : ∃ its : List Value, KBn K fd ps n ks (gk is its) (gk is dvs) := by
  obtain ⟨oc, od, dV, kV, doc, pm, an, cdv, ct, osl, rfl, lk, hcd, hD, hK⟩ := F.ex
  rcases hD with ⟨e, _⟩ | ⟨_, T, o, its, m, rfl, lT, oT, rT⟩
  · exact absurd e hd
  · refine ⟨its, fun s us ws X l1 l2 => ?_, fun r rz => gk_rel rT r rz⟩
    obtain ⟨k, e1, e2⟩ := h T kV doc pm an cdv ct us its ws l1 rT.length.symm l2
    refine BindsTo.of_looks fun M => ?_
    rw [e1]
    exact looks_items X lT oT (.of_pure e2)
end
section
variable {X : Cx} {CX : CXT} {k : Nat} {f C : Addr} {fd : FuncData} {ps ks : List Str} {sp : Sp} {E : XK} {x m : Str} {p pos apos : Pos} {o : Expr} {kws : List Keyword} {ta : TE} {tk : TA} {g : List Value → List Value → List Value} {gV : List V → List V → List V}
def tCallN0 (c : Nat) (sp : Sp) (gV : List V → List V → List V) (E : XK) (tk : TA) : TE := fun σ H Q => tk σ H fun zs H2 => zs.length = c ∧ sp (gV [] zs) H2 Q E
/-- f(k = v, ..) -/
theorem pe_callN0 (F : FnOk X.prog X.w X.K X.mg X.base CX k f fd ps sp) (hr : Room k X.A) (hg : Gl X x) (hm : X.mg x = some (.ref f)) (hk : PySem.W.keepIn X.K (.ref f) = true) (hb : KBn X.K fd ps 0 ks g gV) (hx : Passes CX X E) (hkw : PK X kws tk)
    (hall : (backToKw pos (keywordEach kws X.env)).all (·.1.isSome) = true := by rfl) (hks : (backToKw pos (keywordEach kws X.env)).filterMap (·.1) = ks := by rfl) (hdb : (x == ("__debug__" : Str)) = false := by decide)
    (hpl : ((backTo pos (starEach [] X.env)).any (·.1) || (backToKw pos (keywordEach kws X.env)).any (·.1.isNone)) = false := by rfl) :
    PE X (.Call (.Name x p) [] kws pos) (tCallN0 ks.length sp gV E tk) := by
  refine ⟨fun pins s σ H Q I h => ?_⟩
  refine wpAny_Call_Name_kw (ld_glob I hg hm ?_ hdb)
  refine PySem.W.callWith_KW0 (h₀ := X.base) I.ok.mod.kin hk hall ?_ hpl
  refine thn (hkw.run pos pins s σ H _ I h) fun ws s2 ⟨zs, H2, I2, rz, l2, q2⟩ => ⟨I2.kIn, ?_⟩
  rw [hks]
  exact run_fnN (us := []) (vs := []) F hr hb hx I2 .nil rz rfl l2 q2
def tMethN (C : Addr) (m : Str) (c : Nat) (sp : Sp) (gV : List V → List V → List V) (E : XK) (ta : TE) (tk : TA) : TE := fun σ H Q => ta σ H fun x H1 => ∃ a dx fs, x = .ref a ∧ H1 a = some (.ins C dx fs) ∧ fs.lookup m = none ∧ tk σ H1 fun zs H2 => zs.length = c ∧ sp (gV [.ref a] zs) H2 Q E
/-- o.m(k = v, ..) -/
theorem pe_methN {pl : Sem Bool} (he : PE X o ta) (c : Cls X.K C) (hm : Meth X.K C m f) (F : FnOk X.prog X.w X.K X.mg X.base CX k f fd ps sp) (hr : Room k X.A) (hb : KBn X.K fd ps 1 ks g gV) (hx : Passes CX X E) (hkw : PK X kws tk)
    (hall : (backToKw pos (keywordEach kws X.env)).all (·.1.isSome) = true := by rfl) (hks : (backToKw pos (keywordEach kws X.env)).filterMap (·.1) = ks := by rfl)
    (hpl : ((backTo pos (starEach [] X.env)).any (·.1) || (backToKw pos (keywordEach kws X.env)).any (·.1.isNone)) = false := by rfl)
    (ht : eval (.Call (.Attribute o m apos) [] kws pos) X.env = (do
      let ov ← eval o X.env
      standAt apos.atName
      let (f, first) ← holding [ov] (getMethod ov m pl)
      callWith pos f first (backTo pos (starEach [] X.env)) (backToKw pos (keywordEach kws X.env))) := by rfl) :
    PE X (.Call (.Attribute o m apos) [] kws pos) (tMethN C m ks.length sp gV E ta tk) := by
  refine ⟨fun pins s σ H Q I h => ?_⟩
  refine PySem.W.methodCall_KW (pl := pl) (thn (he.run pins s σ H _ I h) fun u s1 ⟨x, H1, I1, rx, a, dx, fs, ex, ea, l, q⟩ => ?_) ht
  subst ex
  obtain rfl : u = Value.ref a := rx
  refine getmeth_ok I1 ea c hm l ?_
  refine PySem.W.callWith_KW0 (first := [.ref a]) (h₀ := X.base) I.ok.mod.kin hm.kp hall ?_ hpl
  refine thn (hkw.run pos pins s1 σ H1 _ I1 q) fun ws s2 ⟨zs, H2, I2, rz, l2, q2⟩ => ⟨I2.kIn, ?_⟩
  rw [hks]
  exact run_fnN (us := [.ref a]) (vs := [.ref a]) F hr hb hx I2 (.cons rfl .nil) rz rfl l2 q2
end
section
variable {P : Program} {w : World} {K : PySem.W.Frag} {mg : Str → Option Value} {base : Heap} {x qual : Str} {st : Stmt} {dvs : List V} {f : Addr} {fd : FuncData}
/-- a def with defaults, by its body -/
theorem FunD.okN {N ps : List Str} {k : Nat} {sp : Sp} (F : FunD K x qual (defArgs st) (defBody st) (defScope st) dvs [] f fd) (S : FnScope N ps (defScope st)) (len : ∀ vs H Q E, sp vs H Q E → vs.length = ps.length)
    (hbody : ∀ (cdv : Value) (A : Around) (outer : List Env) (s : Shared) (H : Hp) (vs : List V) (Q : VK) (E : XK), Room k (A.deeper (envOfC qual (defScope st) s.heap.objs.size f cdv)) → sp vs H Q E →
      ∃ t, PSs (cxOf CX0 P w K mg base N qual (defScope st) f cdv A outer s H E).nox (defBody st) t ∧ t { nx := fun _ H' => Q .non H', rt := Q } (start N vs) H) : FnOk P w K mg base CX0 (k + 1) f fd ps sp :=
  F.ok S len fun cdv A outer s H vs Q E hr hsp => by
    obtain ⟨t, h, q⟩ := hbody cdv A outer s H vs Q E hr hsp
    exact ⟨t, h.nox, q⟩
end
end KW
/-! sep.join(reversed(a list of texts)). -/
namespace DP
open PySem PySem.Spec PyProof.Rows L2
section
variable {prog : Program} {w : World} {A : Around} {E : Value → Shared → Prop} {s : Shared}
theorem join_rev {x : Str} {t : Tok} {it l : Addr} {items : Array Value} {ys : List Str} {Q : Value → Shared → Prop} (hh : A.handled = none) (hit : s.heap.IsRevIter it l ((items.size : Int) - 1)) (hl : s.heap.IsList l items) (hne : l ≠ it) (hn : items.size ≤ sizeLine)
    (hP : ∀ acc : Array Value, ItemsOf (fun i v => items[items.size - 1 - i]? = some v) acc items.size → StrsAre acc.toList ys) (hok : (ys.map (·.length)).sum + ys.length * x.length ≤ 16777216)
    (hq : ∀ h' k, (∀ b o, b ≠ it → s.heap.get? b = some o → h'.get? b = some o) → ∀ t', Q (.str (Txt.join x ys) t') { s with heap := h', toks := k }) :
    wpAny (model prog w) A (call (.builtin "str.join") [.str x t, .ref it]) Q E s := by
  refine wpAny_call (codeAny_call_builtin F.slot_str_join.plain F.entry_str_join (F.slot_str_join.check _ _ _ _ _ _ _ _ (typeIs_str _ _ _) (F.args_str_join_2 _ _) ?_))
  rw [join_tree_other]
  refine wpAny_bind (wpAny_typeOf hit.typeIs ?_)
  show wpAny _ A.in1 ((pyIter (.ref it)).tryCatch _ >>= fun it => collect it >>= fun items => joinTail x items) _ _ s
  refine wpAny_bind (wpAny_tryCatch (wpAny_pyIter_revIter hit ?_))
  refine wpAny_bind (RT.collect_rev (A := A.in1) hh hit hl hne hn fun h' tk acc hk hacc => ?_)
  obtain ⟨ps, hps, ht⟩ := strsAre_values (hP acc hacc)
  subst ht
  rw [hps]
  have hok' := joinOk_of hok
  unfold JoinOk at hok'
  rw [Bool.not_eq_true'] at hok'
  have g : Gives (joinTail x (strValues ps)) (joinMade x ps) := by
    have g0 := gives_joinTail x ps hok'
    cases ps with
    | nil => exact g0
    | cons p r => cases r with
      | nil => exact g0
      | cons q r' => exact g0
  exact g prog w A (wants Q E) { s with heap := h', toks := tk } (post_join ps ⟨joinFit_length hok', fun t' k => hq h' k hk t'⟩)
end
section
variable {X : Cx}
def tJoinRev (K : PySem.W.Frag) (to te : TE) : TE := fun σ H Q => to σ H fun x H1 => (∃ a, x = .str a) ∧ te σ H1 fun v H2 => ∃ (a : Str) (q : Addr) (ys : List Str),
  x = .str a ∧ v = .ref q ∧ SqL K H2 q (ys.map V.str) ∧ (ys.map (·.length)).sum + ys.length * a.length ≤ 16777216 ∧ Q (.str (Txt.join a ys.reverse)) H2
theorem pe_joinRev {K : PySem.W.Frag} {o e : Expr} {to te : TE} {apos pos p pos2 : Pos} (hc : X.calm = true) (ho : PE X o to) (hg : Gl X "reversed") (hm : X.mg "reversed" = none) (he : PE X e te) (hK : X.K = K := by rfl)
    (hs1 : starEach [.Call (.Name "reversed" p) [e] [] pos2] X.env = [(false, eval (.Call (.Name "reversed" p) [e] [] pos2) X.env)] := by rfl)
    (hs : starEach [e] X.env = (false, eval e X.env) :: starEach [] X.env := by rfl)
    (hbase : attributeBase o "join" X.env (eval o X.env) = eval o X.env := by rfl) (hline : (apos.endLine == pos.line) = true := by rfl) :
    PE X (.Call (.Attribute o "join" apos) [.Call (.Name "reversed" p) [e] [] pos2] [] pos) (tJoinRev K to te) := by
  subst hK
  refine ⟨fun pins s σ H Q I h => ?_⟩
  refine PySem.Call_method1 hbase hs1 hline (thn (ho.run pins s σ H _ I h) fun v s1 ⟨x, H1, I1, r1, q1⟩ => ?_)
  obtain ⟨⟨a, rfl⟩, q1⟩ := q1
  obtain ⟨t, rfl⟩ := _root_.id r1
  refine ⟨"str", _, F.plainAttrs_str, F.slot_str_join, F.type_str_join, typeIs_str _ _ _, (fun _ e => nomatch e), Calls.callWith_builtin rfl (Calls.evalArgs_plain (Calls.spliced_cons ?_))⟩
  refine Call_ (ld_blt I1 hg hm PyProof.Rows.boot_reversed (PyProof.Rows.callWith_type1 (args_cons (thn (he.run pins s1 σ H1 _ I1 q1) fun u s2 ⟨v, H2, I2, r2, q2⟩ => args_nil ?_) hs) hs rfl))
  obtain ⟨a', q, ys, ea, ev, hq, hz, q2⟩ := q2
  cases ea
  subst ev
  obtain rfl : u = Value.ref q := r2
  obtain ⟨its, rv, p', hsz⟩ := I2.list hq
  refine call_reversed_list p'.isList (Calls.spliced_nil ?_)
  have k0 : ∀ b o, s2.heap.get? b = some o → (s2.heap.push (revObj q ((its.toArray.size : Int) - 1))).get? b = some o := fun b o e => Heap.get?_push_of_some _ e
  have I3 : Inv X pins σ H2 { s2 with heap := s2.heap.push (revObj q ((its.toArray.size : Int) - 1)) } := I2.kept (t' := s2.toks) k0
  obtain ⟨f0, f1, f2, f3, f4, f5⟩ := I2.fpOk (H' := H2) (b := s2.heap.objs.size) (Nat.le_refl _) (I2.hok.fresh (Nat.le_refl _))
  have hl := p'.isList
  obtain ⟨ol, hol, _⟩ := id hl
  have hne : q ≠ s2.heap.objs.size := Nat.ne_of_lt (Heap.lt_size hol)
  have hn : its.toArray.size ≤ sizeLine := by rw [List.size_toArray, ← rv.length]; exact hsz
  refine join_rev (ys := ys.reverse) (s := { s2 with heap := s2.heap.push (revObj q ((its.toArray.size : Int) - 1)) }) (I2.ok.hd hc) ⟨_, Heap.get?_push_size _ rfl, rfl, rfl⟩ (hl.push _) hne hn (fun acc hacc => ?_) (by rw [List.map_reverse, List.sum_reverse, List.length_reverse]; exact hz) fun h' tk hk t' => ?_
  · have r := RT.vals_rev rv hacc
    rw [← List.map_reverse] at r
    exact L2.strs_of_vals r
  · exact ⟨.str _, H2, I3.turned (t' := tk) (fun b o hb e => hk b o hb e) f0 f1 f3 f4 f5, ⟨t', rfl⟩, q2⟩
end
end DP
namespace KA
open PySem PySem.Spec PyProof.Rows L2 DP
def top (i : Nat) : Stmt := PySem.Challenge.pw_darkpace_k52_hands_written.main.body.getD i (.Pass ⟨0, 0, 0, 0⟩)
abbrev slaw_tray : Stmt := top 35
abbrev N_law_tray : List Str := ["script", "fold", "great", "cell", "much"]
abbrev P_law_tray : List Str := ["script"]
theorem sclaw_tray : FnScope N_law_tray P_law_tray (defScope slaw_tray) := ⟨rfl, rfl, rfl, by decide +kernel, rfl, by decide +kernel, by decide +kernel⟩
abbrev slaw_draw : Stmt := top 36
abbrev N_law_draw : List Str := ["tray", "many", "found", "mixed"]
abbrev P_law_draw : List Str := ["tray", "many"]
theorem sclaw_draw : FnScope N_law_draw P_law_draw (defScope slaw_draw) := ⟨rfl, rfl, rfl, by decide +kernel, rfl, by decide +kernel, by decide +kernel⟩
abbrev slaw_great : Stmt := top 37
abbrev N_law_great : List Str := ["tray", "found", "k"]
abbrev P_law_great : List Str := ["tray"]
theorem sclaw_great : FnScope N_law_great P_law_great (defScope slaw_great) := ⟨rfl, rfl, rfl, by decide +kernel, rfl, by decide +kernel, by decide +kernel⟩
abbrev slaw_alike : Stmt := top 38
abbrev N_law_alike : List Str := ["found", "due", "k"]
abbrev P_law_alike : List Str := ["found", "due"]
theorem sclaw_alike : FnScope N_law_alike P_law_alike (defScope slaw_alike) := ⟨rfl, rfl, rfl, by decide +kernel, rfl, by decide +kernel, by decide +kernel⟩
abbrev slaw_length : Stmt := top 39
abbrev N_law_length : List Str := ["tray", "lot"]
abbrev P_law_length : List Str := ["tray"]
theorem sclaw_length : FnScope N_law_length P_law_length (defScope slaw_length) := ⟨rfl, rfl, rfl, by decide +kernel, rfl, by decide +kernel, by decide +kernel⟩
abbrev slaw_secret : Stmt := top 41
abbrev N_law_secret : List Str := ["tray", "size", "spots", "k", "rises", "spot", "lot", "base"]
abbrev P_law_secret : List Str := ["tray", "size"]
theorem sclaw_secret : FnScope N_law_secret P_law_secret (defScope slaw_secret) := ⟨rfl, rfl, rfl, by decide +kernel, rfl, by decide +kernel, by decide +kernel⟩
abbrev slaw_hand_shown : Stmt := top 42
abbrev N_law_hand_shown : List Str := ["size", "steps", "here", "there"]
abbrev P_law_hand_shown : List Str := ["size", "steps"]
theorem sclaw_hand_shown : FnScope N_law_hand_shown P_law_hand_shown (defScope slaw_hand_shown) := ⟨rfl, rfl, rfl, by decide +kernel, rfl, by decide +kernel, by decide +kernel⟩
abbrev slaw_steps : Stmt := top 43
abbrev N_law_steps : List Str := ["tray", "size", "steps", "found", "turn", "here", "there", "turned"]
abbrev P_law_steps : List Str := ["tray", "size"]
theorem sclaw_steps : FnScope N_law_steps P_law_steps (defScope slaw_steps) := ⟨rfl, rfl, rfl, by decide +kernel, rfl, by decide +kernel, by decide +kernel⟩
abbrev sfigures : Stmt := top 2
abbrev N_figures : List Str := ["number", "blocks"]
abbrev P_figures : List Str := ["number"]
theorem scfigures : FnScope N_figures P_figures (defScope sfigures) := ⟨rfl, rfl, rfl, by decide +kernel, rfl, by decide +kernel, by decide +kernel⟩
abbrev sshow_step : Stmt := top 3
abbrev N_show_step : List Str := ["step", "x", "y"]
abbrev P_show_step : List Str := ["step"]
theorem scshow_step : FnScope N_show_step P_show_step (defScope sshow_step) := ⟨rfl, rfl, rfl, by decide +kernel, rfl, by decide +kernel, by decide +kernel⟩
abbrev sshow_hand : Stmt := top 4
abbrev N_show_hand : List Str := ["hand", "steps", "step"]
abbrev P_show_hand : List Str := ["hand"]
theorem scshow_hand : FnScope N_show_hand P_show_hand (defScope sshow_hand) := ⟨rfl, rfl, rfl, by decide +kernel, rfl, by decide +kernel, by decide +kernel⟩
abbrev snumber_of : Stmt := top 29
abbrev N_number_of : List Str := ["word", "figures", "sign", "number"]
abbrev P_number_of : List Str := ["word"]
theorem scnumber_of : FnScope N_number_of P_number_of (defScope snumber_of) := ⟨rfl, rfl, rfl, by decide +kernel, rfl, by decide +kernel, by decide +kernel⟩
abbrev slength_of : Stmt := top 30
abbrev N_length_of : List Str := ["word", "number"]
abbrev P_length_of : List Str := ["word"]
theorem sclength_of : FnScope N_length_of P_length_of (defScope slength_of) := ⟨rfl, rfl, rfl, by decide +kernel, rfl, by decide +kernel, by decide +kernel⟩
abbrev sstep_of : Stmt := top 31
abbrev N_step_of : List Str := ["text", "numbers", "word"]
abbrev P_step_of : List Str := ["text"]
theorem scstep_of : FnScope N_step_of P_step_of (defScope sstep_of) := ⟨rfl, rfl, rfl, by decide +kernel, rfl, by decide +kernel, by decide +kernel⟩
abbrev shand_of : Stmt := top 32
abbrev N_hand_of : List Str := ["text", "first", "_", "rest", "length", "steps", "part"]
abbrev P_hand_of : List Str := ["text"]
theorem schand_of : FnScope N_hand_of P_hand_of (defScope shand_of) := ⟨rfl, rfl, rfl, by decide +kernel, rfl, by decide +kernel, by decide +kernel⟩
abbrev sread_hand : Stmt := top 33
abbrev N_read_hand : List Str := ["text", "hand"]
abbrev P_read_hand : List Str := ["text"]
theorem scread_hand : FnScope N_read_hand P_read_hand (defScope sread_hand) := ⟨rfl, rfl, rfl, by decide +kernel, rfl, by decide +kernel, by decide +kernel⟩
abbrev stoo_far : Stmt := top 21
abbrev N_too_far : List Str := ["low", "high", "length"]
abbrev P_too_far : List Str := ["low", "high", "length"]
theorem sctoo_far : FnScope N_too_far P_too_far (defScope stoo_far) := ⟨rfl, rfl, rfl, by decide +kernel, rfl, by decide +kernel, by decide +kernel⟩
abbrev sclash : Stmt := top 22
abbrev N_clash : List Str := ["look", "other", "length"]
abbrev P_clash : List Str := ["look", "other", "length"]
theorem scclash : FnScope N_clash P_clash (defScope sclash) := ⟨rfl, rfl, rfl, by decide +kernel, rfl, by decide +kernel, by decide +kernel⟩
abbrev splace_by : Stmt := top 17
abbrev N_place_by : List Str := ["look", "side", "x", "length", "_", "start", "end"]
abbrev P_place_by : List Str := ["look", "side", "x", "length"]
theorem scplace_by : FnScope N_place_by P_place_by (defScope splace_by) := ⟨rfl, rfl, rfl, by decide +kernel, rfl, by decide +kernel, by decide +kernel⟩
abbrev sDark_init : Stmt := inClass (top 23) 0
abbrev N_Dark_init : List Str := ["self", "length"]
abbrev P_Dark_init : List Str := ["self", "length"]
theorem scDark_init : FnScope N_Dark_init P_Dark_init (defScope sDark_init) := ⟨rfl, rfl, rfl, by decide +kernel, rfl, by decide +kernel, by decide +kernel⟩
abbrev sDark_eq : Stmt := inClass (top 23) 1
abbrev N_Dark_eq : List Str := ["self", "other"]
abbrev P_Dark_eq : List Str := ["self", "other"]
theorem scDark_eq : FnScope N_Dark_eq P_Dark_eq (defScope sDark_eq) := ⟨rfl, rfl, rfl, by decide +kernel, rfl, by decide +kernel, by decide +kernel⟩
abbrev sDark_length : Stmt := inClass (top 23) 3
abbrev N_Dark_length : List Str := ["self"]
abbrev P_Dark_length : List Str := ["self"]
theorem scDark_length : FnScope N_Dark_length P_Dark_length (defScope sDark_length) := ⟨rfl, rfl, rfl, by decide +kernel, rfl, by decide +kernel, by decide +kernel⟩
abbrev sDark_hear : Stmt := inClass (top 23) 4
abbrev N_Dark_hear : List Str := ["self", "word", "x", "y", "look", "other"]
abbrev P_Dark_hear : List Str := ["self", "word", "x", "y"]
theorem scDark_hear : FnScope N_Dark_hear P_Dark_hear (defScope sDark_hear) := ⟨rfl, rfl, rfl, by decide +kernel, rfl, by decide +kernel, by decide +kernel⟩
abbrev sDark_looks : Stmt := inClass (top 23) 6
abbrev N_Dark_looks : List Str := ["self"]
abbrev P_Dark_looks : List Str := ["self"]
theorem scDark_looks : FnScope N_Dark_looks P_Dark_looks (defScope sDark_looks) := ⟨rfl, rfl, rfl, by decide +kernel, rfl, by decide +kernel, by decide +kernel⟩
abbrev sDark_led_back : Stmt := inClass (top 23) 11
abbrev N_Dark_led_back : List Str := ["self", "back", "word", "x", "y"]
abbrev P_Dark_led_back : List Str := ["self"]
theorem scDark_led_back : FnScope N_Dark_led_back P_Dark_led_back (defScope sDark_led_back) := ⟨rfl, rfl, rfl, by decide +kernel, rfl, by decide +kernel, by decide +kernel⟩
abbrev sDarkcheck_word : Stmt := inClass (top 23) 12
abbrev N_Darkcheck_word : List Str := ["self", "word"]
abbrev P_Darkcheck_word : List Str := ["self", "word"]
theorem scDarkcheck_word : FnScope N_Darkcheck_word P_Darkcheck_word (defScope sDarkcheck_word) := ⟨rfl, rfl, rfl, by decide +kernel, rfl, by decide +kernel, by decide +kernel⟩
abbrev sDarkhome : Stmt := inClass (top 23) 13
abbrev N_Darkhome : List Str := ["self", "word", "x", "y", "turns"]
abbrev P_Darkhome : List Str := ["self", "word", "x", "y"]
theorem scDarkhome : FnScope N_Darkhome P_Darkhome (defScope sDarkhome) := ⟨rfl, rfl, rfl, by decide +kernel, rfl, by decide +kernel, by decide +kernel⟩
abbrev sDarkclashing : Stmt := inClass (top 23) 14
abbrev N_Darkclashing : List Str := ["self", "look", "other"]
abbrev P_Darkclashing : List Str := ["self", "look"]
theorem scDarkclashing : FnScope N_Darkclashing P_Darkclashing (defScope sDarkclashing) := ⟨rfl, rfl, rfl, by decide +kernel, rfl, by decide +kernel, by decide +kernel⟩
abbrev sHand_init : Stmt := inClass (top 25) 0
abbrev N_Hand_init : List Str := ["self", "length", "steps", "x", "y"]
abbrev P_Hand_init : List Str := ["self", "length", "steps"]
theorem scHand_init : FnScope N_Hand_init P_Hand_init (defScope sHand_init) := ⟨rfl, rfl, rfl, by decide +kernel, rfl, by decide +kernel, by decide +kernel⟩
abbrev sHand_eq : Stmt := inClass (top 25) 1
abbrev N_Hand_eq : List Str := ["self", "other"]
abbrev P_Hand_eq : List Str := ["self", "other"]
theorem scHand_eq : FnScope N_Hand_eq P_Hand_eq (defScope sHand_eq) := ⟨rfl, rfl, rfl, by decide +kernel, rfl, by decide +kernel, by decide +kernel⟩
abbrev sHand_length : Stmt := inClass (top 25) 3
abbrev N_Hand_length : List Str := ["self"]
abbrev P_Hand_length : List Str := ["self"]
theorem scHand_length : FnScope N_Hand_length P_Hand_length (defScope sHand_length) := ⟨rfl, rfl, rfl, by decide +kernel, rfl, by decide +kernel, by decide +kernel⟩
abbrev sHand_steps : Stmt := inClass (top 25) 4
abbrev N_Hand_steps : List Str := ["self", "_", "x", "y"]
abbrev P_Hand_steps : List Str := ["self"]
theorem scHand_steps : FnScope N_Hand_steps P_Hand_steps (defScope sHand_steps) := ⟨rfl, rfl, rfl, by decide +kernel, rfl, by decide +kernel, by decide +kernel⟩
abbrev slaw : Stmt := top 44
abbrev N_law : List Str := ["script", "tray", "k", "size", "steps", "made", "rows", "here", "there", "due", "other"]
abbrev P_law : List Str := ["script"]
theorem sclaw : FnScope N_law P_law (defScope slaw) := ⟨rfl, rfl, rfl, by decide +kernel, rfl, by decide +kernel, by decide +kernel⟩
structure Ad where
  C : Addr
  C_Hand : Addr
  a_law_tray : Addr
  d_law_tray : FuncData
  a_law_draw : Addr
  d_law_draw : FuncData
  a_law_great : Addr
  d_law_great : FuncData
  a_law_alike : Addr
  d_law_alike : FuncData
  a_law_length : Addr
  d_law_length : FuncData
  a_law_secret : Addr
  d_law_secret : FuncData
  a_law_hand_shown : Addr
  d_law_hand_shown : FuncData
  a_law_steps : Addr
  d_law_steps : FuncData
  a_figures : Addr
  d_figures : FuncData
  a_show_step : Addr
  d_show_step : FuncData
  a_show_hand : Addr
  d_show_hand : FuncData
  a_number_of : Addr
  d_number_of : FuncData
  a_length_of : Addr
  d_length_of : FuncData
  a_step_of : Addr
  d_step_of : FuncData
  a_hand_of : Addr
  d_hand_of : FuncData
  a_read_hand : Addr
  d_read_hand : FuncData
  a_too_far : Addr
  d_too_far : FuncData
  a_clash : Addr
  d_clash : FuncData
  a_place_by : Addr
  d_place_by : FuncData
  a_Dark_init : Addr
  d_Dark_init : FuncData
  a_Dark_eq : Addr
  d_Dark_eq : FuncData
  a_Dark_length : Addr
  d_Dark_length : FuncData
  a_Dark_hear : Addr
  d_Dark_hear : FuncData
  a_Dark_looks : Addr
  d_Dark_looks : FuncData
  a_Dark_led_back : Addr
  d_Dark_led_back : FuncData
  a_Darkcheck_word : Addr
  d_Darkcheck_word : FuncData
  a_Darkhome : Addr
  d_Darkhome : FuncData
  a_Darkclashing : Addr
  d_Darkclashing : FuncData
  a_Hand_init : Addr
  d_Hand_init : FuncData
  a_Hand_eq : Addr
  d_Hand_eq : FuncData
  a_Hand_length : Addr
  d_Hand_length : FuncData
  a_Hand_steps : Addr
  d_Hand_steps : FuncData
  a_law : Addr
  d_law : FuncData
  v_FIGURES : Value
  v_MOST_FIGURES : Value
  v_SLOW : Value
  v_FAST : Value
  a_WORDS : Addr
  a_LW : Addr
  t_slow : Addr
  t_fast : Addr
structure Tx (K : PySem.W.Frag) (w : World) (mg : Str → Option Value) (Z : Ad) : Prop where
  F_law_tray : Fun K "_law_tray" "_law_tray" slaw_tray Z.a_law_tray Z.d_law_tray
  bb_law_tray : Binds K Z.d_law_tray P_law_tray []
  g_law_tray : mg "_law_tray" = some (.ref Z.a_law_tray)
  F_law_draw : Fun K "_law_draw" "_law_draw" slaw_draw Z.a_law_draw Z.d_law_draw
  bb_law_draw : Binds K Z.d_law_draw P_law_draw []
  g_law_draw : mg "_law_draw" = some (.ref Z.a_law_draw)
  F_law_great : Fun K "_law_great" "_law_great" slaw_great Z.a_law_great Z.d_law_great
  bb_law_great : Binds K Z.d_law_great P_law_great []
  g_law_great : mg "_law_great" = some (.ref Z.a_law_great)
  F_law_alike : Fun K "_law_alike" "_law_alike" slaw_alike Z.a_law_alike Z.d_law_alike
  bb_law_alike : Binds K Z.d_law_alike P_law_alike []
  g_law_alike : mg "_law_alike" = some (.ref Z.a_law_alike)
  F_law_length : Fun K "_law_length" "_law_length" slaw_length Z.a_law_length Z.d_law_length
  bb_law_length : Binds K Z.d_law_length P_law_length []
  g_law_length : mg "_law_length" = some (.ref Z.a_law_length)
  F_law_secret : Fun K "_law_secret" "_law_secret" slaw_secret Z.a_law_secret Z.d_law_secret
  bb_law_secret : Binds K Z.d_law_secret P_law_secret []
  g_law_secret : mg "_law_secret" = some (.ref Z.a_law_secret)
  F_law_hand_shown : Fun K "_law_hand_shown" "_law_hand_shown" slaw_hand_shown Z.a_law_hand_shown Z.d_law_hand_shown
  bb_law_hand_shown : Binds K Z.d_law_hand_shown P_law_hand_shown []
  g_law_hand_shown : mg "_law_hand_shown" = some (.ref Z.a_law_hand_shown)
  F_law_steps : Fun K "_law_steps" "_law_steps" slaw_steps Z.a_law_steps Z.d_law_steps
  bb_law_steps : Binds K Z.d_law_steps P_law_steps []
  g_law_steps : mg "_law_steps" = some (.ref Z.a_law_steps)
  F_figures : Fun K "figures" "figures" sfigures Z.a_figures Z.d_figures
  bb_figures : Binds K Z.d_figures P_figures []
  g_figures : mg "figures" = some (.ref Z.a_figures)
  F_show_step : Fun K "show_step" "show_step" sshow_step Z.a_show_step Z.d_show_step
  bb_show_step : Binds K Z.d_show_step P_show_step []
  g_show_step : mg "show_step" = some (.ref Z.a_show_step)
  F_show_hand : Fun K "show_hand" "show_hand" sshow_hand Z.a_show_hand Z.d_show_hand
  bb_show_hand : Binds K Z.d_show_hand P_show_hand []
  g_show_hand : mg "show_hand" = some (.ref Z.a_show_hand)
  F_number_of : Fun K "number_of" "number_of" snumber_of Z.a_number_of Z.d_number_of
  bb_number_of : Binds K Z.d_number_of P_number_of []
  g_number_of : mg "number_of" = some (.ref Z.a_number_of)
  F_length_of : Fun K "length_of" "length_of" slength_of Z.a_length_of Z.d_length_of
  bb_length_of : Binds K Z.d_length_of P_length_of []
  g_length_of : mg "length_of" = some (.ref Z.a_length_of)
  F_step_of : Fun K "step_of" "step_of" sstep_of Z.a_step_of Z.d_step_of
  bb_step_of : Binds K Z.d_step_of P_step_of []
  g_step_of : mg "step_of" = some (.ref Z.a_step_of)
  F_hand_of : Fun K "hand_of" "hand_of" shand_of Z.a_hand_of Z.d_hand_of
  bb_hand_of : Binds K Z.d_hand_of P_hand_of []
  g_hand_of : mg "hand_of" = some (.ref Z.a_hand_of)
  F_read_hand : Fun K "read_hand" "read_hand" sread_hand Z.a_read_hand Z.d_read_hand
  bb_read_hand : Binds K Z.d_read_hand P_read_hand []
  g_read_hand : mg "read_hand" = some (.ref Z.a_read_hand)
  F_too_far : Fun K "too_far" "too_far" stoo_far Z.a_too_far Z.d_too_far
  bb_too_far : Binds K Z.d_too_far P_too_far []
  g_too_far : mg "too_far" = some (.ref Z.a_too_far)
  F_clash : Fun K "clash" "clash" sclash Z.a_clash Z.d_clash
  bb_clash : Binds K Z.d_clash P_clash []
  g_clash : mg "clash" = some (.ref Z.a_clash)
  F_place_by : Fun K "place_by" "place_by" splace_by Z.a_place_by Z.d_place_by
  bb_place_by : Binds K Z.d_place_by P_place_by []
  g_place_by : mg "place_by" = some (.ref Z.a_place_by)
  F_Dark_init : Fun K "__init__" "Dark.__init__" sDark_init Z.a_Dark_init Z.d_Dark_init
  bb_Dark_init : Binds K Z.d_Dark_init P_Dark_init []
  F_Dark_eq : Fun K "__eq__" "Dark.__eq__" sDark_eq Z.a_Dark_eq Z.d_Dark_eq
  bb_Dark_eq : Binds K Z.d_Dark_eq P_Dark_eq []
  m_Dark_eq : Meth K Z.C "__eq__" Z.a_Dark_eq
  F_Dark_length : Fun K "length" "Dark.length" sDark_length Z.a_Dark_length Z.d_Dark_length
  bb_Dark_length : Binds K Z.d_Dark_length P_Dark_length []
  m_Dark_length : Meth K Z.C "length" Z.a_Dark_length
  F_Dark_hear : Fun K "hear" "Dark.hear" sDark_hear Z.a_Dark_hear Z.d_Dark_hear
  bb_Dark_hear : Binds K Z.d_Dark_hear P_Dark_hear []
  m_Dark_hear : Meth K Z.C "hear" Z.a_Dark_hear
  F_Dark_looks : Fun K "looks" "Dark.looks" sDark_looks Z.a_Dark_looks Z.d_Dark_looks
  bb_Dark_looks : Binds K Z.d_Dark_looks P_Dark_looks []
  m_Dark_looks : Meth K Z.C "looks" Z.a_Dark_looks
  F_Dark_led_back : Fun K "led_back" "Dark.led_back" sDark_led_back Z.a_Dark_led_back Z.d_Dark_led_back
  bb_Dark_led_back : Binds K Z.d_Dark_led_back P_Dark_led_back []
  m_Dark_led_back : Meth K Z.C "led_back" Z.a_Dark_led_back
  F_Darkcheck_word : Fun K "_check_word" "Dark._check_word" sDarkcheck_word Z.a_Darkcheck_word Z.d_Darkcheck_word
  bb_Darkcheck_word : Binds K Z.d_Darkcheck_word P_Darkcheck_word []
  m_Darkcheck_word : Meth K Z.C "_check_word" Z.a_Darkcheck_word
  F_Darkhome : Fun K "_home" "Dark._home" sDarkhome Z.a_Darkhome Z.d_Darkhome
  bb_Darkhome : Binds K Z.d_Darkhome P_Darkhome []
  m_Darkhome : Meth K Z.C "_home" Z.a_Darkhome
  F_Darkclashing : Fun K "_clashing" "Dark._clashing" sDarkclashing Z.a_Darkclashing Z.d_Darkclashing
  bb_Darkclashing : Binds K Z.d_Darkclashing P_Darkclashing []
  m_Darkclashing : Meth K Z.C "_clashing" Z.a_Darkclashing
  F_Hand_init : Fun K "__init__" "Hand.__init__" sHand_init Z.a_Hand_init Z.d_Hand_init
  bb_Hand_init : Binds K Z.d_Hand_init P_Hand_init []
  F_Hand_eq : Fun K "__eq__" "Hand.__eq__" sHand_eq Z.a_Hand_eq Z.d_Hand_eq
  bb_Hand_eq : Binds K Z.d_Hand_eq P_Hand_eq []
  m_Hand_eq : Meth K Z.C_Hand "__eq__" Z.a_Hand_eq
  F_Hand_length : Fun K "length" "Hand.length" sHand_length Z.a_Hand_length Z.d_Hand_length
  bb_Hand_length : Binds K Z.d_Hand_length P_Hand_length []
  m_Hand_length : Meth K Z.C_Hand "length" Z.a_Hand_length
  F_Hand_steps : Fun K "steps" "Hand.steps" sHand_steps Z.a_Hand_steps Z.d_Hand_steps
  bb_Hand_steps : Binds K Z.d_Hand_steps P_Hand_steps []
  m_Hand_steps : Meth K Z.C_Hand "steps" Z.a_Hand_steps
  F_law : Fun K "law" "law" slaw Z.a_law Z.d_law
  bb_law : Binds K Z.d_law P_law []
  g_law : mg "law" = some (.ref Z.a_law)
  kn_show_hand_hand : KBn K Z.d_show_hand P_show_hand 0 ["hand"] (KW.gk [0] []) (KW.gk [0] [])
  kn_read_hand_text : KBn K Z.d_read_hand P_read_hand 0 ["text"] (KW.gk [0] []) (KW.gk [0] [])
  cl : Cls K Z.C
  g_Dark : mg "Dark" = some (.ref Z.C)
  cl_Hand : Cls K Z.C_Hand
  g_Hand : mg "Hand" = some (.ref Z.C_Hand)
  mk_Hand : Mk K Z.C_Hand Z.a_Hand_init
  nHand__dark : NoAttr K Z.C_Hand "_dark"
  nHand__back : NoAttr K Z.C_Hand "_back"
  isi : IsiC K Z.C
  no_list : PySem.W.kitOne K (.type "list") (.ref Z.C) = some false
  no_int : PySem.W.kitOne K (.type "int") (.ref Z.C) = some false
  nf_list : PySem.W.notFirst K Z.C (.type "list") = true
  nf_int : PySem.W.notFirst K Z.C (.type "int") = true
  isi_Hand : IsiC K Z.C_Hand
  mk_Dark : Mk K Z.C Z.a_Dark_init
  n_length : NoAttr K Z.C "_length"
  n_looks : NoAttr K Z.C "_looks"
  b_max : mg "max" = none
  b_min : mg "min" = none
  b_len : mg "len" = none
  b_range : mg "range" = none
  b_sorted : mg "sorted" = none
  b_set : mg "set" = none
  b_isinstance : mg "isinstance" = none
  b_list : mg "list" = none
  b_tuple : mg "tuple" = none
  b_bool : mg "bool" = none
  b_int : mg "int" = none
  b_str : mg "str" = none
  b_all : mg "all" = none
  b_reversed : mg "reversed" = none
  g_FIGURES : mg "FIGURES" = some Z.v_FIGURES
  r_FIGURES : RelV (.str "0123456789") Z.v_FIGURES
  g_MOST_FIGURES : mg "MOST_FIGURES" = some Z.v_MOST_FIGURES
  r_MOST_FIGURES : RelV (.int 60) Z.v_MOST_FIGURES
  g_SLOW : mg "SLOW" = some Z.v_SLOW
  r_SLOW : RelV (.str "slow") Z.v_SLOW
  g_FAST : mg "FAST" = some Z.v_FAST
  r_FAST : RelV (.str "fast") Z.v_FAST
  g_WORDS : mg "WORDS" = some (.ref Z.a_WORDS)
  kd_WORDS : ∃ es n, KDict K w Z.a_WORDS es n
  w_slow : PySem.W.nsIn K Z.a_WORDS "slow" = some (some (.ref Z.t_slow))
  w_fast : PySem.W.nsIn K Z.a_WORDS "fast" = some (some (.ref Z.t_fast))
  q_slow : ∀ H, SqT K H Z.t_slow [.str "at", .str "from"]
  q_fast : ∀ H, SqT K H Z.t_fast [.str "at", .str "upto"]
  g_LOOK_WORDS : mg "LOOK_WORDS" = some (.ref Z.a_LW)
  q_LW : ∀ H, SqT K H Z.a_LW [.str "at", .str "from", .str "upto"]
end KA
/-! Looks in plain Lean. -/
namespace KA
open PySem PySem.Spec PyProof.Rows L2 DP
/-- a look: word, x, y -/
abbrev Lk := Str × Int × Int
def encL (l : Lk) : PyData := .tuple [.str l.1, .int l.2.1, .int l.2.2]
def WordOk (x : Str) : Prop := x = "at" ∨ x = "from" ∨ x = "upto"
def SideOk (x : Str) : Prop := x = "slow" ∨ x = "fast"
/-- the words of a side, by truth -/
def onSide (sd x : Str) : Bool := if sd = "slow" then (decide (x = "at") || decide (x = "from")) else (decide (x = "at") || decide (x = "upto"))
/-- where a look alone tells that x is led -/
def plc (sd : Str) (l : Lk) (x L : Int) : Int := if sd = "slow" then l.2.2 + (x - l.2.1) / L * L else l.2.2 - (l.2.1 - x) / L * L
def Sized (n : Nat) (l : Lk) : Prop := l.2.1.natAbs < 2 ^ n ∧ l.2.2.natAbs < 2 ^ n
theorem slow_ne : ¬ (("fast" : Str) = "slow") := by decide +kernel
theorem plc_slow (l : Lk) (x L : Int) : plc "slow" l x L = l.2.2 + (x - l.2.1) / L * L := if_pos rfl
theorem plc_fast (l : Lk) (x L : Int) : plc "fast" l x L = l.2.2 - (l.2.1 - x) / L * L := if_neg slow_ne
def tooFar (a b : Lk) (L : Int) : Bool := onSide "slow" a.1 && onSide "fast" b.1 && decide (b.2.2 < plc "slow" a b.2.1 L)
def clashB (a b : Lk) (L : Int) : Bool := tooFar a b L || tooFar b a L
/-- brought home -/
def home (L : Int) (l : Lk) : Lk := (l.1, l.2.1 - l.2.1 / L * L, l.2.2 - l.2.1 / L * L)
theorem nat_div {a L : Int} (h : 0 < L) : (a / L).natAbs ≤ a.natAbs + 1 := Nat.le_succ_of_le (Int.natAbs_ediv_le_natAbs a L)
theorem sub_lt {a b : Int} {n : Nat} (ha : a.natAbs < 2 ^ n) (hb : b.natAbs < 2 ^ n) : (a - b).natAbs < 2 ^ (n + 1) := by
  rw [Nat.pow_succ]; omega
theorem add_lt {a b : Int} {n : Nat} (ha : a.natAbs < 2 ^ n) (hb : b.natAbs < 2 ^ n) : (a + b).natAbs < 2 ^ (n + 1) := by
  rw [Nat.pow_succ]; omega
theorem div_lt {a L : Int} {n : Nat} (h : 0 < L) (ha : a.natAbs < 2 ^ n) : (a / L).natAbs < 2 ^ (n + 1) := by
  have := nat_div (a := a) h
  have h1 : 1 ≤ 2 ^ n := Nat.one_le_two_pow
  rw [Nat.pow_succ]; omega
theorem lt_up {a : Int} {m n : Nat} (ha : a.natAbs < 2 ^ m) (h : m ≤ n) : a.natAbs < 2 ^ n := Nat.lt_of_lt_of_le ha (Nat.pow_le_pow_right (by decide) h)
section
variable {K : PySem.W.Frag} {H : Hp}
theorem dp_look {v : V} {l : Lk} (h : Dp K H v (encL l)) : ∃ a, v = .ref a ∧ SqT K H a [.str l.1, .int l.2.1, .int l.2.2] := by
  have h' : Dp K H v (.tuple [.str l.1, .int l.2.1, .int l.2.2]) := h
  cases h' with
  | tup s a =>
    cases a with
    | cons a1 a =>
      cases a with
      | cons a2 a =>
        cases a with
        | cons a3 a =>
          cases a; cases a1; cases a2; cases a3
          exact ⟨_, rfl, s⟩
theorem dp_list {v : V} {ds : List PyData} (h : Dp K H v (.list ds)) : ∃ a xs, v = .ref a ∧ SqL K H a xs ∧ DpAll K H xs ds := by
  cases h with
  | lst s a => exact ⟨_, _, rfl, s, a⟩
end
theorem decl_words {x : Str} (h : WordOk x) : inV (.str x) [.str "at", .str "from"] = onSide "slow" x ∧ inV (.str x) [.str "at", .str "upto"] = onSide "fast" x ∧ inV (.str x) [.str "at", .str "from", .str "upto"] = true := by
  rcases h with e | e | e <;> subst e <;> decide +kernel
theorem yes_ite {σ : L2.St} {H : Hp} {A B : Hp → Prop} (h : A H) : tYes σ H (fun b H3 => if b = true then A H3 else B H3) := by
  show (if true = true then A H else B H)
  rw [if_pos rfl]
  exact h
/-- data without lists: tuples, numbers, texts -/
def noL : PyData → Bool
  | .list _ => false
  | .dict _ => false
  | .tuple xs => noLs xs
  | _ => true
where noLs : List PyData → Bool
  | [] => true
  | x :: xs => noL x && noLs xs
/-- tuples stand -/
def Tups (H H' : Hp) : Prop := ∀ b xs, Rd H b (.tup xs) → Rd H' b (.tup xs)
theorem Tups.of_same {H H' : Hp} (S : Same H H') : Tups H H' := fun _ _ h => DP.Same.rd S h
theorem Tups.upd_lst {H : Hp} {D : Addr} {ys : List V} {o : HO} (h : H D = some (.lst ys)) : Tups H (upd H D o) := fun b xs hb => by
  have hn : b ≠ D := by
    rintro rfl
    rcases hb with e | ⟨q, e⟩ <;> rw [h] at e <;> cases e
  rcases hb with e | ⟨q, e⟩
  · exact .inl ((upd_ne hn).trans e)
  · exact .inr ⟨q, (upd_ne hn).trans e⟩
theorem Tups.upd_ins {H : Hp} {D C dx : Addr} {fs : List (Str × V)} {o : HO} (h : H D = some (.ins C dx fs)) : Tups H (upd H D o) := fun b xs hb => by
  have hn : b ≠ D := by
    rintro rfl
    rcases hb with e | ⟨q, e⟩ <;> rw [h] at e <;> cases e
  rcases hb with e | ⟨q, e⟩
  · exact .inl ((upd_ne hn).trans e)
  · exact .inr ⟨q, (upd_ne hn).trans e⟩
theorem Tups.trans {H H1 H2 : Hp} (a : Tups H H1) (b : Tups H1 H2) : Tups H H2 := fun c xs h => b c xs (a c xs h)
section
variable {K : PySem.W.Frag} {H H' : Hp}
mutual
theorem dp_tups (S : Tups H H') : ∀ (d : PyData) (v : V), noL d = true → Dp K H v d → Dp K H' v d
  | .none, _, _, h => by cases h; exact .non
  | .bool _, _, _, h => by cases h; exact .bl _
  | .int _, _, _, h => by cases h; exact .int _
  | .str _, _, _, h => by cases h; exact .str _
  | .list _, _, n, _ => by simp [noL] at n
  | .dict _, _, n, _ => by simp [noL] at n
  | .tuple ds, _, n, h => by
    cases h with
    | tup s a =>
      refine .tup ?_ (dpAll_tups S ds _ (by simpa [noL] using n) a)
      rcases s with s | s
      · exact .inl (S _ _ s)
      · exact .inr s
theorem dpAll_tups (S : Tups H H') : ∀ (ds : List PyData) (vs : List V), noL.noLs ds = true → DpAll K H vs ds → DpAll K H' vs ds
  | [], _, _, h => by cases h; exact .nil
  | d :: ds, _, n, h => by
    rw [noL.noLs, Bool.and_eq_true] at n
    cases h with
    | cons a b => exact .cons (dp_tups S d _ n.1 a) (dpAll_tups S ds _ n.2 b)
end
theorem noLs_map {β : Type} {enc : β → PyData} (h : ∀ b, noL (enc b) = true) : ∀ bs : List β, noL.noLs (bs.map enc) = true
  | [] => rfl
  | b :: bs => by
    show noL.noLs (enc b :: bs.map enc) = true
    rw [noL.noLs, h b, noLs_map h bs]; rfl
theorem noL_encL (l : Lk) : noL (encL l) = true := rfl
/-- one more at the list that a comprehension makes -/
theorem acc_step {D : Addr} {ys : List V} {ds : List PyData} {y : V} {d : PyData} (hD : H D = some (.lst ys)) (hn : noL.noLs ds = true) (hd : noL d = true) (h : DpAll K H ys ds) (hy : Dp K H y d) :
    DpAll K (upd H D (.lst (ys ++ [y]))) (ys ++ [y]) (ds ++ [d]) :=
  dpAll_snoc (dpAll_tups (Tups.upd_lst hD) _ _ hn h) (dp_tups (Tups.upd_lst hD) _ _ hd hy)
end
theorem same_set {H : Hp} {p : Addr} {o : HO} {H1 : Hp} (S : Same H H1) (hn : H p = none) : Same H (upd H1 p o) := fun b u e => by rw [upd_ne (ne_of_none e hn)]; exact S b u e
theorem take_snoc {α : Type} : ∀ {l : List α} {i : Nat} {x : α}, l[i]? = some x → l.take (i + 1) = l.take i ++ [x]
  | [], i, x, h => by simp at h
  | a :: l, 0, x, h => by
    have e : a = x := Option.some.inj h
    subst e
    rfl
  | a :: l, i + 1, x, h => by
    have ih := take_snoc (l := l) (i := i) (x := x) h
    show a :: l.take (i + 1) = a :: l.take i ++ [x]
    rw [ih]; rfl
theorem map_at {α β : Type} {f : α → β} {l : List α} {i : Nat} {y : β} (h : (l.map f)[i]? = some y) : ∃ x, l[i]? = some x ∧ y = f x := by
  rw [List.getElem?_map] at h
  cases e : l[i]? with
  | none => rw [e] at h; cases h
  | some x => rw [e] at h; exact ⟨x, rfl, (Option.some.inj h).symm⟩
end KA
namespace KA
open PySem PySem.Spec PyProof.Rows L2 DP
/-! ### numbers in figures -/
def numT (n : Int) : Str := Str.ofString (toString n)
theorem numT_neg {n : Int} (h : n < 0) : TL.tl (numT n) = 45 :: TL.numL n.natAbs := by
  unfold numT
  rw [PyProof.Rows.toString_neg h, TL.tl_ofString, String.toList_append, List.map_append]
  have e : (0 - n : Int) = ((n.natAbs : Nat) : Int) := by omega
  rw [e, ← TL.tl_ofString (toString ((n.natAbs : Nat) : Int)), TL.tl_num]; rfl
theorem numT_pos {n : Int} (h : 0 ≤ n) : TL.tl (numT n) = TL.numL n.natAbs := by
  have e : n = ((n.natAbs : Nat) : Int) := by omega
  unfold numT
  rw [← TL.tl_num, ← e]
theorem numT_len {n : Int} (h : n.natAbs < 10 ^ 60) : (numT n).length ≤ 61 := by
  have h1 := TL.numL_len (n := n.natAbs) (k := 60) (by decide) h
  rw [TL.len_tl]
  by_cases c : n < 0
  · rw [numT_neg c, List.length_cons]; omega
  · rw [numT_pos (by omega)]; omega
theorem numT_free {n : Int} : (32 : Nat) ∉ TL.tl (numT n) := fun hm => by
  have h1 : (32 : Nat) ∉ TL.numL n.natAbs := TL.numL_free (.inl (by decide))
  by_cases c : n < 0
  · rw [numT_neg c] at hm
    rcases List.mem_cons.mp hm with e | e
    · exact absurd e (by decide)
    · exact h1 e
  · rw [numT_pos (by omega)] at hm
    exact h1 hm
theorem minus_tl : TL.tl ("-" : Str) = [45] := by rfl
theorem minus_len : ("-" : Str).length = 1 := by rfl
theorem numT_rm (n : Int) : TL.tl (Txt.removeprefix (numT n) "-") = TL.numL n.natAbs := by
  rw [PySem.StrLaws.removeprefix_eq]
  have hs : Builtin.Str.subAt (numT n) ("-" : Str) 0 = ((TL.tl (numT n)).take 1 == [45]) := by
    rw [PySem.StrLaws.subAt_eq, List.drop_zero]; rfl
  by_cases c : n < 0
  · have h0 := numT_neg c
    have hl : (numT n).length = (TL.numL n.natAbs).length + 1 := by rw [TL.len_tl, h0, List.length_cons]
    rw [if_pos (by rw [hs, h0, minus_len, hl]; simp)]
    show ((TL.tl (numT n)).drop ("-" : Str).length).take ((numT n).length - ("-" : Str).length) = _
    rw [h0, minus_len, hl, List.drop_succ_cons, List.drop_zero, Nat.add_sub_cancel, List.take_length]
  · have h0 := numT_pos (n := n) (by omega)
    rw [if_neg, h0]
    rw [hs, h0]
    obtain ⟨x, xs, e⟩ : ∃ x xs, TL.numL n.natAbs = x :: xs := by
      cases h : TL.numL n.natAbs with
      | nil => exact absurd h (TL.numL_ne _)
      | cons x xs => exact ⟨x, xs, rfl⟩
    have hx := TL.numL_digits n.natAbs x (by rw [e]; exact List.mem_cons_self)
    rw [e]
    have : x ≠ 45 := by omega
    simp [this]
theorem numT_int {n : Int} (h : n.natAbs < 10 ^ 60) : intText? (numT n) = some n := by
  have h1 := TL.numL_len (n := n.natAbs) (k := 60) (by decide) h
  by_cases c : n < 0
  · have e := intText_neg (x := numT n) (cs := TL.numL n.natAbs) (numT_neg c) (TL.numL_digits _) (TL.numL_ne _) (by have := numT_len h; omega)
    rw [e, TL.numL_val]
    congr 1
    omega
  · have e : n = ((n.natAbs : Nat) : Int) := by omega
    have e2 : numT n = Str.ofString (toString ((n.natAbs : Nat) : Int)) := by unfold numT; rw [← e]
    rw [e2, TL.int_num (by omega), ← e]
theorem log_small {n : Int} (h : n.natAbs < 10 ^ 60) : n.natAbs.log2 < 1920 := by
  by_cases c : n.natAbs = 0
  · rw [c]; decide
  · exact (Nat.log2_lt c).mpr (Nat.lt_trans h (by decide))
theorem str_assoc (a b c : Str) : a ++ b ++ c = a ++ (b ++ c) := TL.ext_tl (by rw [TL.tl_append, TL.tl_append, TL.tl_append, TL.tl_append, List.append_assoc])
theorem empty_app (a : Str) : Str.empty ++ a = a := TL.ext_tl (by rw [TL.tl_append]; rfl)
theorem neg_text {n : Int} (h : n < 0) : ("-" : Str) ++ numT (-n) = numT n := TL.ext_tl (by
  rw [TL.tl_append, minus_tl, numT_neg h, numT_pos (n := -n) (by omega), Int.natAbs_neg]; rfl)
theorem len_app (a b : Str) : (a ++ b).length = a.length + b.length := by
  rw [TL.len_tl, TL.tl_append, List.length_append, ← TL.len_tl, ← TL.len_tl]
theorem blank_tl : TL.tl (" " : Str) = 32 :: [] := by rfl
theorem blank_len : (" " : Str).length = 1 := by rfl
/-- a step, a look -/
def stepT (x y : Int) : Str := numT x ++ " " ++ numT y
def lookT (l : Lk) : Str := l.1 ++ " " ++ numT l.2.1 ++ " " ++ numT l.2.2
theorem lookT_eq (l : Lk) : lookT l = l.1 ++ " " ++ stepT l.2.1 l.2.2 := by
  unfold lookT stepT
  rw [str_assoc, str_assoc (l.1 ++ " ") (numT l.2.1), str_assoc (numT l.2.1)]
theorem step_split (x y : Int) : Txt.split (stepT x y) " " = [numT x, numT y] := by
  have h := TL.split_join (y := " ") (s := 32) (S := []) blank_tl (by decide +kernel) (parts := [numT x, numT y]) (by simp) (fun p hp => by
    rcases List.mem_cons.mp hp with e | e
    · rw [e]; exact numT_free
    · rw [List.mem_singleton.mp e]; exact numT_free)
  rw [TL.join_eq] at h
  exact h
theorem word_free {w : Str} (h : WordOk w) : (32 : Nat) ∉ TL.tl w := by
  rcases h with rfl | rfl | rfl <;> decide +kernel
theorem word_len {w : Str} (h : WordOk w) : w.length ≤ 4 := by
  rcases h with rfl | rfl | rfl <;> decide +kernel
theorem look_part {l : Lk} (h : WordOk l.1) : Txt.partition (lookT l) " " = (l.1, (" " : Str), stepT l.2.1 l.2.2) := by
  rw [lookT_eq]
  exact TL.partition_app blank_tl (word_free h)
def Small (l : Lk) : Prop := l.2.1.natAbs < 10 ^ 60 ∧ l.2.2.natAbs < 10 ^ 60
theorem stepT_len {x y : Int} (hx : x.natAbs < 10 ^ 60) (hy : y.natAbs < 10 ^ 60) : (stepT x y).length ≤ 123 := by
  unfold stepT
  rw [len_app, len_app, blank_len]
  have := numT_len hx
  have := numT_len hy
  omega
theorem lookT_len {l : Lk} (h : WordOk l.1) (hs : Small l) : (lookT l).length ≤ 128 := by
  rw [lookT_eq, len_app, len_app, blank_len]
  have := word_len h
  have := stepT_len hs.1 hs.2
  omega
theorem words_in {w : Str} (h : WordOk w) : inV (V.str w) [V.str "at", .str "from", .str "upto"] = true := by
  rcases h with rfl | rfl | rfl <;> decide +kernel
end KA
namespace KA
open PySem PySem.Spec PyProof.Rows L2 DP
/-- what stood stands, but at t and g -/
def Keep (t g : Addr) (H H' : Hp) : Prop := ∀ b o, H b = some o → b ≠ t → b ≠ g → H' b = some o
theorem Keep.refl (t g : Addr) (H : Hp) : Keep t g H H := fun _ _ h _ _ => h
theorem Keep.trans {t g : Addr} {H H1 H2 : Hp} (a : Keep t g H H1) (b : Keep t g H1 H2) : Keep t g H H2 := fun c o h x y => b c o (a c o h x y) x y
/-- the tray: at t, its great numbers at g; no more than n draws so far went by the fold -/
structure Tray (H : Hp) (t g : Addr) (n : Nat) : Prop where
  ex : ∃ (gs : List Int) (l f c : Int), H t = some (.lst [.ref g, .int l, .int f, .int c]) ∧ H g = some (.lst (gs.map V.int)) ∧ gs.length ≤ 63 ∧ (∀ x ∈ gs, 0 ≤ x) ∧ 0 ≤ l ∧ 0 ≤ f ∧ f < 2 ^ 61 ∧ 0 ≤ c ∧ c ≤ (n : Int)
  ne : t ≠ g
theorem Tray.same {H H' : Hp} {t g : Addr} {n : Nat} (T : Tray H t g n) (S : Same H H') : Tray H' t g n := by
  obtain ⟨⟨gs, l, f, c, h1, h2, r⟩, hne⟩ := T
  exact ⟨⟨gs, l, f, c, S _ _ h1, S _ _ h2, r⟩, hne⟩
theorem Keep.of_same {t g : Addr} {H H' : Hp} (S : Same H H') : Keep t g H H' := fun b o e _ _ => S b o e
def spDraw : Sp := fun vs H Q _ => ∃ (t g : Addr) (n : Nat) (m : Int), vs = [.ref t, .int m] ∧ Tray H t g n ∧ 0 < m ∧ m.natAbs < 2 ^ 1000 ∧ n < 2 ^ 60 ∧
  ∀ (H' : Hp) (r : Int), 0 ≤ r → r < m → Tray H' t g (n + 1) → Keep t g H H' → Q (.int r) H'
/-- the length of the list at g -/
def lenAt (H : Hp) (g : Addr) : Nat := match H g with | some (.lst xs) => xs.length | _ => 0
theorem lenAt_of {H : Hp} {g : Addr} {xs : List V} (h : H g = some (.lst xs)) : lenAt H g = xs.length := by unfold lenAt; rw [h]
theorem shaped_ints (ns : List Int) : SeqAt.shaped (.list (ns.map .int)) = true := by
  have h1 : ∀ ns : List Int, PyData.canLayAll0 (ns.map .int) = true := by
    intro ns
    induction ns with
    | nil => rfl
    | cons a r ih => simp [PyData.canLayAll0, PyData.canLay0, ih]
  have h2 : ∀ ns : List Int, PyData.depthAll (ns.map .int) = 0 := PySem.W.depth_ints
  unfold SeqAt.shaped
  simp [PyData.canLay0, PyData.depth, h1, h2]
theorem pow_lt {i : Int} {a n : Nat} (h : i.natAbs < 2 ^ a) (h0 : n ≠ 0) : (i ^ n).natAbs < 2 ^ (a * n) := by
  rw [Int.natAbs_pow, Nat.pow_mul]
  exact Nat.pow_lt_pow_left h h0
theorem seqIx0 {n : Nat} (h : 0 < n) : seqIndex? 0 n = some 0 := by
  unfold seqIndex?
  simp
  omega
theorem while_post {c : TT} {tb : TS} {D : Ends} {σ : L2.St} {H : Hp} (Pv : L2.St → Hp → Prop) (μ : L2.St → Hp → Nat) (Po : L2.St → Hp → Prop) (h0 : Pv σ H)
    (hs : ∀ σ H, Pv σ H → c σ H fun b H1 => if b = true then tb { D with nx := fun σ' H' => Pv σ' H' ∧ μ σ' H' < μ σ H, ct := fun σ' H' => Pv σ' H' ∧ μ σ' H' < μ σ H, bk := D.nx } σ H1 else Po σ H1)
    (hd : ∀ σ H, Po σ H → D.nx σ H) (mono : ∀ σ H Q Q', (∀ b H1, Q b H1 → Q' b H1) → c σ H Q → c σ H Q') : tWhile c tb D σ H :=
  while_by Pv μ h0 (fun σ1 H1 p => mono σ1 H1 _ _ (fun b H2 q => by
    cases b with
    | true => exact q
    | false => exact hd _ _ q) (hs σ1 H1 p)) mono
section
variable {P : Program} {w : World} {K : PySem.W.Frag} {mg : Str → Option Value} {base : Heap} {Z : Ad}
theorem ok_law_draw (T : Tx K w mg Z) : FnOk P w K mg base CX0 1 Z.a_law_draw Z.d_law_draw P_law_draw (spDraw) := by
  refine T.F_law_draw.ok sclaw_draw (fun vs H Q E h => ?_) (fun cdv A outer s H vs Q E hr h => ?_)
  · obtain ⟨t, g, n, m, rfl, _⟩ := h
    rfl
  · obtain ⟨t, g, n, m, rfl, ⟨ht, hne⟩, hm, hmb, hn, k⟩ := h
    refine ⟨_, (C8.pss_cut (ps_while PassesOwn.never (PW.pt (pw_and (pt_cmpR op_lt (pe_ix (ixL (K := K)) (pv 0) pe_int (fun _ _ => rfl)) pe_int (nomark _)) (pw_and1 (pt_cmpR (neDK (K := K) hr.units) (pe_ix (ixL (K := K)) (pv 0) pe_int (fun _ _ => rfl)) (pe_lst pa_nil) (nomark _))))) (pss_one (ps_asg (pe_bm PySem.F.plainAttrs_list PySem.F.slot_list_pop PySem.F.type_list_pop mt_popAt (pe_ix (ixL (K := K)) (pv 0) pe_int (fun _ _ => rfl)) (pa_cons pe_int pa_nil)) (pg_sub (pv 0) pe_int set_list))))
      (C8.pss_cut (ps_if (pt_cmpR op_ge (pe_ix (ixL (K := K)) (pv 0) pe_int (fun _ _ => rfl)) pe_int (nomark _)) (pss_cons (ps_set (i := 2) sclaw_draw.nd rfl (Or.inl rfl) (pe_op op_mod (pe_ix (ixL (K := K)) (pv 0) pe_int (fun _ _ => rfl)) (pv 1)))
      (pss_cons (ps_asg (pe_op op_fdivW (pe_ix (ixL (K := K)) (pv 0) pe_int (fun _ _ => rfl)) (pv 1)) (pg_sub (pv 0) pe_int set_list))
      (pss_one (ps_ret (pv 2))))) pss_nil)
      (pss_cons (ps_asg (pe_op op_add (pe_ix (ixL (K := K)) (pv 0) pe_int (fun _ _ => rfl)) pe_int) (pg_sub (pv 0) pe_int set_list))
      (pss_cons (ps_set (i := 3) sclaw_draw.nd rfl (Or.inl rfl) (pe_op op_mod (pe_op op_add (pe_op op_mulW (pe_op op_add (pe_ix (ixL (K := K)) (pv 0) pe_int (fun _ _ => rfl)) pe_int) (pe_op op_pow (pe_op op_add (pe_ix (ixL (K := K)) (pv 0) pe_int (fun _ _ => rfl)) pe_int) pe_int)) (pe_op op_mulW pe_int (pe_ix (ixL (K := K)) (pv 0) pe_int (fun _ _ => rfl)))) (pe_op op_sub (pe_op op_pow pe_int pe_int) pe_int)))
      (pss_one (ps_ret (pe_op op_mod (pe_op op_fdivW (pe_op op_mod (pe_op op_pow (pv 3) pe_int) (pe_op op_add (pe_op op_pow pe_int pe_int) pe_int)) pe_int) (pv 1)))))))), ?_⟩
    -- while tray[1] < 2 and tray[0] != []
    refine ⟨fun σ' H' => σ' = [some (.ref t), some (.int m), none, none] ∧ Tray H' t g n ∧ Keep t g H H', ?_, ?_⟩
    · refine while_post (fun σ' H' => σ' = [some (.ref t), some (.int m), none, none] ∧ Tray H' t g n ∧ Keep t g H H') (fun _ H' => lenAt H' g) (fun σ' H' => σ' = [some (.ref t), some (.int m), none, none] ∧ Tray H' t g n ∧ Keep t g H H') ⟨rfl, ⟨ht, hne⟩, Keep.refl _ _ _⟩ ?_ (fun _ _ q => q) ?_
      · rintro σ1 H1 ⟨rfl, ⟨⟨gs, l, f, c, h1, h2, hl, hge, hl0, hf0, hf1, hc0, hc1⟩, _⟩, kp⟩
        refine ⟨_, rfl, _, _, _, _, rfl, rfl, SqL.of h1, rfl, _, _, rfl, rfl, _, rfl, ?_⟩
        refine ite2 (fun hlt => ?_) (fun hnl => ?_)
        · refine ⟨_, rfl, _, _, _, _, rfl, rfl, SqL.of h1, rfl, (by show 0 ≤ sizeLine; decide), fun p hp => ?_⟩
          have g2 : (upd H1 p (.lst [])) g = some (.lst (gs.map V.int)) := (upd_ne (ne_of_none h2 hp)).trans h2
          have g1 : (upd H1 p (.lst [])) t = some (.lst [.ref g, .int l, .int f, .int c]) := (upd_ne (ne_of_none h1 hp)).trans h1
          have kp1 : Keep t g H (upd H1 p (.lst [])) := fun b o e n1 n2 => (upd_ne (ne_of_none (kp b o e n1 n2) hp)).trans (kp b o e n1 n2)
          refine ⟨_, _, .lst (SqL.of g2) (dpAll_ints gs), .lst (SqL.of upd_same) .nil, shaped_ints gs, rfl, _, rfl, ?_⟩
          cases gs with
          | nil => exact iteF ⟨rfl, ⟨⟨[], l, f, c, g1, g2, hl, hge, hl0, hf0, hf1, hc0, hc1⟩, hne⟩, kp1⟩
          | cons y ys =>
            refine iteT ?_
            -- tray[1] = tray[0].pop(0)
            refine ⟨_, rfl, _, _, _, _, rfl, rfl, SqL.of g1, rfl, .inl ⟨rfl, _, SqL.of g2⟩, _, _, _, 0, _, rfl, rfl, g2, by decide, by decide, seqIx0 (by simp), rfl, ?_⟩
            refine ⟨_, rfl, _, _, _, 1, rfl, rfl, (upd_ne hne).trans g1, rfl, ?_⟩
            refine ⟨⟨rfl, ⟨⟨ys, y, f, c, upd_same, (upd_ne (Ne.symm hne)).trans upd_same, ?_, ?_, ?_, hf0, hf1, hc0, hc1⟩, hne⟩, ?_⟩, ?_⟩
            · simp at hl; omega
            · exact fun x hx => hge x (List.mem_cons_of_mem _ hx)
            · exact hge y List.mem_cons_self
            · exact fun b o e n1 n2 => (upd_ne n1).trans ((upd_ne n2).trans (kp1 b o e n1 n2))
            · rw [lenAt_of ((upd_ne (Ne.symm hne)).trans upd_same), lenAt_of h2]
              simp
        · exact iteF ⟨rfl, ⟨⟨gs, l, f, c, h1, h2, hl, hge, hl0, hf0, hf1, hc0, hc1⟩, hne⟩, kp⟩
      · intro σ1 H1 Q1 Q2 hQ hc
        obtain ⟨v, hv, p, xs, i, x, e1, e2, hs, ha, i1, j1, e3, e4, k1, ek, hif⟩ := hc
        refine ⟨v, hv, p, xs, i, x, e1, e2, hs, ha, i1, j1, e3, e4, k1, ek, ?_⟩
        cases k1 with
        | false => exact hQ _ _ hif
        | true =>
          obtain ⟨v, hv, p, xs, i, x, e1, e2, hs, ha, hz, hp⟩ := hif
          refine ⟨v, hv, p, xs, i, x, e1, e2, hs, ha, hz, fun p' np => ?_⟩
          obtain ⟨d, e, d1, d2, s1, s2, b, eb, q⟩ := hp p' np
          exact ⟨d, e, d1, d2, s1, s2, b, eb, hQ _ _ q⟩
    · rintro σ1 H1 ⟨rfl, ⟨⟨gs, l, f, c, h1, h2, hl, hge, hl0, hf0, hf1, hc0, hc1⟩, _⟩, kp⟩
      refine ⟨fun σ' H' => σ' = [some (.ref t), some (.int m), none, none] ∧ H' = H1, ?_, ?_⟩
      · refine ⟨_, rfl, _, _, _, _, rfl, rfl, SqL.of h1, rfl, _, _, rfl, rfl, _, rfl, ?_⟩
        refine ite2 (fun hge2 => ?_) (fun _ => ⟨rfl, rfl⟩)
        refine ⟨_, rfl, _, _, _, _, rfl, rfl, SqL.of h1, rfl, _, rfl, _, _, rfl, rfl, hm, ?_⟩
        refine ⟨_, rfl, _, _, _, _, rfl, rfl, SqL.of h1, rfl, _, rfl, _, _, rfl, rfl, wide_div hm hmb (by decide) (by decide), _, rfl, _, _, _, 1, rfl, rfl, h1, rfl, _, rfl, ?_⟩
        refine k _ _ (Int.emod_nonneg _ (by omega)) (Int.emod_lt_of_pos _ hm) ⟨⟨gs, l / m, f, c, upd_same, (upd_ne (Ne.symm hne)).trans h2, hl, hge, Int.ediv_nonneg hl0 (by omega), hf0, hf1, hc0, by push_cast; omega⟩, hne⟩ fun b o e n1 n2 => (upd_ne n1).trans (kp b o e n1 n2)
      · rintro σ2 H2 ⟨rfl, rfl⟩
        refine ⟨_, rfl, _, _, _, _, rfl, rfl, SqL.of h1, rfl, _, _, rfl, rfl, _, rfl, _, _, _, 3, rfl, rfl, h1, rfl, ?_⟩
        have g1 : (upd H2 t (.lst (List.set [.ref g, .int l, .int f, .int c] 3 (.int (c + 1))))) t = some (.lst [.ref g, .int l, .int f, .int (c + 1)]) := upd_same
        have bf : (f + 5).natAbs < 2 ^ 63 := by omega
        have bc : (c + 1 + 2).natAbs < 2 ^ 61 := by omega
        have b3 : ((c + 1 + 2) ^ (3 : Int).toNat).natAbs < 2 ^ (61 * 3) := pow_lt bc (by decide)
        refine ⟨_, rfl, _, _, _, _, rfl, rfl, SqL.of g1, rfl, _, _, rfl, rfl, _, rfl, _, _, _, _, rfl, rfl, SqL.of g1, rfl, _, _, rfl, rfl, _, _, rfl, rfl, ⟨by decide, by decide, Nat.lt_trans bc (by decide)⟩, _, _, rfl, rfl, wide_mul bf b3 (by decide) (by decide) (by decide), ?_⟩
        refine ⟨_, rfl, _, _, _, _, rfl, rfl, SqL.of g1, rfl, _, _, rfl, rfl, wide_mul (a := 30) (b := 61) (by decide) (by omega) (by decide) (by decide) (by decide), _, _, rfl, rfl, ?_⟩
        refine ⟨_, _, rfl, rfl, ⟨by decide, by decide, by decide⟩, _, _, rfl, rfl, _, _, rfl, rfl, (by show (0 : Int) < _; decide), ?_⟩
        have hx0 := Int.emod_nonneg ((f + 5) * (c + 1 + 2) ^ (3 : Int).toNat + 1000003 * (c + 1)) (show (2 : Int) ^ (61 : Int).toNat - 1 ≠ 0 by decide)
        have hx1 := Int.emod_lt_of_pos ((f + 5) * (c + 1 + 2) ^ (3 : Int).toNat + 1000003 * (c + 1)) (show (0 : Int) < (2 : Int) ^ (61 : Int).toNat - 1 by decide)
        have e61 : (2 : Int) ^ (61 : Int).toNat - 1 = 2305843009213693951 := by decide
        rw [e61] at hx0 hx1
        refine ⟨_, rfl, _, _, rfl, rfl, ⟨by decide, by decide, ?_⟩, _, _, rfl, rfl, ⟨by decide, by decide, by decide⟩, _, _, rfl, rfl, _, _, rfl, rfl, (by show (0 : Int) < _; decide), _, _, rfl, rfl, wide_div (b := 10) (by decide) (by decide) (by decide) (by decide), _, rfl, _, _, rfl, rfl, hm, ?_⟩
        · show (((f + 5) * (c + 1 + 2) ^ (3 : Int).toNat + 1000003 * (c + 1)) % ((2 : Int) ^ (61 : Int).toNat - 1)).natAbs < 2 ^ 64
          rw [e61]
          omega
        · refine k _ _ (Int.emod_nonneg _ (by omega)) (Int.emod_lt_of_pos _ hm) ⟨⟨gs, l, f, c + 1, g1, (upd_ne (Ne.symm hne)).trans h2, hl, hge, hl0, hf0, hf1, by omega, by push_cast; omega⟩, hne⟩ fun b o e n1 n2 => (upd_ne n1).trans (kp b o e n1 n2)
end
end KA
namespace KA
open PySem PySem.Spec PyProof.Rows L2 DP
def spPlace (K : PySem.W.Frag) : Sp := fun vs H Q _ => ∃ (v : V) (l : Lk) (sd : Str) (x L : Int), vs = [v, .str sd, .int x, .int L] ∧ Dp K H v (encL l) ∧ SideOk sd ∧ 0 < L ∧ L.natAbs < 2 ^ 200 ∧ x.natAbs < 2 ^ 400 ∧ Sized 400 l ∧ Q (.int (plc sd l x L)) H
def spFar (K : PySem.W.Frag) (f : Lk → Lk → Int → Bool) : Sp := fun vs H Q _ => ∃ (v u : V) (a b : Lk) (L : Int), vs = [v, u, .int L] ∧ Dp K H v (encL a) ∧ Dp K H u (encL b) ∧ WordOk a.1 ∧ WordOk b.1 ∧ 0 < L ∧ L.natAbs < 2 ^ 200 ∧ Sized 400 a ∧ Sized 400 b ∧ Q (.bl (f a b L)) H
section
variable {P : Program} {w : World} {K : PySem.W.Frag} {mg : Str → Option Value} {base : Heap} {Z : Ad}
theorem ok_place_by (T : Tx K w mg Z) : FnOk P w K mg base CX0 1 Z.a_place_by Z.d_place_by P_place_by (spPlace K) := by
  refine T.F_place_by.ok scplace_by (fun vs H Q E h => ?_) (fun cdv A outer s H vs Q E hr h => ?_)
  · obtain ⟨v, l, sd, x, L, rfl, _⟩ := h
    rfl
  · obtain ⟨v, l, sd, x, L, rfl, hv, hsd, hL, hLb, hx, hl, k⟩ := h
    obtain ⟨a, rfl, ha⟩ := dp_look hv
    refine ⟨_, (pss_cons (ps_asg (pv 0) (tupK (K := K) (by rfl) (pgs_cons (pg_name (i := 4) scplace_by.nd rfl (Or.inl rfl)) (pgs_cons (pg_name (i := 5) scplace_by.nd rfl (Or.inl rfl)) (pgs_cons (pg_name (i := 6) scplace_by.nd rfl (Or.inl rfl)) pgs_nil)))))
      (C8.pss_cut (ps_if (pt_cmpR op_eq (pv 1) (pe_glob rfl T.g_SLOW T.r_SLOW) (nomark _)) (pss_one (ps_ret (pe_op op_add (pv 6) (pe_op op_mulW (pe_op op_fdivW (pe_op op_sub (pv 2) (pv 5)) (pv 3)) (pv 3))))) pss_nil)
      (pss_one (ps_ret (pe_op op_sub (pv 6) (pe_op op_mulW (pe_op op_fdivW (pe_op op_sub (pv 5) (pv 2)) (pv 3)) (pv 3))))))), ?_⟩
    refine ⟨_, rfl, _, _, rfl, ha, rfl, _, _, rfl, _, _, rfl, _, _, rfl, rfl, ?_⟩
    have e1 : (x - l.2.1).natAbs < 2 ^ 401 := sub_lt hx hl.1
    have e2 : (l.2.1 - x).natAbs < 2 ^ 401 := sub_lt hl.1 hx
    rcases hsd with e | e
    · subst e
      rw [plc_slow] at k
      refine ⟨fun _ _ => False, ⟨_, rfl, rfl, _, rfl, iteT ⟨_, rfl, _, rfl, _, rfl, _, _, rfl, rfl, _, rfl, _, _, rfl, rfl, wide_div hL hLb (by decide) (by decide), _, rfl, _, _, rfl, rfl, wide_mul (div_lt hL e1) hLb (by decide) (by decide) (by decide), _, _, rfl, rfl, k⟩⟩, fun _ _ z => z.elim⟩
    · subst e
      rw [plc_fast] at k
      refine ⟨fun σ' H' => σ' = [some (.ref a), some (.str "fast"), some (.int x), some (.int L), some (.str l.1), some (.int l.2.1), some (.int l.2.2)] ∧ H' = H, ⟨_, rfl, rfl, _, rfl, ?_⟩, ?_⟩
      · have e3 : decide (V.str "fast" = V.str "slow") = false := by decide +kernel
        rw [e3]
        exact iteF ⟨rfl, rfl⟩
      · rintro σ1 H1 ⟨rfl, rfl⟩
        exact ⟨_, rfl, _, rfl, _, rfl, _, _, rfl, rfl, _, rfl, _, _, rfl, rfl, wide_div hL hLb (by decide) (by decide), _, rfl, _, _, rfl, rfl, wide_mul (div_lt hL e2) hLb (by decide) (by decide) (by decide), _, _, rfl, rfl, k⟩
theorem ok_too_far (T : Tx K w mg Z) : FnOk P w K mg base CX0 2 Z.a_too_far Z.d_too_far P_too_far (spFar K tooFar) := by
  refine T.F_too_far.ok sctoo_far (fun vs H Q E h => ?_) (fun cdv A outer s H vs Q E hr h => ?_)
  · obtain ⟨v, u, a, b, L, rfl, _⟩ := h
    rfl
  · obtain ⟨v, u, a, b, L, rfl, hv, hu, wa, wb, hL, hLb, sa, sb, k⟩ := h
    obtain ⟨p, rfl, hp⟩ := dp_look hv
    obtain ⟨q, rfl, hq⟩ := dp_look hu
    obtain ⟨es, n, DW⟩ := T.kd_WORDS
    obtain ⟨da1, da2, _⟩ := decl_words wa
    obtain ⟨db1, db2, _⟩ := decl_words wb
    refine ⟨_, (C8.pss_cut (ps_if (PW.pt (pw_or (pt_cmpR (notInS (K := K)) (pe_ix (ixT (K := K)) (pv 0) pe_int (fun _ _ => rfl)) (pe_ix (ix_kd DW) (pe_glob (v := .ref Z.a_WORDS) rfl T.g_WORDS rfl) (pe_glob rfl T.g_SLOW T.r_SLOW) (fun _ _ => rfl)) (by rfl)) (pw_or1 (pt_cmpR (notInS (K := K)) (pe_ix (ixT (K := K)) (pv 1) pe_int (fun _ _ => rfl)) (pe_ix (ix_kd DW) (pe_glob (v := .ref Z.a_WORDS) rfl T.g_WORDS rfl) (pe_glob rfl T.g_FAST T.r_FAST) (fun _ _ => rfl)) (by rfl))))) (pss_one (ps_ret pe_bl)) pss_nil)
      (pss_one (ps_ret (pe_cmpR op_gt (pe_call (ok_place_by T) (hr.mono (by decide)) (by rfl) T.g_place_by T.F_place_by.kp T.bb_place_by .nil pass0 (pa_cons (pv 0) (pa_cons (pe_glob rfl T.g_SLOW T.r_SLOW) (pa_cons (pe_ix (ixT (K := K)) (pv 1) pe_int (fun _ _ => rfl)) (pa_cons (pv 2) pa_nil))))) (pe_ix (ixT (K := K)) (pv 1) pe_int (fun _ _ => rfl)) (nomark _))))), ?_⟩
    unfold tooFar at k
    refine ⟨fun σ' H' => σ' = [some (.ref p), some (.ref q), some (.int L)] ∧ H' = H ∧ onSide "slow" a.1 = true ∧ onSide "fast" b.1 = true, ?_, ?_⟩
    · refine ⟨_, rfl, _, _, _, _, rfl, rfl, hp, rfl, _, _, .ref Z.t_slow, rfl, rfl, T.w_slow, rfl, _, _, rfl, .inr (T.q_slow _), rfl, rfl, _, rfl, ?_⟩
      cases c1 : onSide "slow" a.1 with
      | false =>
        rw [c1] at da1 k
        have : (if true = true then !inV (V.str a.1) [V.str "at", V.str "from"] else inV (V.str a.1) [V.str "at", V.str "from"]) = true := by rw [if_pos rfl, da1]; rfl
        rw [this]
        exact iteT (iteT k)
      | true =>
        rw [c1] at da1
        have : (if true = true then !inV (V.str a.1) [V.str "at", V.str "from"] else inV (V.str a.1) [V.str "at", V.str "from"]) = false := by rw [if_pos rfl, da1]; rfl
        rw [this]
        refine iteF ⟨_, rfl, _, _, _, _, rfl, rfl, hq, rfl, _, _, .ref Z.t_fast, rfl, rfl, T.w_fast, rfl, _, _, rfl, .inr (T.q_fast _), rfl, rfl, _, rfl, ?_⟩
        cases c2 : onSide "fast" b.1 with
        | false =>
          rw [c2] at db2
          rw [c1, c2] at k
          have : (if true = true then !inV (V.str b.1) [V.str "at", V.str "upto"] else inV (V.str b.1) [V.str "at", V.str "upto"]) = true := by rw [if_pos rfl, db2]; rfl
          rw [this]
          exact iteT k
        | true =>
          rw [c2] at db2
          have : (if true = true then !inV (V.str b.1) [V.str "at", V.str "upto"] else inV (V.str b.1) [V.str "at", V.str "upto"]) = false := by rw [if_pos rfl, db2]; rfl
          rw [this]
          exact iteF ⟨rfl, rfl, rfl, rfl⟩
    · rintro σ1 H1 ⟨rfl, rfl, c1, c2⟩
      rw [c1, c2] at k
      refine ⟨_, rfl, _, rfl, _, _, _, _, rfl, rfl, hq, rfl, _, rfl, ?_⟩
      exact ⟨_, a, "slow", b.2.1, L, rfl, hv, .inl rfl, hL, hLb, sb.1, sa, _, rfl, _, _, _, _, rfl, rfl, hq, rfl, _, _, rfl, rfl, k⟩
theorem ok_clash (T : Tx K w mg Z) : FnOk P w K mg base CX0 3 Z.a_clash Z.d_clash P_clash (spFar K clashB) := by
  refine T.F_clash.ok scclash (fun vs H Q E h => ?_) (fun cdv A outer s H vs Q E hr h => ?_)
  · obtain ⟨v, u, a, b, L, rfl, _⟩ := h
    rfl
  · obtain ⟨v, u, a, b, L, rfl, hv, hu, wa, wb, hL, hLb, sa, sb, k⟩ := h
    refine ⟨_, (pss_one (ps_ret (pe_or (pe_call (ok_too_far T) (hr.mono (by decide)) (by rfl) T.g_too_far T.F_too_far.kp T.bb_too_far .nil pass0 (pa_cons (pv 0) (pa_cons (pv 1) (pa_cons (pv 2) pa_nil)))) (pe_one (pe_call (ok_too_far T) (hr.mono (by decide)) (by rfl) T.g_too_far T.F_too_far.kp T.bb_too_far .nil pass0 (pa_cons (pv 1) (pa_cons (pv 0) (pa_cons (pv 2) pa_nil)))))))), ?_⟩
    unfold clashB at k
    refine ⟨_, rfl, _, rfl, _, rfl, v, u, a, b, L, rfl, hv, hu, wa, wb, hL, hLb, sa, sb, _, rfl, ?_⟩
    cases c : tooFar a b L with
    | true => rw [c] at k; exact iteT k
    | false =>
      rw [c] at k
      exact iteF ⟨_, rfl, _, rfl, _, rfl, u, v, b, a, L, rfl, hu, hv, wb, wa, hL, hLb, sb, sa, k⟩
end
end KA
namespace KA
open PySem PySem.Spec PyProof.Rows L2 DP
def sideOf (sd : Str) (ls : List Lk) : List Lk := ls.filter fun l => onSide sd l.1
def spSide (K : PySem.W.Frag) : Sp := fun vs H Q _ => ∃ (v : V) (ls : List Lk) (sd : Str), vs = [v, .str sd] ∧ Dp K H v (.list (ls.map encL)) ∧ SideOk sd ∧ (∀ l ∈ ls, WordOk l.1) ∧ ls.length ≤ 1000 ∧
  ∀ H' r, Same H H' → Dp K H' r (.list ((sideOf sd ls).map encL)) → Q r H'
/-- a step: where, by which look -/
def encS (sd : Str) (x L : Int) (l : Lk) : PyData := .tuple [.int (plc sd l x L), encL l]
/-- the best step's place -/
def IsBest (sd : Str) (ls : List Lk) (x L m : Int) : Prop := (∃ l ∈ ls, plc sd l x L = m) ∧ ∀ l ∈ ls, if sd = "slow" then plc sd l x L ≤ m else m ≤ plc sd l x L
def spBest (K : PySem.W.Frag) : Sp := fun vs H Q _ => ∃ (v : V) (ls : List Lk) (sd : Str) (x L : Int), vs = [v, .str sd, .int x, .int L] ∧ Dp K H v (.list (ls.map encL)) ∧ SideOk sd ∧ (∀ l ∈ ls, WordOk l.1 ∧ Sized 400 l) ∧ ls.length ≤ 1000 ∧ 0 < L ∧ L.natAbs < 2 ^ 200 ∧ x.natAbs < 2 ^ 400 ∧
  (ls = [] → Q .non H) ∧ ∀ H' r l, l ∈ ls → Same H H' → IsBest sd ls x L (plc sd l x L) → Dp K H' r (encS sd x L l) → Q r H'
/-! ### the best step -/
theorem alike_step (sd : Str) (x L : Int) (a b : Lk) : PySem.W.alike (encS sd x L a) (encS sd x L b) = true := by simp [encS, encL, PySem.W.alike, PySem.W.alikeAll]
theorem steps_alike (sd : Str) (x L : Int) (ls : List Lk) : PySem.W.AlikeAll (ls.map (encS sd x L)) := by
  refine ⟨fun a ha b hb => ?_, fun a ha => ?_⟩
  · obtain ⟨p, _, rfl⟩ := List.mem_map.mp ha
    obtain ⟨q, _, rfl⟩ := List.mem_map.mp hb
    exact alike_step _ _ _ _ _
  · obtain ⟨p, _, rfl⟩ := List.mem_map.mp ha
    exact fun e => by cases e
theorem lay_look {l : Lk} (h : WordOk l.1) : (encL l).canLay0 = true := by
  obtain ⟨a, b, c⟩ := l
  have h : WordOk a := h
  rcases h with e | e | e <;> subst e <;> simp [encL, PyData.canLay0, PyData.canLayAll0] <;> decide +kernel
theorem steps_lay (sd : Str) (x L : Int) : ∀ ls : List Lk, (∀ l ∈ ls, WordOk l.1) → PyData.canLayAll0 (ls.map (encS sd x L)) = true
  | [], _ => rfl
  | l :: ls, h => by
    have h1 := lay_look (h l List.mem_cons_self)
    have h2 := steps_lay sd x L ls fun q hq => h q (List.mem_cons_of_mem _ hq)
    show PyData.canLayAll0 (encS sd x L l :: ls.map (encS sd x L)) = true
    simp [PyData.canLayAll0, h2, encS, PyData.canLay0, h1]
theorem steps_depth (sd : Str) (x L : Int) : ∀ ls : List Lk, PyData.depthAll (ls.map (encS sd x L)) ≤ 60
  | [] => by simp [PyData.depthAll]
  | l :: ls => by
    have h2 := steps_depth sd x L ls
    show PyData.depthAll (encS sd x L l :: ls.map (encS sd x L)) ≤ 60
    have h3 : (encS sd x L l).depth = 2 := by simp [encS, encL, PyData.depth, PyData.depthAll]
    rw [PyData.depthAll, h3]
    omega
/-- a greater place is a greater step -/
theorem lt_step {sd : Str} {x L : Int} {a b : Lk} (h : plc sd a x L < plc sd b x L) : PySem.W.dataLt (encS sd x L a) (encS sd x L b) = true := by
  unfold encS
  rw [PySem.W.dataLt_tuple, PySem.W.dataLt_cons (by simp [PySem.W.alike])]
  have e : PyData.eqv (.int (plc sd a x L)) (.int (plc sd b x L)) = false := by simp [PyData.eqv]; omega
  rw [e, if_neg Bool.false_ne_true, PySem.W.dataLt_int]
  exact decide_eq_true h
theorem le_step {sd : Str} {x L : Int} {a b : Lk} (h : PySem.W.dataLt (encS sd x L a) (encS sd x L b) = true) : plc sd a x L ≤ plc sd b x L := by
  unfold encS at h
  rw [PySem.W.dataLt_tuple, PySem.W.dataLt_cons (by simp [PySem.W.alike])] at h
  by_cases e : plc sd a x L = plc sd b x L
  · omega
  · have e' : PyData.eqv (.int (plc sd a x L)) (.int (plc sd b x L)) = false := by simp [PyData.eqv]; omega
    rw [e', if_neg Bool.false_ne_true, PySem.W.dataLt_int] at h
    have := of_decide_eq_true h
    omega
theorem max_go (x L : Int) : ∀ (ls : List Lk) (l : Lk), ∃ q, (q = l ∨ q ∈ ls) ∧ (ls.map (encS "slow" x L)).foldl (fun a y => if PySem.W.dataLt a y then y else a) (encS "slow" x L l) = encS "slow" x L q ∧ plc "slow" l x L ≤ plc "slow" q x L ∧ ∀ p ∈ ls, plc "slow" p x L ≤ plc "slow" q x L
  | [], l => ⟨l, .inl rfl, rfl, Int.le_refl _, fun _ h => by cases h⟩
  | y :: ls, l => by
    rw [List.map_cons, List.foldl_cons]
    cases c : PySem.W.dataLt (encS "slow" x L l) (encS "slow" x L y) with
    | true =>
      rw [if_pos rfl]
      obtain ⟨q, hq, e, h1, h2⟩ := max_go x L ls y
      have := le_step c
      refine ⟨q, ?_, e, by omega, fun p hp => ?_⟩
      · rcases hq with e | e
        · subst e; exact .inr List.mem_cons_self
        · exact .inr (List.mem_cons_of_mem _ e)
      · rcases List.mem_cons.mp hp with e | e
        · subst e; exact h1
        · exact h2 p e
    | false =>
      rw [if_neg Bool.false_ne_true]
      obtain ⟨q, hq, e, h1, h2⟩ := max_go x L ls l
      refine ⟨q, ?_, e, h1, fun p hp => ?_⟩
      · rcases hq with e | e
        · exact .inl e
        · exact .inr (List.mem_cons_of_mem _ e)
      · rcases List.mem_cons.mp hp with e | e
        · subst e
          by_cases hlt : plc "slow" l x L < plc "slow" p x L
          · rw [lt_step hlt] at c; cases c
          · omega
        · exact h2 p e
theorem max_step (x L : Int) (l : Lk) (ls : List Lk) : ∃ q, q ∈ l :: ls ∧ PySem.W.maxD (encS "slow" x L l) (ls.map (encS "slow" x L)) = encS "slow" x L q ∧ IsBest "slow" (l :: ls) x L (plc "slow" q x L) := by
  obtain ⟨q, hq, e, h1, h2⟩ := max_go x L ls l
  have hm : q ∈ l :: ls := by
    rcases hq with e | e
    · subst e; exact List.mem_cons_self
    · exact List.mem_cons_of_mem _ e
  refine ⟨q, hm, e, ⟨q, hm, rfl⟩, fun p hp => ?_⟩
  rw [if_pos rfl]
  rcases List.mem_cons.mp hp with e | e
  · subst e; exact h1
  · exact h2 p e
theorem min_go (x L : Int) : ∀ (ls : List Lk) (l : Lk), ∃ q, (q = l ∨ q ∈ ls) ∧ (ls.map (encS "fast" x L)).foldl (fun a y => if PySem.W.dataLt y a then y else a) (encS "fast" x L l) = encS "fast" x L q ∧ plc "fast" q x L ≤ plc "fast" l x L ∧ ∀ p ∈ ls, plc "fast" q x L ≤ plc "fast" p x L
  | [], l => ⟨l, .inl rfl, rfl, Int.le_refl _, fun _ h => by cases h⟩
  | y :: ls, l => by
    rw [List.map_cons, List.foldl_cons]
    cases c : PySem.W.dataLt (encS "fast" x L y) (encS "fast" x L l) with
    | true =>
      rw [if_pos rfl]
      obtain ⟨q, hq, e, h1, h2⟩ := min_go x L ls y
      have := le_step c
      refine ⟨q, ?_, e, by omega, fun p hp => ?_⟩
      · rcases hq with e | e
        · subst e; exact .inr List.mem_cons_self
        · exact .inr (List.mem_cons_of_mem _ e)
      · rcases List.mem_cons.mp hp with e | e
        · subst e; exact h1
        · exact h2 p e
    | false =>
      rw [if_neg Bool.false_ne_true]
      obtain ⟨q, hq, e, h1, h2⟩ := min_go x L ls l
      refine ⟨q, ?_, e, h1, fun p hp => ?_⟩
      · rcases hq with e | e
        · exact .inl e
        · exact .inr (List.mem_cons_of_mem _ e)
      · rcases List.mem_cons.mp hp with e | e
        · subst e
          by_cases hlt : plc "fast" p x L < plc "fast" l x L
          · rw [lt_step hlt] at c; cases c
          · omega
        · exact h2 p e
theorem min_step (x L : Int) (l : Lk) (ls : List Lk) : ∃ q, q ∈ l :: ls ∧ PySem.W.minD (encS "fast" x L l) (ls.map (encS "fast" x L)) = encS "fast" x L q ∧ IsBest "fast" (l :: ls) x L (plc "fast" q x L) := by
  obtain ⟨q, hq, e, h1, h2⟩ := min_go x L ls l
  have hm : q ∈ l :: ls := by
    rcases hq with e | e
    · subst e; exact List.mem_cons_self
    · exact List.mem_cons_of_mem _ e
  refine ⟨q, hm, e, ⟨q, hm, rfl⟩, fun p hp => ?_⟩
  rw [if_neg slow_ne]
  rcases List.mem_cons.mp hp with e | e
  · subst e; exact h1
  · exact h2 p e
section
variable {P : Program} {w : World} {K : PySem.W.Frag} {mg : Str → Option Value} {base : Heap} {Z : Ad}
theorem words_side {sd x : Str} (hs : SideOk sd) (hx : WordOk x) : inV (.str x) (if sd = "slow" then [.str "at", .str "from"] else [.str "at", .str "upto"]) = onSide sd x := by
  obtain ⟨h1, h2, _⟩ := decl_words hx
  rcases hs with e | e
  · subst e; rw [if_pos rfl]; exact h1
  · subst e; rw [if_neg slow_ne]; exact h2
end
end KA
namespace KA
open PySem PySem.Spec PyProof.Rows L2 DP
/-- a Dark's fields -/
def df (L : Int) (la : Addr) : List (Str × V) := [("_length", .int L), ("_looks", .ref la)]
theorem ne_ll : ¬ (("_looks" : Str) = "_length") := by decide +kernel
theorem ne_ll' : ¬ (("_length" : Str) = "_looks") := by decide +kernel
theorem df_length (L : Int) (la : Addr) : (df L la).lookup ("_length" : Str) = some (.int L) := by simp [df, List.lookup]
theorem df_looks (L : Int) (la : Addr) : (df L la).lookup ("_looks" : Str) = some (.ref la) := by
  have h : (("_looks" : Str) == ("_length" : Str)) = false := by decide +kernel
  simp [df, List.lookup, h]
theorem df_no (L : Int) (la : Addr) {m : Str} (h1 : (m == ("_length" : Str)) = false) (h2 : (m == ("_looks" : Str)) = false) : (df L la).lookup m = none := by simp [df, List.lookup, h1, h2]
theorem df_put1 (v : V) : putF "_length" v [] = [(("_length" : Str), v)] := rfl
theorem df_put2 (L : Int) (la : Addr) : putF "_looks" (.ref la) [("_length", .int L)] = df L la := by
  show (if ("_length" : Str) = "_looks" then _ else _) = _
  rw [if_neg ne_ll']; rfl
theorem df_put3 (L : Int) (la lb : Addr) : putF "_looks" (.ref lb) (df L la) = df L lb := by
  show (if ("_length" : Str) = "_looks" then _ else (("_length" : Str), V.int L) :: putF "_looks" (.ref lb) [("_looks", .ref la)]) = _
  rw [if_neg ne_ll']
  show (("_length" : Str), V.int L) :: (if ("_looks" : Str) = "_looks" then _ else _) = _
  rw [if_pos rfl]; rfl
/-- what is free there was free before -/
structure FreeIn (H H' : Hp) : Prop where
  free : ∀ {b : Addr}, H' b = none → H b = none
structure DarkAt (Z : Ad) (K : PySem.W.Frag) (H : Hp) (d : Addr) (L : Int) (ls : List Lk) : Prop where
  ex : ∃ dx la vs, H d = some (.ins Z.C dx (df L la)) ∧ H la = some (.lst vs) ∧ DpAll K H vs (ls.map encL)
  pos : 0 < L
  big : L.natAbs < 2 ^ 200
  ok : ∀ l ∈ ls, WordOk l.1 ∧ Sized 302 l
  len : ls.length ≤ 60
theorem DarkAt.same {Z : Ad} {K : PySem.W.Frag} {H H' : Hp} {d : Addr} {L : Int} {ls : List Lk} (D : DarkAt Z K H d L ls) (S : Same H H') : DarkAt Z K H' d L ls := by
  obtain ⟨dx, la, vs, h1, h2, h3⟩ := D.ex
  exact ⟨⟨dx, la, vs, S _ _ h1, S _ _ h2, dpAll_mono S _ _ h3⟩, D.pos, D.big, D.ok, D.len⟩
theorem Sized.up {m n : Nat} {l : Lk} (h : Sized m l) (hm : m ≤ n) : Sized n l := ⟨lt_up h.1 hm, lt_up h.2 hm⟩
theorem df_inj {C C' dx dx' : Addr} {L L' : Int} {la la' : Addr} (h : some (HO.ins C dx (df L la)) = some (HO.ins C' dx' (df L' la'))) : la = la' := by
  have h1 : df L la = df L' la' := by injection h with h; injection h
  simp [df] at h1
  exact h1.2
def spInit (Z : Ad) (K : PySem.W.Frag) : Sp := fun vs H Q _ => ∃ (d dx : Addr) (L : Int), vs = [.ref d, .int L] ∧ H d = some (.ins Z.C dx []) ∧ 0 < L ∧ L.natAbs < 2 ^ 200 ∧ ∀ H' : Hp, DarkAt Z K H' d L [] → (∀ la dx, H' d = some (.ins Z.C dx (df L la)) → H la = none) → (∀ b o, H b = some o → b ≠ d → H' b = some o) → Q .non H'
def spLooks (Z : Ad) (K : PySem.W.Frag) : Sp := fun vs H Q _ => ∃ (d : Addr) (L : Int) (ls : List Lk), vs = [.ref d] ∧ DarkAt Z K H d L ls ∧ ∀ (p : Addr) (xs : List V) (H' : Hp), H p = none → Same H H' → H' p = some (.lst xs) → DpAll K H' xs (ls.map encL) → Q (.ref p) H'
def spWord : Sp := fun vs H Q _ => ∃ (d : V) (x : Str), vs = [d, .str x] ∧ WordOk x ∧ Q .non H
def spHome (Z : Ad) (K : PySem.W.Frag) : Sp := fun vs H Q _ => ∃ (d : Addr) (L : Int) (ls : List Lk) (l : Lk), vs = [.ref d, .str l.1, .int l.2.1, .int l.2.2] ∧ DarkAt Z K H d L ls ∧ WordOk l.1 ∧ Sized 300 l ∧ ∀ H' r, Same H H' → Dp K H' r (encL (home L l)) → Q r H'
def spClashing (Z : Ad) (K : PySem.W.Frag) : Sp := fun vs H Q _ => ∃ (d : Addr) (v : V) (L : Int) (ls : List Lk) (l : Lk), vs = [.ref d, v] ∧ DarkAt Z K H d L ls ∧ Dp K H v (encL l) ∧ WordOk l.1 ∧ Sized 302 l ∧
  (ls.find? (fun o => clashB l o L) = none → Q .non H) ∧ ∀ o r, ls.find? (fun o => clashB l o L) = some o → Dp K H r (encL o) → Q r H
/-- what is heard -/
def heard (L : Int) (ls : List Lk) (l : Lk) : List Lk := if home L l ∈ ls then ls else (ls ++ [home L l]).mergeSort (PySem.W.dataLe false encL)
def spHear (Z : Ad) (K : PySem.W.Frag) : Sp := fun vs H Q _ => ∃ (d : Addr) (L : Int) (ls : List Lk) (l : Lk), vs = [.ref d, .str l.1, .int l.2.1, .int l.2.2] ∧ DarkAt Z K H d L ls ∧ WordOk l.1 ∧ Sized 300 l ∧ ls.length < 60 ∧ (∀ o ∈ ls, clashB (home L l) o L = false) ∧
  ∀ H', DarkAt Z K H' d L (heard L ls l) → (∀ la dx, H' d = some (.ins Z.C dx (df L la)) → (∃ dx', H d = some (.ins Z.C dx' (df L la))) ∨ H la = none) → (∀ b o, H b = some o → b ≠ d → H' b = some o) → Q .non H'
def spBound (Z : Ad) (K : PySem.W.Frag) : Sp := fun vs H Q _ => ∃ (d : Addr) (L : Int) (ls : List Lk) (sd : Str) (x : Int), vs = [.ref d, .str sd, .int x] ∧ DarkAt Z K H d L ls ∧ SideOk sd ∧ x.natAbs < 2 ^ 400 ∧
  (sideOf sd ls = [] → ∀ H', Same H H' → Q .non H') ∧ ∀ m H', Same H H' → IsBest sd (sideOf sd ls) x L m → Q (.int m) H'
/-- what a side tells of x: None, or the best place -/
def Tells (sd : Str) (ls : List Lk) (x L : Int) (v : V) : Prop := (sideOf sd ls = [] ∧ v = .non) ∨ ∃ m, v = .int m ∧ IsBest sd (sideOf sd ls) x L m
def spSideOf (Z : Ad) (K : PySem.W.Frag) (sd : Str) : Sp := fun vs H Q _ => ∃ (d : Addr) (L : Int) (ls : List Lk) (x : Int), vs = [.ref d, .int x] ∧ DarkAt Z K H d L ls ∧ x.natAbs < 2 ^ 400 ∧
  ∀ v H', Same H H' → Tells sd ls x L v → Q v H'
theorem same_put {H : Hp} {d C dx : Addr} {fs fs' : List (Str × V)} (h : H d = some (.ins C dx fs)) : FreeIn H (upd H d (.ins C dx fs')) := ⟨fun {b} hb => by
  by_cases e : b = d
  · subst e; rw [upd_same] at hb; cases hb
  · rw [upd_ne e] at hb; exact hb⟩
theorem emod_small {x L : Int} (h : 0 < L) (hb : L.natAbs < 2 ^ 200) : (x - x / L * L).natAbs < 2 ^ 200 := by
  have e : x - x / L * L = x % L := by
    have := Int.mul_ediv_add_emod x L
    rw [Int.mul_comm (x / L) L]; omega
  rw [e]
  have h1 := Int.emod_nonneg x (show L ≠ 0 by omega)
  have h2 := Int.emod_lt_of_pos x h
  have h3 : (x % L).natAbs ≤ L.natAbs := by clear hb; omega
  exact Nat.lt_of_le_of_lt h3 hb
theorem home_sized {L : Int} {l : Lk} (h : 0 < L) (hb : L.natAbs < 2 ^ 200) (hl : Sized 300 l) : Sized 302 (home L l) := by
  have h0 := emod_small (x := l.2.1) h hb
  refine ⟨lt_up h0 (by decide), ?_⟩
  show (l.2.2 - l.2.1 / L * L).natAbs < 2 ^ 302
  have e : l.2.2 - l.2.1 / L * L = l.2.2 + ((l.2.1 - l.2.1 / L * L) - l.2.1) := by omega
  rw [e]
  have h1 : ((l.2.1 - l.2.1 / L * L) - l.2.1).natAbs < 2 ^ 301 := sub_lt (lt_up h0 (by decide)) hl.1
  exact add_lt (lt_up hl.2 (by decide)) h1
section
variable {P : Program} {w : World} {K : PySem.W.Frag} {mg : Str → Option Value} {base : Heap} {Z : Ad}
theorem ok_Dark_init (T : Tx K w mg Z) : FnOk P w K mg base CX0 1 Z.a_Dark_init Z.d_Dark_init P_Dark_init (spInit Z K) := by
  refine T.F_Dark_init.ok scDark_init (fun vs H Q E h => ?_) (fun cdv A outer s H vs Q E hr h => ?_)
  · obtain ⟨d, dx, L, rfl, _⟩ := h
    rfl
  · obtain ⟨d, dx, L, rfl, hd, hL, hLb, k⟩ := h
    refine ⟨_, (C8.pss_cut (ps_if (pt_cmpR op_lt (pv 1) pe_int (nomark _)) (pss_one ps_never) pss_nil)
      (pss_cons (ps_fld (pv 0) (pv 1) rfl)
      (pss_one (ps_fld (pv 0) (pe_lst pa_nil) rfl)))), ?_⟩
    refine ⟨fun σ' H' => σ' = [some (.ref d), some (.int L)] ∧ H' = H, ?_, ?_⟩
    · refine ⟨_, rfl, _, _, rfl, rfl, _, rfl, ?_⟩
      exact ite2 (fun c => (by have c' := of_decide_eq_true c; omega : False)) (fun _ => ⟨rfl, rfl⟩)
    · rintro σ1 H1 ⟨rfl, rfl⟩
      refine ⟨_, rfl, _, rfl, d, Z.C, dx, [], rfl, hd, T.cl, T.n_length, (by show 0 < 1000; decide), ?_⟩
      refine ⟨(by show 0 ≤ sizeLine; decide), fun p hp => ?_⟩
      have h1 : (upd H1 d (.ins Z.C dx (putF "_length" (.int L) []))) d = some (.ins Z.C dx [("_length", .int L)]) := upd_same
      have hdp : d ≠ p := ne_of_none h1 hp
      refine ⟨_, rfl, d, Z.C, dx, [("_length", .int L)], rfl, (upd_ne hdp).trans h1, T.cl, T.n_looks, (by show 1 < 1000; decide), ?_⟩
      refine k _ ⟨⟨dx, p, [], Eq.trans upd_same (congrArg (fun q => some (HO.ins Z.C dx q)) (df_put2 L p)), (upd_ne (Ne.symm hdp)).trans upd_same, .nil⟩, hL, hLb, (fun _ z => absurd z (by simp)), Nat.zero_le _⟩ (fun la' dx' e => ?_) fun b o e hb => ?_
      · rw [upd_same, df_put2] at e
        rw [← df_inj e]
        exact (same_put hd).free hp
      have e1 : (upd H1 d (.ins Z.C dx (putF "_length" (.int L) []))) b = some o := (upd_ne hb).trans e
      exact (upd_ne hb).trans ((upd_ne (ne_of_none e1 hp)).trans e1)
theorem ok_Dark_looks (T : Tx K w mg Z) : FnOk P w K mg base CX0 1 Z.a_Dark_looks Z.d_Dark_looks P_Dark_looks (spLooks Z K) := by
  refine T.F_Dark_looks.ok scDark_looks (fun vs H Q E h => ?_) (fun cdv A outer s H vs Q E hr h => ?_)
  · obtain ⟨d, L, ls, rfl, _⟩ := h
    rfl
  · obtain ⟨d, L, ls, rfl, D, k⟩ := h
    obtain ⟨dx, la, xs, h1, h2, h3⟩ := D.ex
    refine ⟨_, (pss_one (ps_ret (pe_callTy (listK (K := K)) (by rfl) T.b_list (by decide +kernel) (pa_cons (fldK (K := K) (pv 0) rfl) pa_nil)))), ?_⟩
    refine ⟨_, rfl, d, Z.C, dx, _, _, rfl, h1, T.cl, T.n_looks, df_looks _ _, la, xs, rfl, .inl (SqL.of h2), fun p hp => ?_⟩
    exact k p xs _ hp (same_upd hp) upd_same (dpAll_mono (same_upd hp) _ _ h3)
theorem ok_Darkcheck_word (T : Tx K w mg Z) : FnOk P w K mg base CX0 1 Z.a_Darkcheck_word Z.d_Darkcheck_word P_Darkcheck_word (spWord) := by
  refine T.F_Darkcheck_word.ok scDarkcheck_word (fun vs H Q E h => ?_) (fun cdv A outer s H vs Q E hr h => ?_)
  · obtain ⟨d, x, rfl, _⟩ := h
    rfl
  · obtain ⟨d, x, rfl, hx, k⟩ := h
    refine ⟨_, (pss_one (ps_if (pt_cmpR (notInS (K := K)) (pv 1) (pe_glob (v := .ref Z.a_LW) rfl T.g_LOOK_WORDS rfl) (by rfl)) (pss_one ps_never) pss_nil)), ?_⟩
    obtain ⟨_, _, e⟩ := decl_words hx
    refine ⟨_, rfl, _, _, rfl, .inr (T.q_LW _), rfl, rfl, _, rfl, ?_⟩
    have e2 : (if true = true then !inV (V.str x) [V.str "at", V.str "from", V.str "upto"] else inV (V.str x) [V.str "at", V.str "from", V.str "upto"]) = false := by rw [if_pos rfl, e]; rfl
    rw [e2]
    exact iteF k
theorem ok_Darkhome (T : Tx K w mg Z) : FnOk P w K mg base CX0 2 Z.a_Darkhome Z.d_Darkhome P_Darkhome (spHome Z K) := by
  refine T.F_Darkhome.ok scDarkhome (fun vs H Q E h => ?_) (fun cdv A outer s H vs Q E hr h => ?_)
  · obtain ⟨d, L, ls, l, rfl, _⟩ := h
    rfl
  · obtain ⟨d, L, ls, l, rfl, D, hw, hl, k⟩ := h
    obtain ⟨dx, la, xs, h1, h2, h3⟩ := D.ex
    refine ⟨_, (pss_cons (ps_expr (pe_meth (pv 0) T.cl T.m_Darkcheck_word (ok_Darkcheck_word T) (hr.mono (by decide)) T.bb_Darkcheck_word .nil pass0 (pa_cons (pv 1) pa_nil)))
      (pss_cons (ps_set (i := 4) scDarkhome.nd rfl (Or.inl rfl) (pe_op op_fdivW (pv 2) (fldK (K := K) (pv 0) rfl)))
      (pss_one (ps_ret (pe_tup (pa_cons (pv 1) (pa_cons (pe_op op_sub (pv 2) (pe_op op_mulW (pv 4) (fldK (K := K) (pv 0) rfl))) (pa_cons (pe_op op_sub (pv 3) (pe_op op_mulW (pv 4) (fldK (K := K) (pv 0) rfl))) pa_nil)))))))), ?_⟩
    refine ⟨_, rfl, d, dx, _, rfl, h1, df_no _ _ (by decide +kernel) (by decide +kernel), _, rfl, _, _, rfl, hw, ?_⟩
    refine ⟨_, rfl, _, rfl, d, Z.C, dx, _, _, rfl, h1, T.cl, T.n_length, df_length _ _, _, _, rfl, rfl, wide_div D.pos D.big (by decide) (by decide), ?_⟩
    have b1 : (l.2.1 / L).natAbs < 2 ^ 301 := div_lt D.pos hl.1
    refine ⟨_, rfl, _, rfl, _, rfl, _, rfl, d, Z.C, dx, _, _, rfl, h1, T.cl, T.n_length, df_length _ _, _, _, rfl, rfl, wide_mul b1 D.big (by decide) (by decide) (by decide), _, _, rfl, rfl, ?_⟩
    refine ⟨_, rfl, _, rfl, _, rfl, d, Z.C, dx, _, _, rfl, h1, T.cl, T.n_length, df_length _ _, _, _, rfl, rfl, wide_mul b1 D.big (by decide) (by decide) (by decide), _, _, rfl, rfl, (by show 3 ≤ sizeLine; decide), fun p hp => ?_⟩
    exact k _ _ (same_upd hp) (.tup (SqT.of upd_same) (.cons (.str _) (.cons (.int _) (.cons (.int _) .nil))))
theorem ok_Darkclashing (T : Tx K w mg Z) : FnOk P w K mg base CX0 4 Z.a_Darkclashing Z.d_Darkclashing P_Darkclashing (spClashing Z K) := by
  refine T.F_Darkclashing.ok scDarkclashing (fun vs H Q E h => ?_) (fun cdv A outer s H vs Q E hr h => ?_)
  · obtain ⟨d, v, L, ls, l, rfl, _⟩ := h
    rfl
  · obtain ⟨d, v, L, ls, l, rfl, D, hv, hw, hl, k0, k⟩ := h
    obtain ⟨dx, la, xs, h1, h2, h3⟩ := D.ex
    have hxl : xs.length = ls.length := by rw [dpAll_len h3, List.length_map]
    refine ⟨_, (pss_cons (ps_for PassesOwn.never rfl (pi_list (fldK (K := K) (pv 0) rfl)) (pg_name (i := 2) scDarkclashing.nd rfl (Or.inl rfl)) (pss_one (ps_if (pt_val (pe_call (ok_clash T) (hr.mono (by decide)) (by rfl) T.g_clash T.F_clash.kp T.bb_clash .nil pass0 (pa_cons (pv 1) (pa_cons (pv 2) (pa_cons (fldK (K := K) (pv 0) rfl) pa_nil))))) (pss_one (ps_ret (pv 2))) pss_nil)))
      (pss_one (ps_ret pe_non))), ?_⟩
    refine ⟨_, rfl, d, Z.C, dx, _, _, rfl, h1, T.cl, T.n_looks, df_looks _ _, la, rfl, ⟨_, SqL.of h2⟩, ?_⟩
    refine for_list (K := K) (a := la) (xs := xs) (fun i σ' H' => ∃ u, σ' = [some (.ref d), some v, u] ∧ H' = H ∧ (ls.take i).find? (fun o => clashB l o L) = none) ⟨none, rfl, rfl, rfl⟩ (fun i σ' H' _ ⟨_, _, e, _⟩ => by rw [e]; exact SqL.of h2) ?_ ?_
    · rintro i y σ' H' hi ⟨u, rfl, rfl, hno⟩
      obtain ⟨e, hdi, hdy⟩ := dpAll_get h3 hi
      obtain ⟨o, ho, rfl⟩ := map_at hdi
      have hok := D.ok o (List.mem_of_getElem? ho)
      refine ⟨_, rfl, _, rfl, _, rfl, d, Z.C, dx, _, _, rfl, h1, T.cl, T.n_length, df_length _ _, v, y, l, o, L, rfl, hv, hdy, hw, hok.1, D.pos, D.big, hl.up (by decide), hok.2.up (by decide), _, rfl, ?_⟩
      have hsp : ls = ls.take i ++ o :: ls.drop (i + 1) := by
        have h4 := List.getElem?_eq_some_iff.mp ho
        obtain ⟨h5, h6⟩ := h4
        rw [← h6, List.getElem_cons_drop, List.take_append_drop]
      cases c : clashB l o L with
      | true =>
        refine iteT ⟨_, rfl, k o y ?_ hdy⟩
        rw [hsp, List.find?_append, hno, List.find?_cons, c]
        rfl
      | false =>
        refine iteF ⟨_, rfl, rfl, ?_⟩
        rw [take_snoc ho, List.find?_append, hno, List.find?_cons, c]
        rfl
    · rintro σ' H' ⟨u, rfl, rfl, hno⟩
      rw [List.take_of_length_le (by rw [hxl]; exact Nat.le_refl _)] at hno
      exact k0 hno
theorem alike_looks (ls : List Lk) : PySem.W.AllAlike (ls.map encL) := PySem.W.AllAlike.of fun _ _ => by simp [encL, PySem.W.alike, PySem.W.alikeAll]
theorem depth_look (l : Lk) : (encL l).depth = 1 := by simp [encL, PyData.depth, PyData.depthAll]
theorem shaped_look {l : Lk} (h : WordOk l.1) : SeqAt.shaped (encL l) = true := by
  unfold SeqAt.shaped
  rw [lay_look h, depth_look]; rfl
theorem lay_looks : ∀ ls : List Lk, (∀ l ∈ ls, WordOk l.1) → PyData.canLayAll0 (ls.map encL) = true
  | [], _ => rfl
  | l :: ls, h => by
    show PyData.canLayAll0 (encL l :: ls.map encL) = true
    rw [PyData.canLayAll0, lay_look (h l List.mem_cons_self), lay_looks ls fun q hq => h q (List.mem_cons_of_mem _ hq)]; rfl
theorem depth_looks : ∀ ls : List Lk, PyData.depthAll (ls.map encL) ≤ 1
  | [] => by simp [PyData.depthAll]
  | l :: ls => by
    show PyData.depthAll (encL l :: ls.map encL) ≤ 1
    rw [PyData.depthAll, depth_look]
    have := depth_looks ls
    omega
theorem shaped_looks {ls : List Lk} (h : ∀ l ∈ ls, WordOk l.1) : SeqAt.shaped (.list (ls.map encL)) = true := by
  unfold SeqAt.shaped
  rw [PyData.canLay0, lay_looks ls h, PyData.depth]
  have := depth_looks ls
  simp; omega
theorem eqv_look (a b : Lk) : PyData.eqv (encL a) (encL b) = decide (a = b) := by
  obtain ⟨a1, a2, a3⟩ := a
  obtain ⟨b1, b2, b3⟩ := b
  simp [encL, PyData.eqv, PyData.eqvAll]
  by_cases h1 : a1 = b1 <;> by_cases h2 : a2 = b2 <;> by_cases h3 : a3 = b3 <;> simp [h1, h2, h3]
theorem any_look (ls : List Lk) (l : Lk) : ((ls.map encL).any fun z => PyData.eqv z (encL l)) = decide (l ∈ ls) := by
  rw [List.any_map]
  rw [Bool.eq_iff_iff, List.any_eq_true, decide_eq_true_eq]
  constructor
  · rintro ⟨o, ho, e⟩
    have e' : decide (o = l) = true := by rw [← eqv_look]; exact e
    rw [← of_decide_eq_true e']; exact ho
  · intro h
    exact ⟨l, h, by show PyData.eqv (encL l) (encL l) = true; rw [eqv_look]; simp⟩
theorem heard_mem {L : Int} {ls : List Lk} {l o : Lk} : o ∈ heard L ls l ↔ o ∈ ls ∨ o = home L l := by
  unfold heard
  by_cases c : home L l ∈ ls
  · rw [if_pos c]
    exact ⟨.inl, fun h => h.elim id fun e => e ▸ c⟩
  · rw [if_neg c, (List.mergeSort_perm _ _).mem_iff, List.mem_append, List.mem_singleton]
theorem heard_len (L : Int) (ls : List Lk) (l : Lk) : (heard L ls l).length ≤ ls.length + 1 := by
  unfold heard
  split
  · omega
  · rw [(List.mergeSort_perm _ _).length_eq, List.length_append]; simp
theorem ok_Dark_hear (T : Tx K w mg Z) : FnOk P w K mg base CX0 5 Z.a_Dark_hear Z.d_Dark_hear P_Dark_hear (spHear Z K) := by
  refine T.F_Dark_hear.ok scDark_hear (fun vs H Q E h => ?_) (fun cdv A outer s H vs Q E hr h => ?_)
  · obtain ⟨d, L, ls, l, rfl, _⟩ := h
    rfl
  · obtain ⟨d, L, ls, l, rfl, D, hw, hl, hlen, hno, k⟩ := h
    obtain ⟨dx, la, xs, h1, h2, h3⟩ := D.ex
    have hfind : ls.find? (fun o => clashB (home L l) o L) = none := List.find?_eq_none.mpr fun o ho => by rw [hno o ho]; exact Bool.false_ne_true
    have hsz := home_sized D.pos D.big hl
    refine ⟨_, (pss_cons (ps_set (i := 4) scDark_hear.nd rfl (Or.inl rfl) (pe_meth (pv 0) T.cl T.m_Darkhome (ok_Darkhome T) (hr.mono (by decide)) T.bb_Darkhome .nil pass0 (pa_cons (pv 1) (pa_cons (pv 2) (pa_cons (pv 3) pa_nil)))))
      (pss_cons (ps_set (i := 5) scDark_hear.nd rfl (Or.inl rfl) (pe_meth (pv 0) T.cl T.m_Darkclashing (ok_Darkclashing T) (hr.mono (by decide)) T.bb_Darkclashing .nil pass0 (pa_cons (pv 4) pa_nil)))
      (C8.pss_cut (ps_if (pt_cmpR op_notN (pv 5) pe_non (nomark _)) (pss_one ps_never) pss_nil)
      (pss_one (ps_if (pt_cmpR (notInDK (K := K) (rooms hr)) (pv 4) (fldK (K := K) (pv 0) rfl) (by rfl)) (pss_one (ps_fld (pv 0) (pe_callB (sortDK (K := K) encL (rooms hr)) (by rfl) T.b_sorted (by decide +kernel) (pa_cons (pe_op op_cat (fldK (K := K) (pv 0) rfl) (pe_lst (pa_cons (pv 4) pa_nil))) pa_nil)) rfl)) pss_nil))))), ?_⟩
    refine ⟨_, rfl, d, dx, _, rfl, h1, df_no _ _ (by decide +kernel) (by decide +kernel), _, rfl, _, rfl, _, rfl, d, L, ls, l, rfl, D, hw, hl, fun H1 r S hr => ?_⟩
    have D1 := D.same S
    refine ⟨_, rfl, d, dx, _, rfl, S _ _ h1, df_no _ _ (by decide +kernel) (by decide +kernel), _, rfl, d, r, L, ls, home L l, rfl, D1, hr, hw, hsz, fun _ => ?_, fun o r ho => ?_⟩
    · refine ⟨fun σ' H' => σ' = [some (.ref d), some (.str l.1), some (.int l.2.1), some (.int l.2.2), some r, some .non] ∧ H' = H1, ?_, ?_⟩
      · exact ⟨_, rfl, rfl, _, rfl, iteF ⟨rfl, rfl⟩⟩
      · rintro σ2 H2 ⟨rfl, rfl⟩
        have hwords : ∀ o ∈ ls, WordOk o.1 := fun o ho => (D.ok o ho).1
        have hds := dpAll_mono S _ _ h3
        refine ⟨_, rfl, _, rfl, d, Z.C, dx, _, _, rfl, S _ _ h1, T.cl, T.n_looks, df_looks _ _, encL (home L l), ls.map encL, hr, .lst (SqL.of (S _ _ h2)) hds, shaped_look hw, shaped_looks hwords, _, rfl, ?_⟩
        rw [any_look]
        have fin : ∀ H', DarkAt Z K H' d L (heard L ls l) → (∀ la dx, H' d = some (.ins Z.C dx (df L la)) → (∃ dx', H d = some (.ins Z.C dx' (df L la))) ∨ H la = none) → (∀ b o, H2 b = some o → b ≠ d → H' b = some o) → Q .non H' := fun H' DD ff kk => k H' DD ff fun b o e hb => kk b o (S b o e) hb
        have okH : ∀ o ∈ heard L ls l, WordOk o.1 ∧ Sized 302 o := fun o ho => by
          rcases heard_mem.mp ho with h | h
          · exact D.ok o h
          · subst h; exact ⟨hw, hsz⟩
        have lenH : (heard L ls l).length ≤ 60 := Nat.le_trans (heard_len L ls l) hlen
        by_cases c : home L l ∈ ls
        · have e : (!decide (home L l ∈ ls)) = false := by simp [c]
          rw [e]
          refine iteF (fin H2 ?_ (fun la' dx' e => ?_) fun _ _ e _ => e)
          · have eh : heard L ls l = ls := if_pos c
            rw [eh]; exact D1
          · have e2 := e.symm.trans (S _ _ h1)
            rw [df_inj e2]
            exact .inl ⟨dx, h1⟩
        · have e : (!decide (home L l ∈ ls)) = true := by simp [c]
          rw [e]
          refine iteT ⟨_, rfl, d, Z.C, dx, _, _, rfl, S _ _ h1, T.cl, T.n_looks, df_looks _ _, _, rfl, (by show 1 ≤ sizeLine; decide), fun p hp => ?_⟩
          have S2 := same_upd (o := HO.lst [r]) hp
          have h2' := S2 _ _ (S _ _ h2)
          refine ⟨la, p, xs, [r], rfl, rfl, h2', upd_same, ?_, fun p2 hp2 => ?_⟩
          · have : xs.length = ls.length := by rw [dpAll_len h3, List.length_map]
            exact Nat.le_of_lt (small1000 (by simp; omega))
          have S3 := S2.trans (same_upd (o := HO.lst (xs ++ [r])) hp2)
          have hall : DpAll K (upd (upd H2 p (.lst [r])) p2 (.lst (xs ++ [r]))) (xs ++ [r]) ((ls ++ [home L l]).map encL) := by
            rw [List.map_append]
            exact dpAll_snoc (dpAll_mono S3 _ _ hds) (dp_mono S3 _ _ hr)
          refine ⟨p2, xs ++ [r], ls ++ [home L l], rfl, SqL.of upd_same, hall, alike_looks _, PySem.W.Sortable.tuples fun _ => ⟨_, _, rfl⟩, fun b _ => by rw [depth_look]; decide, fun p3 ys H3 hp3 S4 hy hys => ?_⟩
          have S5 := S3.trans S4
          have h1' := S5 _ _ (S _ _ h1)
          have hd3 : d ≠ p3 := fun e => by
            subst e
            rw [(S3 _ _ (S _ _ h1))] at hp3
            cases hp3
          refine ⟨_, rfl, d, Z.C, dx, df L la, rfl, h1', T.cl, T.n_looks, (by show 2 < 1000; decide), ?_⟩
          refine fin _ ⟨⟨dx, p3, ys, Eq.trans upd_same (congrArg (fun q => some (HO.ins Z.C dx q)) (df_put3 L la p3)), (upd_ne (Ne.symm hd3)).trans hy, ?_⟩, D.pos, D.big, okH, lenH⟩ (fun la' dx' e => ?_) fun b o e hb => (upd_ne hb).trans (S5 _ _ e)
          rotate_left
          · rw [upd_same, df_put3] at e
            rw [← df_inj e]
            exact .inr (S.free (S3.free hp3))
          have eh : heard L ls l = (ls ++ [home L l]).mergeSort (PySem.W.dataLe false encL) := if_neg c
          rw [eh]
          exact dpAll_tups (Tups.upd_ins h1') _ _ (noLs_map noL_encL _) hys
    · rw [hfind] at ho; cases ho
end
end KA
namespace KA
open PySem PySem.Spec PyProof.Rows L2 DP
def spTray (K : PySem.W.Frag) : Sp := fun vs H Q _ => ∃ (a : Addr) (ns : List Int), vs = [.ref a] ∧ SqL K H a (ns.map V.int) ∧ ns.length ≤ 63 ∧ ∀ (H' : Hp) (t g : Addr), Tray H' t g 0 → Same H H' → H t = none → H g = none → Q (.ref t) H'
def spGreat : Sp := fun vs H Q _ => ∃ (t g : Addr) (n : Nat), vs = [.ref t] ∧ Tray H t g n ∧ n < 2 ^ 50 ∧ ∀ (H' : Hp) (r : Int), 0 ≤ r → r < 10 ^ 59 → Tray H' t g (n + 4) → Keep t g H H' → Q (.int r) H'
def spLength : Sp := fun vs H Q _ => ∃ (t g : Addr) (n : Nat), vs = [.ref t] ∧ Tray H t g n ∧ n < 2 ^ 49 ∧ ∀ (H' : Hp) (r : Int), 0 < r → r ≤ 10 ^ 30 → Tray H' t g (n + 10) → Keep t g H H' → Q (.int r) H'
theorem Tray.up {H : Hp} {t g : Addr} {m n : Nat} (T : Tray H t g m) (h : m ≤ n) : Tray H t g n := by
  obtain ⟨⟨gs, l, f, c, h1, h2, hl, hge, hl0, hf0, hf1, hc0, hc1⟩, hne⟩ := T
  exact ⟨⟨gs, l, f, c, h1, h2, hl, hge, hl0, hf0, hf1, hc0, by omega⟩, hne⟩
theorem pow_ten : (10 : Int) ^ (14 : Int).toNat = 10 ^ 14 ∧ (10 : Int) ^ (15 : Int).toNat = 10 ^ 15 ∧ (10 : Int) ^ (29 : Int).toNat = 10 ^ 29 ∧ (10 : Int) ^ (31 : Int).toNat = 10 ^ 31 ∧ (10 : Int) ^ (57 : Int).toNat = 10 ^ 57 := ⟨rfl, rfl, rfl, rfl, rfl⟩
section
variable {P : Program} {w : World} {K : PySem.W.Frag} {mg : Str → Option Value} {base : Heap} {Z : Ad}
theorem ok_law_tray (T : Tx K w mg Z) : FnOk P w K mg base CX0 1 Z.a_law_tray Z.d_law_tray P_law_tray (spTray K) := by
  refine T.F_law_tray.ok sclaw_tray (fun vs H Q E h => ?_) (fun cdv A outer s H vs Q E hr h => ?_)
  · obtain ⟨a, ns, rfl, _⟩ := h
    rfl
  · obtain ⟨a, ns, rfl, hS, hlen, k⟩ := h
    refine ⟨_, (pss_cons (ps_set (i := 1) sclaw_tray.nd rfl (Or.inl rfl) pe_int)
      (pss_cons (ps_set (i := 2) sclaw_tray.nd rfl (Or.inl rfl) (pe_lst pa_nil))
      (pss_cons (ps_for PassesOwn.never rfl (pi_list (pv 0)) (pg_name (i := 3) sclaw_tray.nd rfl (Or.inl rfl)) (pss_cons (ps_set (i := 1) sclaw_tray.nd rfl (Or.inl rfl) (pe_op op_mod (pe_op op_add (pe_op op_mulW (pv 1) pe_int) (pv 3)) (pe_op op_sub (pe_op op_pow pe_int pe_int) pe_int)))
      (pss_cons (ps_set (i := 4) sclaw_tray.nd rfl (Or.inl rfl) (pe_callB (call_max2 rfl) (by rfl) T.b_max (by decide +kernel) (pa_cons (pv 3) (pa_cons (pe_op op_sub pe_int (pv 3)) pa_nil))))
      (pss_one (ps_if (pt_cmpR op_ge (pv 4) (pe_op op_pow pe_int pe_int) (nomark _)) (pss_one (ps_expr (pe_bm PySem.F.plainAttrs_list PySem.F.slot_list_append PySem.F.type_list_append mt_append (pv 2) (pa_cons (pe_op op_sub (pv 4) (pe_op op_pow pe_int pe_int)) pa_nil)))) pss_nil)))))
      (pss_one (ps_ret (pe_lst (pa_cons (pv 2) (pa_cons pe_int (pa_cons (pv 1) (pa_cons pe_int pa_nil)))))))))), ?_⟩
    refine ⟨(by show 0 ≤ sizeLine; decide), fun G hG => ?_⟩
    refine ⟨_, rfl, a, rfl, ⟨_, Same.sqL (same_upd hG) hS⟩, ?_⟩
    refine for_list (K := K) (a := a) (xs := ns.map V.int) (fun i σ' H' => ∃ (gs : List Int) (f : Int) (u v : Option V), σ' = [some (.ref a), some (.int f), some (.ref G), u, v] ∧ Same H H' ∧ H' G = some (.lst (gs.map V.int)) ∧ gs.length ≤ i ∧ (∀ x ∈ gs, 0 ≤ x) ∧ 0 ≤ f ∧ f < 2 ^ 61)
      ⟨[], 314159265358979, none, none, rfl, same_upd hG, upd_same, Nat.le_refl _, (fun _ z => absurd z (by simp)), by decide, by decide⟩ (fun i σ' H' _ ⟨_, _, _, _, _, S, _⟩ => Same.sqL S hS) ?_ ?_
    · rintro i y σ' H' hi ⟨gs, f, u, v, rfl, S, hg, hgl, hge, hf0, hf1⟩
      obtain ⟨z, hz, rfl⟩ := map_at hi
      have hi63 : i < 63 := by
        have := (List.getElem?_eq_some_iff.mp hz).1
        omega
      have bf : f.natAbs < 2 ^ 61 := by omega
      refine ⟨_, rfl, _, _, rfl, rfl, wide_mul (b := 30) bf (by decide) (by decide) (by decide) (by decide), _, rfl, _, _, rfl, rfl, ?_⟩
      refine ⟨_, _, rfl, rfl, ⟨by decide, by decide, by decide⟩, _, _, rfl, rfl, _, _, rfl, rfl, (by show (0 : Int) < _; decide), ?_⟩
      have hx0 := Int.emod_nonneg (f * 1000003 + z) (show (2 : Int) ^ (61 : Int).toNat - 1 ≠ 0 by decide)
      have hx1 := Int.emod_lt_of_pos (f * 1000003 + z) (show (0 : Int) < (2 : Int) ^ (61 : Int).toNat - 1 by decide)
      have e61 : (2 : Int) ^ (61 : Int).toNat - 1 = 2305843009213693951 := by decide
      refine ⟨_, rfl, _, rfl, _, _, rfl, rfl, _, _, rfl, _, rfl, _, _, rfl, rfl, ⟨by decide, by decide, by decide⟩, _, _, rfl, rfl, _, rfl, ?_⟩
      refine ite2 (fun c => ?_) (fun _ => ?_)
      · refine ⟨_, rfl, .inl ⟨rfl, _, SqL.of hg⟩, _, rfl, _, _, rfl, rfl, ⟨by decide, by decide, by decide⟩, _, _, rfl, rfl, G, _, _, rfl, rfl, hg, ?_, ?_⟩
        · exact small1000 (by simp; omega)
        · have c' := of_decide_eq_true c
          refine ⟨gs ++ [(if 0 - z > z then 0 - z else z) - 10 ^ (18 : Int).toNat], _, _, _, rfl, same_set S hG, ?_, ?_, ?_, hx0, by rw [e61] at hx1; rw [e61]; omega⟩
          · rw [List.map_append]; exact upd_same
          · simp; omega
          · intro x hx
            rcases List.mem_append.mp hx with h | h
            · exact hge x h
            · rw [List.mem_singleton] at h
              subst h
              omega
      · exact ⟨gs, _, _, _, rfl, S, hg, by omega, hge, hx0, by rw [e61] at hx1; rw [e61]; omega⟩
    · rintro σ' H' ⟨gs, f, u, v, rfl, S, hg, hgl, hge, hf0, hf1⟩
      refine ⟨_, rfl, _, rfl, (by show 4 ≤ sizeLine; decide), fun t ht => ?_⟩
      have hgt : G ≠ t := ne_of_none hg ht
      refine k _ t G ⟨⟨gs, 0, f, 0, upd_same, (upd_ne hgt).trans hg, ?_, hge, Int.le_refl _, hf0, hf1, Int.le_refl _, Int.le_refl _⟩, Ne.symm hgt⟩ (same_set S (S.free ht)) (S.free ht) hG
      rw [List.length_map] at hgl
      omega
theorem ok_law_great (T : Tx K w mg Z) : FnOk P w K mg base CX0 2 Z.a_law_great Z.d_law_great P_law_great (spGreat) := by
  refine T.F_law_great.ok sclaw_great (fun vs H Q E h => ?_) (fun cdv A outer s H vs Q E hr h => ?_)
  · obtain ⟨t, g, n, rfl, _⟩ := h
    rfl
  · obtain ⟨t, g, n, rfl, hT, hn, k⟩ := h
    refine ⟨_, (pss_cons (ps_set (i := 1) sclaw_great.nd rfl (Or.inl rfl) (pe_call (ok_law_draw T) (hr.mono (by decide)) (by rfl) T.g_law_draw T.F_law_draw.kp T.bb_law_draw .nil pass0 (pa_cons (pv 0) (pa_cons (pe_op op_pow pe_int pe_int) pa_nil))))
      (pss_cons (ps_for PassesOwn.never rfl (pi_range1 (by rfl) T.b_range (pa_cons pe_int pa_nil)) (pg_name (i := 2) sclaw_great.nd rfl (Or.inl rfl)) (pss_one (ps_set (i := 1) sclaw_great.nd rfl (Or.inl rfl) (pe_op op_add (pe_op op_mulW (pv 1) (pe_op op_pow pe_int pe_int)) (pe_call (ok_law_draw T) (hr.mono (by decide)) (by rfl) T.g_law_draw T.F_law_draw.kp T.bb_law_draw .nil pass0 (pa_cons (pv 0) (pa_cons (pe_op op_pow pe_int pe_int) pa_nil)))))))
      (pss_one (ps_ret (pv 1))))), ?_⟩
    refine ⟨_, rfl, _, _, rfl, rfl, ⟨by decide, by decide, by decide⟩, t, g, n, _, rfl, hT, by decide, by decide, Nat.lt_trans hn (by decide), fun H1 r h0 h1 T1 k1 => ?_⟩
    refine ⟨3, rfl, by decide, by decide, ?_⟩
    refine for_range (n := 3) (fun i σ' H' => ∃ (r : Int) (u : Option V), σ' = [some (.ref t), some (.int r), u] ∧ 0 ≤ r ∧ r < 10 ^ 14 * (10 ^ 15) ^ i ∧ Tray H' t g (n + 1 + i) ∧ Keep t g H H') ⟨r, none, rfl, h0, by simpa using h1, T1, k1⟩ ?_ ?_
    · rintro i σ' H' hi ⟨r, u, rfl, r0, r1, T2, k2⟩
      have hb : (10 : Int) ^ 14 * (10 ^ 15) ^ i ≤ 10 ^ 14 * (10 ^ 15) ^ 2 := by
        have : i = 0 ∨ i = 1 ∨ i = 2 := by omega
        rcases this with e | e | e <;> subst e <;> decide
      have rb : r.natAbs < 2 ^ 200 := by
        have : r < 10 ^ 14 * (10 ^ 15) ^ 2 := Int.lt_of_lt_of_le r1 hb
        have e : (10 : Int) ^ 14 * (10 ^ 15) ^ 2 = 100000000000000000000000000000000000000000000 := by decide
        rw [e] at this
        have e2 : (2 : Nat) ^ 200 = 1606938044258990275541962092341162602522202993782792835301376 := by decide
        rw [e2]; omega
      refine ⟨_, rfl, _, _, rfl, rfl, ⟨by decide, by decide, by decide⟩, _, _, rfl, rfl, wide_mul (b := 60) rb (by decide) (by decide) (by decide) (by decide), ?_⟩
      refine ⟨_, rfl, _, _, rfl, rfl, ⟨by decide, by decide, by decide⟩, t, g, n + 1 + i, _, rfl, T2, by decide, by decide, (by omega), fun H3 q q0 q1 T3 k3 => ?_⟩
      refine ⟨_, _, rfl, rfl, ?_⟩
      have e15 : (10 : Int) ^ (15 : Int).toNat = 1000000000000000 := by decide
      rw [e15] at q1
      refine ⟨_, _, rfl, ?_, ?_, T3, k2.trans k3⟩
      · rw [e15]; omega
      · rw [e15, Int.pow_succ (10 ^ 15) i, ← Int.mul_assoc]
        generalize (10 : Int) ^ 14 * (10 ^ 15) ^ i = B at r1 ⊢
        have e : (10 : Int) ^ 15 = 1000000000000000 := by decide
        rw [e]; omega
    · rintro σ' H' ⟨r, u, rfl, r0, r1, T2, k2⟩
      refine ⟨_, rfl, k _ _ r0 ?_ (T2.up (by omega)) k2⟩
      exact Int.lt_of_lt_of_le r1 (by decide)
theorem ok_law_length (T : Tx K w mg Z) : FnOk P w K mg base CX0 3 Z.a_law_length Z.d_law_length P_law_length (spLength) := by
  refine T.F_law_length.ok sclaw_length (fun vs H Q E h => ?_) (fun cdv A outer s H vs Q E hr h => ?_)
  · obtain ⟨t, g, n, rfl, _⟩ := h
    rfl
  · obtain ⟨t, g, n, rfl, hT, hn, k⟩ := h
    refine ⟨_, (pss_cons (ps_set (i := 1) sclaw_length.nd rfl (Or.inl rfl) (pe_call (ok_law_draw T) (hr.mono (by decide)) (by rfl) T.g_law_draw T.F_law_draw.kp T.bb_law_draw .nil pass0 (pa_cons (pv 0) (pa_cons pe_int pa_nil))))
      (C8.pss_cut (ps_if (pt_cmpR op_eq (pv 1) pe_int (nomark _)) (pss_one (ps_ret (pe_callB (call_max2 rfl) (by rfl) T.b_max (by decide +kernel) (pa_cons pe_int (pa_cons (pe_op op_fdivW (pe_call (ok_law_great T) (hr.mono (by decide)) (by rfl) T.g_law_great T.F_law_great.kp T.bb_law_great .nil pass0 (pa_cons (pv 0) pa_nil)) (pe_op op_pow pe_int pe_int)) pa_nil))))) pss_nil)
      (pss_one (ps_ret (pe_op op_add pe_int (pe_call (ok_law_draw T) (hr.mono (by decide)) (by rfl) T.g_law_draw T.F_law_draw.kp T.bb_law_draw .nil pass0 (pa_cons (pv 0) (pa_cons (pe_ix (ixL (K := K)) (pe_lst (pa_cons pe_int (pa_cons pe_int (pa_cons pe_int (pa_cons pe_int (pa_cons pe_int pa_nil)))))) (pv 1) (fun _ _ => rfl)) pa_nil)))))))), ?_⟩
    have hn2 : n < 2 ^ 60 := Nat.lt_trans hn (by decide)
    have hn3 : n + 1 < 2 ^ 50 := Nat.lt_of_lt_of_le (Nat.add_lt_add_right hn 1) (by decide)
    refine ⟨_, rfl, t, g, n, _, rfl, hT, by decide, by decide, hn2, fun H1 lot l0 l1 T1 k1 => ?_⟩
    refine ⟨fun σ' H' => σ' = [some (.ref t), some (.int lot)] ∧ H' = H1 ∧ lot ≠ 5, ?_, ?_⟩
    · refine ⟨_, rfl, rfl, _, rfl, ?_⟩
      refine ite2 (fun c => ?_) (fun c => ⟨rfl, rfl, fun e => c (by rw [e]; decide)⟩)
      refine ⟨_, rfl, t, g, n + 1, rfl, T1, hn3, fun H2 r r0 r1 T2 k2 => ?_⟩
      refine ⟨_, _, rfl, rfl, ⟨by decide, by decide, by decide⟩, _, _, rfl, rfl, wide_div (b := 100) (by decide) (by decide) (by decide) (by decide), _, _, rfl, ?_⟩
      have e29 : (10 : Int) ^ (29 : Int).toNat = 100000000000000000000000000000 := by decide
      have e59 : (10 : Int) ^ 59 = 100000000000000000000000000000000000000000000000000000000000 := by decide
      have e30 : (10 : Int) ^ 30 = 1000000000000000000000000000000 := by decide
      rw [e59] at r1
      refine k _ _ ?_ ?_ (T2.up (by omega)) (k1.trans k2)
      · split <;> omega
      · rw [e29, e30]; split <;> omega
    · rintro σ' H' ⟨rfl, rfl, h5⟩
      have hc : ∃ m : Int, atI [V.int 3, .int 5, .int 12, .int 12, .int 400] lot = some (.int m) ∧ 0 < m ∧ m ≤ 400 := by
        have : lot = 0 ∨ lot = 1 ∨ lot = 2 ∨ lot = 3 ∨ lot = 4 := by omega
        rcases this with e | e | e | e | e <;> subst e
        · exact ⟨3, rfl, by decide, by decide⟩
        · exact ⟨5, rfl, by decide, by decide⟩
        · exact ⟨12, rfl, by decide, by decide⟩
        · exact ⟨12, rfl, by decide, by decide⟩
        · exact ⟨400, rfl, by decide, by decide⟩
      obtain ⟨m, hm, m0, m1⟩ := hc
      have hmb : m.natAbs < 2 ^ 1000 := Nat.lt_of_le_of_lt (by omega : m.natAbs ≤ 400) (by decide)
      refine ⟨_, rfl, (by show 5 ≤ sizeLine; decide), fun p hp => ?_⟩
      refine ⟨_, rfl, p, _, _, _, rfl, rfl, SqL.of upd_same, hm, ?_⟩
      have T2 : Tray (upd H' p (.lst [V.int 3, .int 5, .int 12, .int 12, .int 400])) t g (n + 1) := T1.same (same_upd hp)
      refine ⟨t, g, n + 1, m, rfl, T2, m0, hmb, Nat.lt_trans hn3 (by decide), fun H3 r r0 r1 T3 k3 => ?_⟩
      refine ⟨_, _, rfl, rfl, k _ _ (by omega) ?_ (T3.up (by omega)) (k1.trans ((Keep.of_same (same_upd hp)).trans k3))⟩
      have e30 : (10 : Int) ^ 30 = 1000000000000000000000000000000 := by decide
      rw [e30]; omega
end
end KA
namespace KA
open PySem PySem.Spec PyProof.Rows L2 DP
abbrev Pr := Int × Int
def encP (p : Pr) : PyData := .tuple [.int p.1, .int p.2]
theorem noL_encP (p : Pr) : noL (encP p) = true := rfl
/-- where each step leads x -/
def leads (L : Int) (steps : List Pr) (x : Int) : List Int := steps.map fun s => s.2 + (x - s.1) / L * L
def IsMaxL (l : List Int) (m : Int) : Prop := m ∈ l ∧ ∀ y ∈ l, y ≤ m
def StepsOk (L : Int) (steps : List Pr) : Prop := steps ≠ [] ∧ steps.length ≤ 20 ∧ ∀ s ∈ steps, 0 ≤ s.1 ∧ s.1 < L ∧ s.2.natAbs < 2 ^ 196
/-- a list of data at p, tracked -/
def LAt (K : PySem.W.Frag) (H : Hp) (p : Addr) (ds : List PyData) : Prop := ∃ vs, H p = some (.lst vs) ∧ DpAll K H vs ds
theorem LAt.dp {K : PySem.W.Frag} {H : Hp} {p : Addr} {ds : List PyData} (h : LAt K H p ds) : Dp K H (.ref p) (.list ds) := by
  obtain ⟨vs, h1, h2⟩ := h
  exact .lst (SqL.of h1) h2
theorem LAt.same {K : PySem.W.Frag} {H H' : Hp} {p : Addr} {ds : List PyData} (h : LAt K H p ds) (S : Same H H') : LAt K H' p ds := by
  obtain ⟨vs, h1, h2⟩ := h
  exact ⟨vs, S _ _ h1, dpAll_mono S _ _ h2⟩
theorem Keep.tups {H H' : Hp} {t g : Addr} {n : Nat} (T : Tray H t g n) (k : Keep t g H H') : Tups H H' := fun b xs hb => by
  obtain ⟨⟨gs, l, f, c, h1, h2, r⟩, hne⟩ := T
  rcases hb with e | ⟨q, e⟩
  · refine .inl (k b _ e ?_ ?_) <;> rintro rfl
    · rw [h1] at e; cases e
    · rw [h2] at e; cases e
  · refine .inr ⟨q, k b _ e ?_ ?_⟩ <;> rintro rfl
    · rw [h1] at e; cases e
    · rw [h2] at e; cases e
theorem LAt.keep {K : PySem.W.Frag} {H H' : Hp} {t g p : Addr} {n : Nat} {ds : List PyData} (h : LAt K H p ds) (T : Tray H t g n) (k : Keep t g H H') (h1 : p ≠ t) (h2 : p ≠ g) (hn : noL.noLs ds = true) : LAt K H' p ds := by
  obtain ⟨vs, a, b⟩ := h
  exact ⟨vs, k _ _ a h1 h2, dpAll_tups (Keep.tups T k) _ _ hn b⟩
theorem Tray.at_ne {H : Hp} {t g p : Addr} {n : Nat} (T : Tray H t g n) (hp : H p = none) : p ≠ t ∧ p ≠ g := by
  obtain ⟨⟨gs, l, f, c, h1, h2, r⟩, hne⟩ := T
  exact ⟨Ne.symm (ne_of_none h1 hp), Ne.symm (ne_of_none h2 hp)⟩
theorem Keep.free {H H' : Hp} {t g p : Addr} {n : Nat} (T : Tray H t g n) (k : Keep t g H H') (hp : H' p = none) (T' : ∃ m, Tray H' t g m) : H p = none := by
  obtain ⟨m, T'⟩ := T'
  obtain ⟨h1, h2⟩ := T'.at_ne hp
  cases e : H p with
  | none => rfl
  | some o =>
    rw [k p o e h1 h2] at hp
    cases hp
def spLead (K : PySem.W.Frag) : Sp := fun vs H Q _ => ∃ (v : V) (L x : Int) (steps : List Pr), vs = [.int L, v, .int x] ∧ Dp K H v (.list (steps.map encP)) ∧ 0 < L ∧ L.natAbs < 2 ^ 200 ∧ x.natAbs < 2 ^ 300 ∧ StepsOk L steps ∧ ∀ m H', Same H H' → IsMaxL (leads L steps x) m → Q (.int m) H'
def spSecret (K : PySem.W.Frag) : Sp := fun vs H Q _ => ∃ (t g : Addr) (n : Nat) (L : Int), vs = [.ref t, .int L] ∧ Tray H t g n ∧ n < 2 ^ 45 ∧ 0 < L ∧ L ≤ 10 ^ 30 ∧
  ∀ (H' : Hp) (p : Addr) (steps : List Pr), H p = none → Tray H' t g (n + 30) → Keep t g H H' → LAt K H' p (steps.map encP) → StepsOk L steps → Q (.ref p) H'
theorem dp_pair {K : PySem.W.Frag} {H : Hp} {v : V} {p : Pr} (h : Dp K H v (encP p)) : ∃ a, v = .ref a ∧ SqT K H a [.int p.1, .int p.2] := by
  have h' : Dp K H v (.tuple [.int p.1, .int p.2]) := h
  cases h' with
  | tup s a =>
    cases a with
    | cons a1 a =>
      cases a with
      | cons a2 a =>
        cases a; cases a1; cases a2
        exact ⟨_, rfl, s⟩
section
variable {P : Program} {w : World} {K : PySem.W.Frag} {mg : Str → Option Value} {base : Heap} {Z : Ad}
end
end KA
namespace KA
open PySem PySem.Spec PyProof.Rows L2 DP
theorem small_nat {L : Int} {a : Int} {n : Nat} (h0 : 0 ≤ a) (h1 : a ≤ L) (hL : L.natAbs < 2 ^ n) : a.natAbs < 2 ^ n := Nat.lt_of_le_of_lt (by omega : a.natAbs ≤ L.natAbs) hL
theorem bigL {L : Int} (h0 : 0 < L) (h : L ≤ 10 ^ 30) : L.natAbs < 2 ^ 100 := by
  have e : (10 : Int) ^ 30 = 1000000000000000000000000000000 := by decide
  have e2 : (2 : Nat) ^ 100 = 1267650600228229401496703205376 := by decide
  rw [e] at h; rw [e2]; omega
/-- what the tray's calls keep of the frame: the tray, all else, so far m draws -/
structure At (H Hc : Hp) (t g : Addr) (m : Nat) : Prop where
  T : Tray Hc t g m
  k : Keep t g H Hc
theorem At.step {H H1 H2 : Hp} {t g : Addr} {m m' : Nat} (a : At H H1 t g m) (T : Tray H2 t g m') (k : Keep t g H1 H2) : At H H2 t g m' := ⟨T, a.k.trans k⟩
theorem At.up {H Hc : Hp} {t g : Addr} {m m' : Nat} (a : At H Hc t g m) (h : m ≤ m') : At H Hc t g m' := ⟨a.T.up h, a.k⟩
theorem At.new {H H1 : Hp} {t g p : Addr} {m : Nat} {o : HO} (a : At H H1 t g m) (hp : H1 p = none) : At H (upd H1 p o) t g m := ⟨a.T.same (same_upd hp), a.k.trans (Keep.of_same (same_upd hp))⟩
theorem At.free {H H1 : Hp} {t g p : Addr} {m : Nat} (a : At H H1 t g m) (hp : H1 p = none) : H p = none := by
  obtain ⟨h1, h2⟩ := a.T.at_ne hp
  cases e : H p with
  | none => rfl
  | some o =>
    rw [a.k p o e h1 h2] at hp
    cases hp
/-- a list that a comprehension makes is changed: it is new -/
theorem At.acc {H H1 : Hp} {t g D : Addr} {m : Nat} {o : HO} (a : At H H1 t g m) (hD : H D = none) (h1 : D ≠ t) (h2 : D ≠ g) : At H (upd H1 D o) t g m := by
  obtain ⟨⟨⟨gs, l, f, c, e1, e2, r⟩, hne⟩, k⟩ := a
  exact ⟨⟨⟨gs, l, f, c, (upd_ne (Ne.symm h1)).trans e1, (upd_ne (Ne.symm h2)).trans e2, r⟩, hne⟩, fun b o e n1 n2 => (upd_ne (ne_of_none e hD)).trans (k b o e n1 n2)⟩
section
variable {P : Program} {w : World} {K : PySem.W.Frag} {mg : Str → Option Value} {base : Heap} {Z : Ad}
theorem ok_law_secret (T : Tx K w mg Z) : FnOk P w K mg base CX0 3 Z.a_law_secret Z.d_law_secret P_law_secret (spSecret K) := by
  refine T.F_law_secret.ok sclaw_secret (fun vs H Q E h => ?_) (fun cdv A outer s H vs Q E hr h => ?_)
  · obtain ⟨t, g, n, L, rfl, _⟩ := h
    rfl
  · obtain ⟨t, g, n, L, rfl, hT, hn, hL, hL30, k⟩ := h
    have hLb := bigL hL hL30
    have hb : ∀ m, m ≤ n + 30 → m < 2 ^ 49 := fun m hm => Nat.lt_of_le_of_lt hm (Nat.lt_of_lt_of_le (Nat.add_lt_add_right hn 30) (by decide))
    have hb' : ∀ m, m ≤ n + 30 → m < 2 ^ 60 := fun m hm => Nat.lt_trans (hb m hm) (by decide)
    refine ⟨_, (pss_cons (ps_set (i := 2) sclaw_secret.nd rfl (Or.inr rfl) (pe_callB (sortedSetK (w := w) rfl) (by rfl) T.b_sorted (by decide +kernel) (pa_cons (pe_callTy (setIK (K := K) (w := w) rfl) (by rfl) T.b_set (by decide +kernel) (pa_cons (pe_lc (own := [("k", 3)]) (g := gName 3) (tt := tYes) rfl sclaw_secret.nd (pi_range1 (by rfl) T.b_range (pa_cons (pe_op op_add pe_int (pe_call (ok_law_draw T) (hr.mono (by decide)) (by rfl) T.g_law_draw T.F_law_draw.kp T.bb_law_draw .nil pass0 (pa_cons (pv 0) (pa_cons pe_int pa_nil)))) pa_nil)) (blkOk_by (own := [("k", 3)]) (N := N_law_secret) (sc := defScope slaw_secret) (by decide +kernel)) (fun _ _ _ _ _ => (pg_name (i := 3) sclaw_secret.nd rfl (Or.inl rfl))) (fun _ _ _ _ _ => pts_nil) (fun _ _ _ _ _ => (pe_call (ok_law_draw T) (hr.mono (by decide)) (by rfl) T.g_law_draw T.F_law_draw.kp T.bb_law_draw .nil pass0 (pa_cons (pv 0) (pa_cons (pv 1) pa_nil))))) pa_nil)) pa_nil)))
      (pss_cons (ps_set (i := 4) sclaw_secret.nd rfl (Or.inr rfl) (pe_callB (sortK (K := K)) (by rfl) T.b_sorted (by decide +kernel) (pa_cons (pe_lc (own := [("spot", 5)]) (g := gName 5) (tt := tYes) rfl sclaw_secret.nd (pi_list (pv 2)) (blkOk_by (own := [("spot", 5)]) (N := N_law_secret) (sc := defScope slaw_secret) (by decide +kernel)) (fun _ _ _ _ _ => (pg_name (i := 5) sclaw_secret.nd rfl (Or.inl rfl))) (fun _ _ _ _ _ => pts_nil) (fun _ _ _ _ _ => (pe_call (ok_law_draw T) (hr.mono (by decide)) (by rfl) T.g_law_draw T.F_law_draw.kp T.bb_law_draw .nil pass0 (pa_cons (pv 0) (pa_cons (pe_op op_add (pv 1) pe_int) pa_nil))))) pa_nil)))
      (pss_cons (ps_set (i := 6) sclaw_secret.nd rfl (Or.inl rfl) (pe_call (ok_law_draw T) (hr.mono (by decide)) (by rfl) T.g_law_draw T.F_law_draw.kp T.bb_law_draw .nil pass0 (pa_cons (pv 0) (pa_cons pe_int pa_nil))))
      (pss_cons (ps_set (i := 7) sclaw_secret.nd rfl (Or.inr rfl) (pe_ix (ixL (K := K)) (pe_lst (pa_cons pe_int (pa_cons (pe_call (ok_law_draw T) (hr.mono (by decide)) (by rfl) T.g_law_draw T.F_law_draw.kp T.bb_law_draw .nil pass0 (pa_cons (pv 0) (pa_cons (pe_op op_add (pv 1) pe_int) pa_nil))) (pa_cons (pe_op op_sub (pe_call (ok_law_draw T) (hr.mono (by decide)) (by rfl) T.g_law_draw T.F_law_draw.kp T.bb_law_draw .nil pass0 (pa_cons (pv 0) (pa_cons (pe_op op_add (pe_op op_mulW pe_int (pv 1)) pe_int) pa_nil))) (pe_op op_mulW pe_int (pv 1))) pa_nil)))) (pe_op op_mod (pv 6) pe_int) (fun _ _ => rfl)))
      (C8.pss_cut (ps_if (pt_cmpR op_eq (pv 6) pe_int (nomark _)) (pss_one (ps_set (i := 7) sclaw_secret.nd rfl (Or.inr rfl) (pe_op op_sub (pe_op op_fdivW (pe_call (ok_law_great T) (hr.mono (by decide)) (by rfl) T.g_law_great T.F_law_great.kp T.bb_law_great .nil pass0 (pa_cons (pv 0) pa_nil)) pe_int) (pe_op op_pow pe_int pe_int)))) pss_nil)
      (pss_one (ps_ret (pe_lc (own := [("k", 3)]) (g := gName 3) (tt := tYes) rfl sclaw_secret.nd (pi_range1 (by rfl) T.b_range (pa_cons (pe_callB (lenK (K := K)) (by rfl) T.b_len (by decide +kernel) (pa_cons (pv 2) pa_nil)) pa_nil)) (blkOk_by (own := [("k", 3)]) (N := N_law_secret) (sc := defScope slaw_secret) (by decide +kernel)) (fun _ _ _ _ _ => (pg_name (i := 3) sclaw_secret.nd rfl (Or.inl rfl))) (fun _ _ _ _ _ => pts_nil) (fun _ _ _ _ _ => (pe_tup (pa_cons (pe_ix (ixL (K := K)) (pv 2) (pv 3) (fun _ _ => rfl)) (pa_cons (pe_op op_add (pv 7) (pe_ix (ixL (K := K)) (pv 4) (pv 3) (fun _ _ => rfl))) pa_nil)))))))))))), ?_⟩
    -- spots = sorted(set([_law_draw(tray, size) for k in range(1 + _law_draw(tray, 6))]))
    refine ⟨_, rfl, t, g, n, 6, rfl, hT, by decide, by decide, hb' _ (by omega), fun H1 d0 d1 d2 T1 k1 => ?_⟩
    have A1 : At H H1 t g (n + 1) := ⟨T1, k1⟩
    refine ⟨_, _, rfl, rfl, 1 + d0, rfl, by omega, by omega, fun D hD => ?_⟩
    obtain ⟨Dt, Dg⟩ := T1.at_ne hD
    have hDH := A1.free hD
    refine lc_range (lo := 0) (n := (1 + d0).toNat) (fun i H' => At H H' t g (n + 1 + i) ∧ ∃ ns : List Int, H' D = some (.lst (ns.map V.int)) ∧ ns.length = i ∧ ∀ x ∈ ns, 0 ≤ x ∧ x < L) ⟨A1.new hD, [], upd_same, rfl, fun _ z => absurd z (by simp)⟩ ?_ ?_
    · rintro i H' hi ⟨A, ns, hd, hl, hx⟩
      have hi6 : i < 6 := by omega
      refine ⟨rfl, yes_ite ?_⟩
      refine ⟨_, rfl, _, rfl, t, g, n + 1 + i, L, rfl, A.T, hL, lt_up hLb (by decide), hb' _ (by omega), fun H2 r r0 r1 T2 k2 => ?_⟩
      have hd2 := k2 _ _ hd Dt Dg
      refine ⟨_, hd2, small1000 (by simp; omega), (A.step T2 k2).acc hDH Dt Dg, ns ++ [r], ?_, by simp [hl], fun x hx' => ?_⟩
      · rw [List.map_append]; exact upd_same
      · rcases List.mem_append.mp hx' with h | h
        · exact hx x h
        · rw [List.mem_singleton] at h; subst h; exact ⟨r0, r1⟩
    rintro H2 ⟨A2, ns, hd, hnl, hx⟩
    refine ⟨D, ns, rfl, SqL.of hd, by omega, fun q c hc hq => ?_⟩
    refine ⟨q, _, c, rfl, upd_same, by omega, fun ss p hpw hmem hsl hp => ?_⟩
    have A3 := (A2.new (o := SetO w q (fun j => decide (j ∈ ns)) c) hq).new (o := HO.lst (ss.map V.int)) hp
    generalize eH3 : upd (upd H2 q (SetO w q (fun j => decide (j ∈ ns)) c)) p (.lst (ss.map V.int)) = H3 at A3 ⊢
    have hp3 : H3 p = some (.lst (ss.map V.int)) := by rw [← eH3]; exact upd_same
    have hpH : H p = none := (A2.new (o := SetO w q (fun j => decide (j ∈ ns)) c) hq).free hp
    obtain ⟨pt, pg⟩ := (A2.new (o := SetO w q (fun j => decide (j ∈ ns)) c) hq).T.at_ne hp
    have hss : ∀ x ∈ ss, 0 ≤ x ∧ x < L := fun x hx' => hx x (of_decide_eq_true ((hmem x).mp hx'))
    have hss6 : ss.length ≤ 6 := by rw [hsl]; omega
    have hssne : ss ≠ [] := by
      cases ns with
      | nil => simp at hnl; omega
      | cons y r =>
        intro e
        have : y ∈ ss := (hmem y).mpr (by simp)
        rw [e] at this; cases this
    have A3' : At H H3 t g (n + 7) := A3.up (by omega)
    -- rises = sorted([_law_draw(tray, size + 1) for spot in spots])
    refine ⟨_, rfl, p, rfl, ⟨_, SqL.of hp3⟩, fun D2 hD2 => ?_⟩
    obtain ⟨D2t, D2g⟩ := A3'.T.at_ne hD2
    have hD2H := A3'.free hD2
    have hD2p : p ≠ D2 := ne_of_none hp3 hD2
    refine lc_list (K := K) (a := p) (xs := ss.map V.int) (fun i H' => At H H' t g (n + 7 + i) ∧ H' p = some (.lst (ss.map V.int)) ∧ ∃ ns : List Int, H' D2 = some (.lst (ns.map V.int)) ∧ ns.length = i ∧ ∀ x ∈ ns, 0 ≤ x ∧ x ≤ L)
      ⟨A3'.new hD2, (upd_ne hD2p).trans hp3, [], upd_same, rfl, fun _ z => absurd z (by simp)⟩ (fun i H' _ ⟨_, h, _⟩ => SqL.of h) ?_ ?_
    · rintro i y H' hi ⟨A, hpk, ns2, hd, hl, hx2⟩
      have hi6 : i < 6 := by
        have := (List.getElem?_eq_some_iff.mp hi).1
        rw [List.length_map] at this; omega
      refine ⟨rfl, yes_ite ?_⟩
      refine ⟨_, rfl, _, rfl, _, _, rfl, rfl, t, g, n + 7 + i, L + 1, rfl, A.T, by omega, lt_up (add_lt hLb (show (1 : Int).natAbs < 2 ^ 100 by decide)) (by decide), hb' _ (by omega), fun H4 r r0 r1 T4 k4 => ?_⟩
      have hd2 := k4 _ _ hd D2t D2g
      refine ⟨_, hd2, small1000 (by simp; omega), (A.step T4 k4).acc hD2H D2t D2g, (upd_ne hD2p).trans (k4 _ _ hpk pt pg), ns2 ++ [r], ?_, by simp [hl], fun x hx' => ?_⟩
      · rw [List.map_append]; exact upd_same
      · rcases List.mem_append.mp hx' with h | h
        · exact hx2 x h
        · rw [List.mem_singleton] at h; subst h; exact ⟨r0, by omega⟩
    rintro H4 ⟨A4, hp4, ns2, hd2, hnl2, hx2⟩
    rw [List.length_map] at A4 hnl2
    refine ⟨D2, ns2, rfl, SqL.of hd2, by omega, fun rs p2 hperm hsrt hp2 => ?_⟩
    have hrl : rs.length = ss.length := by rw [hperm.length_eq, hnl2]
    have hrs : ∀ x ∈ rs, 0 ≤ x ∧ x ≤ L := fun x hx' => hx2 x (hperm.mem_iff.mp hx')
    obtain ⟨p2t, p2g⟩ := A4.T.at_ne hp2
    have hp2p : p ≠ p2 := ne_of_none hp4 hp2
    have A5 : At H (upd H4 p2 (.lst (rs.map V.int))) t g (n + 13) := (A4.new hp2).up (by omega)
    have hp5 : (upd H4 p2 (.lst (rs.map V.int))) p = some (.lst (ss.map V.int)) := (upd_ne hp2p).trans hp4
    have hq5 : (upd H4 p2 (.lst (rs.map V.int))) p2 = some (.lst (rs.map V.int)) := upd_same
    generalize upd H4 p2 (.lst (rs.map V.int)) = H5 at A5 hp5 hq5 ⊢
    -- lot = _law_draw(tray, 6)
    refine ⟨_, rfl, t, g, n + 13, 6, rfl, A5.T, by decide, by decide, hb' _ (by omega), fun H6 lot l0 l1 T6 k6 => ?_⟩
    have A6 := A5.step T6 k6
    have hp6 := k6 _ _ hp5 pt pg
    have hq6 := k6 _ _ hq5 p2t p2g
    -- base = [0, _law_draw(tray, size + 1), _law_draw(tray, 4 * size + 1) - 2 * size][lot % 3]
    refine ⟨_, rfl, _, rfl, _, _, rfl, rfl, t, g, n + 14, L + 1, rfl, A6.T, by omega, lt_up (add_lt hLb (show (1 : Int).natAbs < 2 ^ 100 by decide)) (by decide), hb' _ (by omega), fun H7 b1 c0 c1 T7 k7 => ?_⟩
    have A7 := A6.step T7 k7
    have b4 : (4 * L).natAbs < 2 ^ 103 := by rw [Int.natAbs_mul]; exact Nat.lt_of_lt_of_le (Nat.mul_lt_mul_of_le_of_lt (Nat.le_refl 4) hLb (by decide)) (by decide)
    refine ⟨_, rfl, _, rfl, _, _, rfl, rfl, wide_mul (a := 10) (by decide) hLb (by decide) (by decide) (by decide), _, _, rfl, rfl, t, g, n + 15, 4 * L + 1, rfl, A7.T, by omega, lt_up (add_lt b4 (show (1 : Int).natAbs < 2 ^ 103 by decide)) (by decide), hb' _ (by omega), fun H8 b2 f0 f1 T8 k8 => ?_⟩
    have A8 := A7.step T8 k8
    refine ⟨_, rfl, _, _, rfl, rfl, wide_mul (a := 10) (by decide) hLb (by decide) (by decide) (by decide), _, _, rfl, rfl, (by show 3 ≤ sizeLine; decide), fun p3 hp3 => ?_⟩
    have hp8 := k8 _ _ (k7 _ _ hp6 pt pg) pt pg
    have hq8 := k8 _ _ (k7 _ _ hq6 p2t p2g) p2t p2g
    have hbase : ∃ b : Int, atI [V.int 0, .int b1, .int (b2 - 2 * L)] (lot % 3) = some (.int b) ∧ b.natAbs < 2 ^ 193 := by
      have e1 : b1.natAbs < 2 ^ 193 := by
        have : b1.natAbs < 2 ^ 101 := small_nat c0 (by omega : b1 ≤ L) (lt_up hLb (by decide))
        exact lt_up this (by decide)
      have e2 : (b2 - 2 * L).natAbs < 2 ^ 193 := by
        have : (b2 - 2 * L).natAbs ≤ (4 * L).natAbs := by clear hLb b4; omega
        exact Nat.lt_of_le_of_lt this (lt_up b4 (by decide))
      have : lot % 3 = 0 ∨ lot % 3 = 1 ∨ lot % 3 = 2 := by omega
      rcases this with e | e | e <;> rw [e]
      · exact ⟨0, rfl, by decide⟩
      · exact ⟨b1, rfl, e1⟩
      · exact ⟨b2 - 2 * L, rfl, e2⟩
    obtain ⟨b, hbi, hbb⟩ := hbase
    refine ⟨_, rfl, _, _, rfl, rfl, (by show (0 : Int) < 3; decide), p3, _, _, _, rfl, rfl, SqL.of upd_same, hbi, ?_⟩
    have A9 : At H _ t g (n + 16) := A8.new (o := HO.lst [V.int 0, .int b1, .int (b2 - 2 * L)]) hp3
    have hp9 := (same_upd (o := HO.lst [V.int 0, .int b1, .int (b2 - 2 * L)]) hp3) _ _ hp8
    have hq9 := (same_upd (o := HO.lst [V.int 0, .int b1, .int (b2 - 2 * L)]) hp3) _ _ hq8
    generalize upd H8 p3 (.lst [V.int 0, .int b1, .int (b2 - 2 * L)]) = H9 at A9 hp9 hq9 ⊢
    -- if lot == 5: base = _law_great(tray) // 10 - 10 ** 57
    refine ⟨fun σ' H' => ∃ b : Int, σ' = [some (.ref t), some (.int L), some (.ref p), none, some (.ref p2), none, some (.int lot), some (.int b)] ∧ b.natAbs < 2 ^ 194 ∧ At H H' t g (n + 20) ∧ H' p = some (.lst (ss.map V.int)) ∧ H' p2 = some (.lst (rs.map V.int)), ?_, ?_⟩
    · refine ⟨_, rfl, rfl, _, rfl, ?_⟩
      refine ite2 (fun _ => ?_) (fun _ => ⟨b, rfl, lt_up hbb (by decide), A9.up (by omega), hp9, hq9⟩)
      refine ⟨_, rfl, t, g, n + 16, rfl, A9.T, Nat.lt_trans (hb _ (by omega)) (by decide), fun H10 r r0 r1 T10 k10 => ?_⟩
      refine ⟨_, _, rfl, rfl, wide_div (b := 10) (by decide) (by decide) (by decide) (by decide), _, _, rfl, rfl, ⟨by decide, by decide, by decide⟩, _, _, rfl, rfl, ?_⟩
      refine ⟨_, rfl, ?_, (A9.step T10 k10).up (by omega), k10 _ _ hp9 pt pg, k10 _ _ hq9 p2t p2g⟩
      have e57 : (10 : Int) ^ (57 : Int).toNat = 10 ^ 57 := rfl
      show (r / 10 - (10 : Int) ^ (57 : Int).toNat).natAbs < 2 ^ 194
      rw [e57]
      exact Nat.lt_of_le_of_lt (by omega : _ ≤ 10 ^ 58) (by decide)
    rintro σ' H10 ⟨b, rfl, hbb, A10, hp10, hq10⟩
    -- return [(spots[k], base + rises[k]) for k in range(len(spots))]
    refine ⟨_, rfl, p, _, rfl, .inl (SqL.of hp10), _, rfl, ?_, ?_, fun D3 hD3 => ?_⟩
    · exact Int.le_trans (by decide) (Int.natCast_nonneg _)
    · have : ((ss.map V.int).length : Int) ≤ 6 := by rw [List.length_map]; omega
      exact Int.lt_of_le_of_lt this (by decide)
    obtain ⟨D3t, D3g⟩ := A10.T.at_ne hD3
    have hD3H := A10.free hD3
    have hD3p : p ≠ D3 := ne_of_none hp10 hD3
    have hD3q : p2 ≠ D3 := ne_of_none hq10 hD3
    have hzl : (List.zipWith (fun s r => ((s, b + r) : Pr)) ss rs).length = ss.length := by rw [List.length_zipWith, hrl]; omega
    refine lc_range (lo := 0) (n := ((ss.map V.int).length : Int).toNat) (fun i H' => At H H' t g (n + 20) ∧ H' p = some (.lst (ss.map V.int)) ∧ H' p2 = some (.lst (rs.map V.int)) ∧ ∃ vs, H' D3 = some (.lst vs) ∧ vs.length = i ∧ DpAll K H' vs (((List.zipWith (fun s r => ((s, b + r) : Pr)) ss rs).take i).map encP))
      ⟨A10.new hD3, (upd_ne hD3p).trans hp10, (upd_ne hD3q).trans hq10, [], upd_same, rfl, .nil⟩ ?_ ?_
    · rintro i H' hi ⟨A, hpk, hqk, vs, hd, hvl, hds⟩
      have hi' : i < ss.length := by simpa using hi
      have hss' : ss[i]? = some ss[i] := List.getElem?_eq_getElem hi'
      have hrs' : rs[i]? = some (rs[i]'(by omega)) := List.getElem?_eq_getElem (by omega)
      refine ⟨rfl, yes_ite ?_⟩
      refine ⟨_, rfl, _, rfl, p, _, _, .int ss[i], rfl, rfl, SqL.of hpk, at_of (j := i) (by simp) (by rw [List.getElem?_map, hss']; rfl), _, rfl, _, rfl, _, rfl, p2, _, _, .int (rs[i]'(by omega)), rfl, rfl, SqL.of hqk, at_of (j := i) (by simp) (by rw [List.getElem?_map, hrs']; rfl), _, _, rfl, rfl, (by show 2 ≤ sizeLine; decide), fun p4 hp4 => ?_⟩
      have S4 := same_upd (o := HO.tup [V.int ss[i], .int (b + rs[i]'(by omega))]) hp4
      have hd4 := S4 _ _ hd
      refine ⟨vs, hd4, small1000 (by omega), (A.new hp4).acc hD3H D3t D3g, (upd_ne hD3p).trans (S4 _ _ hpk), (upd_ne hD3q).trans (S4 _ _ hqk), _, upd_same, by simp [hvl], ?_⟩
      have hz : (List.zipWith (fun s r => ((s, b + r) : Pr)) ss rs)[i]? = some (ss[i], b + rs[i]'(by omega)) := by
        simp [List.getElem?_zipWith, hss', hrs']
      rw [take_snoc hz, List.map_append]
      exact acc_step hd4 (noLs_map noL_encP _) rfl (dpAll_mono S4 _ _ hds) (.tup (SqT.of upd_same) (.cons (.int _) (.cons (.int _) .nil)))
    · rintro H' ⟨A, hpk, hqk, vs, hd, hvl, hds⟩
      have e : ((ss.map V.int).length : Int).toNat = ss.length := by simp
      rw [e, List.take_of_length_le (by rw [hzl]; exact Nat.le_refl _)] at hds
      refine k H' D3 _ hD3H (A.T.up (by omega)) A.k ⟨vs, hd, hds⟩ ⟨fun e => ?_, by rw [hzl]; omega, fun s hs => ?_⟩
      · have := congrArg List.length e
        rw [hzl] at this
        exact hssne (List.eq_nil_of_length_eq_zero this)
      · obtain ⟨i, hi, e⟩ := List.getElem_of_mem hs
        rw [List.getElem_zipWith] at e
        rw [hzl] at hi
        have h1 := hss _ (List.getElem_mem hi)
        have h2 := hrs (rs[i]'(by omega)) (List.getElem_mem _)
        rw [← e]
        refine ⟨h1.1, h1.2, ?_⟩
        exact lt_up (add_lt hbb (small_nat h2.1 h2.2 (lt_up hLb (by decide)))) (by decide)
end
end KA
namespace KA
open PySem PySem.Spec PyProof.Rows L2 DP
/-- a look that the hidden hand is as -/
structure TrueLk (L : Int) (steps : List Pr) (l : Lk) : Prop where
  word : WordOk l.1
  sz : Sized 270 l
  nr : (l.2.2 - l.2.1).natAbs < 2 ^ 199
  ex : ∃ x k m, l.2.1 = x + k * L ∧ IsMaxL (leads L steps x) m ∧ (l.1 = "at" → l.2.2 = m + k * L) ∧ (l.1 = "from" → l.2.2 ≤ m + k * L) ∧ (l.1 = "upto" → m + k * L ≤ l.2.2)
def spTrue (K : PySem.W.Frag) : Sp := fun vs H Q _ => ∃ (t g p : Addr) (n : Nat) (L : Int) (steps : List Pr), vs = [.ref t, .int L, .ref p] ∧ Tray H t g n ∧ n < 2 ^ 46 ∧ 0 < L ∧ L ≤ 10 ^ 30 ∧ LAt K H p (steps.map encP) ∧ StepsOk L steps ∧ p ≠ t ∧ p ≠ g ∧
  ∀ (H' : Hp) (r : V) (l : Lk), At H H' t g (n + 30) → Dp K H' r (encL l) → TrueLk L steps l → Q r H'
theorem lead_bound {L x m : Int} {steps : List Pr} (hL : 0 < L) (hLb : L.natAbs < 2 ^ 100) (hx0 : 0 ≤ x) (hx1 : x < L) (hs : StepsOk L steps) (hm : IsMaxL (leads L steps x) m) : m.natAbs < 2 ^ 197 := by
  obtain ⟨s, hs', e⟩ := List.mem_map.mp hm.1
  obtain ⟨s0, s1, s2⟩ := hs.2.2 s hs'
  have h1 := Int.mul_ediv_add_emod (x - s.1) L
  have h2 := Int.emod_nonneg (x - s.1) (show L ≠ 0 by omega)
  have h3 := Int.emod_lt_of_pos (x - s.1) hL
  rw [Int.mul_comm] at h1
  have h4 : ((x - s.1) / L * L).natAbs < 2 ^ 102 := by
    have e2 : (2 : Nat) ^ 102 = 2 ^ 100 * 4 := by decide
    rw [e2]
    generalize (2 : Nat) ^ 100 = B at hLb ⊢
    generalize (x - s.1) / L * L = d at h1 ⊢
    clear s2 e hm hs
    omega
  rw [← e]
  exact add_lt s2 (lt_up h4 (by decide))
section
variable {P : Program} {w : World} {K : PySem.W.Frag} {mg : Str → Option Value} {base : Heap} {Z : Ad}
end
end KA
namespace KA
open PySem PySem.Spec PyProof.Rows L2 DP
def spKnown (K : PySem.W.Frag) : Sp := fun vs H Q _ => ∃ (t g : Addr) (n : Nat) (L most : Int), vs = [.ref t, .int L, .int most] ∧ Tray H t g n ∧ n < 2 ^ 44 ∧ 0 < L ∧ L ≤ 10 ^ 30 ∧ 0 ≤ most ∧ most ≤ 40 ∧
  ∀ (H' : Hp) (p : Addr) (ls : List Lk) (steps : List Pr), H p = none → At H H' t g (n + 2000) → LAt K H' p (ls.map encL) → (∀ l ∈ ls, TrueLk L steps l) → StepsOk L steps → (ls.length : Int) ≤ most → Q (.ref p) H'
def spLawSide (K : PySem.W.Frag) (sd : Str) : Sp := fun vs H Q _ => ∃ (v : V) (L x : Int) (ls : List Lk), vs = [.int L, v, .int x] ∧ Dp K H v (.list (ls.map encL)) ∧ 0 < L ∧ L.natAbs < 2 ^ 200 ∧ x.natAbs < 2 ^ 400 ∧ (∀ l ∈ ls, WordOk l.1 ∧ Sized 400 l) ∧ ls.length ≤ 100 ∧
  ∀ v H', Same H H' → Tells sd ls x L v → Q v H'
section
variable {P : Program} {w : World} {K : PySem.W.Frag} {mg : Str → Option Value} {base : Heap} {Z : Ad}
end
end KA
namespace KA
open PySem PySem.Spec PyProof.Rows L2 DP
/-- no list of it is long -/
def fewD : PyData → Bool
  | .list xs => decide (xs.length ≤ 1000) && fewDs xs
  | .tuple xs => decide (xs.length ≤ 1000) && fewDs xs
  | _ => true
where fewDs : List PyData → Bool
  | [] => true
  | x :: xs => fewD x && fewDs xs
def tyName : PyData → String
  | .none => "NoneType"
  | .bool _ => "bool"
  | .int _ => "int"
  | .str _ => "str"
  | .list _ => "list"
  | .tuple _ => "tuple"
  | .dict _ => "dict"
theorem ty_of {K : PySem.W.Frag} {H : Hp} {v : V} {d : PyData} (h : Dp K H v d) : TyX K H v (.type (tyName d)) := by
  cases h with
  | non => exact .base .non
  | bl b => exact .base (.bl b)
  | int i => exact .base (.int i)
  | str x => exact .base (.str x)
  | lst s a =>
    rcases s with (s | ⟨o, s⟩) | ⟨o, its, n, e, c, _⟩
    · exact .base (.lst s)
    · exact .base (.frz s)
    · exact .kList e c
  | tup s a =>
    rcases s with (s | ⟨o, s⟩) | ⟨o, its, n, e, c, _⟩
    · exact .base (.tup s)
    · exact .fTuple s
    · exact .kTuple e c
theorem isi {K : PySem.W.Frag} {H : Hp} {v : V} {d : PyData} {C : String} {b : Bool} {Q : VK} (h : Dp K H v d) (hk : kitB (tyName d) C = some b) (q : Q (.bl b) H) : rIsi K [v, .ty C] H Q :=
  ⟨v, .ty C, _, .type C, b, rfl, ClsV.ty C, ty_of h, kit_ty hk, q⟩
def spAlike (K : PySem.W.Frag) (n : Nat) : Sp := fun vs H Q _ => ∃ (v u : V) (d : PyData), vs = [v, u] ∧ Dp K H v d ∧ Dp K H u d ∧ fewD d = true ∧ d.depth < n ∧ Q (.bl true) H
theorem few_at : ∀ {ds : List PyData} {i : Nat} {d : PyData}, fewD.fewDs ds = true → ds[i]? = some d → fewD d = true
  | [], _, _, _, h => by simp at h
  | a :: r, 0, d, n, h => by
    rw [fewD.fewDs, Bool.and_eq_true] at n
    have e : a = d := Option.some.inj h
    subst e; exact n.1
  | a :: r, i + 1, d, n, h => by
    rw [fewD.fewDs, Bool.and_eq_true] at n
    exact few_at n.2 (by simpa using h)
theorem depth_at : ∀ {ds : List PyData} {i : Nat} {d : PyData}, ds[i]? = some d → d.depth ≤ PyData.depthAll ds
  | [], _, _, h => by simp at h
  | a :: r, 0, d, h => by
    have e : a = d := Option.some.inj h
    subst e; rw [PyData.depthAll]; omega
  | a :: r, i + 1, d, h => by
    have := depth_at (ds := r) (i := i) (d := d) (by simpa using h)
    rw [PyData.depthAll]; omega
theorem ix_any {K : PySem.W.Frag} {H : Hp} {p : Addr} {xs : List V} {i : Int} {x : V} {Q : VK} (s : SqL K H p xs ∨ SqT K H p xs) (h : atI xs i = some x) (q : Q x H) : rIx K (.ref p) (.int i) H Q := by
  rcases s with s | s
  · exact .inl ⟨p, xs, i, x, rfl, rfl, s, h, q⟩
  · exact .inr (.inl ⟨p, xs, i, x, rfl, rfl, s, h, q⟩)
section
variable {P : Program} {w : World} {K : PySem.W.Frag} {mg : Str → Option Value} {base : Heap} {Z : Ad}
/-- what the loop asks: the items alike, by the promise one level down -/
theorem ok_law_alike_of {k n : Nat} (T : Tx K w mg Z) (ih : FnOk P w K mg base CX0 k Z.a_law_alike Z.d_law_alike P_law_alike (spAlike K n)) : FnOk P w K mg base CX0 (k + 1) Z.a_law_alike Z.d_law_alike P_law_alike (spAlike K (n + 1)) := by
  refine T.F_law_alike.ok sclaw_alike (fun vs H Q E h => ?_) (fun cdv A outer s H vs Q E hr h => ?_)
  · obtain ⟨v, u, d, rfl, _⟩ := h
    rfl
  · obtain ⟨v, u, d, rfl, hv, hu, hf, hd, k⟩ := h
    -- the data's kinds: what the tests answer
    have ty := ty_of hu
    refine ⟨_, (C8.pss_cut (ps_if (pt_cmpR op_isN (pv 1) pe_non (nomark _)) (pss_one (ps_ret (pe_cmpR op_isN (pv 0) pe_non (nomark _)))) pss_nil)
      (C8.pss_cut (ps_if (pt_val (pe_callB (isiK (K := K)) (by rfl) T.b_isinstance (by decide +kernel) (pa_cons (pv 1) (pa_cons (pe_bltn (v := .ty "bool") (by rfl) T.b_bool (by decide +kernel) rfl) pa_nil)))) (pss_one (ps_ret (pe_and (pe_callB (isiK (K := K)) (by rfl) T.b_isinstance (by decide +kernel) (pa_cons (pv 0) (pa_cons (pe_bltn (v := .ty "bool") (by rfl) T.b_bool (by decide +kernel) rfl) pa_nil))) (pe_one (pe_cmpR op_eq (pv 0) (pv 1) (nomark _)))))) pss_nil)
      (C8.pss_cut (ps_if (pt_val (pe_callB (isiK (K := K)) (by rfl) T.b_isinstance (by decide +kernel) (pa_cons (pv 1) (pa_cons (pe_bltn (v := .ty "int") (by rfl) T.b_int (by decide +kernel) rfl) pa_nil)))) (pss_one (ps_ret (pe_and (pe_callB (isiK (K := K)) (by rfl) T.b_isinstance (by decide +kernel) (pa_cons (pv 0) (pa_cons (pe_bltn (v := .ty "int") (by rfl) T.b_int (by decide +kernel) rfl) pa_nil))) (pe_and (pe_not (pe_callB (isiK (K := K)) (by rfl) T.b_isinstance (by decide +kernel) (pa_cons (pv 0) (pa_cons (pe_bltn (v := .ty "bool") (by rfl) T.b_bool (by decide +kernel) rfl) pa_nil)))) (pe_one (pe_cmpR op_eq (pv 0) (pv 1) (nomark _))))))) pss_nil)
      (C8.pss_cut (ps_if (pt_val (pe_callB (isiK (K := K)) (by rfl) T.b_isinstance (by decide +kernel) (pa_cons (pv 1) (pa_cons (pe_bltn (v := .ty "str") (by rfl) T.b_str (by decide +kernel) rfl) pa_nil)))) (pss_one (ps_ret (pe_and (pe_callB (isiK (K := K)) (by rfl) T.b_isinstance (by decide +kernel) (pa_cons (pv 0) (pa_cons (pe_bltn (v := .ty "str") (by rfl) T.b_str (by decide +kernel) rfl) pa_nil))) (pe_one (pe_cmpR op_eq (pv 0) (pv 1) (nomark _)))))) pss_nil)
      (C8.pss_cut (ps_if (PW.pt (pw_or (pt_cmpR (neDK (K := K) hr.units) (pe_callB (isiK (K := K)) (by rfl) T.b_isinstance (by decide +kernel) (pa_cons (pv 0) (pa_cons (pe_bltn (v := .ty "list") (by rfl) T.b_list (by decide +kernel) rfl) pa_nil))) (pe_callB (isiK (K := K)) (by rfl) T.b_isinstance (by decide +kernel) (pa_cons (pv 1) (pa_cons (pe_bltn (v := .ty "list") (by rfl) T.b_list (by decide +kernel) rfl) pa_nil))) (nomark _)) (pw_or1 (pt_cmpR (neDK (K := K) hr.units) (pe_callB (isiK (K := K)) (by rfl) T.b_isinstance (by decide +kernel) (pa_cons (pv 0) (pa_cons (pe_bltn (v := .ty "tuple") (by rfl) T.b_tuple (by decide +kernel) rfl) pa_nil))) (pe_callB (isiK (K := K)) (by rfl) T.b_isinstance (by decide +kernel) (pa_cons (pv 1) (pa_cons (pe_bltn (v := .ty "tuple") (by rfl) T.b_tuple (by decide +kernel) rfl) pa_nil))) (nomark _))))) (pss_one (ps_ret pe_bl)) pss_nil)
      (C8.pss_cut (ps_if (pt_cmpR op_ne (pe_callB (lenK (K := K)) (by rfl) T.b_len (by decide +kernel) (pa_cons (pv 0) pa_nil)) (pe_callB (lenK (K := K)) (by rfl) T.b_len (by decide +kernel) (pa_cons (pv 1) pa_nil)) (nomark _)) (pss_one (ps_ret pe_bl)) pss_nil)
      (pss_cons (ps_for PassesOwn.never rfl (pi_range1 (by rfl) T.b_range (pa_cons (pe_callB (lenK (K := K)) (by rfl) T.b_len (by decide +kernel) (pa_cons (pv 1) pa_nil)) pa_nil)) (pg_name (i := 2) sclaw_alike.nd rfl (Or.inl rfl)) (pss_one (ps_if (pt_not (pt_val (pe_call ih hr (by rfl) T.g_law_alike T.F_law_alike.kp T.bb_law_alike .nil pass0 (pa_cons (pe_ix ix_seq (pv 0) (pv 2) (fun _ _ => rfl)) (pa_cons (pe_ix ix_seq (pv 1) (pv 2) (fun _ _ => rfl)) pa_nil))))) (pss_one (ps_ret pe_bl)) pss_nil)))
      (pss_one (ps_ret pe_bl))))))))), ?_⟩
    refine ⟨fun σ' H' => σ' = [some v, some u, none] ∧ H' = H ∧ d ≠ .none, ?_, ?_⟩
    · refine ⟨_, rfl, rfl, _, rfl, ?_⟩
      cases hu with
      | non =>
        cases hv
        exact iteT ⟨_, rfl, rfl, k⟩
      | bl b => exact iteF ⟨rfl, rfl, fun e => by cases e⟩
      | int b => exact iteF ⟨rfl, rfl, fun e => by cases e⟩
      | str b => exact iteF ⟨rfl, rfl, fun e => by cases e⟩
      | lst s a => exact iteF ⟨rfl, rfl, fun e => by cases e⟩
      | tup s a => exact iteF ⟨rfl, rfl, fun e => by cases e⟩
    rintro σ1 H1 ⟨rfl, rfl, n1⟩
    refine ⟨fun σ' H' => σ' = [some v, some u, none] ∧ H' = H1 ∧ ∀ b, d ≠ .bool b, ?_, ?_⟩
    · cases hu with
      | non => exact absurd rfl n1
      | bl b =>
        have hv' := hv
        cases hv
        exact ⟨_, rfl, ⟨_, _, _, _, true, rfl, .ty _, ty_of (.bl b), kit_ty (by simp only [tyName]; decide +kernel), _, rfl, iteT ⟨_, rfl, ⟨_, _, _, _, true, rfl, .ty _, ty_of hv', kit_ty (by simp only [tyName]; decide +kernel), _, rfl, iteT ⟨_, rfl, _, rfl, rfl, (by simpa using k)⟩⟩⟩⟩⟩
      | int b => exact ⟨_, rfl, ⟨_, _, _, _, false, rfl, .ty _, ty_of (.int b), kit_ty (by simp only [tyName]; decide +kernel), _, rfl, iteF ⟨rfl, rfl, fun _ e => by cases e⟩⟩⟩
      | str b => exact ⟨_, rfl, ⟨_, _, _, _, false, rfl, .ty _, ty_of (.str b), kit_ty (by simp only [tyName]; decide +kernel), _, rfl, iteF ⟨rfl, rfl, fun _ e => by cases e⟩⟩⟩
      | lst s a => exact ⟨_, rfl, ⟨_, _, _, _, false, rfl, .ty _, ty_of (.lst s a), kit_ty (by simp only [tyName]; decide +kernel), _, rfl, iteF ⟨rfl, rfl, fun _ e => by cases e⟩⟩⟩
      | tup s a => exact ⟨_, rfl, ⟨_, _, _, _, false, rfl, .ty _, ty_of (.tup s a), kit_ty (by simp only [tyName]; decide +kernel), _, rfl, iteF ⟨rfl, rfl, fun _ e => by cases e⟩⟩⟩
    rintro σ2 H2 ⟨rfl, rfl, n2⟩
    refine ⟨fun σ' H' => σ' = [some v, some u, none] ∧ H' = H2 ∧ ∀ b, d ≠ .int b, ?_, ?_⟩
    · cases hu with
      | non => exact absurd rfl n1
      | bl b => exact absurd rfl (n2 b)
      | int b =>
        have hv' := hv
        cases hv
        exact ⟨_, rfl, ⟨_, _, _, _, true, rfl, .ty _, ty_of (.int b), kit_ty (by simp only [tyName]; decide +kernel), _, rfl, iteT ⟨_, rfl, ⟨_, _, _, _, true, rfl, .ty _, ty_of hv', kit_ty (by simp only [tyName]; decide +kernel), _, rfl, iteT ⟨_, rfl, ⟨_, _, _, _, false, rfl, .ty _, ty_of hv', kit_ty (by simp only [tyName]; decide +kernel), _, rfl, _, rfl, iteT ⟨_, rfl, _, rfl, rfl, (by simpa using k)⟩⟩⟩⟩⟩⟩⟩
      | str b => exact ⟨_, rfl, ⟨_, _, _, _, false, rfl, .ty _, ty_of (.str b), kit_ty (by simp only [tyName]; decide +kernel), _, rfl, iteF ⟨rfl, rfl, fun _ e => by cases e⟩⟩⟩
      | lst s a => exact ⟨_, rfl, ⟨_, _, _, _, false, rfl, .ty _, ty_of (.lst s a), kit_ty (by simp only [tyName]; decide +kernel), _, rfl, iteF ⟨rfl, rfl, fun _ e => by cases e⟩⟩⟩
      | tup s a => exact ⟨_, rfl, ⟨_, _, _, _, false, rfl, .ty _, ty_of (.tup s a), kit_ty (by simp only [tyName]; decide +kernel), _, rfl, iteF ⟨rfl, rfl, fun _ e => by cases e⟩⟩⟩
    rintro σ3 H3 ⟨rfl, rfl, n3⟩
    refine ⟨fun σ' H' => σ' = [some v, some u, none] ∧ H' = H3 ∧ ∀ b, d ≠ .str b, ?_, ?_⟩
    · cases hu with
      | non => exact absurd rfl n1
      | bl b => exact absurd rfl (n2 b)
      | int b => exact absurd rfl (n3 b)
      | str b =>
        have hv' := hv
        cases hv
        exact ⟨_, rfl, ⟨_, _, _, _, true, rfl, .ty _, ty_of (.str b), kit_ty (by simp only [tyName]; decide +kernel), _, rfl, iteT ⟨_, rfl, ⟨_, _, _, _, true, rfl, .ty _, ty_of hv', kit_ty (by simp only [tyName]; decide +kernel), _, rfl, iteT ⟨_, rfl, _, rfl, rfl, (by simpa using k)⟩⟩⟩⟩⟩
      | lst s a => exact ⟨_, rfl, ⟨_, _, _, _, false, rfl, .ty _, ty_of (.lst s a), kit_ty (by simp only [tyName]; decide +kernel), _, rfl, iteF ⟨rfl, rfl, fun _ e => by cases e⟩⟩⟩
      | tup s a => exact ⟨_, rfl, ⟨_, _, _, _, false, rfl, .ty _, ty_of (.tup s a), kit_ty (by simp only [tyName]; decide +kernel), _, rfl, iteF ⟨rfl, rfl, fun _ e => by cases e⟩⟩⟩
    rintro σ4 H4 ⟨rfl, rfl, n4⟩
    -- a list or a tuple
    obtain ⟨p, q, xs, ys, ds, ev, eu, sx, sy, hx, hy, hl, hfw, hdp, hty⟩ : ∃ (p q : Addr) (xs ys : List V) (ds : List PyData), v = .ref p ∧ u = .ref q ∧ (SqL K H4 p xs ∨ SqT K H4 p xs) ∧ (SqL K H4 q ys ∨ SqT K H4 q ys) ∧ DpAll K H4 xs ds ∧ DpAll K H4 ys ds ∧ ds.length ≤ 1000 ∧ fewD.fewDs ds = true ∧ PyData.depthAll ds < n ∧ (tyName d = "list" ∨ tyName d = "tuple") := by
      cases hu with
      | non => exact absurd rfl n1
      | bl b => exact absurd rfl (n2 b)
      | int b => exact absurd rfl (n3 b)
      | str b => exact absurd rfl (n4 b)
      | lst s a =>
        cases hv with
        | lst s' a' =>
          rw [fewD, Bool.and_eq_true, decide_eq_true_eq] at hf
          rw [PyData.depth] at hd
          exact ⟨_, _, _, _, _, rfl, rfl, .inl s', .inl s, a', a, hf.1, hf.2, by omega, .inl rfl⟩
      | tup s a =>
        cases hv with
        | tup s' a' =>
          rw [fewD, Bool.and_eq_true, decide_eq_true_eq] at hf
          rw [PyData.depth] at hd
          exact ⟨_, _, _, _, _, rfl, rfl, .inr s', .inr s, a', a, hf.1, hf.2, by omega, .inr rfl⟩
    have lx := dpAll_len hx
    have ly := dpAll_len hy
    refine ⟨fun σ' H' => σ' = [some v, some u, none] ∧ H' = H4, ?_, ?_⟩
    · obtain ⟨b1, e1⟩ : ∃ b, kitB (tyName d) "list" = some b := by
        rcases hty with e | e <;> rw [e]
        · exact ⟨true, by decide +kernel⟩
        · exact ⟨false, by decide +kernel⟩
      obtain ⟨b2, e2⟩ : ∃ b, kitB (tyName d) "tuple" = some b := by
        rcases hty with e | e <;> rw [e]
        · exact ⟨false, by decide +kernel⟩
        · exact ⟨true, by decide +kernel⟩
      refine ⟨_, rfl, ⟨_, _, _, _, _, rfl, .ty _, ty_of hv, kit_ty e1, _, rfl, ⟨_, _, _, _, _, rfl, .ty _, ty_of hu, kit_ty e1, .bool b1, .bool b1, .bl _, .bl _, rfl, rfl, _, rfl, ?_⟩⟩⟩
      have d1 : (!PyData.eqv (.bool b1) (.bool b1)) = false := by cases b1 <;> decide +kernel
      rw [d1]
      refine iteF ⟨_, rfl, ⟨_, _, _, _, _, rfl, .ty _, ty_of hv, kit_ty e2, _, rfl, ⟨_, _, _, _, _, rfl, .ty _, ty_of hu, kit_ty e2, .bool b2, .bool b2, .bl _, .bl _, rfl, rfl, _, rfl, ?_⟩⟩⟩
      have d2 : (!PyData.eqv (.bool b2) (.bool b2)) = false := by cases b2 <;> decide +kernel
      rw [d2]
      exact iteF ⟨rfl, rfl⟩
    rintro σ5 H5 ⟨rfl, rfl⟩
    refine ⟨fun σ' H' => σ' = [some v, some u, none] ∧ H' = H5, ?_, ?_⟩
    · subst ev eu
      refine ⟨_, rfl, p, xs, rfl, sx, _, rfl, q, ys, rfl, sy, rfl, _, rfl, ?_⟩
      have d1 : (!decide (V.int (xs.length : Int) = V.int (ys.length : Int))) = false := by rw [lx, ly]; simp
      rw [d1]
      exact iteF ⟨rfl, rfl⟩
    rintro σ6 H6 ⟨rfl, rfl⟩
    subst ev eu
    refine ⟨_, rfl, q, ys, rfl, sy, (ys.length : Int), rfl, ?_, ?_, ?_⟩
    · exact Int.le_trans (by decide) (Int.natCast_nonneg _)
    · have : (ys.length : Int) ≤ 1000 := by rw [ly]; exact_mod_cast hl
      exact Int.lt_of_le_of_lt this (by decide)
    refine for_range (n := (ys.length : Int).toNat) (fun i σ' H' => ∃ w0, σ' = [some (.ref p), some (.ref q), w0] ∧ H' = H6) ⟨none, rfl, rfl⟩ ?_ ?_
    · rintro i σ' H' hi ⟨w0, rfl, rfl⟩
      have hi' : i < ds.length := by rw [← ly]; simpa using hi
      obtain ⟨e, he⟩ : ∃ e, ds[i]? = some e := ⟨ds[i], List.getElem?_eq_getElem hi'⟩
      obtain ⟨x, hxi, hxe⟩ := dpAll_get' hx he
      obtain ⟨y, hyi, hye⟩ := dpAll_get' hy he
      refine ⟨_, rfl, _, rfl, ?_⟩
      refine ix_any (K := K) sx (at_of (by simp) hxi) ?_
      refine ⟨_, rfl, _, rfl, ?_⟩
      refine ix_any (K := K) sy (at_of (by simp) hyi) ?_
      exact ⟨x, y, e, rfl, hxe, hye, few_at hfw he, Nat.lt_of_le_of_lt (depth_at he) hdp, _, rfl, iteF ⟨_, rfl, rfl⟩⟩
    · rintro σ' H' ⟨w0, rfl, rfl⟩
      exact k
theorem ok_law_alike0 (T : Tx K w mg Z) : FnOk P w K mg base CX0 1 Z.a_law_alike Z.d_law_alike P_law_alike (spAlike K 0) := by
  refine T.F_law_alike.ok sclaw_alike (fun vs H Q E h => ?_) (fun cdv A outer s H vs Q E hr h => ?_)
  · obtain ⟨v, u, d, rfl, _⟩ := h
    rfl
  · obtain ⟨v, u, d, rfl, hv, hu, hf, hd, k⟩ := h
    exact absurd hd (Nat.not_lt_zero _)
theorem ok_law_alike (T : Tx K w mg Z) : ∀ n, FnOk P w K mg base CX0 (n + 1) Z.a_law_alike Z.d_law_alike P_law_alike (spAlike K n)
  | 0 => ok_law_alike0 T
  | n + 1 => ok_law_alike_of T (ok_law_alike T n)
end
end KA
namespace KA
open PySem PySem.Spec PyProof.Rows L2 DP
/-! ### the hidden hand -/
theorem leads_shift {L x k : Int} (hL : 0 < L) (steps : List Pr) : leads L steps (x + k * L) = (leads L steps x).map (· + k * L) := by
  unfold leads
  rw [List.map_map]
  refine List.map_congr_left fun s _ => ?_
  show s.2 + (x + k * L - s.1) / L * L = s.2 + (x - s.1) / L * L + k * L
  have e : x + k * L - s.1 = (x - s.1) + k * L := by omega
  rw [e, Int.add_mul_ediv_right _ _ (by omega), Int.add_mul]
  omega
theorem max_shift {L x k m : Int} (hL : 0 < L) {steps : List Pr} (h : IsMaxL (leads L steps x) m) : IsMaxL (leads L steps (x + k * L)) (m + k * L) := by
  rw [leads_shift hL]
  refine ⟨List.mem_map.mpr ⟨m, h.1, rfl⟩, fun y hy => ?_⟩
  obtain ⟨z, hz, e⟩ := List.mem_map.mp hy
  have := h.2 z hz
  have e' : z + k * L = y := e
  omega
theorem max_mono {L x x' m m' : Int} (hL : 0 < L) {steps : List Pr} (hx : x ≤ x') (h : IsMaxL (leads L steps x) m) (h' : IsMaxL (leads L steps x') m') : m ≤ m' := by
  obtain ⟨s, hs, e⟩ := List.mem_map.mp h.1
  have h1 := h'.2 _ (List.mem_map.mpr ⟨s, hs, rfl⟩)
  have h2 : (x - s.1) / L ≤ (x' - s.1) / L := Int.ediv_le_ediv hL (by omega)
  have h3 := Int.mul_le_mul_of_nonneg_right h2 (Int.le_of_lt hL)
  omega
theorem max_one {l : List Int} {m m' : Int} (h : IsMaxL l m) (h' : IsMaxL l m') : m = m' := by
  have := h.2 _ h'.1
  have := h'.2 _ h.1
  omega
/-- what a true look says, wherever it stands -/
def Says (L : Int) (steps : List Pr) (l : Lk) : Prop := ∃ x k m, l.2.1 = x + k * L ∧ IsMaxL (leads L steps x) m ∧ (l.1 = "at" → l.2.2 = m + k * L) ∧ (l.1 = "from" → l.2.2 ≤ m + k * L) ∧ (l.1 = "upto" → m + k * L ≤ l.2.2)
theorem says_home {L : Int} {steps : List Pr} {l : Lk} (h : Says L steps l) : Says L steps (home L l) := by
  obtain ⟨x, k, m, h1, h2, h3, h4, h5⟩ := h
  refine ⟨x, k - l.2.1 / L, m, ?_, h2, fun e => ?_, fun e => ?_, fun e => ?_⟩
  · show l.2.1 - l.2.1 / L * L = x + (k - l.2.1 / L) * L
    rw [Int.sub_mul]; omega
  · have := h3 e
    show l.2.2 - l.2.1 / L * L = m + (k - l.2.1 / L) * L
    rw [Int.sub_mul]; omega
  · have := h4 e
    show l.2.2 - l.2.1 / L * L ≤ m + (k - l.2.1 / L) * L
    rw [Int.sub_mul]; omega
  · have := h5 e
    show m + (k - l.2.1 / L) * L ≤ l.2.2 - l.2.1 / L * L
    rw [Int.sub_mul]; omega
theorem side_low {x : Str} (h : onSide "slow" x = true) : x = "at" ∨ x = "from" := by
  unfold onSide at h
  rw [if_pos rfl, Bool.or_eq_true, decide_eq_true_eq, decide_eq_true_eq] at h
  exact h
theorem side_high {x : Str} (h : onSide "fast" x = true) : x = "at" ∨ x = "upto" := by
  unfold onSide at h
  rw [if_neg slow_ne, Bool.or_eq_true, decide_eq_true_eq, decide_eq_true_eq] at h
  exact h
theorem no_far {L : Int} (hL : 0 < L) {steps : List Pr} {a b : Lk} (ha : Says L steps a) (hb : Says L steps b) : tooFar a b L = false := by
  unfold tooFar
  cases c1 : onSide "slow" a.1 with
  | false => rfl
  | true =>
    cases c2 : onSide "fast" b.1 with
    | false => rfl
    | true =>
      rw [Bool.true_and, Bool.true_and, decide_eq_false_iff_not, plc_slow]
      obtain ⟨x, k, m, h1, h2, h3, h4, h5⟩ := ha
      obtain ⟨x', k', m', h1', h2', h3', h4', h5'⟩ := hb
      have low : a.2.2 ≤ m + k * L := by
        rcases side_low c1 with e | e
        · exact Int.le_of_eq (h3 e)
        · exact h4 e
      have high : m' + k' * L ≤ b.2.2 := by
        rcases side_high c2 with e | e
        · exact Int.le_of_eq (h3' e).symm
        · exact h5' e
      have hj : (b.2.1 - a.2.1) / L * L ≤ b.2.1 - a.2.1 := by
        have := Int.mul_ediv_add_emod (b.2.1 - a.2.1) L
        have h0 := Int.emod_nonneg (b.2.1 - a.2.1) (show L ≠ 0 by omega)
        rw [Int.mul_comm] at this
        omega
      generalize (b.2.1 - a.2.1) / L = j at hj ⊢
      have hx : x + (k + j - k') * L ≤ x' := by
        rw [Int.sub_mul, Int.add_mul]; omega
      have := max_mono hL hx (max_shift hL h2) h2'
      rw [Int.sub_mul, Int.add_mul] at this
      omega
theorem no_clash {L : Int} (hL : 0 < L) {steps : List Pr} {a b : Lk} (ha : Says L steps a) (hb : Says L steps b) : clashB a b L = false := by
  unfold clashB
  rw [no_far hL ha hb, no_far hL hb ha]; rfl
theorem TrueLk.says {L : Int} {steps : List Pr} {l : Lk} (h : TrueLk L steps l) : Says L steps l := h.ex
/-! ### what a Dark tells and what the looks tell -/
theorem plc_home {L : Int} (hL : 0 < L) (sd : Str) (l : Lk) (x : Int) : plc sd (home L l) x L = plc sd l x L := by
  unfold plc home
  split
  · show l.2.2 - l.2.1 / L * L + (x - (l.2.1 - l.2.1 / L * L)) / L * L = l.2.2 + (x - l.2.1) / L * L
    have e : x - (l.2.1 - l.2.1 / L * L) = (x - l.2.1) + l.2.1 / L * L := by omega
    rw [e, Int.add_mul_ediv_right _ _ (by omega), Int.add_mul]; omega
  · show l.2.2 - l.2.1 / L * L - (l.2.1 - l.2.1 / L * L - x) / L * L = l.2.2 - (l.2.1 - x) / L * L
    have e : l.2.1 - l.2.1 / L * L - x = (l.2.1 - x) + (-(l.2.1 / L)) * L := by rw [Int.neg_mul]; omega
    rw [e, Int.add_mul_ediv_right _ _ (by omega), Int.add_mul, Int.neg_mul]; omega
theorem fold_mem {L : Int} : ∀ (ls acc : List Lk) (o : Lk), o ∈ ls.foldl (heard L) acc ↔ o ∈ acc ∨ ∃ l ∈ ls, o = home L l
  | [], acc, o => by simp
  | l :: ls, acc, o => by
    rw [List.foldl_cons, fold_mem ls, heard_mem]
    constructor
    · rintro ((h | h) | ⟨q, hq, e⟩)
      · exact .inl h
      · exact .inr ⟨l, List.mem_cons_self, h⟩
      · exact .inr ⟨q, List.mem_cons_of_mem _ hq, e⟩
    · rintro (h | ⟨q, hq, e⟩)
      · exact .inl (.inl h)
      · rcases List.mem_cons.mp hq with h | h
        · subst h; exact .inl (.inr e)
        · exact .inr ⟨q, h, e⟩
theorem fold_len {L : Int} : ∀ (ls acc : List Lk), (ls.foldl (heard L) acc).length ≤ acc.length + ls.length
  | [], acc => by simp
  | l :: ls, acc => by
    have h1 := fold_len (L := L) ls (heard L acc l)
    have h2 := heard_len L acc l
    rw [List.foldl_cons, List.length_cons]; omega
theorem mem_side {sd : Str} {ls : List Lk} {l : Lk} : l ∈ sideOf sd ls ↔ l ∈ ls ∧ onSide sd l.1 = true := by
  unfold sideOf; rw [List.mem_filter]
/-- the best of the looks is the best of them brought home -/
theorem best_home {L : Int} (hL : 0 < L) {sd : Str} {ls hs : List Lk} {x m : Int} (hh : ∀ o, o ∈ hs ↔ ∃ l ∈ ls, o = home L l) (h : IsBest sd (sideOf sd hs) x L m) : IsBest sd (sideOf sd ls) x L m := by
  obtain ⟨⟨o, ho, e⟩, h2⟩ := h
  obtain ⟨ho1, ho2⟩ := mem_side.mp ho
  obtain ⟨l, hl, rfl⟩ := (hh o).mp ho1
  rw [plc_home hL] at e
  refine ⟨⟨l, mem_side.mpr ⟨hl, ho2⟩, e⟩, fun q hq => ?_⟩
  obtain ⟨hq1, hq2⟩ := mem_side.mp hq
  have := h2 (home L q) (mem_side.mpr ⟨(hh _).mpr ⟨q, hq1, rfl⟩, hq2⟩)
  rw [plc_home hL] at this
  exact this
theorem best_one {sd : Str} {ls : List Lk} {x L m m' : Int} (h : IsBest sd ls x L m) (h' : IsBest sd ls x L m') : m = m' := by
  obtain ⟨⟨a, ha, ea⟩, h2⟩ := h
  obtain ⟨⟨b, hb, eb⟩, h2'⟩ := h'
  have q1 := h2 b hb
  have q2 := h2' a ha
  rw [eb] at q1
  rw [ea] at q2
  split at q1 <;> split at q2 <;> first | omega | (exfalso; simp_all)
theorem side_nil {L : Int} {sd : Str} {ls hs : List Lk} (hh : ∀ o, o ∈ hs ↔ ∃ l ∈ ls, o = home L l) : sideOf sd hs = [] ↔ sideOf sd ls = [] := by
  constructor
  · intro h
    refine List.eq_nil_iff_forall_not_mem.mpr fun l hl => ?_
    obtain ⟨h1, h2⟩ := mem_side.mp hl
    have : home L l ∈ sideOf sd hs := mem_side.mpr ⟨(hh _).mpr ⟨l, h1, rfl⟩, h2⟩
    rw [h] at this; cases this
  · intro h
    refine List.eq_nil_iff_forall_not_mem.mpr fun o ho => ?_
    obtain ⟨h1, h2⟩ := mem_side.mp ho
    obtain ⟨l, hl, rfl⟩ := (hh o).mp h1
    have : l ∈ sideOf sd ls := mem_side.mpr ⟨hl, h2⟩
    rw [h] at this; cases this
def spMade (Z : Ad) (K : PySem.W.Frag) : Sp := fun vs H Q _ => ∃ (v : V) (L : Int) (ls : List Lk), vs = [.int L, v] ∧ Dp K H v (.list (ls.map encL)) ∧ 0 < L ∧ L.natAbs < 2 ^ 200 ∧ (∀ l ∈ ls, WordOk l.1 ∧ Sized 300 l) ∧ (∀ a ∈ ls, ∀ b ∈ ls, clashB a b L = false) ∧ ls.length ≤ 58 ∧
  ∀ (H' : Hp) (d : Addr), H d = none → Same H H' → DarkAt Z K H' d L (ls.foldl (heard L) []) → (∀ la dx, H' d = some (.ins Z.C dx (df L la)) → H la = none) → Q (.ref d) H'
theorem plc_shift {L : Int} (hL : 0 < L) (sd : Str) (l : Lk) (x k : Int) : plc sd l (x + k * L) L = plc sd l x L + k * L := by
  unfold plc
  split
  · have e : x + k * L - l.2.1 = (x - l.2.1) + k * L := by omega
    rw [e, Int.add_mul_ediv_right _ _ (by omega), Int.add_mul]; omega
  · have e : l.2.1 - (x + k * L) = (l.2.1 - x) + (-k) * L := by rw [Int.neg_mul]; omega
    rw [e, Int.add_mul_ediv_right _ _ (by omega), Int.add_mul, Int.neg_mul]; omega
theorem far_home {L : Int} (hL : 0 < L) (a b : Lk) : tooFar (home L a) (home L b) L = tooFar a b L := by
  unfold tooFar
  have e1 : (home L b).2.2 = b.2.2 - b.2.1 / L * L := rfl
  have e2 : (home L b).2.1 = b.2.1 + (-(b.2.1 / L)) * L := by show b.2.1 - b.2.1 / L * L = _; rw [Int.neg_mul]; omega
  rw [e1, e2, plc_home hL, plc_shift hL, Int.neg_mul]
  congr 1
  rw [decide_eq_decide]
  constructor <;> intro h <;> omega
theorem clash_home {L : Int} (hL : 0 < L) (a b : Lk) : clashB (home L a) (home L b) L = clashB a b L := by
  unfold clashB
  rw [far_home hL, far_home hL]
def spSpot (K : PySem.W.Frag) : Sp := fun vs H Q _ => ∃ (t g p : Addr) (n : Nat) (L : Int) (ls : List Lk), vs = [.ref t, .int L, .ref p] ∧ Tray H t g n ∧ n < 2 ^ 44 ∧ 0 < L ∧ L ≤ 10 ^ 30 ∧ LAt K H p (ls.map encL) ∧ p ≠ t ∧ p ≠ g ∧ (∀ l ∈ ls, WordOk l.1 ∧ Sized 270 l) ∧ ls.length ≤ 100 ∧
  ∀ (H' : Hp) (r : Int), At H H' t g (n + 20) → r.natAbs < 2 ^ 280 → Q (.int r) H'
section
variable {P : Program} {w : World} {K : PySem.W.Frag} {mg : Str → Option Value} {base : Heap} {Z : Ad}
end
end KA
namespace KA
open PySem PySem.Spec PyProof.Rows L2 DP
theorem tells_home {L : Int} (hL : 0 < L) {sd : Str} {ls hs : List Lk} {x : Int} {v u : V} (hh : ∀ o, o ∈ hs ↔ ∃ l ∈ ls, o = home L l) (h : Tells sd ls x L v) (h' : Tells sd hs x L u) : u = v := by
  rcases h with ⟨e, rfl⟩ | ⟨m, rfl, b⟩
  · rcases h' with ⟨_, rfl⟩ | ⟨m, rfl, b⟩
    · rfl
    · obtain ⟨⟨l, hl, _⟩, _⟩ := b
      rw [(side_nil hh).mpr e] at hl; cases hl
  · rcases h' with ⟨e, rfl⟩ | ⟨m', rfl, b'⟩
    · obtain ⟨⟨l, hl, _⟩, _⟩ := b
      rw [(side_nil hh).mp e] at hl; cases hl
    · rw [best_one b (best_home hL hh b')]
theorem DarkAt.keep {Z : Ad} {K : PySem.W.Frag} {H H' : Hp} {t g d : Addr} {n : Nat} {L : Int} {ls : List Lk} (D : DarkAt Z K H d L ls) (T : Tray H t g n) (k : Keep t g H H') (hla : ∀ la dx, H d = some (.ins Z.C dx (df L la)) → la ≠ t ∧ la ≠ g) :
    DarkAt Z K H' d L ls ∧ ∀ la dx, H' d = some (.ins Z.C dx (df L la)) → la ≠ t ∧ la ≠ g := by
  obtain ⟨dx, la, vs, h1, h2, h3⟩ := D.ex
  obtain ⟨a1, a2⟩ := hla la dx h1
  have hd : d ≠ t ∧ d ≠ g := by
    obtain ⟨⟨gs, l, f, c, e1, e2, r⟩, hne⟩ := T
    refine ⟨?_, ?_⟩ <;> rintro rfl
    · rw [h1] at e1; cases e1
    · rw [h1] at e2; cases e2
  have h1' := k _ _ h1 hd.1 hd.2
  refine ⟨⟨⟨dx, la, vs, h1', k _ _ h2 a1 a2, dpAll_tups (Keep.tups T k) _ _ (noLs_map noL_encL ls) h3⟩, D.pos, D.big, D.ok, D.len⟩, fun la' dx' e => ?_⟩
  rw [h1'] at e
  rw [← df_inj e]
  exact ⟨a1, a2⟩
/-- what a Dark tells, told by the looks that it heard -/
theorem tells_ls {L : Int} (hL : 0 < L) {sd : Str} {ls hs : List Lk} {x : Int} {v : V} (hh : ∀ o, o ∈ hs ↔ ∃ l ∈ ls, o = home L l) (h : Tells sd hs x L v) : Tells sd ls x L v := by
  rcases h with ⟨e, rfl⟩ | ⟨m, rfl, b⟩
  · exact .inl ⟨(side_nil hh).mp e, rfl⟩
  · exact .inr ⟨m, rfl, best_home hL hh b⟩
def vmap (φ : Int → Int) : V → V | .int m => .int (φ m) | _ => .non
def Flat (v : V) : Prop := v = .non ∨ ∃ m, v = .int m
theorem tells_flat' {sd : Str} {ls : List Lk} {x L : Int} {v : V} (h : Tells sd ls x L v) : Flat v := by
  rcases h with ⟨_, rfl⟩ | ⟨m, rfl, _⟩
  · exact .inl rfl
  · exact .inr ⟨m, rfl⟩
theorem flat_map {v : V} (h : Flat v) (φ : Int → Int) : Flat (vmap φ v) := by
  rcases h with rfl | ⟨m, rfl⟩
  · exact .inl rfl
  · exact .inr ⟨_, rfl⟩
theorem flat_dp {v : V} (h : Flat v) : ∃ d, fewD d = true ∧ d.depth = 0 ∧ ∀ (K : PySem.W.Frag) (H : Hp), Dp K H v d := by
  rcases h with rfl | ⟨m, rfl⟩
  · exact ⟨.none, rfl, rfl, fun K H => .non⟩
  · exact ⟨.int m, rfl, rfl, fun K H => .int m⟩
/-- looks changed, places changed: what is told is changed -/
theorem tells_map {sd sd' : Str} {f : Lk → Lk} {φ : Int → Int} {ls : List Lk} {x x' L L' : Int} {v : V} (hside : ∀ l ∈ ls, onSide sd' (f l).1 = onSide sd l.1) (hplc : ∀ l ∈ ls, plc sd' (f l) x' L' = φ (plc sd l x L))
    (hmono : ∀ a b, (if sd = "slow" then a ≤ b else b ≤ a) → if sd' = "slow" then φ a ≤ φ b else φ b ≤ φ a) (h : Tells sd ls x L v) : Tells sd' (ls.map f) x' L' (vmap φ v) := by
  rcases h with ⟨e, rfl⟩ | ⟨m, rfl, ⟨l, hl, em⟩, hb⟩
  · refine .inl ⟨List.eq_nil_iff_forall_not_mem.mpr fun o ho => ?_, rfl⟩
    obtain ⟨h1, h2⟩ := mem_side.mp ho
    obtain ⟨l, hl, rfl⟩ := List.mem_map.mp h1
    rw [hside l hl] at h2
    have : l ∈ sideOf sd ls := mem_side.mpr ⟨hl, h2⟩
    rw [e] at this; cases this
  · obtain ⟨h1, h2⟩ := mem_side.mp hl
    refine .inr ⟨φ m, rfl, ⟨f l, mem_side.mpr ⟨List.mem_map.mpr ⟨l, h1, rfl⟩, by rw [hside l h1]; exact h2⟩, by rw [hplc l h1, em]⟩, fun o ho => ?_⟩
    obtain ⟨g1, g2⟩ := mem_side.mp ho
    obtain ⟨q, hq, rfl⟩ := List.mem_map.mp g1
    rw [hside q hq] at g2
    have h3 := hb q (mem_side.mpr ⟨hq, g2⟩)
    rw [hplc q hq]
    refine hmono _ _ ?_
    split at h3
    · rw [if_pos (by assumption)]; exact h3
    · rw [if_neg (by assumption)]; exact h3
theorem far_map {f : Lk → Lk} {L L' : Int} {a b : Lk} (h1 : onSide "slow" (f a).1 = onSide "slow" a.1) (h2 : onSide "fast" (f b).1 = onSide "fast" b.1) (h3 : (f b).2.2 < plc "slow" (f a) (f b).2.1 L' ↔ b.2.2 < plc "slow" a b.2.1 L) : tooFar (f a) (f b) L' = tooFar a b L := by
  unfold tooFar
  rw [h1, h2]
  congr 1
  rw [decide_eq_decide]
  exact h3
/-- moved -/
def mv (off : Int) (l : Lk) : Lk := (l.1, l.2.1 + off, l.2.2 + off)
theorem plc_mv (sd : Str) (off : Int) (l : Lk) (x L : Int) : plc sd (mv off l) (x + off) L = plc sd l x L + off := by
  unfold plc
  split
  · show l.2.2 + off + (x + off - (l.2.1 + off)) / L * L = l.2.2 + (x - l.2.1) / L * L + off
    have e : x + off - (l.2.1 + off) = x - l.2.1 := by omega
    rw [e]; omega
  · show l.2.2 + off - (l.2.1 + off - (x + off)) / L * L = l.2.2 - (l.2.1 - x) / L * L + off
    have e : l.2.1 + off - (x + off) = l.2.1 - x := by omega
    rw [e]; omega
theorem far_mv (off : Int) (a b : Lk) (L : Int) : tooFar (mv off a) (mv off b) L = tooFar a b L := by
  refine far_map rfl rfl ?_
  show b.2.2 + off < plc "slow" (mv off a) (b.2.1 + off) L ↔ _
  rw [plc_mv]; omega
theorem clash_mv (off : Int) (a b : Lk) (L : Int) : clashB (mv off a) (mv off b) L = clashB a b L := by
  unfold clashB
  rw [far_mv, far_mv]
/-- so many times -/
def gr (m : Int) (l : Lk) : Lk := (l.1, l.2.1 * m, l.2.2 * m)
theorem div_gr {a m r L : Int} (hm : 0 < m) (hL : 0 < L) (h0 : 0 ≤ r) (h1 : r < m) : (a * m + r) / (L * m) = a / L := by
  have e : (a * m + r) / m = a := by
    rw [Int.add_comm, Int.add_mul_ediv_right _ _ (by omega), Int.ediv_eq_zero_of_lt h0 h1, Int.zero_add]
  have e2 : (a * m + r) / (m * L) = (a * m + r) / m / L := (Int.ediv_ediv_of_nonneg (Int.le_of_lt hm)).symm
  rw [Int.mul_comm L m, e2, e]
theorem plc_gr_slow {m r L : Int} (hm : 0 < m) (hL : 0 < L) (h0 : 0 ≤ r) (h1 : r < m) (l : Lk) (x : Int) : plc "slow" (gr m l) (x * m + r) (L * m) = plc "slow" l x L * m := by
  rw [plc_slow, plc_slow]
  show l.2.2 * m + (x * m + r - l.2.1 * m) / (L * m) * (L * m) = (l.2.2 + (x - l.2.1) / L * L) * m
  have e : x * m + r - l.2.1 * m = (x - l.2.1) * m + r := by rw [Int.sub_mul]; omega
  rw [e, div_gr hm hL h0 h1, Int.add_mul, Int.mul_assoc]
theorem plc_gr_fast {m r L : Int} (hm : 0 < m) (hL : 0 < L) (h0 : 0 ≤ r) (h1 : r < m) (l : Lk) (x : Int) : plc "fast" (gr m l) (x * m - r) (L * m) = plc "fast" l x L * m := by
  rw [plc_fast, plc_fast]
  show l.2.2 * m - (l.2.1 * m - (x * m - r)) / (L * m) * (L * m) = (l.2.2 - (l.2.1 - x) / L * L) * m
  have e : l.2.1 * m - (x * m - r) = (l.2.1 - x) * m + r := by rw [Int.sub_mul]; omega
  rw [e, div_gr hm hL h0 h1, Int.sub_mul, Int.mul_assoc]
theorem far_gr {m L : Int} (hm : 0 < m) (hL : 0 < L) (a b : Lk) : tooFar (gr m a) (gr m b) (L * m) = tooFar a b L := by
  refine far_map rfl rfl ?_
  show b.2.2 * m < plc "slow" (gr m a) (b.2.1 * m) (L * m) ↔ _
  have e := plc_gr_slow hm hL (Int.le_refl 0) hm a b.2.1
  rw [Int.add_zero] at e
  rw [e]
  exact Int.mul_lt_mul_right hm
theorem clash_gr {m L : Int} (hm : 0 < m) (hL : 0 < L) (a b : Lk) : clashB (gr m a) (gr m b) (L * m) = clashB a b L := by
  unfold clashB
  rw [far_gr hm hL, far_gr hm hL]
/-- the other way about -/
def sw (x : Str) : Str := if x = "from" then "upto" else if x = "upto" then "from" else "at"
def ot (l : Lk) : Lk := (sw l.1, 0 - l.2.1, 0 - l.2.2)
theorem sw_ok {x : Str} (h : WordOk x) : WordOk (sw x) ∧ onSide "slow" (sw x) = onSide "fast" x ∧ onSide "fast" (sw x) = onSide "slow" x := by
  rcases h with rfl | rfl | rfl <;> exact ⟨by unfold WordOk; decide +kernel, by decide +kernel, by decide +kernel⟩
theorem plc_ot_slow (l : Lk) (x L : Int) : plc "slow" (ot l) (0 - x) L = 0 - plc "fast" l x L := by
  rw [plc_slow, plc_fast]
  show 0 - l.2.2 + (0 - x - (0 - l.2.1)) / L * L = 0 - (l.2.2 - (l.2.1 - x) / L * L)
  have e : 0 - x - (0 - l.2.1) = l.2.1 - x := by omega
  rw [e]; omega
theorem plc_ot_fast (l : Lk) (x L : Int) : plc "fast" (ot l) (0 - x) L = 0 - plc "slow" l x L := by
  rw [plc_slow, plc_fast]
  show 0 - l.2.2 - (0 - l.2.1 - (0 - x)) / L * L = 0 - (l.2.2 + (x - l.2.1) / L * L)
  have e : 0 - l.2.1 - (0 - x) = x - l.2.1 := by omega
  rw [e]; omega
theorem far_ot {a b : Lk} (ha : WordOk a.1) (hb : WordOk b.1) (L : Int) : tooFar (ot a) (ot b) L = tooFar b a L := by
  unfold tooFar
  have e1 : onSide "slow" (ot a).1 = onSide "fast" a.1 := (sw_ok ha).2.1
  have e2 : onSide "fast" (ot b).1 = onSide "slow" b.1 := (sw_ok hb).2.2
  rw [e1, e2, Bool.and_comm (onSide "fast" a.1)]
  congr 1
  rw [decide_eq_decide]
  show 0 - b.2.2 < plc "slow" (ot a) (0 - b.2.1) L ↔ a.2.2 < plc "slow" b a.2.1 L
  rw [plc_ot_slow, plc_fast, plc_slow]
  omega
theorem clash_ot {a b : Lk} (ha : WordOk a.1) (hb : WordOk b.1) (L : Int) : clashB (ot a) (ot b) L = clashB a b L := by
  unfold clashB
  rw [far_ot ha hb, far_ot hb ha, Bool.or_comm]
/-- may -/
def mayB (L : Int) (hs : List Lk) (l : Lk) : Bool := !hs.any fun o => clashB (home L l) o L
theorem may_ls {L : Int} (hL : 0 < L) {ls hs : List Lk} (hh : ∀ o, o ∈ hs ↔ ∃ l ∈ ls, o = home L l) (l : Lk) : mayB L hs l = !ls.any fun q => clashB l q L := by
  unfold mayB
  congr 1
  rw [Bool.eq_iff_iff, List.any_eq_true, List.any_eq_true]
  constructor
  · rintro ⟨o, ho, e⟩
    obtain ⟨q, hq, rfl⟩ := (hh o).mp ho
    rw [clash_home hL] at e
    exact ⟨q, hq, e⟩
  · rintro ⟨q, hq, e⟩
    exact ⟨_, (hh _).mpr ⟨q, hq, rfl⟩, by rw [clash_home hL]; exact e⟩
theorem any_map {f : Lk → Lk} {L L' : Int} {ls : List Lk} {l : Lk} (h : ∀ q ∈ ls, clashB (f l) (f q) L' = clashB l q L) : ((ls.map f).any fun q => clashB (f l) q L') = ls.any fun q => clashB l q L := by
  rw [List.any_map, Bool.eq_iff_iff, List.any_eq_true, List.any_eq_true]
  constructor
  · rintro ⟨q, hq, e⟩
    exact ⟨q, hq, by rw [← h q hq]; exact e⟩
  · rintro ⟨q, hq, e⟩
    exact ⟨q, hq, by show clashB (f l) (f q) L' = true; rw [h q hq]; exact e⟩
end KA
namespace KA
open PySem PySem.Spec PyProof.Rows L2 DP
def spLHome (K : PySem.W.Frag) : Sp := fun vs H Q _ => ∃ (v : V) (L : Int) (l : Lk), vs = [.int L, v] ∧ Dp K H v (encL l) ∧ 0 < L ∧ L.natAbs < 2 ^ 200 ∧ Sized 300 l ∧ ∀ r H', Same H H' → Dp K H' r (encL (home L l)) → Q r H'
section
variable {P : Program} {w : World} {K : PySem.W.Frag} {mg : Str → Option Value} {base : Heap} {Z : Ad}
end
end KA
namespace KA
open PySem PySem.Spec PyProof.Rows L2 DP
/-! ### looks in order, each once -/
def leL (a b : Lk) : Bool := PySem.W.dataLe false encL a b
theorem leL_iff {a b : Lk} : leL a b = true ↔ (listOrd itemOrd).kle (PySem.W.keyToks (encL a)) (PySem.W.keyToks (encL b)) := by
  show (!PyProof.Rows.lexLt itemOrd (PySem.W.keyToks (encL b)) (PySem.W.keyToks (encL a))) = true ↔ PyProof.Rows.lexLt itemOrd (PySem.W.keyToks (encL b)) (PySem.W.keyToks (encL a)) = false
  cases PyProof.Rows.lexLt itemOrd (PySem.W.keyToks (encL b)) (PySem.W.keyToks (encL a)) <;> simp
theorem leL_trans (a b c : Lk) (h1 : leL a b = true) (h2 : leL b c = true) : leL a c = true := leL_iff.mpr (KeyOrd.kle_trans (leL_iff.mp h1) (leL_iff.mp h2))
theorem leL_total (a b : Lk) : (leL a b || leL b a) = true := by
  rw [Bool.or_eq_true]
  cases e : (listOrd itemOrd).blt (PySem.W.keyToks (encL b)) (PySem.W.keyToks (encL a)) with
  | false => exact .inl (leL_iff.mpr e)
  | true => exact .inr (leL_iff.mpr (KeyOrd.kle_of_klt (O := listOrd itemOrd) e))
theorem toks_inj {a b : Lk} (h : PySem.W.keyToks (encL a) = PySem.W.keyToks (encL b)) : a = b := by
  obtain ⟨⟨a1⟩, a2, a3⟩ := a
  obtain ⟨⟨b1⟩, b2, b3⟩ := b
  simp [encL, PySem.W.keyToks, PySem.W.keyToksAll] at h
  obtain ⟨h1, h2, h3⟩ := h
  rw [h1, h2, h3]
theorem leL_anti (a b : Lk) (h1 : leL a b = true) (h2 : leL b a = true) : a = b := toks_inj (KeyOrd.kle_antisymm (leL_iff.mp h1) (leL_iff.mp h2))
structure Canon (ms : List Lk) (S : Lk → Prop) : Prop where
  nd : ms.Nodup
  srt : ms.Pairwise (fun a b => leL a b = true)
  mem : ∀ o, o ∈ ms ↔ S o
theorem Canon.eq {ms ns : List Lk} {S S' : Lk → Prop} (a : Canon ms S) (b : Canon ns S') (h : ∀ o, S o ↔ S' o) : ms = ns :=
  List.Perm.eq_of_pairwise (fun x y _ _ h1 h2 => leL_anti x y h1 h2) a.srt b.srt ((List.perm_ext_iff_of_nodup a.nd b.nd).mpr fun o => (a.mem o).trans ((h o).trans (b.mem o).symm))
theorem Canon.iff {ms : List Lk} {S S' : Lk → Prop} (a : Canon ms S) (h : ∀ o, S o ↔ S' o) : Canon ms S' := ⟨a.nd, a.srt, fun o => (a.mem o).trans (h o)⟩
theorem canon_nil : Canon [] (fun _ => False) := ⟨.nil, .nil, fun o => by simp⟩
theorem canon_sort {ms : List Lk} (nd : ms.Nodup) : Canon (ms.mergeSort leL) (fun o => o ∈ ms) := ⟨(List.mergeSort_perm _ _).nodup_iff.mpr nd, List.pairwise_mergeSort leL_trans leL_total _, fun o => (List.mergeSort_perm _ _).mem_iff⟩
theorem heard_canon {L : Int} {hs : List Lk} {S : Lk → Prop} (c : Canon hs S) (l : Lk) : Canon (heard L hs l) (fun o => S o ∨ o = home L l) := by
  refine ⟨?_, ?_, fun o => ?_⟩
  · unfold heard
    split
    · exact c.nd
    · rename_i h
      exact (List.mergeSort_perm _ _).nodup_iff.mpr (List.nodup_append.mpr ⟨c.nd, List.pairwise_singleton _ _, fun a ha b hb e => h (by rw [List.mem_singleton] at hb; rw [← hb, ← e]; exact ha)⟩)
  · unfold heard
    split
    · exact c.srt
    · exact List.pairwise_mergeSort leL_trans leL_total _
  · rw [heard_mem, c.mem]
theorem fold_canon {L : Int} : ∀ (ls hs : List Lk) {S : Lk → Prop}, Canon hs S → Canon (ls.foldl (heard L) hs) (fun o => S o ∨ ∃ l ∈ ls, o = home L l)
  | [], hs, S, c => c.iff fun o => by simp
  | l :: ls, hs, S, c => (fold_canon ls _ (heard_canon c l)).iff fun o => by
    constructor
    · rintro ((h | h) | ⟨q, hq, h⟩)
      · exact .inl h
      · exact .inr ⟨l, List.mem_cons_self, h⟩
      · exact .inr ⟨q, List.mem_cons_of_mem _ hq, h⟩
    · rintro (h | ⟨q, hq, h⟩)
      · exact .inl (.inl h)
      · rcases List.mem_cons.mp hq with e | e
        · exact .inl (.inr (e ▸ h))
        · exact .inr ⟨q, e, h⟩
theorem fold0_canon (L : Int) (ls : List Lk) : Canon (ls.foldl (heard L) []) (fun o => ∃ l ∈ ls, o = home L l) := (fold_canon ls [] canon_nil).iff fun o => by simp
theorem filter_canon {hs : List Lk} {S : Lk → Prop} (c : Canon hs S) (q : Lk → Bool) : Canon (hs.filter q) (fun o => S o ∧ q o = true) := ⟨c.nd.filter _, c.srt.filter _, fun o => by rw [List.mem_filter, c.mem]⟩
/-! ### a set of looks, sorted -/
def keyL (l : Lk) : List Key := [.inr l.1, .inl l.2.1, .inl l.2.2]
theorem keyL_inj {a b : Lk} (h : keyL a = keyL b) : a = b := by
  obtain ⟨a1, a2, a3⟩ := a
  obtain ⟨b1, b2, b3⟩ := b
  simp [keyL] at h
  obtain ⟨h1, h2, h3⟩ := h
  rw [h1, h2, h3]
section
variable {K : PySem.W.Frag} {H : Hp}
theorem look_rows : ∀ {ls : List Lk} {xs : List V}, DpAll K H xs (ls.map encL) → ∃ ks : List (Addr × List Key), xs = ks.map (fun p => V.ref p.1) ∧ ks.map Prod.snd = ls.map keyL ∧ SD.Stand K H ks
  | [], xs, h => by
    have h' : DpAll K H xs [] := h
    cases h'
    exact ⟨[], rfl, rfl, fun p hp => by cases hp⟩
  | l :: ls, xs, h => by
    have h' : DpAll K H xs (encL l :: ls.map encL) := h
    cases h' with
    | cons h1 h2 =>
      obtain ⟨ks, e1, e2, st⟩ := look_rows h2
      obtain ⟨a, rfl, ha⟩ := dp_look h1
      refine ⟨(a, keyL l) :: ks, by rw [e1]; rfl, by rw [List.map_cons, e2]; rfl, fun p hp => ?_⟩
      rcases List.mem_cons.mp hp with e | e
      · rw [e]; exact ha
      · exact st p e
theorem rows_look : ∀ {ms : List Lk} {M : List (Addr × List Key)}, M.map Prod.snd = ms.map keyL → SD.Stand K H M → DpAll K H (M.map fun p => V.ref p.1) (ms.map encL)
  | [], [], _, _ => .nil
  | [], _ :: _, e, _ => by cases e
  | _ :: _, [], e, _ => by cases e
  | l :: ms, p :: M, e, st => by
    injection e with e1 e2
    have h1 := st p List.mem_cons_self
    rw [e1] at h1
    exact .cons (.tup h1 (.cons (.str _) (.cons (.int _) (.cons (.int _) .nil)))) (rows_look e2 fun q hq => st q (List.mem_cons_of_mem _ hq))
theorem keys_back : ∀ {ks : List (List Key)} {ls : List Lk}, (∀ k ∈ ks, ∃ l ∈ ls, k = keyL l) → ∃ ms : List Lk, ks = ms.map keyL ∧ ∀ m ∈ ms, m ∈ ls
  | [], _, _ => ⟨[], rfl, fun _ h => by cases h⟩
  | k :: ks, ls, h => by
    obtain ⟨l, hl, e⟩ := h k List.mem_cons_self
    obtain ⟨ms, e2, h2⟩ := keys_back (ks := ks) (ls := ls) fun q hq => h q (List.mem_cons_of_mem _ hq)
    refine ⟨l :: ms, by rw [e, e2]; rfl, fun m hm => ?_⟩
    rcases List.mem_cons.mp hm with z | z
    · rw [z]; exact hl
    · exact h2 m z
/-- sorted(set(looks)) -/
theorem set_sorted {P : Program} {w : World} {l : Addr} {xs : List V} {ls : List Lk} (hl : SqL K H l xs) (hd : DpAll K H xs (ls.map encL)) (hlen : ls.length < 64) {Q : VK}
    (q : ∀ p ys H' ms, Same H H' → H p = none → H' p = some (.lst ys) → DpAll K H' ys (ms.map encL) → Canon ms (fun o => o ∈ ls) → Q (.ref p) H') :
    SD.rSetD K P w [.ref l] H (fun v H' => SD.rSortSetD K P w [v] H' Q) := by
  obtain ⟨ks, e1, e2, st⟩ := look_rows hd
  have hkl : ks.length = ls.length := by rw [← List.length_map (f := Prod.snd), e2, List.length_map]
  subst e1
  refine ⟨l, ks, rfl, hl, st, by rw [hkl]; exact hlen, fun a M ha hM hall hone => ?_⟩
  have S1 := same_upd (o := SD.SetDO P w a M) ha
  have stM : SD.Stand K (upd H a (SD.SetDO P w a M)) M := SD.Stand.same (fun p hp => st p (hM p hp)) S1
  have inl : ∀ p ∈ M, ∃ l ∈ ls, p.2 = keyL l := fun p hp => by
    have h1 : p.2 ∈ ks.map Prod.snd := List.mem_map.mpr ⟨p, hM p hp, rfl⟩
    rw [e2] at h1
    obtain ⟨l, hl, e⟩ := List.mem_map.mp h1
    exact ⟨l, hl, e.symm⟩
  refine ⟨a, M, rfl, upd_same, stM, ⟨fun p hp p2 hp2 => ?_, fun p hp => ?_⟩, fun N p pm hp => ?_⟩
  · obtain ⟨l1, _, e1⟩ := inl p hp
    obtain ⟨l2, _, e2⟩ := inl p2 hp2
    unfold SD.encK
    rw [e1, e2]
    simp [keyL, SD.kD, PySem.W.alike, PySem.W.alikeAll]
  · obtain ⟨l1, _, e1⟩ := inl p hp
    rw [e1]; simp [keyL]
  · obtain ⟨ms, em, hms⟩ := keys_back (ks := N.map Prod.snd) (ls := ls) fun k hk => by
      obtain ⟨p, hp, e⟩ := List.mem_map.mp hk
      obtain ⟨l, hl, e2⟩ := inl p (pm.mem_iff.mp hp)
      exact ⟨l, hl, by rw [← e, e2]⟩
    have ndk : (ms.map keyL).Nodup := by rw [← em]; exact (pm.map Prod.snd).nodup_iff.mpr hone
    have nd : ms.Nodup := List.Pairwise.of_map keyL (fun _ _ hne e => hne (congrArg keyL e)) ndk
    have hsort : (N.mergeSort (PySem.W.dataLe false SD.encK)).map Prod.snd = (ms.mergeSort leL).map keyL := by
      rw [List.map_mergeSort (f := Prod.snd) (r := PySem.W.dataLe false SD.encK) (s := fun a b => PySem.W.dataLe false SD.encK (0, a) (0, b)) (fun a _ b _ => rfl), em]
      rw [List.map_mergeSort (f := keyL) (r := leL) (s := fun a b => PySem.W.dataLe false SD.encK (0, a) (0, b)) (fun a _ b _ => rfl)]
    have S2 := same_upd (o := HO.lst ((N.mergeSort (PySem.W.dataLe false SD.encK)).map fun q => V.ref q.1)) hp
    refine q p _ _ (ms.mergeSort leL) (S1.trans S2) (S1.free hp) upd_same (rows_look hsort (SD.Stand.same (fun r hr => stM r (pm.mem_iff.mp ((List.mergeSort_perm _ _).mem_iff.mp hr))) S2)) ((canon_sort nd).iff fun o => ⟨hms o, fun ho => ?_⟩)
    have h1 : keyL o ∈ ks.map Prod.snd := by rw [e2]; exact List.mem_map.mpr ⟨o, ho, rfl⟩
    obtain ⟨p2, hp2, e3⟩ := List.mem_map.mp h1
    have h2 := hall p2 hp2
    rw [e3, ← (pm.map Prod.snd).mem_iff, em] at h2
    obtain ⟨m, hm, e4⟩ := List.mem_map.mp h2
    rw [← keyL_inj e4]; exact hm
end
end KA
namespace KA
open PySem PySem.Spec PyProof.Rows L2 DP
def spLen (Z : Ad) (K : PySem.W.Frag) : Sp := fun vs H Q _ => ∃ (d : Addr) (L : Int) (ls : List Lk), vs = [.ref d] ∧ DarkAt Z K H d L ls ∧ Q (.int L) H
theorem eqv_looks : ∀ a b : List Lk, PyData.eqvAll (a.map encL) (b.map encL) = decide (a = b)
  | [], [] => rfl
  | [], y :: b => by simp [PyData.eqvAll]
  | x :: a, [] => by simp [PyData.eqvAll]
  | x :: a, y :: b => by
    rw [List.map_cons, List.map_cons, PyData.eqvAll, eqv_look, eqv_looks a b]
    by_cases h1 : x = y <;> by_cases h2 : a = b <;> simp [h1, h2]
def spDEq (Z : Ad) (K : PySem.W.Frag) : Sp := fun vs H Q _ => ∃ (a : Addr) (L : Int) (ls : List Lk) (y : V), vs = [.ref a, y] ∧ DarkAt Z K H a L ls ∧
  ((∃ b L2 ls2, y = .ref b ∧ DarkAt Z K H b L2 ls2 ∧ Q (.bl (decide (L = L2) && decide (ls = ls2))) H) ∨ (((∃ i, y = .int i) ∨ ∃ p xs, y = .ref p ∧ H p = some (.lst xs)) ∧ Q (.bl false) H))
def spDrop (Z : Ad) (K : PySem.W.Frag) : Sp := fun vs H Q _ => ∃ (d : Addr) (L : Int) (ls : List Lk) (l : Lk), vs = [.ref d, .str l.1, .int l.2.1, .int l.2.2] ∧ DarkAt Z K H d L ls ∧ WordOk l.1 ∧ Sized 300 l ∧ home L l ∈ ls ∧
  ∀ H', DarkAt Z K H' d L (ls.filter fun o => !decide (o = home L l)) → (∀ la dx, H' d = some (.ins Z.C dx (df L la)) → H la = none) → (∀ b o, H b = some o → b ≠ d → H' b = some o) → Q .non H'
section
variable {P : Program} {w : World} {K : PySem.W.Frag} {mg : Str → Option Value} {base : Heap} {Z : Ad}
theorem ok_Dark_length (T : Tx K w mg Z) : FnOk P w K mg base CX0 1 Z.a_Dark_length Z.d_Dark_length P_Dark_length (spLen Z K) := by
  refine T.F_Dark_length.ok scDark_length (fun vs H Q E h => ?_) (fun cdv A outer s H vs Q E hr h => ?_)
  · obtain ⟨d, L, ls, rfl, _⟩ := h
    rfl
  · obtain ⟨d, L, ls, rfl, D, k⟩ := h
    obtain ⟨dx, la, xs, h1, h2, h3⟩ := id D.ex
    refine ⟨_, (pss_one (ps_ret (fldK (K := K) (pv 0) rfl))), ?_⟩
    exact ⟨_, rfl, d, Z.C, dx, _, _, rfl, h1, T.cl, T.n_length, df_length _ _, k⟩
theorem ok_Dark_eq (T : Tx K w mg Z) : FnOk P w K mg base CX0 1 Z.a_Dark_eq Z.d_Dark_eq P_Dark_eq (spDEq Z K) := by
  refine T.F_Dark_eq.ok scDark_eq (fun vs H Q E h => ?_) (fun cdv A outer s H vs Q E hr h => ?_)
  · obtain ⟨a, L, ls, y, rfl, _⟩ := h
    rfl
  · obtain ⟨a, L, ls, y, rfl, D, hy⟩ := h
    obtain ⟨dx, la, xs, h1, h2, h3⟩ := id D.ex
    refine ⟨_, (pss_one (ps_ret (pe_and (pe_callB (isiK (K := K)) (by rfl) T.b_isinstance (by decide +kernel) (pa_cons (pv 1) (pa_cons (pe_glob (v := .ref Z.C) rfl T.g_Dark rfl) pa_nil))) (pe_and (pe_cmpR op_eq (fldK (K := K) (pv 0) rfl) (fldK (K := K) (pv 1) rfl) (nomark _)) (pe_one (pe_cmpR (eqDK (K := K) hr.units) (fldK (K := K) (pv 0) rfl) (fldK (K := K) (pv 1) rfl) (nomark _))))))), ?_⟩
    rcases hy with ⟨b, L2, ls2, rfl, D2, k⟩ | ⟨hy, k⟩
    · obtain ⟨dx2, la2, xs2, g1, g2, g3⟩ := id D2.ex
      refine ⟨_, rfl, .ref b, .ref Z.C, _, _, true, rfl, .own _, .base (.ins g1 T.cl T.isi.ha T.isi.hn T.isi.htk T.isi.hm), kit_self _ _, _, rfl, iteT ?_⟩
      refine ⟨_, rfl, a, Z.C, dx, _, _, rfl, h1, T.cl, T.n_length, df_length _ _, _, rfl, b, Z.C, dx2, _, _, rfl, g1, T.cl, T.n_length, df_length _ _, rfl, _, rfl, ?_⟩
      have e0 : decide (V.int L = V.int L2) = decide (L = L2) := by
        by_cases c : L = L2
        · rw [c]; simp
        · rw [decide_eq_false c]; exact decide_eq_false fun e => c (V.int.inj e)
      rw [e0]
      cases c : decide (L = L2) with
      | false =>
        rw [c] at k
        exact iteF k
      | true =>
        rw [c] at k
        have hw1 : ∀ l ∈ ls, WordOk l.1 := fun l hl => (D.ok l hl).1
        have hw2 : ∀ l ∈ ls2, WordOk l.1 := fun l hl => (D2.ok l hl).1
        refine iteT ⟨_, rfl, a, Z.C, dx, _, _, rfl, h1, T.cl, T.n_looks, df_looks _ _, _, rfl, b, Z.C, dx2, _, _, rfl, g1, T.cl, T.n_looks, df_looks _ _, _, _, .lst (SqL.of h2) h3, .lst (SqL.of g2) g3, shaped_looks hw1, shaped_looks hw2, ?_⟩
        have e1 : PyData.eqv (.list (ls.map encL)) (.list (ls2.map encL)) = decide (ls = ls2) := by rw [PyData.eqv, eqv_looks]
        rw [e1]
        exact k
    · rcases hy with ⟨i, rfl⟩ | ⟨p, ys, rfl, hp⟩
      · exact ⟨_, rfl, .int i, .ref Z.C, _, _, false, rfl, .own _, .base (.int i), T.no_int, _, rfl, iteF k⟩
      · exact ⟨_, rfl, .ref p, .ref Z.C, _, _, false, rfl, .own _, .base (.lst hp), T.no_list, _, rfl, iteF k⟩
end
end KA
namespace KA
open PySem PySem.Spec PyProof.Rows L2 DP
/-! ### looks led back -/
def upL (l : Lk) : Lk := ("upto", l.2.2, l.2.1)
def frL (l : Lk) : Lk := ("from", l.2.2 + 1, l.2.1 + 1)
def bkA (l : Lk) : List Lk := if l.1 = "upto" then [] else [upL l]
def bkB (l : Lk) : List Lk := if l.1 = "from" then [] else [frL l]
def bk1 (l : Lk) : List Lk := bkA l ++ bkB l
def bk (ls : List Lk) : List Lk := ls.flatMap bk1
theorem mem_bk {ls : List Lk} {q : Lk} : q ∈ bk ls ↔ ∃ l ∈ ls, (l.1 ≠ "upto" ∧ q = upL l) ∨ (l.1 ≠ "from" ∧ q = frL l) := by
  unfold bk
  rw [List.mem_flatMap]
  refine exists_congr fun l => and_congr_right fun _ => ?_
  unfold bk1 bkA bkB
  rw [List.mem_append]
  by_cases c1 : l.1 = "upto" <;> by_cases c2 : l.1 = "from" <;> simp [c1, c2]
theorem bk_word {ls : List Lk} {q : Lk} (h : q ∈ bk ls) : WordOk q.1 := by
  obtain ⟨l, _, ⟨_, rfl⟩ | ⟨_, rfl⟩⟩ := mem_bk.mp h
  · exact .inr (.inr rfl)
  · exact .inr (.inl rfl)
theorem bk_sized {ls : List Lk} {q : Lk} {n : Nat} (h : q ∈ bk ls) (hs : ∀ l ∈ ls, Sized n l) : Sized (n + 1) q := by
  obtain ⟨l, hl, ⟨_, rfl⟩ | ⟨_, rfl⟩⟩ := mem_bk.mp h
  · exact ⟨lt_up (hs l hl).2 (Nat.le_succ n), lt_up (hs l hl).1 (Nat.le_succ n)⟩
  · have one : ∀ a : Int, a.natAbs < 2 ^ n → (a + 1).natAbs < 2 ^ (n + 1) := fun a ha => by
      have h1 : 1 ≤ 2 ^ n := Nat.one_le_two_pow
      rw [Nat.pow_succ]; omega
    exact ⟨one _ (hs l hl).2, one _ (hs l hl).1⟩
theorem not_upto {x : Str} (h : WordOk x) (n : x ≠ "upto") : onSide "slow" x = true := by
  rcases h with rfl | rfl | rfl
  · decide +kernel
  · decide +kernel
  · exact absurd rfl n
theorem not_from {x : Str} (h : WordOk x) (n : x ≠ "from") : onSide "fast" x = true := by
  rcases h with rfl | rfl | rfl
  · decide +kernel
  · exact absurd rfl n
  · decide +kernel
theorem slow_from {x : Str} (h : onSide "slow" x = true) : x ≠ "upto" := by
  rintro rfl
  exact absurd h (by decide +kernel)
theorem fast_upto {x : Str} (h : onSide "fast" x = true) : x ≠ "from" := by
  rintro rfl
  exact absurd h (by decide +kernel)
theorem bk_slow {ls : List Lk} {q : Lk} (h : q ∈ bk ls) (s : onSide "slow" q.1 = true) : ∃ l ∈ ls, l.1 ≠ "from" ∧ q = frL l := by
  obtain ⟨l, hl, ⟨_, rfl⟩ | ⟨n, rfl⟩⟩ := mem_bk.mp h
  · exact absurd rfl (slow_from s)
  · exact ⟨l, hl, n, rfl⟩
theorem bk_fast {ls : List Lk} {q : Lk} (h : q ∈ bk ls) (s : onSide "fast" q.1 = true) : ∃ l ∈ ls, l.1 ≠ "upto" ∧ q = upL l := by
  obtain ⟨l, hl, ⟨n, rfl⟩ | ⟨_, rfl⟩⟩ := mem_bk.mp h
  · exact ⟨l, hl, n, rfl⟩
  · exact absurd rfl (fast_upto s)
theorem div_le {a L : Int} (hL : 0 < L) : a / L * L ≤ a := by
  have h1 := Int.mul_ediv_add_emod a L
  have h2 := Int.emod_nonneg a (show L ≠ 0 by omega)
  rw [Int.mul_comm] at h1
  omega
theorem le_div {a k L : Int} (hL : 0 < L) (h : k * L ≤ a) : k * L ≤ a / L * L := Int.mul_le_mul_of_nonneg_right ((Int.le_ediv_iff_mul_le hL).mpr h) (Int.le_of_lt hL)
theorem bk_far {L : Int} (hL : 0 < L) {ls : List Lk} (hw : ∀ l ∈ ls, WordOk l.1) (nc : ∀ a ∈ ls, ∀ b ∈ ls, clashB a b L = false) {p q : Lk} (hp : p ∈ bk ls) (hq : q ∈ bk ls) : tooFar p q L = false := by
  cases c : tooFar p q L with
  | false => rfl
  | true =>
    exfalso
    unfold tooFar at c
    rw [Bool.and_eq_true, Bool.and_eq_true, decide_eq_true_eq] at c
    obtain ⟨⟨c1, c2⟩, c3⟩ := c
    obtain ⟨b, hb, nb, rfl⟩ := bk_slow hp c1
    obtain ⟨a, ha, na, rfl⟩ := bk_fast hq c2
    rw [plc_slow] at c3
    have c3' : a.2.1 < b.2.1 + 1 + (a.2.2 - (b.2.2 + 1)) / L * L := c3
    have h1 := div_le (a := a.2.2 - (b.2.2 + 1)) hL
    generalize (a.2.2 - (b.2.2 + 1)) / L = k at c3' h1
    have h2 : (-k) * L ≤ b.2.1 - a.2.1 := by rw [Int.neg_mul]; omega
    have h3 := le_div hL h2
    rw [Int.neg_mul] at h3
    have h4 := nc a ha b hb
    unfold clashB tooFar at h4
    rw [not_upto (hw a ha) na, not_from (hw b hb) nb, Bool.true_and, Bool.true_and, plc_slow, Bool.or_eq_false_iff, decide_eq_false_iff_not] at h4
    exact h4.1 (by omega)
theorem bk_nc {L : Int} (hL : 0 < L) {ls : List Lk} (hw : ∀ l ∈ ls, WordOk l.1) (nc : ∀ a ∈ ls, ∀ b ∈ ls, clashB a b L = false) : ∀ p ∈ bk ls, ∀ q ∈ bk ls, clashB p q L = false := fun p hp q hq => by
  unfold clashB
  rw [bk_far hL hw nc hp hq, bk_far hL hw nc hq hp]; rfl
/-- where the least lands, the greatest of the hand led back comes from -/
theorem bk_in_fast {ls : List Lk} {x L m : Int} (h : IsBest "slow" (sideOf "slow" ls) x L m) : ∃ l ∈ ls, plc "slow" l x L = m ∧ upL l ∈ sideOf "fast" (bk ls) := by
  obtain ⟨⟨l, hl, em⟩, hb⟩ := h
  obtain ⟨hl1, hl2⟩ := mem_side.mp hl
  exact ⟨l, hl1, em, mem_side.mpr ⟨mem_bk.mpr ⟨l, hl1, .inl ⟨slow_from hl2, rfl⟩⟩, show onSide "fast" "upto" = true by decide +kernel⟩⟩
theorem bk_in_slow {ls : List Lk} {x L m : Int} (h : IsBest "fast" (sideOf "fast" ls) x L m) : ∃ l ∈ ls, plc "fast" l x L = m ∧ frL l ∈ sideOf "slow" (bk ls) := by
  obtain ⟨⟨l, hl, em⟩, hb⟩ := h
  obtain ⟨hl1, hl2⟩ := mem_side.mp hl
  exact ⟨l, hl1, em, mem_side.mpr ⟨mem_bk.mpr ⟨l, hl1, .inr ⟨fast_upto hl2, rfl⟩⟩, show onSide "slow" "from" = true by decide +kernel⟩⟩
theorem back_least1 {L : Int} (hL : 0 < L) {ls : List Lk} {x m : Int} (h : IsBest "slow" (sideOf "slow" ls) x L m) {u : V} (tu : Tells "fast" (bk ls) m L u) : ∃ a, u = .int a ∧ a ≤ x := by
  obtain ⟨l, _, em, hin⟩ := bk_in_fast h
  rcases tu with ⟨e, _⟩ | ⟨a, rfl, ba⟩
  · rw [e] at hin; cases hin
  refine ⟨a, rfl, ?_⟩
  have h1 := ba.2 _ hin
  rw [if_neg slow_ne, plc_fast] at h1
  have h1' : a ≤ l.2.1 - (l.2.2 - m) / L * L := h1
  rw [plc_slow] at em
  have e2 : l.2.2 - m = (-((x - l.2.1) / L)) * L := by rw [Int.neg_mul]; omega
  rw [e2, Int.mul_ediv_cancel _ (by omega : L ≠ 0), Int.neg_mul] at h1'
  have := div_le (a := x - l.2.1) hL
  omega
theorem back_least2 {L : Int} (hL : 0 < L) {ls : List Lk} (hw : ∀ l ∈ ls, WordOk l.1) {x m : Int} (h : IsBest "slow" (sideOf "slow" ls) x L m) {v : V} (tv : Tells "fast" (bk ls) (m + 1) L v) : ∃ b, v = .int b ∧ x < b := by
  obtain ⟨l, _, em, hin⟩ := bk_in_fast h
  rcases tv with ⟨e, _⟩ | ⟨b, rfl, bb⟩
  · rw [e] at hin; cases hin
  refine ⟨b, rfl, ?_⟩
  obtain ⟨⟨q, hq, eq⟩, _⟩ := bb
  obtain ⟨hq1, hq2⟩ := mem_side.mp hq
  obtain ⟨l', hl', n', rfl⟩ := bk_fast hq1 hq2
  rw [plc_fast] at eq
  have eq' : l'.2.1 - (l'.2.2 - (m + 1)) / L * L = b := eq
  have h1 := div_le (a := l'.2.2 - (m + 1)) hL
  generalize (l'.2.2 - (m + 1)) / L = k at eq' h1
  rcases Int.lt_or_le x b with z | z
  · exact z
  · exfalso
    have h2 := h.2 l' (mem_side.mpr ⟨hl', not_upto (hw l' hl') n'⟩)
    rw [if_pos rfl, plc_slow] at h2
    have h3 : (-k) * L ≤ x - l'.2.1 := by rw [Int.neg_mul]; omega
    have h4 := le_div hL h3
    rw [Int.neg_mul] at h4
    omega
theorem back_greatest1 {L : Int} (hL : 0 < L) {ls : List Lk} (hw : ∀ l ∈ ls, WordOk l.1) {x m : Int} (h : IsBest "fast" (sideOf "fast" ls) x L m) {u : V} (tu : Tells "slow" (bk ls) m L u) : ∃ a, u = .int a ∧ a ≤ x := by
  obtain ⟨l, _, em, hin⟩ := bk_in_slow h
  rcases tu with ⟨e, _⟩ | ⟨a, rfl, ba⟩
  · rw [e] at hin; cases hin
  refine ⟨a, rfl, ?_⟩
  obtain ⟨⟨q, hq, eq⟩, _⟩ := ba
  obtain ⟨hq1, hq2⟩ := mem_side.mp hq
  obtain ⟨l', hl', n', rfl⟩ := bk_slow hq1 hq2
  rw [plc_slow] at eq
  have eq' : l'.2.1 + 1 + (m - (l'.2.2 + 1)) / L * L = a := eq
  have h1 := div_le (a := m - (l'.2.2 + 1)) hL
  generalize (m - (l'.2.2 + 1)) / L = k at eq' h1
  rcases Int.lt_or_le x a with z | z
  · exfalso
    have h2 := h.2 l' (mem_side.mpr ⟨hl', not_from (hw l' hl') n'⟩)
    rw [if_neg slow_ne, plc_fast] at h2
    have h3 : (-k) * L ≤ l'.2.1 - x := by rw [Int.neg_mul]; omega
    have h4 := le_div hL h3
    rw [Int.neg_mul] at h4
    omega
  · exact z
theorem back_greatest2 {L : Int} (hL : 0 < L) {ls : List Lk} {x m : Int} (h : IsBest "fast" (sideOf "fast" ls) x L m) {v : V} (tv : Tells "slow" (bk ls) (m + 1) L v) : ∃ b, v = .int b ∧ x < b := by
  obtain ⟨l, _, em, hin⟩ := bk_in_slow h
  rcases tv with ⟨e, _⟩ | ⟨b, rfl, bb⟩
  · rw [e] at hin; cases hin
  refine ⟨b, rfl, ?_⟩
  have h1 := bb.2 _ hin
  rw [if_pos rfl, plc_slow] at h1
  have h1' : l.2.1 + 1 + (m + 1 - (l.2.2 + 1)) / L * L ≤ b := h1
  rw [plc_fast] at em
  have e2 : m + 1 - (l.2.2 + 1) = (-((l.2.1 - x) / L)) * L := by rw [Int.neg_mul]; omega
  rw [e2, Int.mul_ediv_cancel _ (by omega : L ≠ 0), Int.neg_mul] at h1'
  have := div_le (a := l.2.1 - x) hL
  omega
def spBack (Z : Ad) (K : PySem.W.Frag) : Sp := fun vs H Q _ => ∃ (d : Addr) (L : Int) (hs : List Lk), vs = [.ref d] ∧ DarkAt Z K H d L hs ∧ (∀ l ∈ hs, Sized 290 l) ∧ (∀ a ∈ hs, ∀ b ∈ hs, clashB a b L = false) ∧ (bk hs).length ≤ 58 ∧
  ∀ (H' : Hp) (b : Addr), H b = none → Same H H' → DarkAt Z K H' b L ((bk hs).foldl (heard L) []) → (∀ la dx, H' b = some (.ins Z.C dx (df L la)) → H la = none) → Q (.ref b) H'
theorem bk_take {ls : List Lk} {i : Nat} {l : Lk} (h : ls[i]? = some l) : bk (ls.take (i + 1)) = bk (ls.take i) ++ bk1 l := by
  rw [take_snoc h]; unfold bk; rw [List.flatMap_append]; simp
theorem bk_pre {ls : List Lk} (i : Nat) : ∃ r, bk ls = bk (ls.take i) ++ r := ⟨bk (ls.drop i), by unfold bk; rw [← List.flatMap_append, List.take_append_drop]⟩
section
variable {P : Program} {w : World} {K : PySem.W.Frag} {mg : Str → Option Value} {base : Heap} {Z : Ad}
theorem ok_Dark_led_back (T : Tx K w mg Z) : FnOk P w K mg base CX0 6 Z.a_Dark_led_back Z.d_Dark_led_back P_Dark_led_back (spBack Z K) := by
  refine T.F_Dark_led_back.ok scDark_led_back (fun vs H Q E h => ?_) (fun cdv A outer s H vs Q E hr h => ?_)
  · obtain ⟨d, L, hs, rfl, _⟩ := h
    rfl
  · obtain ⟨d, L, hs, rfl, D, hsz, hnc, hlen, k⟩ := h
    obtain ⟨dx, la, xs, h1, h2, h3⟩ := id D.ex
    have hL := D.pos
    have hwd : ∀ l ∈ hs, WordOk l.1 := fun l hl => (D.ok l hl).1
    have nc := bk_nc hL hwd hnc
    refine ⟨_, (pss_cons (ps_set (i := 1) scDark_led_back.nd rfl (Or.inl rfl) (pe_make T.mk_Dark (ok_Dark_init T) (hr.mono (by decide)) (by rfl) T.g_Dark T.bb_Dark_init .nil pass0 (pa_cons (fldK (K := K) (pv 0) rfl) pa_nil)))
      (pss_cons (ps_for PassesOwn.never rfl (pi_list (pe_meth0 (pv 0) T.cl T.m_Dark_looks (ok_Dark_looks T) (hr.mono (by decide)) T.bb_Dark_looks .nil pass0)) (tupK (K := K) (by rfl) (pgs_cons (pg_name (i := 2) scDark_led_back.nd rfl (Or.inl rfl)) (pgs_cons (pg_name (i := 3) scDark_led_back.nd rfl (Or.inl rfl)) (pgs_cons (pg_name (i := 4) scDark_led_back.nd rfl (Or.inl rfl)) pgs_nil)))) (C8.pss_cut (ps_if (pt_cmpR op_ne (pv 2) pe_str (nomark _)) (pss_one (ps_expr (pe_meth (pv 1) T.cl T.m_Dark_hear (ok_Dark_hear T) (hr.mono (by decide)) T.bb_Dark_hear .nil pass0 (pa_cons pe_str (pa_cons (pv 4) (pa_cons (pv 3) pa_nil)))))) pss_nil)
      (pss_one (ps_if (pt_cmpR op_ne (pv 2) pe_str (nomark _)) (pss_one (ps_expr (pe_meth (pv 1) T.cl T.m_Dark_hear (ok_Dark_hear T) (hr.mono (by decide)) T.bb_Dark_hear .nil pass0 (pa_cons pe_str (pa_cons (pe_op op_add (pv 4) pe_int) (pa_cons (pe_op op_add (pv 3) pe_int) pa_nil)))))) pss_nil))))
      (pss_one (ps_ret (pv 1))))), ?_⟩
    refine ⟨_, rfl, d, Z.C, dx, _, _, rfl, h1, T.cl, T.n_length, df_length _ _, fun b dxb hbn hbx hne => ?_⟩
    have S0 : Same H (upd (upd H dxb (.own b)) b (.ins Z.C dxb [])) := fun c o e => by
      rw [upd_ne (ne_of_none e hbn), upd_ne (ne_of_none e hbx)]; exact e
    refine ⟨b, dxb, L, rfl, upd_same, hL, D.big, fun H1 D1 f1 k1 => ⟨rfl, ?_⟩⟩
    have S1 : Same H H1 := fun c o e => k1 c o (S0 c o e) (ne_of_none e hbn)
    refine ⟨_, rfl, d, dx, _, rfl, S1 _ _ h1, df_no _ _ (by decide +kernel) (by decide +kernel), d, L, hs, rfl, D.same S1, fun p ys H2 hp S2 hp1 hp2 => ?_⟩
    have hpb : p ≠ b := by
      rintro rfl
      obtain ⟨dx1, la1, vs1, g1, _⟩ := D1.ex
      rw [hp] at g1; cases g1
    have hyl : ys.length = hs.length := by rw [dpAll_len hp2, List.length_map]
    have F2 : ∀ la dx, H2 b = some (.ins Z.C dx (df L la)) → H la = none := fun la2 dx2 e => by
      obtain ⟨dx1, la1, vs1, g1, _⟩ := D1.ex
      have e2 := S2 _ _ g1
      rw [e] at e2
      rw [df_inj e2]
      exact S0.free (f1 la1 dx1 g1)
    obtain ⟨dx1, la1, vs1, g1, _⟩ := id (D1.same S2).ex
    have tups : ∀ {H'}, (∀ c o, H2 c = some o → c ≠ b → H' c = some o) → Tups H2 H' := fun kb c zs hc => by
      have hcb : c ≠ b := by
        rintro rfl
        rcases hc with e | ⟨q, e⟩ <;> rw [g1] at e <;> cases e
      rcases hc with e | ⟨q, e⟩
      · exact .inl (kb _ _ e hcb)
      · exact .inr ⟨q, kb _ _ e hcb⟩
    -- one more is heard
    have one : ∀ {H' : Hp} {pr : List Lk} {q : Lk}, (∀ o ∈ pr, o ∈ bk hs) → q ∈ bk hs → pr.length < 58 → (∀ c o, H2 c = some o → c ≠ b → H' c = some o) → (∀ la dx, H' b = some (.ins Z.C dx (df L la)) → H la = none) →
        (pr.foldl (heard L) []).length < 60 ∧ (∀ o ∈ pr.foldl (heard L) [], clashB (home L q) o L = false) ∧
        ∀ H'', DarkAt Z K H'' b L (heard L (pr.foldl (heard L) []) q) → (∀ la dx, H'' b = some (.ins Z.C dx (df L la)) → (∃ dx', H' b = some (.ins Z.C dx' (df L la))) ∨ H' la = none) → (∀ c o, H' c = some o → c ≠ b → H'' c = some o) →
          (∀ c o, H2 c = some o → c ≠ b → H'' c = some o) ∧ DarkAt Z K H'' b L ((pr ++ [q]).foldl (heard L) []) ∧ ∀ la dx, H'' b = some (.ins Z.C dx (df L la)) → H la = none := by
      intro H' pr q hpr hq hl kb F
      have hfl := fold_len (L := L) pr []
      have S : Same H H' := fun c o e => kb c o ((S1.trans S2) _ _ e) (ne_of_none e hbn)
      refine ⟨by simp at hfl; omega, fun o ho => ?_, fun H'' D'' f'' k'' => ⟨fun c o e hc => k'' c o (kb c o e hc) hc, ?_, fun la dx e => ?_⟩⟩
      · obtain h | ⟨r, hr, e⟩ := (fold_mem _ _ _).mp ho
        · cases h
        · rw [e, clash_home hL]
          exact nc q hq r (hpr r hr)
      · rw [List.foldl_append]; exact D''
      · rcases f'' la dx e with ⟨dx', h⟩ | h
        · exact F la dx' h
        · exact S.free h
    refine ⟨p, rfl, ⟨_, SqL.of hp1⟩, ?_⟩
    refine for_list (K := K) (a := p) (xs := ys) (fun i σ' H' => ∃ u2 u3 u4, σ' = [some (.ref d), some (.ref b), u2, u3, u4] ∧ (∀ c o, H2 c = some o → c ≠ b → H' c = some o) ∧ DarkAt Z K H' b L ((bk (hs.take i)).foldl (heard L) []) ∧ ∀ la dx, H' b = some (.ins Z.C dx (df L la)) → H la = none) ⟨none, none, none, rfl, fun _ _ e _ => e, D1.same S2, F2⟩ (fun i σ' H' _ ⟨_, _, _, _, kb, _⟩ => SqL.of (kb _ _ hp1 hpb)) ?_ ?_
    · rintro i y σ' H' hi ⟨u2, u3, u4, rfl, kb, DD, F⟩
      obtain ⟨e, hdi, hdy⟩ := dpAll_get hp2 hi
      obtain ⟨l, hl, rfl⟩ := map_at hdi
      have hlm := List.mem_of_getElem? hl
      obtain ⟨pp, rfl, hpp⟩ := dp_look (dp_tups (tups kb) _ _ rfl hdy)
      obtain ⟨r, er⟩ := bk_pre (ls := hs) (i + 1)
      have tk := bk_take hl
      rw [tk] at er
      have inA : ∀ o ∈ bk (hs.take i) ++ bkA l, o ∈ bk hs := fun o ho => by
        rw [er]
        unfold bk1
        simp only [List.mem_append] at ho ⊢
        rcases ho with h | h
        · exact .inl (.inl h)
        · exact .inl (.inr (.inl h))
      have lenA : (bk (hs.take i)).length + (bkA l).length + (bkB l).length ≤ 58 := by
        rw [er] at hlen
        unfold bk1 at hlen
        simp only [List.length_append] at hlen
        omega
      refine ⟨_, _, rfl, hpp, rfl, _, _, rfl, _, _, rfl, _, _, rfl, rfl, ?_⟩
      refine ⟨fun σ' H' => σ' = [some (.ref d), some (.ref b), some (.str l.1), some (.int l.2.1), some (.int l.2.2)] ∧ (∀ c o, H2 c = some o → c ≠ b → H' c = some o) ∧ DarkAt Z K H' b L ((bk (hs.take i) ++ bkA l).foldl (heard L) []) ∧ ∀ la dx, H' b = some (.ins Z.C dx (df L la)) → H la = none, ?_, ?_⟩
      · refine ⟨_, rfl, rfl, _, rfl, ?_⟩
        by_cases c : l.1 = "upto"
        · have e1 : bkA l = [] := if_pos c
          rw [e1, List.append_nil]
          have e2 : (!decide (V.str l.1 = V.str "upto")) = false := by rw [c]; simp
          rw [e2]
          exact iteF ⟨rfl, kb, DD, F⟩
        · have e1 : bkA l = [upL l] := if_neg c
          rw [e1]
          rw [e1] at inA lenA
          have e2 : (!decide (V.str l.1 = V.str "upto")) = true := by
            rw [Bool.not_eq_true', decide_eq_false_iff_not]
            exact fun e => c (V.str.inj e)
          rw [e2]
          obtain ⟨dxq, laq, vsq, gq, _⟩ := id DD.ex
          refine iteT ⟨_, rfl, b, dxq, _, rfl, gq, df_no _ _ (by decide +kernel) (by decide +kernel), _, rfl, _, rfl, ?_⟩
          have hq : upL l ∈ bk hs := inA _ (by simp)
          obtain ⟨o1, o2, o3⟩ := one (q := upL l) (fun o ho => inA o (List.mem_append_left _ ho)) hq (by simp at lenA; omega) kb F
          refine ⟨b, L, _, upL l, rfl, DD, bk_word hq, (bk_sized hq hsz).up (by decide), o1, o2, fun H'' D'' f'' k'' => ?_⟩
          obtain ⟨x1, x2, x3⟩ := o3 H'' D'' f'' k''
          exact ⟨rfl, x1, x2, x3⟩
      · rintro σ' H3 ⟨rfl, kb3, D3, F3⟩
        refine ⟨_, rfl, rfl, _, rfl, ?_⟩
        by_cases c : l.1 = "from"
        · have e1 : bkB l = [] := if_pos c
          have e2 : (!decide (V.str l.1 = V.str "from")) = false := by rw [c]; simp
          rw [e2]
          refine iteF ⟨_, _, _, rfl, kb3, ?_, F3⟩
          rw [tk]
          unfold bk1
          rw [e1, List.append_nil]; exact D3
        · have e1 : bkB l = [frL l] := if_neg c
          rw [e1] at lenA
          have e2 : (!decide (V.str l.1 = V.str "from")) = true := by
            rw [Bool.not_eq_true', decide_eq_false_iff_not]
            exact fun e => c (V.str.inj e)
          rw [e2]
          obtain ⟨dxq, laq, vsq, gq, _⟩ := id D3.ex
          refine iteT ⟨_, rfl, b, dxq, _, rfl, gq, df_no _ _ (by decide +kernel) (by decide +kernel), _, rfl, _, _, rfl, rfl, _, rfl, _, _, rfl, rfl, ?_⟩
          have hq : frL l ∈ bk hs := mem_bk.mpr ⟨l, hlm, .inr ⟨c, rfl⟩⟩
          obtain ⟨o1, o2, o3⟩ := one (q := frL l) inA hq (by simp at lenA ⊢; omega) kb3 F3
          refine ⟨b, L, _, frL l, rfl, D3, bk_word hq, (bk_sized hq hsz).up (by decide), o1, o2, fun H'' D'' f'' k'' => ?_⟩
          obtain ⟨x1, x2, x3⟩ := o3 H'' D'' f'' k''
          refine ⟨_, _, _, rfl, x1, ?_, x3⟩
          rw [tk]
          unfold bk1
          rw [e1, ← List.append_assoc]; exact x2
    · rintro σ' H' ⟨u2, u3, u4, rfl, kb, DD, F⟩
      rw [List.take_of_length_le (by rw [hyl]; exact Nat.le_refl _)] at DD
      exact ⟨_, rfl, k H' b hbn (fun c o e => kb c o ((S1.trans S2) _ _ e) (ne_of_none e hbn)) DD F⟩
end
end KA
namespace KA
open PySem PySem.Spec PyProof.Rows L2 DP
def spNo : Sp := fun _ _ _ _ => False
def spFig0 : Sp := fun vs H Q _ => ∃ n : Int, vs = [.int n] ∧ 0 ≤ n ∧ n.natAbs < 10 ^ 60 ∧ ∀ H', Same H H' → Q (.str (numT n)) H'
def spFig : Sp := fun vs H Q _ => ∃ n : Int, vs = [.int n] ∧ n.natAbs < 10 ^ 60 ∧ ∀ H', Same H H' → Q (.str (numT n)) H'
theorem join_one (a : Str) : Txt.join ("" : Str) [a].reverse = a := by
  show Txt.join ("" : Str) [a] = a
  rw [TL.join_eq]; rfl
section
variable {P : Program} {w : World} {K : PySem.W.Frag} {mg : Str → Option Value} {base : Heap} {Z : Ad}
theorem ok_figuresN (T : Tx K w mg Z) : FnOk P w K mg base CX0 1 Z.a_figures Z.d_figures P_figures spNo := by
  refine T.F_figures.ok scfigures (fun vs H Q E h => ?_) (fun cdv A outer s H vs Q E hr h => ?_)
  · exact False.elim h
  · exact False.elim h
theorem fig_body {σ : L2.St} {H : Hp} {n : Int} (h0 : 0 ≤ n) (hn : n.natAbs < 10 ^ 60) : (10 : Int) ^ (60 : Int).toNat = 10 ^ 60 ∧ ¬ n ≥ (10 : Int) ^ (60 : Int).toNat := by
  have e : (10 : Int) ^ (60 : Int).toNat = 10 ^ 60 := rfl
  refine ⟨e, ?_⟩
  rw [e]
  omega
theorem ok_figures0 (T : Tx K w mg Z) : FnOk P w K mg base CX0 2 Z.a_figures Z.d_figures P_figures spFig0 := by
  have ih := ok_figuresN (P := P) (base := base) T
  refine T.F_figures.ok scfigures (fun vs H Q E h => ?_) (fun cdv A outer s H vs Q E hr h => ?_)
  · obtain ⟨n, rfl, _⟩ := h
    rfl
  · obtain ⟨n, rfl, h0, hn, k⟩ := h
    refine ⟨_, (C8.pss_cut (ps_if (pt_cmpR op_lt (pv 0) pe_int (nomark _)) (pss_one (ps_ret (pe_op op_add_str pe_str (pe_call ih hr (by rfl) T.g_figures T.F_figures.kp T.bb_figures .nil pass0 (pa_cons (pe_un un_neg (pv 0)) pa_nil))))) pss_nil)
      (pss_cons (ps_set (i := 1) scfigures.nd rfl (Or.inl rfl) (pe_lst pa_nil))
      (C8.pss_cut (ps_while PassesOwn.never (pt_cmpR op_ge (pv 0) (pe_op op_pow pe_int pe_int) (nomark _)) (pss_cons (ps_expr (pe_bm PySem.F.plainAttrs_list PySem.F.slot_list_append PySem.F.type_list_append mt_append (pv 1) (pa_cons (pe_m1 PySem.F.slot_str_zfill PySem.F.type_str_zfill mt_zfill (pe_callTy call_str_int (by rfl) T.b_str (by decide +kernel) (pa_cons (pe_op op_mod (pv 0) (pe_op op_pow pe_int pe_int)) pa_nil)) pe_int) pa_nil)))
      (pss_one (ps_set (i := 0) scfigures.nd rfl (Or.inl rfl) (pe_op op_fdivW (pv 0) (pe_op op_pow pe_int pe_int))))))
      (pss_cons (ps_expr (pe_bm PySem.F.plainAttrs_list PySem.F.slot_list_append PySem.F.type_list_append mt_append (pv 1) (pa_cons (pe_callTy call_str_int (by rfl) T.b_str (by decide +kernel) (pa_cons (pv 0) pa_nil)) pa_nil)))
      (pss_one (ps_ret (pe_joinRev (K := K) rfl pe_str (by rfl) T.b_reversed (pv 1)))))))), ?_⟩
    refine ⟨fun σ' H' => σ' = [some (.int n), none] ∧ H' = H, ?_, ?_⟩
    · refine ⟨_, rfl, _, _, rfl, rfl, _, rfl, ite2 (fun c => ?_) (fun _ => ⟨rfl, rfl⟩)⟩
      exact absurd (of_decide_eq_true c) (by omega)
    rintro σ1 H1 ⟨rfl, rfl⟩
    refine ⟨(by show 0 ≤ sizeLine; decide), fun B hB => ?_⟩
    have SB := same_upd (o := HO.lst []) hB
    have gB : (upd H1 B (.lst [])) B = some (.lst []) := upd_same
    generalize upd H1 B (.lst []) = H2 at SB gB ⊢
    refine ⟨fun σ' H' => σ' = [some (.int n), some (.ref B)] ∧ H' = H2, ?_, ?_⟩
    · refine while_post (fun σ' H' => σ' = [some (.int n), some (.ref B)] ∧ H' = H2) (fun _ _ => 0) (fun σ' H' => σ' = [some (.int n), some (.ref B)] ∧ H' = H2) ⟨rfl, rfl⟩ ?_ (fun _ _ q => q) ?_
      · rintro σ' H' ⟨rfl, rfl⟩
        refine ⟨_, rfl, _, _, rfl, rfl, ⟨by decide, by decide, by decide⟩, _, _, rfl, rfl, _, rfl, ?_⟩
        refine ite2 (fun c => ?_) (fun _ => ⟨rfl, rfl⟩)
        exact absurd (of_decide_eq_true c) (fig_body (σ := []) (H := H') h0 hn).2
      · rintro σ' H' Q1 Q2 hQ ⟨v, hv, i, j, e1, e2, hp, a, b, e3, e4, k1, ek, q⟩
        exact ⟨v, hv, i, j, e1, e2, hp, a, b, e3, e4, k1, ek, hQ _ _ q⟩
    rintro σ2 H3 ⟨rfl, rfl⟩
    refine ⟨_, rfl, .inl ⟨rfl, _, SqL.of gB⟩, _, rfl, n, rfl, log_small hn, B, [], _, rfl, rfl, gB, small1000 (by simp), ?_⟩
    refine ⟨⟨_, rfl⟩, _, rfl, ("" : Str), B, [numT n], rfl, rfl, SqL.of upd_same, ?_, ?_⟩
    · have := numT_len hn
      have e0 : (Str.ofString "").length = 0 := rfl
      simp
      omega
    rw [join_one]
    exact k _ (same_set SB hB)
theorem ok_figures (T : Tx K w mg Z) : FnOk P w K mg base CX0 3 Z.a_figures Z.d_figures P_figures spFig := by
  have ih := ok_figures0 (P := P) (base := base) T
  refine T.F_figures.ok scfigures (fun vs H Q E h => ?_) (fun cdv A outer s H vs Q E hr h => ?_)
  · obtain ⟨n, rfl, _⟩ := h
    rfl
  · obtain ⟨n, rfl, hn, k⟩ := h
    refine ⟨_, (C8.pss_cut (ps_if (pt_cmpR op_lt (pv 0) pe_int (nomark _)) (pss_one (ps_ret (pe_op op_add_str pe_str (pe_call ih hr (by rfl) T.g_figures T.F_figures.kp T.bb_figures .nil pass0 (pa_cons (pe_un un_neg (pv 0)) pa_nil))))) pss_nil)
      (pss_cons (ps_set (i := 1) scfigures.nd rfl (Or.inl rfl) (pe_lst pa_nil))
      (C8.pss_cut (ps_while PassesOwn.never (pt_cmpR op_ge (pv 0) (pe_op op_pow pe_int pe_int) (nomark _)) (pss_cons (ps_expr (pe_bm PySem.F.plainAttrs_list PySem.F.slot_list_append PySem.F.type_list_append mt_append (pv 1) (pa_cons (pe_m1 PySem.F.slot_str_zfill PySem.F.type_str_zfill mt_zfill (pe_callTy call_str_int (by rfl) T.b_str (by decide +kernel) (pa_cons (pe_op op_mod (pv 0) (pe_op op_pow pe_int pe_int)) pa_nil)) pe_int) pa_nil)))
      (pss_one (ps_set (i := 0) scfigures.nd rfl (Or.inl rfl) (pe_op op_fdivW (pv 0) (pe_op op_pow pe_int pe_int))))))
      (pss_cons (ps_expr (pe_bm PySem.F.plainAttrs_list PySem.F.slot_list_append PySem.F.type_list_append mt_append (pv 1) (pa_cons (pe_callTy call_str_int (by rfl) T.b_str (by decide +kernel) (pa_cons (pv 0) pa_nil)) pa_nil)))
      (pss_one (ps_ret (pe_joinRev (K := K) rfl pe_str (by rfl) T.b_reversed (pv 1)))))))), ?_⟩
    refine ⟨fun σ' H' => σ' = [some (.int n), none] ∧ H' = H ∧ 0 ≤ n, ?_, ?_⟩
    · refine ⟨_, rfl, _, _, rfl, rfl, _, rfl, ite2 (fun c => ?_) (fun c => ⟨rfl, rfl, ?_⟩)⟩
      · have c1 : n < 0 := of_decide_eq_true c
        refine ⟨_, rfl, _, rfl, -n, rfl, by omega, by rw [Int.natAbs_neg]; exact hn, fun H' S => ⟨_, _, rfl, rfl, ?_, ?_⟩⟩
        · have h1 := numT_len (n := -n) (by rw [Int.natAbs_neg]; exact hn)
          have h2 := minus_len
          rw [h2]
          exact Nat.le_trans (by omega : _ ≤ 100) (by decide)
        · rw [neg_text c1]
          exact k _ S
      · have : ¬ n < 0 := fun e => c (decide_eq_true e)
        omega
    rintro σ1 H1 ⟨rfl, rfl, h0⟩
    refine ⟨(by show 0 ≤ sizeLine; decide), fun B hB => ?_⟩
    have SB := same_upd (o := HO.lst []) hB
    have gB : (upd H1 B (.lst [])) B = some (.lst []) := upd_same
    generalize upd H1 B (.lst []) = H2 at SB gB ⊢
    refine ⟨fun σ' H' => σ' = [some (.int n), some (.ref B)] ∧ H' = H2, ?_, ?_⟩
    · refine while_post (fun σ' H' => σ' = [some (.int n), some (.ref B)] ∧ H' = H2) (fun _ _ => 0) (fun σ' H' => σ' = [some (.int n), some (.ref B)] ∧ H' = H2) ⟨rfl, rfl⟩ ?_ (fun _ _ q => q) ?_
      · rintro σ' H' ⟨rfl, rfl⟩
        refine ⟨_, rfl, _, _, rfl, rfl, ⟨by decide, by decide, by decide⟩, _, _, rfl, rfl, _, rfl, ?_⟩
        refine ite2 (fun c => ?_) (fun _ => ⟨rfl, rfl⟩)
        exact absurd (of_decide_eq_true c) (fig_body (σ := []) (H := H') h0 hn).2
      · rintro σ' H' Q1 Q2 hQ ⟨v, hv, i, j, e1, e2, hp, a, b, e3, e4, k1, ek, q⟩
        exact ⟨v, hv, i, j, e1, e2, hp, a, b, e3, e4, k1, ek, hQ _ _ q⟩
    rintro σ2 H3 ⟨rfl, rfl⟩
    refine ⟨_, rfl, .inl ⟨rfl, _, SqL.of gB⟩, _, rfl, n, rfl, log_small hn, B, [], _, rfl, rfl, gB, small1000 (by simp), ?_⟩
    refine ⟨⟨_, rfl⟩, _, rfl, ("" : Str), B, [numT n], rfl, rfl, SqL.of upd_same, ?_, ?_⟩
    · have := numT_len hn
      have e0 : (Str.ofString "").length = 0 := rfl
      simp
      omega
    rw [join_one]
    exact k _ (same_set SB hB)
end
end KA
namespace KA
open PySem PySem.Spec PyProof.Rows L2 DP
theorem allK {X : Cx} {K : PySem.W.Frag} (hc : X.calm = true) (h : X.K = K := by rfl) : CallR X (.builtin "all") (rAll K) := by subst h; exact cr_all hc
def spShowLook (K : PySem.W.Frag) : Sp := fun vs H Q _ => ∃ (p : Addr) (l : Lk), vs = [.ref p] ∧ SqT K H p [.str l.1, .int l.2.1, .int l.2.2] ∧ WordOk l.1 ∧ Small l ∧ ∀ H', Same H H' → Q (.str (lookT l)) H'
def spNumOf : Sp := fun vs H Q _ => ∃ n : Int, vs = [.str (numT n)] ∧ n.natAbs < 10 ^ 60 ∧ ∀ H', Same H H' → Q (.int n) H'
def spStepOf : Sp := fun vs H Q _ => ∃ x y : Int, vs = [.str (stepT x y)] ∧ x.natAbs < 10 ^ 60 ∧ y.natAbs < 10 ^ 60 ∧ ∀ (H' : Hp) (q : Addr), Same H H' → H q = none → H' q = some (.tup [.int x, .int y]) → Q (.ref q) H'
def spLookOf : Sp := fun vs H Q _ => ∃ l : Lk, vs = [.str (lookT l)] ∧ WordOk l.1 ∧ Small l ∧ ∀ (H' : Hp) (q : Addr), Same H H' → H q = none → H' q = some (.tup [.str l.1, .int l.2.1, .int l.2.2]) → Q (.ref q) H'
theorem sign_in {c : Nat} (h : 48 ≤ c ∧ c ≤ 57) : decide (c ∈ ("0123456789" : Str).cps.toList) = true := by
  have : ∀ d : Nat, d < 10 → decide (48 + d ∈ ("0123456789" : Str).cps.toList) = true := by decide +kernel
  have e := this (c - 48) (by omega)
  rwa [show 48 + (c - 48) = c by omega] at e
section
variable {P : Program} {w : World} {K : PySem.W.Frag} {mg : Str → Option Value} {base : Heap} {Z : Ad}
theorem ok_number_of (T : Tx K w mg Z) : FnOk P w K mg base CX0 1 Z.a_number_of Z.d_number_of P_number_of (spNumOf) := by
  refine T.F_number_of.ok scnumber_of (fun vs H Q E h => ?_) (fun cdv A outer s H vs Q E hr h => ?_)
  · obtain ⟨n, rfl, _⟩ := h
    rfl
  · obtain ⟨n, rfl, hn, k⟩ := h
    refine ⟨_, (pss_cons (ps_set (i := 1) scnumber_of.nd rfl (Or.inl rfl) (pe_m1 PySem.F.slot_str_removeprefix PySem.F.type_str_removeprefix mt_removeprefix (pv 0) pe_str))
      (C8.pss_cut (ps_if (PW.pt (pw_or (pt_not (pt_chain op_le op_le pe_int (pe_callB call_len_str (by rfl) T.b_len (by decide +kernel) (pa_cons (pv 1) pa_nil)) (pe_glob rfl T.g_MOST_FIGURES T.r_MOST_FIGURES))) (pw_or1 (pt_not (pt_val (pe_callB (allK (K := K) rfl) (by rfl) T.b_all (by decide +kernel) (pa_cons (pe_lc (own := [("sign", 2)]) (g := gName 2) (tt := tYes) rfl scnumber_of.nd (pi_str (pv 1)) (blkOk_by (own := [("sign", 2)]) (N := N_number_of) (sc := defScope snumber_of) (by decide +kernel)) (fun _ _ _ _ _ => (pg_name (i := 2) scnumber_of.nd rfl (Or.inl rfl))) (fun _ _ _ _ _ => pts_nil) (fun _ _ _ _ _ => (pe_cmpR op_in_sign (pv 2) (pe_glob rfl T.g_FIGURES T.r_FIGURES) (by rfl)))) pa_nil))))))) (pss_one (ps_ret pe_non)) pss_nil)
      (pss_cons (ps_set (i := 3) scnumber_of.nd rfl (Or.inl rfl) (pe_callTy call_int_str (by rfl) T.b_int (by decide +kernel) (pa_cons (pv 0) pa_nil)))
      (pss_one (ps_ret (pe_ifExp (pt_cmpR op_eq (pe_callTy call_str_int (by rfl) T.b_str (by decide +kernel) (pa_cons (pv 3) pa_nil)) (pv 0) (nomark _)) (pv 3) pe_non)))))), ?_⟩
    have b2 := numT_len hn
    have b5 := TL.numL_len (n := n.natAbs) (k := 60) (by decide) hn
    have big : ∀ {m : Nat}, m ≤ 1000 → m ≤ sizeLine := fun {m} h => Nat.le_of_lt (small1000 h)
    refine ⟨_, rfl, ⟨_, rfl⟩, _, _, rfl, rfl, big (by omega), ?_⟩
    have hf := numT_rm n
    obtain ⟨f, ef⟩ : ∃ f, f = Txt.removeprefix (numT n) "-" := ⟨_, rfl⟩
    rw [← ef] at hf
    have hfl : f.length = (TL.numL n.natAbs).length := by rw [TL.len_tl, hf]
    have hf1 : 1 ≤ f.length := by
      rw [hfl]
      exact List.length_pos_iff.mpr (TL.numL_ne _)
    refine ⟨fun σ' H' => σ' = [some (.str (numT n)), some (.str f), none, none] ∧ Same H H', ?_, ?_⟩
    · rw [← ef]
      refine ⟨_, rfl, f, rfl, big (by omega), _, _, rfl, rfl, _, rfl, ?_⟩
      rw [decide_eq_true (by omega : (1 : Int) ≤ (f.length : Int))]
      refine iteT ⟨_, _, rfl, rfl, _, rfl, ?_⟩
      rw [decide_eq_true (by omega : (f.length : Int) ≤ 60)]
      refine iteF ⟨_, rfl, f, rfl, fun D hD => ?_⟩
      refine lc_it (walk_str (z := f)) (fun i H' => Same H H' ∧ H' D = some (.lst ((List.replicate i true).map V.bl))) ⟨same_upd hD, upd_same⟩ (fun _ _ _ _ => trivial) ?_ ?_
      · rintro i x H1 H1' hi ⟨S1, gD⟩ ⟨rfl, c, hc, rfl⟩
        have hcm : c ∈ TL.numL n.natAbs := by
          rw [← hf]
          exact Array.mem_toList_iff.mpr (Array.mem_of_getElem? hc)
        have hcd := TL.numL_digits _ c hcm
        have hi2 : i < f.length := hi
        refine ⟨rfl, yes_ite ?_⟩
        refine ⟨_, rfl, c, _, rfl, rfl, ?_⟩
        rw [sign_in hcd]
        refine ⟨_, gD, small1000 (by simp; omega), same_set S1 hD, ?_⟩
        rw [upd_same, List.replicate_succ', List.map_append]; rfl
      rintro H1 ⟨S1, gD⟩
      refine ⟨D, _, rfl, SqL.of gD, ?_⟩
      rw [show (List.replicate f.cps.size true).all id = true by rw [List.all_eq_true]; intro x hx; rw [List.mem_replicate] at hx; rw [hx.2]; rfl]
      exact ⟨_, rfl, iteF ⟨rfl, S1⟩⟩
    rintro σ1 H1 ⟨rfl, S1⟩
    refine ⟨_, rfl, numT n, n, rfl, numT_int hn, by omega, ?_⟩
    refine ⟨_, rfl, n, rfl, log_small hn, _, rfl, rfl, _, rfl, ite2 (fun _ => ⟨_, rfl, k _ S1⟩) (fun c => absurd ?_ c)⟩
    exact decide_eq_true rfl
theorem ok_step_of (T : Tx K w mg Z) : FnOk P w K mg base CX0 2 Z.a_step_of Z.d_step_of P_step_of (spStepOf) := by
  refine T.F_step_of.ok scstep_of (fun vs H Q E h => ?_) (fun cdv A outer s H vs Q E hr h => ?_)
  · obtain ⟨x, y, rfl, _⟩ := h
    rfl
  · obtain ⟨x, y, rfl, hx, hy, k⟩ := h
    refine ⟨_, (pss_cons (ps_setLc (i := 1) (own := [("word", 2)]) (g := gName 2) (tt := tYes) rfl scstep_of.nd rfl rfl (sw_true rfl rfl rfl (by decide +kernel)) (pi_list (pe_m1 PySem.F.slot_str_split PySem.F.type_str_split mt_split (pv 0) pe_str)) (blkOk_by (own := [("word", 2)]) (N := N_step_of) (sc := defScope sstep_of) (by decide +kernel)) (fun _ _ _ _ _ => (pg_name (i := 2) scstep_of.nd rfl (Or.inl rfl))) (fun _ _ _ _ _ => pts_nil) (fun _ _ _ _ _ => (pe_call (ok_number_of T) (hr.mono (by decide)) (by rfl) T.g_number_of T.F_number_of.kp T.bb_number_of .nil pass0 (pa_cons (pv 2) pa_nil))))
      (pss_one (ps_ret (pe_ifExp (PW.pt (pw_or (pt_cmpR op_ne (pe_callB (lenK (K := K)) (by rfl) T.b_len (by decide +kernel) (pa_cons (pv 1) pa_nil)) pe_int (nomark _)) (pw_or1 (pt_cmpR (inS (K := K)) pe_non (pv 1) (by rfl))))) pe_non (pe_callTy call_tuple_of (by rfl) T.b_tuple (by decide +kernel) (pa_cons (pv 1) pa_nil)))))), ?_⟩
    have hl := stepT_len hx hy
    refine ⟨_, rfl, ⟨_, rfl⟩, _, _, rfl, rfl, by decide +kernel, Nat.le_of_lt (small1000 (by omega)), fun p hp => ?_⟩
    rw [step_split]
    have Sp := same_upd (o := HO.lst (([numT x, numT y] : List Str).map V.str)) hp
    have gp : (upd H p (.lst (([numT x, numT y] : List Str).map V.str))) p = some (.lst [V.str (numT x), .str (numT y)]) := upd_same
    generalize upd H p (.lst (([numT x, numT y] : List Str).map V.str)) = H1 at Sp gp ⊢
    refine ⟨p, rfl, ⟨_, SqL.of gp⟩, fun D hD => ?_⟩
    refine lc_list (K := K) (a := p) (xs := [V.str (numT x), .str (numT y)]) (fun i H' => Same H1 H' ∧ H' D = some (.lst (([x, y].take i).map V.int))) ⟨same_upd hD, upd_same⟩ (fun i H' _ ⟨S, _⟩ => SqL.of (S _ _ gp)) ?_ ?_
    · rintro i v H2 hi ⟨S2, gD⟩
      obtain ⟨z, hz, rfl, hzb⟩ : ∃ z : Int, [x, y][i]? = some z ∧ v = .str (numT z) ∧ z.natAbs < 10 ^ 60 := by
        have hi2 : i < 2 := (List.getElem?_eq_some_iff.mp hi).1
        have : i = 0 ∨ i = 1 := by omega
        rcases this with rfl | rfl
        · exact ⟨x, rfl, (Option.some.inj hi).symm, hx⟩
        · exact ⟨y, rfl, (Option.some.inj hi).symm, hy⟩
      refine ⟨rfl, yes_ite ?_⟩
      refine ⟨_, rfl, z, rfl, hzb, fun H3 S3 => ⟨_, S3 _ _ gD, small1000 (by simp; omega), same_set (S2.trans S3) hD, ?_⟩⟩
      rw [take_snoc hz, List.map_append]
      exact upd_same
    rintro H2 ⟨S2, gD⟩
    have gD' : H2 D = some (.lst [V.int x, .int y]) := gD
    refine ⟨_, rfl, D, _, rfl, .inl (SqL.of gD'), rfl, _, rfl, iteF ⟨_, rfl, D, _, rfl, .inl (SqL.of gD'), rfl, rfl, _, rfl, iteF ?_⟩⟩
    refine ⟨_, rfl, D, _, rfl, .inl ⟨SqL.of gD', fun q hq => ?_⟩⟩
    have S3 := Sp.trans S2
    exact k _ q (S3.trans (same_upd hq)) (S3.free hq) upd_same
end
end KA
namespace KA
open PySem PySem.Spec PyProof.Rows L2 DP
/-! ### a hand that is told -/
def heardAll (L : Int) (ls : List Lk) : List Lk := ls.foldl (heard L) []
theorem heardAll_mem {L : Int} {ls : List Lk} (o : Lk) : o ∈ heardAll L ls ↔ ∃ l ∈ ls, o = home L l := by
  unfold heardAll
  exact (fold_mem ls [] o).trans (by simp)
theorem same_made {H : Hp} {d dx : Addr} {o : HO} (hdn : H d = none) (hdx : H dx = none) : Same H (upd (upd H dx (.own d)) d o) := fun b o e => by
  rw [upd_ne (ne_of_none e hdn), upd_ne (ne_of_none e hdx)]; exact e
/-- all stands but one object -/
def Out (d : Addr) (H H' : Hp) : Prop := ∀ c o, H c = some o → c ≠ d → H' c = some o
theorem Out.tups {d C dx : Addr} {fs : List (Str × V)} {H H' : Hp} (k : Out d H H') (h : H d = some (.ins C dx fs)) : Tups H H' := fun c zs hc => by
  have hcb : c ≠ d := by
    rintro rfl
    rcases hc with e | ⟨q, e⟩ <;> rw [h] at e <;> cases e
  rcases hc with e | ⟨q, e⟩
  · exact .inl (k _ _ e hcb)
  · exact .inr ⟨q, k _ _ e hcb⟩
theorem Out.dark {Z : Ad} {K : PySem.W.Frag} {H H' : Hp} {d e C dx : Addr} {fs : List (Str × V)} {L : Int} {ls : List Lk} (k : Out d H H') (D : DarkAt Z K H e L ls) (h : H d = some (.ins C dx fs)) (hne : e ≠ d) : DarkAt Z K H' e L ls := by
  obtain ⟨dx2, la, vs, h1, h2, h3⟩ := D.ex
  exact ⟨⟨dx2, la, vs, k _ _ h1 hne, k _ _ h2 (fun q => by rw [q, h] at h2; cases h2), dpAll_tups (k.tups h) _ _ (noLs_map noL_encL ls) h3⟩, D.pos, D.big, D.ok, D.len⟩
theorem Out.sqL {K : PySem.W.Frag} {H H' : Hp} {d C dx p : Addr} {fs : List (Str × V)} {xs : List V} (k : Out d H H') (h : H d = some (.ins C dx fs)) (q : SqL K H p xs) : SqL K H' p xs := by
  rcases q with q | q
  · have hp : p ≠ d := by
      rintro rfl
      rcases q with e | ⟨z, e⟩ <;> rw [h] at e <;> cases e
    rcases q with e | ⟨z, e⟩
    · exact .inl (.inl (k _ _ e hp))
    · exact .inl (.inr ⟨z, k _ _ e hp⟩)
  · exact .inr q
def SzP (n : Nat) (s : Pr) : Prop := s.1.natAbs < 2 ^ n ∧ s.2.natAbs < 2 ^ n
/-- the steps as looks; led back -/
def fr1 (s : Pr) : Lk := ("from", s.1, s.2)
def up1 (s : Pr) : Lk := ("upto", s.2, s.1)
def frs (ss : List Pr) : List Lk := ss.map fr1
def ups (ss : List Pr) : List Lk := ss.map up1
theorem clash_from {L : Int} {a b : Lk} (ha : a.1 = "from") (hb : b.1 = "from") : clashB a b L = false := by
  have h : onSide "fast" "from" = false := by decide +kernel
  unfold clashB tooFar
  rw [ha, hb, h]; simp
theorem bk_len (ls : List Lk) : (bk ls).length ≤ 2 * ls.length := by
  induction ls with
  | nil => simp [bk]
  | cons l ls ih =>
    have e : bk (l :: ls) = bk1 l ++ bk ls := by simp [bk]
    have h1 : (bk1 l).length ≤ 2 := by
      unfold bk1 bkA bkB
      split <;> split <;> simp
    rw [e, List.length_append, List.length_cons]
    omega
theorem home_sz {n : Nat} {L : Int} {l : Lk} (h : 0 < L) (hb : L.natAbs < 2 ^ 200) (hn : 200 ≤ n) (hl : Sized n l) : Sized (n + 2) (home L l) := by
  have h0 := emod_small (x := l.2.1) h hb
  refine ⟨lt_up h0 (by omega), ?_⟩
  show (l.2.2 - l.2.1 / L * L).natAbs < 2 ^ (n + 2)
  have e : l.2.2 - l.2.1 / L * L = l.2.2 + ((l.2.1 - l.2.1 / L * L) - l.2.1) := by omega
  rw [e]
  have h1 : ((l.2.1 - l.2.1 / L * L) - l.2.1).natAbs < 2 ^ (n + 1) := sub_lt (lt_up h0 hn) hl.1
  exact add_lt (lt_up hl.2 (by omega)) h1
/-- a hand's fields -/
def hf (d b : Addr) : List (Str × V) := [("_dark", .ref d), ("_back", .ref b)]
theorem hf_dark (d b : Addr) : (hf d b).lookup ("_dark" : Str) = some (.ref d) := by simp [hf, List.lookup]
theorem hf_back (d b : Addr) : (hf d b).lookup ("_back" : Str) = some (.ref b) := by
  have h : (("_back" : Str) == ("_dark" : Str)) = false := by decide +kernel
  simp [hf, List.lookup, h]
theorem hf_no (d b : Addr) {m : Str} (h1 : (m == ("_dark" : Str)) = false) (h2 : (m == ("_back" : Str)) = false) : (hf d b).lookup m = none := by simp [hf, List.lookup, h1, h2]
theorem hf_put1 (d : Addr) : putF "_dark" (.ref d) [] = [(("_dark" : Str), V.ref d)] := rfl
theorem hf_put2 (d b : Addr) : putF "_back" (.ref b) [(("_dark" : Str), V.ref d)] = hf d b := by
  show (if ("_dark" : Str) = "_back" then _ else _) = _
  rw [if_neg (by decide +kernel)]; rfl
theorem hf1_dark (d : Addr) : [(("_dark" : Str), V.ref d)].lookup ("_dark" : Str) = some (.ref d) := by simp [List.lookup]
structure HandAt (Z : Ad) (K : PySem.W.Frag) (H : Hp) (h d b : Addr) (L : Int) (ss : List Pr) : Prop where
  ex : ∃ dx, H h = some (.ins Z.C_Hand dx (hf d b))
  dark : DarkAt Z K H d L (heardAll L (frs ss))
  back : DarkAt Z K H b L (heardAll L (bk (heardAll L (frs ss))))
theorem HandAt.same {Z : Ad} {K : PySem.W.Frag} {H H' : Hp} {h d b : Addr} {L : Int} {ss : List Pr} (A : HandAt Z K H h d b L ss) (S : Same H H') : HandAt Z K H' h d b L ss := by
  obtain ⟨dx, e⟩ := A.ex
  exact ⟨⟨dx, S _ _ e⟩, A.dark.same S, A.back.same S⟩
def spHand (Z : Ad) (K : PySem.W.Frag) : Sp := fun vs H Q _ => ∃ (h dx : Addr) (v : V) (L : Int) (ss : List Pr), vs = [.ref h, .int L, v] ∧ H h = some (.ins Z.C_Hand dx []) ∧ Dp K H v (.list (ss.map encP)) ∧ 0 < ss.length ∧ ss.length ≤ 28 ∧ 0 < L ∧ L.natAbs < 2 ^ 200 ∧ (∀ s ∈ ss, SzP 280 s) ∧
  ∀ H' d b, HandAt Z K H' h d b L ss → (∀ la dx, H' d = some (.ins Z.C dx (df L la)) → H la = none) → (∀ la dx, H' b = some (.ins Z.C dx (df L la)) → H la = none) → Out h H H' → Q .non H'
section
variable {P : Program} {w : World} {K : PySem.W.Frag} {mg : Str → Option Value} {base : Heap} {Z : Ad}
theorem ok_Hand_init (T : Tx K w mg Z) : FnOk P w K mg base CX0 7 Z.a_Hand_init Z.d_Hand_init P_Hand_init (spHand Z K) := by
  refine T.F_Hand_init.ok scHand_init (fun vs H Q E h => ?_) (fun cdv A outer s H vs Q E hr h => ?_)
  · obtain ⟨h, dx, v, L, ss, rfl, _⟩ := h
    rfl
  · obtain ⟨h, dx, v, L, ss, rfl, hh, hv, h0, h28, hL, hLb, hsz, k⟩ := h
    obtain ⟨a, xs, rfl, ha, hd⟩ := dp_list hv
    have hxl : xs.length = ss.length := by rw [dpAll_len hd, List.length_map]
    refine ⟨_, (pss_cons (ps_fld (pv 0) (pe_make T.mk_Dark (ok_Dark_init T) (hr.mono (by decide)) (by rfl) T.g_Dark T.bb_Dark_init .nil pass0 (pa_cons (pv 1) pa_nil)) rfl)
      (C8.pss_cut (ps_if (pt_not (pt_truth (pv 2) (by intro _; rfl))) (pss_one ps_never) pss_nil)
      (pss_cons (ps_for PassesOwn.never rfl (pi_list (pv 2)) (tupK (K := K) (by rfl) (pgs_cons (pg_name (i := 3) scHand_init.nd rfl (Or.inl rfl)) (pgs_cons (pg_name (i := 4) scHand_init.nd rfl (Or.inl rfl)) pgs_nil))) (pss_one (ps_expr (pe_meth (fldK (K := K) (pv 0) rfl) T.cl T.m_Dark_hear (ok_Dark_hear T) (hr.mono (by decide)) T.bb_Dark_hear .nil pass0 (pa_cons pe_str (pa_cons (pv 3) (pa_cons (pv 4) pa_nil)))))))
      (pss_one (ps_fld (pv 0) (pe_meth0 (fldK (K := K) (pv 0) rfl) T.cl T.m_Dark_led_back (ok_Dark_led_back T) (hr.mono (by decide)) T.bb_Dark_led_back .nil pass0) rfl))))), ?_⟩
    refine ⟨_, rfl, fun d dxd hdn hdx hne => ?_⟩
    have S0 : Same H (upd (upd H dxd (.own d)) d (.ins Z.C dxd [])) := same_made hdn hdx
    refine ⟨d, dxd, L, rfl, upd_same, hL, hLb, fun H1 D1 f1 k1 => ⟨rfl, ?_⟩⟩
    have S1 : Same H H1 := fun b o e => k1 b o (S0 b o e) (ne_of_none e hdn)
    have hdh : d ≠ h := Ne.symm (ne_of_none hh hdn)
    have gh1 := S1 _ _ hh
    refine ⟨_, rfl, h, Z.C_Hand, dx, [], rfl, gh1, T.cl_Hand, T.nHand__dark, (by show 0 < 1000; decide), ?_⟩
    rw [hf_put1]
    have O2 : Out h H1 (upd H1 h (.ins Z.C_Hand dx [(("_dark" : Str), V.ref d)])) := fun b o e n => (upd_ne n).trans e
    have gh2 : (upd H1 h (.ins Z.C_Hand dx [(("_dark" : Str), V.ref d)])) h = some (.ins Z.C_Hand dx [(("_dark" : Str), V.ref d)]) := upd_same
    have D2 := O2.dark D1 gh1 hdh
    have F2 : ∀ la dx', (upd H1 h (.ins Z.C_Hand dx [(("_dark" : Str), V.ref d)])) d = some (.ins Z.C dx' (df L la)) → H la = none := fun la dx' e => by
      rw [upd_ne hdh] at e
      exact S0.free (f1 la dx' e)
    generalize upd H1 h (.ins Z.C_Hand dx [(("_dark" : Str), V.ref d)]) = H2 at O2 gh2 D2 F2 ⊢
    have O : Out h H H2 := fun b o e n => O2 b o (S1 b o e) n
    have ha2 := O.sqL hh ha
    refine ⟨fun σ' H' => σ' = [some (.ref h), some (.int L), some (.ref a), none, none] ∧ H' = H2, ?_, ?_⟩
    · refine ⟨_, rfl, _, .inl ⟨xs, ha2, rfl⟩, ?_⟩
      cases xs with
      | nil => simp at hxl; omega
      | cons y ys => exact iteF ⟨rfl, rfl⟩
    · rintro σ1 H3 ⟨rfl, rfl⟩
      refine ⟨_, rfl, a, rfl, ⟨_, ha2⟩, ?_⟩
      refine for_list (K := K) (a := a) (xs := xs) (fun i σ' H' => ∃ u3 u4, σ' = [some (.ref h), some (.int L), some (.ref a), u3, u4] ∧ (∀ b o, H3 b = some o → b ≠ d → H' b = some o) ∧ DarkAt Z K H' d L ((frs (ss.take i)).foldl (heard L) []) ∧ ∀ la dx', H' d = some (.ins Z.C dx' (df L la)) → H la = none)
        ⟨_, _, rfl, fun _ _ e _ => e, D2, F2⟩ (fun i σ' H' _ ⟨_, _, _, kd, _⟩ => ?_) ?_ ?_
      · obtain ⟨dx', la', vs', q1, _⟩ := D2.ex
        exact Out.sqL (d := d) kd q1 ha2
      · rintro i y σ' H' hi ⟨u3, u4, rfl, kd, D, F⟩
        obtain ⟨e, hdi, hdy⟩ := dpAll_get hd hi
        obtain ⟨s, hs, rfl⟩ := map_at hdi
        have hss := hsz s (List.mem_of_getElem? hs)
        have hi28 : i < ss.length := (List.getElem?_eq_some_iff.mp hs).1
        obtain ⟨dx2, la2, vs2, q1, q2, q3⟩ := id D2.ex
        have tt : Tups H H' := (O.tups hh).trans (Out.tups (d := d) kd q1)
        obtain ⟨p, rfl, hp⟩ := dp_pair (dp_tups tt _ _ (noL_encP s) hdy)
        refine ⟨_, _, rfl, hp, rfl, _, _, rfl, _, _, rfl, rfl, ?_⟩
        have gh' := kd _ _ gh2 (Ne.symm hdh)
        obtain ⟨dx3, la3, vs3, r1, r2, r3⟩ := id D.ex
        refine ⟨_, rfl, h, Z.C_Hand, dx, _, _, rfl, gh', T.cl_Hand, T.nHand__dark, hf1_dark d, d, dx3, _, rfl, r1, df_no _ _ (by decide +kernel) (by decide +kernel), _, rfl, _, rfl, d, L, (frs (ss.take i)).foldl (heard L) [], fr1 s, rfl, D, .inr (.inl rfl), ⟨lt_up hss.1 (by decide), lt_up hss.2 (by decide)⟩, ?_, fun o ho => ?_, fun H4 D4 f4 k4 => ?_⟩
        · have h5 := fold_len (L := L) (frs (ss.take i)) []
          have h6 : (frs (ss.take i)).length ≤ i := by unfold frs; rw [List.length_map, List.length_take]; omega
          simp only [List.length_nil] at h5; omega
        · rcases (fold_mem _ _ _).mp ho with h | ⟨q, hq, rfl⟩
          · cases h
          · obtain ⟨s', _, rfl⟩ := List.mem_map.mp hq
            exact clash_from rfl rfl
        · refine ⟨_, _, rfl, fun b o e n => k4 b o (kd b o e n) n, ?_, fun la dx' e => ?_⟩
          · have e : frs (ss.take (i + 1)) = frs (ss.take i) ++ [fr1 s] := by
              unfold frs; rw [take_snoc hs, List.map_append]; rfl
            rw [e, List.foldl_append]; exact D4
          · rcases f4 la dx' e with ⟨dx'', e'⟩ | e'
            · exact F la dx'' e'
            · cases hc : H la with
              | none => rfl
              | some o =>
                have hlh : la ≠ d := fun q => by rw [q, hdn] at hc; cases hc
                by_cases hh2 : la = h
                · rw [hh2, gh'] at e'; cases e'
                · rw [kd _ _ (O _ _ hc hh2) hlh] at e'; cases e'
      · rintro σ' H' ⟨u3, u4, rfl, kd, D, F⟩
        rw [List.take_of_length_le (by rw [hxl]; exact Nat.le_refl _)] at D
        replace D : DarkAt Z K H' d L (heardAll L (frs ss)) := D
        have gh' := kd _ _ gh2 (Ne.symm hdh)
        obtain ⟨dx3, la3, vs3, r1, r2, r3⟩ := id D.ex
        have hfl : (heardAll L (frs ss)).length ≤ 28 := by
          have h5 := fold_len (L := L) (frs ss) []
          have h6 : (frs ss).length = ss.length := by unfold frs; rw [List.length_map]
          unfold heardAll
          simp only [List.length_nil] at h5; omega
        have hsz2 : ∀ l ∈ heardAll L (frs ss), Sized 290 l := fun l hl => by
          obtain ⟨q, hq, rfl⟩ := (heardAll_mem _).mp hl
          obtain ⟨s, hs, rfl⟩ := List.mem_map.mp hq
          have hs2 := hsz s hs
          exact (home_sz (n := 280) hL hLb (by decide) (⟨hs2.1, hs2.2⟩ : Sized 280 (fr1 s))).up (by decide)
        have hnc : ∀ x ∈ heardAll L (frs ss), ∀ y ∈ heardAll L (frs ss), clashB x y L = false := fun x hx y hy => by
          obtain ⟨q, hq, rfl⟩ := (heardAll_mem _).mp hx
          obtain ⟨q2, hq2, rfl⟩ := (heardAll_mem _).mp hy
          obtain ⟨s, _, rfl⟩ := List.mem_map.mp hq
          obtain ⟨s2, _, rfl⟩ := List.mem_map.mp hq2
          exact clash_from rfl rfl
        refine ⟨_, rfl, h, Z.C_Hand, dx, _, _, rfl, gh', T.cl_Hand, T.nHand__dark, hf1_dark d, d, dx3, _, rfl, r1, df_no _ _ (by decide +kernel) (by decide +kernel), d, L, heardAll L (frs ss), rfl, D, hsz2, hnc, Nat.le_trans (bk_len _) (by omega), fun H4 b hb S4 B4 f4 => ?_⟩
        have gh4 := S4 _ _ gh'
        have hbh : b ≠ h := Ne.symm (ne_of_none gh' hb)
        refine ⟨_, rfl, h, Z.C_Hand, dx, _, rfl, gh4, T.cl_Hand, T.nHand__back, (by show 1 < 1000; decide), ?_⟩
        rw [hf_put2]
        have O5 : Out h H4 (upd H4 h (.ins Z.C_Hand dx (hf d b))) := fun b o e n => (upd_ne n).trans e
        have fre : ∀ la, H' la = none → H la = none := fun la e' => by
          cases hc : H la with
          | none => rfl
          | some o =>
            have hlh : la ≠ d := fun q => by rw [q, hdn] at hc; cases hc
            by_cases hh2 : la = h
            · rw [hh2, gh'] at e'; cases e'
            · rw [kd _ _ (O _ _ hc hh2) hlh] at e'; cases e'
        refine k _ d b ⟨⟨dx, upd_same⟩, O5.dark (D.same S4) gh4 hdh, O5.dark B4 gh4 hbh⟩ (fun la dx' e => ?_) (fun la dx' e => ?_) fun c o e n => (upd_ne n).trans (S4 _ _ (kd c o (O c o e n) (fun q => by rw [q, hdn] at e; cases e)))
        · rw [upd_ne hdh] at e
          obtain ⟨dx5, la5, vs5, z1, _⟩ := D.ex
          have z2 := S4 _ _ z1
          rw [e] at z2
          rw [df_inj z2]
          exact F la5 dx5 z1
        · rw [upd_ne hbh] at e
          exact fre _ (f4 la dx' e)
end
end KA
namespace KA
open PySem PySem.Spec PyProof.Rows L2 DP
/-! ### pairs in order, each once -/
def leP (a b : Pr) : Bool := PySem.W.dataLe false encP a b
theorem leP_iff {a b : Pr} : leP a b = true ↔ (listOrd itemOrd).kle (PySem.W.keyToks (encP a)) (PySem.W.keyToks (encP b)) := by
  show (!PyProof.Rows.lexLt itemOrd (PySem.W.keyToks (encP b)) (PySem.W.keyToks (encP a))) = true ↔ PyProof.Rows.lexLt itemOrd (PySem.W.keyToks (encP b)) (PySem.W.keyToks (encP a)) = false
  cases PyProof.Rows.lexLt itemOrd (PySem.W.keyToks (encP b)) (PySem.W.keyToks (encP a)) <;> simp
theorem leP_trans (a b c : Pr) (h1 : leP a b = true) (h2 : leP b c = true) : leP a c = true := leP_iff.mpr (KeyOrd.kle_trans (leP_iff.mp h1) (leP_iff.mp h2))
theorem leP_total (a b : Pr) : (leP a b || leP b a) = true := by
  rw [Bool.or_eq_true]
  cases e : (listOrd itemOrd).blt (PySem.W.keyToks (encP b)) (PySem.W.keyToks (encP a)) with
  | false => exact .inl (leP_iff.mpr e)
  | true => exact .inr (leP_iff.mpr (KeyOrd.kle_of_klt (O := listOrd itemOrd) e))
theorem toksP_inj {a b : Pr} (h : PySem.W.keyToks (encP a) = PySem.W.keyToks (encP b)) : a = b := by
  obtain ⟨a2, a3⟩ := a
  obtain ⟨b2, b3⟩ := b
  simp [encP, PySem.W.keyToks, PySem.W.keyToksAll] at h
  obtain ⟨h2, h3⟩ := h
  rw [h2, h3]
theorem leP_anti (a b : Pr) (h1 : leP a b = true) (h2 : leP b a = true) : a = b := toksP_inj (KeyOrd.kle_antisymm (leP_iff.mp h1) (leP_iff.mp h2))
structure CanonP (ms : List Pr) (S : Pr → Prop) : Prop where
  nd : ms.Nodup
  srt : ms.Pairwise (fun a b => leP a b = true)
  mem : ∀ o, o ∈ ms ↔ S o
theorem CanonP.eq {ms ns : List Pr} {S S' : Pr → Prop} (a : CanonP ms S) (b : CanonP ns S') (h : ∀ o, S o ↔ S' o) : ms = ns :=
  List.Perm.eq_of_pairwise (fun x y _ _ h1 h2 => leP_anti x y h1 h2) a.srt b.srt ((List.perm_ext_iff_of_nodup a.nd b.nd).mpr fun o => (a.mem o).trans ((h o).trans (b.mem o).symm))
theorem CanonP.iff {ms : List Pr} {S S' : Pr → Prop} (a : CanonP ms S) (h : ∀ o, S o ↔ S' o) : CanonP ms S' := ⟨a.nd, a.srt, fun o => (a.mem o).trans (h o)⟩
theorem canonP_sort {ms : List Pr} (nd : ms.Nodup) : CanonP (ms.mergeSort leP) (fun o => o ∈ ms) := ⟨(List.mergeSort_perm _ _).nodup_iff.mpr nd, List.pairwise_mergeSort leP_trans leP_total _, fun o => (List.mergeSort_perm _ _).mem_iff⟩
def keyP (l : Pr) : List Key := [.inl l.1, .inl l.2]
theorem keyP_inj {a b : Pr} (h : keyP a = keyP b) : a = b := by
  obtain ⟨a2, a3⟩ := a
  obtain ⟨b2, b3⟩ := b
  simp [keyP] at h
  obtain ⟨h2, h3⟩ := h
  rw [h2, h3]
section
variable {K : PySem.W.Frag} {H : Hp}
theorem pair_rows : ∀ {ls : List Pr} {xs : List V}, DpAll K H xs (ls.map encP) → ∃ ks : List (Addr × List Key), xs = ks.map (fun p => V.ref p.1) ∧ ks.map Prod.snd = ls.map keyP ∧ SD.Stand K H ks
  | [], xs, h => by
    have h' : DpAll K H xs [] := h
    cases h'
    exact ⟨[], rfl, rfl, fun p hp => by cases hp⟩
  | l :: ls, xs, h => by
    have h' : DpAll K H xs (encP l :: ls.map encP) := h
    cases h' with
    | cons h1 h2 =>
      obtain ⟨ks, e1, e2, st⟩ := pair_rows h2
      obtain ⟨a, rfl, ha⟩ := dp_pair h1
      refine ⟨(a, keyP l) :: ks, by rw [e1]; rfl, by rw [List.map_cons, e2]; rfl, fun p hp => ?_⟩
      rcases List.mem_cons.mp hp with e | e
      · rw [e]; exact ha
      · exact st p e
theorem rows_pair : ∀ {ms : List Pr} {M : List (Addr × List Key)}, M.map Prod.snd = ms.map keyP → SD.Stand K H M → DpAll K H (M.map fun p => V.ref p.1) (ms.map encP)
  | [], [], _, _ => .nil
  | [], _ :: _, e, _ => by cases e
  | _ :: _, [], e, _ => by cases e
  | l :: ms, p :: M, e, st => by
    injection e with e1 e2
    have h1 := st p List.mem_cons_self
    rw [e1] at h1
    exact .cons (.tup h1 (.cons (.int _) (.cons (.int _) .nil))) (rows_pair e2 fun q hq => st q (List.mem_cons_of_mem _ hq))
theorem keysP_back : ∀ {ks : List (List Key)} {ls : List Pr}, (∀ k ∈ ks, ∃ l ∈ ls, k = keyP l) → ∃ ms : List Pr, ks = ms.map keyP ∧ ∀ m ∈ ms, m ∈ ls
  | [], _, _ => ⟨[], rfl, fun _ h => by cases h⟩
  | k :: ks, ls, h => by
    obtain ⟨l, hl, e⟩ := h k List.mem_cons_self
    obtain ⟨ms, e2, h2⟩ := keysP_back (ks := ks) (ls := ls) fun q hq => h q (List.mem_cons_of_mem _ hq)
    refine ⟨l :: ms, by rw [e, e2]; rfl, fun m hm => ?_⟩
    rcases List.mem_cons.mp hm with z | z
    · rw [z]; exact hl
    · exact h2 m z
/-- sorted(set(looks)) -/
theorem set_sortedP {P : Program} {w : World} {l : Addr} {xs : List V} {ls : List Pr} (hl : SqL K H l xs) (hd : DpAll K H xs (ls.map encP)) (hlen : ls.length < 64) {Q : VK}
    (q : ∀ p ys H' ms, Same H H' → H p = none → H' p = some (.lst ys) → DpAll K H' ys (ms.map encP) → CanonP ms (fun o => o ∈ ls) → Q (.ref p) H') :
    SD.rSetD K P w [.ref l] H (fun v H' => SD.rSortSetD K P w [v] H' Q) := by
  obtain ⟨ks, e1, e2, st⟩ := pair_rows hd
  have hkl : ks.length = ls.length := by rw [← List.length_map (f := Prod.snd), e2, List.length_map]
  subst e1
  refine ⟨l, ks, rfl, hl, st, by rw [hkl]; exact hlen, fun a M ha hM hall hone => ?_⟩
  have S1 := same_upd (o := SD.SetDO P w a M) ha
  have stM : SD.Stand K (upd H a (SD.SetDO P w a M)) M := SD.Stand.same (fun p hp => st p (hM p hp)) S1
  have inl : ∀ p ∈ M, ∃ l ∈ ls, p.2 = keyP l := fun p hp => by
    have h1 : p.2 ∈ ks.map Prod.snd := List.mem_map.mpr ⟨p, hM p hp, rfl⟩
    rw [e2] at h1
    obtain ⟨l, hl, e⟩ := List.mem_map.mp h1
    exact ⟨l, hl, e.symm⟩
  refine ⟨a, M, rfl, upd_same, stM, ⟨fun p hp p2 hp2 => ?_, fun p hp => ?_⟩, fun N p pm hp => ?_⟩
  · obtain ⟨l1, _, e1⟩ := inl p hp
    obtain ⟨l2, _, e2⟩ := inl p2 hp2
    unfold SD.encK
    rw [e1, e2]
    simp [keyP, SD.kD, PySem.W.alike, PySem.W.alikeAll]
  · obtain ⟨l1, _, e1⟩ := inl p hp
    rw [e1]; simp [keyP]
  · obtain ⟨ms, em, hms⟩ := keysP_back (ks := N.map Prod.snd) (ls := ls) fun k hk => by
      obtain ⟨p, hp, e⟩ := List.mem_map.mp hk
      obtain ⟨l, hl, e2⟩ := inl p (pm.mem_iff.mp hp)
      exact ⟨l, hl, by rw [← e, e2]⟩
    have ndk : (ms.map keyP).Nodup := by rw [← em]; exact (pm.map Prod.snd).nodup_iff.mpr hone
    have nd : ms.Nodup := List.Pairwise.of_map keyP (fun _ _ hne e => hne (congrArg keyP e)) ndk
    have hsort : (N.mergeSort (PySem.W.dataLe false SD.encK)).map Prod.snd = (ms.mergeSort leP).map keyP := by
      rw [List.map_mergeSort (f := Prod.snd) (r := PySem.W.dataLe false SD.encK) (s := fun a b => PySem.W.dataLe false SD.encK (0, a) (0, b)) (fun a _ b _ => rfl), em]
      rw [List.map_mergeSort (f := keyP) (r := leP) (s := fun a b => PySem.W.dataLe false SD.encK (0, a) (0, b)) (fun a _ b _ => rfl)]
    have S2 := same_upd (o := HO.lst ((N.mergeSort (PySem.W.dataLe false SD.encK)).map fun q => V.ref q.1)) hp
    refine q p _ _ (ms.mergeSort leP) (S1.trans S2) (S1.free hp) upd_same (rows_pair hsort (SD.Stand.same (fun r hr => stM r (pm.mem_iff.mp ((List.mergeSort_perm _ _).mem_iff.mp hr))) S2)) ((canonP_sort nd).iff fun o => ⟨hms o, fun ho => ?_⟩)
    have h1 : keyP o ∈ ks.map Prod.snd := by rw [e2]; exact List.mem_map.mpr ⟨o, ho, rfl⟩
    obtain ⟨p2, hp2, e3⟩ := List.mem_map.mp h1
    have h2 := hall p2 hp2
    rw [e3, ← (pm.map Prod.snd).mem_iff, em] at h2
    obtain ⟨m, hm, e4⟩ := List.mem_map.mp h2
    rw [← keyP_inj e4]; exact hm
end

/-! ### the steps of a hand, in order -/
theorem lexLt_same (O : KeyOrd) (x : O.α) (as bs : List O.α) : PyProof.Rows.lexLt O (x :: as) (x :: bs) = PyProof.Rows.lexLt O as bs := by
  simp [PyProof.Rows.lexLt, O.irrefl]
theorem toks_fr (p : Pr) : PySem.W.keyToks (encL (fr1 p)) = .inl 1 :: .inr ("from" : Str).cps.toList :: PySem.W.keyToks (encP p) := by
  show PySem.W.keyToks (.tuple [.str "from", .int p.1, .int p.2]) = _ :: _ :: PySem.W.keyToks (.tuple [.int p.1, .int p.2])
  rw [PySem.W.keyToks, PySem.W.keyToks, PySem.W.keyToksAll, PySem.W.keyToks]; rfl
theorem le_fr (a b : Pr) : leL (fr1 a) (fr1 b) = leP a b := by
  have h : leL (fr1 a) (fr1 b) = true ↔ leP a b = true := by
    rw [leL_iff, leP_iff]
    show PyProof.Rows.lexLt itemOrd (PySem.W.keyToks (encL (fr1 b))) (PySem.W.keyToks (encL (fr1 a))) = false ↔ PyProof.Rows.lexLt itemOrd (PySem.W.keyToks (encP b)) (PySem.W.keyToks (encP a)) = false
    rw [toks_fr, toks_fr, lexLt_same, lexLt_same]
  cases h1 : leL (fr1 a) (fr1 b) <;> cases h2 : leP a b <;> simp_all
def homeP (L : Int) (s : Pr) : Pr := (s.1 % L, s.2 - s.1 / L * L)
theorem home_fr1 (L : Int) (s : Pr) : home L (fr1 s) = fr1 (homeP L s) := by
  have e : s.1 - s.1 / L * L = s.1 % L := by rw [Int.emod_def, Int.mul_comm]
  show ((("from" : Str), s.1 - s.1 / L * L, s.2 - s.1 / L * L) : Lk) = (("from" : Str), s.1 % L, s.2 - s.1 / L * L)
  rw [e]
theorem fr1_inj {a b : Pr} (h : fr1 a = fr1 b) : a = b := by
  have := congrArg Prod.snd h
  exact this
theorem heard_frs {L : Int} {ss ps : List Pr} (c : CanonP ps (fun o => ∃ s ∈ ss, o = homeP L s)) : heardAll L (frs ss) = ps.map fr1 := by
  refine (fold0_canon L (frs ss)).eq (S' := fun o => o ∈ ps.map fr1) ⟨?_, ?_, fun o => Iff.rfl⟩ fun o => ?_
  · exact List.Pairwise.map fr1 (fun a b h e => h (fr1_inj e)) c.nd
  · rw [List.pairwise_map]
    exact c.srt.imp fun h => by rw [le_fr]; exact h
  · rw [List.mem_map]
    constructor
    · rintro ⟨l, hl, rfl⟩
      obtain ⟨s, hs, rfl⟩ := List.mem_map.mp hl
      exact ⟨homeP L s, (c.mem _).mpr ⟨s, hs, rfl⟩, (home_fr1 L s).symm⟩
    · rintro ⟨p, hp, rfl⟩
      obtain ⟨s, hs, rfl⟩ := (c.mem _).mp hp
      exact ⟨fr1 s, List.mem_map.mpr ⟨s, hs, rfl⟩, (home_fr1 L s).symm⟩
theorem frs_inj {a b : List Pr} (h : a.map fr1 = b.map fr1) : a = b := by
  have := congrArg (List.map Prod.snd) h
  rw [List.map_map, List.map_map] at this
  have e : ∀ l : List Pr, l.map (Prod.snd ∘ fr1) = l := fun l => by
    induction l with
    | nil => rfl
    | cons x l ih => rw [List.map_cons, ih]; rfl
  rw [e, e] at this
  exact this
end KA
namespace KA
open PySem PySem.Spec PyProof.Rows L2 DP
theorem eqv_pair (a b : Pr) : PyData.eqv (encP a) (encP b) = decide (a = b) := by
  obtain ⟨a1, a2⟩ := a
  obtain ⟨b1, b2⟩ := b
  simp [encP, PyData.eqv, PyData.eqvAll]
  by_cases h1 : a1 = b1 <;> by_cases h2 : a2 = b2 <;> simp [h1, h2]
theorem eqv_pairs : ∀ a b : List Pr, PyData.eqvAll (a.map encP) (b.map encP) = decide (a = b)
  | [], [] => rfl
  | [], y :: b => by simp [PyData.eqvAll]
  | x :: a, [] => by simp [PyData.eqvAll]
  | x :: a, y :: b => by
    rw [List.map_cons, List.map_cons, PyData.eqvAll, eqv_pair, eqv_pairs a b]
    by_cases h1 : x = y <;> by_cases h2 : a = b <;> simp [h1, h2]
theorem lay_pairs : ∀ ps : List Pr, PyData.canLayAll0 (ps.map encP) = true
  | [] => rfl
  | p :: ps => by
    show PyData.canLayAll0 (encP p :: ps.map encP) = true
    rw [PyData.canLayAll0, lay_pairs ps]; rfl
theorem depth_pr : ∀ ps : List Pr, PyData.depthAll (ps.map encP) ≤ 1
  | [] => by simp [PyData.depthAll]
  | p :: ps => by
    show PyData.depthAll (encP p :: ps.map encP) ≤ 1
    have := depth_pr ps
    rw [PyData.depthAll]
    simp [encP, PyData.depth, PyData.depthAll]
    omega
theorem shaped_prs (ps : List Pr) : SeqAt.shaped (.list (ps.map encP)) = true := by
  unfold SeqAt.shaped
  rw [PyData.canLay0, lay_pairs ps, PyData.depth]
  have := depth_pr ps
  simp; omega
theorem few_prs {ps : List Pr} (h : ps.length ≤ 1000) : fewD (.list (ps.map encP)) = true := by
  have z : ∀ ps : List Pr, fewD.fewDs (ps.map encP) = true := by
    intro ps
    induction ps with
    | nil => rfl
    | cons l ls ih =>
      show fewD.fewDs (encP l :: ls.map encP) = true
      rw [fewD.fewDs, ih]; rfl
  rw [fewD, z, List.length_map, Bool.and_true, decide_eq_true_eq]
  exact h
theorem depth_prs (ps : List Pr) : (PyData.list (ps.map encP)).depth ≤ 2 := by
  rw [PyData.depth]
  have := depth_pr ps
  omega
def spHLen (Z : Ad) (K : PySem.W.Frag) : Sp := fun vs H Q _ => ∃ (h d b : Addr) (L : Int) (ss : List Pr), vs = [.ref h] ∧ HandAt Z K H h d b L ss ∧ Q (.int L) H
def spHSteps (Z : Ad) (K : PySem.W.Frag) : Sp := fun vs H Q _ => ∃ (h d b : Addr) (L : Int) (ss ps : List Pr), vs = [.ref h] ∧ HandAt Z K H h d b L ss ∧ heardAll L (frs ss) = ps.map fr1 ∧
  ∀ p H', Same H H' → H p = none → LAt K H' p (ps.map encP) → Q (.ref p) H'
/-- what else may stand on the right of == -/
def Foe (Z : Ad) (K : PySem.W.Frag) (H : Hp) (y : V) : Prop := ∃ t, TyX K H y (.type t) ∧ PySem.W.kitOne K (.type t) (.ref Z.C_Hand) = some false ∧ PySem.W.notFirst K Z.C_Hand (.type t) = true
def spHEq (Z : Ad) (K : PySem.W.Frag) : Sp := fun vs H Q _ => ∃ (h d b : Addr) (L : Int) (ss : List Pr) (y : V), vs = [.ref h, y] ∧ HandAt Z K H h d b L ss ∧
  ((∃ h2 d2 b2 L2 ss2, y = .ref h2 ∧ HandAt Z K H h2 d2 b2 L2 ss2 ∧ Q (.bl (decide (L = L2) && decide (heardAll L (frs ss) = heardAll L2 (frs ss2)))) H) ∨ (Foe Z K H y ∧ Q (.bl false) H))
section
variable {P : Program} {w : World} {K : PySem.W.Frag} {mg : Str → Option Value} {base : Heap} {Z : Ad}
theorem ok_Hand_length (T : Tx K w mg Z) : FnOk P w K mg base CX0 3 Z.a_Hand_length Z.d_Hand_length P_Hand_length (spHLen Z K) := by
  refine T.F_Hand_length.ok scHand_length (fun vs H Q E h => ?_) (fun cdv A outer s H vs Q E hr h => ?_)
  · obtain ⟨h, d, b, L, ss, rfl, _⟩ := h
    rfl
  · obtain ⟨h, d, b, L, ss, rfl, A1, k⟩ := h
    obtain ⟨hx, h1⟩ := A1.ex
    obtain ⟨dx, la, xs, d1, _, _⟩ := id A1.dark.ex
    refine ⟨_, (pss_one (ps_ret (pe_meth0 (fldK (K := K) (pv 0) rfl) T.cl T.m_Dark_length (ok_Dark_length T) (hr.mono (by decide)) T.bb_Dark_length .nil pass0))), ?_⟩
    refine ⟨_, rfl, h, Z.C_Hand, hx, _, _, rfl, h1, T.cl_Hand, T.nHand__dark, hf_dark _ _, d, dx, _, rfl, d1, df_no _ _ (by decide +kernel) (by decide +kernel), d, L, _, rfl, A1.dark, k⟩
theorem ok_Hand_eq (T : Tx K w mg Z) : FnOk P w K mg base CX0 3 Z.a_Hand_eq Z.d_Hand_eq P_Hand_eq (spHEq Z K) := by
  refine T.F_Hand_eq.ok scHand_eq (fun vs H Q E h => ?_) (fun cdv A outer s H vs Q E hr h => ?_)
  · obtain ⟨h, d, b, L, ss, y, rfl, _⟩ := h
    rfl
  · obtain ⟨h, d, b, L, ss, y, rfl, A1, hy⟩ := h
    obtain ⟨hx, h1⟩ := A1.ex
    obtain ⟨dx, la, xs, d1, _, _⟩ := id A1.dark.ex
    refine ⟨_, (pss_one (ps_ret (pe_and (pe_callB (isiK (K := K)) (by rfl) T.b_isinstance (by decide +kernel) (pa_cons (pv 1) (pa_cons (pe_glob (v := .ref Z.C_Hand) rfl T.g_Hand rfl) pa_nil))) (pe_one (pe_cmpR (op_ownEq (ok_Dark_eq T) T.m_Dark_eq.at_ T.m_Dark_eq.fn T.bb_Dark_eq pass0 (hr.mono (by decide))) (fldK (K := K) (pv 0) rfl) (fldK (K := K) (pv 1) rfl) (nomark _)))))), ?_⟩
    rcases hy with ⟨h2, d2, b2, L2, ss2, rfl, A2, k⟩ | ⟨⟨t, ty, hk, hn⟩, k⟩
    · obtain ⟨hx2, g1⟩ := A2.ex
      obtain ⟨dx2, la2, xs2, e1, _, _⟩ := id A2.dark.ex
      refine ⟨_, rfl, .ref h2, .ref Z.C_Hand, _, _, true, rfl, .own _, .base (.ins g1 T.cl_Hand T.isi_Hand.ha T.isi_Hand.hn T.isi_Hand.htk T.isi_Hand.hm), kit_self _ _, _, rfl, iteT ?_⟩
      refine ⟨_, rfl, h, Z.C_Hand, hx, _, _, rfl, h1, T.cl_Hand, T.nHand__dark, hf_dark _ _, _, rfl, h2, Z.C_Hand, hx2, _, _, rfl, g1, T.cl_Hand, T.nHand__dark, hf_dark _ _, d, dx, _, rfl, d1, .ins e1, d, L, _, .ref d2, rfl, A1.dark, .inl ⟨d2, L2, _, rfl, A2.dark, _, rfl, k⟩⟩
    · exact ⟨_, rfl, y, .ref Z.C_Hand, _, _, false, rfl, .own _, ty, hk, _, rfl, iteF k⟩
theorem ok_Hand_steps (T : Tx K w mg Z) : FnOk P w K mg base CX0 3 Z.a_Hand_steps Z.d_Hand_steps P_Hand_steps (spHSteps Z K) := by
  refine T.F_Hand_steps.ok scHand_steps (fun vs H Q E h => ?_) (fun cdv A outer s H vs Q E hr h => ?_)
  · obtain ⟨h, d, b, L, ss, ps, rfl, _⟩ := h
    rfl
  · obtain ⟨h, d, b, L, ss, ps, rfl, A1, eps, k⟩ := h
    obtain ⟨hx, h1⟩ := A1.ex
    obtain ⟨dx, la, xs, d1, _, _⟩ := id A1.dark.ex
    have D := A1.dark
    have hpl : ps.length ≤ 60 := by
      have := D.len
      rw [eps, List.length_map] at this
      exact this
    refine ⟨_, (pss_one (ps_ret (pe_lc (own := [("_", 1), ("x", 2), ("y", 3)]) (g := gTup K 3 (gCons (gName 1) (gCons (gName 2) (gCons (gName 3) gNil)))) (tt := tYes) rfl scHand_steps.nd (pi_list (pe_meth0 (fldK (K := K) (pv 0) rfl) T.cl T.m_Dark_looks (ok_Dark_looks T) (hr.mono (by decide)) T.bb_Dark_looks .nil pass0)) (blkOk_by (own := [("_", 1), ("x", 2), ("y", 3)]) (N := N_Hand_steps) (sc := defScope sHand_steps) (by decide +kernel)) (fun _ _ _ _ _ => (tupK (K := K) (by rfl) (pgs_cons (pg_name (i := 1) scHand_steps.nd rfl (Or.inl rfl)) (pgs_cons (pg_name (i := 2) scHand_steps.nd rfl (Or.inl rfl)) (pgs_cons (pg_name (i := 3) scHand_steps.nd rfl (Or.inl rfl)) pgs_nil))))) (fun _ _ _ _ _ => pts_nil) (fun _ _ _ _ _ => (pe_tup (pa_cons (pv 2) (pa_cons (pv 3) pa_nil))))))), ?_⟩
    refine ⟨_, rfl, h, Z.C_Hand, hx, _, _, rfl, h1, T.cl_Hand, T.nHand__dark, hf_dark _ _, d, dx, _, rfl, d1, df_no _ _ (by decide +kernel) (by decide +kernel), d, L, _, rfl, D, fun p ys H1 hp S1 p1 p2 => ?_⟩
    rw [eps] at p2
    have hyl : ys.length = ps.length := by rw [dpAll_len p2, List.length_map, List.length_map]
    refine ⟨p, rfl, ⟨_, SqL.of p1⟩, fun Dd hDd => ?_⟩
    refine lc_list (K := K) (a := p) (xs := ys) (fun j H' => Same H1 H' ∧ LAt K H' Dd ((ps.take j).map encP)) ⟨same_upd hDd, [], upd_same, .nil⟩ (fun j H' _ ⟨S, _⟩ => SqL.of (S _ _ p1)) ?_ ?_
    · rintro j y H' hj ⟨S, vs2, hd2, hds2⟩
      obtain ⟨e, hdi, hdy⟩ := dpAll_get p2 hj
      obtain ⟨l, hl, rfl⟩ := map_at hdi
      obtain ⟨s, hs, rfl⟩ := map_at hl
      obtain ⟨pp, rfl, hpp⟩ := dp_look (dp_mono S _ _ hdy)
      have hv2 : vs2.length ≤ 60 := by rw [dpAll_len hds2, List.length_map, List.length_take]; omega
      refine ⟨_, _, rfl, hpp, rfl, _, _, rfl, _, _, rfl, _, _, rfl, rfl, rfl, yes_ite ?_⟩
      refine ⟨_, rfl, _, rfl, (by show 2 ≤ sizeLine; decide), fun q2 hq2 => ?_⟩
      have S2 := same_upd (o := HO.tup [V.int s.1, .int s.2]) hq2
      have hd5 := S2 _ _ hd2
      refine ⟨vs2, hd5, small1000 (by omega), same_set (S.trans S2) hDd, _, upd_same, ?_⟩
      rw [take_snoc hs, List.map_append]
      exact acc_step hd5 (noLs_map noL_encP _) rfl (dpAll_mono S2 _ _ hds2) (show Dp K _ (.ref q2) (encP s) from .tup (SqT.of upd_same) (.cons (.int _) (.cons (.int _) .nil)))
    · rintro H2 ⟨S2, l2⟩
      rw [List.take_of_length_le (by rw [hyl]; exact Nat.le_refl _)] at l2
      exact k Dd H2 (S1.trans S2) (S1.free hDd) l2
end
end KA
namespace KA
open PySem PySem.Spec PyProof.Rows L2 DP
/-! ### a hand's writing -/
def stT (s : Pr) : Str := stepT s.1 s.2
def handT (L : Int) (ps : List Pr) : Str := numT L ++ ": " ++ Txt.join ", " (ps.map stT)
theorem colon_tl : TL.tl (": " : Str) = 58 :: [32] := by rfl
theorem colon_len : (": " : Str).length = 2 := by rfl
theorem comma_tl : TL.tl (", " : Str) = 44 :: [32] := by rfl
theorem comma_len : (", " : Str).length = 2 := by rfl
theorem numT_off {n : Int} {c : Nat} (h1 : c < 45 ∨ 57 < c) : c ∉ TL.tl (numT n) := fun hm => by
  have h2 : c ∉ TL.numL n.natAbs := TL.numL_free (by omega)
  by_cases e : n < 0
  · rw [numT_neg e] at hm
    rcases List.mem_cons.mp hm with e | e
    · omega
    · exact h2 e
  · rw [numT_pos (by omega)] at hm
    exact h2 hm
theorem stT_comma {s : Pr} : (44 : Nat) ∉ TL.tl (stT s) := fun hm => by
  unfold stT stepT at hm
  rw [TL.tl_append, TL.tl_append] at hm
  rcases List.mem_append.mp hm with hm | hm
  · rcases List.mem_append.mp hm with hm | hm
    · exact numT_off (.inl (by decide)) hm
    · rw [blank_tl] at hm
      exact absurd hm (by decide)
  · exact numT_off (.inl (by decide)) hm
theorem steps_split {ps : List Pr} (hne : 0 < ps.length) : Txt.split (Txt.join ", " (ps.map stT)) ", " = ps.map stT :=
  TL.split_join (y := ", ") (s := 44) (S := [32]) comma_tl (by decide +kernel) (parts := ps.map stT) (fun e => by rw [List.map_eq_nil_iff] at e; rw [e] at hne; cases hne) fun p hp => by
    obtain ⟨s, _, rfl⟩ := List.mem_map.mp hp
    exact stT_comma
theorem hand_part (L : Int) (ps : List Pr) : Txt.partition (handT L ps) ": " = (numT L, (": " : Str), Txt.join ", " (ps.map stT)) :=
  TL.partition_app colon_tl (numT_off (.inr (by decide)))
def SmP (s : Pr) : Prop := s.1.natAbs < 10 ^ 60 ∧ s.2.natAbs < 10 ^ 60
theorem steps_sum : ∀ {ps : List Pr}, (∀ s ∈ ps, SmP s) → ((ps.map stT).map (·.length)).sum ≤ 123 * ps.length
  | [], _ => by simp
  | s :: ps, h => by
    have h1 := steps_sum (ps := ps) fun o ho => h o (List.mem_cons_of_mem _ ho)
    have h2 := stepT_len (h s List.mem_cons_self).1 (h s List.mem_cons_self).2
    have h3 : (stT s).length ≤ 123 := h2
    simp only [List.map_cons, List.sum_cons, List.length_cons]
    omega
theorem psum {ps : List Pr} (h : ∀ s ∈ ps, SmP s) (hn : ps.length ≤ 30) : ((ps.map stT).map (·.length)).sum + (ps.map stT).length * (", " : Str).length ≤ 5000 := by
  have h1 := steps_sum h
  rw [comma_len, List.length_map]
  omega
theorem join_len (y : Str) : ∀ parts : List Str, (Str.join y parts).length ≤ (parts.map (·.length)).sum + parts.length * y.length
  | [] => by show (0 : Nat) ≤ _; omega
  | [x] => by show x.length ≤ _; simp
  | x :: z :: r => by
    have h := join_len y (z :: r)
    show (x ++ y ++ Str.join y (z :: r)).length ≤ _
    rw [len_app, len_app, List.map_cons, List.sum_cons, List.length_cons, Nat.add_mul]
    omega
theorem joined_len {ps : List Pr} (h : ∀ s ∈ ps, SmP s) (hn : ps.length ≤ 30) : (Txt.join ", " (ps.map stT)).length ≤ 5000 := by
  rw [TL.join_eq]
  exact Nat.le_trans (join_len _ _) (psum h hn)
theorem handT_len {L : Int} {ps : List Pr} (hL : L.natAbs < 10 ^ 60) (h : ∀ s ∈ ps, SmP s) (hn : ps.length ≤ 30) : (handT L ps).length ≤ 5100 := by
  unfold handT
  rw [len_app, len_app, colon_len]
  have := numT_len hL
  have := joined_len h hn
  omega
theorem no_noneP : ∀ ps : List Pr, ((ps.map encP).any fun z => PyData.eqv z .none) = false
  | [] => rfl
  | l :: hs => by rw [List.map_cons, List.any_cons, no_noneP hs]; rfl
structure HandOk (L : Int) (ps : List Pr) : Prop where
  pos : 0 < L
  sm : L.natAbs < 10 ^ 60
  ok : ∀ s ∈ ps, SmP s
  ne : 0 < ps.length
  len : ps.length ≤ 28
  cn : heardAll L (frs ps) = ps.map fr1
theorem smP_sz {s : Pr} (h : SmP s) : SzP 280 s := ⟨Nat.lt_trans h.1 (by decide), Nat.lt_trans h.2 (by decide)⟩
def spHandShown (K : PySem.W.Frag) : Sp := fun vs H Q _ => ∃ (L : Int) (p : Addr) (ps : List Pr), vs = [.int L, .ref p] ∧ LAt K H p (ps.map encP) ∧ L.natAbs < 10 ^ 60 ∧ (∀ s ∈ ps, SmP s) ∧ ps.length ≤ 30 ∧ ∀ H', Same H H' → Q (.str (handT L ps)) H'
def spShowStep (K : PySem.W.Frag) : Sp := fun vs H Q _ => ∃ (p : Addr) (s : Pr), vs = [.ref p] ∧ SqT K H p [.int s.1, .int s.2] ∧ SmP s ∧ ∀ H', Same H H' → Q (.str (stT s)) H'
def spShowHand (Z : Ad) (K : PySem.W.Frag) : Sp := fun vs H Q _ => ∃ (h d b : Addr) (L : Int) (ss ps : List Pr), vs = [.ref h] ∧ HandAt Z K H h d b L ss ∧ heardAll L (frs ss) = ps.map fr1 ∧ L.natAbs < 10 ^ 60 ∧ (∀ s ∈ ps, SmP s) ∧ ps.length ≤ 30 ∧ ∀ H', Same H H' → Q (.str (handT L ps)) H'
def spLenOf : Sp := fun vs H Q _ => ∃ L : Int, vs = [.str (numT L)] ∧ L.natAbs < 10 ^ 60 ∧ 0 < L ∧ ∀ H', Same H H' → Q (.int L) H'
def spHandOf (Z : Ad) (K : PySem.W.Frag) : Sp := fun vs H Q _ => ∃ (L : Int) (ps : List Pr), vs = [.str (handT L ps)] ∧ HandOk L ps ∧ ∀ (H' : Hp) (h d b : Addr), H h = none → Same H H' → HandAt Z K H' h d b L ps → Q (.ref h) H'
section
variable {P : Program} {w : World} {K : PySem.W.Frag} {mg : Str → Option Value} {base : Heap} {Z : Ad}
theorem ok_law_hand_shown (T : Tx K w mg Z) : FnOk P w K mg base CX0 1 Z.a_law_hand_shown Z.d_law_hand_shown P_law_hand_shown (spHandShown K) := by
  refine T.F_law_hand_shown.ok sclaw_hand_shown (fun vs H Q E h => ?_) (fun cdv A outer s H vs Q E hr h => ?_)
  · obtain ⟨L, p, ps, rfl, _⟩ := h
    rfl
  · obtain ⟨L, p, ps, rfl, hp, hL, hok, hlen, k⟩ := h
    obtain ⟨xs, h1, h2⟩ := id hp
    have hxl : xs.length = ps.length := by rw [dpAll_len h2, List.length_map]
    have big : ∀ {m : Nat}, m ≤ 10000 → m ≤ sizeLine := fun {m} h => Nat.le_trans h (by decide)
    have b1 := numT_len hL
    have b4 := blank_len
    have b5 := colon_len
    refine ⟨_, (pss_one (ps_ret (pe_op op_add_str (pe_op op_add_str (pe_callTy call_str_int (by rfl) T.b_str (by decide +kernel) (pa_cons (pv 0) pa_nil)) pe_str) (pe_m1 PySem.F.slot_str_join PySem.F.type_str_join mt_join pe_str (pe_lc (own := [("here", 2), ("there", 3)]) (g := gTup K 2 (gCons (gName 2) (gCons (gName 3) gNil))) (tt := tYes) rfl sclaw_hand_shown.nd (pi_list (pv 1)) (blkOk_by (own := [("here", 2), ("there", 3)]) (N := N_law_hand_shown) (sc := defScope slaw_hand_shown) (by decide +kernel)) (fun _ _ _ _ _ => (tupK (K := K) (by rfl) (pgs_cons (pg_name (i := 2) sclaw_hand_shown.nd rfl (Or.inl rfl)) (pgs_cons (pg_name (i := 3) sclaw_hand_shown.nd rfl (Or.inl rfl)) pgs_nil)))) (fun _ _ _ _ _ => pts_nil) (fun _ _ _ _ _ => (pe_op op_add_str (pe_op op_add_str (pe_callTy call_str_int (by rfl) T.b_str (by decide +kernel) (pa_cons (pv 2) pa_nil)) pe_str) (pe_callTy call_str_int (by rfl) T.b_str (by decide +kernel) (pa_cons (pv 3) pa_nil))))))))), ?_⟩
    refine ⟨_, rfl, L, rfl, log_small hL, _, _, rfl, rfl, (by show (numT L).length + (": " : Str).length ≤ sizeLine; exact big (by omega)), ?_⟩
    refine ⟨⟨_, rfl⟩, _, rfl, p, rfl, ⟨_, SqL.of h1⟩, fun D hD => ?_⟩
    refine lc_list (K := K) (a := p) (xs := xs) (fun i H2 => Same H H2 ∧ H2 D = some (.lst (((ps.take i).map stT).map V.str))) ⟨same_upd hD, upd_same⟩ (fun i H2 _ ⟨S2, _⟩ => SqL.of (S2 _ _ h1)) ?_ ?_
    · rintro i y H2 hi ⟨S2, hd⟩
      obtain ⟨e, hdi, hdy⟩ := dpAll_get h2 hi
      obtain ⟨s, hs, rfl⟩ := map_at hdi
      have hok1 := hok s (List.mem_of_getElem? hs)
      have c1 := numT_len hok1.1
      have c2 := numT_len hok1.2
      have hi' : i < ps.length := (List.getElem?_eq_some_iff.mp hs).1
      obtain ⟨pp, rfl, hpp⟩ := dp_pair (dp_mono S2 _ _ hdy)
      refine ⟨_, _, rfl, hpp, rfl, _, _, rfl, _, _, rfl, rfl, rfl, yes_ite ?_⟩
      refine ⟨_, rfl, s.1, rfl, log_small hok1.1, _, _, rfl, rfl, (by show (numT s.1).length + (" " : Str).length ≤ sizeLine; exact big (by omega)), _, rfl, s.2, rfl, log_small hok1.2, _, _, rfl, rfl, ?_, ?_⟩
      · show (numT s.1 ++ (" " : Str)).length + (numT s.2).length ≤ sizeLine
        rw [len_app]; exact big (by omega)
      refine ⟨_, hd, small1000 (by simp; omega), same_set S2 hD, ?_⟩
      rw [take_snoc hs, List.map_append, List.map_append]
      exact upd_same
    rintro H2 ⟨S2, hd⟩
    rw [List.take_of_length_le (by rw [hxl]; exact Nat.le_refl _)] at hd
    have j1 := joined_len hok hlen
    refine ⟨_, D, ps.map stT, rfl, rfl, .inl (SqL.of hd), Nat.le_trans (psum hok hlen) (by decide), ?_⟩
    refine ⟨_, _, rfl, rfl, ?_, k _ S2⟩
    show (numT L ++ (": " : Str)).length + (Txt.join ", " (ps.map stT)).length ≤ sizeLine
    rw [len_app]; exact big (by omega)
theorem ok_show_step (T : Tx K w mg Z) : FnOk P w K mg base CX0 4 Z.a_show_step Z.d_show_step P_show_step (spShowStep K) := by
  refine T.F_show_step.ok scshow_step (fun vs H Q E h => ?_) (fun cdv A outer s H vs Q E hr h => ?_)
  · obtain ⟨p, s, rfl, _⟩ := h
    rfl
  · obtain ⟨p, s, rfl, hp, hs, k⟩ := h
    refine ⟨_, (pss_cons (ps_asg (pv 0) (tupK (K := K) (by rfl) (pgs_cons (pg_name (i := 1) scshow_step.nd rfl (Or.inl rfl)) (pgs_cons (pg_name (i := 2) scshow_step.nd rfl (Or.inl rfl)) pgs_nil))))
      (pss_one (ps_ret (pe_joined (PJ.cons (pe_fmt (pe_call (ok_figures T) (hr.mono (by decide)) (by rfl) T.g_figures T.F_figures.kp T.bb_figures .nil pass0 (pa_cons (pv 1) pa_nil))) (PJ.cons pe_str (PJ.cons (pe_fmt (pe_call (ok_figures T) (hr.mono (by decide)) (by rfl) T.g_figures T.F_figures.kp T.bb_figures .nil pass0 (pa_cons (pv 2) pa_nil))) PJ.nil))))))), ?_⟩
    have b2 := numT_len hs.1
    have b3 := numT_len hs.2
    have b4 := blank_len
    have big : ∀ {m : Nat}, m ≤ 1000 → m ≤ sizeLine := fun {m} h => Nat.le_of_lt (small1000 h)
    refine ⟨_, rfl, _, _, rfl, hp, rfl, _, _, rfl, _, _, rfl, rfl, ?_⟩
    refine ⟨_, rfl, s.1, rfl, hs.1, fun H1 S1 => .inl ⟨_, rfl, big (by omega), _, rfl, ?_, ?_⟩⟩
    · rw [empty_app]; exact big (by omega)
    rw [empty_app]
    refine ⟨_, rfl, ?_, ?_⟩
    · rw [len_app]; exact big (by omega)
    refine ⟨_, rfl, s.2, rfl, hs.2, fun H2 S2 => .inl ⟨_, rfl, big (by omega), _, rfl, ?_, ?_⟩⟩
    · rw [len_app, len_app]; exact big (by omega)
    exact k _ (S1.trans S2)
theorem ok_show_hand (T : Tx K w mg Z) : FnOk P w K mg base CX0 5 Z.a_show_hand Z.d_show_hand P_show_hand (spShowHand Z K) := by
  refine T.F_show_hand.ok scshow_hand (fun vs H Q E h => ?_) (fun cdv A outer s H vs Q E hr h => ?_)
  · obtain ⟨h, d, b, L, ss, ps, rfl, _⟩ := h
    rfl
  · obtain ⟨h, d, b, L, ss, ps, rfl, A, eps, hL, hok, hlen, k⟩ := h
    obtain ⟨hx, h1⟩ := id A.ex
    have big : ∀ {m : Nat}, m ≤ 10000 → m ≤ sizeLine := fun {m} h => Nat.le_trans h (by decide)
    have b1 := numT_len hL
    have b5 := colon_len
    have j1 := joined_len hok hlen
    refine ⟨_, (pss_cons (ps_set (i := 1) scshow_hand.nd rfl (Or.inl rfl) (pe_m1 PySem.F.slot_str_join PySem.F.type_str_join mt_join pe_str (pe_lc (own := [("step", 2)]) (g := gName 2) (tt := tYes) rfl scshow_hand.nd (pi_list (pe_meth0 (pv 0) T.cl_Hand T.m_Hand_steps (ok_Hand_steps T) (hr.mono (by decide)) T.bb_Hand_steps .nil pass0)) (blkOk_by (own := [("step", 2)]) (N := N_show_hand) (sc := defScope sshow_hand) (by decide +kernel)) (fun _ _ _ _ _ => (pg_name (i := 2) scshow_hand.nd rfl (Or.inl rfl))) (fun _ _ _ _ _ => pts_nil) (fun _ _ _ _ _ => (pe_call (ok_show_step T) (hr.mono (by decide)) (by rfl) T.g_show_step T.F_show_step.kp T.bb_show_step .nil pass0 (pa_cons (pv 2) pa_nil))))))
      (pss_one (ps_ret (pe_joined (PJ.cons (pe_fmt (pe_call (ok_figures T) (hr.mono (by decide)) (by rfl) T.g_figures T.F_figures.kp T.bb_figures .nil pass0 (pa_cons (pe_meth0 (pv 0) T.cl_Hand T.m_Hand_length (ok_Hand_length T) (hr.mono (by decide)) T.bb_Hand_length .nil pass0) pa_nil))) (PJ.cons pe_str (PJ.cons (pe_fmt (pv 1)) PJ.nil))))))), ?_⟩
    refine ⟨⟨_, rfl⟩, _, rfl, h, hx, _, rfl, h1, hf_no _ _ (by decide +kernel) (by decide +kernel), h, d, b, L, ss, ps, rfl, A, eps, fun p H1 S1 hp lp => ?_⟩
    obtain ⟨xs, g1, g2⟩ := id lp
    have hxl : xs.length = ps.length := by rw [dpAll_len g2, List.length_map]
    refine ⟨p, rfl, ⟨_, SqL.of g1⟩, fun D hD => ?_⟩
    refine lc_list (K := K) (a := p) (xs := xs) (fun i H2 => Same H1 H2 ∧ H2 D = some (.lst (((ps.take i).map stT).map V.str))) ⟨same_upd hD, upd_same⟩ (fun i H2 _ ⟨S2, _⟩ => SqL.of (S2 _ _ g1)) ?_ ?_
    · rintro i y H2 hi ⟨S2, hd⟩
      obtain ⟨e, hdi, hdy⟩ := dpAll_get g2 hi
      obtain ⟨s, hs, rfl⟩ := map_at hdi
      have hok1 := hok s (List.mem_of_getElem? hs)
      have hi' : i < ps.length := (List.getElem?_eq_some_iff.mp hs).1
      obtain ⟨pp, rfl, hpp⟩ := dp_pair (dp_mono S2 _ _ hdy)
      refine ⟨rfl, yes_ite ?_⟩
      refine ⟨_, rfl, pp, s, rfl, hpp, hok1, fun H4 S4 => ⟨_, S4 _ _ hd, small1000 (by simp; omega), same_set (S2.trans S4) hD, ?_⟩⟩
      rw [take_snoc hs, List.map_append, List.map_append]
      exact upd_same
    rintro H2 ⟨S2, hd⟩
    rw [List.take_of_length_le (by rw [hxl]; exact Nat.le_refl _)] at hd
    have S12 := S1.trans S2
    refine ⟨_, D, ps.map stT, rfl, rfl, .inl (SqL.of hd), Nat.le_trans (psum hok hlen) (by decide), ?_⟩
    refine ⟨_, rfl, h, hx, _, rfl, S12 _ _ h1, hf_no _ _ (by decide +kernel) (by decide +kernel), h, d, b, L, ss, rfl, A.same S12, L, rfl, hL, fun H3 S3 => .inl ⟨_, rfl, big (by omega), _, rfl, ?_, ?_⟩⟩
    · rw [empty_app]; exact big (by omega)
    rw [empty_app]
    refine ⟨_, rfl, ?_, ?_⟩
    · rw [len_app]; exact big (by omega)
    refine ⟨_, rfl, .inl ⟨_, rfl, big (by omega), _, rfl, ?_, ?_⟩⟩
    · rw [len_app, len_app]; exact big (by omega)
    exact k _ (S12.trans S3)
theorem ok_length_of (T : Tx K w mg Z) : FnOk P w K mg base CX0 2 Z.a_length_of Z.d_length_of P_length_of (spLenOf) := by
  refine T.F_length_of.ok sclength_of (fun vs H Q E h => ?_) (fun cdv A outer s H vs Q E hr h => ?_)
  · obtain ⟨L, rfl, _⟩ := h
    rfl
  · obtain ⟨L, rfl, hL, h0, k⟩ := h
    refine ⟨_, (pss_cons (ps_set (i := 1) sclength_of.nd rfl (Or.inl rfl) (pe_call (ok_number_of T) (hr.mono (by decide)) (by rfl) T.g_number_of T.F_number_of.kp T.bb_number_of .nil pass0 (pa_cons (pv 0) pa_nil)))
      (pss_one (ps_ret (pe_ifExp (PW.pt (pw_or (pt_cmpR op_isN (pv 1) pe_non (nomark _)) (pw_or1 (pt_cmpR op_lt (pv 1) pe_int (nomark _))))) pe_non (pv 1))))), ?_⟩
    refine ⟨_, rfl, L, rfl, hL, fun H1 S1 => ?_⟩
    refine ⟨_, rfl, rfl, _, rfl, iteF ⟨_, rfl, _, _, rfl, rfl, _, rfl, ?_⟩⟩
    rw [decide_eq_false (by omega : ¬ L < 1)]
    exact iteF ⟨_, rfl, k _ S1⟩
theorem ok_hand_of (T : Tx K w mg Z) : FnOk P w K mg base CX0 9 Z.a_hand_of Z.d_hand_of P_hand_of (spHandOf Z K) := by
  refine T.F_hand_of.ok schand_of (fun vs H Q E h => ?_) (fun cdv A outer s H vs Q E hr h => ?_)
  · obtain ⟨L, ps, rfl, _⟩ := h
    rfl
  · obtain ⟨L, ps, rfl, O, k⟩ := h
    have hl2 : L.natAbs < 2 ^ 200 := Nat.lt_trans O.sm (by decide)
    have hlen := O.len
    have h10 := handT_len O.sm O.ok (Nat.le_trans O.len (by decide))
    have h11 := joined_len O.ok (Nat.le_trans O.len (by decide))
    have big : ∀ {m : Nat}, m ≤ 10000 → m ≤ sizeLine := fun {m} h => Nat.le_trans h (by decide)
    refine ⟨_, (pss_cons (ps_asg (pe_m1 PySem.F.slot_str_partition PySem.F.type_str_partition mt_partition (pv 0) pe_str) (tupK (K := K) (by rfl) (pgs_cons (pg_name (i := 1) schand_of.nd rfl (Or.inl rfl)) (pgs_cons (pg_name (i := 2) schand_of.nd rfl (Or.inl rfl)) (pgs_cons (pg_name (i := 3) schand_of.nd rfl (Or.inl rfl)) pgs_nil)))))
      (C8.pss_cut (ps_set (i := 4) schand_of.nd rfl (Or.inl rfl) (pe_call (ok_length_of T) (hr.mono (by decide)) (by rfl) T.g_length_of T.F_length_of.kp T.bb_length_of .nil pass0 (pa_cons (pv 1) pa_nil)))
      (C8.pss_cut (ps_setLc (i := 5) (own := [("part", 6)]) (g := gName 6) (tt := tYes) rfl schand_of.nd rfl rfl (sw_true rfl rfl rfl (by decide +kernel)) (pi_list (pe_m1 PySem.F.slot_str_split PySem.F.type_str_split mt_split (pv 3) pe_str)) (blkOk_by (own := [("part", 6)]) (N := N_hand_of) (sc := defScope shand_of) (by decide +kernel)) (fun _ _ _ _ _ => (pg_name (i := 6) schand_of.nd rfl (Or.inl rfl))) (fun _ _ _ _ _ => pts_nil) (fun _ _ _ _ _ => (pe_call (ok_step_of T) (hr.mono (by decide)) (by rfl) T.g_step_of T.F_step_of.kp T.bb_step_of .nil pass0 (pa_cons (pv 6) pa_nil))))
      (pss_one (ps_ret (pe_ifExp (PW.pt (pw_or (pt_cmpR op_isN (pv 4) pe_non (nomark _)) (pw_or1 (pt_cmpR (inDK (K := K) (rooms hr)) pe_non (pv 5) (by rfl))))) pe_non (pe_make T.mk_Hand (ok_Hand_init T) (hr.mono (by decide)) (by rfl) T.g_Hand T.bb_Hand_init .nil pass0 (pa_cons (pv 4) (pa_cons (pv 5) pa_nil))))))))), ?_⟩
    refine ⟨_, rfl, ⟨_, rfl⟩, _, _, rfl, rfl, by decide +kernel, big (by omega), fun p hp => ?_⟩
    rw [hand_part]
    have Sp := same_upd (o := HO.tup [V.str (numT L), .str (": " : Str), .str (Txt.join ", " (ps.map stT))]) hp
    have gp : (upd H p (.tup [V.str (numT L), .str (": " : Str), .str (Txt.join ", " (ps.map stT))])) p = some (.tup [V.str (numT L), .str (": " : Str), .str (Txt.join ", " (ps.map stT))]) := upd_same
    generalize upd H p (.tup [V.str (numT L), .str (": " : Str), .str (Txt.join ", " (ps.map stT))]) = H1 at Sp gp ⊢
    refine ⟨_, _, rfl, SqT.of gp, rfl, _, _, rfl, _, _, rfl, _, _, rfl, rfl, ?_⟩
    refine ⟨fun σ' H' => ∃ u2 u3, σ' = [some (.str (handT L ps)), some (.str (numT L)), u2, some (.str (Txt.join ", " (ps.map stT))), some (.int L), none, u3] ∧ Same H1 H', ?_, ?_⟩
    · exact ⟨_, rfl, L, rfl, O.sm, O.pos, fun H' S' => ⟨_, _, rfl, S'⟩⟩
    rintro σ2 H2 ⟨u2, u3, rfl, S2⟩
    refine ⟨fun σ' H' => ∃ q : Addr, σ' = [some (.str (handT L ps)), some (.str (numT L)), u2, some (.str (Txt.join ", " (ps.map stT))), some (.int L), some (.ref q), u3] ∧ Same H2 H' ∧ LAt K H' q (ps.map encP), ?_, ?_⟩
    · refine ⟨_, rfl, ⟨_, rfl⟩, _, _, rfl, rfl, by decide +kernel, big (by omega), fun r hr => ?_⟩
      rw [steps_split O.ne]
      have Sr := same_upd (o := HO.lst ((ps.map stT).map V.str)) hr
      have gr : (upd H2 r (.lst ((ps.map stT).map V.str))) r = some (.lst ((ps.map stT).map V.str)) := upd_same
      generalize upd H2 r (.lst ((ps.map stT).map V.str)) = H2' at Sr gr ⊢
      refine ⟨r, rfl, ⟨_, SqL.of gr⟩, fun D hD => ?_⟩
      refine lc_list (K := K) (a := r) (xs := (ps.map stT).map V.str) (fun i H3 => Same H2' H3 ∧ LAt K H3 D ((ps.take i).map encP)) ⟨same_upd hD, [], upd_same, .nil⟩ (fun i H3 _ ⟨S3, _⟩ => SqL.of (S3 _ _ gr)) ?_ ?_
      · rintro i y H3 hi ⟨S3, vs, hd, hds⟩
        obtain ⟨y1, hy1, rfl⟩ := map_at hi
        obtain ⟨o, ho, rfl⟩ := map_at hy1
        have hok := O.ok o (List.mem_of_getElem? ho)
        have hi' : i < ps.length := (List.getElem?_eq_some_iff.mp ho).1
        have hvl : vs.length ≤ i := by rw [dpAll_len hds, List.length_map, List.length_take]; omega
        refine ⟨rfl, yes_ite ?_⟩
        refine ⟨_, rfl, o.1, o.2, rfl, hok.1, hok.2, fun H4 q4 S4 hq4 g4 => ?_⟩
        refine ⟨vs, S4 _ _ hd, small1000 (by omega), same_set (S3.trans S4) hD, _, upd_same, ?_⟩
        rw [take_snoc ho, List.map_append]
        exact acc_step (S4 _ _ hd) (noLs_map noL_encP _) rfl (dpAll_mono S4 _ _ hds) (show Dp K _ (.ref q4) (encP o) from .tup (SqT.of g4) (.cons (.int _) (.cons (.int _) .nil)))
      rintro H3 ⟨S3, ld⟩
      rw [List.take_of_length_le (by rw [List.length_map, List.length_map]; exact Nat.le_refl _)] at ld
      exact ⟨D, rfl, Sr.trans S3, ld⟩
    rintro σ3 H3 ⟨q, rfl, S3, lq⟩
    have S0 := (Sp.trans S2).trans S3
    refine ⟨_, rfl, rfl, _, rfl, iteF ⟨_, rfl, .none, ps.map encP, .non, lq.dp, rfl, shaped_prs ps, _, rfl, ?_⟩⟩
    rw [no_noneP]
    refine iteF ⟨_, rfl, _, rfl, fun h dx hhn hdx hne => ?_⟩
    have Sm : Same H3 (upd (upd H3 dx (.own h)) h (.ins Z.C_Hand dx [])) := same_made hhn hdx
    refine ⟨h, dx, .ref q, L, ps, rfl, upd_same, (lq.same Sm).dp, O.ne, O.len, O.pos, hl2, fun s hs => smP_sz (O.ok s hs), fun H4 d b A4 f1 f2 O4 => ⟨rfl, ?_⟩⟩
    exact k H4 h d b (S0.free hhn) (S0.trans fun c o e => O4 c o (Sm c o e) (ne_of_none e hhn)) A4
theorem ok_read_hand (T : Tx K w mg Z) : FnOk P w K mg base CX0 10 Z.a_read_hand Z.d_read_hand P_read_hand (spHandOf Z K) := by
  refine T.F_read_hand.ok scread_hand (fun vs H Q E h => ?_) (fun cdv A outer s H vs Q E hr h => ?_)
  · obtain ⟨L, ps, rfl, _⟩ := h
    rfl
  · obtain ⟨L, ps, rfl, O, k⟩ := h
    refine ⟨_, (pss_cons (ps_set (i := 1) scread_hand.nd rfl (Or.inl rfl) (pe_call (ok_hand_of T) (hr.mono (by decide)) (by rfl) T.g_hand_of T.F_hand_of.kp T.bb_hand_of .nil pass0 (pa_cons (pv 0) pa_nil)))
      (C8.pss_cut (ps_if (PW.pt (pw_or (pt_cmpR op_isN (pv 1) pe_non (nomark _)) (pw_or1 (pt_cmpR op_ne (pe_call (ok_show_hand T) (hr.mono (by decide)) (by rfl) T.g_show_hand T.F_show_hand.kp T.bb_show_hand .nil pass0 (pa_cons (pv 1) pa_nil)) (pv 0) (nomark _))))) (pss_one ps_never) pss_nil)
      (pss_one (ps_ret (pv 1))))), ?_⟩
    refine ⟨_, rfl, L, ps, rfl, O, fun H1 h d b hh S1 A1 => ?_⟩
    refine ⟨fun σ' H' => σ' = [some (.str (handT L ps)), some (.ref h)] ∧ Same H1 H', ?_, ?_⟩
    · refine ⟨_, rfl, rfl, _, rfl, iteF ⟨_, rfl, h, d, b, L, ps, ps, rfl, A1, O.cn, O.sm, O.ok, Nat.le_trans O.len (by decide), fun H2 S2 => ?_⟩⟩
      exact ⟨_, rfl, rfl, _, rfl, ite2 (fun c => absurd c (by simp)) (fun _ => ⟨rfl, S2⟩)⟩
    rintro σ2 H2 ⟨rfl, S2⟩
    exact ⟨_, rfl, k _ h d b hh (S1.trans S2) (A1.same S2)⟩
end
end KA
namespace KA
open PySem PySem.Spec PyProof.Rows L2 DP
def StSz (s : Pr) : Prop := s.1.natAbs ≤ 3 * 10 ^ 30 ∧ s.2.natAbs < 2 ^ 197
def spSteps (K : PySem.W.Frag) : Sp := fun vs H Q _ => ∃ (t g : Addr) (n : Nat) (L : Int), vs = [.ref t, .int L] ∧ Tray H t g n ∧ n < 2 ^ 44 ∧ 0 < L ∧ L ≤ 10 ^ 30 ∧
  ∀ (H' : Hp) (p : Addr) (ss : List Pr), At H H' t g (n + 200) → LAt K H' p (ss.map encP) → 0 < ss.length → ss.length ≤ 12 → (∀ s ∈ ss, StSz s) → Q (.ref p) H'
def spLaw (K : PySem.W.Frag) : Sp := fun vs H Q _ => ∃ (a : Addr) (ns : List Int), vs = [.ref a] ∧ SqL K H a (ns.map V.int) ∧ ns.length ≤ 63 ∧ ∀ H', Q (.bl true) H'
theorem At.sm3 {H H1 H2 : Hp} {t g : Addr} {m : Nat} (A : At H H1 t g m) (S : Same H1 H2) : At H H2 t g m := ⟨A.T.same S, A.k.trans (Keep.of_same S)⟩
structure FS (K : PySem.W.Frag) (H : Hp) (sp F : Addr) (steps ss : List Pr) : Prop where
  st : LAt K H sp (steps.map encP)
  fo : LAt K H F (ss.map encP)
theorem FS.keep {K : PySem.W.Frag} {H H' : Hp} {t g sp F : Addr} {n : Nat} {steps ss : List Pr} (s : FS K H sp F steps ss) (T : Tray H t g n) (k : Keep t g H H') (h1 : sp ≠ t ∧ sp ≠ g) (h2 : F ≠ t ∧ F ≠ g) : FS K H' sp F steps ss :=
  ⟨s.st.keep T k h1.1 h1.2 (noLs_map noL_encP _), s.fo.keep T k h2.1 h2.2 (noLs_map noL_encP _)⟩
theorem homeP_home {L : Int} (hL : 0 < L) (s : Pr) : homeP L (homeP L s) = homeP L s := by
  have h1 := Int.emod_nonneg s.1 (show L ≠ 0 by omega)
  have h2 := Int.emod_lt_of_pos s.1 hL
  show (s.1 % L % L, s.2 - s.1 / L * L - s.1 % L / L * L) = (s.1 % L, s.2 - s.1 / L * L)
  rw [Int.emod_eq_of_lt h1 h2, Int.ediv_eq_zero_of_lt h1 h2, Int.zero_mul, Int.sub_zero]
theorem homeP_small {L : Int} (hL : 0 < L) (hL30 : L ≤ 10 ^ 30) {s : Pr} (h : StSz s) : SmP (homeP L s) := by
  have h1 := Int.mul_ediv_add_emod s.1 L
  have h2 := Int.emod_nonneg s.1 (show L ≠ 0 by omega)
  have h3 := Int.emod_lt_of_pos s.1 hL
  rw [Int.mul_comm] at h1
  obtain ⟨a1, a2⟩ := h
  have e2 : (homeP L s).2 = s.2 - (s.1 - s.1 % L) := by show s.2 - s.1 / L * L = _; omega
  refine ⟨?_, ?_⟩
  · show (s.1 % L).natAbs < _
    omega
  · rw [e2]; omega
theorem nodup_lenP {ps ss : List Pr} (nd : ps.Nodup) (h : ∀ o ∈ ps, o ∈ ss) : ps.length ≤ ss.length := List.Nodup.length_le_of_subset nd h
theorem hand_ok {L : Int} {ss ps : List Pr} (hL : 0 < L) (hL30 : L ≤ 10 ^ 30) (h0 : 0 < ss.length) (h12 : ss.length ≤ 12) (hs : ∀ s ∈ ss, StSz s) (c : CanonP ps (fun o => ∃ s ∈ ss, o = homeP L s)) : HandOk L ps := by
  have hl : ps.length ≤ (ss.map (homeP L)).length := nodup_lenP c.nd fun o ho => by
    obtain ⟨s, hs, rfl⟩ := (c.mem o).mp ho
    exact List.mem_map.mpr ⟨s, hs, rfl⟩
  rw [List.length_map] at hl
  refine ⟨hL, by omega, fun s h => ?_, ?_, by omega, heard_frs (c.iff fun o => ?_)⟩
  · obtain ⟨q, hq, rfl⟩ := (c.mem s).mp h
    exact homeP_small hL hL30 (hs q hq)
  · obtain ⟨s, hs'⟩ := List.exists_mem_of_length_pos h0
    exact List.length_pos_of_mem ((c.mem (homeP L s)).mpr ⟨s, hs', rfl⟩)
  · constructor
    · rintro ⟨s, hs', rfl⟩
      exact ⟨homeP L s, (c.mem _).mpr ⟨s, hs', rfl⟩, (homeP_home hL s).symm⟩
    · rintro ⟨q, hq, rfl⟩
      obtain ⟨s, hs', rfl⟩ := (c.mem q).mp hq
      exact ⟨s, hs', homeP_home hL s⟩
theorem few_three {ps : List Pr} (h : ps.length ≤ 1000) (L : Int) : fewD (.list [.bool true, .list (ps.map encP), .int L]) = true := by
  show (decide (3 ≤ 1000) && fewD.fewDs [.bool true, .list (ps.map encP), .int L]) = true
  rw [fewD.fewDs, fewD.fewDs, few_prs h]; rfl
theorem depth_three (ps : List Pr) (L : Int) : (PyData.list [.bool true, .list (ps.map encP), .int L]).depth < 4 := by
  have := depth_pr ps
  simp only [PyData.depth, PyData.depthAll]
  omega
section
variable {P : Program} {w : World} {K : PySem.W.Frag} {mg : Str → Option Value} {base : Heap} {Z : Ad}
theorem ok_law_steps (T : Tx K w mg Z) : FnOk P w K mg base CX0 5 Z.a_law_steps Z.d_law_steps P_law_steps (spSteps K) := by
  refine T.F_law_steps.ok sclaw_steps (fun vs H Q E h => ?_) (fun cdv A outer s H vs Q E hr h => ?_)
  · obtain ⟨t, g, n, L, rfl, _⟩ := h
    rfl
  · obtain ⟨t, g, n, L, rfl, hT, hn, hL, hL30, k⟩ := h
    have hLb := bigL hL hL30
    have hb : ∀ m, m ≤ n + 200 → m < 2 ^ 60 := fun m hm => Nat.lt_of_le_of_lt hm (Nat.lt_of_lt_of_le (Nat.add_lt_add_right hn 200) (by decide))
    have A0 : At H H t g n := ⟨hT, Keep.refl _ _ _⟩
    refine ⟨_, (pss_cons (ps_set (i := 2) sclaw_steps.nd rfl (Or.inl rfl) (pe_call (ok_law_secret T) (hr.mono (by decide)) (by rfl) T.g_law_secret T.F_law_secret.kp T.bb_law_secret .nil pass0 (pa_cons (pv 0) (pa_cons (pv 1) pa_nil))))
      (pss_cons (ps_set (i := 3) sclaw_steps.nd rfl (Or.inl rfl) (pe_lst pa_nil))
      (pss_cons (ps_for PassesOwn.never rfl (pi_range1 (by rfl) T.b_range (pa_cons (pe_op op_add pe_int (pe_call (ok_law_draw T) (hr.mono (by decide)) (by rfl) T.g_law_draw T.F_law_draw.kp T.bb_law_draw .nil pass0 (pa_cons (pv 0) (pa_cons pe_int pa_nil)))) pa_nil)) (pg_name (i := 4) sclaw_steps.nd rfl (Or.inl rfl)) (C8.pss_cut (ps_asg (pe_ix (ixL (K := K)) (pv 2) (pe_call (ok_law_draw T) (hr.mono (by decide)) (by rfl) T.g_law_draw T.F_law_draw.kp T.bb_law_draw .nil pass0 (pa_cons (pv 0) (pa_cons (pe_callB (lenK (K := K)) (by rfl) T.b_len (by decide +kernel) (pa_cons (pv 2) pa_nil)) pa_nil))) (fun _ _ => rfl)) (tupK (K := K) (by rfl) (pgs_cons (pg_name (i := 5) sclaw_steps.nd rfl (Or.inl rfl)) (pgs_cons (pg_name (i := 6) sclaw_steps.nd rfl (Or.inl rfl)) pgs_nil))))
      (C8.pss_cut (ps_set (i := 7) sclaw_steps.nd rfl (Or.inl rfl) (pe_op op_mulW (pe_op op_sub (pe_call (ok_law_draw T) (hr.mono (by decide)) (by rfl) T.g_law_draw T.F_law_draw.kp T.bb_law_draw .nil pass0 (pa_cons (pv 0) (pa_cons pe_int pa_nil))) pe_int) (pv 1)))
      (C8.pss_cut (ps_if (pt_cmpR op_eq (pe_call (ok_law_draw T) (hr.mono (by decide)) (by rfl) T.g_law_draw T.F_law_draw.kp T.bb_law_draw .nil pass0 (pa_cons (pv 0) (pa_cons pe_int pa_nil))) pe_int (nomark _)) (pss_one (ps_par (i := 5) (j := 6) (by rfl) sclaw_steps.nd rfl rfl (by decide) rfl rfl (pa_cons (pe_call (ok_law_draw T) (hr.mono (by decide)) (by rfl) T.g_law_draw T.F_law_draw.kp T.bb_law_draw .nil pass0 (pa_cons (pv 0) (pa_cons (pv 1) pa_nil))) (pa_cons (pe_op op_sub (pe_op op_add (pv 6) (pe_call (ok_law_draw T) (hr.mono (by decide)) (by rfl) T.g_law_draw T.F_law_draw.kp T.bb_law_draw .nil pass0 (pa_cons (pv 0) (pa_cons (pe_op op_add (pe_op op_mulW pe_int (pv 1)) pe_int) pa_nil)))) (pv 1)) pa_nil)) (by rfl))) pss_nil)
      (pss_one (ps_expr (pe_bm PySem.F.plainAttrs_list PySem.F.slot_list_append PySem.F.type_list_append mt_append (pv 3) (pa_cons (pe_tup (pa_cons (pe_op op_add (pv 5) (pv 7)) (pa_cons (pe_op op_add (pv 6) (pv 7)) pa_nil))) pa_nil))))))))
      (pss_one (ps_ret (pv 3)))))), ?_⟩
    refine ⟨_, rfl, _, rfl, t, g, n, L, rfl, hT, Nat.lt_trans hn (by decide), hL, hL30, fun H1 sp steps hsp T1 k1 ls hst => ?_⟩
    have A1 := A0.step T1 k1
    have spn := hT.at_ne hsp
    refine ⟨(by show 0 ≤ sizeLine; decide), fun F hF => ?_⟩
    have Fn := T1.at_ne hF
    have FH := A1.free hF
    have S2 := same_upd (o := HO.lst ([] : List V)) hF
    have A2 := A1.new (o := HO.lst ([] : List V)) hF
    have f2 : FS K (upd H1 F (.lst [])) sp F steps [] := ⟨ls.same S2, [], upd_same, .nil⟩
    have spF : sp ≠ F := by
      obtain ⟨vs, h1, _⟩ := ls
      exact ne_of_none h1 hF
    generalize upd H1 F (.lst []) = H2 at A2 f2 ⊢
    refine ⟨_, rfl, t, g, n + 30, 12, rfl, A2.T, by decide, by decide, hb _ (by omega), fun H3 c c0 c1 T3 k3 => ⟨_, _, rfl, rfl, 1 + c, rfl, by omega, by omega, ?_⟩⟩
    have A3 := A2.step T3 k3
    have f3 := f2.keep A2.T k3 spn Fn
    refine for_range (lo := 0) (n := (1 + c).toNat) (fun i σ' H' => ∃ u4 u5 u6 u7 ss, σ' = [some (.ref t), some (.int L), some (.ref sp), some (.ref F), u4, u5, u6, u7] ∧ At H H' t g (n + 31 + 10 * i) ∧ FS K H' sp F steps ss ∧ ss.length = i ∧ ∀ s ∈ ss, StSz s) ⟨_, _, _, _, [], rfl, A3.up (by omega), f3, rfl, fun _ z => by cases z⟩ ?_ ?_
    rotate_left
    · rintro σ' H4 ⟨u4, u5, u6, u7, ss, rfl, A4, f4, hl, hs⟩
      exact ⟨_, rfl, k H4 F ss (A4.up (by omega)) f4.fo (by omega) (by omega) hs⟩
    rintro i σ' H4 hi ⟨u4, u5, u6, u7, ss, rfl, A4, f4, hl, hs⟩
    have hi12 : i < 12 := by omega
    obtain ⟨m, em⟩ : ∃ m, m = n + 31 + 10 * i := ⟨_, rfl⟩
    have em2 : n + 31 + 10 * (i + 1) = m + 10 := by omega
    have hm : m ≤ n + 151 := by omega
    rw [em2]
    rw [← em] at A4
    -- here, there
    refine ⟨fun σ' H' => ∃ v4 x y, σ' = [some (.ref t), some (.int L), some (.ref sp), some (.ref F), v4, some (.int x), some (.int y), u7] ∧ 0 ≤ x ∧ x < L ∧ y.natAbs < 2 ^ 196 ∧ At H H' t g (m + 1) ∧ FS K H' sp F steps ss, ?_, ?_⟩
    · obtain ⟨vs, h1, h2⟩ := id f4.st
      have hvl : vs.length = steps.length := by rw [dpAll_len h2, List.length_map]
      have hpos : 0 < vs.length := by rw [hvl]; exact List.length_pos_iff.mpr hst.1
      have hle : vs.length ≤ 20 := by rw [hvl]; exact hst.2.1
      refine ⟨_, rfl, _, rfl, _, rfl, sp, vs, rfl, .inl (SqL.of h1), t, g, m, (vs.length : Int), rfl, A4.T, by omega, Nat.lt_of_le_of_lt (show vs.length ≤ 20 from hle) (by decide), hb _ (by omega), fun H5 i0 i1 i2 T5 k5 => ?_⟩
      have A5 := A4.step T5 k5
      have f5 := f4.keep A4.T k5 spn Fn
      obtain ⟨vs5, g1, g2⟩ := id f5.st
      have hj : i0.toNat < steps.length := by rw [← hvl]; omega
      obtain ⟨s, hs'⟩ : ∃ s, steps[i0.toNat]? = some s := ⟨_, List.getElem?_eq_getElem hj⟩
      obtain ⟨v0, hv0, hd0⟩ := dpAll_get' g2 (show (steps.map encP)[i0.toNat]? = some (encP s) by rw [List.getElem?_map, hs']; rfl)
      obtain ⟨a0, rfl, hq0⟩ := dp_pair hd0
      have hss := hst.2.2 s (List.mem_of_getElem? hs')
      exact ⟨sp, vs5, _, _, rfl, rfl, SqL.of g1, at_of (j := i0.toNat) (by omega) hv0, a0, _, rfl, hq0, rfl, _, _, rfl, _, _, rfl, rfl, _, s.1, s.2, rfl, hss.1, hss.2.1, hss.2.2, A5, f5⟩
    rintro σ5 H5 ⟨v4, x, y, rfl, x0, x1, hy, A5, f5⟩
    -- turned
    refine ⟨fun σ' H' => ∃ d : Int, σ' = [some (.ref t), some (.int L), some (.ref sp), some (.ref F), v4, some (.int x), some (.int y), some (.int d)] ∧ -(2 * L) ≤ d ∧ d ≤ 2 * L ∧ At H H' t g (m + 2) ∧ FS K H' sp F steps ss, ?_, ?_⟩
    · refine ⟨_, rfl, t, g, m + 1, 5, rfl, A5.T, by decide, by decide, hb _ (by omega), fun H6 e e0 e1 T6 k6 => ?_⟩
      refine ⟨_, _, rfl, rfl, _, rfl, _, _, rfl, rfl, wide_mul (a := 10) (Nat.lt_of_le_of_lt (by omega : (e - 2).natAbs ≤ 2) (by decide)) hLb (by decide) (by decide) (by decide), (e - 2) * L, rfl, ?_, ?_, A5.step T6 k6, f5.keep A5.T k6 spn Fn⟩
      · have : e = 0 ∨ e = 1 ∨ e = 2 ∨ e = 3 ∨ e = 4 := by omega
        rcases this with rfl | rfl | rfl | rfl | rfl <;> omega
      · have : e = 0 ∨ e = 1 ∨ e = 2 ∨ e = 3 ∨ e = 4 := by omega
        rcases this with rfl | rfl | rfl | rfl | rfl <;> omega
    rintro σ6 H6 ⟨d, rfl, d0, d1, A6, f6⟩
    -- the third draw
    refine ⟨fun σ' H' => ∃ x y : Int, σ' = [some (.ref t), some (.int L), some (.ref sp), some (.ref F), v4, some (.int x), some (.int y), some (.int d)] ∧ 0 ≤ x ∧ x < L ∧ y.natAbs < 2 ^ 196 + 2 ^ 101 ∧ At H H' t g (m + 10) ∧ FS K H' sp F steps ss, ?_, ?_⟩
    · refine ⟨_, rfl, t, g, m + 2, 3, rfl, A6.T, by decide, by decide, hb _ (by omega), fun H7 e e0 e1 T7 k7 => ?_⟩
      have A7 := A6.step T7 k7
      have f7 := f6.keep A6.T k7 spn Fn
      refine ⟨rfl, _, rfl, ite2 (fun _ => ?_) (fun _ => ⟨x, y, rfl, x0, x1, Nat.lt_of_lt_of_le hy (Nat.le_add_right _ _), A7.up (by omega), f7⟩)⟩
      refine ⟨_, rfl, _, rfl, t, g, m + 3, L, rfl, A7.T, hL, lt_up hLb (by decide), hb _ (by omega), fun H8 x' x'0 x'1 T8 k8 => ?_⟩
      have A8 := A7.step T8 k8
      have f8 := f7.keep A7.T k8 spn Fn
      refine ⟨_, rfl, _, rfl, _, rfl, _, _, rfl, rfl, wide_mul (a := 10) (by decide) hLb (by decide) (by decide) (by decide), _, _, rfl, rfl, t, g, m + 4, 2 * L + 1, rfl, A8.T, by omega, Nat.lt_of_le_of_lt (by omega : (2 * L + 1).natAbs ≤ 4 * 10 ^ 30) (by decide), hb _ (by omega), fun H9 y' y'0 y'1 T9 k9 => ?_⟩
      have A9 := A8.step T9 k9
      have f9 := f8.keep A8.T k9 spn Fn
      refine ⟨_, _, rfl, rfl, _, rfl, _, _, rfl, rfl, _, _, rfl, x', y + y' - L, rfl, x'0, x'1, ?_, A9.up (by omega), f9⟩
      omega
    rintro σ7 H7 ⟨x', y', rfl, x'0, x'1, hy', A7, f7⟩
    obtain ⟨vs, g1, g2⟩ := id f7.fo
    have hvl : vs.length = ss.length := by rw [dpAll_len g2, List.length_map]
    refine ⟨_, rfl, .inl ⟨rfl, _, SqL.of g1⟩, _, rfl, _, rfl, _, _, rfl, rfl, _, rfl, _, rfl, _, _, rfl, rfl, (by show 2 ≤ sizeLine; decide), fun q2 hq2 => ?_⟩
    have Sq := same_upd (o := HO.tup [V.int (x' + d), .int (y' + d)]) hq2
    have gq : (upd H7 q2 (.tup [V.int (x' + d), .int (y' + d)])) q2 = some (.tup [V.int (x' + d), .int (y' + d)]) := upd_same
    have A8 := A7.sm3 Sq
    have f8 : FS K (upd H7 q2 (.tup [V.int (x' + d), .int (y' + d)])) sp F steps ss := ⟨f7.st.same Sq, f7.fo.same Sq⟩
    have g1' := Sq _ _ g1
    have g2' := dpAll_mono Sq _ _ g2
    generalize upd H7 q2 (.tup [V.int (x' + d), .int (y' + d)]) = H8 at Sq gq A8 f8 g1' g2' ⊢
    refine ⟨F, vs, _, rfl, rfl, g1', small1000 (by omega), ?_⟩
    obtain ⟨ws, w1, w2⟩ := id f8.st
    refine ⟨_, _, _, _, ss ++ [(x' + d, y' + d)], rfl, A8.acc FH Fn.1 Fn.2, ⟨⟨ws, (upd_ne spF).trans w1, dpAll_tups (Tups.upd_lst g1') _ _ (noLs_map noL_encP _) w2⟩, _, upd_same, ?_⟩, by simp [hl], fun s hs' => ?_⟩
    · rw [List.map_append]
      exact acc_step g1' (noLs_map noL_encP _) rfl g2' (show Dp K _ (.ref q2) (encP (x' + d, y' + d)) from .tup (SqT.of gq) (.cons (.int _) (.cons (.int _) .nil)))
    · rcases List.mem_append.mp hs' with h | h
      · exact hs s h
      · rw [List.mem_singleton] at h
        subst h
        refine ⟨?_, ?_⟩
        · show (x' + d).natAbs ≤ _
          omega
        · show (y' + d).natAbs < _
          omega
theorem ok_law (T : Tx K w mg Z) : FnOk P w K mg base CX0 12 Z.a_law Z.d_law P_law (spLaw K) := by
  refine T.F_law.ok sclaw (fun vs H Q E h => ?_) (fun cdv A outer s H vs Q E hr h => ?_)
  · obtain ⟨a, ns, rfl, _⟩ := h
    rfl
  · obtain ⟨a, ns, rfl, hS, hlen, k⟩ := h
    refine ⟨_, (pss_cons (ps_set (i := 1) sclaw.nd rfl (Or.inl rfl) (pe_call (ok_law_tray T) (hr.mono (by decide)) (by rfl) T.g_law_tray T.F_law_tray.kp T.bb_law_tray .nil pass0 (pa_cons (pv 0) pa_nil)))
      (pss_cons (ps_for PassesOwn.never rfl (pi_range1 (by rfl) T.b_range (pa_cons (pe_op op_add pe_int (pe_op op_mulW pe_int (pe_callB (lenK (K := K)) (by rfl) T.b_len (by decide +kernel) (pa_cons (pe_slice (slL (K := K)) (pv 0) po_none (po_some pe_int)) pa_nil)))) pa_nil)) (pg_name (i := 2) sclaw.nd rfl (Or.inl rfl)) (C8.pss_cut (ps_set (i := 3) sclaw.nd rfl (Or.inr rfl) (pe_call (ok_law_length T) (hr.mono (by decide)) (by rfl) T.g_law_length T.F_law_length.kp T.bb_law_length .nil pass0 (pa_cons (pv 1) pa_nil)))
      (C8.pss_cut (ps_set (i := 4) sclaw.nd rfl (Or.inl rfl) (pe_call (ok_law_steps T) (hr.mono (by decide)) (by rfl) T.g_law_steps T.F_law_steps.kp T.bb_law_steps .nil pass0 (pa_cons (pv 1) (pa_cons (pv 3) pa_nil))))
      (C8.pss_cut (ps_set (i := 5) sclaw.nd rfl (Or.inl rfl) (pe_make T.mk_Hand (ok_Hand_init T) (hr.mono (by decide)) (by rfl) T.g_Hand T.bb_Hand_init .nil pass0 (pa_cons (pv 3) (pa_cons (pv 4) pa_nil))))
      (C8.pss_cut (ps_set (i := 6) sclaw.nd rfl (Or.inl rfl) (pe_callB (SD.sortSetDK (K := K) (P := P) (w := w) rfl (rooms64 hr)) (by rfl) T.b_sorted (by decide +kernel) (pa_cons (pe_callTy (SD.setDK (K := K) (P := P) (w := w) rfl (rooms64 hr)) (by rfl) T.b_set (by decide +kernel) (pa_cons (pe_lc (own := [("here", 7), ("there", 8)]) (g := gTup K 2 (gCons (gName 7) (gCons (gName 8) gNil))) (tt := tYes) rfl sclaw.nd (pi_list (pv 4)) (blkOk_by (own := [("here", 7), ("there", 8)]) (N := N_law) (sc := defScope slaw) (by decide +kernel)) (fun _ _ _ _ _ => (tupK (K := K) (by rfl) (pgs_cons (pg_name (i := 7) sclaw.nd rfl (Or.inl rfl)) (pgs_cons (pg_name (i := 8) sclaw.nd rfl (Or.inl rfl)) pgs_nil)))) (fun _ _ _ _ _ => pts_nil) (fun _ _ _ _ _ => (pe_tup (pa_cons (pe_op op_mod (pv 7) (pv 3)) (pa_cons (pe_op op_sub (pv 8) (pe_op op_mulW (pe_op op_fdivW (pv 7) (pv 3)) (pv 3))) pa_nil))))) pa_nil)) pa_nil)))
      (C8.pss_cut (ps_set (i := 9) sclaw.nd rfl (Or.inl rfl) (pe_call (ok_law_hand_shown T) (hr.mono (by decide)) (by rfl) T.g_law_hand_shown T.F_law_hand_shown.kp T.bb_law_hand_shown .nil pass0 (pa_cons (pv 3) (pa_cons (pv 6) pa_nil))))
      (C8.pss_cut (ps_if (pt_not (pt_val (pe_call (ok_law_alike T 4) (hr.mono (by decide)) (by rfl) T.g_law_alike T.F_law_alike.kp T.bb_law_alike .nil pass0 (pa_cons (pe_lst (pa_cons (pe_call (ok_show_hand T) (hr.mono (by decide)) (by rfl) T.g_show_hand T.F_show_hand.kp T.bb_show_hand .nil pass0 (pa_cons (pv 5) pa_nil)) (pa_cons (KW.pe_callN0 (ok_show_hand T) (hr.mono (by decide)) (by rfl) T.g_show_hand T.F_show_hand.kp T.kn_show_hand_hand pass0 (pk_cons (pv 5) pk_nil)) pa_nil))) (pa_cons (pe_lst (pa_cons (pv 9) (pa_cons (pv 9) pa_nil))) pa_nil))))) (pss_one (ps_ret pe_bl)) pss_nil)
      (pss_one (ps_for PassesOwn.never rfl (pi_list (pe_lst (pa_cons (pe_call (ok_read_hand T) (hr.mono (by decide)) (by rfl) T.g_read_hand T.F_read_hand.kp T.bb_read_hand .nil pass0 (pa_cons (pv 9) pa_nil)) (pa_cons (KW.pe_callN0 (ok_read_hand T) (hr.mono (by decide)) (by rfl) T.g_read_hand T.F_read_hand.kp T.kn_read_hand_text pass0 (pk_cons (pv 9) pk_nil)) pa_nil)))) (pg_name (i := 10) sclaw.nd rfl (Or.inl rfl)) (pss_one (ps_if (pt_not (pt_val (pe_call (ok_law_alike T 4) (hr.mono (by decide)) (by rfl) T.g_law_alike T.F_law_alike.kp T.bb_law_alike .nil pass0 (pa_cons (pe_lst (pa_cons (pe_cmpR (op_ownEq (ok_Hand_eq T) T.m_Hand_eq.at_ T.m_Hand_eq.fn T.bb_Hand_eq pass0 (hr.mono (by decide))) (pv 10) (pv 5) (nomark _)) (pa_cons (pe_meth0 (pv 10) T.cl_Hand T.m_Hand_steps (ok_Hand_steps T) (hr.mono (by decide)) T.bb_Hand_steps .nil pass0) (pa_cons (pe_meth0 (pv 10) T.cl_Hand T.m_Hand_length (ok_Hand_length T) (hr.mono (by decide)) T.bb_Hand_length .nil pass0) pa_nil)))) (pa_cons (pe_lst (pa_cons pe_bl (pa_cons (pv 6) (pa_cons (pv 3) pa_nil)))) pa_nil))))) (pss_one (ps_ret pe_bl)) pss_nil)))))))))))
      (pss_one (ps_ret pe_bl)))), ?_⟩
    refine ⟨_, rfl, a, ns, rfl, hS, hlen, fun H0 t g T0 S0 ht hg => ?_⟩
    refine ⟨_, rfl, _, rfl, a, _, rfl, Same.sqL S0 hS, fun q hq => ⟨q, _, rfl, .inl (SqL.of upd_same), ?_⟩⟩
    have hcut : ((cutV (ns.map V.int) none (some 8)).length : Int) ≤ 63 := by
      have e : (cutV (ns.map V.int) none (some (8 : Int))).length ≤ 63 := Nat.le_trans (cutV_length _ _ _) (by rw [List.length_map]; exact hlen)
      exact_mod_cast e
    have hcut0 : (0 : Int) ≤ ((cutV (ns.map V.int) none (some 8)).length : Int) := Int.natCast_nonneg _
    generalize ((cutV (ns.map V.int) none (some 8)).length : Int) = cut at hcut hcut0 ⊢
    have T0' : Tray (upd H0 q (.lst (cutV (ns.map V.int) none (some 8)))) t g 0 := T0.same (same_upd hq)
    generalize upd H0 q (.lst (cutV (ns.map V.int) none (some 8))) = H0' at T0' ⊢
    refine ⟨_, _, rfl, rfl, wide_mul (a := 10) (b := 10) (by decide) (Nat.lt_of_le_of_lt (by omega : cut.natAbs ≤ 63) (by decide)) (by decide) (by decide) (by decide), _, _, rfl, rfl, 3 + 2 * cut, rfl, by omega, by omega, ?_⟩
    refine for_range (n := (3 + 2 * cut).toNat) (fun i σ' H' => ∃ (u2 u3 u4 u5 u6 u7 u8 u9 u10 : Option V), σ' = [some (.ref a), some (.ref t), u2, u3, u4, u5, u6, u7, u8, u9, u10] ∧ Tray H' t g (300 * i)) ⟨_, _, _, _, _, _, _, _, _, rfl, T0'⟩ ?_ ?_
    rotate_left
    · rintro σ' H' ⟨_, _, _, _, _, _, _, _, _, rfl, _⟩
      exact k H'
    rintro i σ' H1 hi ⟨u2, u3, u4, u5, u6, u7, u8, u9, u10, rfl, T1⟩
    have hi13 : i < 140 := by omega
    obtain ⟨N, eN⟩ : ∃ N, N = 300 * i := ⟨_, rfl⟩
    have eN2 : 300 * (i + 1) = N + 300 := by omega
    rw [eN2]
    rw [← eN] at T1
    have hn : ∀ m, m ≤ N + 300 → m < 2 ^ 44 := fun m hm => Nat.lt_of_le_of_lt (by omega : m ≤ 1000000) (by decide)
    -- size
    refine ⟨fun σ' H' => ∃ (v2 : Option V) (L : Int), σ' = [some (.ref a), some (.ref t), v2, some (.int L), u4, u5, u6, u7, u8, u9, u10] ∧ 0 < L ∧ L ≤ 10 ^ 30 ∧ Tray H' t g (N + 10), ?_, ?_⟩
    · exact ⟨_, rfl, t, g, N, rfl, T1, Nat.lt_trans (hn _ (by omega)) (by decide), fun H2 L hL hL30 T2 k2 => ⟨_, L, rfl, hL, hL30, T2⟩⟩
    rintro σ2 H2 ⟨v2, L, rfl, hL, hL30, T2⟩
    have hLb := bigL hL hL30
    have hL2 : L.natAbs < 2 ^ 200 := lt_up hLb (by decide)
    -- steps
    refine ⟨fun σ' H' => ∃ (sp : Addr) (ss : List Pr), σ' = [some (.ref a), some (.ref t), v2, some (.int L), some (.ref sp), u5, u6, u7, u8, u9, u10] ∧ Tray H' t g (N + 300) ∧ LAt K H' sp (ss.map encP) ∧ 0 < ss.length ∧ ss.length ≤ 12 ∧ ∀ s ∈ ss, StSz s, ?_, ?_⟩
    · exact ⟨_, rfl, _, rfl, t, g, N + 10, L, rfl, T2, hn _ (by omega), hL, hL30, fun H3 p ss A3 lp h0 h12 hs => ⟨p, ss, rfl, A3.T.up (by omega), lp, h0, h12, hs⟩⟩
    rintro σ3 H3 ⟨sp, ss, rfl, T3, lp, h0, h12, hsz⟩
    have hsz2 : ∀ s ∈ ss, SzP 280 s := fun s hs => ⟨Nat.lt_of_le_of_lt (hsz s hs).1 (by decide), Nat.lt_trans (hsz s hs).2 (by decide)⟩
    -- made
    refine ⟨fun σ' H' => ∃ (h d b : Addr), σ' = [some (.ref a), some (.ref t), v2, some (.int L), some (.ref sp), some (.ref h), u6, u7, u8, u9, u10] ∧ Same H3 H' ∧ HandAt Z K H' h d b L ss, ?_, ?_⟩
    · refine ⟨_, rfl, _, rfl, fun h dx hhn hdx hne => ?_⟩
      have Sm : Same H3 (upd (upd H3 dx (.own h)) h (.ins Z.C_Hand dx [])) := same_made hhn hdx
      exact ⟨h, dx, .ref sp, L, ss, rfl, upd_same, (lp.same Sm).dp, h0, by omega, hL, hL2, hsz2, fun H4 d b A4 f1 f2 O4 => ⟨rfl, h, d, b, rfl, fun c o e => O4 c o (Sm c o e) (ne_of_none e hhn), A4⟩⟩
    rintro σ4 H4 ⟨h, d, b, rfl, S4, A4⟩
    have lp4 := lp.same S4
    have T4 := T3.same S4
    -- rows
    refine ⟨fun σ' H' => ∃ (rp : Addr) (ps : List Pr), σ' = [some (.ref a), some (.ref t), v2, some (.int L), some (.ref sp), some (.ref h), some (.ref rp), u7, u8, u9, u10] ∧ Same H4 H' ∧ LAt K H' rp (ps.map encP) ∧ HandOk L ps ∧ heardAll L (frs ss) = ps.map fr1, ?_, ?_⟩
    · obtain ⟨vs, v1, v2'⟩ := id lp4
      have hvl : vs.length = ss.length := by rw [dpAll_len v2', List.length_map]
      refine ⟨_, rfl, sp, rfl, ⟨_, SqL.of v1⟩, fun Dh hDh => ?_⟩
      refine lc_list (K := K) (a := sp) (xs := vs) (fun j H' => Same H4 H' ∧ LAt K H' Dh (((ss.take j).map (homeP L)).map encP)) ⟨same_upd hDh, [], upd_same, .nil⟩ (fun j H' _ ⟨S, _⟩ => SqL.of (S _ _ v1)) ?_ ?_
      · rintro j y H' hj ⟨S, vs2, hd2, hds2⟩
        obtain ⟨e, hdi, hdy⟩ := dpAll_get v2' hj
        obtain ⟨s, hs, rfl⟩ := map_at hdi
        obtain ⟨pp, rfl, hpp⟩ := dp_pair (dp_mono S _ _ hdy)
        have hz := hsz2 s (List.mem_of_getElem? hs)
        have hv2 : vs2.length ≤ 60 := by rw [dpAll_len hds2, List.length_map, List.length_map, List.length_take]; omega
        refine ⟨_, _, rfl, hpp, rfl, _, _, rfl, _, _, rfl, rfl, rfl, yes_ite ?_⟩
        refine ⟨_, rfl, _, rfl, _, _, rfl, rfl, hL, _, rfl, _, rfl, _, rfl, _, _, rfl, rfl, wide_div hL hL2 (by decide) (by decide), _, rfl, _, _, rfl, rfl, wide_mul (div_lt hL hz.1) hL2 (by decide) (by decide) (by decide), _, _, rfl, rfl, (by show 2 ≤ sizeLine; decide), fun q2 hq2 => ?_⟩
        have Sx := same_upd (o := HO.tup [V.int (s.1 % L), .int (s.2 - s.1 / L * L)]) hq2
        have hd5 := Sx _ _ hd2
        refine ⟨vs2, hd5, small1000 (by omega), same_set (S.trans Sx) hDh, _, upd_same, ?_⟩
        rw [take_snoc hs, List.map_append, List.map_append]
        exact acc_step hd5 (noLs_map noL_encP _) rfl (dpAll_mono Sx _ _ hds2) (show Dp K _ (.ref q2) (encP (homeP L s)) from .tup (SqT.of upd_same) (.cons (.int _) (.cons (.int _) .nil)))
      rintro H5 ⟨S5, vs4, hv1, hv2⟩
      rw [List.take_of_length_le (by rw [hvl]; exact Nat.le_refl _)] at hv2
      dsimp only [tNil]
      refine set_sortedP (SqL.of hv1) hv2 (by rw [List.length_map]; omega) fun pd yd H6 ps S6 hpd hd1 hd2 cm0 => ?_
      have cm : CanonP ps (fun o => ∃ s ∈ ss, o = homeP L s) := cm0.iff fun o => by
        rw [List.mem_map]
        exact exists_congr fun q => and_congr_right fun _ => eq_comm
      exact ⟨pd, ps, rfl, S5.trans S6, ⟨yd, hd1, hd2⟩, hand_ok hL hL30 h0 h12 hsz cm, heard_frs cm⟩
    rintro σ5 H5 ⟨rp, ps, rfl, S5, lr, O, eps⟩
    have A5 := A4.same S5
    have T5 := T4.same S5
    have hpl : ps.length ≤ 30 := Nat.le_trans O.len (by decide)
    -- due
    refine ⟨fun σ' H' => σ' = [some (.ref a), some (.ref t), v2, some (.int L), some (.ref sp), some (.ref h), some (.ref rp), u7, u8, some (.str (handT L ps)), u10] ∧ Same H5 H', ?_, ?_⟩
    · exact ⟨_, rfl, _, rfl, L, rp, ps, rfl, lr, O.sm, O.ok, hpl, fun H' S' => ⟨rfl, S'⟩⟩
    rintro σ6 H6 ⟨rfl, S6⟩
    have A6 := A5.same S6
    have T6 := T5.same S6
    have lr6 := lr.same S6
    refine ⟨fun σ' H' => σ' = [some (.ref a), some (.ref t), v2, some (.int L), some (.ref sp), some (.ref h), some (.ref rp), u7, u8, some (.str (handT L ps)), u10] ∧ Same H6 H', ?_, ?_⟩
    · refine ⟨_, rfl, h, d, b, L, ss, ps, rfl, A6, eps, O.sm, O.ok, hpl, fun H7 S7 => ⟨_, rfl, rfl, h, d, b, L, ss, ps, rfl, A6.same S7, eps, O.sm, O.ok, hpl, fun H8 S8 => ⟨(by show 2 ≤ sizeLine; decide), fun tp htp => ⟨_, rfl, _, rfl, (by show 2 ≤ sizeLine; decide), fun up hup => ?_⟩⟩⟩⟩
      refine ⟨.ref tp, .ref up, .list [.str (handT L ps), .str (handT L ps)], rfl, .lst (SqL.of ((same_upd hup) _ _ upd_same)) (.cons (.str _) (.cons (.str _) .nil)), .lst (SqL.of upd_same) (.cons (.str _) (.cons (.str _) .nil)), rfl, by simp [PyData.depth, PyData.depthAll], _, rfl, iteF ⟨rfl, ((S7.trans S8).trans (same_upd htp)).trans (same_upd hup)⟩⟩
    rintro σ7 H7 ⟨rfl, S7⟩
    have A7 := A6.same S7
    have T7 := T6.same S7
    have lr7 := lr6.same S7
    -- told
    refine ⟨_, rfl, L, ps, rfl, O, fun H8 h1 d1 b1 hh1 S8 B8 => ⟨_, rfl, rfl, L, ps, rfl, O, fun H9 h2 d2 b2 hh2 S9 B9 => ⟨(by show 2 ≤ sizeLine; decide), fun tp htp => ⟨tp, rfl, ⟨_, SqL.of upd_same⟩, ?_⟩⟩⟩⟩
    have St := same_upd (o := HO.lst [V.ref h1, .ref h2]) htp
    have gt : (upd H9 tp (.lst [V.ref h1, .ref h2])) tp = some (.lst [V.ref h1, .ref h2]) := upd_same
    have E1 := (B8.same S9).same St
    have E2 := B9.same St
    have S79 := (S8.trans S9).trans St
    have A8 := A7.same S79
    have T8 := T7.same S79
    have lr8 := lr7.same S79
    generalize upd H9 tp (.lst [V.ref h1, .ref h2]) = H10 at gt E1 E2 A8 T8 lr8 ⊢
    clear S79 St
    have tt : (decide (L = L) && decide (heardAll L (frs ps) = heardAll L (frs ss))) = true := by rw [O.cn, eps]; simp
    refine for_list (K := K) (a := tp) (xs := [.ref h1, .ref h2]) (fun i σ' H' => ∃ v10, σ' = [some (.ref a), some (.ref t), v2, some (.int L), some (.ref sp), some (.ref h), some (.ref rp), u7, u8, some (.str (handT L ps)), v10] ∧ Same H10 H') ⟨u10, rfl, fun _ _ e => e⟩ (fun i σ' H' _ ⟨_, _, S⟩ => SqL.of (S _ _ gt)) ?_ ?_
    · rintro i y σ' H11 hi ⟨v10, rfl, S11⟩
      obtain ⟨e, de, be, rfl, De⟩ : ∃ e de be, y = .ref e ∧ HandAt Z K H10 e de be L ps := by
        have hi2 : i < 2 := (List.getElem?_eq_some_iff.mp hi).1
        have : i = 0 ∨ i = 1 := by omega
        rcases this with rfl | rfl
        · exact ⟨h1, d1, b1, (Option.some.inj hi).symm, E1⟩
        · exact ⟨h2, d2, b2, (Option.some.inj hi).symm, E2⟩
      have De9 := De.same S11
      have A9 := A8.same S11
      obtain ⟨hx, e1⟩ := A9.ex
      obtain ⟨hx1, f1⟩ := De9.ex
      refine ⟨_, rfl, _, rfl, e, hx1, _, rfl, f1, .ins e1, e, de, be, L, ps, .ref h, rfl, De9, .inl ⟨h, d, b, L, ss, rfl, A9, ?_⟩⟩
      rw [tt]
      refine ⟨_, rfl, _, rfl, e, hx1, _, rfl, f1, hf_no _ _ (by decide +kernel) (by decide +kernel), e, de, be, L, ps, ps, rfl, De9, O.cn, fun pl H12 S12 hpl l1 => ?_⟩
      refine ⟨_, rfl, e, hx1, _, rfl, S12 _ _ f1, hf_no _ _ (by decide +kernel) (by decide +kernel), e, de, be, L, ps, rfl, De9.same S12, (by show 3 ≤ sizeLine; decide), fun wp hwp => ?_⟩
      refine ⟨_, rfl, _, rfl, (by show 3 ≤ sizeLine; decide), fun up hup => ?_⟩
      have Sw := same_upd (o := HO.lst [V.bl true, .ref pl, .int L]) hwp
      have Su := same_upd (o := HO.lst [V.bl true, .ref rp, .int L]) hup
      have lr10 := ((((lr8.same S11).same S12).same Sw).same Su).dp
      refine ⟨.ref wp, .ref up, .list [.bool true, .list (ps.map encP), .int L], rfl, .lst (SqL.of (Su _ _ upd_same)) (.cons (.bl _) (.cons ((l1.same Sw).same Su).dp (.cons (.int _) .nil))), .lst (SqL.of upd_same) (.cons (.bl _) (.cons lr10 (.cons (.int _) .nil))), few_three (by omega) L, depth_three _ _, _, rfl, iteF ⟨_, rfl, ((S11.trans S12).trans Sw).trans Su⟩⟩
    rintro σ9 H11 ⟨v10, rfl, S11⟩
    exact ⟨_, _, _, _, _, _, _, _, _, rfl, T8.same S11⟩
end
end KA
namespace KA
open PySem PySem.Spec PyProof.Rows L2 DP
theorem g11_of {α : Type} : ∀ {us ws : List α}, (g11 us ws).length = 2 → ∃ a b, us = [a] ∧ ws = [b]
  | [a], [b], _ => ⟨a, b, rfl, rfl⟩
  | [], _, h => nomatch (show (0 : Nat) = 2 from h)
  | [_], [], h => nomatch (show (0 : Nat) = 2 from h)
  | [_], _ :: _ :: _, h => nomatch (show (0 : Nat) = 2 from h)
  | _ :: _ :: _, _, h => nomatch (show (0 : Nat) = 2 from h)
theorem sqt2 {K : PySem.W.Frag} {H : Hp} {t : Addr} {x y : Str} {o : Option Addr} {u v : Tok} {n : Nat} {s : Array (Option Value)} (l : K.lookup t = some ⟨.type "tuple", o, .seq #[.str x u, .str y v] n, s⟩) : SqT K H t [.str x, .str y] :=
  .inr ⟨_, _, n, l, rfl, rfl, (by show 2 ≤ sizeLine; decide), .cons ⟨u, rfl⟩ (.cons ⟨v, rfl⟩ .nil)⟩
theorem sqt3 {K : PySem.W.Frag} {H : Hp} {t : Addr} {x y z : Str} {o : Option Addr} {u v q : Tok} {n : Nat} {s : Array (Option Value)} (l : K.lookup t = some ⟨.type "tuple", o, .seq #[.str x u, .str y v, .str z q] n, s⟩) : SqT K H t [.str x, .str y, .str z] :=
  .inr ⟨_, _, n, l, rfl, rfl, (by show 3 ≤ sizeLine; decide), .cons ⟨u, rfl⟩ (.cons ⟨v, rfl⟩ (.cons ⟨q, rfl⟩ .nil))⟩
theorem all_mk {l : PySem.W.OpenLaw} {w : World} {K : PySem.W.Frag} {h : Heap} {mg : Str → Option Value} {fa : Addr} (X : K.In h) (G : h.Ns mainGlobals mg) (hfa : mg "law" = some (.ref fa))
    {C : Addr}
    {C_Hand : Addr}
    {f0 : Addr} {od0 an0 : Option Addr} {sl0 : Array (Option Value)} {oc0 kV0 dc0 pm0 cd0 ct0 : Value}
    {f1 : Addr} {od1 an1 : Option Addr} {sl1 : Array (Option Value)} {oc1 kV1 dc1 pm1 cd1 ct1 : Value}
    {f2 : Addr} {od2 an2 : Option Addr} {sl2 : Array (Option Value)} {oc2 kV2 dc2 pm2 cd2 ct2 : Value}
    {f3 : Addr} {od3 an3 : Option Addr} {sl3 : Array (Option Value)} {oc3 kV3 dc3 pm3 cd3 ct3 : Value}
    {f4 : Addr} {od4 an4 : Option Addr} {sl4 : Array (Option Value)} {oc4 kV4 dc4 pm4 cd4 ct4 : Value}
    {f5 : Addr} {od5 an5 : Option Addr} {sl5 : Array (Option Value)} {oc5 kV5 dc5 pm5 cd5 ct5 : Value}
    {f6 : Addr} {od6 an6 : Option Addr} {sl6 : Array (Option Value)} {oc6 kV6 dc6 pm6 cd6 ct6 : Value}
    {f7 : Addr} {od7 an7 : Option Addr} {sl7 : Array (Option Value)} {oc7 kV7 dc7 pm7 cd7 ct7 : Value}
    {f8 : Addr} {od8 an8 : Option Addr} {sl8 : Array (Option Value)} {oc8 kV8 dc8 pm8 cd8 ct8 : Value}
    {f9 : Addr} {od9 an9 : Option Addr} {sl9 : Array (Option Value)} {oc9 kV9 dc9 pm9 cd9 ct9 : Value}
    {f10 : Addr} {od10 an10 : Option Addr} {sl10 : Array (Option Value)} {oc10 kV10 dc10 pm10 cd10 ct10 : Value}
    {f11 : Addr} {od11 an11 : Option Addr} {sl11 : Array (Option Value)} {oc11 kV11 dc11 pm11 cd11 ct11 : Value}
    {f12 : Addr} {od12 an12 : Option Addr} {sl12 : Array (Option Value)} {oc12 kV12 dc12 pm12 cd12 ct12 : Value}
    {f13 : Addr} {od13 an13 : Option Addr} {sl13 : Array (Option Value)} {oc13 kV13 dc13 pm13 cd13 ct13 : Value}
    {f14 : Addr} {od14 an14 : Option Addr} {sl14 : Array (Option Value)} {oc14 kV14 dc14 pm14 cd14 ct14 : Value}
    {f15 : Addr} {od15 an15 : Option Addr} {sl15 : Array (Option Value)} {oc15 kV15 dc15 pm15 cd15 ct15 : Value}
    {f16 : Addr} {od16 an16 : Option Addr} {sl16 : Array (Option Value)} {oc16 kV16 dc16 pm16 cd16 ct16 : Value}
    {f17 : Addr} {od17 an17 : Option Addr} {sl17 : Array (Option Value)} {oc17 kV17 dc17 pm17 cd17 ct17 : Value}
    {f18 : Addr} {od18 an18 : Option Addr} {sl18 : Array (Option Value)} {oc18 kV18 dc18 pm18 cd18 ct18 : Value}
    {f19 : Addr} {od19 an19 : Option Addr} {sl19 : Array (Option Value)} {oc19 kV19 dc19 pm19 cd19 ct19 : Value}
    {f20 : Addr} {od20 an20 : Option Addr} {sl20 : Array (Option Value)} {oc20 kV20 dc20 pm20 cd20 ct20 : Value}
    {f21 : Addr} {od21 an21 : Option Addr} {sl21 : Array (Option Value)} {oc21 kV21 dc21 pm21 cd21 ct21 : Value}
    {f22 : Addr} {od22 an22 : Option Addr} {sl22 : Array (Option Value)} {oc22 kV22 dc22 pm22 cd22 ct22 : Value}
    {f23 : Addr} {od23 an23 : Option Addr} {sl23 : Array (Option Value)} {oc23 kV23 dc23 pm23 cd23 ct23 : Value}
    {f24 : Addr} {od24 an24 : Option Addr} {sl24 : Array (Option Value)} {oc24 kV24 dc24 pm24 cd24 ct24 : Value}
    {f25 : Addr} {od25 an25 : Option Addr} {sl25 : Array (Option Value)} {oc25 kV25 dc25 pm25 cd25 ct25 : Value}
    {f26 : Addr} {od26 an26 : Option Addr} {sl26 : Array (Option Value)} {oc26 kV26 dc26 pm26 cd26 ct26 : Value}
    {f27 : Addr} {od27 an27 : Option Addr} {sl27 : Array (Option Value)} {oc27 kV27 dc27 pm27 cd27 ct27 : Value}
    {f28 : Addr} {od28 an28 : Option Addr} {sl28 : Array (Option Value)} {oc28 kV28 dc28 pm28 cd28 ct28 : Value}
    {f29 : Addr} {od29 an29 : Option Addr} {sl29 : Array (Option Value)} {oc29 kV29 dc29 pm29 cd29 ct29 : Value}
    {f30 : Addr} {od30 an30 : Option Addr} {sl30 : Array (Option Value)} {oc30 kV30 dc30 pm30 cd30 ct30 : Value}
    {f31 : Addr} {od31 an31 : Option Addr} {sl31 : Array (Option Value)} {oc31 kV31 dc31 pm31 cd31 ct31 : Value}
    {f32 : Addr} {od32 an32 : Option Addr} {sl32 : Array (Option Value)} {oc32 kV32 dc32 pm32 cd32 ct32 : Value}
    {tcFIGURES : Tok}
    {tcMOST_FIGURES : Tok}
    {tSLOW : Tok}
    {tFAST : Tok}
    {aW aL tS tF : Addr} {es : Array DictEntry} {nW n1 n2 n3 : Nat} {o1 o2 o3 : Option Addr} {s1 s2 s3 : Array (Option Value)} {u1 u2 u3 u4 u5 u6 u7 : Tok}
    (aC : PySem.W.nsIn K mainGlobals "Dark" = some (some (.ref C)))
    (aC_Hand : PySem.W.nsIn K mainGlobals "Hand" = some (some (.ref C_Hand)))
    (a0 : PySem.W.nsIn K mainGlobals "_law_tray" = some (some (.ref f0)))
    (l0 : K.lookup f0 = some ⟨oc0, od0, .func (PySem.W.fnOf "_law_tray" "_law_tray" (defArgs slaw_tray) (defBody slaw_tray) (defScope slaw_tray) .none kV0 dc0 pm0 an0 cd0 ct0), sl0⟩)
    (c0 : PySem.W.codeIn K cd0 "_law_tray" = true)
    (k0 : PySem.W.keepIn K (.ref f0) = true)
    (a1 : PySem.W.nsIn K mainGlobals "_law_draw" = some (some (.ref f1)))
    (l1 : K.lookup f1 = some ⟨oc1, od1, .func (PySem.W.fnOf "_law_draw" "_law_draw" (defArgs slaw_draw) (defBody slaw_draw) (defScope slaw_draw) .none kV1 dc1 pm1 an1 cd1 ct1), sl1⟩)
    (c1 : PySem.W.codeIn K cd1 "_law_draw" = true)
    (k1 : PySem.W.keepIn K (.ref f1) = true)
    (a2 : PySem.W.nsIn K mainGlobals "_law_great" = some (some (.ref f2)))
    (l2 : K.lookup f2 = some ⟨oc2, od2, .func (PySem.W.fnOf "_law_great" "_law_great" (defArgs slaw_great) (defBody slaw_great) (defScope slaw_great) .none kV2 dc2 pm2 an2 cd2 ct2), sl2⟩)
    (c2 : PySem.W.codeIn K cd2 "_law_great" = true)
    (k2 : PySem.W.keepIn K (.ref f2) = true)
    (a3 : PySem.W.nsIn K mainGlobals "_law_alike" = some (some (.ref f3)))
    (l3 : K.lookup f3 = some ⟨oc3, od3, .func (PySem.W.fnOf "_law_alike" "_law_alike" (defArgs slaw_alike) (defBody slaw_alike) (defScope slaw_alike) .none kV3 dc3 pm3 an3 cd3 ct3), sl3⟩)
    (c3 : PySem.W.codeIn K cd3 "_law_alike" = true)
    (k3 : PySem.W.keepIn K (.ref f3) = true)
    (a4 : PySem.W.nsIn K mainGlobals "_law_length" = some (some (.ref f4)))
    (l4 : K.lookup f4 = some ⟨oc4, od4, .func (PySem.W.fnOf "_law_length" "_law_length" (defArgs slaw_length) (defBody slaw_length) (defScope slaw_length) .none kV4 dc4 pm4 an4 cd4 ct4), sl4⟩)
    (c4 : PySem.W.codeIn K cd4 "_law_length" = true)
    (k4 : PySem.W.keepIn K (.ref f4) = true)
    (a5 : PySem.W.nsIn K mainGlobals "_law_secret" = some (some (.ref f5)))
    (l5 : K.lookup f5 = some ⟨oc5, od5, .func (PySem.W.fnOf "_law_secret" "_law_secret" (defArgs slaw_secret) (defBody slaw_secret) (defScope slaw_secret) .none kV5 dc5 pm5 an5 cd5 ct5), sl5⟩)
    (c5 : PySem.W.codeIn K cd5 "_law_secret" = true)
    (k5 : PySem.W.keepIn K (.ref f5) = true)
    (a6 : PySem.W.nsIn K mainGlobals "_law_hand_shown" = some (some (.ref f6)))
    (l6 : K.lookup f6 = some ⟨oc6, od6, .func (PySem.W.fnOf "_law_hand_shown" "_law_hand_shown" (defArgs slaw_hand_shown) (defBody slaw_hand_shown) (defScope slaw_hand_shown) .none kV6 dc6 pm6 an6 cd6 ct6), sl6⟩)
    (c6 : PySem.W.codeIn K cd6 "_law_hand_shown" = true)
    (k6 : PySem.W.keepIn K (.ref f6) = true)
    (a7 : PySem.W.nsIn K mainGlobals "_law_steps" = some (some (.ref f7)))
    (l7 : K.lookup f7 = some ⟨oc7, od7, .func (PySem.W.fnOf "_law_steps" "_law_steps" (defArgs slaw_steps) (defBody slaw_steps) (defScope slaw_steps) .none kV7 dc7 pm7 an7 cd7 ct7), sl7⟩)
    (c7 : PySem.W.codeIn K cd7 "_law_steps" = true)
    (k7 : PySem.W.keepIn K (.ref f7) = true)
    (a8 : PySem.W.nsIn K mainGlobals "figures" = some (some (.ref f8)))
    (l8 : K.lookup f8 = some ⟨oc8, od8, .func (PySem.W.fnOf "figures" "figures" (defArgs sfigures) (defBody sfigures) (defScope sfigures) .none kV8 dc8 pm8 an8 cd8 ct8), sl8⟩)
    (c8 : PySem.W.codeIn K cd8 "figures" = true)
    (k8 : PySem.W.keepIn K (.ref f8) = true)
    (a9 : PySem.W.nsIn K mainGlobals "show_step" = some (some (.ref f9)))
    (l9 : K.lookup f9 = some ⟨oc9, od9, .func (PySem.W.fnOf "show_step" "show_step" (defArgs sshow_step) (defBody sshow_step) (defScope sshow_step) .none kV9 dc9 pm9 an9 cd9 ct9), sl9⟩)
    (c9 : PySem.W.codeIn K cd9 "show_step" = true)
    (k9 : PySem.W.keepIn K (.ref f9) = true)
    (a10 : PySem.W.nsIn K mainGlobals "show_hand" = some (some (.ref f10)))
    (l10 : K.lookup f10 = some ⟨oc10, od10, .func (PySem.W.fnOf "show_hand" "show_hand" (defArgs sshow_hand) (defBody sshow_hand) (defScope sshow_hand) .none kV10 dc10 pm10 an10 cd10 ct10), sl10⟩)
    (c10 : PySem.W.codeIn K cd10 "show_hand" = true)
    (k10 : PySem.W.keepIn K (.ref f10) = true)
    (a11 : PySem.W.nsIn K mainGlobals "number_of" = some (some (.ref f11)))
    (l11 : K.lookup f11 = some ⟨oc11, od11, .func (PySem.W.fnOf "number_of" "number_of" (defArgs snumber_of) (defBody snumber_of) (defScope snumber_of) .none kV11 dc11 pm11 an11 cd11 ct11), sl11⟩)
    (c11 : PySem.W.codeIn K cd11 "number_of" = true)
    (k11 : PySem.W.keepIn K (.ref f11) = true)
    (a12 : PySem.W.nsIn K mainGlobals "length_of" = some (some (.ref f12)))
    (l12 : K.lookup f12 = some ⟨oc12, od12, .func (PySem.W.fnOf "length_of" "length_of" (defArgs slength_of) (defBody slength_of) (defScope slength_of) .none kV12 dc12 pm12 an12 cd12 ct12), sl12⟩)
    (c12 : PySem.W.codeIn K cd12 "length_of" = true)
    (k12 : PySem.W.keepIn K (.ref f12) = true)
    (a13 : PySem.W.nsIn K mainGlobals "step_of" = some (some (.ref f13)))
    (l13 : K.lookup f13 = some ⟨oc13, od13, .func (PySem.W.fnOf "step_of" "step_of" (defArgs sstep_of) (defBody sstep_of) (defScope sstep_of) .none kV13 dc13 pm13 an13 cd13 ct13), sl13⟩)
    (c13 : PySem.W.codeIn K cd13 "step_of" = true)
    (k13 : PySem.W.keepIn K (.ref f13) = true)
    (a14 : PySem.W.nsIn K mainGlobals "hand_of" = some (some (.ref f14)))
    (l14 : K.lookup f14 = some ⟨oc14, od14, .func (PySem.W.fnOf "hand_of" "hand_of" (defArgs shand_of) (defBody shand_of) (defScope shand_of) .none kV14 dc14 pm14 an14 cd14 ct14), sl14⟩)
    (c14 : PySem.W.codeIn K cd14 "hand_of" = true)
    (k14 : PySem.W.keepIn K (.ref f14) = true)
    (a15 : PySem.W.nsIn K mainGlobals "read_hand" = some (some (.ref f15)))
    (l15 : K.lookup f15 = some ⟨oc15, od15, .func (PySem.W.fnOf "read_hand" "read_hand" (defArgs sread_hand) (defBody sread_hand) (defScope sread_hand) .none kV15 dc15 pm15 an15 cd15 ct15), sl15⟩)
    (c15 : PySem.W.codeIn K cd15 "read_hand" = true)
    (k15 : PySem.W.keepIn K (.ref f15) = true)
    (a16 : PySem.W.nsIn K mainGlobals "too_far" = some (some (.ref f16)))
    (l16 : K.lookup f16 = some ⟨oc16, od16, .func (PySem.W.fnOf "too_far" "too_far" (defArgs stoo_far) (defBody stoo_far) (defScope stoo_far) .none kV16 dc16 pm16 an16 cd16 ct16), sl16⟩)
    (c16 : PySem.W.codeIn K cd16 "too_far" = true)
    (k16 : PySem.W.keepIn K (.ref f16) = true)
    (a17 : PySem.W.nsIn K mainGlobals "clash" = some (some (.ref f17)))
    (l17 : K.lookup f17 = some ⟨oc17, od17, .func (PySem.W.fnOf "clash" "clash" (defArgs sclash) (defBody sclash) (defScope sclash) .none kV17 dc17 pm17 an17 cd17 ct17), sl17⟩)
    (c17 : PySem.W.codeIn K cd17 "clash" = true)
    (k17 : PySem.W.keepIn K (.ref f17) = true)
    (a18 : PySem.W.nsIn K mainGlobals "place_by" = some (some (.ref f18)))
    (l18 : K.lookup f18 = some ⟨oc18, od18, .func (PySem.W.fnOf "place_by" "place_by" (defArgs splace_by) (defBody splace_by) (defScope splace_by) .none kV18 dc18 pm18 an18 cd18 ct18), sl18⟩)
    (c18 : PySem.W.codeIn K cd18 "place_by" = true)
    (k18 : PySem.W.keepIn K (.ref f18) = true)
    (a19 : PySem.W.findIn K (.ref C) "__init__" = some (some (.ref f19)))
    (i19 : PySem.W.isFn K (.ref f19) = true)
    (l19 : K.lookup f19 = some ⟨oc19, od19, .func (PySem.W.fnOf "__init__" "Dark.__init__" (defArgs sDark_init) (defBody sDark_init) (defScope sDark_init) .none kV19 dc19 pm19 an19 cd19 ct19), sl19⟩)
    (c19 : PySem.W.codeIn K cd19 "Dark.__init__" = true)
    (k19 : PySem.W.keepIn K (.ref f19) = true)
    (a20 : PySem.W.findIn K (.ref C) "__eq__" = some (some (.ref f20)))
    (i20 : PySem.W.isFn K (.ref f20) = true)
    (l20 : K.lookup f20 = some ⟨oc20, od20, .func (PySem.W.fnOf "__eq__" "Dark.__eq__" (defArgs sDark_eq) (defBody sDark_eq) (defScope sDark_eq) .none kV20 dc20 pm20 an20 cd20 ct20), sl20⟩)
    (c20 : PySem.W.codeIn K cd20 "Dark.__eq__" = true)
    (k20 : PySem.W.keepIn K (.ref f20) = true)
    (a21 : PySem.W.findIn K (.ref C) "length" = some (some (.ref f21)))
    (i21 : PySem.W.isFn K (.ref f21) = true)
    (l21 : K.lookup f21 = some ⟨oc21, od21, .func (PySem.W.fnOf "length" "Dark.length" (defArgs sDark_length) (defBody sDark_length) (defScope sDark_length) .none kV21 dc21 pm21 an21 cd21 ct21), sl21⟩)
    (c21 : PySem.W.codeIn K cd21 "Dark.length" = true)
    (k21 : PySem.W.keepIn K (.ref f21) = true)
    (a22 : PySem.W.findIn K (.ref C) "hear" = some (some (.ref f22)))
    (i22 : PySem.W.isFn K (.ref f22) = true)
    (l22 : K.lookup f22 = some ⟨oc22, od22, .func (PySem.W.fnOf "hear" "Dark.hear" (defArgs sDark_hear) (defBody sDark_hear) (defScope sDark_hear) .none kV22 dc22 pm22 an22 cd22 ct22), sl22⟩)
    (c22 : PySem.W.codeIn K cd22 "Dark.hear" = true)
    (k22 : PySem.W.keepIn K (.ref f22) = true)
    (a23 : PySem.W.findIn K (.ref C) "looks" = some (some (.ref f23)))
    (i23 : PySem.W.isFn K (.ref f23) = true)
    (l23 : K.lookup f23 = some ⟨oc23, od23, .func (PySem.W.fnOf "looks" "Dark.looks" (defArgs sDark_looks) (defBody sDark_looks) (defScope sDark_looks) .none kV23 dc23 pm23 an23 cd23 ct23), sl23⟩)
    (c23 : PySem.W.codeIn K cd23 "Dark.looks" = true)
    (k23 : PySem.W.keepIn K (.ref f23) = true)
    (a24 : PySem.W.findIn K (.ref C) "led_back" = some (some (.ref f24)))
    (i24 : PySem.W.isFn K (.ref f24) = true)
    (l24 : K.lookup f24 = some ⟨oc24, od24, .func (PySem.W.fnOf "led_back" "Dark.led_back" (defArgs sDark_led_back) (defBody sDark_led_back) (defScope sDark_led_back) .none kV24 dc24 pm24 an24 cd24 ct24), sl24⟩)
    (c24 : PySem.W.codeIn K cd24 "Dark.led_back" = true)
    (k24 : PySem.W.keepIn K (.ref f24) = true)
    (a25 : PySem.W.findIn K (.ref C) "_check_word" = some (some (.ref f25)))
    (i25 : PySem.W.isFn K (.ref f25) = true)
    (l25 : K.lookup f25 = some ⟨oc25, od25, .func (PySem.W.fnOf "_check_word" "Dark._check_word" (defArgs sDarkcheck_word) (defBody sDarkcheck_word) (defScope sDarkcheck_word) .none kV25 dc25 pm25 an25 cd25 ct25), sl25⟩)
    (c25 : PySem.W.codeIn K cd25 "Dark._check_word" = true)
    (k25 : PySem.W.keepIn K (.ref f25) = true)
    (a26 : PySem.W.findIn K (.ref C) "_home" = some (some (.ref f26)))
    (i26 : PySem.W.isFn K (.ref f26) = true)
    (l26 : K.lookup f26 = some ⟨oc26, od26, .func (PySem.W.fnOf "_home" "Dark._home" (defArgs sDarkhome) (defBody sDarkhome) (defScope sDarkhome) .none kV26 dc26 pm26 an26 cd26 ct26), sl26⟩)
    (c26 : PySem.W.codeIn K cd26 "Dark._home" = true)
    (k26 : PySem.W.keepIn K (.ref f26) = true)
    (a27 : PySem.W.findIn K (.ref C) "_clashing" = some (some (.ref f27)))
    (i27 : PySem.W.isFn K (.ref f27) = true)
    (l27 : K.lookup f27 = some ⟨oc27, od27, .func (PySem.W.fnOf "_clashing" "Dark._clashing" (defArgs sDarkclashing) (defBody sDarkclashing) (defScope sDarkclashing) .none kV27 dc27 pm27 an27 cd27 ct27), sl27⟩)
    (c27 : PySem.W.codeIn K cd27 "Dark._clashing" = true)
    (k27 : PySem.W.keepIn K (.ref f27) = true)
    (a28 : PySem.W.findIn K (.ref C_Hand) "__init__" = some (some (.ref f28)))
    (i28 : PySem.W.isFn K (.ref f28) = true)
    (l28 : K.lookup f28 = some ⟨oc28, od28, .func (PySem.W.fnOf "__init__" "Hand.__init__" (defArgs sHand_init) (defBody sHand_init) (defScope sHand_init) .none kV28 dc28 pm28 an28 cd28 ct28), sl28⟩)
    (c28 : PySem.W.codeIn K cd28 "Hand.__init__" = true)
    (k28 : PySem.W.keepIn K (.ref f28) = true)
    (a29 : PySem.W.findIn K (.ref C_Hand) "__eq__" = some (some (.ref f29)))
    (i29 : PySem.W.isFn K (.ref f29) = true)
    (l29 : K.lookup f29 = some ⟨oc29, od29, .func (PySem.W.fnOf "__eq__" "Hand.__eq__" (defArgs sHand_eq) (defBody sHand_eq) (defScope sHand_eq) .none kV29 dc29 pm29 an29 cd29 ct29), sl29⟩)
    (c29 : PySem.W.codeIn K cd29 "Hand.__eq__" = true)
    (k29 : PySem.W.keepIn K (.ref f29) = true)
    (a30 : PySem.W.findIn K (.ref C_Hand) "length" = some (some (.ref f30)))
    (i30 : PySem.W.isFn K (.ref f30) = true)
    (l30 : K.lookup f30 = some ⟨oc30, od30, .func (PySem.W.fnOf "length" "Hand.length" (defArgs sHand_length) (defBody sHand_length) (defScope sHand_length) .none kV30 dc30 pm30 an30 cd30 ct30), sl30⟩)
    (c30 : PySem.W.codeIn K cd30 "Hand.length" = true)
    (k30 : PySem.W.keepIn K (.ref f30) = true)
    (a31 : PySem.W.findIn K (.ref C_Hand) "steps" = some (some (.ref f31)))
    (i31 : PySem.W.isFn K (.ref f31) = true)
    (l31 : K.lookup f31 = some ⟨oc31, od31, .func (PySem.W.fnOf "steps" "Hand.steps" (defArgs sHand_steps) (defBody sHand_steps) (defScope sHand_steps) .none kV31 dc31 pm31 an31 cd31 ct31), sl31⟩)
    (c31 : PySem.W.codeIn K cd31 "Hand.steps" = true)
    (k31 : PySem.W.keepIn K (.ref f31) = true)
    (a32 : PySem.W.nsIn K mainGlobals "law" = some (some (.ref f32)))
    (l32 : K.lookup f32 = some ⟨oc32, od32, .func (PySem.W.fnOf "law" "law" (defArgs slaw) (defBody slaw) (defScope slaw) .none kV32 dc32 pm32 an32 cd32 ct32), sl32⟩)
    (c32 : PySem.W.codeIn K cd32 "law" = true)
    (k32 : PySem.W.keepIn K (.ref f32) = true)
    (pg : PySem.W.plainGet K C Str.empty = true)
    (hd : PySem.W.hasDictIn K C = true)
    (po : PySem.W.plainOver K C = true)
    (sa : PySem.W.findIn K (.ref C) "__setattr__" = some (some (.builtin "object.__setattr__")))
    (mk : PySem.W.makesIn K C = true)
    (kc : PySem.W.keepIn K (.ref C) = true)
    (n_length : PySem.W.findIn K (.ref C) "_length" = some none)
    (n_looks : PySem.W.findIn K (.ref C) "_looks" = some none)
    (pg_Hand : PySem.W.plainGet K C_Hand Str.empty = true)
    (hd_Hand : PySem.W.hasDictIn K C_Hand = true)
    (po_Hand : PySem.W.plainOver K C_Hand = true)
    (sa_Hand : PySem.W.findIn K (.ref C_Hand) "__setattr__" = some (some (.builtin "object.__setattr__")))
    (mk_Hand : PySem.W.makesIn K C_Hand = true)
    (kc_Hand : PySem.W.keepIn K (.ref C_Hand) = true)
    (nHand__dark : PySem.W.findIn K (.ref C_Hand) "_dark" = some none)
    (nHand__back : PySem.W.findIn K (.ref C_Hand) "_back" = some none)
    (jha : PySem.W.findIn K (.ref C) "__class__" = some (some (.builtin "object.__class__")))
    (jhn : PySem.W.specialIn K (.builtin "object.__class__") "__get__" = some (some (.builtin "getset_descriptor.__get__")))
    (jtk : PySem.W.takesIn K (.builtin "object.__class__") = some true)
    (jm : PySem.W.mroIn K C (.type "object") = some true)
    (jic : PySem.W.isClsIn K C = true)
    (jty : PySem.W.typeIn K (.ref C) = some (.type "type"))
    (jsl : PySem.W.subIn K (.type "list") (.ref C) = some false)
    (jsi : PySem.W.subIn K (.type "int") (.ref C) = some false)
    (jnl : PySem.W.notFirst K C (.type "list") = true)
    (jni : PySem.W.notFirst K C (.type "int") = true)
    (jha_Hand : PySem.W.findIn K (.ref C_Hand) "__class__" = some (some (.builtin "object.__class__")))
    (jhn_Hand : PySem.W.specialIn K (.builtin "object.__class__") "__get__" = some (some (.builtin "getset_descriptor.__get__")))
    (jtk_Hand : PySem.W.takesIn K (.builtin "object.__class__") = some true)
    (jm_Hand : PySem.W.mroIn K C_Hand (.type "object") = some true)
    (b_max : PySem.W.nsIn K mainGlobals "max" = some none)
    (b_min : PySem.W.nsIn K mainGlobals "min" = some none)
    (b_len : PySem.W.nsIn K mainGlobals "len" = some none)
    (b_range : PySem.W.nsIn K mainGlobals "range" = some none)
    (b_sorted : PySem.W.nsIn K mainGlobals "sorted" = some none)
    (b_set : PySem.W.nsIn K mainGlobals "set" = some none)
    (b_isinstance : PySem.W.nsIn K mainGlobals "isinstance" = some none)
    (b_list : PySem.W.nsIn K mainGlobals "list" = some none)
    (b_tuple : PySem.W.nsIn K mainGlobals "tuple" = some none)
    (b_bool : PySem.W.nsIn K mainGlobals "bool" = some none)
    (b_int : PySem.W.nsIn K mainGlobals "int" = some none)
    (b_str : PySem.W.nsIn K mainGlobals "str" = some none)
    (b_all : PySem.W.nsIn K mainGlobals "all" = some none)
    (b_reversed : PySem.W.nsIn K mainGlobals "reversed" = some none)
    (gcFIGURES : PySem.W.nsIn K mainGlobals "FIGURES" = some (some (.str "0123456789" tcFIGURES)))
    (gcMOST_FIGURES : PySem.W.nsIn K mainGlobals "MOST_FIGURES" = some (some (.int (60) tcMOST_FIGURES)))
    (gSLOW : PySem.W.nsIn K mainGlobals "SLOW" = some (some (.str "slow" tSLOW)))
    (gFAST : PySem.W.nsIn K mainGlobals "FAST" = some (some (.str "fast" tFAST)))
    (gW : PySem.W.nsIn K mainGlobals "WORDS" = some (some (.ref aW)))
    (lW : K.lookup aW = some ⟨.type "dict", none, .dict es nW, #[]⟩)
    (keys : PySem.W.KeysLit w.params es.toList)
    (low : (aW == sysModules) = false)
    (wS : PySem.W.nsIn K aW "slow" = some (some (.ref tS)))
    (wF : PySem.W.nsIn K aW "fast" = some (some (.ref tF)))
    (lS : K.lookup tS = some ⟨.type "tuple", o1, .seq #[.str "at" u1, .str "from" u2] n1, s1⟩)
    (lF : K.lookup tF = some ⟨.type "tuple", o2, .seq #[.str "at" u3, .str "upto" u4] n2, s2⟩)
    (gL : PySem.W.nsIn K mainGlobals "LOOK_WORDS" = some (some (.ref aL)))
    (lL : K.lookup aL = some ⟨.type "tuple", o3, .seq #[.str "at" u5, .str "from" u6, .str "upto" u7] n3, s3⟩) :
    ∃ fd : FuncData, (∀ (s : Shared) (v : Value), BindsTo s fd ⟨[v], []⟩ [("script", v)]) ∧ ∀ base : Heap, K.In base → base.Ns mainGlobals mg → FnOk l.prog w K mg base CX0 12 fa fd ["script"] (spLaw K) := by
  have e := hfa.symm.trans (PySem.W.mg_of X G a32)
  cases e
  have F0 := fun_mk (st := slaw_tray) l0 c0 k0
  have F1 := fun_mk (st := slaw_draw) l1 c1 k1
  have F2 := fun_mk (st := slaw_great) l2 c2 k2
  have F3 := fun_mk (st := slaw_alike) l3 c3 k3
  have F4 := fun_mk (st := slaw_length) l4 c4 k4
  have F5 := fun_mk (st := slaw_secret) l5 c5 k5
  have F6 := fun_mk (st := slaw_hand_shown) l6 c6 k6
  have F7 := fun_mk (st := slaw_steps) l7 c7 k7
  have F8 := fun_mk (st := sfigures) l8 c8 k8
  have F9 := fun_mk (st := sshow_step) l9 c9 k9
  have F10 := fun_mk (st := sshow_hand) l10 c10 k10
  have F11 := fun_mk (st := snumber_of) l11 c11 k11
  have F12 := fun_mk (st := slength_of) l12 c12 k12
  have F13 := fun_mk (st := sstep_of) l13 c13 k13
  have F14 := fun_mk (st := shand_of) l14 c14 k14
  have F15 := fun_mk (st := sread_hand) l15 c15 k15
  have F16 := fun_mk (st := stoo_far) l16 c16 k16
  have F17 := fun_mk (st := sclash) l17 c17 k17
  have F18 := fun_mk (st := splace_by) l18 c18 k18
  have F19 := fun_mk (st := sDark_init) l19 c19 k19
  have F20 := fun_mk (st := sDark_eq) l20 c20 k20
  have F21 := fun_mk (st := sDark_length) l21 c21 k21
  have F22 := fun_mk (st := sDark_hear) l22 c22 k22
  have F23 := fun_mk (st := sDark_looks) l23 c23 k23
  have F24 := fun_mk (st := sDark_led_back) l24 c24 k24
  have F25 := fun_mk (st := sDarkcheck_word) l25 c25 k25
  have F26 := fun_mk (st := sDarkhome) l26 c26 k26
  have F27 := fun_mk (st := sDarkclashing) l27 c27 k27
  have F28 := fun_mk (st := sHand_init) l28 c28 k28
  have F29 := fun_mk (st := sHand_eq) l29 c29 k29
  have F30 := fun_mk (st := sHand_length) l30 c30 k30
  have F31 := fun_mk (st := sHand_steps) l31 c31 k31
  have F32 := fun_mk (st := slaw) l32 c32 k32
  let Z : Ad := {
    a_law_tray := f0,
    d_law_tray := PySem.W.fnOf "_law_tray" "_law_tray" (defArgs slaw_tray) (defBody slaw_tray) (defScope slaw_tray) .none kV0 dc0 pm0 an0 cd0 ct0,
    a_law_draw := f1,
    d_law_draw := PySem.W.fnOf "_law_draw" "_law_draw" (defArgs slaw_draw) (defBody slaw_draw) (defScope slaw_draw) .none kV1 dc1 pm1 an1 cd1 ct1,
    a_law_great := f2,
    d_law_great := PySem.W.fnOf "_law_great" "_law_great" (defArgs slaw_great) (defBody slaw_great) (defScope slaw_great) .none kV2 dc2 pm2 an2 cd2 ct2,
    a_law_alike := f3,
    d_law_alike := PySem.W.fnOf "_law_alike" "_law_alike" (defArgs slaw_alike) (defBody slaw_alike) (defScope slaw_alike) .none kV3 dc3 pm3 an3 cd3 ct3,
    a_law_length := f4,
    d_law_length := PySem.W.fnOf "_law_length" "_law_length" (defArgs slaw_length) (defBody slaw_length) (defScope slaw_length) .none kV4 dc4 pm4 an4 cd4 ct4,
    a_law_secret := f5,
    d_law_secret := PySem.W.fnOf "_law_secret" "_law_secret" (defArgs slaw_secret) (defBody slaw_secret) (defScope slaw_secret) .none kV5 dc5 pm5 an5 cd5 ct5,
    a_law_hand_shown := f6,
    d_law_hand_shown := PySem.W.fnOf "_law_hand_shown" "_law_hand_shown" (defArgs slaw_hand_shown) (defBody slaw_hand_shown) (defScope slaw_hand_shown) .none kV6 dc6 pm6 an6 cd6 ct6,
    a_law_steps := f7,
    d_law_steps := PySem.W.fnOf "_law_steps" "_law_steps" (defArgs slaw_steps) (defBody slaw_steps) (defScope slaw_steps) .none kV7 dc7 pm7 an7 cd7 ct7,
    a_figures := f8,
    d_figures := PySem.W.fnOf "figures" "figures" (defArgs sfigures) (defBody sfigures) (defScope sfigures) .none kV8 dc8 pm8 an8 cd8 ct8,
    a_show_step := f9,
    d_show_step := PySem.W.fnOf "show_step" "show_step" (defArgs sshow_step) (defBody sshow_step) (defScope sshow_step) .none kV9 dc9 pm9 an9 cd9 ct9,
    a_show_hand := f10,
    d_show_hand := PySem.W.fnOf "show_hand" "show_hand" (defArgs sshow_hand) (defBody sshow_hand) (defScope sshow_hand) .none kV10 dc10 pm10 an10 cd10 ct10,
    a_number_of := f11,
    d_number_of := PySem.W.fnOf "number_of" "number_of" (defArgs snumber_of) (defBody snumber_of) (defScope snumber_of) .none kV11 dc11 pm11 an11 cd11 ct11,
    a_length_of := f12,
    d_length_of := PySem.W.fnOf "length_of" "length_of" (defArgs slength_of) (defBody slength_of) (defScope slength_of) .none kV12 dc12 pm12 an12 cd12 ct12,
    a_step_of := f13,
    d_step_of := PySem.W.fnOf "step_of" "step_of" (defArgs sstep_of) (defBody sstep_of) (defScope sstep_of) .none kV13 dc13 pm13 an13 cd13 ct13,
    a_hand_of := f14,
    d_hand_of := PySem.W.fnOf "hand_of" "hand_of" (defArgs shand_of) (defBody shand_of) (defScope shand_of) .none kV14 dc14 pm14 an14 cd14 ct14,
    a_read_hand := f15,
    d_read_hand := PySem.W.fnOf "read_hand" "read_hand" (defArgs sread_hand) (defBody sread_hand) (defScope sread_hand) .none kV15 dc15 pm15 an15 cd15 ct15,
    a_too_far := f16,
    d_too_far := PySem.W.fnOf "too_far" "too_far" (defArgs stoo_far) (defBody stoo_far) (defScope stoo_far) .none kV16 dc16 pm16 an16 cd16 ct16,
    a_clash := f17,
    d_clash := PySem.W.fnOf "clash" "clash" (defArgs sclash) (defBody sclash) (defScope sclash) .none kV17 dc17 pm17 an17 cd17 ct17,
    a_place_by := f18,
    d_place_by := PySem.W.fnOf "place_by" "place_by" (defArgs splace_by) (defBody splace_by) (defScope splace_by) .none kV18 dc18 pm18 an18 cd18 ct18,
    a_Dark_init := f19,
    d_Dark_init := PySem.W.fnOf "__init__" "Dark.__init__" (defArgs sDark_init) (defBody sDark_init) (defScope sDark_init) .none kV19 dc19 pm19 an19 cd19 ct19,
    a_Dark_eq := f20,
    d_Dark_eq := PySem.W.fnOf "__eq__" "Dark.__eq__" (defArgs sDark_eq) (defBody sDark_eq) (defScope sDark_eq) .none kV20 dc20 pm20 an20 cd20 ct20,
    a_Dark_length := f21,
    d_Dark_length := PySem.W.fnOf "length" "Dark.length" (defArgs sDark_length) (defBody sDark_length) (defScope sDark_length) .none kV21 dc21 pm21 an21 cd21 ct21,
    a_Dark_hear := f22,
    d_Dark_hear := PySem.W.fnOf "hear" "Dark.hear" (defArgs sDark_hear) (defBody sDark_hear) (defScope sDark_hear) .none kV22 dc22 pm22 an22 cd22 ct22,
    a_Dark_looks := f23,
    d_Dark_looks := PySem.W.fnOf "looks" "Dark.looks" (defArgs sDark_looks) (defBody sDark_looks) (defScope sDark_looks) .none kV23 dc23 pm23 an23 cd23 ct23,
    a_Dark_led_back := f24,
    d_Dark_led_back := PySem.W.fnOf "led_back" "Dark.led_back" (defArgs sDark_led_back) (defBody sDark_led_back) (defScope sDark_led_back) .none kV24 dc24 pm24 an24 cd24 ct24,
    a_Darkcheck_word := f25,
    d_Darkcheck_word := PySem.W.fnOf "_check_word" "Dark._check_word" (defArgs sDarkcheck_word) (defBody sDarkcheck_word) (defScope sDarkcheck_word) .none kV25 dc25 pm25 an25 cd25 ct25,
    a_Darkhome := f26,
    d_Darkhome := PySem.W.fnOf "_home" "Dark._home" (defArgs sDarkhome) (defBody sDarkhome) (defScope sDarkhome) .none kV26 dc26 pm26 an26 cd26 ct26,
    a_Darkclashing := f27,
    d_Darkclashing := PySem.W.fnOf "_clashing" "Dark._clashing" (defArgs sDarkclashing) (defBody sDarkclashing) (defScope sDarkclashing) .none kV27 dc27 pm27 an27 cd27 ct27,
    a_Hand_init := f28,
    d_Hand_init := PySem.W.fnOf "__init__" "Hand.__init__" (defArgs sHand_init) (defBody sHand_init) (defScope sHand_init) .none kV28 dc28 pm28 an28 cd28 ct28,
    a_Hand_eq := f29,
    d_Hand_eq := PySem.W.fnOf "__eq__" "Hand.__eq__" (defArgs sHand_eq) (defBody sHand_eq) (defScope sHand_eq) .none kV29 dc29 pm29 an29 cd29 ct29,
    a_Hand_length := f30,
    d_Hand_length := PySem.W.fnOf "length" "Hand.length" (defArgs sHand_length) (defBody sHand_length) (defScope sHand_length) .none kV30 dc30 pm30 an30 cd30 ct30,
    a_Hand_steps := f31,
    d_Hand_steps := PySem.W.fnOf "steps" "Hand.steps" (defArgs sHand_steps) (defBody sHand_steps) (defScope sHand_steps) .none kV31 dc31 pm31 an31 cd31 ct31,
    a_law := fa,
    d_law := PySem.W.fnOf "law" "law" (defArgs slaw) (defBody slaw) (defScope slaw) .none kV32 dc32 pm32 an32 cd32 ct32,
    C := C,
    C_Hand := C_Hand,
    v_FIGURES := .str "0123456789" tcFIGURES,
    v_MOST_FIGURES := .int (60) tcMOST_FIGURES,
    v_SLOW := .str "slow" tSLOW,
    v_FAST := .str "fast" tFAST,
    a_WORDS := aW,
    a_LW := aL,
    t_slow := tS,
    t_fast := tF }
  have T : Tx K w mg Z := {
    F_law_tray := F0,
    bb_law_tray := F0.binds (ps := P_law_tray) fun _ _ _ _ _ _ us hl => match us, hl with | [_], _ => rfl,
    g_law_tray := PySem.W.mg_of X G a0,
    F_law_draw := F1,
    bb_law_draw := F1.binds (ps := P_law_draw) fun _ _ _ _ _ _ us hl => match us, hl with | [_, _], _ => rfl,
    g_law_draw := PySem.W.mg_of X G a1,
    F_law_great := F2,
    bb_law_great := F2.binds (ps := P_law_great) fun _ _ _ _ _ _ us hl => match us, hl with | [_], _ => rfl,
    g_law_great := PySem.W.mg_of X G a2,
    F_law_alike := F3,
    bb_law_alike := F3.binds (ps := P_law_alike) fun _ _ _ _ _ _ us hl => match us, hl with | [_, _], _ => rfl,
    g_law_alike := PySem.W.mg_of X G a3,
    F_law_length := F4,
    bb_law_length := F4.binds (ps := P_law_length) fun _ _ _ _ _ _ us hl => match us, hl with | [_], _ => rfl,
    g_law_length := PySem.W.mg_of X G a4,
    F_law_secret := F5,
    bb_law_secret := F5.binds (ps := P_law_secret) fun _ _ _ _ _ _ us hl => match us, hl with | [_, _], _ => rfl,
    g_law_secret := PySem.W.mg_of X G a5,
    F_law_hand_shown := F6,
    bb_law_hand_shown := F6.binds (ps := P_law_hand_shown) fun _ _ _ _ _ _ us hl => match us, hl with | [_, _], _ => rfl,
    g_law_hand_shown := PySem.W.mg_of X G a6,
    F_law_steps := F7,
    bb_law_steps := F7.binds (ps := P_law_steps) fun _ _ _ _ _ _ us hl => match us, hl with | [_, _], _ => rfl,
    g_law_steps := PySem.W.mg_of X G a7,
    F_figures := F8,
    bb_figures := F8.binds (ps := P_figures) fun _ _ _ _ _ _ us hl => match us, hl with | [_], _ => rfl,
    g_figures := PySem.W.mg_of X G a8,
    F_show_step := F9,
    bb_show_step := F9.binds (ps := P_show_step) fun _ _ _ _ _ _ us hl => match us, hl with | [_], _ => rfl,
    g_show_step := PySem.W.mg_of X G a9,
    F_show_hand := F10,
    bb_show_hand := F10.binds (ps := P_show_hand) fun _ _ _ _ _ _ us hl => match us, hl with | [_], _ => rfl,
    kn_show_hand_hand := KW.kbn0 [0] fun us ws h1 h2 => match us, ws, h1, h2 with | [], [_], _, _ => rfl,
    g_show_hand := PySem.W.mg_of X G a10,
    F_number_of := F11,
    bb_number_of := F11.binds (ps := P_number_of) fun _ _ _ _ _ _ us hl => match us, hl with | [_], _ => rfl,
    g_number_of := PySem.W.mg_of X G a11,
    F_length_of := F12,
    bb_length_of := F12.binds (ps := P_length_of) fun _ _ _ _ _ _ us hl => match us, hl with | [_], _ => rfl,
    g_length_of := PySem.W.mg_of X G a12,
    F_step_of := F13,
    bb_step_of := F13.binds (ps := P_step_of) fun _ _ _ _ _ _ us hl => match us, hl with | [_], _ => rfl,
    g_step_of := PySem.W.mg_of X G a13,
    F_hand_of := F14,
    bb_hand_of := F14.binds (ps := P_hand_of) fun _ _ _ _ _ _ us hl => match us, hl with | [_], _ => rfl,
    g_hand_of := PySem.W.mg_of X G a14,
    F_read_hand := F15,
    bb_read_hand := F15.binds (ps := P_read_hand) fun _ _ _ _ _ _ us hl => match us, hl with | [_], _ => rfl,
    kn_read_hand_text := KW.kbn0 [0] fun us ws h1 h2 => match us, ws, h1, h2 with | [], [_], _, _ => rfl,
    g_read_hand := PySem.W.mg_of X G a15,
    F_too_far := F16,
    bb_too_far := F16.binds (ps := P_too_far) fun _ _ _ _ _ _ us hl => match us, hl with | [_, _, _], _ => rfl,
    g_too_far := PySem.W.mg_of X G a16,
    F_clash := F17,
    bb_clash := F17.binds (ps := P_clash) fun _ _ _ _ _ _ us hl => match us, hl with | [_, _, _], _ => rfl,
    g_clash := PySem.W.mg_of X G a17,
    F_place_by := F18,
    bb_place_by := F18.binds (ps := P_place_by) fun _ _ _ _ _ _ us hl => match us, hl with | [_, _, _, _], _ => rfl,
    g_place_by := PySem.W.mg_of X G a18,
    F_Dark_init := F19,
    bb_Dark_init := F19.binds (ps := P_Dark_init) fun _ _ _ _ _ _ us hl => match us, hl with | [_, _], _ => rfl,
    F_Dark_eq := F20,
    bb_Dark_eq := F20.binds (ps := P_Dark_eq) fun _ _ _ _ _ _ us hl => match us, hl with | [_, _], _ => rfl,
    m_Dark_eq := ⟨a20, i20, k20⟩,
    F_Dark_length := F21,
    bb_Dark_length := F21.binds (ps := P_Dark_length) fun _ _ _ _ _ _ us hl => match us, hl with | [_], _ => rfl,
    m_Dark_length := ⟨a21, i21, k21⟩,
    F_Dark_hear := F22,
    bb_Dark_hear := F22.binds (ps := P_Dark_hear) fun _ _ _ _ _ _ us hl => match us, hl with | [_, _, _, _], _ => rfl,
    m_Dark_hear := ⟨a22, i22, k22⟩,
    F_Dark_looks := F23,
    bb_Dark_looks := F23.binds (ps := P_Dark_looks) fun _ _ _ _ _ _ us hl => match us, hl with | [_], _ => rfl,
    m_Dark_looks := ⟨a23, i23, k23⟩,
    F_Dark_led_back := F24,
    bb_Dark_led_back := F24.binds (ps := P_Dark_led_back) fun _ _ _ _ _ _ us hl => match us, hl with | [_], _ => rfl,
    m_Dark_led_back := ⟨a24, i24, k24⟩,
    F_Darkcheck_word := F25,
    bb_Darkcheck_word := F25.binds (ps := P_Darkcheck_word) fun _ _ _ _ _ _ us hl => match us, hl with | [_, _], _ => rfl,
    m_Darkcheck_word := ⟨a25, i25, k25⟩,
    F_Darkhome := F26,
    bb_Darkhome := F26.binds (ps := P_Darkhome) fun _ _ _ _ _ _ us hl => match us, hl with | [_, _, _, _], _ => rfl,
    m_Darkhome := ⟨a26, i26, k26⟩,
    F_Darkclashing := F27,
    bb_Darkclashing := F27.binds (ps := P_Darkclashing) fun _ _ _ _ _ _ us hl => match us, hl with | [_, _], _ => rfl,
    m_Darkclashing := ⟨a27, i27, k27⟩,
    F_Hand_init := F28,
    bb_Hand_init := F28.binds (ps := P_Hand_init) fun _ _ _ _ _ _ us hl => match us, hl with | [_, _, _], _ => rfl,
    F_Hand_eq := F29,
    bb_Hand_eq := F29.binds (ps := P_Hand_eq) fun _ _ _ _ _ _ us hl => match us, hl with | [_, _], _ => rfl,
    m_Hand_eq := ⟨a29, i29, k29⟩,
    F_Hand_length := F30,
    bb_Hand_length := F30.binds (ps := P_Hand_length) fun _ _ _ _ _ _ us hl => match us, hl with | [_], _ => rfl,
    m_Hand_length := ⟨a30, i30, k30⟩,
    F_Hand_steps := F31,
    bb_Hand_steps := F31.binds (ps := P_Hand_steps) fun _ _ _ _ _ _ us hl => match us, hl with | [_], _ => rfl,
    m_Hand_steps := ⟨a31, i31, k31⟩,
    F_law := F32,
    bb_law := F32.binds (ps := P_law) fun _ _ _ _ _ _ us hl => match us, hl with | [_], _ => rfl,
    g_law := PySem.W.mg_of X G a32,
    cl := ⟨pg, hd, po, sa⟩,
    g_Dark := PySem.W.mg_of X G aC,
    mk_Dark := ⟨mk, a19, i19, kc⟩,
    n_length := n_length,
    n_looks := n_looks,
    cl_Hand := ⟨pg_Hand, hd_Hand, po_Hand, sa_Hand⟩,
    g_Hand := PySem.W.mg_of X G aC_Hand,
    mk_Hand := ⟨mk_Hand, a28, i28, kc_Hand⟩,
    nHand__dark := nHand__dark,
    nHand__back := nHand__back,
    isi := ⟨jha, jhn, jtk, jm⟩,
    no_list := kit_no rfl jic jty jsl,
    no_int := kit_no rfl jic jty jsi,
    nf_list := jnl,
    nf_int := jni,
    isi_Hand := ⟨jha_Hand, jhn_Hand, jtk_Hand, jm_Hand⟩,
    b_max := PySem.W.mg_none_of X G b_max,
    b_min := PySem.W.mg_none_of X G b_min,
    b_len := PySem.W.mg_none_of X G b_len,
    b_range := PySem.W.mg_none_of X G b_range,
    b_sorted := PySem.W.mg_none_of X G b_sorted,
    b_set := PySem.W.mg_none_of X G b_set,
    b_isinstance := PySem.W.mg_none_of X G b_isinstance,
    b_list := PySem.W.mg_none_of X G b_list,
    b_tuple := PySem.W.mg_none_of X G b_tuple,
    b_bool := PySem.W.mg_none_of X G b_bool,
    b_int := PySem.W.mg_none_of X G b_int,
    b_str := PySem.W.mg_none_of X G b_str,
    b_all := PySem.W.mg_none_of X G b_all,
    b_reversed := PySem.W.mg_none_of X G b_reversed,
    g_FIGURES := PySem.W.mg_of X G gcFIGURES,
    r_FIGURES := ⟨tcFIGURES, rfl⟩,
    g_MOST_FIGURES := PySem.W.mg_of X G gcMOST_FIGURES,
    r_MOST_FIGURES := ⟨tcMOST_FIGURES, rfl⟩,
    g_SLOW := PySem.W.mg_of X G gSLOW,
    r_SLOW := ⟨tSLOW, rfl⟩,
    g_FAST := PySem.W.mg_of X G gFAST,
    r_FAST := ⟨tFAST, rfl⟩,
    g_WORDS := PySem.W.mg_of X G gW,
    kd_WORDS := ⟨es, nW, lW, keys, low⟩,
    w_slow := wS,
    w_fast := wF,
    q_slow := fun _ => sqt2 lS,
    q_fast := fun _ => sqt2 lF,
    g_LOOK_WORDS := PySem.W.mg_of X G gL,
    q_LW := fun _ => sqt3 lL }
  exact ⟨PySem.W.fnOf "law" "law" (defArgs slaw) (defBody slaw) (defScope slaw) .none kV32 dc32 pm32 an32 cd32 ct32, fun s v => .of_eq rfl, fun base _ _ => ok_law T⟩
theorem walk {l : PySem.W.OpenLaw} {q : Program} {loose : List Str} {XP : (Str → Option Value) → Heap → Prop} {YP : World → Heap → Prop} {d : DefRec} {K : Params → PySem.W.Frag} (hn : l.most = some 63) (hdf : d.params.defaults = [])
    (hY : ∀ (w : World) (h : Heap), YP w h → (K w.params).In h)
    (F : ∀ (w : World) (mg : Str → Option Value) (fa : Addr) (h : Heap), (K w.params).In h → h.Ns mainGlobals mg → mg d.name = some (.ref fa) →
      ∃ fd : FuncData, (∀ (s : Shared) (u : Value), BindsTo s fd ⟨[u], []⟩ [("script", u)]) ∧ ∀ base : Heap, (K w.params).In base → base.Ns mainGlobals mg → FnOk l.prog w (K w.params) mg base CX0 12 fa fd ["script"] (spLaw (K w.params))) :
    PySem.W.WalkO q loose XP YP l.row.toRowW d [] (fun f vs => PySem.call f vs) :=
  L2.walk_of (n := 63) (k := 12) (x := "script") (CX := fun _ => CX0) (sp := fun w => spLaw (K w.params)) hn (by decide) hdf ⟨rfl, by decide, by decide⟩ hY F (fun _ _ a ns hl _ hS => ⟨a, ns, rfl, hS, hl, fun _ => rfl⟩) fun _ _ _ _ _ z => z
end KA
open PySem PySem.W PyProof.Rows
set_option maxRecDepth 100000 in
set_option maxHeartbeats 0 in
theorem PySem.Challenge.cw_darkpace_k52_hands_written_holds : PySem.Challenge.rw_darkpace_k52_hands_written.Holds := by
  w_on; o_law; k_head; (case hw => w_witness2)
  k_fill
  refine KA.walk (l := PySem.Challenge.rw_darkpace_k52_hands_written) rfl rfl (fun w h Y => PySem.W.kIn_of Y) ?F
  case F =>
    intro w mg fa h KX G hmg
    refine' KA.all_mk KX G hmg ?aC ?aC_Hand ?a0 ?l0 ?c0 ?k0 ?a1 ?l1 ?c1 ?k1 ?a2 ?l2 ?c2 ?k2 ?a3 ?l3 ?c3 ?k3 ?a4 ?l4 ?c4 ?k4 ?a5 ?l5 ?c5 ?k5 ?a6 ?l6 ?c6 ?k6 ?a7 ?l7 ?c7 ?k7 ?a8 ?l8 ?c8 ?k8 ?a9 ?l9 ?c9 ?k9 ?a10 ?l10 ?c10 ?k10 ?a11 ?l11 ?c11 ?k11 ?a12 ?l12 ?c12 ?k12 ?a13 ?l13 ?c13 ?k13 ?a14 ?l14 ?c14 ?k14 ?a15 ?l15 ?c15 ?k15 ?a16 ?l16 ?c16 ?k16 ?a17 ?l17 ?c17 ?k17 ?a18 ?l18 ?c18 ?k18 ?a19 ?i19 ?l19 ?c19 ?k19 ?a20 ?i20 ?l20 ?c20 ?k20 ?a21 ?i21 ?l21 ?c21 ?k21 ?a22 ?i22 ?l22 ?c22 ?k22 ?a23 ?i23 ?l23 ?c23 ?k23 ?a24 ?i24 ?l24 ?c24 ?k24 ?a25 ?i25 ?l25 ?c25 ?k25 ?a26 ?i26 ?l26 ?c26 ?k26 ?a27 ?i27 ?l27 ?c27 ?k27 ?a28 ?i28 ?l28 ?c28 ?k28 ?a29 ?i29 ?l29 ?c29 ?k29 ?a30 ?i30 ?l30 ?c30 ?k30 ?a31 ?i31 ?l31 ?c31 ?k31 ?a32 ?l32 ?c32 ?k32 ?pg ?hd ?po ?sa ?mk ?kc ?n_length ?n_looks ?pg_Hand ?hd_Hand ?po_Hand ?sa_Hand ?mk_Hand ?kc_Hand ?nHand__dark ?nHand__back ?jha ?jhn ?jtk ?jm ?jic ?jty ?jsl ?jsi ?jnl ?jni ?jha_Hand ?jhn_Hand ?jtk_Hand ?jm_Hand ?b_max ?b_min ?b_len ?b_range ?b_sorted ?b_set ?b_isinstance ?b_list ?b_tuple ?b_bool ?b_int ?b_str ?b_all ?b_reversed ?gcFIGURES ?gcMOST_FIGURES ?gSLOW ?gFAST ?gW ?lW ?keys ?low ?wS ?wF ?lS ?lF ?gL ?lL
    (case aC => k_is)
    (case aC_Hand => k_is)
    (case a0 => k_is)
    (case l0 => k_is)
    (case c0 => k_is)
    (case k0 => k_is)
    (case a1 => k_is)
    (case l1 => k_is)
    (case c1 => k_is)
    (case k1 => k_is)
    (case a2 => k_is)
    (case l2 => k_is)
    (case c2 => k_is)
    (case k2 => k_is)
    (case a3 => k_is)
    (case l3 => k_is)
    (case c3 => k_is)
    (case k3 => k_is)
    (case a4 => k_is)
    (case l4 => k_is)
    (case c4 => k_is)
    (case k4 => k_is)
    (case a5 => k_is)
    (case l5 => k_is)
    (case c5 => k_is)
    (case k5 => k_is)
    (case a6 => k_is)
    (case l6 => k_is)
    (case c6 => k_is)
    (case k6 => k_is)
    (case a7 => k_is)
    (case l7 => k_is)
    (case c7 => k_is)
    (case k7 => k_is)
    (case a8 => k_is)
    (case l8 => k_is)
    (case c8 => k_is)
    (case k8 => k_is)
    (case a9 => k_is)
    (case l9 => k_is)
    (case c9 => k_is)
    (case k9 => k_is)
    (case a10 => k_is)
    (case l10 => k_is)
    (case c10 => k_is)
    (case k10 => k_is)
    (case a11 => k_is)
    (case l11 => k_is)
    (case c11 => k_is)
    (case k11 => k_is)
    (case a12 => k_is)
    (case l12 => k_is)
    (case c12 => k_is)
    (case k12 => k_is)
    (case a13 => k_is)
    (case l13 => k_is)
    (case c13 => k_is)
    (case k13 => k_is)
    (case a14 => k_is)
    (case l14 => k_is)
    (case c14 => k_is)
    (case k14 => k_is)
    (case a15 => k_is)
    (case l15 => k_is)
    (case c15 => k_is)
    (case k15 => k_is)
    (case a16 => k_is)
    (case l16 => k_is)
    (case c16 => k_is)
    (case k16 => k_is)
    (case a17 => k_is)
    (case l17 => k_is)
    (case c17 => k_is)
    (case k17 => k_is)
    (case a18 => k_is)
    (case l18 => k_is)
    (case c18 => k_is)
    (case k18 => k_is)
    (case a19 => k_is)
    (case i19 => k_is)
    (case l19 => k_is)
    (case c19 => k_is)
    (case k19 => k_is)
    (case a20 => k_is)
    (case i20 => k_is)
    (case l20 => k_is)
    (case c20 => k_is)
    (case k20 => k_is)
    (case a21 => k_is)
    (case i21 => k_is)
    (case l21 => k_is)
    (case c21 => k_is)
    (case k21 => k_is)
    (case a22 => k_is)
    (case i22 => k_is)
    (case l22 => k_is)
    (case c22 => k_is)
    (case k22 => k_is)
    (case a23 => k_is)
    (case i23 => k_is)
    (case l23 => k_is)
    (case c23 => k_is)
    (case k23 => k_is)
    (case a24 => k_is)
    (case i24 => k_is)
    (case l24 => k_is)
    (case c24 => k_is)
    (case k24 => k_is)
    (case a25 => k_is)
    (case i25 => k_is)
    (case l25 => k_is)
    (case c25 => k_is)
    (case k25 => k_is)
    (case a26 => k_is)
    (case i26 => k_is)
    (case l26 => k_is)
    (case c26 => k_is)
    (case k26 => k_is)
    (case a27 => k_is)
    (case i27 => k_is)
    (case l27 => k_is)
    (case c27 => k_is)
    (case k27 => k_is)
    (case a28 => k_is)
    (case i28 => k_is)
    (case l28 => k_is)
    (case c28 => k_is)
    (case k28 => k_is)
    (case a29 => k_is)
    (case i29 => k_is)
    (case l29 => k_is)
    (case c29 => k_is)
    (case k29 => k_is)
    (case a30 => k_is)
    (case i30 => k_is)
    (case l30 => k_is)
    (case c30 => k_is)
    (case k30 => k_is)
    (case a31 => k_is)
    (case i31 => k_is)
    (case l31 => k_is)
    (case c31 => k_is)
    (case k31 => k_is)
    (case a32 => k_is)
    (case l32 => k_is)
    (case c32 => k_is)
    (case k32 => k_is)
    (case pg => k_is)
    (case hd => k_is)
    (case po => k_is)
    (case sa => k_is)
    (case mk => k_is)
    (case kc => k_is)
    (case n_length => k_is)
    (case n_looks => k_is)
    (case pg_Hand => k_is)
    (case hd_Hand => k_is)
    (case po_Hand => k_is)
    (case sa_Hand => k_is)
    (case mk_Hand => k_is)
    (case kc_Hand => k_is)
    (case nHand__dark => k_is)
    (case nHand__back => k_is)
    (case jha => k_is)
    (case jhn => k_is)
    (case jtk => k_is)
    (case jm => k_is)
    (case jic => k_is)
    (case jty => k_is)
    (case jsl => k_is)
    (case jsi => k_is)
    (case jnl => k_is)
    (case jni => k_is)
    (case jha_Hand => k_is)
    (case jhn_Hand => k_is)
    (case jtk_Hand => k_is)
    (case jm_Hand => k_is)
    (case b_max => k_is)
    (case b_min => k_is)
    (case b_len => k_is)
    (case b_range => k_is)
    (case b_sorted => k_is)
    (case b_set => k_is)
    (case b_isinstance => k_is)
    (case b_list => k_is)
    (case b_tuple => k_is)
    (case b_bool => k_is)
    (case b_int => k_is)
    (case b_str => k_is)
    (case b_all => k_is)
    (case b_reversed => k_is)
    (case gcFIGURES => k_is)
    (case gcMOST_FIGURES => k_is)
    (case gSLOW => k_is)
    (case gFAST => k_is)
    (case gW => k_is)
    (case lW => k_is)
    (case keys => k_keys)
    (case low => decide +kernel)
    (case wS => k_is)
    (case wF => k_is)
    (case lS => k_is)
    (case lF => k_is)
    (case gL => k_is)
    (case lL => k_is)
