import PyProof.Rows.All
import Wide.All
import OpenK.AllK
import Wide.FinOn
import HandS.ForMost
import HandS.Wide
import HandS.Deep
import HandS.IsInst
import HandS.Strs
import HandS.Codes
import HandS.Gcd
import KE.SortData
import KE.DataMinMax
import HandS.SetFor
import KE.KSuper
import KE.KExcSuper
import HandS.Base
import HandS.Call
import HandS.Exc
import HandS.ExcInit
import HandS.Words
import KE.RegKSuper
import HandS.WordsExc
import HandS.ExcOwn
import HandS.TryOnly
import HandS.Dict
import HandS.Flt
import PySem.Challenge.RW_darkpace_k05_may_and_sure
set_option Elab.async false
set_option linter.all false
set_option maxRecDepth 100000
set_option exponentiation.threshold 3000
set_option maxHeartbeats 16000000
/-! Rules of our own: data under a growing heap, sorted and max and min of data, set of ints, a written dict's item, a method called with a keyword. -/
namespace DP
open PySem PySem.Spec PyProof.Rows L2

theorem rooms {A : Around} {k : Nat} (hr : Room k A) : A.units + 65 < cLine := by have := hr.un; omega

theorem Same.rd {H H' : Hp} {a : Addr} {u : HO} (S : Same H H') (h : Rd H a u) : Rd H' a u := by
  rcases h with h | ⟨o, h⟩
  · exact Or.inl (S _ _ h)
  · exact Or.inr ⟨o, S _ _ h⟩
theorem Same.sqT {K : PySem.W.Frag} {H H' : Hp} {a : Addr} {xs : List V} (S : Same H H') (h : SqT K H a xs) : SqT K H' a xs := by
  rcases h with h | h
  · exact Or.inl (Same.rd S h)
  · exact Or.inr h
theorem Same.sqL {K : PySem.W.Frag} {H H' : Hp} {a : Addr} {xs : List V} (S : Same H H') (h : SqL K H a xs) : SqL K H' a xs := by
  rcases h with h | h
  · exact Or.inl (Same.rd S h)
  · exact Or.inr h
mutual
theorem dp_mono {K : PySem.W.Frag} {H H' : Hp} (S : Same H H') : ∀ (d : PyData) (v : V), Dp K H v d → Dp K H' v d
  | .none, _, h => by cases h; exact .non
  | .bool b, _, h => by cases h; exact .bl _
  | .int b, _, h => by cases h; exact .int _
  | .str b, _, h => by cases h; exact .str _
  | .list ds, _, h => by
    cases h with
    | lst s a => exact .lst (Same.sqL S s) (dpAll_mono S ds _ a)
  | .tuple ds, _, h => by
    cases h with
    | tup s a => exact .tup (Same.sqT S s) (dpAll_mono S ds _ a)
  | .dict _, _, h => by cases h
theorem dpAll_mono {K : PySem.W.Frag} {H H' : Hp} (S : Same H H') : ∀ (ds : List PyData) (vs : List V), DpAll K H vs ds → DpAll K H' vs ds
  | [], _, h => by cases h; exact .nil
  | d :: ds, _, h => by
    cases h with
    | cons a b => exact .cons (dp_mono S d _ a) (dpAll_mono S ds _ b)
end
section
variable {K : PySem.W.Frag} {H : Hp}
theorem dpAll_len : ∀ {vs : List V} {ds : List PyData}, DpAll K H vs ds → vs.length = ds.length
  | _, _, .nil => rfl
  | _, _, .cons _ t => by rw [List.length_cons, List.length_cons, dpAll_len t]
theorem dpAll_get : ∀ {vs : List V} {ds : List PyData} {i : Nat} {v : V}, DpAll K H vs ds → vs[i]? = some v → ∃ d, ds[i]? = some d ∧ Dp K H v d
  | _, _, _, _, .nil, e => by simp at e
  | _, _, 0, _, .cons r _, e => by simp at e; subst e; exact ⟨_, rfl, r⟩
  | _, _, i + 1, v, .cons _ t, e => by
    obtain ⟨d, h1, h2⟩ := dpAll_get (i := i) (v := v) t (by simpa using e)
    exact ⟨d, by simpa using h1, h2⟩
theorem dpAll_get' : ∀ {vs : List V} {ds : List PyData} {i : Nat} {d : PyData}, DpAll K H vs ds → ds[i]? = some d → ∃ v, vs[i]? = some v ∧ Dp K H v d
  | _, _, _, _, .nil, e => by simp at e
  | _, _, 0, _, .cons r _, e => by simp at e; subst e; exact ⟨_, rfl, r⟩
  | _, _, i + 1, v, .cons _ t, e => by
    obtain ⟨d, h1, h2⟩ := dpAll_get' (i := i) (d := v) t (by simpa using e)
    exact ⟨d, by simpa using h1, h2⟩
theorem dpAll_snoc : ∀ {vs : List V} {ds : List PyData} {v : V} {d : PyData}, DpAll K H vs ds → Dp K H v d → DpAll K H (vs ++ [v]) (ds ++ [d])
  | _, _, _, _, .nil, r => .cons r .nil
  | _, _, _, _, .cons q t, r => .cons q (dpAll_snoc t r)
theorem dpAll_app : ∀ {vs ws : List V} {ds es : List PyData}, DpAll K H vs ds → DpAll K H ws es → DpAll K H (vs ++ ws) (ds ++ es)
  | _, _, _, _, .nil, r => r
  | _, _, _, _, .cons q t, r => .cons q (dpAll_app t r)
theorem dpAll_ints : ∀ ns : List Int, DpAll K H (ns.map V.int) (ns.map PyData.int)
  | [] => .nil
  | n :: ns => .cons (.int n) (dpAll_ints ns)
theorem dpAll_int : ∀ {vs : List V} {ns : List Int}, DpAll K H vs (ns.map PyData.int) → vs = ns.map V.int
  | _, [], h => by cases h; rfl
  | _, n :: ns, h => by
    have h' : DpAll K H _ (PyData.int n :: ns.map PyData.int) := h
    cases h' with
    | cons a b =>
      cases a
      rw [dpAll_int b]; rfl
theorem same_upd {H : Hp} {p : Addr} {o : HO} (h : H p = none) : Same H (upd H p o) := fun b u e => by rw [upd_ne (ne_of_none e h)]; exact e
end

section
variable {X : Cx}
/-- sorted(xs): xs a list of alike data, of any length; P is what is known of each -/
def rSortD (K : PySem.W.Frag) {β : Type} (enc : β → PyData) : List V → Hp → VK → Prop := fun vs H Q => ∃ (a : Addr) (xs : List V) (bs : List β), vs = [V.ref a] ∧ SqL K H a xs ∧ DpAll K H xs (bs.map enc) ∧
  PySem.W.AllAlike (bs.map enc) ∧ PySem.W.Sortable (bs.map enc) ∧ (∀ b ∈ bs, (enc b).depth ≤ 60) ∧
  ∀ (p : Addr) (ys : List V) H', H p = none → Same H H' → H' p = some (.lst ys) → DpAll K H' ys ((bs.mergeSort (PySem.W.dataLe false enc)).map enc) → Q (.ref p) H'
theorem each_vals {K : PySem.W.Frag} {H : Hp} {β : Type} {enc : β → PyData} : ∀ {xs : List V} {us : List Value} {bs : List β}, Vals xs us → DpAll K H xs (bs.map enc) → PySem.W.EachIs (fun u b => ∃ x, RelV x u ∧ Dp K H x (enc b)) us bs
  | _, _, [], r, d => by
    have d' : DpAll K H _ [] := d
    cases d'
    cases r
    exact .nil
  | _, _, b :: bs, r, d => by
    have d' : DpAll K H _ (enc b :: bs.map enc) := d
    cases d' with
    | cons d1 d2 =>
      cases r with
      | cons r1 r2 => exact .cons ⟨_, r1, d1⟩ (each_vals r2 d2)
theorem vals_each {K : PySem.W.Frag} {H : Hp} {β : Type} {enc : β → PyData} : ∀ {us : List Value} {bs : List β}, PySem.W.EachIs (fun u b => ∃ x, RelV x u ∧ Dp K H x (enc b)) us bs → ∃ xs, Vals xs us ∧ DpAll K H xs (bs.map enc)
  | _, _, .nil => ⟨[], .nil, .nil⟩
  | _, _, .cons ⟨x, r, d⟩ t => by
    obtain ⟨xs, h1, h2⟩ := vals_each t
    exact ⟨x :: xs, .cons r h1, .cons d h2⟩
theorem cr_sortD {β : Type} (enc : β → PyData) (hu : X.A.units + 65 < cLine) : CallR X (.builtin "sorted") (rSortD X.K enc) := by
  intro pins s σ H vs us Q I r h
  obtain ⟨a, xs, bs, rfl, hs, hd, hal, hk, hdep, q⟩ := h
  obtain ⟨its, rv, hl, hz⟩ := I.list hs
  rw [Vals.ref1 r]
  have hlen : its.length = bs.length := by rw [← rv.length, dpAll_len hd, List.length_map]
  have e := each_vals rv hd
  obtain ⟨as, ra⟩ := Dp.readsAll I _ _ _ hd rv
  refine PySem.W.sorted_data (enc := enc) (bs := bs) (vs := its) hl.isList e (PySem.W.readsAll_each enc ra) hal hk (by rw [← hlen, ← rv.length]; exact hz) (fun b hb => ?_) fun out ho eo => ?_
  · have := hdep b hb
    omega
  · obtain ⟨ys, h1, h2⟩ := vals_each eo
    obtain ⟨ep, he'⟩ := PyProof.Rows.sortedAll_at s.heap its (List.toArray out)
    have hn : H (s.heap.objs.size + 1) = none := I.hok.fresh (Nat.le_succ _)
    have hyl : ys.length ≤ sizeLine := by
      rw [h1.length, ho, ← hlen, ← rv.length]; exact hz
    refine ⟨.ref _, upd H (s.heap.objs.size + 1) (.lst ys), I.laid (t' := s.toks) (fun _ _ => PyProof.Rows.sortedAll_old) (Nat.le_succ _) ⟨hyl, out, ep, h1, he'⟩, rfl, q _ ys _ hn (same_upd hn) upd_same ?_⟩
    exact dpAll_mono (same_upd hn) _ _ h2

/-- max(xs), min(xs): xs a list of alike data -/
def rBestD (K : PySem.W.Frag) (best : PyData → List PyData → PyData) : List V → Hp → VK → Prop := fun vs H Q => ∃ (a : Addr) (xs : List V) (d : PyData) (ds : List PyData), vs = [V.ref a] ∧ SqL K H a xs ∧ DpAll K H xs (d :: ds) ∧
  PySem.W.AlikeAll (d :: ds) ∧ PyData.canLayAll0 (d :: ds) = true ∧ PyData.depthAll (d :: ds) ≤ 60 ∧
  ∀ (x : V), Dp K H x (best d ds) → Q x H
theorem best_end {pins : List (Addr × Obj)} {s : Shared} {σ : L2.St} {H : Hp} {Q : VK} (I : Inv X pins σ H s) {xs : List V} {its : List Value} {as : List Addr} {ds : List PyData} (rv : Vals xs its) (hd : DpAll X.K H xs ds) (ra : ReadsAll s.heap its ds as) (hc : PyData.canLayAll0 ds = true) {i : Nat} {v : Value} {h' : Heap} {tk : Nat} {bs : List Addr} {e : PyData} (hi : its.toArray[i]? = some v)
    (hr : Reads h' v e bs) (he : e.canLay0 = true) (hk : ∀ b o, s.heap.get? b = some o → h'.get? b = some o) (q : ∀ x, Dp X.K H x e → Q x H) : EP X pins σ Q v { heap := h', gens := s.gens, drawn := s.drawn, toks := tk, os := s.os } := by
  have hi' : its[i]? = some v := by simpa using hi
  have hlt : i < its.length := by
    rcases Nat.lt_or_ge i its.length with h | h
    · exact h
    · rw [List.getElem?_eq_none h] at hi'; cases hi'
  obtain ⟨x, hx⟩ : ∃ x, xs[i]? = some x := ⟨xs[i]'(by rw [rv.length]; exact hlt), List.getElem?_eq_getElem _⟩
  obtain ⟨u, hu, ru⟩ := rv.get hx
  have euv : u = v := Option.some.inj (hu.symm.trans hi')
  subst euv
  obtain ⟨d, hdi, hdx⟩ := dpAll_get hd hx
  obtain ⟨as', rx⟩ := Dp.reads I d x u hdx ru
  have rx' : Reads h' u d as' := PyProof.Rows.Reads.keeps hk rx
  have hcd : d.canLay0 = true := by
    have : ∀ (ds : List PyData) (i : Nat), PyData.canLayAll0 ds = true → ds[i]? = some d → d.canLay0 = true := by
      intro ds
      induction ds with
      | nil => intro i _ h; simp at h
      | cons a r ih =>
        intro i h1 h2
        rw [PyData.canLayAll0, Bool.and_eq_true] at h1
        cases i with
        | zero => simp at h2; rw [← h2]; exact h1.1
        | succ i => exact ih i h1.2 (by simpa using h2)
    exact this ds i hc hdi
  have e1 := SeqAt.readOf_eq hcd rx'
  have e2 := SeqAt.readOf_eq he hr
  have ed : d = e := e1.symm.trans e2
  subst ed
  exact ⟨x, H, I.kept hk, ru, q x hdx⟩
theorem canLay_fold (f : PyData → PyData → Bool) : ∀ (ds : List PyData) (d : PyData), PyData.canLayAll0 (d :: ds) = true → (ds.foldl (fun a y => if f a y then y else a) d).canLay0 = true
  | [], d, h => by
    rw [PyData.canLayAll0, Bool.and_eq_true] at h
    exact h.1
  | e :: ds, d, h => by
    rw [PyData.canLayAll0, PyData.canLayAll0, Bool.and_eq_true, Bool.and_eq_true] at h
    rw [List.foldl_cons]
    refine canLay_fold f ds _ ?_
    rw [PyData.canLayAll0, Bool.and_eq_true]
    refine ⟨?_, h.2.2⟩
    split
    · exact h.2.1
    · exact h.1
theorem cr_maxD (hc : X.calm = true) (hu : X.A.units + 65 < cLine) : CallR X (.builtin "max") (rBestD X.K PySem.W.maxD) := by
  intro pins s σ H vs us Q I r h
  obtain ⟨a, xs, d, ds, rfl, hs, hd, hal, hl0, hdep, q⟩ := h
  obtain ⟨its, rv, hl, hz⟩ := I.list hs
  rw [Vals.ref1 r]
  obtain ⟨as, ra⟩ := Dp.readsAll I _ _ _ hd rv
  exact PySem.W.max_list_data (I.ok.hd hc) hl.isList (by simpa using ra) hal (by omega) fun i v h' tk bs hi hr hk => best_end I rv hd ra hl0 hi hr (canLay_fold _ ds d hl0) hk q
theorem cr_minD (hc : X.calm = true) (hu : X.A.units + 65 < cLine) : CallR X (.builtin "min") (rBestD X.K PySem.W.minD) := by
  intro pins s σ H vs us Q I r h
  obtain ⟨a, xs, d, ds, rfl, hs, hd, hal, hl0, hdep, q⟩ := h
  obtain ⟨its, rv, hl, hz⟩ := I.list hs
  rw [Vals.ref1 r]
  obtain ⟨as, ra⟩ := Dp.readsAll I _ _ _ hd rv
  exact PySem.W.min_list_data (I.ok.hd hc) hl.isList (by simpa using ra) hal (by omega) fun i v h' tk bs hi hr hk => best_end I rv hd ra hl0 hi hr (canLay_fold (fun a y => PySem.W.dataLt y a) ds d hl0) hk q
end
end DP
/-! set(xs) of a list of whole numbers, sorted then. -/
namespace DP
open PySem PySem.Spec PyProof.Rows L2
/-- a fresh set -/
abbrev newSet (w : World) : Obj := { cls := .type "set", dict := none, data := .set #[] 0 (.fresh 0 0 (!w.params.followText "set-order")) }
theorem set_of_ints {P : Program} {w : World} {A : Around} {E : Value → Shared → Prop} {s : Shared} {l : Addr} {items : Array Value} (ns : List Int) {Q : Value → Shared → Prop} (hh : A.handled = none) (hl : s.heap.IsList l items) (hit : IntsAre items.toList ns) (hb : ns.length + 1 < scanBound)
    (h : ∀ (h' : Heap) (tk c : Nat), SetR w h' s.heap.objs.size (fun j => decide (j ∈ ns)) c → c ≤ ns.length → (∀ b o, s.heap.get? b = some o → h'.get? b = some o) → Q (.ref s.heap.objs.size) { s with heap := h', toks := tk }) :
    wpAny (model P w) A (call (.type "set") [.ref l]) Q E s := by
  have hisz : items.size = ns.length := (Array.length_toList (xs := items)).symm.trans (IntsAre.length hit)
  have C := F.called_set
  obtain ⟨c, tl, hmro⟩ := C.mro
  have hmade := C.made; have hsub := C.sub
  refine wpAny_call (codeAny_of_tree ?_)
  show wpAny _ _ (callAny (.type "set") _) _ _ _
  refine wpAny_pure ⟨Code.quiet_builtin _ (by decide +kernel), codeAny_builtin F.entry_type_call ?_⟩
  rw [Around.under_plain (weight_type_call_type "set" [.ref l] []) rfl]
  have h1 := C.notType; have h2 := C.canCreate
  have hct := F.typeCall_set_1 (.ref l)
  repeat (any_goals (first | assumption | wp_step))
  refine codeAny_mono (code_set_led1 (.ref l) (E := E) (Q₁ := fun obj s₁ => obj = .ref s.heap.objs.size ∧ s₁ = { s with heap := s.heap.push (newSet w) }) ⟨rfl, rfl⟩) fun r s₁ hr => ?_
  cases r with
  | error e => exact hr
  | ok fl =>
  cases fl with
  | ret obj =>
    obtain ⟨rfl, rfl⟩ := hr
    have hS : (s.heap.push (newSet w)).get? s.heap.objs.size = some (newSet w) := Heap.get?_push_size _ rfl
    have hT : Shared.TypeIs { s with heap := s.heap.push (newSet w) } (.ref s.heap.objs.size) "set" := ⟨_, hS, rfl⟩
    have hli := C.init.lookup; have hbi := C.init.bind (.ref s.heap.objs.size)
    repeat (any_goals (first | assumption | wp_step))
    refine codeAny_mono (codeAny_call_builtin (R := wants (fun r s₂ => r = .none ∧ ∃ h' tk c, s₂ = { s with heap := h', toks := tk } ∧ SetR w h' s.heap.objs.size (fun j => decide (j ∈ ns)) c ∧ c ≤ ns.length ∧ ∀ b o, s.heap.get? b = some o → h'.get? b = some o) E) C.init.plain F.entry_set_init (check_set_init_1 hT ?_)) fun r₂ s₂ hr₂ => ?_
    · obtain ⟨⟨ocls, odict, odata, oslots⟩, hol, hcl, nl, hdl⟩ := hl
      simp only at hcl hdl
      subst hcl hdl
      have hol' : (s.heap.push (newSet w)).get? l = some { cls := .type "list", dict := odict, data := .seq items nl, slots := oslots } := Heap.get?_push_of_some _ hol
      have hsls := F.sub_list_set; have hslf := F.sub_list_frozenset
      have hne : (Value.type "list" == Value.type "dict") = false := by decide
      have hl1 : (s.heap.push (newSet w)).IsList l items := ⟨_, hol', rfl, nl, rfl⟩
      unfold Builtin.«set.__init__» noKeywords Builtin.Frozenset.updateFrom
      generalize hPI : pyIter = PI
      wp_walk
      subst hPI
      refine wpAny_pyIter_list hl1 (wpAny_bind (wpAny_runValue ?_))
      have hlS : l < s.heap.objs.size := Heap.lt_size hol
      have hh3 : A.in1.in1.in1.handled = none := by simp [hh]
      have hz : (s.heap.push (newSet w)).objs.size = s.heap.objs.size + 1 := Heap.size_push ..
      have hneI : l ≠ (s.heap.push (newSet w)).objs.size := by rw [hz]; exact Nat.ne_of_lt (Nat.lt_succ_of_lt hlS)
      have hSf : s.heap.objs.size ∉ [(s.heap.push (newSet w)).objs.size, l] := by
        rw [hz]; simp only [List.mem_cons, List.not_mem_nil, or_false, not_or]; exact ⟨Nat.ne_of_lt (Nat.lt_succ_self _), Nat.ne_of_gt hlS⟩
      have hval : ∀ (i : Nat) (v : Value), items[i]? = some v → ∃ k t, ns[i]? = some k ∧ v = .int k t := fun i v hv => by
        have hi : i < ns.length := hisz ▸ (Array.getElem?_eq_some_iff.mp hv).1
        obtain ⟨t, e⟩ := PyProof.Rows.IntsAre.int_at hit i v (by rw [Array.getElem?_toList]; exact hv)
        exact ⟨ns[i], t, List.getElem?_eq_getElem hi, by rw [e, List.getD_eq_getElem?_getD, List.getElem?_eq_getElem hi]; rfl⟩
      refine set_update_ints ((Walks.list hh3 _ l hneI items).toS) s.heap.objs.size hSf ns hisz hb hval (items.size - 0) 0 _ (by omega) (Nat.zero_le _) ⟨⟨_, Heap.get?_push_size _ rfl, rfl, rfl⟩, (hl1.push _)⟩ ?z0 ?zR
      case z0 => exact ⟨0, Nat.le_refl 0, setR_new_at (Heap.get?_push_of_some _ hS)⟩
      case zR =>
        intro s' c' hm hc' hS'
        obtain ⟨h', g2, d', tk', os'⟩ := s'
        have eg : g2 = s.gens := hm.gens
        have ed : d' = s.drawn := hm.drawn
        have eo : os' = s.os := hm.os
        subst eg ed eo
        rw [hisz] at hc'
        refine wpAny_pure (?_ : wpAny _ _ (ret Value.none) _ _ _)
        refine wpAny_pure ⟨rfl, h', tk', c', rfl, hS', hc', fun b o e => ?_⟩
        have hb0 : b < s.heap.objs.size := Heap.lt_size e
        refine hm.heap b o ?_ (Heap.get?_push_of_some _ (Heap.get?_push_of_some _ e))
        simp only [List.mem_cons, List.not_mem_nil, or_false, not_or]
        exact ⟨Nat.ne_of_lt hb0, by rw [hz]; exact Nat.ne_of_lt (Nat.lt_succ_of_lt hb0)⟩
    · cases r₂ with
      | error e => exact hr₂
      | ok fl₂ =>
      cases fl₂ with
      | ret r =>
        obtain ⟨rfl, h', tk, c', rfl, hS', hc', hk'⟩ := hr₂
        repeat (any_goals (first | assumption | wp_step))
        exact h _ _ _ hS' hc' hk'
      | _ => exact hr₂.elim
  | _ => exact hr.elim
section
variable {X : Cx}
/-- set(xs), xs a list of whole numbers -/
def rSetI (K : PySem.W.Frag) (w : World) : List V → Hp → VK → Prop := fun vs H Q => ∃ (l : Addr) (ns : List Int), vs = [V.ref l] ∧ SqL K H l (ns.map V.int) ∧ ns.length ≤ 60 ∧
  ∀ (a : Addr) (c : Nat), c ≤ ns.length → H a = none → Q (.ref a) (upd H a (SetO w a (fun j => decide (j ∈ ns)) c))
theorem cr_setI (hc : X.calm = true) : CallR X (.type "set") (rSetI X.K X.w) := by
  intro pins s σ H vs us Q I r h
  obtain ⟨l, ns, rfl, hs, hlen, q⟩ := h
  obtain ⟨its, rv, pl, hz⟩ := I.list hs
  rw [Vals.ref1 r]
  have hi : IntsAre its.toArray.toList ns := by simpa using rv.ints
  refine set_of_ints ns (I.ok.hd hc) pl.isList hi (by unfold scanBound; omega) fun h' tk c R hcl hk => ?_
  exact ⟨.ref _, upd H s.heap.objs.size (SetO X.w s.heap.objs.size (fun j => decide (j ∈ ns)) c), I.laid (t' := tk) hk (Nat.le_refl _) (setO_new R), rfl, q _ c hcl (I.hok.fresh (Nat.le_refl _))⟩
/-- d[k], d a written dict -/
theorem ix_kd {d : Addr} {es : Array DictEntry} {n : Nat} (D : KDict X.K X.w d es n) : IxR X (fun x y H Q => ∃ (z : Str) (u0 : Value) (v0 : V), x = .ref d ∧ y = .str z ∧ PySem.W.nsIn X.K d z = some (some u0) ∧ RelV v0 u0 ∧ Q v0 H) := by
  intro value slice pins s σ H x y v u Q I rx ry h hs
  obtain ⟨z, u0, v0, ex, ey, e, r, q⟩ := h
  subst ex ey
  cases rx
  obtain ⟨t, rfl⟩ := ry
  have fin : EP X pins σ Q u0 s := ⟨v0, H, I, r, q⟩
  exact subscriptTail_builtinR (x := u0) (kd_type D I) PySem.F.slot_dict_getitem.lookup
    (wpAny_getItem_of (PySem.strKind_is X.prog X.w z t) (PySem.W.mapOf_K (prog := X.prog) I.kIn D.at_ D.lit) (PySem.W.find_K D.at_ e) ⟨rfl, ⟨v0, H, I.tok _, r, q⟩⟩) hs
end
end DP
/-! The rules with the written part named, for comprehensions; a method called with keywords. -/
namespace DP
open PySem PySem.Spec PyProof.Rows L2
section
variable {X : Cx} {K : PySem.W.Frag}
theorem ixT (h : X.K = K := by rfl) : IxR X (rIxT K) := by subst h; exact ix_tup
theorem ixL (h : X.K = K := by rfl) : IxR X (rIxL K) := by subst h; exact ix_list
theorem inS (h : X.K = K := by rfl) : OpR X (compareOp .In) (rIn K false) := by subst h; exact op_in_seq
theorem notInS (h : X.K = K := by rfl) : OpR X (compareOp .NotIn) (rIn K true) := by subst h; exact op_notIn_seq
theorem eqDK (hu : X.A.units + 64 < cLine) (h : X.K = K := by rfl) : OpR X (compareOp .Eq) (rEqD K) := by subst h; exact op_eqD hu
theorem neDK (hu : X.A.units + 64 < cLine) (h : X.K = K := by rfl) : OpR X (compareOp .NotEq) (rNeD K) := by subst h; exact op_neD hu
theorem inDK (hu : X.A.units + 65 < cLine) (h : X.K = K := by rfl) : OpR X (compareOp .In) (rInD K) := by subst h; exact op_inD hu
theorem notInDK (hu : X.A.units + 65 < cLine) (h : X.K = K := by rfl) : OpR X (compareOp .NotIn) (rNotInD K) := by subst h; exact op_notInD hu
def rLenK (K : PySem.W.Frag) : List V → Hp → VK → Prop := fun xs H Q => ∃ p ys, xs = [V.ref p] ∧ (SqL K H p ys ∨ SqT K H p ys) ∧ Q (.int ys.length) H
theorem lenK (h : X.K = K := by rfl) : CallR X (.builtin "len") (rLenK K) := by subst h; exact call_len_seq
def rListK (K : PySem.W.Frag) : List V → Hp → VK → Prop := fun xs H Q => ∃ p ys, xs = [V.ref p] ∧ (SqL K H p ys ∨ SqT K H p ys) ∧ ∀ l, H l = none → Q (.ref l) (upd H l (.lst ys))
theorem listK (h : X.K = K := by rfl) : CallR X (.type "list") (rListK K) := by subst h; exact call_list_of
theorem maxK (hc : X.calm = true) (h : X.K = K := by rfl) : CallR X (.builtin "max") (rMax K) := by subst h; exact cr_max hc
theorem minK (hc : X.calm = true) (h : X.K = K := by rfl) : CallR X (.builtin "min") (rMin K) := by subst h; exact cr_min hc
theorem maxDK (hc : X.calm = true) (hu : X.A.units + 65 < cLine) (h : X.K = K := by rfl) : CallR X (.builtin "max") (rBestD K PySem.W.maxD) := by subst h; exact cr_maxD hc hu
theorem minDK (hc : X.calm = true) (hu : X.A.units + 65 < cLine) (h : X.K = K := by rfl) : CallR X (.builtin "min") (rBestD K PySem.W.minD) := by subst h; exact cr_minD hc hu
theorem sortK (h : X.K = K := by rfl) : CallR X (.builtin "sorted") (rSorted K) := by subst h; exact cr_sorted
theorem sortDK {β : Type} (enc : β → PyData) (hu : X.A.units + 65 < cLine) (h : X.K = K := by rfl) : CallR X (.builtin "sorted") (rSortD K enc) := by subst h; exact cr_sortD enc hu
theorem setIK {w : World} (hc : X.calm = true) (h : X.K = K := by rfl) (hw : X.w = w := by rfl) : CallR X (.type "set") (rSetI K w) := by subst h hw; exact cr_setI hc
theorem sortedSetK {w : World} (hc : X.calm = true) (hw : X.w = w := by rfl) : CallR X (.builtin "sorted") (rSortedSet w) := by subst hw; exact cr_sortedSet hc
theorem slL (h : X.K = K := by rfl) : SlR X (rSlL K) := by subst h; exact sl_list
theorem isiK (h : X.K = K := by rfl) : CallR X (.builtin "isinstance") (rIsi K) := by subst h; exact call_isi
theorem fldK {o : Expr} {ta : TE} {f : Str} {pos : Pos} (he : PE X o ta) (hb : attributeBase o f X.env (eval o X.env) = eval o X.env := by rfl) (h : X.K = K := by rfl) : PE X (.Attribute o f pos) (tFld K ta f) := by subst h; exact pe_fld he hb
theorem tupK {es : List Expr} {k : Nat} {t : TGs} {n : Nat} {pos : Pos} (hc : X.calm = true) (h1 : PGs X es t) (hn : (assignEach es X.env).length = n := by rfl) (hst : (assignEach es X.env).findIdx? (·.1) = none := by rfl) (h : X.K = K := by rfl) :
    PG X (.Tuple es k pos) (gTup K n t) := by subst h; exact pg_tup hc h1 hn hst
end
section
variable {X : Cx} {CX : CXT} {k : Nat} {f C : Addr} {fd : FuncData} {ps ks : List Str} {sp : Sp} {E : XK} {m : Str} {pos apos : Pos} {o : Expr} {kws : List Keyword} {ta : TE} {tk : TA} {g : List Value → List Value → List Value} {gV : List V → List V → List V}
/-- o.m(k = v, ..) -/
def tMethK (C : Addr) (m : Str) (sp : Sp) (gV : List V → List V → List V) (E : XK) (ta : TE) (tk : TA) : TE := fun σ H Q => ta σ H fun x H1 => ∃ a dx fs, x = .ref a ∧ H1 a = some (.ins C dx fs) ∧ fs.lookup m = none ∧ tk σ H1 fun zs H2 => sp (gV [.ref a] zs) H2 Q E
theorem pe_methK0 {pl : Sem Bool} (he : PE X o ta) (c : Cls X.K C) (hm : Meth X.K C m f) (F : FnOk X.prog X.w X.K X.mg X.base CX k f fd ps sp) (hr : Room k X.A) (hb : KBinds X.K fd ps ks g gV) (hx : Passes CX X E) (hkw : PK X kws tk)
    (hall : (backToKw pos (keywordEach kws X.env)).all (·.1.isSome) = true := by rfl) (hks : (backToKw pos (keywordEach kws X.env)).filterMap (·.1) = ks := by rfl)
    (hpl : ((backTo pos (starEach [] X.env)).any (·.1) || (backToKw pos (keywordEach kws X.env)).any (·.1.isNone)) = false := by rfl)
    (ht : eval (.Call (.Attribute o m apos) [] kws pos) X.env = (do
      let ov ← eval o X.env
      standAt apos.atName
      let (f, first) ← holding [ov] (getMethod ov m pl)
      callWith pos f first (backTo pos (starEach [] X.env)) (backToKw pos (keywordEach kws X.env))) := by rfl) :
    PE X (.Call (.Attribute o m apos) [] kws pos) (tMethK C m sp gV E ta tk) := by
  refine ⟨fun pins s σ H Q I h => ?_⟩
  refine PySem.W.methodCall_KW (pl := pl) (thn (he.run pins s σ H _ I h) fun u s1 ⟨x, H1, I1, rx, a, dx, fs, ex, ea, l, q⟩ => ?_) ht
  subst ex
  obtain rfl : u = Value.ref a := rx
  refine getmeth_ok I1 ea c hm l ?_
  refine PySem.W.callWith_KW0 (first := [.ref a]) (h₀ := X.base) I.ok.mod.kin hm.kp hall ?_ hpl
  refine thn (hkw.run pos pins s1 σ H1 _ I1 q) fun ws s2 ⟨zs, H2, I2, rz, q2⟩ => ⟨I2.kIn, ?_⟩
  rw [hks]
  exact run_fnk (us := [.ref a]) (vs := [.ref a]) F hr hb hx I2 (.cons rfl .nil) rz q2
end
/-- one positional value, one keyword -/
def g11 {α : Type} : List α → List α → List α
  | [a], [b] => [a, b]
  | _, _ => []
theorem g11_rel {vs : List V} {us : List Value} {zs : List V} {ws : List Value} (r : Vals vs us) (q : Vals zs ws) : Vals (g11 vs zs) (g11 us ws) := by
  cases r with
  | nil => exact .nil
  | cons a t =>
    cases t with
    | cons _ _ => exact .nil
    | nil =>
      cases q with
      | nil => exact .nil
      | cons b t =>
        cases t with
        | cons _ _ => exact .nil
        | nil => exact .cons a (.cons b .nil)
end DP
/-! An own error class over ValueError whose __init__ says super().__init__(a text), then self.what = what: what a call of it leaves. -/
namespace ERR
open PySem PySem.W PySem.Calls PyProof.Rows PySem.HandSPX
def eA (p1 p2 : Pos) : Arguments := { posonlyargs := [], args := [{ arg := "self", annotation := none, pos := p1 }, { arg := "what", annotation := none, pos := p2 }], vararg := none, kwonlyargs := [], kw_defaults := [], kwarg := none, defaults := [] }
def eB (txt : Str) (p : Nat → Pos) : List Stmt := [.Expr (.Call (.Attribute (.Call (.Name "super" (p 0)) [] [] (p 1)) "__init__" (p 2)) [.Constant (.str txt) 0 (p 3)] [] (p 4)) (p 5), .Assign [.Attribute (.Name "self" (p 6)) "what" (p 7)] (.Name "what" (p 8)) (p 9)]
def eS : Scope := { kind := .function, names := [("self", .local), ("what", .local), ("__class__", .free), ("super", .globalImplicit)], isGenerator := false, isCoroutine := false, more := [] }
structure ErrT (P : Program) (K : Frag) (C fI : Addr) : Prop where
  cls : ∃ nm q N bs bm sn sub ab col dd k0 k1 k2 k3 k5, K.lookup C = some (excClassObj nm q C N bs bm true sn sub ab col dd k0 k1 k2 k3 k5 "ValueError.__new__") ∧ refsVE bm = true
  sa : findIn K (.ref C) "__setattr__" = some (some (.builtin "object.__setattr__"))
  noW : findIn K (.ref C) "what" = some none
  subV : subIn K (.ref C) (.type "ValueError") = some true
  sup : ks_superIn K C C "__init__" = some (some (.builtin "ValueError.__init__"))
  opq : nsIn K cStatics "thirdparty.any" = some none
  me : mroIn K C (.ref C) = some true
  init : findIn K (.ref C) "__init__" = some (some (.ref fI))
  tyI : typeIn K (.ref fI) = some (.type "function")
  kC : keepIn K (.ref C) = true
  exC : subIn K (.ref C) (.type "BaseException") = some true
  tyC : typeIn K (.ref C) = some (.type "type")
  top : (P.main.scope.names.lookup ("super" : Str)).isSome = false
  fn : ∃ (oc : Value) (od an : Option Addr) (doc pm ct : Value) (osl : Array (Option Value)) (qual txt : Str) (cc cda : Addr) (p1 p2 : Pos) (p : Nat → Pos) (cl ccl : Value) (cld cdd : Option Addr) (csl ccs : Array (Option Value)) (vs : Array Value) (file : Str) (tf : Tok),
    K.lookup fI = some ⟨oc, od, .func (ksFn "__init__" qual (eA p1 p2) (eB txt p) eS .none .none doc pm an (.ref cda) ct cc), osl⟩ ∧ codeIn K (.ref cda) qual = true ∧
    (∀ env : Env, ∃ pl : Sem Bool, eval (.Call (.Attribute (.Call (.Name "super" (p 0)) [] [] (p 1)) "__init__" (p 2)) [.Constant (.str txt) 0 (p 3)] [] (p 4)) env = (do
      let ov ← attributeBase (.Call (.Name "super" (p 0)) [] [] (p 1)) "__init__" env (eval (.Call (.Name "super" (p 0)) [] [] (p 1)) env)
      standAt (p 2).atName
      let (f, first) ← holding [ov] (getMethod ov "__init__" pl)
      callWith (p 4) f first (backTo (p 4) (starEach [.Constant (.str txt) 0 (p 3)] env)) [])) ∧
    K.lookup cc = some ⟨cl, cld, .cell (some (.ref C)), csl⟩ ∧ K.lookup cda = some ⟨ccl, cdd, .fields vs, ccs⟩ ∧ vs[2]? = some (.str file tf) ∧ ((P.main.file : Str) == file) = true
/-- what __init__ leaves of a fresh exception at x -/
structure Left (h h' : Heap) (x C dx t1 : Addr) (v : Value) : Prop where
  keep : ∀ b o, b ≠ x → h.get? b = some o → h'.get? b = some o
  obj : h'.get? x = some { cls := .ref C, dict := some dx, data := .fields #[.ref t1, .none, .none, .none, .bool false, .none] }
  dbig : h.objs.size ≤ dx
  dne : dx ≠ x
  ns : h'.Ns1 dx (fun y => if y = "what" then some v else none)
section
variable {P : Program} {w : World} {A : Around} {E : Value → Shared → Prop} {R : Result → Shared → Prop} {s : Shared} {K : Frag} {mg mb : Str → Option Value} {C fI : Addr}
theorem mw_call {h : Heap} {g : Array GenState} {d : Drawn} {tk : Nat} {os : OsState} {u x t0 : Addr} {rest : List Value} {nm q : Str} {N : Addr} {bs bm : List Value} {sn : List Str} {sub : List Value} {ab : Bool} {col : Option Bool} {dd : Option Addr} {k0 k1 k2 k3 k5 : Option Value} {Q : Value → Shared → Prop}
    (hu : h.get? u = some (kxs_mw "ValueError.__init__" x)) (hx : h.get? x = some (excO C t0)) (hC : h.get? C = some (excClassObj nm q C N bs bm true sn sub ab col dd k0 k1 k2 k3 k5 "ValueError.__new__")) (hz : rest.length ≤ sizeLine)
    (fin : ∀ h', (∀ b o, b ≠ x → h.get? b = some o → h'.get? b = some o) → h'.get? x = some (excO C h.objs.size) → Q .none ⟨h', g, d, tk, os⟩) :
    wpAny (model P w) A (call (.ref u) rest) Q E ⟨h, g, d, tk, os⟩ := by
  have e1 : (Value.type "method-wrapper" == Value.type "method" || Value.type "method-wrapper" == Value.type "builtin_function_or_method" || Value.type "method-wrapper" == Value.type "method-wrapper") = true := by decide
  refine wpAny_call (codeAny_of_tree (show wpAny _ A.in1 (callAny (.ref u) ⟨rest, []⟩) _ _ _ from ?_))
  unfold callAny
  refine wpAny_bind (wpAny_load hu ?_)
  simp only [kxs_mw, e1, if_true]
  refine KFB.if_so (by decide) (wpAny_bind (check_bound_init F.excBase_ValueError.toExcCallFacts hC hx rfl ?_))
  refine wpAny_bind (wpAny_pure (wpAny_pure ⟨plainId_quiet F.excBase_ValueError.init.plain _, codeAny_builtin F.excBase_ValueError.initEntry ?_⟩))
  exact exc_init_tree (cls := .ref C) (t0 := t0) (dv := none) (c2 := .none) (c3 := .none) (b4 := .bool false) hx hz fun h' a1 a2 _ => fin h' a1 a2
theorem err_init (T : ErrT P K C fI) {x t0 : Addr} {v : Value} (X : K.In s.heap) (hlim : s.heap.NoLimit) (G : s.heap.Ns mainGlobals mg) (B : s.heap.Ns builtinsNs mb) (g0 : mg "super" = none) (b0 : mb "super" = some (.type "super"))
    (hx : s.heap.get? x = some (excO C t0)) (hnx : K.lookup x = none) (hroom : A.depth < recursionLimit)
    (hq : ∀ h' tk dx t1, Left s.heap h' x C dx t1 v → R (.ok (.ret .none)) { s with heap := h', toks := tk }) :
    codeAny (model P w) A (.call (.ref fI) ⟨[.ref x, v], []⟩) R s := by
  obtain ⟨oc, od, an, doc, pm, ct, osl, qual, txt, cc, cda, p1, p2, p, cl, ccl, cld, cdd, csl, ccs, vs, file, tf, ho, hcd, hev, hcell, hcode, hvs, hfile⟩ := T.fn
  obtain ⟨nm, q, N, bs, bm, sn, sub, ab, col, dd, k0, k1, k2, k3, k5, hC, hbm⟩ := T.cls
  refine ks_codeAny_call_defAt (fd := ksFn "__init__" qual (eA p1 p2) (eB txt p) eS .none .none doc pm an (.ref cda) ct cc) (body := eB txt p) (binds := [("self", .ref x), ("what", v)]) hroom (X _ _ ho) rfl hlim (codeRec_of X hcd) rfl (BindsTo.of_eq rfl) (show ∀ x ∈ eS.names, x.2 ≠ .cell by decide +kernel) (fun y hy => ?_) (fun h₁ hns k => ?_) rfl rfl rfl
  · simp only [List.mem_cons, List.mem_nil_iff, or_false] at hy
    rcases hy with rfl | rfl <;> rfl
  have X1 : K.In h₁ := X.keeps k
  have hx1 := k _ _ hx
  have hD1 := X1 _ _ hC
  have hxC : x ≠ C := fun e => by rw [e, hC] at hnx; cases hnx
  have hcl : clsIn K C = some { name := nm, bases := bs, mro := .ref C :: bm, ns := N, qualname := q, hasDict := true, slotNames := sn, subclasses := sub, abstract := ab, collection := col, hasDel := false } := by unfold clsIn; rw [hC] <;> rfl
  have I1 : InstAt h₁ x (excO C t0) C none := ⟨hx1, rfl, rfl, trivial⟩
  -- super().__init__(text)
  obtain ⟨pl, hev⟩ := hev (ksEnv qual eS s.heap.objs.size fI (.ref cda) cc)
  refine ks_wpAt_execs_cons (ks_wpAt_Expr_any (ks_wpAt_MethodCall (pl := pl) ?_ hev))
  refine ks_wpAt_super_base (env := ksEnv qual eS s.heap.objs.size fI (.ref cda) cc) rfl rfl rfl rfl (X1 _ _ ho) rfl rfl rfl (X1 _ _ hcode) rfl hvs hfile T.top ?_
  refine ks_loadName_global rfl rfl (loadGlobal_builtin (env := ksEnv qual eS s.heap.objs.size fI (.ref cda) cc) (G.keeps k) g0 (B.keeps k) b0 ⟨rfl, ?_⟩)
  refine wpAny_loadName_free rfl rfl rfl ⟨_, X1 _ _ hcell, rfl⟩ ?_
  refine wpAny_loadName_local (v := .ref x) rfl rfl hns rfl ?_
  refine ks_wpAny_isType_cls hD1 rfl ⟨rfl, ?_⟩
  refine ks_wpAny_call_super hD1 rfl hx1 rfl (fun c e => by cases e) (looks_mroIn X1 T.me) (fun h2 hso k2 => ?_)
  have X2 : K.In h2 := X1.keeps k2
  have I2 : InstAt h2 x (excO C t0) C none := ⟨k2 _ _ hx1, rfl, rfl, trivial⟩
  have hal : alongIn K "__init__" (((Value.ref C :: bm).dropWhile (· != .ref C)).drop 1) = some (some (.builtin "ValueError.__init__")) := by
    have h := T.sup
    unfold ks_superIn at h
    rw [hcl] at h
    exact h
  have hmr : ∀ {M : Model}, Looks M h2 (mroOf (.ref C)) (.ref C :: bm) := fun A Q E s k q => wpAny_bind ((looks_clsIn X2 hcl) A _ E s k (wpAny_pure q))
  refine kxs_getMethod kxs_ValueError hso (looks_opaque X2 T.opq) hmr rfl X2 hal (I2.type.andThen (looks_subIn X2 T.subV)) hxC (by decide) ?_
  refine kxs_callWith (i := "ValueError.__init__") (x := x) rfl (evalArgs_plain ?_)
  refine Calls.spliced_cons (Constant_str (k := 0) (pos := p 3) (Calls.spliced_nil ⟨?_, ?_⟩))
  · exact Heap.get?_push_size h2 rfl
  have kp : ∀ b o, h2.get? b = some o → (h2.push (kxs_mw "ValueError.__init__" x)).get? b = some o := fun b o e => Heap.get?_push_of_some _ e
  refine mw_call (Heap.get?_push_size h2 rfl) (kp _ _ (k2 _ _ hx1)) (kp _ _ (k2 _ _ hD1)) (by rw [sizeLine_eq]; exact (by decide : 1 ≤ 16777216)) fun h3 k3' hx3 => ?_
  have k3 : ∀ b o, b ≠ x → h₁.get? b = some o → h3.get? b = some o := fun b o hb e => k3' b o hb (kp _ _ (k2 _ _ e))
  have X3 : K.In h3 := fun a o e => k3 a o (fun z => by rw [z, hnx] at e; cases e) (X1 a o e)
  -- self.what = what
  have hxL : s.heap.objs.size ≠ x := Nat.ne_of_gt (Heap.lt_size hx)
  have hns3 : h3.Ns s.heap.objs.size (fun y => ([("self", Value.ref x), ("what", v)] : List (Str × Value)).reverse.lookup y) := by
    obtain ⟨oL, es, ep, hL, r⟩ := hns
    exact ⟨oL, es, ep, k3 _ _ hxL hL, r⟩
  have I3 : InstAt h3 x (excO C (h2.push (kxs_mw "ValueError.__init__" x)).objs.size) C none := ⟨hx3, rfl, rfl, trivial⟩
  refine ks_wpAt_execs_cons (wpAt_of_wpAny (plainObj_wpAny_Assign_Attribute ?_))
  refine wpAny_Name (wpAny_loadName_local (v := v) rfl rfl hns3 rfl ?_) (by decide)
  refine wpAny_Name (wpAny_loadName_local (v := .ref x) rfl rfl hns3 rfl ?_) (by decide)
  refine set_plain X3 I3 T.sa ?_
  refine exc_osa X3 hx3 hcl (show refsVE (.ref C :: bm) = true from hbm) rfl T.noW (fun h4 tk4 dx k4 dn dne hx4 hn4 => ?_)
  have sz : s.heap.objs.size ≤ h3.objs.size := Nat.le_of_lt hns3.lt
  refine wpAt_of_wpAny (wpAny_execs_nil (hq h4 tk4 dx _ ⟨fun b o hb e => k4 b o hb (k3 b o hb (k b o e)), hx4, Nat.le_trans sz dn, dne, hn4⟩))
end
end ERR
namespace ERR
open PySem PySem.W PySem.Calls PyProof.Rows PySem.HandSPX
/-- a made error -/
structure Made (h h' : Heap) (e C d : Addr) (v : Value) : Prop where
  keep : ∀ b o, h.get? b = some o → h'.get? b = some o
  new : h.objs.size ≤ e
  obj : ∃ t1 : Addr, h'.get? e = some { cls := .ref C, dict := some d, data := .fields #[.ref t1, .none, .none, .none, .bool false, .none] }
  dbig : h.objs.size ≤ d
  dne : d ≠ e
  ns : h'.Ns1 d (fun y => if y = "what" then some v else none)
section
variable {P : Program} {w : World} {A : Around} {R : Result → Shared → Prop} {s : Shared} {K : Frag} {mg mb : Str → Option Value} {C fI : Addr}
theorem err_made (T : ErrT P K C fI) {v : Value} (X : K.In s.heap) (hlim : s.heap.NoLimit) (G : s.heap.Ns mainGlobals mg) (B : s.heap.Ns builtinsNs mb) (g0 : mg "super" = none) (b0 : mb "super" = some (.type "super")) (hroom : A.depth + 1 < recursionLimit)
    (hq : ∀ h' tk e d, Made s.heap h' e C d v → R (.ok (.ret (.ref e))) { s with heap := h', toks := tk }) :
    codeAny (model P w) A (.call (.ref C) ⟨[v], []⟩) R s := by
  obtain ⟨nm, q, N, bs, bm, sn, sub, ab, col, dd, k0, k1, k2, k3, k5, hC, hbm⟩ := T.cls
  obtain ⟨hp, gs, dr, tk, os⟩ := s
  have up : ∀ b o, hp.get? b = some o → ((hp.push (kdv_tup [v])).push (excO C hp.objs.size)).get? b = some o := fun b o e => Heap.get?_push_of_some _ (Heap.get?_push_of_some _ e)
  have new : ((hp.push (kdv_tup [v])).push (excO C hp.objs.size)).get? (hp.objs.size + 1) = some (excO C hp.objs.size) := by heap_get
  have out : K.lookup (hp.objs.size + 1) = none := by
    cases e : K.lookup (hp.objs.size + 1) with
    | none => rfl
    | some o =>
      have hlt := Heap.lt_size (X _ _ e)
      have hlt' : hp.objs.size + 1 < hp.objs.size := hlt
      omega
  have one : [v].length ≤ sizeLine := by rw [sizeLine_eq]; exact (by decide : 1 ≤ 16777216)
  refine call_own F.excBase_ValueError (fun Y => refsVE_contains Y bm hbm) (X _ _ hC) (looks_findIn X T.init) (fun self => bind_fn X self T.tyI) one ?_
  refine err_init (s := ⟨(hp.push (kdv_tup [v])).push (excO C hp.objs.size), gs, dr, tk, os⟩) T (X.keeps up) (hlim.keeps up) (G.keeps up) (B.keeps up) g0 b0 new out hroom fun h' tk' dx t1 L => ?_
  have z : hp.objs.size + 1 + 1 ≤ dx := by
    have q := L.dbig
    first
      | exact q
      | simpa only [Heap.size_push] using q
  refine ⟨rfl, hq h' tk' (hp.objs.size + 1) dx ⟨fun b o e => L.keep b o (fun eb => ?_) (up b o e), Nat.le_succ _, ⟨t1, L.obj⟩, Nat.le_trans (Nat.le_add_right _ 2) z, L.dne, L.ns⟩⟩
  subst eb
  have hlt : hp.objs.size + 1 < hp.objs.size := Heap.lt_size e
  omega
end
end ERR
namespace L2
open PySem PySem.Spec PyProof.Rows
theorem relO_what {v : V} {u : Value} (r : RelV v u) (f : Str) : RelO (List.lookup f [(("what" : Str), v)]) (if f = "what" then some u else none) := by
  by_cases hw : f = "what"
  · rw [hw, if_pos rfl, show List.lookup ("what" : Str) [(("what" : Str), v)] = some v by simp [List.lookup]]
    exact r
  · have hb : (f == ("what" : Str)) = false := by simpa using hw
    rw [if_neg hw, show List.lookup f [(("what" : Str), v)] = none by simp [List.lookup, hb]]
    trivial
section
variable {X : Cx} {C fI : Addr}
/-- C(e): an error whose own dict is new and holds what -/
def tMkErr (C : Addr) (ta : TA) : St → Hp → XK → Prop := fun σ H Q => ta σ H fun vs H1 => ∃ v, vs = [v] ∧ ∀ d, H1 d = none → Q (.ref C) (some d) (upd H1 d (.xd [(("what" : Str), v)]))
theorem pmk_err {nm : Str} {a : Expr} {ta : TA} {p pos : Pos} {k : Nat} (T : ERR.ErrT X.prog X.K C fI) (hm : X.mg nm = some (.ref C)) (g0 : X.mg "super" = none) (hr : Room k X.A) (ha : PA X [a] ta) (hg : Gl X nm := by rfl) (hdb : (nm == ("__debug__" : Str)) = false := by decide)
    (he : starEach (a :: []) X.env = (false, eval a X.env) :: starEach [] X.env := by rfl) (hpl : (backTo pos (starEach [] X.env)).any (·.1) = false := by rfl) :
    PMk X (.Call (.Name nm p) [a] [] pos) (tMkErr C ta) := by
  intro pins s σ H Q I h
  refine wpAny_Call_Name_kw (ld_glob I hg hm ?_ hdb)
  refine PySem.W.callWith_K (h₀ := X.base) I.ok.mod.kin T.kC (thn (ha.run pos pins s σ H _ I h) fun us s1 ⟨vs, H1, I1, r1, v, ev, q1⟩ => ⟨I1.kIn, ?_⟩) he hpl
  subst ev
  obtain ⟨u, rfl, rv⟩ : ∃ u, us = [u] ∧ RelV v u := by
    cases r1 with
    | cons a b => cases b; exact ⟨_, rfl, a⟩
  obtain ⟨mb, hb, hbb⟩ := I1.mod.blt
  have lim := I1.nolimit
  obtain ⟨hp, gs, dr, tk, os⟩ := s1
  refine wpAny_call (ERR.err_made T I1.kIn lim (I1.mod.glob.keeps I1.bk) (hb.keeps I1.bk) g0 ((hbb "super" (by decide)).trans (by rfl)) (by have := hr.dp; omega) fun h' tk' e d M => ?_)
  obtain ⟨t1, hoe⟩ := M.obj
  obtain ⟨G', f1, f2⟩ := restrict h' fun b => decide (b ≠ e)
  have at_ : ∀ b, b ≠ e → G'.get? b = h'.get? b := fun b hb => f1 b (decide_eq_true hb)
  have gone : G'.get? e = none := f2 e (by simp)
  have lt : ∀ b o, hp.get? b = some o → b ≠ e := fun b o q z => by
    have h1 := Heap.lt_size q
    have h2 := M.new
    rw [z] at h1
    exact absurd h1 (Nat.not_lt.mpr h2)
  have ob : ObjOk X.prog X.w (upd H1 d (.xd [(("what" : Str), v)])) G' d (.xd [(("what" : Str), v)]) := ⟨_, M.ns.at (fun o q => (at_ d M.dne).trans q), fun f => relO_what rv f⟩
  have J : Inv X pins σ (upd H1 d (.xd [(("what" : Str), v)])) ⟨G', gs, dr, tk', os⟩ := I1.laid (t' := tk') (fun b o q => (at_ b (lt b o q)).trans (M.keep b o q)) M.dbig ob
  have nA : (upd H1 d (.xd [(("what" : Str), v)])) e = none := by rw [upd_ne (Ne.symm M.dne)]; exact I1.hok.fresh M.new
  refine ⟨e, _, _, ⟨G', gs, dr, tk', os⟩, _, .ref C, some d, rfl, J, fun b o q => ?_, gone, hoe, ⟨rfl, rfl⟩, rfl, rfl, nA, rfl, I1.bare, raises_own T.exC T.tyC, q1 d (I1.hok.fresh M.dbig)⟩
  by_cases hbe : b = e
  · rw [hbe] at q; exact absurd (q.symm.trans gone) (by simp)
  · exact (at_ b hbe).symm.trans q
end
end L2
/-! The facts of an own error class out of the written part, one by one. -/
namespace ERR
open PySem PySem.W PySem.Calls PyProof.Rows PySem.HandSPX
/-- where the parts of such an __init__ stand -/
def ePos (b : List Stmt) : Nat → Pos := match b with
  | [.Expr (.Call (.Attribute (.Call (.Name _ p0) _ _ p1) _ p2) [.Constant _ _ p3] _ p4) p5, .Assign [.Attribute (.Name _ p6) _ p7] (.Name _ p8) p9] => fun n => match n with
    | 0 => p0 | 1 => p1 | 2 => p2 | 3 => p3 | 4 => p4 | 5 => p5 | 6 => p6 | 7 => p7 | 8 => p8 | _ => p9
  | _ => fun _ => ⟨0, 0, 0, 0⟩
def eTxt (b : List Stmt) : Str := match b with
  | [.Expr (.Call _ [.Constant (.str x) _ _] _ _) _, _] => x
  | _ => ""
/-- an error of the class at S is what «except S» names -/
theorem exm_self {K : Frag} {S : Addr} (h1 : subIn K (.ref S) (.type "BaseException") = some true) (h2 : isClsIn K S = true) (h3 : typeIn K (.ref S) = some (.type "type")) (h4 : subIn K (.ref S) (.ref S) = some true) :
    exmOne K (.ref S) (.ref S) = some true := by
  have e1 : (subIn K (.ref S) (.type "BaseException") == some true) = true := by rw [h1] <;> rfl
  have e2 : ((clsIn K S).isSome && typeIn K (.ref S) == some (.type "type")) = true := by
    have h2' : (clsIn K S).isSome = true := h2
    rw [h2', h3] <;> rfl
  show (if (subIn K (.ref S) (.type "BaseException") == some true) = true then (if ((clsIn K S).isSome && typeIn K (.ref S) == some (.type "type")) = true then subIn K (.ref S) (.ref S) else none) else none) = some true
  rw [if_pos e1, if_pos e2]
  exact h4
theorem errT_mk {P : Program} {K : Frag} {C fI : Addr} (s : Stmt) {qual : Str}
    {nm q : Str} {N : Addr} {bs bm : List Value} {sn : List Str} {sub : List Value} {ab : Bool} {col : Option Bool} {dd : Option Addr} {k0 k1 k2 k3 k5 : Option Value}
    {oc doc pm ct cl ccl : Value} {od an cld cdd : Option Addr} {osl csl ccs : Array (Option Value)} {cc cda : Addr} {vs : Array Value} {file : Str} {tf : Tok}
    (xL : K.lookup C = some (excClassObj nm q C N bs bm true sn sub ab col dd k0 k1 k2 k3 k5 "ValueError.__new__")) (bmv : refsVE bm = true)
    (sa : findIn K (.ref C) "__setattr__" = some (some (.builtin "object.__setattr__")))
    (noW : findIn K (.ref C) "what" = some none)
    (subV : subIn K (.ref C) (.type "ValueError") = some true)
    (sup : ks_superIn K C C "__init__" = some (some (.builtin "ValueError.__init__")))
    (opq : nsIn K cStatics "thirdparty.any" = some none)
    (me : mroIn K C (.ref C) = some true)
    (init : findIn K (.ref C) "__init__" = some (some (.ref fI)))
    (tyI : typeIn K (.ref fI) = some (.type "function"))
    (kC : keepIn K (.ref C) = true)
    (exC : subIn K (.ref C) (.type "BaseException") = some true)
    (tyC : typeIn K (.ref C) = some (.type "type"))
    (top : (P.main.scope.names.lookup ("super" : Str)).isSome = false)
    (l : K.lookup fI = some ⟨oc, od, .func (ksFn "__init__" qual (L2.defArgs s) (L2.defBody s) (L2.defScope s) .none .none doc pm an (.ref cda) ct cc), osl⟩)
    (hA : ∃ p1 p2, L2.defArgs s = eA p1 p2) (hB : L2.defBody s = eB (eTxt (L2.defBody s)) (ePos (L2.defBody s))) (hS : L2.defScope s = eS)
    (hev : ∀ env : Env, ∃ pl : Sem Bool, eval (.Call (.Attribute (.Call (.Name "super" (ePos (L2.defBody s) 0)) [] [] (ePos (L2.defBody s) 1)) "__init__" (ePos (L2.defBody s) 2)) [.Constant (.str (eTxt (L2.defBody s))) 0 (ePos (L2.defBody s) 3)] [] (ePos (L2.defBody s) 4)) env = (do
      let ov ← attributeBase (.Call (.Name "super" (ePos (L2.defBody s) 0)) [] [] (ePos (L2.defBody s) 1)) "__init__" env (eval (.Call (.Name "super" (ePos (L2.defBody s) 0)) [] [] (ePos (L2.defBody s) 1)) env)
      standAt (ePos (L2.defBody s) 2).atName
      let (f, first) ← holding [ov] (getMethod ov "__init__" pl)
      callWith (ePos (L2.defBody s) 4) f first (backTo (ePos (L2.defBody s) 4) (starEach [.Constant (.str (eTxt (L2.defBody s))) 0 (ePos (L2.defBody s) 3)] env)) []))
    (c : codeIn K (.ref cda) qual = true)
    (lc : K.lookup cc = some ⟨cl, cld, .cell (some (.ref C)), csl⟩) (ld : K.lookup cda = some ⟨ccl, cdd, .fields vs, ccs⟩) (hv : vs[2]? = some (.str file tf)) (hf : ((P.main.file : Str) == file) = true) : ErrT P K C fI := by
  obtain ⟨p1, p2, hA⟩ := hA
  rw [hA, hS] at l
  generalize eTxt (L2.defBody s) = txt at hB hev
  generalize ePos (L2.defBody s) = p at hB hev
  rw [hB] at l
  exact { cls := ⟨nm, q, N, bs, bm, sn, sub, ab, col, dd, k0, k1, k2, k3, k5, xL, bmv⟩, sa := sa, noW := noW, subV := subV, sup := sup, opq := opq, me := me, init := init, tyI := tyI, kC := kC, exC := exC, tyC := tyC, top := top,
          fn := ⟨oc, od, an, doc, pm, ct, osl, qual, txt, cc, cda, p1, p2, p, cl, ccl, cld, cdd, csl, ccs, vs, file, tf, l, c, hev, lc, ld, hv, hf⟩ }
end ERR
namespace KA
open PySem PySem.Spec PyProof.Rows L2 DP
/-- one positional value, then y, x, word by their names -/
def g1_yxword {α : Type} : List α → List α → List α
  | [a], [y, x, w] => [a, w, x, y]
  | _, _ => []
theorem g1_yxword_of {α : Type} {us ws : List α} (h : (g1_yxword us ws).length = 4) : ∃ a b c d, us = [a] ∧ ws = [b, c, d] := by
  match us, ws, h with
  | [a], [y, x, w], _ => exact ⟨a, y, x, w, rfl, rfl⟩
  | [], _, h => exact nomatch (show (0 : Nat) = 4 from h)
  | [_], [], h => exact nomatch (show (0 : Nat) = 4 from h)
  | [_], [_], h => exact nomatch (show (0 : Nat) = 4 from h)
  | [_], [_, _], h => exact nomatch (show (0 : Nat) = 4 from h)
  | [_], _ :: _ :: _ :: _ :: _, h => exact nomatch (show (0 : Nat) = 4 from h)
  | _ :: _ :: _, _, h => exact nomatch (show (0 : Nat) = 4 from h)
theorem g1_yxword_rel {vs : List V} {us : List Value} {zs : List V} {ws : List Value} (r : Vals vs us) (q : Vals zs ws) : Vals (g1_yxword vs zs) (g1_yxword us ws) := by
  cases r with
  | nil => exact .nil
  | cons a t =>
    cases t with
    | cons _ _ => exact .nil
    | nil =>
      cases q with
      | nil => exact .nil
      | cons b t =>
        cases t with
        | nil => exact .nil
        | cons c t =>
          cases t with
          | nil => exact .nil
          | cons d t =>
            cases t with
            | nil => exact .cons a (.cons d (.cons c (.cons b .nil)))
            | cons _ _ => exact .nil
def top (i : Nat) : Stmt := PySem.Challenge.pw_darkpace_k05_may_and_sure.main.body.getD i (.Pass ⟨0, 0, 0, 0⟩)
abbrev slaw_tray : Stmt := top 19
abbrev N_law_tray : List Str := ["script", "fold", "great", "cell", "much"]
abbrev P_law_tray : List Str := ["script"]
theorem sclaw_tray : FnScope N_law_tray P_law_tray (defScope slaw_tray) := ⟨rfl, rfl, rfl, by decide +kernel, rfl, by decide +kernel, by decide +kernel⟩
abbrev slaw_draw : Stmt := top 20
abbrev N_law_draw : List Str := ["tray", "many", "found", "mixed"]
abbrev P_law_draw : List Str := ["tray", "many"]
theorem sclaw_draw : FnScope N_law_draw P_law_draw (defScope slaw_draw) := ⟨rfl, rfl, rfl, by decide +kernel, rfl, by decide +kernel, by decide +kernel⟩
abbrev slaw_great : Stmt := top 21
abbrev N_law_great : List Str := ["tray", "found", "k"]
abbrev P_law_great : List Str := ["tray"]
theorem sclaw_great : FnScope N_law_great P_law_great (defScope slaw_great) := ⟨rfl, rfl, rfl, by decide +kernel, rfl, by decide +kernel, by decide +kernel⟩
abbrev slaw_alike : Stmt := top 22
abbrev N_law_alike : List Str := ["found", "due", "k"]
abbrev P_law_alike : List Str := ["found", "due"]
theorem sclaw_alike : FnScope N_law_alike P_law_alike (defScope slaw_alike) := ⟨rfl, rfl, rfl, by decide +kernel, rfl, by decide +kernel, by decide +kernel⟩
abbrev slaw_length : Stmt := top 23
abbrev N_law_length : List Str := ["tray", "lot"]
abbrev P_law_length : List Str := ["tray"]
theorem sclaw_length : FnScope N_law_length P_law_length (defScope slaw_length) := ⟨rfl, rfl, rfl, by decide +kernel, rfl, by decide +kernel, by decide +kernel⟩
abbrev slaw_lead : Stmt := top 24
abbrev N_law_lead : List Str := ["size", "steps", "spot", "here", "there"]
abbrev P_law_lead : List Str := ["size", "steps", "spot"]
theorem sclaw_lead : FnScope N_law_lead P_law_lead (defScope slaw_lead) := ⟨rfl, rfl, rfl, by decide +kernel, rfl, by decide +kernel, by decide +kernel⟩
abbrev slaw_secret : Stmt := top 25
abbrev N_law_secret : List Str := ["tray", "size", "spots", "k", "rises", "spot", "lot", "base"]
abbrev P_law_secret : List Str := ["tray", "size"]
theorem sclaw_secret : FnScope N_law_secret P_law_secret (defScope slaw_secret) := ⟨rfl, rfl, rfl, by decide +kernel, rfl, by decide +kernel, by decide +kernel⟩
abbrev slaw_true_look : Stmt := top 26
abbrev N_law_true_look : List Str := ["tray", "size", "steps", "spot", "off", "said", "sign", "turn"]
abbrev P_law_true_look : List Str := ["tray", "size", "steps"]
theorem sclaw_true_look : FnScope N_law_true_look P_law_true_look (defScope slaw_true_look) := ⟨rfl, rfl, rfl, by decide +kernel, rfl, by decide +kernel, by decide +kernel⟩
abbrev slaw_known : Stmt := top 27
abbrev N_law_known : List Str := ["tray", "size", "most", "steps", "many", "turn"]
abbrev P_law_known : List Str := ["tray", "size", "most"]
theorem sclaw_known : FnScope N_law_known P_law_known (defScope slaw_known) := ⟨rfl, rfl, rfl, by decide +kernel, rfl, by decide +kernel, by decide +kernel⟩
abbrev slaw_least : Stmt := top 28
abbrev N_law_least : List Str := ["size", "known", "spot", "some", "said", "here", "there"]
abbrev P_law_least : List Str := ["size", "known", "spot"]
theorem sclaw_least : FnScope N_law_least P_law_least (defScope slaw_least) := ⟨rfl, rfl, rfl, by decide +kernel, rfl, by decide +kernel, by decide +kernel⟩
abbrev slaw_greatest : Stmt := top 29
abbrev N_law_greatest : List Str := ["size", "known", "spot", "some", "said", "here", "there"]
abbrev P_law_greatest : List Str := ["size", "known", "spot"]
theorem sclaw_greatest : FnScope N_law_greatest P_law_greatest (defScope slaw_greatest) := ⟨rfl, rfl, rfl, by decide +kernel, rfl, by decide +kernel, by decide +kernel⟩
abbrev slaw_made : Stmt := top 30
abbrev N_law_made : List Str := ["size", "known", "made", "look"]
abbrev P_law_made : List Str := ["size", "known"]
theorem sclaw_made : FnScope N_law_made P_law_made (defScope slaw_made) := ⟨rfl, rfl, rfl, by decide +kernel, rfl, by decide +kernel, by decide +kernel⟩
abbrev slaw_spot : Stmt := top 31
abbrev N_law_spot : List Str := ["tray", "size", "known", "lot", "spot"]
abbrev P_law_spot : List Str := ["tray", "size", "known"]
theorem sclaw_spot : FnScope N_law_spot P_law_spot (defScope slaw_spot) := ⟨rfl, rfl, rfl, by decide +kernel, rfl, by decide +kernel, by decide +kernel⟩
abbrev slaw_edge : Stmt := top 32
abbrev N_law_edge : List Str := ["tray", "size", "some", "spot", "there", "off"]
abbrev P_law_edge : List Str := ["tray", "size", "some", "spot"]
theorem sclaw_edge : FnScope N_law_edge P_law_edge (defScope slaw_edge) := ⟨rfl, rfl, rfl, by decide +kernel, rfl, by decide +kernel, by decide +kernel⟩
abbrev slaw_dues : Stmt := top 33
abbrev N_law_dues : List Str := ["said", "some", "there", "under", "above", "sure_under", "sure_above"]
abbrev P_law_dues : List Str := ["said", "some", "there"]
theorem sclaw_dues : FnScope N_law_dues P_law_dues (defScope slaw_dues) := ⟨rfl, rfl, rfl, by decide +kernel, rfl, by decide +kernel, by decide +kernel⟩
abbrev slaw_can_hear : Stmt := top 34
abbrev N_law_can_hear : List Str := ["size", "known", "look", "made", "heard"]
abbrev P_law_can_hear : List Str := ["size", "known", "look"]
theorem sclaw_can_hear : FnScope N_law_can_hear P_law_can_hear (defScope slaw_can_hear) := ⟨rfl, rfl, rfl, by decide +kernel, rfl, by decide +kernel, by decide +kernel⟩
abbrev sside_looks : Stmt := top 10
abbrev N_side_looks : List Str := ["looks", "side", "words", "look"]
abbrev P_side_looks : List Str := ["looks", "side"]
theorem scside_looks : FnScope N_side_looks P_side_looks (defScope sside_looks) := ⟨rfl, rfl, rfl, by decide +kernel, rfl, by decide +kernel, by decide +kernel⟩
abbrev splace_by : Stmt := top 11
abbrev N_place_by : List Str := ["look", "side", "x", "length", "_", "start", "end"]
abbrev P_place_by : List Str := ["look", "side", "x", "length"]
theorem scplace_by : FnScope N_place_by P_place_by (defScope splace_by) := ⟨rfl, rfl, rfl, by decide +kernel, rfl, by decide +kernel, by decide +kernel⟩
abbrev sbest_step : Stmt := top 12
abbrev N_best_step : List Str := ["looks", "side", "x", "length", "steps", "look"]
abbrev P_best_step : List Str := ["looks", "side", "x", "length"]
theorem scbest_step : FnScope N_best_step P_best_step (defScope sbest_step) := ⟨rfl, rfl, rfl, by decide +kernel, rfl, by decide +kernel, by decide +kernel⟩
abbrev stoo_far : Stmt := top 15
abbrev N_too_far : List Str := ["low", "high", "length"]
abbrev P_too_far : List Str := ["low", "high", "length"]
theorem sctoo_far : FnScope N_too_far P_too_far (defScope stoo_far) := ⟨rfl, rfl, rfl, by decide +kernel, rfl, by decide +kernel, by decide +kernel⟩
abbrev sclash : Stmt := top 16
abbrev N_clash : List Str := ["look", "other", "length"]
abbrev P_clash : List Str := ["look", "other", "length"]
theorem scclash : FnScope N_clash P_clash (defScope sclash) := ⟨rfl, rfl, rfl, by decide +kernel, rfl, by decide +kernel, by decide +kernel⟩
abbrev sDark_init : Stmt := inClass (top 17) 0
abbrev N_Dark_init : List Str := ["self", "length"]
abbrev P_Dark_init : List Str := ["self", "length"]
theorem scDark_init : FnScope N_Dark_init P_Dark_init (defScope sDark_init) := ⟨rfl, rfl, rfl, by decide +kernel, rfl, by decide +kernel, by decide +kernel⟩
abbrev sDark_hear : Stmt := inClass (top 17) 4
abbrev N_Dark_hear : List Str := ["self", "word", "x", "y", "look", "other"]
abbrev P_Dark_hear : List Str := ["self", "word", "x", "y"]
theorem scDark_hear : FnScope N_Dark_hear P_Dark_hear (defScope sDark_hear) := ⟨rfl, rfl, rfl, by decide +kernel, rfl, by decide +kernel, by decide +kernel⟩
abbrev sDark_looks : Stmt := inClass (top 17) 6
abbrev N_Dark_looks : List Str := ["self"]
abbrev P_Dark_looks : List Str := ["self"]
theorem scDark_looks : FnScope N_Dark_looks P_Dark_looks (defScope sDark_looks) := ⟨rfl, rfl, rfl, by decide +kernel, rfl, by decide +kernel, by decide +kernel⟩
abbrev sDark_least : Stmt := inClass (top 17) 7
abbrev N_Dark_least : List Str := ["self", "x"]
abbrev P_Dark_least : List Str := ["self", "x"]
theorem scDark_least : FnScope N_Dark_least P_Dark_least (defScope sDark_least) := ⟨rfl, rfl, rfl, by decide +kernel, rfl, by decide +kernel, by decide +kernel⟩
abbrev sDark_greatest : Stmt := inClass (top 17) 8
abbrev N_Dark_greatest : List Str := ["self", "x"]
abbrev P_Dark_greatest : List Str := ["self", "x"]
theorem scDark_greatest : FnScope N_Dark_greatest P_Dark_greatest (defScope sDark_greatest) := ⟨rfl, rfl, rfl, by decide +kernel, rfl, by decide +kernel, by decide +kernel⟩
abbrev sDark_may : Stmt := inClass (top 17) 9
abbrev N_Dark_may : List Str := ["self", "word", "x", "y"]
abbrev P_Dark_may : List Str := ["self", "word", "x", "y"]
theorem scDark_may : FnScope N_Dark_may P_Dark_may (defScope sDark_may) := ⟨rfl, rfl, rfl, by decide +kernel, rfl, by decide +kernel, by decide +kernel⟩
abbrev sDark_sure : Stmt := inClass (top 17) 10
abbrev N_Dark_sure : List Str := ["self", "word", "x", "y", "low", "high", "sure_from", "sure_upto"]
abbrev P_Dark_sure : List Str := ["self", "word", "x", "y"]
theorem scDark_sure : FnScope N_Dark_sure P_Dark_sure (defScope sDark_sure) := ⟨rfl, rfl, rfl, by decide +kernel, rfl, by decide +kernel, by decide +kernel⟩
abbrev sDarkcheck_word : Stmt := inClass (top 17) 12
abbrev N_Darkcheck_word : List Str := ["self", "word"]
abbrev P_Darkcheck_word : List Str := ["self", "word"]
theorem scDarkcheck_word : FnScope N_Darkcheck_word P_Darkcheck_word (defScope sDarkcheck_word) := ⟨rfl, rfl, rfl, by decide +kernel, rfl, by decide +kernel, by decide +kernel⟩
abbrev sDarkhome : Stmt := inClass (top 17) 13
abbrev N_Darkhome : List Str := ["self", "word", "x", "y", "turns"]
abbrev P_Darkhome : List Str := ["self", "word", "x", "y"]
theorem scDarkhome : FnScope N_Darkhome P_Darkhome (defScope sDarkhome) := ⟨rfl, rfl, rfl, by decide +kernel, rfl, by decide +kernel, by decide +kernel⟩
abbrev sDarkclashing : Stmt := inClass (top 17) 14
abbrev N_Darkclashing : List Str := ["self", "look", "other"]
abbrev P_Darkclashing : List Str := ["self", "look"]
theorem scDarkclashing : FnScope N_Darkclashing P_Darkclashing (defScope sDarkclashing) := ⟨rfl, rfl, rfl, by decide +kernel, rfl, by decide +kernel, by decide +kernel⟩
abbrev sDarkbound : Stmt := inClass (top 17) 15
abbrev N_Darkbound : List Str := ["self", "side", "x", "step"]
abbrev P_Darkbound : List Str := ["self", "side", "x"]
theorem scDarkbound : FnScope N_Darkbound P_Darkbound (defScope sDarkbound) := ⟨rfl, rfl, rfl, by decide +kernel, rfl, by decide +kernel, by decide +kernel⟩
abbrev slaw : Stmt := top 35
abbrev N_law : List Str := ["script", "tray", "k", "size", "side", "known", "look", "made", "before", "turn", "spot", "some", "said", "there", "due", "told", "heard"]
abbrev P_law : List Str := ["script"]
theorem sclaw : FnScope N_law P_law (defScope slaw) := ⟨rfl, rfl, rfl, by decide +kernel, rfl, by decide +kernel, by decide +kernel⟩
structure Ad where
  C : Addr
  a_law_tray : Addr
  d_law_tray : FuncData
  a_law_draw : Addr
  d_law_draw : FuncData
  a_law_great : Addr
  d_law_great : FuncData
  a_law_alike : Addr
  d_law_alike : FuncData
  a_law_length : Addr
  d_law_length : FuncData
  a_law_lead : Addr
  d_law_lead : FuncData
  a_law_secret : Addr
  d_law_secret : FuncData
  a_law_true_look : Addr
  d_law_true_look : FuncData
  a_law_known : Addr
  d_law_known : FuncData
  a_law_least : Addr
  d_law_least : FuncData
  a_law_greatest : Addr
  d_law_greatest : FuncData
  a_law_made : Addr
  d_law_made : FuncData
  a_law_spot : Addr
  d_law_spot : FuncData
  a_law_edge : Addr
  d_law_edge : FuncData
  a_law_dues : Addr
  d_law_dues : FuncData
  a_law_can_hear : Addr
  d_law_can_hear : FuncData
  a_side_looks : Addr
  d_side_looks : FuncData
  a_place_by : Addr
  d_place_by : FuncData
  a_best_step : Addr
  d_best_step : FuncData
  a_too_far : Addr
  d_too_far : FuncData
  a_clash : Addr
  d_clash : FuncData
  a_Dark_init : Addr
  d_Dark_init : FuncData
  a_Dark_hear : Addr
  d_Dark_hear : FuncData
  a_Dark_looks : Addr
  d_Dark_looks : FuncData
  a_Dark_least : Addr
  d_Dark_least : FuncData
  a_Dark_greatest : Addr
  d_Dark_greatest : FuncData
  a_Dark_may : Addr
  d_Dark_may : FuncData
  a_Dark_sure : Addr
  d_Dark_sure : FuncData
  a_Darkcheck_word : Addr
  d_Darkcheck_word : FuncData
  a_Darkhome : Addr
  d_Darkhome : FuncData
  a_Darkclashing : Addr
  d_Darkclashing : FuncData
  a_Darkbound : Addr
  d_Darkbound : FuncData
  a_law : Addr
  d_law : FuncData
  v_SLOW : Value
  v_FAST : Value
  a_WORDS : Addr
  a_LW : Addr
  t_slow : Addr
  t_fast : Addr
structure Tx (K : PySem.W.Frag) (w : World) (mg : Str → Option Value) (Z : Ad) : Prop where
  F_law_tray : Fun K "_law_tray" "_law_tray" slaw_tray Z.a_law_tray Z.d_law_tray
  bb_law_tray : Binds K Z.d_law_tray P_law_tray []
  g_law_tray : mg "_law_tray" = some (.ref Z.a_law_tray)
  F_law_draw : Fun K "_law_draw" "_law_draw" slaw_draw Z.a_law_draw Z.d_law_draw
  bb_law_draw : Binds K Z.d_law_draw P_law_draw []
  g_law_draw : mg "_law_draw" = some (.ref Z.a_law_draw)
  F_law_great : Fun K "_law_great" "_law_great" slaw_great Z.a_law_great Z.d_law_great
  bb_law_great : Binds K Z.d_law_great P_law_great []
  g_law_great : mg "_law_great" = some (.ref Z.a_law_great)
  F_law_alike : Fun K "_law_alike" "_law_alike" slaw_alike Z.a_law_alike Z.d_law_alike
  bb_law_alike : Binds K Z.d_law_alike P_law_alike []
  g_law_alike : mg "_law_alike" = some (.ref Z.a_law_alike)
  F_law_length : Fun K "_law_length" "_law_length" slaw_length Z.a_law_length Z.d_law_length
  bb_law_length : Binds K Z.d_law_length P_law_length []
  g_law_length : mg "_law_length" = some (.ref Z.a_law_length)
  F_law_lead : Fun K "_law_lead" "_law_lead" slaw_lead Z.a_law_lead Z.d_law_lead
  bb_law_lead : Binds K Z.d_law_lead P_law_lead []
  g_law_lead : mg "_law_lead" = some (.ref Z.a_law_lead)
  F_law_secret : Fun K "_law_secret" "_law_secret" slaw_secret Z.a_law_secret Z.d_law_secret
  bb_law_secret : Binds K Z.d_law_secret P_law_secret []
  g_law_secret : mg "_law_secret" = some (.ref Z.a_law_secret)
  F_law_true_look : Fun K "_law_true_look" "_law_true_look" slaw_true_look Z.a_law_true_look Z.d_law_true_look
  bb_law_true_look : Binds K Z.d_law_true_look P_law_true_look []
  g_law_true_look : mg "_law_true_look" = some (.ref Z.a_law_true_look)
  F_law_known : Fun K "_law_known" "_law_known" slaw_known Z.a_law_known Z.d_law_known
  bb_law_known : Binds K Z.d_law_known P_law_known []
  g_law_known : mg "_law_known" = some (.ref Z.a_law_known)
  F_law_least : Fun K "_law_least" "_law_least" slaw_least Z.a_law_least Z.d_law_least
  bb_law_least : Binds K Z.d_law_least P_law_least []
  g_law_least : mg "_law_least" = some (.ref Z.a_law_least)
  F_law_greatest : Fun K "_law_greatest" "_law_greatest" slaw_greatest Z.a_law_greatest Z.d_law_greatest
  bb_law_greatest : Binds K Z.d_law_greatest P_law_greatest []
  g_law_greatest : mg "_law_greatest" = some (.ref Z.a_law_greatest)
  F_law_made : Fun K "_law_made" "_law_made" slaw_made Z.a_law_made Z.d_law_made
  bb_law_made : Binds K Z.d_law_made P_law_made []
  g_law_made : mg "_law_made" = some (.ref Z.a_law_made)
  F_law_spot : Fun K "_law_spot" "_law_spot" slaw_spot Z.a_law_spot Z.d_law_spot
  bb_law_spot : Binds K Z.d_law_spot P_law_spot []
  g_law_spot : mg "_law_spot" = some (.ref Z.a_law_spot)
  F_law_edge : Fun K "_law_edge" "_law_edge" slaw_edge Z.a_law_edge Z.d_law_edge
  bb_law_edge : Binds K Z.d_law_edge P_law_edge []
  g_law_edge : mg "_law_edge" = some (.ref Z.a_law_edge)
  F_law_dues : Fun K "_law_dues" "_law_dues" slaw_dues Z.a_law_dues Z.d_law_dues
  bb_law_dues : Binds K Z.d_law_dues P_law_dues []
  g_law_dues : mg "_law_dues" = some (.ref Z.a_law_dues)
  F_law_can_hear : Fun K "_law_can_hear" "_law_can_hear" slaw_can_hear Z.a_law_can_hear Z.d_law_can_hear
  bb_law_can_hear : Binds K Z.d_law_can_hear P_law_can_hear []
  g_law_can_hear : mg "_law_can_hear" = some (.ref Z.a_law_can_hear)
  F_side_looks : Fun K "side_looks" "side_looks" sside_looks Z.a_side_looks Z.d_side_looks
  bb_side_looks : Binds K Z.d_side_looks P_side_looks []
  g_side_looks : mg "side_looks" = some (.ref Z.a_side_looks)
  F_place_by : Fun K "place_by" "place_by" splace_by Z.a_place_by Z.d_place_by
  bb_place_by : Binds K Z.d_place_by P_place_by []
  g_place_by : mg "place_by" = some (.ref Z.a_place_by)
  F_best_step : Fun K "best_step" "best_step" sbest_step Z.a_best_step Z.d_best_step
  bb_best_step : Binds K Z.d_best_step P_best_step []
  g_best_step : mg "best_step" = some (.ref Z.a_best_step)
  F_too_far : Fun K "too_far" "too_far" stoo_far Z.a_too_far Z.d_too_far
  bb_too_far : Binds K Z.d_too_far P_too_far []
  g_too_far : mg "too_far" = some (.ref Z.a_too_far)
  F_clash : Fun K "clash" "clash" sclash Z.a_clash Z.d_clash
  bb_clash : Binds K Z.d_clash P_clash []
  g_clash : mg "clash" = some (.ref Z.a_clash)
  F_Dark_init : Fun K "__init__" "Dark.__init__" sDark_init Z.a_Dark_init Z.d_Dark_init
  bb_Dark_init : Binds K Z.d_Dark_init P_Dark_init []
  F_Dark_hear : Fun K "hear" "Dark.hear" sDark_hear Z.a_Dark_hear Z.d_Dark_hear
  bb_Dark_hear : Binds K Z.d_Dark_hear P_Dark_hear []
  m_Dark_hear : Meth K Z.C "hear" Z.a_Dark_hear
  F_Dark_looks : Fun K "looks" "Dark.looks" sDark_looks Z.a_Dark_looks Z.d_Dark_looks
  bb_Dark_looks : Binds K Z.d_Dark_looks P_Dark_looks []
  m_Dark_looks : Meth K Z.C "looks" Z.a_Dark_looks
  F_Dark_least : Fun K "least" "Dark.least" sDark_least Z.a_Dark_least Z.d_Dark_least
  bb_Dark_least : Binds K Z.d_Dark_least P_Dark_least []
  m_Dark_least : Meth K Z.C "least" Z.a_Dark_least
  F_Dark_greatest : Fun K "greatest" "Dark.greatest" sDark_greatest Z.a_Dark_greatest Z.d_Dark_greatest
  bb_Dark_greatest : Binds K Z.d_Dark_greatest P_Dark_greatest []
  m_Dark_greatest : Meth K Z.C "greatest" Z.a_Dark_greatest
  F_Dark_may : Fun K "may" "Dark.may" sDark_may Z.a_Dark_may Z.d_Dark_may
  bb_Dark_may : Binds K Z.d_Dark_may P_Dark_may []
  m_Dark_may : Meth K Z.C "may" Z.a_Dark_may
  F_Dark_sure : Fun K "sure" "Dark.sure" sDark_sure Z.a_Dark_sure Z.d_Dark_sure
  bb_Dark_sure : Binds K Z.d_Dark_sure P_Dark_sure []
  m_Dark_sure : Meth K Z.C "sure" Z.a_Dark_sure
  F_Darkcheck_word : Fun K "_check_word" "Dark._check_word" sDarkcheck_word Z.a_Darkcheck_word Z.d_Darkcheck_word
  bb_Darkcheck_word : Binds K Z.d_Darkcheck_word P_Darkcheck_word []
  m_Darkcheck_word : Meth K Z.C "_check_word" Z.a_Darkcheck_word
  F_Darkhome : Fun K "_home" "Dark._home" sDarkhome Z.a_Darkhome Z.d_Darkhome
  bb_Darkhome : Binds K Z.d_Darkhome P_Darkhome []
  m_Darkhome : Meth K Z.C "_home" Z.a_Darkhome
  F_Darkclashing : Fun K "_clashing" "Dark._clashing" sDarkclashing Z.a_Darkclashing Z.d_Darkclashing
  bb_Darkclashing : Binds K Z.d_Darkclashing P_Darkclashing []
  m_Darkclashing : Meth K Z.C "_clashing" Z.a_Darkclashing
  F_Darkbound : Fun K "_bound" "Dark._bound" sDarkbound Z.a_Darkbound Z.d_Darkbound
  bb_Darkbound : Binds K Z.d_Darkbound P_Darkbound []
  m_Darkbound : Meth K Z.C "_bound" Z.a_Darkbound
  F_law : Fun K "law" "law" slaw Z.a_law Z.d_law
  bb_law : Binds K Z.d_law P_law []
  g_law : mg "law" = some (.ref Z.a_law)
  kb_Dark_may : KBinds K Z.d_Dark_may P_Dark_may ["y", "x", "word"] g1_yxword g1_yxword
  kb_Dark_sure : KBinds K Z.d_Dark_sure P_Dark_sure ["y", "x", "word"] g1_yxword g1_yxword
  cl : Cls K Z.C
  g_Dark : mg "Dark" = some (.ref Z.C)
  mk_Dark : Mk K Z.C Z.a_Dark_init
  n_length : NoAttr K Z.C "_length"
  n_looks : NoAttr K Z.C "_looks"
  b_max : mg "max" = none
  b_min : mg "min" = none
  b_len : mg "len" = none
  b_range : mg "range" = none
  b_sorted : mg "sorted" = none
  b_set : mg "set" = none
  b_isinstance : mg "isinstance" = none
  b_list : mg "list" = none
  b_tuple : mg "tuple" = none
  b_bool : mg "bool" = none
  b_int : mg "int" = none
  b_str : mg "str" = none
  b_super : mg "super" = none
  g_SLOW : mg "SLOW" = some Z.v_SLOW
  r_SLOW : RelV (.str "slow") Z.v_SLOW
  g_FAST : mg "FAST" = some Z.v_FAST
  r_FAST : RelV (.str "fast") Z.v_FAST
  g_WORDS : mg "WORDS" = some (.ref Z.a_WORDS)
  kd_WORDS : ∃ es n, KDict K w Z.a_WORDS es n
  w_slow : PySem.W.nsIn K Z.a_WORDS "slow" = some (some (.ref Z.t_slow))
  w_fast : PySem.W.nsIn K Z.a_WORDS "fast" = some (some (.ref Z.t_fast))
  q_slow : ∀ H, SqT K H Z.t_slow [.str "at", .str "from"]
  q_fast : ∀ H, SqT K H Z.t_fast [.str "at", .str "upto"]
  g_LOOK_WORDS : mg "LOOK_WORDS" = some (.ref Z.a_LW)
  q_LW : ∀ H, SqT K H Z.a_LW [.str "at", .str "from", .str "upto"]
structure AdX where
  c_Clash : Addr
  i_Clash : Addr
structure Ex (P : Program) (K : PySem.W.Frag) (mg : Str → Option Value) (Y : AdX) : Prop where
  Clash : ERR.ErrT P K Y.c_Clash Y.i_Clash
  g_Clash : mg "Clash" = some (.ref Y.c_Clash)
  m_Clash : PySem.W.exmOne K (.ref Y.c_Clash) (.ref Y.c_Clash) = some true
end KA
/-! Looks in plain Lean. -/
namespace KA
open PySem PySem.Spec PyProof.Rows L2 DP
/-- a look: word, x, y -/
abbrev Lk := Str × Int × Int
def encL (l : Lk) : PyData := .tuple [.str l.1, .int l.2.1, .int l.2.2]
def WordOk (x : Str) : Prop := x = "at" ∨ x = "from" ∨ x = "upto"
def SideOk (x : Str) : Prop := x = "slow" ∨ x = "fast"
/-- the words of a side, by truth -/
def onSide (sd x : Str) : Bool := if sd = "slow" then (decide (x = "at") || decide (x = "from")) else (decide (x = "at") || decide (x = "upto"))
/-- where a look alone tells that x is led -/
def plc (sd : Str) (l : Lk) (x L : Int) : Int := if sd = "slow" then l.2.2 + (x - l.2.1) / L * L else l.2.2 - (l.2.1 - x) / L * L
def Sized (n : Nat) (l : Lk) : Prop := l.2.1.natAbs < 2 ^ n ∧ l.2.2.natAbs < 2 ^ n
theorem slow_ne : ¬ (("fast" : Str) = "slow") := by decide +kernel
theorem plc_slow (l : Lk) (x L : Int) : plc "slow" l x L = l.2.2 + (x - l.2.1) / L * L := if_pos rfl
theorem plc_fast (l : Lk) (x L : Int) : plc "fast" l x L = l.2.2 - (l.2.1 - x) / L * L := if_neg slow_ne
def tooFar (a b : Lk) (L : Int) : Bool := onSide "slow" a.1 && onSide "fast" b.1 && decide (b.2.2 < plc "slow" a b.2.1 L)
def clashB (a b : Lk) (L : Int) : Bool := tooFar a b L || tooFar b a L
/-- brought home -/
def home (L : Int) (l : Lk) : Lk := (l.1, l.2.1 - l.2.1 / L * L, l.2.2 - l.2.1 / L * L)
theorem nat_div {a L : Int} (h : 0 < L) : (a / L).natAbs ≤ a.natAbs + 1 := Nat.le_succ_of_le (Int.natAbs_ediv_le_natAbs a L)
theorem sub_lt {a b : Int} {n : Nat} (ha : a.natAbs < 2 ^ n) (hb : b.natAbs < 2 ^ n) : (a - b).natAbs < 2 ^ (n + 1) := by
  rw [Nat.pow_succ]; omega
theorem add_lt {a b : Int} {n : Nat} (ha : a.natAbs < 2 ^ n) (hb : b.natAbs < 2 ^ n) : (a + b).natAbs < 2 ^ (n + 1) := by
  rw [Nat.pow_succ]; omega
theorem div_lt {a L : Int} {n : Nat} (h : 0 < L) (ha : a.natAbs < 2 ^ n) : (a / L).natAbs < 2 ^ (n + 1) := by
  have := nat_div (a := a) h
  have h1 : 1 ≤ 2 ^ n := Nat.one_le_two_pow
  rw [Nat.pow_succ]; omega
theorem lt_up {a : Int} {m n : Nat} (ha : a.natAbs < 2 ^ m) (h : m ≤ n) : a.natAbs < 2 ^ n := Nat.lt_of_lt_of_le ha (Nat.pow_le_pow_right (by decide) h)
section
variable {K : PySem.W.Frag} {H : Hp}
theorem dp_look {v : V} {l : Lk} (h : Dp K H v (encL l)) : ∃ a, v = .ref a ∧ SqT K H a [.str l.1, .int l.2.1, .int l.2.2] := by
  have h' : Dp K H v (.tuple [.str l.1, .int l.2.1, .int l.2.2]) := h
  cases h' with
  | tup s a =>
    cases a with
    | cons a1 a =>
      cases a with
      | cons a2 a =>
        cases a with
        | cons a3 a =>
          cases a; cases a1; cases a2; cases a3
          exact ⟨_, rfl, s⟩
theorem dp_list {v : V} {ds : List PyData} (h : Dp K H v (.list ds)) : ∃ a xs, v = .ref a ∧ SqL K H a xs ∧ DpAll K H xs ds := by
  cases h with
  | lst s a => exact ⟨_, _, rfl, s, a⟩
end
theorem decl_words {x : Str} (h : WordOk x) : inV (.str x) [.str "at", .str "from"] = onSide "slow" x ∧ inV (.str x) [.str "at", .str "upto"] = onSide "fast" x ∧ inV (.str x) [.str "at", .str "from", .str "upto"] = true := by
  rcases h with e | e | e <;> subst e <;> decide +kernel
theorem yes_ite {σ : L2.St} {H : Hp} {A B : Hp → Prop} (h : A H) : tYes σ H (fun b H3 => if b = true then A H3 else B H3) := by
  show (if true = true then A H else B H)
  rw [if_pos rfl]
  exact h
/-- data without lists: tuples, numbers, texts -/
def noL : PyData → Bool
  | .list _ => false
  | .dict _ => false
  | .tuple xs => noLs xs
  | _ => true
where noLs : List PyData → Bool
  | [] => true
  | x :: xs => noL x && noLs xs
/-- tuples stand -/
def Tups (H H' : Hp) : Prop := ∀ b xs, Rd H b (.tup xs) → Rd H' b (.tup xs)
theorem Tups.of_same {H H' : Hp} (S : Same H H') : Tups H H' := fun _ _ h => DP.Same.rd S h
theorem Tups.upd_lst {H : Hp} {D : Addr} {ys : List V} {o : HO} (h : H D = some (.lst ys)) : Tups H (upd H D o) := fun b xs hb => by
  have hn : b ≠ D := by
    rintro rfl
    rcases hb with e | ⟨q, e⟩ <;> rw [h] at e <;> cases e
  rcases hb with e | ⟨q, e⟩
  · exact .inl ((upd_ne hn).trans e)
  · exact .inr ⟨q, (upd_ne hn).trans e⟩
theorem Tups.upd_ins {H : Hp} {D C dx : Addr} {fs : List (Str × V)} {o : HO} (h : H D = some (.ins C dx fs)) : Tups H (upd H D o) := fun b xs hb => by
  have hn : b ≠ D := by
    rintro rfl
    rcases hb with e | ⟨q, e⟩ <;> rw [h] at e <;> cases e
  rcases hb with e | ⟨q, e⟩
  · exact .inl ((upd_ne hn).trans e)
  · exact .inr ⟨q, (upd_ne hn).trans e⟩
theorem Tups.trans {H H1 H2 : Hp} (a : Tups H H1) (b : Tups H1 H2) : Tups H H2 := fun c xs h => b c xs (a c xs h)
section
variable {K : PySem.W.Frag} {H H' : Hp}
mutual
theorem dp_tups (S : Tups H H') : ∀ (d : PyData) (v : V), noL d = true → Dp K H v d → Dp K H' v d
  | .none, _, _, h => by cases h; exact .non
  | .bool _, _, _, h => by cases h; exact .bl _
  | .int _, _, _, h => by cases h; exact .int _
  | .str _, _, _, h => by cases h; exact .str _
  | .list _, _, n, _ => by simp [noL] at n
  | .dict _, _, n, _ => by simp [noL] at n
  | .tuple ds, _, n, h => by
    cases h with
    | tup s a =>
      refine .tup ?_ (dpAll_tups S ds _ (by simpa [noL] using n) a)
      rcases s with s | s
      · exact .inl (S _ _ s)
      · exact .inr s
theorem dpAll_tups (S : Tups H H') : ∀ (ds : List PyData) (vs : List V), noL.noLs ds = true → DpAll K H vs ds → DpAll K H' vs ds
  | [], _, _, h => by cases h; exact .nil
  | d :: ds, _, n, h => by
    rw [noL.noLs, Bool.and_eq_true] at n
    cases h with
    | cons a b => exact .cons (dp_tups S d _ n.1 a) (dpAll_tups S ds _ n.2 b)
end
theorem noLs_map {β : Type} {enc : β → PyData} (h : ∀ b, noL (enc b) = true) : ∀ bs : List β, noL.noLs (bs.map enc) = true
  | [] => rfl
  | b :: bs => by
    show noL.noLs (enc b :: bs.map enc) = true
    rw [noL.noLs, h b, noLs_map h bs]; rfl
theorem noL_encL (l : Lk) : noL (encL l) = true := rfl
/-- one more at the list that a comprehension makes -/
theorem acc_step {D : Addr} {ys : List V} {ds : List PyData} {y : V} {d : PyData} (hD : H D = some (.lst ys)) (hn : noL.noLs ds = true) (hd : noL d = true) (h : DpAll K H ys ds) (hy : Dp K H y d) :
    DpAll K (upd H D (.lst (ys ++ [y]))) (ys ++ [y]) (ds ++ [d]) :=
  dpAll_snoc (dpAll_tups (Tups.upd_lst hD) _ _ hn h) (dp_tups (Tups.upd_lst hD) _ _ hd hy)
end
theorem same_set {H : Hp} {p : Addr} {o : HO} {H1 : Hp} (S : Same H H1) (hn : H p = none) : Same H (upd H1 p o) := fun b u e => by rw [upd_ne (ne_of_none e hn)]; exact S b u e
theorem take_snoc {α : Type} : ∀ {l : List α} {i : Nat} {x : α}, l[i]? = some x → l.take (i + 1) = l.take i ++ [x]
  | [], i, x, h => by simp at h
  | a :: l, 0, x, h => by
    have e : a = x := Option.some.inj h
    subst e
    rfl
  | a :: l, i + 1, x, h => by
    have ih := take_snoc (l := l) (i := i) (x := x) h
    show a :: l.take (i + 1) = a :: l.take i ++ [x]
    rw [ih]; rfl
theorem map_at {α β : Type} {f : α → β} {l : List α} {i : Nat} {y : β} (h : (l.map f)[i]? = some y) : ∃ x, l[i]? = some x ∧ y = f x := by
  rw [List.getElem?_map] at h
  cases e : l[i]? with
  | none => rw [e] at h; cases h
  | some x => rw [e] at h; exact ⟨x, rfl, (Option.some.inj h).symm⟩
end KA
namespace KA
open PySem PySem.Spec PyProof.Rows L2 DP
/-- what stood stands, but at t and g -/
def Keep (t g : Addr) (H H' : Hp) : Prop := ∀ b o, H b = some o → b ≠ t → b ≠ g → H' b = some o
theorem Keep.refl (t g : Addr) (H : Hp) : Keep t g H H := fun _ _ h _ _ => h
theorem Keep.trans {t g : Addr} {H H1 H2 : Hp} (a : Keep t g H H1) (b : Keep t g H1 H2) : Keep t g H H2 := fun c o h x y => b c o (a c o h x y) x y
/-- the tray: at t, its great numbers at g; no more than n draws so far went by the fold -/
structure Tray (H : Hp) (t g : Addr) (n : Nat) : Prop where
  ex : ∃ (gs : List Int) (l f c : Int), H t = some (.lst [.ref g, .int l, .int f, .int c]) ∧ H g = some (.lst (gs.map V.int)) ∧ gs.length ≤ 63 ∧ (∀ x ∈ gs, 0 ≤ x) ∧ 0 ≤ l ∧ 0 ≤ f ∧ f < 2 ^ 61 ∧ 0 ≤ c ∧ c ≤ (n : Int)
  ne : t ≠ g
theorem Tray.same {H H' : Hp} {t g : Addr} {n : Nat} (T : Tray H t g n) (S : Same H H') : Tray H' t g n := by
  obtain ⟨⟨gs, l, f, c, h1, h2, r⟩, hne⟩ := T
  exact ⟨⟨gs, l, f, c, S _ _ h1, S _ _ h2, r⟩, hne⟩
theorem Keep.of_same {t g : Addr} {H H' : Hp} (S : Same H H') : Keep t g H H' := fun b o e _ _ => S b o e
def spDraw : Sp := fun vs H Q _ => ∃ (t g : Addr) (n : Nat) (m : Int), vs = [.ref t, .int m] ∧ Tray H t g n ∧ 0 < m ∧ m.natAbs < 2 ^ 1000 ∧ n < 2 ^ 60 ∧
  ∀ (H' : Hp) (r : Int), 0 ≤ r → r < m → Tray H' t g (n + 1) → Keep t g H H' → Q (.int r) H'
/-- the length of the list at g -/
def lenAt (H : Hp) (g : Addr) : Nat := match H g with | some (.lst xs) => xs.length | _ => 0
theorem lenAt_of {H : Hp} {g : Addr} {xs : List V} (h : H g = some (.lst xs)) : lenAt H g = xs.length := by unfold lenAt; rw [h]
theorem shaped_ints (ns : List Int) : SeqAt.shaped (.list (ns.map .int)) = true := by
  have h1 : ∀ ns : List Int, PyData.canLayAll0 (ns.map .int) = true := by
    intro ns
    induction ns with
    | nil => rfl
    | cons a r ih => simp [PyData.canLayAll0, PyData.canLay0, ih]
  have h2 : ∀ ns : List Int, PyData.depthAll (ns.map .int) = 0 := PySem.W.depth_ints
  unfold SeqAt.shaped
  simp [PyData.canLay0, PyData.depth, h1, h2]
theorem pow_lt {i : Int} {a n : Nat} (h : i.natAbs < 2 ^ a) (h0 : n ≠ 0) : (i ^ n).natAbs < 2 ^ (a * n) := by
  rw [Int.natAbs_pow, Nat.pow_mul]
  exact Nat.pow_lt_pow_left h h0
theorem seqIx0 {n : Nat} (h : 0 < n) : seqIndex? 0 n = some 0 := by
  unfold seqIndex?
  simp
  omega
theorem while_post {c : TT} {tb : TS} {D : Ends} {σ : L2.St} {H : Hp} (Pv : L2.St → Hp → Prop) (μ : L2.St → Hp → Nat) (Po : L2.St → Hp → Prop) (h0 : Pv σ H)
    (hs : ∀ σ H, Pv σ H → c σ H fun b H1 => if b = true then tb { D with nx := fun σ' H' => Pv σ' H' ∧ μ σ' H' < μ σ H, ct := fun σ' H' => Pv σ' H' ∧ μ σ' H' < μ σ H, bk := D.nx } σ H1 else Po σ H1)
    (hd : ∀ σ H, Po σ H → D.nx σ H) (mono : ∀ σ H Q Q', (∀ b H1, Q b H1 → Q' b H1) → c σ H Q → c σ H Q') : tWhile c tb D σ H :=
  while_by Pv μ h0 (fun σ1 H1 p => mono σ1 H1 _ _ (fun b H2 q => by
    cases b with
    | true => exact q
    | false => exact hd _ _ q) (hs σ1 H1 p)) mono
section
variable {P : Program} {w : World} {K : PySem.W.Frag} {mg : Str → Option Value} {base : Heap} {Z : Ad}
theorem ok_law_draw (T : Tx K w mg Z) : FnOk P w K mg base CX0 1 Z.a_law_draw Z.d_law_draw P_law_draw (spDraw) := by
  refine T.F_law_draw.ok sclaw_draw (fun vs H Q E h => ?_) (fun cdv A outer s H vs Q E hr h => ?_)
  · obtain ⟨t, g, n, m, rfl, _⟩ := h
    rfl
  · obtain ⟨t, g, n, m, rfl, ⟨ht, hne⟩, hm, hmb, hn, k⟩ := h
    refine ⟨_, (C8.pss_cut (ps_while PassesOwn.never (PW.pt (pw_and (pt_cmpR op_lt (pe_ix (ixL (K := K)) (pv 0) pe_int (fun _ _ => rfl)) pe_int (nomark _)) (pw_and1 (pt_cmpR (neDK (K := K) hr.units) (pe_ix (ixL (K := K)) (pv 0) pe_int (fun _ _ => rfl)) (pe_lst pa_nil) (nomark _))))) (pss_one (ps_asg (pe_bm PySem.F.plainAttrs_list PySem.F.slot_list_pop PySem.F.type_list_pop mt_popAt (pe_ix (ixL (K := K)) (pv 0) pe_int (fun _ _ => rfl)) (pa_cons pe_int pa_nil)) (pg_sub (pv 0) pe_int set_list))))
      (C8.pss_cut (ps_if (pt_cmpR op_ge (pe_ix (ixL (K := K)) (pv 0) pe_int (fun _ _ => rfl)) pe_int (nomark _)) (pss_cons (ps_set (i := 2) sclaw_draw.nd rfl (Or.inl rfl) (pe_op op_mod (pe_ix (ixL (K := K)) (pv 0) pe_int (fun _ _ => rfl)) (pv 1)))
      (pss_cons (ps_asg (pe_op op_fdivW (pe_ix (ixL (K := K)) (pv 0) pe_int (fun _ _ => rfl)) (pv 1)) (pg_sub (pv 0) pe_int set_list))
      (pss_one (ps_ret (pv 2))))) pss_nil)
      (pss_cons (ps_asg (pe_op op_add (pe_ix (ixL (K := K)) (pv 0) pe_int (fun _ _ => rfl)) pe_int) (pg_sub (pv 0) pe_int set_list))
      (pss_cons (ps_set (i := 3) sclaw_draw.nd rfl (Or.inl rfl) (pe_op op_mod (pe_op op_add (pe_op op_mulW (pe_op op_add (pe_ix (ixL (K := K)) (pv 0) pe_int (fun _ _ => rfl)) pe_int) (pe_op op_pow (pe_op op_add (pe_ix (ixL (K := K)) (pv 0) pe_int (fun _ _ => rfl)) pe_int) pe_int)) (pe_op op_mulW pe_int (pe_ix (ixL (K := K)) (pv 0) pe_int (fun _ _ => rfl)))) (pe_op op_sub (pe_op op_pow pe_int pe_int) pe_int)))
      (pss_one (ps_ret (pe_op op_mod (pe_op op_fdivW (pe_op op_mod (pe_op op_pow (pv 3) pe_int) (pe_op op_add (pe_op op_pow pe_int pe_int) pe_int)) pe_int) (pv 1)))))))), ?_⟩
    -- while tray[1] < 2 and tray[0] != []
    refine ⟨fun σ' H' => σ' = [some (.ref t), some (.int m), none, none] ∧ Tray H' t g n ∧ Keep t g H H', ?_, ?_⟩
    · refine while_post (fun σ' H' => σ' = [some (.ref t), some (.int m), none, none] ∧ Tray H' t g n ∧ Keep t g H H') (fun _ H' => lenAt H' g) (fun σ' H' => σ' = [some (.ref t), some (.int m), none, none] ∧ Tray H' t g n ∧ Keep t g H H') ⟨rfl, ⟨ht, hne⟩, Keep.refl _ _ _⟩ ?_ (fun _ _ q => q) ?_
      · rintro σ1 H1 ⟨rfl, ⟨⟨gs, l, f, c, h1, h2, hl, hge, hl0, hf0, hf1, hc0, hc1⟩, _⟩, kp⟩
        refine ⟨_, rfl, _, _, _, _, rfl, rfl, SqL.of h1, rfl, _, _, rfl, rfl, _, rfl, ?_⟩
        refine ite2 (fun hlt => ?_) (fun hnl => ?_)
        · refine ⟨_, rfl, _, _, _, _, rfl, rfl, SqL.of h1, rfl, (by show 0 ≤ sizeLine; decide), fun p hp => ?_⟩
          have g2 : (upd H1 p (.lst [])) g = some (.lst (gs.map V.int)) := (upd_ne (ne_of_none h2 hp)).trans h2
          have g1 : (upd H1 p (.lst [])) t = some (.lst [.ref g, .int l, .int f, .int c]) := (upd_ne (ne_of_none h1 hp)).trans h1
          have kp1 : Keep t g H (upd H1 p (.lst [])) := fun b o e n1 n2 => (upd_ne (ne_of_none (kp b o e n1 n2) hp)).trans (kp b o e n1 n2)
          refine ⟨_, _, .lst (SqL.of g2) (dpAll_ints gs), .lst (SqL.of upd_same) .nil, shaped_ints gs, rfl, _, rfl, ?_⟩
          cases gs with
          | nil => exact iteF ⟨rfl, ⟨⟨[], l, f, c, g1, g2, hl, hge, hl0, hf0, hf1, hc0, hc1⟩, hne⟩, kp1⟩
          | cons y ys =>
            refine iteT ?_
            -- tray[1] = tray[0].pop(0)
            refine ⟨_, rfl, _, _, _, _, rfl, rfl, SqL.of g1, rfl, .inl ⟨rfl, _, SqL.of g2⟩, _, _, _, 0, _, rfl, rfl, g2, by decide, by decide, seqIx0 (by simp), rfl, ?_⟩
            refine ⟨_, rfl, _, _, _, 1, rfl, rfl, (upd_ne hne).trans g1, rfl, ?_⟩
            refine ⟨⟨rfl, ⟨⟨ys, y, f, c, upd_same, (upd_ne (Ne.symm hne)).trans upd_same, ?_, ?_, ?_, hf0, hf1, hc0, hc1⟩, hne⟩, ?_⟩, ?_⟩
            · simp at hl; omega
            · exact fun x hx => hge x (List.mem_cons_of_mem _ hx)
            · exact hge y List.mem_cons_self
            · exact fun b o e n1 n2 => (upd_ne n1).trans ((upd_ne n2).trans (kp1 b o e n1 n2))
            · rw [lenAt_of ((upd_ne (Ne.symm hne)).trans upd_same), lenAt_of h2]
              simp
        · exact iteF ⟨rfl, ⟨⟨gs, l, f, c, h1, h2, hl, hge, hl0, hf0, hf1, hc0, hc1⟩, hne⟩, kp⟩
      · intro σ1 H1 Q1 Q2 hQ hc
        obtain ⟨v, hv, p, xs, i, x, e1, e2, hs, ha, i1, j1, e3, e4, k1, ek, hif⟩ := hc
        refine ⟨v, hv, p, xs, i, x, e1, e2, hs, ha, i1, j1, e3, e4, k1, ek, ?_⟩
        cases k1 with
        | false => exact hQ _ _ hif
        | true =>
          obtain ⟨v, hv, p, xs, i, x, e1, e2, hs, ha, hz, hp⟩ := hif
          refine ⟨v, hv, p, xs, i, x, e1, e2, hs, ha, hz, fun p' np => ?_⟩
          obtain ⟨d, e, d1, d2, s1, s2, b, eb, q⟩ := hp p' np
          exact ⟨d, e, d1, d2, s1, s2, b, eb, hQ _ _ q⟩
    · rintro σ1 H1 ⟨rfl, ⟨⟨gs, l, f, c, h1, h2, hl, hge, hl0, hf0, hf1, hc0, hc1⟩, _⟩, kp⟩
      refine ⟨fun σ' H' => σ' = [some (.ref t), some (.int m), none, none] ∧ H' = H1, ?_, ?_⟩
      · refine ⟨_, rfl, _, _, _, _, rfl, rfl, SqL.of h1, rfl, _, _, rfl, rfl, _, rfl, ?_⟩
        refine ite2 (fun hge2 => ?_) (fun _ => ⟨rfl, rfl⟩)
        refine ⟨_, rfl, _, _, _, _, rfl, rfl, SqL.of h1, rfl, _, rfl, _, _, rfl, rfl, hm, ?_⟩
        refine ⟨_, rfl, _, _, _, _, rfl, rfl, SqL.of h1, rfl, _, rfl, _, _, rfl, rfl, wide_div hm hmb (by decide) (by decide), _, rfl, _, _, _, 1, rfl, rfl, h1, rfl, _, rfl, ?_⟩
        refine k _ _ (Int.emod_nonneg _ (by omega)) (Int.emod_lt_of_pos _ hm) ⟨⟨gs, l / m, f, c, upd_same, (upd_ne (Ne.symm hne)).trans h2, hl, hge, Int.ediv_nonneg hl0 (by omega), hf0, hf1, hc0, by push_cast; omega⟩, hne⟩ fun b o e n1 n2 => (upd_ne n1).trans (kp b o e n1 n2)
      · rintro σ2 H2 ⟨rfl, rfl⟩
        refine ⟨_, rfl, _, _, _, _, rfl, rfl, SqL.of h1, rfl, _, _, rfl, rfl, _, rfl, _, _, _, 3, rfl, rfl, h1, rfl, ?_⟩
        have g1 : (upd H2 t (.lst (List.set [.ref g, .int l, .int f, .int c] 3 (.int (c + 1))))) t = some (.lst [.ref g, .int l, .int f, .int (c + 1)]) := upd_same
        have bf : (f + 5).natAbs < 2 ^ 63 := by omega
        have bc : (c + 1 + 2).natAbs < 2 ^ 61 := by omega
        have b3 : ((c + 1 + 2) ^ (3 : Int).toNat).natAbs < 2 ^ (61 * 3) := pow_lt bc (by decide)
        refine ⟨_, rfl, _, _, _, _, rfl, rfl, SqL.of g1, rfl, _, _, rfl, rfl, _, rfl, _, _, _, _, rfl, rfl, SqL.of g1, rfl, _, _, rfl, rfl, _, _, rfl, rfl, ⟨by decide, by decide, Nat.lt_trans bc (by decide)⟩, _, _, rfl, rfl, wide_mul bf b3 (by decide) (by decide) (by decide), ?_⟩
        refine ⟨_, rfl, _, _, _, _, rfl, rfl, SqL.of g1, rfl, _, _, rfl, rfl, wide_mul (a := 30) (b := 61) (by decide) (by omega) (by decide) (by decide) (by decide), _, _, rfl, rfl, ?_⟩
        refine ⟨_, _, rfl, rfl, ⟨by decide, by decide, by decide⟩, _, _, rfl, rfl, _, _, rfl, rfl, (by show (0 : Int) < _; decide), ?_⟩
        have hx0 := Int.emod_nonneg ((f + 5) * (c + 1 + 2) ^ (3 : Int).toNat + 1000003 * (c + 1)) (show (2 : Int) ^ (61 : Int).toNat - 1 ≠ 0 by decide)
        have hx1 := Int.emod_lt_of_pos ((f + 5) * (c + 1 + 2) ^ (3 : Int).toNat + 1000003 * (c + 1)) (show (0 : Int) < (2 : Int) ^ (61 : Int).toNat - 1 by decide)
        have e61 : (2 : Int) ^ (61 : Int).toNat - 1 = 2305843009213693951 := by decide
        rw [e61] at hx0 hx1
        refine ⟨_, rfl, _, _, rfl, rfl, ⟨by decide, by decide, ?_⟩, _, _, rfl, rfl, ⟨by decide, by decide, by decide⟩, _, _, rfl, rfl, _, _, rfl, rfl, (by show (0 : Int) < _; decide), _, _, rfl, rfl, wide_div (b := 10) (by decide) (by decide) (by decide) (by decide), _, rfl, _, _, rfl, rfl, hm, ?_⟩
        · show (((f + 5) * (c + 1 + 2) ^ (3 : Int).toNat + 1000003 * (c + 1)) % ((2 : Int) ^ (61 : Int).toNat - 1)).natAbs < 2 ^ 64
          rw [e61]
          omega
        · refine k _ _ (Int.emod_nonneg _ (by omega)) (Int.emod_lt_of_pos _ hm) ⟨⟨gs, l, f, c + 1, g1, (upd_ne (Ne.symm hne)).trans h2, hl, hge, hl0, hf0, hf1, by omega, by push_cast; omega⟩, hne⟩ fun b o e n1 n2 => (upd_ne n1).trans (kp b o e n1 n2)
end
end KA
namespace KA
open PySem PySem.Spec PyProof.Rows L2 DP
def spPlace (K : PySem.W.Frag) : Sp := fun vs H Q _ => ∃ (v : V) (l : Lk) (sd : Str) (x L : Int), vs = [v, .str sd, .int x, .int L] ∧ Dp K H v (encL l) ∧ SideOk sd ∧ 0 < L ∧ L.natAbs < 2 ^ 200 ∧ x.natAbs < 2 ^ 400 ∧ Sized 400 l ∧ Q (.int (plc sd l x L)) H
def spFar (K : PySem.W.Frag) (f : Lk → Lk → Int → Bool) : Sp := fun vs H Q _ => ∃ (v u : V) (a b : Lk) (L : Int), vs = [v, u, .int L] ∧ Dp K H v (encL a) ∧ Dp K H u (encL b) ∧ WordOk a.1 ∧ WordOk b.1 ∧ 0 < L ∧ L.natAbs < 2 ^ 200 ∧ Sized 400 a ∧ Sized 400 b ∧ Q (.bl (f a b L)) H
section
variable {P : Program} {w : World} {K : PySem.W.Frag} {mg : Str → Option Value} {base : Heap} {Z : Ad}
theorem ok_place_by (T : Tx K w mg Z) : FnOk P w K mg base CX0 1 Z.a_place_by Z.d_place_by P_place_by (spPlace K) := by
  refine T.F_place_by.ok scplace_by (fun vs H Q E h => ?_) (fun cdv A outer s H vs Q E hr h => ?_)
  · obtain ⟨v, l, sd, x, L, rfl, _⟩ := h
    rfl
  · obtain ⟨v, l, sd, x, L, rfl, hv, hsd, hL, hLb, hx, hl, k⟩ := h
    obtain ⟨a, rfl, ha⟩ := dp_look hv
    refine ⟨_, (pss_cons (ps_asg (pv 0) (tupK (K := K) (by rfl) (pgs_cons (pg_name (i := 4) scplace_by.nd rfl (Or.inl rfl)) (pgs_cons (pg_name (i := 5) scplace_by.nd rfl (Or.inl rfl)) (pgs_cons (pg_name (i := 6) scplace_by.nd rfl (Or.inl rfl)) pgs_nil)))))
      (C8.pss_cut (ps_if (pt_cmpR op_eq (pv 1) (pe_glob rfl T.g_SLOW T.r_SLOW) (nomark _)) (pss_one (ps_ret (pe_op op_add (pv 6) (pe_op op_mulW (pe_op op_fdivW (pe_op op_sub (pv 2) (pv 5)) (pv 3)) (pv 3))))) pss_nil)
      (pss_one (ps_ret (pe_op op_sub (pv 6) (pe_op op_mulW (pe_op op_fdivW (pe_op op_sub (pv 5) (pv 2)) (pv 3)) (pv 3))))))), ?_⟩
    refine ⟨_, rfl, _, _, rfl, ha, rfl, _, _, rfl, _, _, rfl, _, _, rfl, rfl, ?_⟩
    have e1 : (x - l.2.1).natAbs < 2 ^ 401 := sub_lt hx hl.1
    have e2 : (l.2.1 - x).natAbs < 2 ^ 401 := sub_lt hl.1 hx
    rcases hsd with e | e
    · subst e
      rw [plc_slow] at k
      refine ⟨fun _ _ => False, ⟨_, rfl, rfl, _, rfl, iteT ⟨_, rfl, _, rfl, _, rfl, _, _, rfl, rfl, _, rfl, _, _, rfl, rfl, wide_div hL hLb (by decide) (by decide), _, rfl, _, _, rfl, rfl, wide_mul (div_lt hL e1) hLb (by decide) (by decide) (by decide), _, _, rfl, rfl, k⟩⟩, fun _ _ z => z.elim⟩
    · subst e
      rw [plc_fast] at k
      refine ⟨fun σ' H' => σ' = [some (.ref a), some (.str "fast"), some (.int x), some (.int L), some (.str l.1), some (.int l.2.1), some (.int l.2.2)] ∧ H' = H, ⟨_, rfl, rfl, _, rfl, ?_⟩, ?_⟩
      · have e3 : decide (V.str "fast" = V.str "slow") = false := by decide +kernel
        rw [e3]
        exact iteF ⟨rfl, rfl⟩
      · rintro σ1 H1 ⟨rfl, rfl⟩
        exact ⟨_, rfl, _, rfl, _, rfl, _, _, rfl, rfl, _, rfl, _, _, rfl, rfl, wide_div hL hLb (by decide) (by decide), _, rfl, _, _, rfl, rfl, wide_mul (div_lt hL e2) hLb (by decide) (by decide) (by decide), _, _, rfl, rfl, k⟩
theorem ok_too_far (T : Tx K w mg Z) : FnOk P w K mg base CX0 2 Z.a_too_far Z.d_too_far P_too_far (spFar K tooFar) := by
  refine T.F_too_far.ok sctoo_far (fun vs H Q E h => ?_) (fun cdv A outer s H vs Q E hr h => ?_)
  · obtain ⟨v, u, a, b, L, rfl, _⟩ := h
    rfl
  · obtain ⟨v, u, a, b, L, rfl, hv, hu, wa, wb, hL, hLb, sa, sb, k⟩ := h
    obtain ⟨p, rfl, hp⟩ := dp_look hv
    obtain ⟨q, rfl, hq⟩ := dp_look hu
    obtain ⟨es, n, DW⟩ := T.kd_WORDS
    obtain ⟨da1, da2, _⟩ := decl_words wa
    obtain ⟨db1, db2, _⟩ := decl_words wb
    refine ⟨_, (C8.pss_cut (ps_if (PW.pt (pw_or (pt_cmpR (notInS (K := K)) (pe_ix (ixT (K := K)) (pv 0) pe_int (fun _ _ => rfl)) (pe_ix (ix_kd DW) (pe_glob (v := .ref Z.a_WORDS) rfl T.g_WORDS rfl) (pe_glob rfl T.g_SLOW T.r_SLOW) (fun _ _ => rfl)) (by rfl)) (pw_or1 (pt_cmpR (notInS (K := K)) (pe_ix (ixT (K := K)) (pv 1) pe_int (fun _ _ => rfl)) (pe_ix (ix_kd DW) (pe_glob (v := .ref Z.a_WORDS) rfl T.g_WORDS rfl) (pe_glob rfl T.g_FAST T.r_FAST) (fun _ _ => rfl)) (by rfl))))) (pss_one (ps_ret pe_bl)) pss_nil)
      (pss_one (ps_ret (pe_cmpR op_gt (pe_call (ok_place_by T) (hr.mono (by decide)) (by rfl) T.g_place_by T.F_place_by.kp T.bb_place_by .nil pass0 (pa_cons (pv 0) (pa_cons (pe_glob rfl T.g_SLOW T.r_SLOW) (pa_cons (pe_ix (ixT (K := K)) (pv 1) pe_int (fun _ _ => rfl)) (pa_cons (pv 2) pa_nil))))) (pe_ix (ixT (K := K)) (pv 1) pe_int (fun _ _ => rfl)) (nomark _))))), ?_⟩
    unfold tooFar at k
    refine ⟨fun σ' H' => σ' = [some (.ref p), some (.ref q), some (.int L)] ∧ H' = H ∧ onSide "slow" a.1 = true ∧ onSide "fast" b.1 = true, ?_, ?_⟩
    · refine ⟨_, rfl, _, _, _, _, rfl, rfl, hp, rfl, _, _, .ref Z.t_slow, rfl, rfl, T.w_slow, rfl, _, _, rfl, .inr (T.q_slow _), rfl, rfl, _, rfl, ?_⟩
      cases c1 : onSide "slow" a.1 with
      | false =>
        rw [c1] at da1 k
        have : (if true = true then !inV (V.str a.1) [V.str "at", V.str "from"] else inV (V.str a.1) [V.str "at", V.str "from"]) = true := by rw [if_pos rfl, da1]; rfl
        rw [this]
        exact iteT (iteT k)
      | true =>
        rw [c1] at da1
        have : (if true = true then !inV (V.str a.1) [V.str "at", V.str "from"] else inV (V.str a.1) [V.str "at", V.str "from"]) = false := by rw [if_pos rfl, da1]; rfl
        rw [this]
        refine iteF ⟨_, rfl, _, _, _, _, rfl, rfl, hq, rfl, _, _, .ref Z.t_fast, rfl, rfl, T.w_fast, rfl, _, _, rfl, .inr (T.q_fast _), rfl, rfl, _, rfl, ?_⟩
        cases c2 : onSide "fast" b.1 with
        | false =>
          rw [c2] at db2
          rw [c1, c2] at k
          have : (if true = true then !inV (V.str b.1) [V.str "at", V.str "upto"] else inV (V.str b.1) [V.str "at", V.str "upto"]) = true := by rw [if_pos rfl, db2]; rfl
          rw [this]
          exact iteT k
        | true =>
          rw [c2] at db2
          have : (if true = true then !inV (V.str b.1) [V.str "at", V.str "upto"] else inV (V.str b.1) [V.str "at", V.str "upto"]) = false := by rw [if_pos rfl, db2]; rfl
          rw [this]
          exact iteF ⟨rfl, rfl, rfl, rfl⟩
    · rintro σ1 H1 ⟨rfl, rfl, c1, c2⟩
      rw [c1, c2] at k
      refine ⟨_, rfl, _, rfl, _, _, _, _, rfl, rfl, hq, rfl, _, rfl, ?_⟩
      exact ⟨_, a, "slow", b.2.1, L, rfl, hv, .inl rfl, hL, hLb, sb.1, sa, _, rfl, _, _, _, _, rfl, rfl, hq, rfl, _, _, rfl, rfl, k⟩
theorem ok_clash (T : Tx K w mg Z) : FnOk P w K mg base CX0 3 Z.a_clash Z.d_clash P_clash (spFar K clashB) := by
  refine T.F_clash.ok scclash (fun vs H Q E h => ?_) (fun cdv A outer s H vs Q E hr h => ?_)
  · obtain ⟨v, u, a, b, L, rfl, _⟩ := h
    rfl
  · obtain ⟨v, u, a, b, L, rfl, hv, hu, wa, wb, hL, hLb, sa, sb, k⟩ := h
    refine ⟨_, (pss_one (ps_ret (pe_or (pe_call (ok_too_far T) (hr.mono (by decide)) (by rfl) T.g_too_far T.F_too_far.kp T.bb_too_far .nil pass0 (pa_cons (pv 0) (pa_cons (pv 1) (pa_cons (pv 2) pa_nil)))) (pe_one (pe_call (ok_too_far T) (hr.mono (by decide)) (by rfl) T.g_too_far T.F_too_far.kp T.bb_too_far .nil pass0 (pa_cons (pv 1) (pa_cons (pv 0) (pa_cons (pv 2) pa_nil)))))))), ?_⟩
    unfold clashB at k
    refine ⟨_, rfl, _, rfl, _, rfl, v, u, a, b, L, rfl, hv, hu, wa, wb, hL, hLb, sa, sb, _, rfl, ?_⟩
    cases c : tooFar a b L with
    | true => rw [c] at k; exact iteT k
    | false =>
      rw [c] at k
      exact iteF ⟨_, rfl, _, rfl, _, rfl, u, v, b, a, L, rfl, hu, hv, wb, wa, hL, hLb, sb, sa, k⟩
end
end KA
namespace KA
open PySem PySem.Spec PyProof.Rows L2 DP
def sideOf (sd : Str) (ls : List Lk) : List Lk := ls.filter fun l => onSide sd l.1
def spSide (K : PySem.W.Frag) : Sp := fun vs H Q _ => ∃ (v : V) (ls : List Lk) (sd : Str), vs = [v, .str sd] ∧ Dp K H v (.list (ls.map encL)) ∧ SideOk sd ∧ (∀ l ∈ ls, WordOk l.1) ∧ ls.length ≤ 1000 ∧
  ∀ H' r, Same H H' → Dp K H' r (.list ((sideOf sd ls).map encL)) → Q r H'
/-- a step: where, by which look -/
def encS (sd : Str) (x L : Int) (l : Lk) : PyData := .tuple [.int (plc sd l x L), encL l]
/-- the best step's place -/
def IsBest (sd : Str) (ls : List Lk) (x L m : Int) : Prop := (∃ l ∈ ls, plc sd l x L = m) ∧ ∀ l ∈ ls, if sd = "slow" then plc sd l x L ≤ m else m ≤ plc sd l x L
def spBest (K : PySem.W.Frag) : Sp := fun vs H Q _ => ∃ (v : V) (ls : List Lk) (sd : Str) (x L : Int), vs = [v, .str sd, .int x, .int L] ∧ Dp K H v (.list (ls.map encL)) ∧ SideOk sd ∧ (∀ l ∈ ls, WordOk l.1 ∧ Sized 400 l) ∧ ls.length ≤ 1000 ∧ 0 < L ∧ L.natAbs < 2 ^ 200 ∧ x.natAbs < 2 ^ 400 ∧
  (ls = [] → Q .non H) ∧ ∀ H' r l, l ∈ ls → Same H H' → IsBest sd ls x L (plc sd l x L) → Dp K H' r (encS sd x L l) → Q r H'
/-! ### the best step -/
theorem alike_step (sd : Str) (x L : Int) (a b : Lk) : PySem.W.alike (encS sd x L a) (encS sd x L b) = true := by simp [encS, encL, PySem.W.alike, PySem.W.alikeAll]
theorem steps_alike (sd : Str) (x L : Int) (ls : List Lk) : PySem.W.AlikeAll (ls.map (encS sd x L)) := by
  refine ⟨fun a ha b hb => ?_, fun a ha => ?_⟩
  · obtain ⟨p, _, rfl⟩ := List.mem_map.mp ha
    obtain ⟨q, _, rfl⟩ := List.mem_map.mp hb
    exact alike_step _ _ _ _ _
  · obtain ⟨p, _, rfl⟩ := List.mem_map.mp ha
    exact fun e => by cases e
theorem lay_look {l : Lk} (h : WordOk l.1) : (encL l).canLay0 = true := by
  obtain ⟨a, b, c⟩ := l
  have h : WordOk a := h
  rcases h with e | e | e <;> subst e <;> simp [encL, PyData.canLay0, PyData.canLayAll0] <;> decide +kernel
theorem steps_lay (sd : Str) (x L : Int) : ∀ ls : List Lk, (∀ l ∈ ls, WordOk l.1) → PyData.canLayAll0 (ls.map (encS sd x L)) = true
  | [], _ => rfl
  | l :: ls, h => by
    have h1 := lay_look (h l List.mem_cons_self)
    have h2 := steps_lay sd x L ls fun q hq => h q (List.mem_cons_of_mem _ hq)
    show PyData.canLayAll0 (encS sd x L l :: ls.map (encS sd x L)) = true
    simp [PyData.canLayAll0, h2, encS, PyData.canLay0, h1]
theorem steps_depth (sd : Str) (x L : Int) : ∀ ls : List Lk, PyData.depthAll (ls.map (encS sd x L)) ≤ 60
  | [] => by simp [PyData.depthAll]
  | l :: ls => by
    have h2 := steps_depth sd x L ls
    show PyData.depthAll (encS sd x L l :: ls.map (encS sd x L)) ≤ 60
    have h3 : (encS sd x L l).depth = 2 := by simp [encS, encL, PyData.depth, PyData.depthAll]
    rw [PyData.depthAll, h3]
    omega
/-- a greater place is a greater step -/
theorem lt_step {sd : Str} {x L : Int} {a b : Lk} (h : plc sd a x L < plc sd b x L) : PySem.W.dataLt (encS sd x L a) (encS sd x L b) = true := by
  unfold encS
  rw [PySem.W.dataLt_tuple, PySem.W.dataLt_cons (by simp [PySem.W.alike])]
  have e : PyData.eqv (.int (plc sd a x L)) (.int (plc sd b x L)) = false := by simp [PyData.eqv]; omega
  rw [e, if_neg Bool.false_ne_true, PySem.W.dataLt_int]
  exact decide_eq_true h
theorem le_step {sd : Str} {x L : Int} {a b : Lk} (h : PySem.W.dataLt (encS sd x L a) (encS sd x L b) = true) : plc sd a x L ≤ plc sd b x L := by
  unfold encS at h
  rw [PySem.W.dataLt_tuple, PySem.W.dataLt_cons (by simp [PySem.W.alike])] at h
  by_cases e : plc sd a x L = plc sd b x L
  · omega
  · have e' : PyData.eqv (.int (plc sd a x L)) (.int (plc sd b x L)) = false := by simp [PyData.eqv]; omega
    rw [e', if_neg Bool.false_ne_true, PySem.W.dataLt_int] at h
    have := of_decide_eq_true h
    omega
theorem max_go (x L : Int) : ∀ (ls : List Lk) (l : Lk), ∃ q, (q = l ∨ q ∈ ls) ∧ (ls.map (encS "slow" x L)).foldl (fun a y => if PySem.W.dataLt a y then y else a) (encS "slow" x L l) = encS "slow" x L q ∧ plc "slow" l x L ≤ plc "slow" q x L ∧ ∀ p ∈ ls, plc "slow" p x L ≤ plc "slow" q x L
  | [], l => ⟨l, .inl rfl, rfl, Int.le_refl _, fun _ h => by cases h⟩
  | y :: ls, l => by
    rw [List.map_cons, List.foldl_cons]
    cases c : PySem.W.dataLt (encS "slow" x L l) (encS "slow" x L y) with
    | true =>
      rw [if_pos rfl]
      obtain ⟨q, hq, e, h1, h2⟩ := max_go x L ls y
      have := le_step c
      refine ⟨q, ?_, e, by omega, fun p hp => ?_⟩
      · rcases hq with e | e
        · subst e; exact .inr List.mem_cons_self
        · exact .inr (List.mem_cons_of_mem _ e)
      · rcases List.mem_cons.mp hp with e | e
        · subst e; exact h1
        · exact h2 p e
    | false =>
      rw [if_neg Bool.false_ne_true]
      obtain ⟨q, hq, e, h1, h2⟩ := max_go x L ls l
      refine ⟨q, ?_, e, h1, fun p hp => ?_⟩
      · rcases hq with e | e
        · exact .inl e
        · exact .inr (List.mem_cons_of_mem _ e)
      · rcases List.mem_cons.mp hp with e | e
        · subst e
          by_cases hlt : plc "slow" l x L < plc "slow" p x L
          · rw [lt_step hlt] at c; cases c
          · omega
        · exact h2 p e
theorem max_step (x L : Int) (l : Lk) (ls : List Lk) : ∃ q, q ∈ l :: ls ∧ PySem.W.maxD (encS "slow" x L l) (ls.map (encS "slow" x L)) = encS "slow" x L q ∧ IsBest "slow" (l :: ls) x L (plc "slow" q x L) := by
  obtain ⟨q, hq, e, h1, h2⟩ := max_go x L ls l
  have hm : q ∈ l :: ls := by
    rcases hq with e | e
    · subst e; exact List.mem_cons_self
    · exact List.mem_cons_of_mem _ e
  refine ⟨q, hm, e, ⟨q, hm, rfl⟩, fun p hp => ?_⟩
  rw [if_pos rfl]
  rcases List.mem_cons.mp hp with e | e
  · subst e; exact h1
  · exact h2 p e
theorem min_go (x L : Int) : ∀ (ls : List Lk) (l : Lk), ∃ q, (q = l ∨ q ∈ ls) ∧ (ls.map (encS "fast" x L)).foldl (fun a y => if PySem.W.dataLt y a then y else a) (encS "fast" x L l) = encS "fast" x L q ∧ plc "fast" q x L ≤ plc "fast" l x L ∧ ∀ p ∈ ls, plc "fast" q x L ≤ plc "fast" p x L
  | [], l => ⟨l, .inl rfl, rfl, Int.le_refl _, fun _ h => by cases h⟩
  | y :: ls, l => by
    rw [List.map_cons, List.foldl_cons]
    cases c : PySem.W.dataLt (encS "fast" x L y) (encS "fast" x L l) with
    | true =>
      rw [if_pos rfl]
      obtain ⟨q, hq, e, h1, h2⟩ := min_go x L ls y
      have := le_step c
      refine ⟨q, ?_, e, by omega, fun p hp => ?_⟩
      · rcases hq with e | e
        · subst e; exact .inr List.mem_cons_self
        · exact .inr (List.mem_cons_of_mem _ e)
      · rcases List.mem_cons.mp hp with e | e
        · subst e; exact h1
        · exact h2 p e
    | false =>
      rw [if_neg Bool.false_ne_true]
      obtain ⟨q, hq, e, h1, h2⟩ := min_go x L ls l
      refine ⟨q, ?_, e, h1, fun p hp => ?_⟩
      · rcases hq with e | e
        · exact .inl e
        · exact .inr (List.mem_cons_of_mem _ e)
      · rcases List.mem_cons.mp hp with e | e
        · subst e
          by_cases hlt : plc "fast" p x L < plc "fast" l x L
          · rw [lt_step hlt] at c; cases c
          · omega
        · exact h2 p e
theorem min_step (x L : Int) (l : Lk) (ls : List Lk) : ∃ q, q ∈ l :: ls ∧ PySem.W.minD (encS "fast" x L l) (ls.map (encS "fast" x L)) = encS "fast" x L q ∧ IsBest "fast" (l :: ls) x L (plc "fast" q x L) := by
  obtain ⟨q, hq, e, h1, h2⟩ := min_go x L ls l
  have hm : q ∈ l :: ls := by
    rcases hq with e | e
    · subst e; exact List.mem_cons_self
    · exact List.mem_cons_of_mem _ e
  refine ⟨q, hm, e, ⟨q, hm, rfl⟩, fun p hp => ?_⟩
  rw [if_neg slow_ne]
  rcases List.mem_cons.mp hp with e | e
  · subst e; exact h1
  · exact h2 p e
section
variable {P : Program} {w : World} {K : PySem.W.Frag} {mg : Str → Option Value} {base : Heap} {Z : Ad}
theorem words_side {sd x : Str} (hs : SideOk sd) (hx : WordOk x) : inV (.str x) (if sd = "slow" then [.str "at", .str "from"] else [.str "at", .str "upto"]) = onSide sd x := by
  obtain ⟨h1, h2, _⟩ := decl_words hx
  rcases hs with e | e
  · subst e; rw [if_pos rfl]; exact h1
  · subst e; rw [if_neg slow_ne]; exact h2
theorem ok_side_looks (T : Tx K w mg Z) : FnOk P w K mg base CX0 1 Z.a_side_looks Z.d_side_looks P_side_looks (spSide K) := by
  refine T.F_side_looks.ok scside_looks (fun vs H Q E h => ?_) (fun cdv A outer s H vs Q E hr h => ?_)
  · obtain ⟨v, ls, sd, rfl, _⟩ := h
    rfl
  · obtain ⟨v, ls, sd, rfl, hv, hsd, hw, hlen, k⟩ := h
    obtain ⟨a, xs, rfl, ha, hd⟩ := dp_list hv
    obtain ⟨es, n, DW⟩ := T.kd_WORDS
    have hxl : xs.length = ls.length := by rw [dpAll_len hd, List.length_map]
    obtain ⟨tw, htw, hqw⟩ : ∃ tw, PySem.W.nsIn K Z.a_WORDS sd = some (some (.ref tw)) ∧ ∀ H, SqT K H tw (if sd = "slow" then [.str "at", .str "from"] else [.str "at", .str "upto"]) := by
      rcases hsd with e | e
      · subst e; exact ⟨_, T.w_slow, fun H => by rw [if_pos rfl]; exact T.q_slow H⟩
      · subst e; exact ⟨_, T.w_fast, fun H => by rw [if_neg slow_ne]; exact T.q_fast H⟩
    refine ⟨_, (pss_cons (ps_set (i := 2) scside_looks.nd rfl (Or.inr rfl) (pe_ix (ix_kd DW) (pe_glob (v := .ref Z.a_WORDS) rfl T.g_WORDS rfl) (pv 1) (fun _ _ => rfl)))
      (pss_one (ps_ret (pe_lc (own := [("look", 3)]) (g := gName 3) (tt := _) rfl scside_looks.nd (pi_list (pv 0)) (blkOk_by (own := [("look", 3)]) (N := N_side_looks) (sc := defScope sside_looks) (by decide +kernel)) (fun _ _ _ _ _ => (pg_name (i := 3) scside_looks.nd rfl (Or.inl rfl))) (fun _ _ _ _ _ => (pts_one (pt_cmpR (inS (K := K)) (pe_ix (ixT (K := K)) (pv 3) pe_int (fun _ _ => rfl)) (pv 2) (by rfl)))) (fun _ _ _ _ _ => (pv 3)))))), ?_⟩
    refine ⟨_, rfl, sd, _, .ref tw, rfl, rfl, htw, rfl, _, rfl, a, rfl, ⟨_, ha⟩, fun D hD => ?_⟩
    refine lc_list (K := K) (a := a) (xs := xs) (fun i H' => Same H H' ∧ ∃ ys, H' D = some (.lst ys) ∧ ys.length ≤ i ∧ DpAll K H' ys ((sideOf sd (ls.take i)).map encL)) ⟨same_upd hD, [], upd_same, Nat.le_refl _, .nil⟩ (fun i H' _ ⟨S, _⟩ => Same.sqL S ha) ?_ ?_
    · rintro i y H' hi ⟨S, ys, hD', hyl, hds⟩
      obtain ⟨d, hdi, hdy⟩ := dpAll_get hd hi
      obtain ⟨l, hl, rfl⟩ := map_at hdi
      have hwl := hw l (List.mem_of_getElem? hl)
      have hdy' := dp_mono S _ _ hdy
      obtain ⟨p, rfl, hp⟩ := dp_look hdy'
      refine ⟨rfl, _, rfl, _, _, _, _, rfl, rfl, hp, rfl, _, rfl, _, _, rfl, .inr (hqw _), rfl, ?_, _, rfl, ?_⟩
      · split <;> rfl
      · have e1 : (if false = true then !inV (V.str l.1) (if sd = "slow" then [V.str "at", V.str "from"] else [V.str "at", V.str "upto"]) else inV (V.str l.1) (if sd = "slow" then [V.str "at", V.str "from"] else [V.str "at", V.str "upto"])) = onSide sd l.1 := by
          rw [if_neg Bool.false_ne_true]; exact words_side hsd hwl
        rw [e1]
        have e2 : sideOf sd (ls.take (i + 1)) = sideOf sd (ls.take i) ++ (if onSide sd l.1 = true then [l] else []) := by
          rw [take_snoc hl]; unfold sideOf; rw [List.filter_append]
          cases c : onSide sd l.1 <;> simp [c]
        cases c : onSide sd l.1 with
        | false =>
          refine iteF ⟨S, ys, hD', by omega, ?_⟩
          rw [e2, c]
          simpa using hds
        | true =>
          refine iteT ⟨_, rfl, ys, hD', ?_, ?_, _, upd_same, by simp; omega, ?_⟩
          · have : ys.length ≤ 1000 := by
              have := (List.getElem?_eq_some_iff.mp hl).1
              omega
            exact small1000 this
          · exact same_set S hD
          · rw [e2, c, if_pos rfl, List.map_append]
            exact acc_step hD' (noLs_map noL_encL _) rfl hds hdy'
    · rintro H' ⟨S, ys, hD', hyl, hds⟩
      refine k H' _ S ?_
      rw [List.take_of_length_le (by rw [hxl]; exact Nat.le_refl _)] at hds
      exact .lst (SqL.of hD') hds
theorem ok_best_step (T : Tx K w mg Z) : FnOk P w K mg base CX0 2 Z.a_best_step Z.d_best_step P_best_step (spBest K) := by
  refine T.F_best_step.ok scbest_step (fun vs H Q E h => ?_) (fun cdv A outer s H vs Q E hr h => ?_)
  · obtain ⟨v, ls, sd, x, L, rfl, _⟩ := h
    rfl
  · obtain ⟨v, ls, sd, x, L, rfl, hv, hsd, hw, hlen, hL, hLb, hx, k0, k⟩ := h
    obtain ⟨a, xs, rfl, ha, hd⟩ := dp_list hv
    have hxl : xs.length = ls.length := by rw [dpAll_len hd, List.length_map]
    refine ⟨_, (C8.pss_cut (ps_if (pt_not (pt_truth (pv 0) (by intro _; rfl))) (pss_one (ps_ret pe_non)) pss_nil)
      (pss_cons (ps_setLc (i := 4) (own := [("look", 5)]) (g := gName 5) (tt := tYes) rfl scbest_step.nd rfl rfl (sw_true rfl rfl rfl (by decide +kernel)) (pi_list (pv 0)) (blkOk_by (own := [("look", 5)]) (N := N_best_step) (sc := defScope sbest_step) (by decide +kernel)) (fun _ _ _ _ _ => (pg_name (i := 5) scbest_step.nd rfl (Or.inl rfl))) (fun _ _ _ _ _ => pts_nil) (fun _ _ _ _ _ => (pe_tup (pa_cons (pe_call (ok_place_by T) (hr.mono (by decide)) (by rfl) T.g_place_by T.F_place_by.kp T.bb_place_by .nil pass0 (pa_cons (pv 5) (pa_cons (pv 1) (pa_cons (pv 2) (pa_cons (pv 3) pa_nil))))) (pa_cons (pv 5) pa_nil)))))
      (pss_one (ps_ret (pe_ifExp (pt_cmpR op_eq (pv 1) (pe_glob rfl T.g_SLOW T.r_SLOW) (nomark _)) (pe_callB (maxDK (K := K) rfl (rooms hr)) (by rfl) T.b_max (by decide +kernel) (pa_cons (pv 4) pa_nil)) (pe_callB (minDK (K := K) rfl (rooms hr)) (by rfl) T.b_min (by decide +kernel) (pa_cons (pv 4) pa_nil))))))), ?_⟩
    refine ⟨fun σ' H' => σ' = [some (.ref a), some (.str sd), some (.int x), some (.int L), none, none] ∧ H' = H ∧ ls ≠ [], ?_, ?_⟩
    · refine ⟨_, rfl, _, .inl ⟨xs, ha, rfl⟩, ?_⟩
      cases ls with
      | nil =>
        have e : xs = [] := List.eq_nil_of_length_eq_zero hxl
        subst e
        exact iteT (k0 rfl)
      | cons l ls =>
        cases xs with
        | nil => simp at hxl
        | cons y ys => exact iteF ⟨rfl, rfl, by simp⟩
    · rintro σ1 H1 ⟨rfl, rfl, hne⟩
      refine ⟨_, rfl, a, rfl, ⟨_, ha⟩, fun D hD => ?_⟩
      refine lc_list (K := K) (a := a) (xs := xs) (fun i H' => Same H1 H' ∧ ∃ ys, H' D = some (.lst ys) ∧ ys.length ≤ i ∧ DpAll K H' ys ((ls.take i).map (encS sd x L))) ⟨same_upd hD, [], upd_same, Nat.le_refl _, .nil⟩ (fun i H' _ ⟨S, _⟩ => Same.sqL S ha) ?_ ?_
      · rintro i y H' hi ⟨S, ys, hD', hyl, hds⟩
        obtain ⟨d, hdi, hdy⟩ := dpAll_get hd hi
        obtain ⟨l, hl, rfl⟩ := map_at hdi
        have hwl := hw l (List.mem_of_getElem? hl)
        have hdy' := dp_mono S _ _ hdy
        refine ⟨rfl, yes_ite ?_⟩
        refine ⟨_, rfl, _, rfl, _, rfl, _, rfl, y, l, sd, x, L, rfl, hdy', hsd, hL, hLb, hx, hwl.2, _, rfl, (by show 2 ≤ sizeLine; decide), fun p hp => ?_⟩
        have hD2 : (upd H' p (.tup [.int (plc sd l x L), y])) D = some (.lst ys) := (upd_ne (ne_of_none hD' hp)).trans hD'
        have S2 := same_upd (o := HO.tup [.int (plc sd l x L), y]) hp
        refine ⟨ys, hD2, ?_, same_set (S.trans S2) hD, _, upd_same, by simp; omega, ?_⟩
        · have := (List.getElem?_eq_some_iff.mp hl).1
          exact small1000 (by omega)
        · rw [take_snoc hl, List.map_append]
          exact acc_step hD2 (noLs_map (fun _ => rfl) _) rfl (dpAll_mono S2 _ _ hds) (.tup (SqT.of upd_same) (.cons (.int _) (.cons (dp_mono S2 _ _ hdy') .nil)))
      · rintro H' ⟨S, ys, hD', hyl, hds⟩
        rw [List.take_of_length_le (by rw [hxl]; exact Nat.le_refl _)] at hds
        refine ⟨_, rfl, rfl, _, rfl, ?_⟩
        have hd0 : ∃ l ls', ls = l :: ls' := by
          cases ls with
          | nil => exact absurd rfl hne
          | cons l ls' => exact ⟨l, ls', rfl⟩
        obtain ⟨l, ls', rfl⟩ := hd0
        have hal := steps_alike sd x L (l :: ls')
        have hlay := steps_lay sd x L (l :: ls') (fun q hq => (hw q hq).1)
        have hdep := steps_depth sd x L (l :: ls')
        rcases hsd with e | e
        · subst e
          refine iteT ⟨_, rfl, D, ys, _, _, rfl, SqL.of hD', hds, hal, hlay, hdep, fun r hr => ?_⟩
          obtain ⟨q, hq, e, hb⟩ := max_step x L l ls'
          rw [e] at hr
          exact k H' r q hq S hb hr
        · subst e
          have e3 : decide (V.str "fast" = V.str "slow") = false := by decide +kernel
          rw [e3]
          refine iteF ⟨_, rfl, D, ys, _, _, rfl, SqL.of hD', hds, hal, hlay, hdep, fun r hr => ?_⟩
          obtain ⟨q, hq, e, hb⟩ := min_step x L l ls'
          rw [e] at hr
          exact k H' r q hq S hb hr
end
end KA
namespace KA
open PySem PySem.Spec PyProof.Rows L2 DP
/-- a Dark's fields -/
def df (L : Int) (la : Addr) : List (Str × V) := [("_length", .int L), ("_looks", .ref la)]
theorem ne_ll : ¬ (("_looks" : Str) = "_length") := by decide +kernel
theorem ne_ll' : ¬ (("_length" : Str) = "_looks") := by decide +kernel
theorem df_length (L : Int) (la : Addr) : (df L la).lookup ("_length" : Str) = some (.int L) := by simp [df, List.lookup]
theorem df_looks (L : Int) (la : Addr) : (df L la).lookup ("_looks" : Str) = some (.ref la) := by
  have h : (("_looks" : Str) == ("_length" : Str)) = false := by decide +kernel
  simp [df, List.lookup, h]
theorem df_no (L : Int) (la : Addr) {m : Str} (h1 : (m == ("_length" : Str)) = false) (h2 : (m == ("_looks" : Str)) = false) : (df L la).lookup m = none := by simp [df, List.lookup, h1, h2]
theorem df_put1 (v : V) : putF "_length" v [] = [(("_length" : Str), v)] := rfl
theorem df_put2 (L : Int) (la : Addr) : putF "_looks" (.ref la) [("_length", .int L)] = df L la := by
  show (if ("_length" : Str) = "_looks" then _ else _) = _
  rw [if_neg ne_ll']; rfl
theorem df_put3 (L : Int) (la lb : Addr) : putF "_looks" (.ref lb) (df L la) = df L lb := by
  show (if ("_length" : Str) = "_looks" then _ else (("_length" : Str), V.int L) :: putF "_looks" (.ref lb) [("_looks", .ref la)]) = _
  rw [if_neg ne_ll']
  show (("_length" : Str), V.int L) :: (if ("_looks" : Str) = "_looks" then _ else _) = _
  rw [if_pos rfl]; rfl
/-- what is free there was free before -/
structure FreeIn (H H' : Hp) : Prop where
  free : ∀ {b : Addr}, H' b = none → H b = none
structure DarkAt (Z : Ad) (K : PySem.W.Frag) (H : Hp) (d : Addr) (L : Int) (ls : List Lk) : Prop where
  ex : ∃ dx la vs, H d = some (.ins Z.C dx (df L la)) ∧ H la = some (.lst vs) ∧ DpAll K H vs (ls.map encL)
  pos : 0 < L
  big : L.natAbs < 2 ^ 200
  ok : ∀ l ∈ ls, WordOk l.1 ∧ Sized 302 l
  len : ls.length ≤ 60
theorem DarkAt.same {Z : Ad} {K : PySem.W.Frag} {H H' : Hp} {d : Addr} {L : Int} {ls : List Lk} (D : DarkAt Z K H d L ls) (S : Same H H') : DarkAt Z K H' d L ls := by
  obtain ⟨dx, la, vs, h1, h2, h3⟩ := D.ex
  exact ⟨⟨dx, la, vs, S _ _ h1, S _ _ h2, dpAll_mono S _ _ h3⟩, D.pos, D.big, D.ok, D.len⟩
theorem Sized.up {m n : Nat} {l : Lk} (h : Sized m l) (hm : m ≤ n) : Sized n l := ⟨lt_up h.1 hm, lt_up h.2 hm⟩
theorem df_inj {C C' dx dx' : Addr} {L L' : Int} {la la' : Addr} (h : some (HO.ins C dx (df L la)) = some (HO.ins C' dx' (df L' la'))) : la = la' := by
  have h1 : df L la = df L' la' := by injection h with h; injection h
  simp [df] at h1
  exact h1.2
def spInit (Z : Ad) (K : PySem.W.Frag) : Sp := fun vs H Q _ => ∃ (d dx : Addr) (L : Int), vs = [.ref d, .int L] ∧ H d = some (.ins Z.C dx []) ∧ 0 < L ∧ L.natAbs < 2 ^ 200 ∧ ∀ H' : Hp, DarkAt Z K H' d L [] → (∀ la dx, H' d = some (.ins Z.C dx (df L la)) → H la = none) → (∀ b o, H b = some o → b ≠ d → H' b = some o) → Q .non H'
def spLooks (Z : Ad) (K : PySem.W.Frag) : Sp := fun vs H Q _ => ∃ (d : Addr) (L : Int) (ls : List Lk), vs = [.ref d] ∧ DarkAt Z K H d L ls ∧ ∀ (p : Addr) (xs : List V) (H' : Hp), H p = none → Same H H' → H' p = some (.lst xs) → DpAll K H' xs (ls.map encL) → Q (.ref p) H'
def spWord : Sp := fun vs H Q _ => ∃ (d : V) (x : Str), vs = [d, .str x] ∧ WordOk x ∧ Q .non H
def spHome (Z : Ad) (K : PySem.W.Frag) : Sp := fun vs H Q _ => ∃ (d : Addr) (L : Int) (ls : List Lk) (l : Lk), vs = [.ref d, .str l.1, .int l.2.1, .int l.2.2] ∧ DarkAt Z K H d L ls ∧ WordOk l.1 ∧ Sized 300 l ∧ ∀ H' r, Same H H' → Dp K H' r (encL (home L l)) → Q r H'
def spClashing (Z : Ad) (K : PySem.W.Frag) : Sp := fun vs H Q _ => ∃ (d : Addr) (v : V) (L : Int) (ls : List Lk) (l : Lk), vs = [.ref d, v] ∧ DarkAt Z K H d L ls ∧ Dp K H v (encL l) ∧ WordOk l.1 ∧ Sized 302 l ∧
  (ls.find? (fun o => clashB l o L) = none → Q .non H) ∧ ∀ o r, ls.find? (fun o => clashB l o L) = some o → Dp K H r (encL o) → Q r H
/-- what is heard -/
def heard (L : Int) (ls : List Lk) (l : Lk) : List Lk := if home L l ∈ ls then ls else (ls ++ [home L l]).mergeSort (PySem.W.dataLe false encL)
def spHear (Z : Ad) (K : PySem.W.Frag) : Sp := fun vs H Q _ => ∃ (d : Addr) (L : Int) (ls : List Lk) (l : Lk), vs = [.ref d, .str l.1, .int l.2.1, .int l.2.2] ∧ DarkAt Z K H d L ls ∧ WordOk l.1 ∧ Sized 300 l ∧ ls.length < 60 ∧ (∀ o ∈ ls, clashB (home L l) o L = false) ∧
  ∀ H', DarkAt Z K H' d L (heard L ls l) → (∀ la dx, H' d = some (.ins Z.C dx (df L la)) → (∃ dx', H d = some (.ins Z.C dx' (df L la))) ∨ H la = none) → (∀ b o, H b = some o → b ≠ d → H' b = some o) → Q .non H'
def spBound (Z : Ad) (K : PySem.W.Frag) : Sp := fun vs H Q _ => ∃ (d : Addr) (L : Int) (ls : List Lk) (sd : Str) (x : Int), vs = [.ref d, .str sd, .int x] ∧ DarkAt Z K H d L ls ∧ SideOk sd ∧ x.natAbs < 2 ^ 400 ∧
  (sideOf sd ls = [] → ∀ H', Same H H' → Q .non H') ∧ ∀ m H', Same H H' → IsBest sd (sideOf sd ls) x L m → Q (.int m) H'
/-- what a side tells of x: None, or the best place -/
def Tells (sd : Str) (ls : List Lk) (x L : Int) (v : V) : Prop := (sideOf sd ls = [] ∧ v = .non) ∨ ∃ m, v = .int m ∧ IsBest sd (sideOf sd ls) x L m
def spSideOf (Z : Ad) (K : PySem.W.Frag) (sd : Str) : Sp := fun vs H Q _ => ∃ (d : Addr) (L : Int) (ls : List Lk) (x : Int), vs = [.ref d, .int x] ∧ DarkAt Z K H d L ls ∧ x.natAbs < 2 ^ 400 ∧
  ∀ v H', Same H H' → Tells sd ls x L v → Q v H'
theorem same_put {H : Hp} {d C dx : Addr} {fs fs' : List (Str × V)} (h : H d = some (.ins C dx fs)) : FreeIn H (upd H d (.ins C dx fs')) := ⟨fun {b} hb => by
  by_cases e : b = d
  · subst e; rw [upd_same] at hb; cases hb
  · rw [upd_ne e] at hb; exact hb⟩
theorem emod_small {x L : Int} (h : 0 < L) (hb : L.natAbs < 2 ^ 200) : (x - x / L * L).natAbs < 2 ^ 200 := by
  have e : x - x / L * L = x % L := by
    have := Int.mul_ediv_add_emod x L
    rw [Int.mul_comm (x / L) L]; omega
  rw [e]
  have h1 := Int.emod_nonneg x (show L ≠ 0 by omega)
  have h2 := Int.emod_lt_of_pos x h
  have h3 : (x % L).natAbs ≤ L.natAbs := by clear hb; omega
  exact Nat.lt_of_le_of_lt h3 hb
theorem home_sized {L : Int} {l : Lk} (h : 0 < L) (hb : L.natAbs < 2 ^ 200) (hl : Sized 300 l) : Sized 302 (home L l) := by
  have h0 := emod_small (x := l.2.1) h hb
  refine ⟨lt_up h0 (by decide), ?_⟩
  show (l.2.2 - l.2.1 / L * L).natAbs < 2 ^ 302
  have e : l.2.2 - l.2.1 / L * L = l.2.2 + ((l.2.1 - l.2.1 / L * L) - l.2.1) := by omega
  rw [e]
  have h1 : ((l.2.1 - l.2.1 / L * L) - l.2.1).natAbs < 2 ^ 301 := sub_lt (lt_up h0 (by decide)) hl.1
  exact add_lt (lt_up hl.2 (by decide)) h1
section
variable {P : Program} {w : World} {K : PySem.W.Frag} {mg : Str → Option Value} {base : Heap} {Z : Ad}
theorem ok_Dark_init (T : Tx K w mg Z) : FnOk P w K mg base CX0 1 Z.a_Dark_init Z.d_Dark_init P_Dark_init (spInit Z K) := by
  refine T.F_Dark_init.ok scDark_init (fun vs H Q E h => ?_) (fun cdv A outer s H vs Q E hr h => ?_)
  · obtain ⟨d, dx, L, rfl, _⟩ := h
    rfl
  · obtain ⟨d, dx, L, rfl, hd, hL, hLb, k⟩ := h
    refine ⟨_, (C8.pss_cut (ps_if (pt_cmpR op_lt (pv 1) pe_int (nomark _)) (pss_one ps_never) pss_nil)
      (pss_cons (ps_fld (pv 0) (pv 1) rfl)
      (pss_one (ps_fld (pv 0) (pe_lst pa_nil) rfl)))), ?_⟩
    refine ⟨fun σ' H' => σ' = [some (.ref d), some (.int L)] ∧ H' = H, ?_, ?_⟩
    · refine ⟨_, rfl, _, _, rfl, rfl, _, rfl, ?_⟩
      exact ite2 (fun c => (by have c' := of_decide_eq_true c; omega : False)) (fun _ => ⟨rfl, rfl⟩)
    · rintro σ1 H1 ⟨rfl, rfl⟩
      refine ⟨_, rfl, _, rfl, d, Z.C, dx, [], rfl, hd, T.cl, T.n_length, (by show 0 < 1000; decide), ?_⟩
      refine ⟨(by show 0 ≤ sizeLine; decide), fun p hp => ?_⟩
      have h1 : (upd H1 d (.ins Z.C dx (putF "_length" (.int L) []))) d = some (.ins Z.C dx [("_length", .int L)]) := upd_same
      have hdp : d ≠ p := ne_of_none h1 hp
      refine ⟨_, rfl, d, Z.C, dx, [("_length", .int L)], rfl, (upd_ne hdp).trans h1, T.cl, T.n_looks, (by show 1 < 1000; decide), ?_⟩
      refine k _ ⟨⟨dx, p, [], Eq.trans upd_same (congrArg (fun q => some (HO.ins Z.C dx q)) (df_put2 L p)), (upd_ne (Ne.symm hdp)).trans upd_same, .nil⟩, hL, hLb, (fun _ z => absurd z (by simp)), Nat.zero_le _⟩ (fun la' dx' e => ?_) fun b o e hb => ?_
      · rw [upd_same, df_put2] at e
        rw [← df_inj e]
        exact (same_put hd).free hp
      have e1 : (upd H1 d (.ins Z.C dx (putF "_length" (.int L) []))) b = some o := (upd_ne hb).trans e
      exact (upd_ne hb).trans ((upd_ne (ne_of_none e1 hp)).trans e1)
theorem ok_Dark_looks (T : Tx K w mg Z) : FnOk P w K mg base CX0 1 Z.a_Dark_looks Z.d_Dark_looks P_Dark_looks (spLooks Z K) := by
  refine T.F_Dark_looks.ok scDark_looks (fun vs H Q E h => ?_) (fun cdv A outer s H vs Q E hr h => ?_)
  · obtain ⟨d, L, ls, rfl, _⟩ := h
    rfl
  · obtain ⟨d, L, ls, rfl, D, k⟩ := h
    obtain ⟨dx, la, xs, h1, h2, h3⟩ := D.ex
    refine ⟨_, (pss_one (ps_ret (pe_callTy (listK (K := K)) (by rfl) T.b_list (by decide +kernel) (pa_cons (fldK (K := K) (pv 0) rfl) pa_nil)))), ?_⟩
    refine ⟨_, rfl, d, Z.C, dx, _, _, rfl, h1, T.cl, T.n_looks, df_looks _ _, la, xs, rfl, .inl (SqL.of h2), fun p hp => ?_⟩
    exact k p xs _ hp (same_upd hp) upd_same (dpAll_mono (same_upd hp) _ _ h3)
theorem ok_Darkcheck_word (T : Tx K w mg Z) : FnOk P w K mg base CX0 1 Z.a_Darkcheck_word Z.d_Darkcheck_word P_Darkcheck_word (spWord) := by
  refine T.F_Darkcheck_word.ok scDarkcheck_word (fun vs H Q E h => ?_) (fun cdv A outer s H vs Q E hr h => ?_)
  · obtain ⟨d, x, rfl, _⟩ := h
    rfl
  · obtain ⟨d, x, rfl, hx, k⟩ := h
    refine ⟨_, (pss_one (ps_if (pt_cmpR (notInS (K := K)) (pv 1) (pe_glob (v := .ref Z.a_LW) rfl T.g_LOOK_WORDS rfl) (by rfl)) (pss_one ps_never) pss_nil)), ?_⟩
    obtain ⟨_, _, e⟩ := decl_words hx
    refine ⟨_, rfl, _, _, rfl, .inr (T.q_LW _), rfl, rfl, _, rfl, ?_⟩
    have e2 : (if true = true then !inV (V.str x) [V.str "at", V.str "from", V.str "upto"] else inV (V.str x) [V.str "at", V.str "from", V.str "upto"]) = false := by rw [if_pos rfl, e]; rfl
    rw [e2]
    exact iteF k
theorem ok_Darkhome (T : Tx K w mg Z) : FnOk P w K mg base CX0 2 Z.a_Darkhome Z.d_Darkhome P_Darkhome (spHome Z K) := by
  refine T.F_Darkhome.ok scDarkhome (fun vs H Q E h => ?_) (fun cdv A outer s H vs Q E hr h => ?_)
  · obtain ⟨d, L, ls, l, rfl, _⟩ := h
    rfl
  · obtain ⟨d, L, ls, l, rfl, D, hw, hl, k⟩ := h
    obtain ⟨dx, la, xs, h1, h2, h3⟩ := D.ex
    refine ⟨_, (pss_cons (ps_expr (pe_meth (pv 0) T.cl T.m_Darkcheck_word (ok_Darkcheck_word T) (hr.mono (by decide)) T.bb_Darkcheck_word .nil pass0 (pa_cons (pv 1) pa_nil)))
      (pss_cons (ps_set (i := 4) scDarkhome.nd rfl (Or.inl rfl) (pe_op op_fdivW (pv 2) (fldK (K := K) (pv 0) rfl)))
      (pss_one (ps_ret (pe_tup (pa_cons (pv 1) (pa_cons (pe_op op_sub (pv 2) (pe_op op_mulW (pv 4) (fldK (K := K) (pv 0) rfl))) (pa_cons (pe_op op_sub (pv 3) (pe_op op_mulW (pv 4) (fldK (K := K) (pv 0) rfl))) pa_nil)))))))), ?_⟩
    refine ⟨_, rfl, d, dx, _, rfl, h1, df_no _ _ (by decide +kernel) (by decide +kernel), _, rfl, _, _, rfl, hw, ?_⟩
    refine ⟨_, rfl, _, rfl, d, Z.C, dx, _, _, rfl, h1, T.cl, T.n_length, df_length _ _, _, _, rfl, rfl, wide_div D.pos D.big (by decide) (by decide), ?_⟩
    have b1 : (l.2.1 / L).natAbs < 2 ^ 301 := div_lt D.pos hl.1
    refine ⟨_, rfl, _, rfl, _, rfl, _, rfl, d, Z.C, dx, _, _, rfl, h1, T.cl, T.n_length, df_length _ _, _, _, rfl, rfl, wide_mul b1 D.big (by decide) (by decide) (by decide), _, _, rfl, rfl, ?_⟩
    refine ⟨_, rfl, _, rfl, _, rfl, d, Z.C, dx, _, _, rfl, h1, T.cl, T.n_length, df_length _ _, _, _, rfl, rfl, wide_mul b1 D.big (by decide) (by decide) (by decide), _, _, rfl, rfl, (by show 3 ≤ sizeLine; decide), fun p hp => ?_⟩
    exact k _ _ (same_upd hp) (.tup (SqT.of upd_same) (.cons (.str _) (.cons (.int _) (.cons (.int _) .nil))))
theorem ok_Darkclashing (T : Tx K w mg Z) : FnOk P w K mg base CX0 4 Z.a_Darkclashing Z.d_Darkclashing P_Darkclashing (spClashing Z K) := by
  refine T.F_Darkclashing.ok scDarkclashing (fun vs H Q E h => ?_) (fun cdv A outer s H vs Q E hr h => ?_)
  · obtain ⟨d, v, L, ls, l, rfl, _⟩ := h
    rfl
  · obtain ⟨d, v, L, ls, l, rfl, D, hv, hw, hl, k0, k⟩ := h
    obtain ⟨dx, la, xs, h1, h2, h3⟩ := D.ex
    have hxl : xs.length = ls.length := by rw [dpAll_len h3, List.length_map]
    refine ⟨_, (pss_cons (ps_for PassesOwn.never rfl (pi_list (fldK (K := K) (pv 0) rfl)) (pg_name (i := 2) scDarkclashing.nd rfl (Or.inl rfl)) (pss_one (ps_if (pt_val (pe_call (ok_clash T) (hr.mono (by decide)) (by rfl) T.g_clash T.F_clash.kp T.bb_clash .nil pass0 (pa_cons (pv 1) (pa_cons (pv 2) (pa_cons (fldK (K := K) (pv 0) rfl) pa_nil))))) (pss_one (ps_ret (pv 2))) pss_nil)))
      (pss_one (ps_ret pe_non))), ?_⟩
    refine ⟨_, rfl, d, Z.C, dx, _, _, rfl, h1, T.cl, T.n_looks, df_looks _ _, la, rfl, ⟨_, SqL.of h2⟩, ?_⟩
    refine for_list (K := K) (a := la) (xs := xs) (fun i σ' H' => ∃ u, σ' = [some (.ref d), some v, u] ∧ H' = H ∧ (ls.take i).find? (fun o => clashB l o L) = none) ⟨none, rfl, rfl, rfl⟩ (fun i σ' H' _ ⟨_, _, e, _⟩ => by rw [e]; exact SqL.of h2) ?_ ?_
    · rintro i y σ' H' hi ⟨u, rfl, rfl, hno⟩
      obtain ⟨e, hdi, hdy⟩ := dpAll_get h3 hi
      obtain ⟨o, ho, rfl⟩ := map_at hdi
      have hok := D.ok o (List.mem_of_getElem? ho)
      refine ⟨_, rfl, _, rfl, _, rfl, d, Z.C, dx, _, _, rfl, h1, T.cl, T.n_length, df_length _ _, v, y, l, o, L, rfl, hv, hdy, hw, hok.1, D.pos, D.big, hl.up (by decide), hok.2.up (by decide), _, rfl, ?_⟩
      have hsp : ls = ls.take i ++ o :: ls.drop (i + 1) := by
        have h4 := List.getElem?_eq_some_iff.mp ho
        obtain ⟨h5, h6⟩ := h4
        rw [← h6, List.getElem_cons_drop, List.take_append_drop]
      cases c : clashB l o L with
      | true =>
        refine iteT ⟨_, rfl, k o y ?_ hdy⟩
        rw [hsp, List.find?_append, hno, List.find?_cons, c]
        rfl
      | false =>
        refine iteF ⟨_, rfl, rfl, ?_⟩
        rw [take_snoc ho, List.find?_append, hno, List.find?_cons, c]
        rfl
    · rintro σ' H' ⟨u, rfl, rfl, hno⟩
      rw [List.take_of_length_le (by rw [hxl]; exact Nat.le_refl _)] at hno
      exact k0 hno
theorem alike_looks (ls : List Lk) : PySem.W.AllAlike (ls.map encL) := PySem.W.AllAlike.of fun _ _ => by simp [encL, PySem.W.alike, PySem.W.alikeAll]
theorem depth_look (l : Lk) : (encL l).depth = 1 := by simp [encL, PyData.depth, PyData.depthAll]
theorem shaped_look {l : Lk} (h : WordOk l.1) : SeqAt.shaped (encL l) = true := by
  unfold SeqAt.shaped
  rw [lay_look h, depth_look]; rfl
theorem lay_looks : ∀ ls : List Lk, (∀ l ∈ ls, WordOk l.1) → PyData.canLayAll0 (ls.map encL) = true
  | [], _ => rfl
  | l :: ls, h => by
    show PyData.canLayAll0 (encL l :: ls.map encL) = true
    rw [PyData.canLayAll0, lay_look (h l List.mem_cons_self), lay_looks ls fun q hq => h q (List.mem_cons_of_mem _ hq)]; rfl
theorem depth_looks : ∀ ls : List Lk, PyData.depthAll (ls.map encL) ≤ 1
  | [] => by simp [PyData.depthAll]
  | l :: ls => by
    show PyData.depthAll (encL l :: ls.map encL) ≤ 1
    rw [PyData.depthAll, depth_look]
    have := depth_looks ls
    omega
theorem shaped_looks {ls : List Lk} (h : ∀ l ∈ ls, WordOk l.1) : SeqAt.shaped (.list (ls.map encL)) = true := by
  unfold SeqAt.shaped
  rw [PyData.canLay0, lay_looks ls h, PyData.depth]
  have := depth_looks ls
  simp; omega
theorem eqv_look (a b : Lk) : PyData.eqv (encL a) (encL b) = decide (a = b) := by
  obtain ⟨a1, a2, a3⟩ := a
  obtain ⟨b1, b2, b3⟩ := b
  simp [encL, PyData.eqv, PyData.eqvAll]
  by_cases h1 : a1 = b1 <;> by_cases h2 : a2 = b2 <;> by_cases h3 : a3 = b3 <;> simp [h1, h2, h3]
theorem any_look (ls : List Lk) (l : Lk) : ((ls.map encL).any fun z => PyData.eqv z (encL l)) = decide (l ∈ ls) := by
  rw [List.any_map]
  rw [Bool.eq_iff_iff, List.any_eq_true, decide_eq_true_eq]
  constructor
  · rintro ⟨o, ho, e⟩
    have e' : decide (o = l) = true := by rw [← eqv_look]; exact e
    rw [← of_decide_eq_true e']; exact ho
  · intro h
    exact ⟨l, h, by show PyData.eqv (encL l) (encL l) = true; rw [eqv_look]; simp⟩
theorem heard_mem {L : Int} {ls : List Lk} {l o : Lk} : o ∈ heard L ls l ↔ o ∈ ls ∨ o = home L l := by
  unfold heard
  by_cases c : home L l ∈ ls
  · rw [if_pos c]
    exact ⟨.inl, fun h => h.elim id fun e => e ▸ c⟩
  · rw [if_neg c, (List.mergeSort_perm _ _).mem_iff, List.mem_append, List.mem_singleton]
theorem heard_len (L : Int) (ls : List Lk) (l : Lk) : (heard L ls l).length ≤ ls.length + 1 := by
  unfold heard
  split
  · omega
  · rw [(List.mergeSort_perm _ _).length_eq, List.length_append]; simp
theorem ok_Dark_hear (T : Tx K w mg Z) : FnOk P w K mg base CX0 5 Z.a_Dark_hear Z.d_Dark_hear P_Dark_hear (spHear Z K) := by
  refine T.F_Dark_hear.ok scDark_hear (fun vs H Q E h => ?_) (fun cdv A outer s H vs Q E hr h => ?_)
  · obtain ⟨d, L, ls, l, rfl, _⟩ := h
    rfl
  · obtain ⟨d, L, ls, l, rfl, D, hw, hl, hlen, hno, k⟩ := h
    obtain ⟨dx, la, xs, h1, h2, h3⟩ := D.ex
    have hfind : ls.find? (fun o => clashB (home L l) o L) = none := List.find?_eq_none.mpr fun o ho => by rw [hno o ho]; exact Bool.false_ne_true
    have hsz := home_sized D.pos D.big hl
    refine ⟨_, (pss_cons (ps_set (i := 4) scDark_hear.nd rfl (Or.inl rfl) (pe_meth (pv 0) T.cl T.m_Darkhome (ok_Darkhome T) (hr.mono (by decide)) T.bb_Darkhome .nil pass0 (pa_cons (pv 1) (pa_cons (pv 2) (pa_cons (pv 3) pa_nil)))))
      (pss_cons (ps_set (i := 5) scDark_hear.nd rfl (Or.inl rfl) (pe_meth (pv 0) T.cl T.m_Darkclashing (ok_Darkclashing T) (hr.mono (by decide)) T.bb_Darkclashing .nil pass0 (pa_cons (pv 4) pa_nil)))
      (C8.pss_cut (ps_if (pt_cmpR op_notN (pv 5) pe_non (nomark _)) (pss_one ps_never) pss_nil)
      (pss_one (ps_if (pt_cmpR (notInDK (K := K) (rooms hr)) (pv 4) (fldK (K := K) (pv 0) rfl) (by rfl)) (pss_one (ps_fld (pv 0) (pe_callB (sortDK (K := K) encL (rooms hr)) (by rfl) T.b_sorted (by decide +kernel) (pa_cons (pe_op op_cat (fldK (K := K) (pv 0) rfl) (pe_lst (pa_cons (pv 4) pa_nil))) pa_nil)) rfl)) pss_nil))))), ?_⟩
    refine ⟨_, rfl, d, dx, _, rfl, h1, df_no _ _ (by decide +kernel) (by decide +kernel), _, rfl, _, rfl, _, rfl, d, L, ls, l, rfl, D, hw, hl, fun H1 r S hr => ?_⟩
    have D1 := D.same S
    refine ⟨_, rfl, d, dx, _, rfl, S _ _ h1, df_no _ _ (by decide +kernel) (by decide +kernel), _, rfl, d, r, L, ls, home L l, rfl, D1, hr, hw, hsz, fun _ => ?_, fun o r ho => ?_⟩
    · refine ⟨fun σ' H' => σ' = [some (.ref d), some (.str l.1), some (.int l.2.1), some (.int l.2.2), some r, some .non] ∧ H' = H1, ?_, ?_⟩
      · exact ⟨_, rfl, rfl, _, rfl, iteF ⟨rfl, rfl⟩⟩
      · rintro σ2 H2 ⟨rfl, rfl⟩
        have hwords : ∀ o ∈ ls, WordOk o.1 := fun o ho => (D.ok o ho).1
        have hds := dpAll_mono S _ _ h3
        refine ⟨_, rfl, _, rfl, d, Z.C, dx, _, _, rfl, S _ _ h1, T.cl, T.n_looks, df_looks _ _, encL (home L l), ls.map encL, hr, .lst (SqL.of (S _ _ h2)) hds, shaped_look hw, shaped_looks hwords, _, rfl, ?_⟩
        rw [any_look]
        have fin : ∀ H', DarkAt Z K H' d L (heard L ls l) → (∀ la dx, H' d = some (.ins Z.C dx (df L la)) → (∃ dx', H d = some (.ins Z.C dx' (df L la))) ∨ H la = none) → (∀ b o, H2 b = some o → b ≠ d → H' b = some o) → Q .non H' := fun H' DD ff kk => k H' DD ff fun b o e hb => kk b o (S b o e) hb
        have okH : ∀ o ∈ heard L ls l, WordOk o.1 ∧ Sized 302 o := fun o ho => by
          rcases heard_mem.mp ho with h | h
          · exact D.ok o h
          · subst h; exact ⟨hw, hsz⟩
        have lenH : (heard L ls l).length ≤ 60 := Nat.le_trans (heard_len L ls l) hlen
        by_cases c : home L l ∈ ls
        · have e : (!decide (home L l ∈ ls)) = false := by simp [c]
          rw [e]
          refine iteF (fin H2 ?_ (fun la' dx' e => ?_) fun _ _ e _ => e)
          · have eh : heard L ls l = ls := if_pos c
            rw [eh]; exact D1
          · have e2 := e.symm.trans (S _ _ h1)
            rw [df_inj e2]
            exact .inl ⟨dx, h1⟩
        · have e : (!decide (home L l ∈ ls)) = true := by simp [c]
          rw [e]
          refine iteT ⟨_, rfl, d, Z.C, dx, _, _, rfl, S _ _ h1, T.cl, T.n_looks, df_looks _ _, _, rfl, (by show 1 ≤ sizeLine; decide), fun p hp => ?_⟩
          have S2 := same_upd (o := HO.lst [r]) hp
          have h2' := S2 _ _ (S _ _ h2)
          refine ⟨la, p, xs, [r], rfl, rfl, h2', upd_same, ?_, fun p2 hp2 => ?_⟩
          · have : xs.length = ls.length := by rw [dpAll_len h3, List.length_map]
            exact Nat.le_of_lt (small1000 (by simp; omega))
          have S3 := S2.trans (same_upd (o := HO.lst (xs ++ [r])) hp2)
          have hall : DpAll K (upd (upd H2 p (.lst [r])) p2 (.lst (xs ++ [r]))) (xs ++ [r]) ((ls ++ [home L l]).map encL) := by
            rw [List.map_append]
            exact dpAll_snoc (dpAll_mono S3 _ _ hds) (dp_mono S3 _ _ hr)
          refine ⟨p2, xs ++ [r], ls ++ [home L l], rfl, SqL.of upd_same, hall, alike_looks _, PySem.W.Sortable.tuples fun _ => ⟨_, _, rfl⟩, fun b _ => by rw [depth_look]; decide, fun p3 ys H3 hp3 S4 hy hys => ?_⟩
          have S5 := S3.trans S4
          have h1' := S5 _ _ (S _ _ h1)
          have hd3 : d ≠ p3 := fun e => by
            subst e
            rw [(S3 _ _ (S _ _ h1))] at hp3
            cases hp3
          refine ⟨_, rfl, d, Z.C, dx, df L la, rfl, h1', T.cl, T.n_looks, (by show 2 < 1000; decide), ?_⟩
          refine fin _ ⟨⟨dx, p3, ys, Eq.trans upd_same (congrArg (fun q => some (HO.ins Z.C dx q)) (df_put3 L la p3)), (upd_ne (Ne.symm hd3)).trans hy, ?_⟩, D.pos, D.big, okH, lenH⟩ (fun la' dx' e => ?_) fun b o e hb => (upd_ne hb).trans (S5 _ _ e)
          rotate_left
          · rw [upd_same, df_put3] at e
            rw [← df_inj e]
            exact .inr (S.free (S3.free hp3))
          have eh : heard L ls l = (ls ++ [home L l]).mergeSort (PySem.W.dataLe false encL) := if_neg c
          rw [eh]
          exact dpAll_tups (Tups.upd_ins h1') _ _ (noLs_map noL_encL _) hys
    · rw [hfind] at ho; cases ho
theorem ok_Darkbound (T : Tx K w mg Z) : FnOk P w K mg base CX0 3 Z.a_Darkbound Z.d_Darkbound P_Darkbound (spBound Z K) := by
  refine T.F_Darkbound.ok scDarkbound (fun vs H Q E h => ?_) (fun cdv A outer s H vs Q E hr h => ?_)
  · obtain ⟨d, L, ls, sd, x, rfl, _⟩ := h
    rfl
  · obtain ⟨d, L, ls, sd, x, rfl, D, hsd, hx, k0, k⟩ := h
    obtain ⟨dx, la, xs, h1, h2, h3⟩ := D.ex
    refine ⟨_, (pss_cons (ps_set (i := 3) scDarkbound.nd rfl (Or.inl rfl) (pe_call (ok_best_step T) (hr.mono (by decide)) (by rfl) T.g_best_step T.F_best_step.kp T.bb_best_step .nil pass0 (pa_cons (pe_call (ok_side_looks T) (hr.mono (by decide)) (by rfl) T.g_side_looks T.F_side_looks.kp T.bb_side_looks .nil pass0 (pa_cons (fldK (K := K) (pv 0) rfl) (pa_cons (pv 1) pa_nil))) (pa_cons (pv 1) (pa_cons (pv 2) (pa_cons (fldK (K := K) (pv 0) rfl) pa_nil))))))
      (pss_one (ps_ret (pe_ifExp (pt_cmpR op_isN (pv 3) pe_non (nomark _)) pe_non (pe_ix (ixT (K := K)) (pv 3) pe_int (fun _ _ => rfl)))))), ?_⟩
    refine ⟨_, rfl, d, Z.C, dx, _, _, rfl, h1, T.cl, T.n_looks, df_looks _ _, _, rfl, .ref la, ls, sd, rfl, .lst (SqL.of h2) h3, hsd, fun l hl => (D.ok l hl).1, Nat.le_trans D.len (by decide), fun H1 r S hr => ?_⟩
    refine ⟨_, rfl, _, rfl, _, rfl, d, Z.C, dx, _, _, rfl, S _ _ h1, T.cl, T.n_length, df_length _ _, ?_⟩
    refine ⟨r, sideOf sd ls, sd, x, L, rfl, hr, hsd, fun l hl => ⟨(D.ok l (List.mem_filter.mp hl).1).1, (D.ok l (List.mem_filter.mp hl).1).2.up (by decide)⟩, Nat.le_trans (List.length_filter_le _ _) (Nat.le_trans D.len (by decide)), D.pos, D.big, hx, fun e => ?_, fun H2 r2 l hl S2 hb hr2 => ?_⟩
    · exact ⟨_, rfl, rfl, _, rfl, iteT (k0 e _ S)⟩
    · have hr2' : Dp K H2 r2 (.tuple [.int (plc sd l x L), encL l]) := hr2
      cases hr2' with
      | tup s a =>
        cases a with
        | cons a1 a =>
          cases a1
          cases a with
          | cons a2 a =>
          cases a
          refine ⟨_, rfl, rfl, _, rfl, ?_⟩
          refine iteF ⟨_, rfl, _, _, _, _, rfl, rfl, s, rfl, ?_⟩
          exact k _ _ (S.trans S2) hb
theorem ok_Dark_least (T : Tx K w mg Z) : FnOk P w K mg base CX0 4 Z.a_Dark_least Z.d_Dark_least P_Dark_least (spSideOf Z K "slow") := by
  refine T.F_Dark_least.ok scDark_least (fun vs H Q E h => ?_) (fun cdv A outer s H vs Q E hr h => ?_)
  · obtain ⟨d, L, ls, x, rfl, _⟩ := h
    rfl
  · obtain ⟨d, L, ls, x, rfl, D, hx, k⟩ := h
    obtain ⟨dx, la, xs, h1, h2, h3⟩ := D.ex
    refine ⟨_, (pss_one (ps_ret (pe_meth (pv 0) T.cl T.m_Darkbound (ok_Darkbound T) (hr.mono (by decide)) T.bb_Darkbound .nil pass0 (pa_cons (pe_glob rfl T.g_SLOW T.r_SLOW) (pa_cons (pv 1) pa_nil))))), ?_⟩
    exact ⟨_, rfl, d, dx, _, rfl, h1, df_no _ _ (by decide +kernel) (by decide +kernel), _, rfl, d, L, ls, "slow", x, rfl, D, .inl rfl, hx, fun e H1 S => k _ H1 S (.inl ⟨e, rfl⟩), fun m H1 S hb => k _ H1 S (.inr ⟨m, rfl, hb⟩)⟩
theorem ok_Dark_greatest (T : Tx K w mg Z) : FnOk P w K mg base CX0 4 Z.a_Dark_greatest Z.d_Dark_greatest P_Dark_greatest (spSideOf Z K "fast") := by
  refine T.F_Dark_greatest.ok scDark_greatest (fun vs H Q E h => ?_) (fun cdv A outer s H vs Q E hr h => ?_)
  · obtain ⟨d, L, ls, x, rfl, _⟩ := h
    rfl
  · obtain ⟨d, L, ls, x, rfl, D, hx, k⟩ := h
    obtain ⟨dx, la, xs, h1, h2, h3⟩ := D.ex
    refine ⟨_, (pss_one (ps_ret (pe_meth (pv 0) T.cl T.m_Darkbound (ok_Darkbound T) (hr.mono (by decide)) T.bb_Darkbound .nil pass0 (pa_cons (pe_glob rfl T.g_FAST T.r_FAST) (pa_cons (pv 1) pa_nil))))), ?_⟩
    exact ⟨_, rfl, d, dx, _, rfl, h1, df_no _ _ (by decide +kernel) (by decide +kernel), _, rfl, d, L, ls, "fast", x, rfl, D, .inr rfl, hx, fun e H1 S => k _ H1 S (.inl ⟨e, rfl⟩), fun m H1 S hb => k _ H1 S (.inr ⟨m, rfl, hb⟩)⟩
end
end KA
namespace KA
open PySem PySem.Spec PyProof.Rows L2 DP
def spHearX (Z : Ad) (K : PySem.W.Frag) (CL : Addr) : Sp := fun vs H Q E => ∃ (d : Addr) (L : Int) (ls : List Lk) (l : Lk), vs = [.ref d, .str l.1, .int l.2.1, .int l.2.2] ∧ DarkAt Z K H d L ls ∧ WordOk l.1 ∧ Sized 300 l ∧ ls.length < 60 ∧
  ((∀ o ∈ ls, clashB (home L l) o L = false) → ∀ H', DarkAt Z K H' d L (heard L ls l) → (∀ la dx, H' d = some (.ins Z.C dx (df L la)) → (∃ dx', H d = some (.ins Z.C dx' (df L la))) ∨ H la = none) → (∀ b o, H b = some o → b ≠ d → H' b = some o) → Q .non H') ∧
  ∀ o, ls.find? (fun o => clashB (home L l) o L) = some o → ∀ (dd : Addr) (v : V) (H' : Hp), Same H H' → H' dd = some (.xd [(("what" : Str), v)]) → Dp K H' v (.tuple [encL (home L l), encL o]) → H dd = none → E (.ref CL) (some dd) H'
section
variable {P : Program} {w : World} {K : PySem.W.Frag} {mg : Str → Option Value} {base : Heap} {Z : Ad} {Y : AdX}
theorem ok_Dark_hearX (T : Tx K w mg Z) (X : Ex P K mg Y) : FnOk P w K mg base (L2.CX P w) 5 Z.a_Dark_hear Z.d_Dark_hear P_Dark_hear (spHearX Z K Y.c_Clash) := by
  refine T.F_Dark_hear.okX scDark_hear (fun vs H Q E h => ?_) (fun cdv A outer s H vs Q E hr h => ?_)
  · obtain ⟨d, L, ls, l, rfl, _⟩ := h
    rfl
  · obtain ⟨d, L, ls, l, rfl, D, hw, hl, hlen, kno, kx⟩ := h
    obtain ⟨dx, la, xs, h1, h2, h3⟩ := D.ex
    have hsz := home_sized D.pos D.big hl
    refine ⟨_, (pss_cons (ps_set (i := 4) scDark_hear.nd rfl (Or.inl rfl) (pe_meth (pv 0) T.cl T.m_Darkhome (ok_Darkhome T) (hr.mono (by decide)) T.bb_Darkhome .nil pass0 (pa_cons (pv 1) (pa_cons (pv 2) (pa_cons (pv 3) pa_nil)))))
      (pss_cons (ps_set (i := 5) scDark_hear.nd rfl (Or.inl rfl) (pe_meth (pv 0) T.cl T.m_Darkclashing (ok_Darkclashing T) (hr.mono (by decide)) T.bb_Darkclashing .nil pass0 (pa_cons (pv 4) pa_nil)))
      (C8.pss_cut (ps_if (pt_cmpR op_notN (pv 5) pe_non (nomark _)) (pss_one (ps_raise rfl (takes_of rfl rfl rfl rfl) (pmk_err X.Clash X.g_Clash T.b_super hr (pa_cons (pe_tup (pa_cons (pv 4) (pa_cons (pv 5) pa_nil))) pa_nil)))) pss_nil)
      (pss_one (ps_if (pt_cmpR (notInDK (K := K) (rooms hr)) (pv 4) (fldK (K := K) (pv 0) rfl) (by rfl)) (pss_one (ps_fld (pv 0) (pe_callB (sortDK (K := K) encL (rooms hr)) (by rfl) T.b_sorted (by decide +kernel) (pa_cons (pe_op op_cat (fldK (K := K) (pv 0) rfl) (pe_lst (pa_cons (pv 4) pa_nil))) pa_nil)) rfl)) pss_nil))))), ?_⟩
    refine ⟨_, rfl, d, dx, _, rfl, h1, df_no _ _ (by decide +kernel) (by decide +kernel), _, rfl, _, rfl, _, rfl, d, L, ls, l, rfl, D, hw, hl, fun H1 r S hr => ?_⟩
    have D1 := D.same S
    refine ⟨_, rfl, d, dx, _, rfl, S _ _ h1, df_no _ _ (by decide +kernel) (by decide +kernel), _, rfl, d, r, L, ls, home L l, rfl, D1, hr, hw, hsz, fun hfind => ?_, fun o r2 ho hr2 => ?_⟩
    · have k := kno fun o ho => by simpa using List.find?_eq_none.mp hfind o ho
      refine ⟨fun σ' H' => σ' = [some (.ref d), some (.str l.1), some (.int l.2.1), some (.int l.2.2), some r, some .non] ∧ H' = H1, ?_, ?_⟩
      · exact ⟨_, rfl, rfl, _, rfl, iteF ⟨rfl, rfl⟩⟩
      · rintro σ2 H2 ⟨rfl, rfl⟩
        have hwords : ∀ o ∈ ls, WordOk o.1 := fun o ho => (D.ok o ho).1
        have hds := dpAll_mono S _ _ h3
        refine ⟨_, rfl, _, rfl, d, Z.C, dx, _, _, rfl, S _ _ h1, T.cl, T.n_looks, df_looks _ _, encL (home L l), ls.map encL, hr, .lst (SqL.of (S _ _ h2)) hds, shaped_look hw, shaped_looks hwords, _, rfl, ?_⟩
        rw [any_look]
        have fin : ∀ H', DarkAt Z K H' d L (heard L ls l) → (∀ la dx, H' d = some (.ins Z.C dx (df L la)) → (∃ dx', H d = some (.ins Z.C dx' (df L la))) ∨ H la = none) → (∀ b o, H2 b = some o → b ≠ d → H' b = some o) → Q .non H' := fun H' DD ff kk => k H' DD ff fun b o e hb => kk b o (S b o e) hb
        have okH : ∀ o ∈ heard L ls l, WordOk o.1 ∧ Sized 302 o := fun o ho => by
          rcases heard_mem.mp ho with h | h
          · exact D.ok o h
          · subst h; exact ⟨hw, hsz⟩
        have lenH : (heard L ls l).length ≤ 60 := Nat.le_trans (heard_len L ls l) hlen
        by_cases c : home L l ∈ ls
        · have e : (!decide (home L l ∈ ls)) = false := by simp [c]
          rw [e]
          refine iteF (fin H2 ?_ (fun la' dx' e => ?_) fun _ _ e _ => e)
          · have eh : heard L ls l = ls := if_pos c
            rw [eh]; exact D1
          · have e2 := e.symm.trans (S _ _ h1)
            rw [df_inj e2]
            exact .inl ⟨dx, h1⟩
        · have e : (!decide (home L l ∈ ls)) = true := by simp [c]
          rw [e]
          refine iteT ⟨_, rfl, d, Z.C, dx, _, _, rfl, S _ _ h1, T.cl, T.n_looks, df_looks _ _, _, rfl, (by show 1 ≤ sizeLine; decide), fun p hp => ?_⟩
          have S2 := same_upd (o := HO.lst [r]) hp
          have h2' := S2 _ _ (S _ _ h2)
          refine ⟨la, p, xs, [r], rfl, rfl, h2', upd_same, ?_, fun p2 hp2 => ?_⟩
          · have : xs.length = ls.length := by rw [dpAll_len h3, List.length_map]
            exact Nat.le_of_lt (small1000 (by simp; omega))
          have S3 := S2.trans (same_upd (o := HO.lst (xs ++ [r])) hp2)
          have hall : DpAll K (upd (upd H2 p (.lst [r])) p2 (.lst (xs ++ [r]))) (xs ++ [r]) ((ls ++ [home L l]).map encL) := by
            rw [List.map_append]
            exact dpAll_snoc (dpAll_mono S3 _ _ hds) (dp_mono S3 _ _ hr)
          refine ⟨p2, xs ++ [r], ls ++ [home L l], rfl, SqL.of upd_same, hall, alike_looks _, PySem.W.Sortable.tuples fun _ => ⟨_, _, rfl⟩, fun b _ => by rw [depth_look]; decide, fun p3 ys H3 hp3 S4 hy hys => ?_⟩
          have S5 := S3.trans S4
          have h1' := S5 _ _ (S _ _ h1)
          have hd3 : d ≠ p3 := fun e => by
            subst e
            rw [(S3 _ _ (S _ _ h1))] at hp3
            cases hp3
          refine ⟨_, rfl, d, Z.C, dx, df L la, rfl, h1', T.cl, T.n_looks, (by show 2 < 1000; decide), ?_⟩
          refine fin _ ⟨⟨dx, p3, ys, Eq.trans upd_same (congrArg (fun q => some (HO.ins Z.C dx q)) (df_put3 L la p3)), (upd_ne (Ne.symm hd3)).trans hy, ?_⟩, D.pos, D.big, okH, lenH⟩ (fun la' dx' e => ?_) fun b o e hb => (upd_ne hb).trans (S5 _ _ e)
          rotate_left
          · rw [upd_same, df_put3] at e
            rw [← df_inj e]
            exact .inr (S.free (S3.free hp3))
          have eh : heard L ls l = (ls ++ [home L l]).mergeSort (PySem.W.dataLe false encL) := if_neg c
          rw [eh]
          exact dpAll_tups (Tups.upd_ins h1') _ _ (noLs_map noL_encL _) hys
    · refine ⟨fun _ _ => False, ?_, fun _ _ z => z.elim⟩
      obtain ⟨pr, rfl, _⟩ := dp_look hr2
      refine ⟨_, rfl, rfl, _, rfl, iteT ?_⟩
      refine ⟨_, rfl, _, rfl, (by show 2 ≤ sizeLine; decide), fun q hq => ⟨_, rfl, fun dd hdd => ?_⟩⟩
      have S2 := same_upd (o := HO.tup [r, .ref pr]) hq
      have S3 := same_upd (o := HO.xd [(("what" : Str), V.ref q)]) hdd
      exact kx o ho dd (.ref q) _ (S.trans (S2.trans S3)) upd_same (.tup (SqT.of (S3 _ _ upd_same)) (.cons (dp_mono (S2.trans S3) _ _ hr) (.cons (dp_mono (S2.trans S3) _ _ hr2) .nil))) ((S.trans S2).free hdd)
end
end KA
namespace KA
open PySem PySem.Spec PyProof.Rows L2 DP
/-- o.m(e, ..) of a method that may raise: what it lets out is asked at the slots of the call -/
def tMethX (C : Addr) (m : Str) (sp : Sp) (E : L2.St → XK) (ta : TE) (t : TA) : TE := fun σ H Q => ta σ H fun x H1 => ∃ a dx fs, x = .ref a ∧ H1 a = some (.ins C dx fs) ∧ fs.lookup m = none ∧ t σ H1 fun vs H2 => sp (.ref a :: vs) H2 Q (E σ)
section
variable {X : Cx} {CX : CXT} {k : Nat} {f C : Addr} {fd : FuncData} {ps : List Str} {sp : Sp} {E : L2.St → XK} {m : Str} {pos apos : Pos} {e o : Expr} {es : List Expr} {ta : TE} {t : TA}
theorem pe_methX {pl : Sem Bool} (he : PE X o ta) (c : Cls X.K C) (hm : Meth X.K C m f) (F : FnOk X.prog X.w X.K X.mg X.base CX k f fd ps sp) (hr : Room k X.A) (hb : Binds X.K fd ps []) (hx : ∀ σ, PassesAt CX X σ (E σ)) (ha : PA X (e :: es) t)
    (hst : starEach (e :: es) X.env = (false, eval e X.env) :: starEach es X.env := by rfl) (hpl : (backTo pos (starEach es X.env)).any (·.1) = false := by rfl)
    (ht : eval (.Call (.Attribute o m apos) (e :: es) [] pos) X.env = (do let ov ← eval o X.env; standAt apos.atName; let (f, first) ← holding [ov] (getMethod ov m pl); callWith pos f first (backTo pos (starEach (e :: es) X.env)) (backToKw pos (keywordEach [] X.env))) := by rfl) :
    PE X (.Call (.Attribute o m apos) (e :: es) [] pos) (tMethX C m sp E ta t) := ⟨fun pins s σ H Q I h => by
  refine PySem.W.methodCall_KW (pl := pl) (thn (he.run pins s σ H _ I h) fun u s1 hh => ?_) ht
  obtain ⟨x, H1, I1, rx, a, dx, fs, ex, ea, l, q⟩ := hh
  subst ex
  obtain rfl : u = Value.ref a := rx
  refine getmeth_ok I1 ea c hm l (PySem.W.callWith_K (first := [.ref a]) (h₀ := X.base) I.ok.mod.kin hm.kp (thn (ha.run pos pins s1 σ H1 _ I1 q) fun us s2 hh => ?_) hst hpl)
  obtain ⟨vs, H2, I2, r, q2⟩ := hh
  exact ⟨I2.kIn, run_fnS (us := .ref a :: us) (vs := .ref a :: vs) F hr hb (hx σ) I2 (.cons rfl r) q2⟩⟩
end
end KA
namespace KA
open PySem PySem.Spec PyProof.Rows L2 DP
def spTray (K : PySem.W.Frag) : Sp := fun vs H Q _ => ∃ (a : Addr) (ns : List Int), vs = [.ref a] ∧ SqL K H a (ns.map V.int) ∧ ns.length ≤ 63 ∧ ∀ (H' : Hp) (t g : Addr), Tray H' t g 0 → Same H H' → H t = none → H g = none → Q (.ref t) H'
def spGreat : Sp := fun vs H Q _ => ∃ (t g : Addr) (n : Nat), vs = [.ref t] ∧ Tray H t g n ∧ n < 2 ^ 50 ∧ ∀ (H' : Hp) (r : Int), 0 ≤ r → r < 10 ^ 59 → Tray H' t g (n + 4) → Keep t g H H' → Q (.int r) H'
def spLength : Sp := fun vs H Q _ => ∃ (t g : Addr) (n : Nat), vs = [.ref t] ∧ Tray H t g n ∧ n < 2 ^ 49 ∧ ∀ (H' : Hp) (r : Int), 0 < r → r ≤ 10 ^ 30 → Tray H' t g (n + 10) → Keep t g H H' → Q (.int r) H'
theorem Tray.up {H : Hp} {t g : Addr} {m n : Nat} (T : Tray H t g m) (h : m ≤ n) : Tray H t g n := by
  obtain ⟨⟨gs, l, f, c, h1, h2, hl, hge, hl0, hf0, hf1, hc0, hc1⟩, hne⟩ := T
  exact ⟨⟨gs, l, f, c, h1, h2, hl, hge, hl0, hf0, hf1, hc0, by omega⟩, hne⟩
theorem pow_ten : (10 : Int) ^ (14 : Int).toNat = 10 ^ 14 ∧ (10 : Int) ^ (15 : Int).toNat = 10 ^ 15 ∧ (10 : Int) ^ (29 : Int).toNat = 10 ^ 29 ∧ (10 : Int) ^ (31 : Int).toNat = 10 ^ 31 ∧ (10 : Int) ^ (57 : Int).toNat = 10 ^ 57 := ⟨rfl, rfl, rfl, rfl, rfl⟩
section
variable {P : Program} {w : World} {K : PySem.W.Frag} {mg : Str → Option Value} {base : Heap} {Z : Ad}
theorem ok_law_tray (T : Tx K w mg Z) : FnOk P w K mg base CX0 1 Z.a_law_tray Z.d_law_tray P_law_tray (spTray K) := by
  refine T.F_law_tray.ok sclaw_tray (fun vs H Q E h => ?_) (fun cdv A outer s H vs Q E hr h => ?_)
  · obtain ⟨a, ns, rfl, _⟩ := h
    rfl
  · obtain ⟨a, ns, rfl, hS, hlen, k⟩ := h
    refine ⟨_, (pss_cons (ps_set (i := 1) sclaw_tray.nd rfl (Or.inl rfl) pe_int)
      (pss_cons (ps_set (i := 2) sclaw_tray.nd rfl (Or.inl rfl) (pe_lst pa_nil))
      (pss_cons (ps_for PassesOwn.never rfl (pi_list (pv 0)) (pg_name (i := 3) sclaw_tray.nd rfl (Or.inl rfl)) (pss_cons (ps_set (i := 1) sclaw_tray.nd rfl (Or.inl rfl) (pe_op op_mod (pe_op op_add (pe_op op_mulW (pv 1) pe_int) (pv 3)) (pe_op op_sub (pe_op op_pow pe_int pe_int) pe_int)))
      (pss_cons (ps_set (i := 4) sclaw_tray.nd rfl (Or.inl rfl) (pe_callB (call_max2 rfl) (by rfl) T.b_max (by decide +kernel) (pa_cons (pv 3) (pa_cons (pe_op op_sub pe_int (pv 3)) pa_nil))))
      (pss_one (ps_if (pt_cmpR op_ge (pv 4) (pe_op op_pow pe_int pe_int) (nomark _)) (pss_one (ps_expr (pe_bm PySem.F.plainAttrs_list PySem.F.slot_list_append PySem.F.type_list_append mt_append (pv 2) (pa_cons (pe_op op_sub (pv 4) (pe_op op_pow pe_int pe_int)) pa_nil)))) pss_nil)))))
      (pss_one (ps_ret (pe_lst (pa_cons (pv 2) (pa_cons pe_int (pa_cons (pv 1) (pa_cons pe_int pa_nil)))))))))), ?_⟩
    refine ⟨(by show 0 ≤ sizeLine; decide), fun G hG => ?_⟩
    refine ⟨_, rfl, a, rfl, ⟨_, Same.sqL (same_upd hG) hS⟩, ?_⟩
    refine for_list (K := K) (a := a) (xs := ns.map V.int) (fun i σ' H' => ∃ (gs : List Int) (f : Int) (u v : Option V), σ' = [some (.ref a), some (.int f), some (.ref G), u, v] ∧ Same H H' ∧ H' G = some (.lst (gs.map V.int)) ∧ gs.length ≤ i ∧ (∀ x ∈ gs, 0 ≤ x) ∧ 0 ≤ f ∧ f < 2 ^ 61)
      ⟨[], 314159265358979, none, none, rfl, same_upd hG, upd_same, Nat.le_refl _, (fun _ z => absurd z (by simp)), by decide, by decide⟩ (fun i σ' H' _ ⟨_, _, _, _, _, S, _⟩ => Same.sqL S hS) ?_ ?_
    · rintro i y σ' H' hi ⟨gs, f, u, v, rfl, S, hg, hgl, hge, hf0, hf1⟩
      obtain ⟨z, hz, rfl⟩ := map_at hi
      have hi63 : i < 63 := by
        have := (List.getElem?_eq_some_iff.mp hz).1
        omega
      have bf : f.natAbs < 2 ^ 61 := by omega
      refine ⟨_, rfl, _, _, rfl, rfl, wide_mul (b := 30) bf (by decide) (by decide) (by decide) (by decide), _, rfl, _, _, rfl, rfl, ?_⟩
      refine ⟨_, _, rfl, rfl, ⟨by decide, by decide, by decide⟩, _, _, rfl, rfl, _, _, rfl, rfl, (by show (0 : Int) < _; decide), ?_⟩
      have hx0 := Int.emod_nonneg (f * 1000003 + z) (show (2 : Int) ^ (61 : Int).toNat - 1 ≠ 0 by decide)
      have hx1 := Int.emod_lt_of_pos (f * 1000003 + z) (show (0 : Int) < (2 : Int) ^ (61 : Int).toNat - 1 by decide)
      have e61 : (2 : Int) ^ (61 : Int).toNat - 1 = 2305843009213693951 := by decide
      refine ⟨_, rfl, _, rfl, _, _, rfl, rfl, _, _, rfl, _, rfl, _, _, rfl, rfl, ⟨by decide, by decide, by decide⟩, _, _, rfl, rfl, _, rfl, ?_⟩
      refine ite2 (fun c => ?_) (fun _ => ?_)
      · refine ⟨_, rfl, .inl ⟨rfl, _, SqL.of hg⟩, _, rfl, _, _, rfl, rfl, ⟨by decide, by decide, by decide⟩, _, _, rfl, rfl, G, _, _, rfl, rfl, hg, ?_, ?_⟩
        · exact small1000 (by simp; omega)
        · have c' := of_decide_eq_true c
          refine ⟨gs ++ [(if 0 - z > z then 0 - z else z) - 10 ^ (18 : Int).toNat], _, _, _, rfl, same_set S hG, ?_, ?_, ?_, hx0, by rw [e61] at hx1; rw [e61]; omega⟩
          · rw [List.map_append]; exact upd_same
          · simp; omega
          · intro x hx
            rcases List.mem_append.mp hx with h | h
            · exact hge x h
            · rw [List.mem_singleton] at h
              subst h
              omega
      · exact ⟨gs, _, _, _, rfl, S, hg, by omega, hge, hx0, by rw [e61] at hx1; rw [e61]; omega⟩
    · rintro σ' H' ⟨gs, f, u, v, rfl, S, hg, hgl, hge, hf0, hf1⟩
      refine ⟨_, rfl, _, rfl, (by show 4 ≤ sizeLine; decide), fun t ht => ?_⟩
      have hgt : G ≠ t := ne_of_none hg ht
      refine k _ t G ⟨⟨gs, 0, f, 0, upd_same, (upd_ne hgt).trans hg, ?_, hge, Int.le_refl _, hf0, hf1, Int.le_refl _, Int.le_refl _⟩, Ne.symm hgt⟩ (same_set S (S.free ht)) (S.free ht) hG
      rw [List.length_map] at hgl
      omega
theorem ok_law_great (T : Tx K w mg Z) : FnOk P w K mg base CX0 2 Z.a_law_great Z.d_law_great P_law_great (spGreat) := by
  refine T.F_law_great.ok sclaw_great (fun vs H Q E h => ?_) (fun cdv A outer s H vs Q E hr h => ?_)
  · obtain ⟨t, g, n, rfl, _⟩ := h
    rfl
  · obtain ⟨t, g, n, rfl, hT, hn, k⟩ := h
    refine ⟨_, (pss_cons (ps_set (i := 1) sclaw_great.nd rfl (Or.inl rfl) (pe_call (ok_law_draw T) (hr.mono (by decide)) (by rfl) T.g_law_draw T.F_law_draw.kp T.bb_law_draw .nil pass0 (pa_cons (pv 0) (pa_cons (pe_op op_pow pe_int pe_int) pa_nil))))
      (pss_cons (ps_for PassesOwn.never rfl (pi_range1 (by rfl) T.b_range (pa_cons pe_int pa_nil)) (pg_name (i := 2) sclaw_great.nd rfl (Or.inl rfl)) (pss_one (ps_set (i := 1) sclaw_great.nd rfl (Or.inl rfl) (pe_op op_add (pe_op op_mulW (pv 1) (pe_op op_pow pe_int pe_int)) (pe_call (ok_law_draw T) (hr.mono (by decide)) (by rfl) T.g_law_draw T.F_law_draw.kp T.bb_law_draw .nil pass0 (pa_cons (pv 0) (pa_cons (pe_op op_pow pe_int pe_int) pa_nil)))))))
      (pss_one (ps_ret (pv 1))))), ?_⟩
    refine ⟨_, rfl, _, _, rfl, rfl, ⟨by decide, by decide, by decide⟩, t, g, n, _, rfl, hT, by decide, by decide, Nat.lt_trans hn (by decide), fun H1 r h0 h1 T1 k1 => ?_⟩
    refine ⟨3, rfl, by decide, by decide, ?_⟩
    refine for_range (n := 3) (fun i σ' H' => ∃ (r : Int) (u : Option V), σ' = [some (.ref t), some (.int r), u] ∧ 0 ≤ r ∧ r < 10 ^ 14 * (10 ^ 15) ^ i ∧ Tray H' t g (n + 1 + i) ∧ Keep t g H H') ⟨r, none, rfl, h0, by simpa using h1, T1, k1⟩ ?_ ?_
    · rintro i σ' H' hi ⟨r, u, rfl, r0, r1, T2, k2⟩
      have hb : (10 : Int) ^ 14 * (10 ^ 15) ^ i ≤ 10 ^ 14 * (10 ^ 15) ^ 2 := by
        have : i = 0 ∨ i = 1 ∨ i = 2 := by omega
        rcases this with e | e | e <;> subst e <;> decide
      have rb : r.natAbs < 2 ^ 200 := by
        have : r < 10 ^ 14 * (10 ^ 15) ^ 2 := Int.lt_of_lt_of_le r1 hb
        have e : (10 : Int) ^ 14 * (10 ^ 15) ^ 2 = 100000000000000000000000000000000000000000000 := by decide
        rw [e] at this
        have e2 : (2 : Nat) ^ 200 = 1606938044258990275541962092341162602522202993782792835301376 := by decide
        rw [e2]; omega
      refine ⟨_, rfl, _, _, rfl, rfl, ⟨by decide, by decide, by decide⟩, _, _, rfl, rfl, wide_mul (b := 60) rb (by decide) (by decide) (by decide) (by decide), ?_⟩
      refine ⟨_, rfl, _, _, rfl, rfl, ⟨by decide, by decide, by decide⟩, t, g, n + 1 + i, _, rfl, T2, by decide, by decide, (by omega), fun H3 q q0 q1 T3 k3 => ?_⟩
      refine ⟨_, _, rfl, rfl, ?_⟩
      have e15 : (10 : Int) ^ (15 : Int).toNat = 1000000000000000 := by decide
      rw [e15] at q1
      refine ⟨_, _, rfl, ?_, ?_, T3, k2.trans k3⟩
      · rw [e15]; omega
      · rw [e15, Int.pow_succ (10 ^ 15) i, ← Int.mul_assoc]
        generalize (10 : Int) ^ 14 * (10 ^ 15) ^ i = B at r1 ⊢
        have e : (10 : Int) ^ 15 = 1000000000000000 := by decide
        rw [e]; omega
    · rintro σ' H' ⟨r, u, rfl, r0, r1, T2, k2⟩
      refine ⟨_, rfl, k _ _ r0 ?_ (T2.up (by omega)) k2⟩
      exact Int.lt_of_lt_of_le r1 (by decide)
theorem ok_law_length (T : Tx K w mg Z) : FnOk P w K mg base CX0 3 Z.a_law_length Z.d_law_length P_law_length (spLength) := by
  refine T.F_law_length.ok sclaw_length (fun vs H Q E h => ?_) (fun cdv A outer s H vs Q E hr h => ?_)
  · obtain ⟨t, g, n, rfl, _⟩ := h
    rfl
  · obtain ⟨t, g, n, rfl, hT, hn, k⟩ := h
    refine ⟨_, (pss_cons (ps_set (i := 1) sclaw_length.nd rfl (Or.inl rfl) (pe_call (ok_law_draw T) (hr.mono (by decide)) (by rfl) T.g_law_draw T.F_law_draw.kp T.bb_law_draw .nil pass0 (pa_cons (pv 0) (pa_cons pe_int pa_nil))))
      (C8.pss_cut (ps_if (pt_cmpR op_eq (pv 1) pe_int (nomark _)) (pss_one (ps_ret (pe_callB (call_max2 rfl) (by rfl) T.b_max (by decide +kernel) (pa_cons pe_int (pa_cons (pe_op op_fdivW (pe_call (ok_law_great T) (hr.mono (by decide)) (by rfl) T.g_law_great T.F_law_great.kp T.bb_law_great .nil pass0 (pa_cons (pv 0) pa_nil)) (pe_op op_pow pe_int pe_int)) pa_nil))))) pss_nil)
      (pss_one (ps_ret (pe_op op_add pe_int (pe_call (ok_law_draw T) (hr.mono (by decide)) (by rfl) T.g_law_draw T.F_law_draw.kp T.bb_law_draw .nil pass0 (pa_cons (pv 0) (pa_cons (pe_ix (ixL (K := K)) (pe_lst (pa_cons pe_int (pa_cons pe_int (pa_cons pe_int (pa_cons pe_int (pa_cons pe_int pa_nil)))))) (pv 1) (fun _ _ => rfl)) pa_nil)))))))), ?_⟩
    have hn2 : n < 2 ^ 60 := Nat.lt_trans hn (by decide)
    have hn3 : n + 1 < 2 ^ 50 := Nat.lt_of_lt_of_le (Nat.add_lt_add_right hn 1) (by decide)
    refine ⟨_, rfl, t, g, n, _, rfl, hT, by decide, by decide, hn2, fun H1 lot l0 l1 T1 k1 => ?_⟩
    refine ⟨fun σ' H' => σ' = [some (.ref t), some (.int lot)] ∧ H' = H1 ∧ lot ≠ 5, ?_, ?_⟩
    · refine ⟨_, rfl, rfl, _, rfl, ?_⟩
      refine ite2 (fun c => ?_) (fun c => ⟨rfl, rfl, fun e => c (by rw [e]; decide)⟩)
      refine ⟨_, rfl, t, g, n + 1, rfl, T1, hn3, fun H2 r r0 r1 T2 k2 => ?_⟩
      refine ⟨_, _, rfl, rfl, ⟨by decide, by decide, by decide⟩, _, _, rfl, rfl, wide_div (b := 100) (by decide) (by decide) (by decide) (by decide), _, _, rfl, ?_⟩
      have e29 : (10 : Int) ^ (29 : Int).toNat = 100000000000000000000000000000 := by decide
      have e59 : (10 : Int) ^ 59 = 100000000000000000000000000000000000000000000000000000000000 := by decide
      have e30 : (10 : Int) ^ 30 = 1000000000000000000000000000000 := by decide
      rw [e59] at r1
      refine k _ _ ?_ ?_ (T2.up (by omega)) (k1.trans k2)
      · split <;> omega
      · rw [e29, e30]; split <;> omega
    · rintro σ' H' ⟨rfl, rfl, h5⟩
      have hc : ∃ m : Int, atI [V.int 3, .int 5, .int 12, .int 12, .int 400] lot = some (.int m) ∧ 0 < m ∧ m ≤ 400 := by
        have : lot = 0 ∨ lot = 1 ∨ lot = 2 ∨ lot = 3 ∨ lot = 4 := by omega
        rcases this with e | e | e | e | e <;> subst e
        · exact ⟨3, rfl, by decide, by decide⟩
        · exact ⟨5, rfl, by decide, by decide⟩
        · exact ⟨12, rfl, by decide, by decide⟩
        · exact ⟨12, rfl, by decide, by decide⟩
        · exact ⟨400, rfl, by decide, by decide⟩
      obtain ⟨m, hm, m0, m1⟩ := hc
      have hmb : m.natAbs < 2 ^ 1000 := Nat.lt_of_le_of_lt (by omega : m.natAbs ≤ 400) (by decide)
      refine ⟨_, rfl, (by show 5 ≤ sizeLine; decide), fun p hp => ?_⟩
      refine ⟨_, rfl, p, _, _, _, rfl, rfl, SqL.of upd_same, hm, ?_⟩
      have T2 : Tray (upd H' p (.lst [V.int 3, .int 5, .int 12, .int 12, .int 400])) t g (n + 1) := T1.same (same_upd hp)
      refine ⟨t, g, n + 1, m, rfl, T2, m0, hmb, Nat.lt_trans hn3 (by decide), fun H3 r r0 r1 T3 k3 => ?_⟩
      refine ⟨_, _, rfl, rfl, k _ _ (by omega) ?_ (T3.up (by omega)) (k1.trans ((Keep.of_same (same_upd hp)).trans k3))⟩
      have e30 : (10 : Int) ^ 30 = 1000000000000000000000000000000 := by decide
      rw [e30]; omega
end
end KA
namespace KA
open PySem PySem.Spec PyProof.Rows L2 DP
abbrev Pr := Int × Int
def encP (p : Pr) : PyData := .tuple [.int p.1, .int p.2]
theorem noL_encP (p : Pr) : noL (encP p) = true := rfl
/-- where each step leads x -/
def leads (L : Int) (steps : List Pr) (x : Int) : List Int := steps.map fun s => s.2 + (x - s.1) / L * L
def IsMaxL (l : List Int) (m : Int) : Prop := m ∈ l ∧ ∀ y ∈ l, y ≤ m
def StepsOk (L : Int) (steps : List Pr) : Prop := steps ≠ [] ∧ steps.length ≤ 20 ∧ ∀ s ∈ steps, 0 ≤ s.1 ∧ s.1 < L ∧ s.2.natAbs < 2 ^ 250
/-- a list of data at p, tracked -/
def LAt (K : PySem.W.Frag) (H : Hp) (p : Addr) (ds : List PyData) : Prop := ∃ vs, H p = some (.lst vs) ∧ DpAll K H vs ds
theorem LAt.dp {K : PySem.W.Frag} {H : Hp} {p : Addr} {ds : List PyData} (h : LAt K H p ds) : Dp K H (.ref p) (.list ds) := by
  obtain ⟨vs, h1, h2⟩ := h
  exact .lst (SqL.of h1) h2
theorem LAt.same {K : PySem.W.Frag} {H H' : Hp} {p : Addr} {ds : List PyData} (h : LAt K H p ds) (S : Same H H') : LAt K H' p ds := by
  obtain ⟨vs, h1, h2⟩ := h
  exact ⟨vs, S _ _ h1, dpAll_mono S _ _ h2⟩
theorem Keep.tups {H H' : Hp} {t g : Addr} {n : Nat} (T : Tray H t g n) (k : Keep t g H H') : Tups H H' := fun b xs hb => by
  obtain ⟨⟨gs, l, f, c, h1, h2, r⟩, hne⟩ := T
  rcases hb with e | ⟨q, e⟩
  · refine .inl (k b _ e ?_ ?_) <;> rintro rfl
    · rw [h1] at e; cases e
    · rw [h2] at e; cases e
  · refine .inr ⟨q, k b _ e ?_ ?_⟩ <;> rintro rfl
    · rw [h1] at e; cases e
    · rw [h2] at e; cases e
theorem LAt.keep {K : PySem.W.Frag} {H H' : Hp} {t g p : Addr} {n : Nat} {ds : List PyData} (h : LAt K H p ds) (T : Tray H t g n) (k : Keep t g H H') (h1 : p ≠ t) (h2 : p ≠ g) (hn : noL.noLs ds = true) : LAt K H' p ds := by
  obtain ⟨vs, a, b⟩ := h
  exact ⟨vs, k _ _ a h1 h2, dpAll_tups (Keep.tups T k) _ _ hn b⟩
theorem Tray.at_ne {H : Hp} {t g p : Addr} {n : Nat} (T : Tray H t g n) (hp : H p = none) : p ≠ t ∧ p ≠ g := by
  obtain ⟨⟨gs, l, f, c, h1, h2, r⟩, hne⟩ := T
  exact ⟨Ne.symm (ne_of_none h1 hp), Ne.symm (ne_of_none h2 hp)⟩
theorem Keep.free {H H' : Hp} {t g p : Addr} {n : Nat} (T : Tray H t g n) (k : Keep t g H H') (hp : H' p = none) (T' : ∃ m, Tray H' t g m) : H p = none := by
  obtain ⟨m, T'⟩ := T'
  obtain ⟨h1, h2⟩ := T'.at_ne hp
  cases e : H p with
  | none => rfl
  | some o =>
    rw [k p o e h1 h2] at hp
    cases hp
def spLead (K : PySem.W.Frag) : Sp := fun vs H Q _ => ∃ (v : V) (L x : Int) (steps : List Pr), vs = [.int L, v, .int x] ∧ Dp K H v (.list (steps.map encP)) ∧ 0 < L ∧ L.natAbs < 2 ^ 200 ∧ x.natAbs < 2 ^ 300 ∧ StepsOk L steps ∧ ∀ m H', Same H H' → IsMaxL (leads L steps x) m → Q (.int m) H'
def spSecret (K : PySem.W.Frag) : Sp := fun vs H Q _ => ∃ (t g : Addr) (n : Nat) (L : Int), vs = [.ref t, .int L] ∧ Tray H t g n ∧ n < 2 ^ 45 ∧ 0 < L ∧ L ≤ 10 ^ 30 ∧
  ∀ (H' : Hp) (p : Addr) (steps : List Pr), H p = none → Tray H' t g (n + 30) → Keep t g H H' → LAt K H' p (steps.map encP) → StepsOk L steps → Q (.ref p) H'
theorem dp_pair {K : PySem.W.Frag} {H : Hp} {v : V} {p : Pr} (h : Dp K H v (encP p)) : ∃ a, v = .ref a ∧ SqT K H a [.int p.1, .int p.2] := by
  have h' : Dp K H v (.tuple [.int p.1, .int p.2]) := h
  cases h' with
  | tup s a =>
    cases a with
    | cons a1 a =>
      cases a with
      | cons a2 a =>
        cases a; cases a1; cases a2
        exact ⟨_, rfl, s⟩
section
variable {P : Program} {w : World} {K : PySem.W.Frag} {mg : Str → Option Value} {base : Heap} {Z : Ad}
theorem ok_law_lead (T : Tx K w mg Z) : FnOk P w K mg base CX0 1 Z.a_law_lead Z.d_law_lead P_law_lead (spLead K) := by
  refine T.F_law_lead.ok sclaw_lead (fun vs H Q E h => ?_) (fun cdv A outer s H vs Q E hr h => ?_)
  · obtain ⟨v, L, x, steps, rfl, _⟩ := h
    rfl
  · obtain ⟨v, L, x, steps, rfl, hv, hL, hLb, hx, ⟨hne, hlen, hst⟩, k⟩ := h
    obtain ⟨a, xs, rfl, ha, hd⟩ := dp_list hv
    have hxl : xs.length = steps.length := by rw [dpAll_len hd, List.length_map]
    refine ⟨_, (pss_one (ps_ret (pe_callB (maxK (K := K) rfl) (by rfl) T.b_max (by decide +kernel) (pa_cons (pe_lc (own := [("here", 3), ("there", 4)]) (g := gTup K 2 (gCons (gName 3) (gCons (gName 4) gNil))) (tt := tYes) rfl sclaw_lead.nd (pi_list (pv 1)) (blkOk_by (own := [("here", 3), ("there", 4)]) (N := N_law_lead) (sc := defScope slaw_lead) (by decide +kernel)) (fun _ _ _ _ _ => (tupK (K := K) (by rfl) (pgs_cons (pg_name (i := 3) sclaw_lead.nd rfl (Or.inl rfl)) (pgs_cons (pg_name (i := 4) sclaw_lead.nd rfl (Or.inl rfl)) pgs_nil)))) (fun _ _ _ _ _ => pts_nil) (fun _ _ _ _ _ => (pe_op op_add (pv 4) (pe_op op_mulW (pe_op op_fdivW (pe_op op_sub (pv 2) (pv 3)) (pv 0)) (pv 0))))) pa_nil)))), ?_⟩
    refine ⟨_, rfl, a, rfl, ⟨_, ha⟩, fun D hD => ?_⟩
    refine lc_list (K := K) (a := a) (xs := xs) (fun i H' => Same H H' ∧ H' D = some (.lst ((leads L (steps.take i) x).map V.int))) ⟨same_upd hD, upd_same⟩ (fun i H' _ ⟨S, _⟩ => Same.sqL S ha) ?_ ?_
    · rintro i y H' hi ⟨S, hD'⟩
      obtain ⟨d, hdi, hdy⟩ := dpAll_get hd hi
      obtain ⟨l, hl, rfl⟩ := map_at hdi
      obtain ⟨s0, s1, s2⟩ := hst l (List.mem_of_getElem? hl)
      obtain ⟨p, rfl, hp⟩ := dp_pair (dp_mono S _ _ hdy)
      have b1 : l.1.natAbs < 2 ^ 300 := Nat.lt_of_le_of_lt (by clear hLb; omega : l.1.natAbs ≤ L.natAbs) (Nat.lt_trans hLb (by decide))
      refine ⟨_, _, rfl, hp, rfl, _, _, rfl, _, _, rfl, rfl, rfl, yes_ite ?_⟩
      refine ⟨_, rfl, _, rfl, _, rfl, _, _, rfl, rfl, _, rfl, _, _, rfl, rfl, wide_div hL hLb (by decide) (by decide), _, rfl, _, _, rfl, rfl, wide_mul (div_lt hL (sub_lt hx b1)) hLb (by decide) (by decide) (by decide), _, _, rfl, rfl, ?_⟩
      refine ⟨_, hD', ?_, same_set S hD, ?_⟩
      · have : i < steps.length := (List.getElem?_eq_some_iff.mp hl).1
        exact small1000 (by simp [leads]; omega)
      · have e : leads L (steps.take (i + 1)) x = leads L (steps.take i) x ++ [l.2 + (x - l.1) / L * L] := by
          unfold leads; rw [take_snoc hl, List.map_append]; rfl
        rw [e, List.map_append]
        exact upd_same
    · rintro H' ⟨S, hD'⟩
      rw [List.take_of_length_le (by rw [hxl]; exact Nat.le_refl _)] at hD'
      refine ⟨D, leads L steps x, rfl, SqL.of hD', ?_, fun m h1 h2 => k m H' S ⟨h1, h2⟩⟩
      have : 0 < steps.length := List.length_pos_iff.mpr hne
      simpa [leads] using this
end
end KA
namespace KA
open PySem PySem.Spec PyProof.Rows L2 DP
theorem small_nat {L : Int} {a : Int} {n : Nat} (h0 : 0 ≤ a) (h1 : a ≤ L) (hL : L.natAbs < 2 ^ n) : a.natAbs < 2 ^ n := Nat.lt_of_le_of_lt (by omega : a.natAbs ≤ L.natAbs) hL
theorem bigL {L : Int} (h0 : 0 < L) (h : L ≤ 10 ^ 30) : L.natAbs < 2 ^ 100 := by
  have e : (10 : Int) ^ 30 = 1000000000000000000000000000000 := by decide
  have e2 : (2 : Nat) ^ 100 = 1267650600228229401496703205376 := by decide
  rw [e] at h; rw [e2]; omega
/-- what the tray's calls keep of the frame: the tray, all else, so far m draws -/
structure At (H Hc : Hp) (t g : Addr) (m : Nat) : Prop where
  T : Tray Hc t g m
  k : Keep t g H Hc
theorem At.step {H H1 H2 : Hp} {t g : Addr} {m m' : Nat} (a : At H H1 t g m) (T : Tray H2 t g m') (k : Keep t g H1 H2) : At H H2 t g m' := ⟨T, a.k.trans k⟩
theorem At.up {H Hc : Hp} {t g : Addr} {m m' : Nat} (a : At H Hc t g m) (h : m ≤ m') : At H Hc t g m' := ⟨a.T.up h, a.k⟩
theorem At.new {H H1 : Hp} {t g p : Addr} {m : Nat} {o : HO} (a : At H H1 t g m) (hp : H1 p = none) : At H (upd H1 p o) t g m := ⟨a.T.same (same_upd hp), a.k.trans (Keep.of_same (same_upd hp))⟩
theorem At.free {H H1 : Hp} {t g p : Addr} {m : Nat} (a : At H H1 t g m) (hp : H1 p = none) : H p = none := by
  obtain ⟨h1, h2⟩ := a.T.at_ne hp
  cases e : H p with
  | none => rfl
  | some o =>
    rw [a.k p o e h1 h2] at hp
    cases hp
/-- a list that a comprehension makes is changed: it is new -/
theorem At.acc {H H1 : Hp} {t g D : Addr} {m : Nat} {o : HO} (a : At H H1 t g m) (hD : H D = none) (h1 : D ≠ t) (h2 : D ≠ g) : At H (upd H1 D o) t g m := by
  obtain ⟨⟨⟨gs, l, f, c, e1, e2, r⟩, hne⟩, k⟩ := a
  exact ⟨⟨⟨gs, l, f, c, (upd_ne (Ne.symm h1)).trans e1, (upd_ne (Ne.symm h2)).trans e2, r⟩, hne⟩, fun b o e n1 n2 => (upd_ne (ne_of_none e hD)).trans (k b o e n1 n2)⟩
section
variable {P : Program} {w : World} {K : PySem.W.Frag} {mg : Str → Option Value} {base : Heap} {Z : Ad}
theorem ok_law_secret (T : Tx K w mg Z) : FnOk P w K mg base CX0 3 Z.a_law_secret Z.d_law_secret P_law_secret (spSecret K) := by
  refine T.F_law_secret.ok sclaw_secret (fun vs H Q E h => ?_) (fun cdv A outer s H vs Q E hr h => ?_)
  · obtain ⟨t, g, n, L, rfl, _⟩ := h
    rfl
  · obtain ⟨t, g, n, L, rfl, hT, hn, hL, hL30, k⟩ := h
    have hLb := bigL hL hL30
    have hb : ∀ m, m ≤ n + 30 → m < 2 ^ 49 := fun m hm => Nat.lt_of_le_of_lt hm (Nat.lt_of_lt_of_le (Nat.add_lt_add_right hn 30) (by decide))
    have hb' : ∀ m, m ≤ n + 30 → m < 2 ^ 60 := fun m hm => Nat.lt_trans (hb m hm) (by decide)
    refine ⟨_, (pss_cons (ps_set (i := 2) sclaw_secret.nd rfl (Or.inr rfl) (pe_callB (sortedSetK (w := w) rfl) (by rfl) T.b_sorted (by decide +kernel) (pa_cons (pe_callTy (setIK (K := K) (w := w) rfl) (by rfl) T.b_set (by decide +kernel) (pa_cons (pe_lc (own := [("k", 3)]) (g := gName 3) (tt := tYes) rfl sclaw_secret.nd (pi_range1 (by rfl) T.b_range (pa_cons (pe_op op_add pe_int (pe_call (ok_law_draw T) (hr.mono (by decide)) (by rfl) T.g_law_draw T.F_law_draw.kp T.bb_law_draw .nil pass0 (pa_cons (pv 0) (pa_cons pe_int pa_nil)))) pa_nil)) (blkOk_by (own := [("k", 3)]) (N := N_law_secret) (sc := defScope slaw_secret) (by decide +kernel)) (fun _ _ _ _ _ => (pg_name (i := 3) sclaw_secret.nd rfl (Or.inl rfl))) (fun _ _ _ _ _ => pts_nil) (fun _ _ _ _ _ => (pe_call (ok_law_draw T) (hr.mono (by decide)) (by rfl) T.g_law_draw T.F_law_draw.kp T.bb_law_draw .nil pass0 (pa_cons (pv 0) (pa_cons (pv 1) pa_nil))))) pa_nil)) pa_nil)))
      (pss_cons (ps_set (i := 4) sclaw_secret.nd rfl (Or.inr rfl) (pe_callB (sortK (K := K)) (by rfl) T.b_sorted (by decide +kernel) (pa_cons (pe_lc (own := [("spot", 5)]) (g := gName 5) (tt := tYes) rfl sclaw_secret.nd (pi_list (pv 2)) (blkOk_by (own := [("spot", 5)]) (N := N_law_secret) (sc := defScope slaw_secret) (by decide +kernel)) (fun _ _ _ _ _ => (pg_name (i := 5) sclaw_secret.nd rfl (Or.inl rfl))) (fun _ _ _ _ _ => pts_nil) (fun _ _ _ _ _ => (pe_call (ok_law_draw T) (hr.mono (by decide)) (by rfl) T.g_law_draw T.F_law_draw.kp T.bb_law_draw .nil pass0 (pa_cons (pv 0) (pa_cons (pe_op op_add (pv 1) pe_int) pa_nil))))) pa_nil)))
      (pss_cons (ps_set (i := 6) sclaw_secret.nd rfl (Or.inl rfl) (pe_call (ok_law_draw T) (hr.mono (by decide)) (by rfl) T.g_law_draw T.F_law_draw.kp T.bb_law_draw .nil pass0 (pa_cons (pv 0) (pa_cons pe_int pa_nil))))
      (pss_cons (ps_set (i := 7) sclaw_secret.nd rfl (Or.inr rfl) (pe_ix (ixL (K := K)) (pe_lst (pa_cons pe_int (pa_cons (pe_call (ok_law_draw T) (hr.mono (by decide)) (by rfl) T.g_law_draw T.F_law_draw.kp T.bb_law_draw .nil pass0 (pa_cons (pv 0) (pa_cons (pe_op op_add (pv 1) pe_int) pa_nil))) (pa_cons (pe_op op_sub (pe_call (ok_law_draw T) (hr.mono (by decide)) (by rfl) T.g_law_draw T.F_law_draw.kp T.bb_law_draw .nil pass0 (pa_cons (pv 0) (pa_cons (pe_op op_add (pe_op op_mulW pe_int (pv 1)) pe_int) pa_nil))) (pe_op op_mulW pe_int (pv 1))) pa_nil)))) (pe_op op_mod (pv 6) pe_int) (fun _ _ => rfl)))
      (C8.pss_cut (ps_if (pt_cmpR op_eq (pv 6) pe_int (nomark _)) (pss_one (ps_set (i := 7) sclaw_secret.nd rfl (Or.inr rfl) (pe_op op_sub (pe_op op_fdivW (pe_call (ok_law_great T) (hr.mono (by decide)) (by rfl) T.g_law_great T.F_law_great.kp T.bb_law_great .nil pass0 (pa_cons (pv 0) pa_nil)) pe_int) (pe_op op_pow pe_int pe_int)))) pss_nil)
      (pss_one (ps_ret (pe_lc (own := [("k", 3)]) (g := gName 3) (tt := tYes) rfl sclaw_secret.nd (pi_range1 (by rfl) T.b_range (pa_cons (pe_callB (lenK (K := K)) (by rfl) T.b_len (by decide +kernel) (pa_cons (pv 2) pa_nil)) pa_nil)) (blkOk_by (own := [("k", 3)]) (N := N_law_secret) (sc := defScope slaw_secret) (by decide +kernel)) (fun _ _ _ _ _ => (pg_name (i := 3) sclaw_secret.nd rfl (Or.inl rfl))) (fun _ _ _ _ _ => pts_nil) (fun _ _ _ _ _ => (pe_tup (pa_cons (pe_ix (ixL (K := K)) (pv 2) (pv 3) (fun _ _ => rfl)) (pa_cons (pe_op op_add (pv 7) (pe_ix (ixL (K := K)) (pv 4) (pv 3) (fun _ _ => rfl))) pa_nil)))))))))))), ?_⟩
    -- spots = sorted(set([_law_draw(tray, size) for k in range(1 + _law_draw(tray, 6))]))
    refine ⟨_, rfl, t, g, n, 6, rfl, hT, by decide, by decide, hb' _ (by omega), fun H1 d0 d1 d2 T1 k1 => ?_⟩
    have A1 : At H H1 t g (n + 1) := ⟨T1, k1⟩
    refine ⟨_, _, rfl, rfl, 1 + d0, rfl, by omega, by omega, fun D hD => ?_⟩
    obtain ⟨Dt, Dg⟩ := T1.at_ne hD
    have hDH := A1.free hD
    refine lc_range (lo := 0) (n := (1 + d0).toNat) (fun i H' => At H H' t g (n + 1 + i) ∧ ∃ ns : List Int, H' D = some (.lst (ns.map V.int)) ∧ ns.length = i ∧ ∀ x ∈ ns, 0 ≤ x ∧ x < L) ⟨A1.new hD, [], upd_same, rfl, fun _ z => absurd z (by simp)⟩ ?_ ?_
    · rintro i H' hi ⟨A, ns, hd, hl, hx⟩
      have hi6 : i < 6 := by omega
      refine ⟨rfl, yes_ite ?_⟩
      refine ⟨_, rfl, _, rfl, t, g, n + 1 + i, L, rfl, A.T, hL, lt_up hLb (by decide), hb' _ (by omega), fun H2 r r0 r1 T2 k2 => ?_⟩
      have hd2 := k2 _ _ hd Dt Dg
      refine ⟨_, hd2, small1000 (by simp; omega), (A.step T2 k2).acc hDH Dt Dg, ns ++ [r], ?_, by simp [hl], fun x hx' => ?_⟩
      · rw [List.map_append]; exact upd_same
      · rcases List.mem_append.mp hx' with h | h
        · exact hx x h
        · rw [List.mem_singleton] at h; subst h; exact ⟨r0, r1⟩
    rintro H2 ⟨A2, ns, hd, hnl, hx⟩
    refine ⟨D, ns, rfl, SqL.of hd, by omega, fun q c hc hq => ?_⟩
    refine ⟨q, _, c, rfl, upd_same, by omega, fun ss p hpw hmem hsl hp => ?_⟩
    have A3 := (A2.new (o := SetO w q (fun j => decide (j ∈ ns)) c) hq).new (o := HO.lst (ss.map V.int)) hp
    generalize eH3 : upd (upd H2 q (SetO w q (fun j => decide (j ∈ ns)) c)) p (.lst (ss.map V.int)) = H3 at A3 ⊢
    have hp3 : H3 p = some (.lst (ss.map V.int)) := by rw [← eH3]; exact upd_same
    have hpH : H p = none := (A2.new (o := SetO w q (fun j => decide (j ∈ ns)) c) hq).free hp
    obtain ⟨pt, pg⟩ := (A2.new (o := SetO w q (fun j => decide (j ∈ ns)) c) hq).T.at_ne hp
    have hss : ∀ x ∈ ss, 0 ≤ x ∧ x < L := fun x hx' => hx x (of_decide_eq_true ((hmem x).mp hx'))
    have hss6 : ss.length ≤ 6 := by rw [hsl]; omega
    have hssne : ss ≠ [] := by
      cases ns with
      | nil => simp at hnl; omega
      | cons y r =>
        intro e
        have : y ∈ ss := (hmem y).mpr (by simp)
        rw [e] at this; cases this
    have A3' : At H H3 t g (n + 7) := A3.up (by omega)
    -- rises = sorted([_law_draw(tray, size + 1) for spot in spots])
    refine ⟨_, rfl, p, rfl, ⟨_, SqL.of hp3⟩, fun D2 hD2 => ?_⟩
    obtain ⟨D2t, D2g⟩ := A3'.T.at_ne hD2
    have hD2H := A3'.free hD2
    have hD2p : p ≠ D2 := ne_of_none hp3 hD2
    refine lc_list (K := K) (a := p) (xs := ss.map V.int) (fun i H' => At H H' t g (n + 7 + i) ∧ H' p = some (.lst (ss.map V.int)) ∧ ∃ ns : List Int, H' D2 = some (.lst (ns.map V.int)) ∧ ns.length = i ∧ ∀ x ∈ ns, 0 ≤ x ∧ x ≤ L)
      ⟨A3'.new hD2, (upd_ne hD2p).trans hp3, [], upd_same, rfl, fun _ z => absurd z (by simp)⟩ (fun i H' _ ⟨_, h, _⟩ => SqL.of h) ?_ ?_
    · rintro i y H' hi ⟨A, hpk, ns2, hd, hl, hx2⟩
      have hi6 : i < 6 := by
        have := (List.getElem?_eq_some_iff.mp hi).1
        rw [List.length_map] at this; omega
      refine ⟨rfl, yes_ite ?_⟩
      refine ⟨_, rfl, _, rfl, _, _, rfl, rfl, t, g, n + 7 + i, L + 1, rfl, A.T, by omega, lt_up (add_lt hLb (show (1 : Int).natAbs < 2 ^ 100 by decide)) (by decide), hb' _ (by omega), fun H4 r r0 r1 T4 k4 => ?_⟩
      have hd2 := k4 _ _ hd D2t D2g
      refine ⟨_, hd2, small1000 (by simp; omega), (A.step T4 k4).acc hD2H D2t D2g, (upd_ne hD2p).trans (k4 _ _ hpk pt pg), ns2 ++ [r], ?_, by simp [hl], fun x hx' => ?_⟩
      · rw [List.map_append]; exact upd_same
      · rcases List.mem_append.mp hx' with h | h
        · exact hx2 x h
        · rw [List.mem_singleton] at h; subst h; exact ⟨r0, by omega⟩
    rintro H4 ⟨A4, hp4, ns2, hd2, hnl2, hx2⟩
    rw [List.length_map] at A4 hnl2
    refine ⟨D2, ns2, rfl, SqL.of hd2, by omega, fun rs p2 hperm hsrt hp2 => ?_⟩
    have hrl : rs.length = ss.length := by rw [hperm.length_eq, hnl2]
    have hrs : ∀ x ∈ rs, 0 ≤ x ∧ x ≤ L := fun x hx' => hx2 x (hperm.mem_iff.mp hx')
    obtain ⟨p2t, p2g⟩ := A4.T.at_ne hp2
    have hp2p : p ≠ p2 := ne_of_none hp4 hp2
    have A5 : At H (upd H4 p2 (.lst (rs.map V.int))) t g (n + 13) := (A4.new hp2).up (by omega)
    have hp5 : (upd H4 p2 (.lst (rs.map V.int))) p = some (.lst (ss.map V.int)) := (upd_ne hp2p).trans hp4
    have hq5 : (upd H4 p2 (.lst (rs.map V.int))) p2 = some (.lst (rs.map V.int)) := upd_same
    generalize upd H4 p2 (.lst (rs.map V.int)) = H5 at A5 hp5 hq5 ⊢
    -- lot = _law_draw(tray, 6)
    refine ⟨_, rfl, t, g, n + 13, 6, rfl, A5.T, by decide, by decide, hb' _ (by omega), fun H6 lot l0 l1 T6 k6 => ?_⟩
    have A6 := A5.step T6 k6
    have hp6 := k6 _ _ hp5 pt pg
    have hq6 := k6 _ _ hq5 p2t p2g
    -- base = [0, _law_draw(tray, size + 1), _law_draw(tray, 4 * size + 1) - 2 * size][lot % 3]
    refine ⟨_, rfl, _, rfl, _, _, rfl, rfl, t, g, n + 14, L + 1, rfl, A6.T, by omega, lt_up (add_lt hLb (show (1 : Int).natAbs < 2 ^ 100 by decide)) (by decide), hb' _ (by omega), fun H7 b1 c0 c1 T7 k7 => ?_⟩
    have A7 := A6.step T7 k7
    have b4 : (4 * L).natAbs < 2 ^ 103 := by rw [Int.natAbs_mul]; exact Nat.lt_of_lt_of_le (Nat.mul_lt_mul_of_le_of_lt (Nat.le_refl 4) hLb (by decide)) (by decide)
    refine ⟨_, rfl, _, rfl, _, _, rfl, rfl, wide_mul (a := 10) (by decide) hLb (by decide) (by decide) (by decide), _, _, rfl, rfl, t, g, n + 15, 4 * L + 1, rfl, A7.T, by omega, lt_up (add_lt b4 (show (1 : Int).natAbs < 2 ^ 103 by decide)) (by decide), hb' _ (by omega), fun H8 b2 f0 f1 T8 k8 => ?_⟩
    have A8 := A7.step T8 k8
    refine ⟨_, rfl, _, _, rfl, rfl, wide_mul (a := 10) (by decide) hLb (by decide) (by decide) (by decide), _, _, rfl, rfl, (by show 3 ≤ sizeLine; decide), fun p3 hp3 => ?_⟩
    have hp8 := k8 _ _ (k7 _ _ hp6 pt pg) pt pg
    have hq8 := k8 _ _ (k7 _ _ hq6 p2t p2g) p2t p2g
    have hbase : ∃ b : Int, atI [V.int 0, .int b1, .int (b2 - 2 * L)] (lot % 3) = some (.int b) ∧ b.natAbs < 2 ^ 200 := by
      have e1 : b1.natAbs < 2 ^ 200 := by
        have : b1.natAbs < 2 ^ 101 := small_nat c0 (by omega : b1 ≤ L) (lt_up hLb (by decide))
        exact lt_up this (by decide)
      have e2 : (b2 - 2 * L).natAbs < 2 ^ 200 := by
        have : (b2 - 2 * L).natAbs ≤ (4 * L).natAbs := by clear hLb b4; omega
        exact Nat.lt_of_le_of_lt this (lt_up b4 (by decide))
      have : lot % 3 = 0 ∨ lot % 3 = 1 ∨ lot % 3 = 2 := by omega
      rcases this with e | e | e <;> rw [e]
      · exact ⟨0, rfl, by decide⟩
      · exact ⟨b1, rfl, e1⟩
      · exact ⟨b2 - 2 * L, rfl, e2⟩
    obtain ⟨b, hbi, hbb⟩ := hbase
    refine ⟨_, rfl, _, _, rfl, rfl, (by show (0 : Int) < 3; decide), p3, _, _, _, rfl, rfl, SqL.of upd_same, hbi, ?_⟩
    have A9 : At H _ t g (n + 16) := A8.new (o := HO.lst [V.int 0, .int b1, .int (b2 - 2 * L)]) hp3
    have hp9 := (same_upd (o := HO.lst [V.int 0, .int b1, .int (b2 - 2 * L)]) hp3) _ _ hp8
    have hq9 := (same_upd (o := HO.lst [V.int 0, .int b1, .int (b2 - 2 * L)]) hp3) _ _ hq8
    generalize upd H8 p3 (.lst [V.int 0, .int b1, .int (b2 - 2 * L)]) = H9 at A9 hp9 hq9 ⊢
    -- if lot == 5: base = _law_great(tray) // 10 - 10 ** 57
    refine ⟨fun σ' H' => ∃ b : Int, σ' = [some (.ref t), some (.int L), some (.ref p), none, some (.ref p2), none, some (.int lot), some (.int b)] ∧ b.natAbs < 2 ^ 210 ∧ At H H' t g (n + 20) ∧ H' p = some (.lst (ss.map V.int)) ∧ H' p2 = some (.lst (rs.map V.int)), ?_, ?_⟩
    · refine ⟨_, rfl, rfl, _, rfl, ?_⟩
      refine ite2 (fun _ => ?_) (fun _ => ⟨b, rfl, lt_up hbb (by decide), A9.up (by omega), hp9, hq9⟩)
      refine ⟨_, rfl, t, g, n + 16, rfl, A9.T, Nat.lt_trans (hb _ (by omega)) (by decide), fun H10 r r0 r1 T10 k10 => ?_⟩
      refine ⟨_, _, rfl, rfl, wide_div (b := 10) (by decide) (by decide) (by decide) (by decide), _, _, rfl, rfl, ⟨by decide, by decide, by decide⟩, _, _, rfl, rfl, ?_⟩
      refine ⟨_, rfl, ?_, (A9.step T10 k10).up (by omega), k10 _ _ hp9 pt pg, k10 _ _ hq9 p2t p2g⟩
      have rb : r.natAbs < 2 ^ 200 := small_nat r0 (Int.le_of_lt r1) (by decide)
      exact lt_up (sub_lt (div_lt (by decide) rb) (show ((10 : Int) ^ (57 : Int).toNat).natAbs < 2 ^ 201 by decide)) (by decide)
    rintro σ' H10 ⟨b, rfl, hbb, A10, hp10, hq10⟩
    -- return [(spots[k], base + rises[k]) for k in range(len(spots))]
    refine ⟨_, rfl, p, _, rfl, .inl (SqL.of hp10), _, rfl, ?_, ?_, fun D3 hD3 => ?_⟩
    · exact Int.le_trans (by decide) (Int.natCast_nonneg _)
    · have : ((ss.map V.int).length : Int) ≤ 6 := by rw [List.length_map]; omega
      exact Int.lt_of_le_of_lt this (by decide)
    obtain ⟨D3t, D3g⟩ := A10.T.at_ne hD3
    have hD3H := A10.free hD3
    have hD3p : p ≠ D3 := ne_of_none hp10 hD3
    have hD3q : p2 ≠ D3 := ne_of_none hq10 hD3
    have hzl : (List.zipWith (fun s r => ((s, b + r) : Pr)) ss rs).length = ss.length := by rw [List.length_zipWith, hrl]; omega
    refine lc_range (lo := 0) (n := ((ss.map V.int).length : Int).toNat) (fun i H' => At H H' t g (n + 20) ∧ H' p = some (.lst (ss.map V.int)) ∧ H' p2 = some (.lst (rs.map V.int)) ∧ ∃ vs, H' D3 = some (.lst vs) ∧ vs.length = i ∧ DpAll K H' vs (((List.zipWith (fun s r => ((s, b + r) : Pr)) ss rs).take i).map encP))
      ⟨A10.new hD3, (upd_ne hD3p).trans hp10, (upd_ne hD3q).trans hq10, [], upd_same, rfl, .nil⟩ ?_ ?_
    · rintro i H' hi ⟨A, hpk, hqk, vs, hd, hvl, hds⟩
      have hi' : i < ss.length := by simpa using hi
      have hss' : ss[i]? = some ss[i] := List.getElem?_eq_getElem hi'
      have hrs' : rs[i]? = some (rs[i]'(by omega)) := List.getElem?_eq_getElem (by omega)
      refine ⟨rfl, yes_ite ?_⟩
      refine ⟨_, rfl, _, rfl, p, _, _, .int ss[i], rfl, rfl, SqL.of hpk, at_of (j := i) (by simp) (by rw [List.getElem?_map, hss']; rfl), _, rfl, _, rfl, _, rfl, p2, _, _, .int (rs[i]'(by omega)), rfl, rfl, SqL.of hqk, at_of (j := i) (by simp) (by rw [List.getElem?_map, hrs']; rfl), _, _, rfl, rfl, (by show 2 ≤ sizeLine; decide), fun p4 hp4 => ?_⟩
      have S4 := same_upd (o := HO.tup [V.int ss[i], .int (b + rs[i]'(by omega))]) hp4
      have hd4 := S4 _ _ hd
      refine ⟨vs, hd4, small1000 (by omega), (A.new hp4).acc hD3H D3t D3g, (upd_ne hD3p).trans (S4 _ _ hpk), (upd_ne hD3q).trans (S4 _ _ hqk), _, upd_same, by simp [hvl], ?_⟩
      have hz : (List.zipWith (fun s r => ((s, b + r) : Pr)) ss rs)[i]? = some (ss[i], b + rs[i]'(by omega)) := by
        simp [List.getElem?_zipWith, hss', hrs']
      rw [take_snoc hz, List.map_append]
      exact acc_step hd4 (noLs_map noL_encP _) rfl (dpAll_mono S4 _ _ hds) (.tup (SqT.of upd_same) (.cons (.int _) (.cons (.int _) .nil)))
    · rintro H' ⟨A, hpk, hqk, vs, hd, hvl, hds⟩
      have e : ((ss.map V.int).length : Int).toNat = ss.length := by simp
      rw [e, List.take_of_length_le (by rw [hzl]; exact Nat.le_refl _)] at hds
      refine k H' D3 _ hD3H (A.T.up (by omega)) A.k ⟨vs, hd, hds⟩ ⟨fun e => ?_, by rw [hzl]; omega, fun s hs => ?_⟩
      · have := congrArg List.length e
        rw [hzl] at this
        exact hssne (List.eq_nil_of_length_eq_zero this)
      · obtain ⟨i, hi, e⟩ := List.getElem_of_mem hs
        rw [List.getElem_zipWith] at e
        rw [hzl] at hi
        have h1 := hss _ (List.getElem_mem hi)
        have h2 := hrs (rs[i]'(by omega)) (List.getElem_mem _)
        rw [← e]
        refine ⟨h1.1, h1.2, ?_⟩
        exact lt_up (add_lt hbb (small_nat h2.1 h2.2 (lt_up hLb (by decide)))) (by decide)
end
end KA
namespace KA
open PySem PySem.Spec PyProof.Rows L2 DP
/-- a look that the hidden hand is as -/
structure TrueLk (L : Int) (steps : List Pr) (l : Lk) : Prop where
  word : WordOk l.1
  sz : Sized 270 l
  ex : ∃ x k m, l.2.1 = x + k * L ∧ IsMaxL (leads L steps x) m ∧ (l.1 = "at" → l.2.2 = m + k * L) ∧ (l.1 = "from" → l.2.2 ≤ m + k * L) ∧ (l.1 = "upto" → m + k * L ≤ l.2.2)
def spTrue (K : PySem.W.Frag) : Sp := fun vs H Q _ => ∃ (t g p : Addr) (n : Nat) (L : Int) (steps : List Pr), vs = [.ref t, .int L, .ref p] ∧ Tray H t g n ∧ n < 2 ^ 46 ∧ 0 < L ∧ L ≤ 10 ^ 30 ∧ LAt K H p (steps.map encP) ∧ StepsOk L steps ∧ p ≠ t ∧ p ≠ g ∧
  ∀ (H' : Hp) (r : V) (l : Lk), At H H' t g (n + 30) → Dp K H' r (encL l) → TrueLk L steps l → Q r H'
theorem lead_bound {L x m : Int} {steps : List Pr} (hL : 0 < L) (hLb : L.natAbs < 2 ^ 100) (hx0 : 0 ≤ x) (hx1 : x < L) (hs : StepsOk L steps) (hm : IsMaxL (leads L steps x) m) : m.natAbs < 2 ^ 260 := by
  obtain ⟨s, hs', e⟩ := List.mem_map.mp hm.1
  obtain ⟨s0, s1, s2⟩ := hs.2.2 s hs'
  have h1 : (x - s.1).natAbs < 2 ^ 101 := sub_lt (small_nat hx0 (Int.le_of_lt hx1) hLb) (small_nat s0 (Int.le_of_lt s1) hLb)
  have h2 : ((x - s.1) / L * L).natAbs < 2 ^ (102 + 100) := wide_lt (div_lt hL h1) hLb
  rw [← e]
  exact lt_up (add_lt s2 (lt_up h2 (by decide))) (by decide)
section
variable {P : Program} {w : World} {K : PySem.W.Frag} {mg : Str → Option Value} {base : Heap} {Z : Ad}
theorem ok_law_true_look (T : Tx K w mg Z) : FnOk P w K mg base CX0 3 Z.a_law_true_look Z.d_law_true_look P_law_true_look (spTrue K) := by
  refine T.F_law_true_look.ok sclaw_true_look (fun vs H Q E h => ?_) (fun cdv A outer s H vs Q E hr h => ?_)
  · obtain ⟨t, g, p, n, L, steps, rfl, _⟩ := h
    rfl
  · obtain ⟨t, g, p, n, L, steps, rfl, hT, hn, hL, hL30, hp, hst, hpt, hpg, k⟩ := h
    have hLb := bigL hL hL30
    have hb : ∀ m, m ≤ n + 30 → m < 2 ^ 49 := fun m hm => Nat.lt_of_le_of_lt hm (Nat.lt_of_lt_of_le (Nat.add_lt_add_right hn 30) (by decide))
    have hb' : ∀ m, m ≤ n + 30 → m < 2 ^ 60 := fun m hm => Nat.lt_trans (hb m hm) (by decide)
    have A0 : At H H t g n := ⟨hT, Keep.refl _ _ _⟩
    have hsl : 0 < steps.length := List.length_pos_iff.mpr hst.1
    have nl := noLs_map noL_encP steps
    refine ⟨_, (pss_cons (ps_set (i := 3) sclaw_true_look.nd rfl (Or.inl rfl) (pe_ix (ixL (K := K)) (pe_lst (pa_cons (pe_ix (ixT (K := K)) (pe_ix (ixL (K := K)) (pv 2) (pe_call (ok_law_draw T) (hr.mono (by decide)) (by rfl) T.g_law_draw T.F_law_draw.kp T.bb_law_draw .nil pass0 (pa_cons (pv 0) (pa_cons (pe_callB (lenK (K := K)) (by rfl) T.b_len (by decide +kernel) (pa_cons (pv 2) pa_nil)) pa_nil))) (fun _ _ => rfl)) pe_int (fun _ _ => rfl)) (pa_cons (pe_call (ok_law_draw T) (hr.mono (by decide)) (by rfl) T.g_law_draw T.F_law_draw.kp T.bb_law_draw .nil pass0 (pa_cons (pv 0) (pa_cons (pv 1) pa_nil))) pa_nil))) (pe_call (ok_law_draw T) (hr.mono (by decide)) (by rfl) T.g_law_draw T.F_law_draw.kp T.bb_law_draw .nil pass0 (pa_cons (pv 0) (pa_cons pe_int pa_nil))) (fun _ _ => rfl)))
      (pss_cons (ps_set (i := 4) sclaw_true_look.nd rfl (Or.inl rfl) (pe_ix (ixL (K := K)) (pe_lst (pa_cons pe_int (pa_cons (pe_call (ok_law_draw T) (hr.mono (by decide)) (by rfl) T.g_law_draw T.F_law_draw.kp T.bb_law_draw .nil pass0 (pa_cons (pv 0) (pa_cons pe_int pa_nil))) (pa_cons (pe_call (ok_law_draw T) (hr.mono (by decide)) (by rfl) T.g_law_draw T.F_law_draw.kp T.bb_law_draw .nil pass0 (pa_cons (pv 0) (pa_cons (pe_op op_add (pv 1) pe_int) pa_nil))) pa_nil)))) (pe_call (ok_law_draw T) (hr.mono (by decide)) (by rfl) T.g_law_draw T.F_law_draw.kp T.bb_law_draw .nil pass0 (pa_cons (pv 0) (pa_cons pe_int pa_nil))) (fun _ _ => rfl)))
      (pss_cons (ps_asg (pe_ix (ixL (K := K)) (pe_lst (pa_cons (pe_tup (pa_cons pe_str (pa_cons pe_int pa_nil))) (pa_cons (pe_tup (pa_cons pe_str (pa_cons (pe_un un_neg pe_int) pa_nil))) (pa_cons (pe_tup (pa_cons pe_str (pa_cons pe_int pa_nil))) pa_nil)))) (pe_call (ok_law_draw T) (hr.mono (by decide)) (by rfl) T.g_law_draw T.F_law_draw.kp T.bb_law_draw .nil pass0 (pa_cons (pv 0) (pa_cons pe_int pa_nil))) (fun _ _ => rfl)) (tupK (K := K) (by rfl) (pgs_cons (pg_name (i := 5) sclaw_true_look.nd rfl (Or.inl rfl)) (pgs_cons (pg_name (i := 6) sclaw_true_look.nd rfl (Or.inl rfl)) pgs_nil))))
      (pss_cons (ps_set (i := 7) sclaw_true_look.nd rfl (Or.inl rfl) (pe_lst (pa_cons pe_int (pa_cons (pe_op op_sub (pe_call (ok_law_draw T) (hr.mono (by decide)) (by rfl) T.g_law_draw T.F_law_draw.kp T.bb_law_draw .nil pass0 (pa_cons (pv 0) (pa_cons pe_int pa_nil))) pe_int) (pa_cons (pe_op op_fdivW (pe_call (ok_law_great T) (hr.mono (by decide)) (by rfl) T.g_law_great T.F_law_great.kp T.bb_law_great .nil pass0 (pa_cons (pv 0) pa_nil)) (pe_op op_pow pe_int pe_int)) pa_nil)))))
      (pss_cons (ps_set (i := 7) sclaw_true_look.nd rfl (Or.inl rfl) (pe_op op_mulW (pe_ix (ixL (K := K)) (pv 7) (pe_ix (ixL (K := K)) (pe_lst (pa_cons pe_int (pa_cons pe_int (pa_cons pe_int (pa_cons pe_int (pa_cons pe_int pa_nil)))))) (pe_call (ok_law_draw T) (hr.mono (by decide)) (by rfl) T.g_law_draw T.F_law_draw.kp T.bb_law_draw .nil pass0 (pa_cons (pv 0) (pa_cons pe_int pa_nil))) (fun _ _ => rfl)) (fun _ _ => rfl)) (pv 1)))
      (pss_one (ps_ret (pe_tup (pa_cons (pv 5) (pa_cons (pe_op op_add (pv 3) (pv 7)) (pa_cons (pe_op op_add (pe_op op_add (pe_call (ok_law_lead T) (hr.mono (by decide)) (by rfl) T.g_law_lead T.F_law_lead.kp T.bb_law_lead .nil pass0 (pa_cons (pv 1) (pa_cons (pv 2) (pa_cons (pv 3) pa_nil)))) (pe_op op_mulW (pv 6) (pv 4))) (pv 7)) pa_nil))))))))))), ?_⟩
    -- spot
    obtain ⟨vs, hv1, hv2⟩ := hp
    have hvl : vs.length = steps.length := by rw [dpAll_len hv2, List.length_map]
    have hvb : (vs.length : Int).natAbs < 2 ^ 1000 := Nat.lt_of_le_of_lt (by rw [hvl]; exact hst.2.1 : vs.length ≤ 20) (by decide)
    refine ⟨_, rfl, _, rfl, _, rfl, p, vs, rfl, .inl (SqL.of hv1), t, g, n, (vs.length : Int), rfl, hT, by omega, hvb, hb' _ (by omega), fun H1 i0 i1 i2 T1 k1 => ?_⟩
    have A1 := A0.step T1 k1
    have hp1 := (show LAt K H p (steps.map encP) from ⟨vs, hv1, hv2⟩).keep hT k1 hpt hpg nl
    obtain ⟨vs1, hw1, hw2⟩ := hp1
    have hwl : vs1.length = steps.length := by rw [dpAll_len hw2, List.length_map]
    have hi : i0.toNat < steps.length := by omega
    obtain ⟨s0, hs0⟩ : ∃ s0, steps[i0.toNat]? = some s0 := ⟨steps[i0.toNat], List.getElem?_eq_getElem hi⟩
    obtain ⟨v0, hv0, hd0⟩ := dpAll_get' hw2 (show (steps.map encP)[i0.toNat]? = some (encP s0) by rw [List.getElem?_map, hs0]; rfl)
    obtain ⟨a0, rfl, hq0⟩ := dp_pair hd0
    obtain ⟨sx0, sx1, sx2⟩ := hst.2.2 s0 (List.mem_of_getElem? hs0)
    refine ⟨p, vs1, _, _, rfl, rfl, SqL.of hw1, at_of (j := i0.toNat) (by omega) hv0, a0, _, _, _, rfl, rfl, hq0, rfl, ?_⟩
    refine ⟨_, rfl, _, rfl, t, g, n + 1, L, rfl, T1, hL, lt_up hLb (by decide), hb' _ (by omega), fun H2 x1 x2 x3 T2 k2 => ?_⟩
    have A2 := A1.step T2 k2
    refine ⟨(by show 2 ≤ sizeLine; decide), fun q hq => ?_⟩
    obtain ⟨qt, qg⟩ := T2.at_ne hq
    have A3 := A2.new (o := HO.lst [V.int s0.1, .int x1]) hq
    refine ⟨_, rfl, t, g, n + 2, 2, rfl, A3.T, by decide, by decide, hb' _ (by omega), fun H3 c0 c1 c2 T3 k3 => ?_⟩
    have A4 := A3.step T3 k3
    have hspot : ∃ x : Int, atI [V.int s0.1, .int x1] c0 = some (.int x) ∧ 0 ≤ x ∧ x < L := by
      have : c0 = 0 ∨ c0 = 1 := by omega
      rcases this with e | e <;> subst e
      · exact ⟨s0.1, rfl, sx0, sx1⟩
      · exact ⟨x1, rfl, x2, x3⟩
    obtain ⟨x, hxi, hx0, hx1⟩ := hspot
    refine ⟨q, _, _, _, rfl, rfl, SqL.of (k3 _ _ upd_same qt qg), hxi, ?_⟩
    have hp4 : LAt K H3 p (steps.map encP) := by
      have h1 : LAt K H1 p (steps.map encP) := ⟨vs1, hw1, hw2⟩
      exact ((h1.keep T1 k2 hpt hpg nl).same (same_upd hq)).keep A3.T k3 hpt hpg nl
    clear hv0 hd0 hq0 hw1 hw2 hv1 hv2
    -- off
    refine ⟨_, rfl, t, g, n + 3, 3, rfl, A4.T, by decide, by decide, hb' _ (by omega), fun H4 o1 o2 o3 T4 k4 => ?_⟩
    have A5 := A4.step T4 k4
    refine ⟨_, rfl, _, rfl, _, _, rfl, rfl, t, g, n + 4, L + 1, rfl, T4, by omega, lt_up (add_lt hLb (show (1 : Int).natAbs < 2 ^ 100 by decide)) (by decide), hb' _ (by omega), fun H5 r1 r2 r3 T5 k5 => ?_⟩
    have A6 := A5.step T5 k5
    refine ⟨(by show 3 ≤ sizeLine; decide), fun q2 hq2 => ?_⟩
    obtain ⟨q2t, q2g⟩ := T5.at_ne hq2
    have A7 := A6.new (o := HO.lst [V.int 0, .int o1, .int r1]) hq2
    refine ⟨_, rfl, t, g, n + 5, 3, rfl, A7.T, by decide, by decide, hb' _ (by omega), fun H6 d0 d1 d2 T6 k6 => ?_⟩
    have A8 := A7.step T6 k6
    have hoff : ∃ x : Int, atI [V.int 0, .int o1, .int r1] d0 = some (.int x) ∧ 0 ≤ x ∧ x.natAbs < 2 ^ 101 := by
      have : d0 = 0 ∨ d0 = 1 ∨ d0 = 2 := by omega
      rcases this with e | e | e <;> subst e
      · exact ⟨0, rfl, by decide, by decide⟩
      · exact ⟨o1, rfl, o2, Nat.lt_of_le_of_lt (by omega : o1.natAbs ≤ 3) (by decide)⟩
      · exact ⟨r1, rfl, r2, small_nat r2 (by omega : r1 ≤ L) (lt_up hLb (by decide))⟩
    obtain ⟨off, hoi, hoff0, hoffb⟩ := hoff
    refine ⟨q2, _, _, _, rfl, rfl, SqL.of (k6 _ _ upd_same q2t q2g), hoi, ?_⟩
    have hp8 : LAt K H6 p (steps.map encP) := (((hp4.keep A4.T k4 hpt hpg nl).keep T4 k5 hpt hpg nl).same (same_upd hq2)).keep A7.T k6 hpt hpg nl
    -- said, sign
    refine ⟨(by show 2 ≤ sizeLine; decide), fun p1 hp1 => ?_⟩
    have B1 := A8.new (o := HO.tup [V.str "at", .int 0]) hp1
    refine ⟨_, rfl, (by show 2 ≤ sizeLine; decide), fun p2 hp2 => ?_⟩
    have B2 := B1.new (o := HO.tup [V.str "from", .int (-1)]) hp2
    refine ⟨(by show 2 ≤ sizeLine; decide), fun p3 hp3 => ?_⟩
    have B3 := B2.new (o := HO.tup [V.str "upto", .int 1]) hp3
    have w3 : (upd (upd (upd H6 p1 (.tup [V.str "at", .int 0])) p2 (.tup [V.str "from", .int (-1)])) p3 (.tup [V.str "upto", .int 1])) p3 = some (.tup [V.str "upto", .int 1]) := upd_same
    have w2 := (same_upd (o := HO.tup [V.str "upto", .int 1]) hp3) p2 _ (upd_same (H := upd H6 p1 (.tup [V.str "at", .int 0])) (o := HO.tup [V.str "from", .int (-1)]))
    have w1 := (same_upd (o := HO.tup [V.str "upto", .int 1]) hp3) p1 _ ((same_upd (o := HO.tup [V.str "from", .int (-1)]) hp2) p1 _ (upd_same (H := H6) (o := HO.tup [V.str "at", .int 0])))
    have hp9 := ((hp8.same (same_upd (o := HO.tup [V.str "at", .int 0]) hp1)).same (same_upd (o := HO.tup [V.str "from", .int (-1)]) hp2)).same (same_upd (o := HO.tup [V.str "upto", .int 1]) hp3)
    refine ⟨(by show 3 ≤ sizeLine; decide), fun q3 hq3 => ?_⟩
    obtain ⟨q3t, q3g⟩ := B3.T.at_ne hq3
    have hp10 := hp9.same (same_upd (o := HO.lst [V.ref p1, .ref p2, .ref p3]) hq3)
    have S10 := same_upd (o := HO.lst [V.ref p1, .ref p2, .ref p3]) hq3
    have B4 := B3.new (o := HO.lst [V.ref p1, .ref p2, .ref p3]) hq3
    refine ⟨_, rfl, t, g, n + 6, 3, rfl, B4.T, by decide, by decide, hb' _ (by omega), fun H7 e0 e1 e2 T7 k7 => ?_⟩
    have B5 := B4.step T7 k7
    have hp11 := hp10.keep B4.T k7 hpt hpg nl
    have tp := Keep.tups B4.T k7
    have hsaid : ∃ (pp : Addr) (wd : Str) (sg : Int), atI [V.ref p1, .ref p2, .ref p3] e0 = some (.ref pp) ∧ SqT K H7 pp [.str wd, .int sg] ∧ (wd = "at" ∧ sg = 0 ∨ wd = "from" ∧ sg = -1 ∨ wd = "upto" ∧ sg = 1) := by
      have : e0 = 0 ∨ e0 = 1 ∨ e0 = 2 := by omega
      rcases this with e | e | e <;> subst e
      · exact ⟨p1, "at", 0, rfl, .inl (tp _ _ (.inl (S10 _ _ w1))), .inl ⟨rfl, rfl⟩⟩
      · exact ⟨p2, "from", -1, rfl, .inl (tp _ _ (.inl (S10 _ _ w2))), .inr (.inl ⟨rfl, rfl⟩)⟩
      · exact ⟨p3, "upto", 1, rfl, .inl (tp _ _ (.inl (S10 _ _ w3))), .inr (.inr ⟨rfl, rfl⟩)⟩
    obtain ⟨pp, wd, sg, hpi, hpp, hws⟩ := hsaid
    refine ⟨q3, _, _, _, rfl, rfl, SqL.of (k7 _ _ upd_same q3t q3g), hpi, ?_⟩
    refine ⟨pp, _, rfl, hpp, rfl, _, _, rfl, _, _, rfl, rfl, ?_⟩
    -- turn
    refine ⟨_, rfl, t, g, n + 7, 5, rfl, T7, by decide, by decide, hb' _ (by omega), fun H8 f0 f1 f2 T8 k8 => ?_⟩
    have B6 := B5.step T8 k8
    refine ⟨_, _, rfl, rfl, _, rfl, t, g, n + 8, rfl, T8, Nat.lt_trans (hb _ (by omega)) (by decide), fun H9 g0 g1 g2 T9 k9 => ?_⟩
    have B7 := B6.step T9 k9
    refine ⟨_, _, rfl, rfl, ⟨by decide, by decide, by decide⟩, _, _, rfl, rfl, wide_div (b := 110) (by decide) (by decide) (by decide) (by decide), (by show 3 ≤ sizeLine; decide), fun q4 hq4 => ?_⟩
    obtain ⟨q4t, q4g⟩ := T9.at_ne hq4
    have B8 := B7.new (o := HO.lst [V.int 0, .int (f0 - 2), .int (g0 / 10 ^ (31 : Int).toNat)]) hq4
    have hp12 := ((hp11.keep T7 k8 hpt hpg nl).keep T8 k9 hpt hpg nl).same (same_upd (o := HO.lst [V.int 0, .int (f0 - 2), .int (g0 / 10 ^ (31 : Int).toNat)]) hq4)
    -- turn = turn[..] * size
    refine ⟨_, rfl, (by show 5 ≤ sizeLine; decide), fun q5 hq5 => ?_⟩
    obtain ⟨q5t, q5g⟩ := B8.T.at_ne hq5
    have B9 := B8.new (o := HO.lst [V.int 0, .int 0, .int 1, .int 1, .int 2]) hq5
    have hp13 := hp12.same (same_upd (o := HO.lst [V.int 0, .int 0, .int 1, .int 1, .int 2]) hq5)
    have hq4' := (same_upd (o := HO.lst [V.int 0, .int 0, .int 1, .int 1, .int 2]) hq5) q4 _ (upd_same (H := H9) (o := HO.lst [V.int 0, .int (f0 - 2), .int (g0 / 10 ^ (31 : Int).toNat)]))
    refine ⟨_, rfl, t, g, n + 12, 5, rfl, B9.T, by decide, by decide, hb' _ (by omega), fun H10 h0 h1 h2 T10 k10 => ?_⟩
    have B10 := B9.step T10 k10
    have hp14 := hp13.keep B9.T k10 hpt hpg nl
    have hturn : ∃ (j kk : Int), atI [V.int 0, .int 0, .int 1, .int 1, .int 2] h0 = some (.int j) ∧ atI [V.int 0, .int (f0 - 2), .int (g0 / 10 ^ (31 : Int).toNat)] j = some (.int kk) ∧ kk.natAbs < 2 ^ 169 := by
      have c1 : (f0 - 2).natAbs < 2 ^ 169 := Nat.lt_of_le_of_lt (by omega : (f0 - 2).natAbs ≤ 7) (by decide)
      have c2 : (g0 / 10 ^ (31 : Int).toNat).natAbs < 2 ^ 169 := by
        have h1 : g0 / 10 ^ (31 : Int).toNat ≤ 10 ^ 59 / 10 ^ (31 : Int).toNat := Int.ediv_le_ediv (by decide) (Int.le_of_lt g2)
        have h0 : 0 ≤ g0 / 10 ^ (31 : Int).toNat := Int.ediv_nonneg g1 (by decide)
        exact small_nat h0 h1 (by decide)
      have : h0 = 0 ∨ h0 = 1 ∨ h0 = 2 ∨ h0 = 3 ∨ h0 = 4 := by omega
      rcases this with e | e | e | e | e <;> subst e
      · exact ⟨0, 0, rfl, rfl, by decide⟩
      · exact ⟨0, 0, rfl, rfl, by decide⟩
      · exact ⟨1, _, rfl, rfl, c1⟩
      · exact ⟨1, _, rfl, rfl, c1⟩
      · exact ⟨2, _, rfl, rfl, c2⟩
    obtain ⟨j, kk, hj, hkk, hkb⟩ := hturn
    refine ⟨q5, _, _, _, rfl, rfl, SqL.of (k10 _ _ upd_same q5t q5g), hj, q4, _, _, _, rfl, rfl, SqL.of (k10 _ _ hq4' q4t q4g), hkk, ?_⟩
    refine ⟨_, rfl, _, _, rfl, rfl, wide_mul hkb hLb (by decide) (by decide) (by decide), ?_⟩
    have hkL : (kk * L).natAbs < 2 ^ 269 := wide_lt hkb hLb
    -- the look
    have hxb : x.natAbs < 2 ^ 100 := small_nat hx0 (Int.le_of_lt hx1) hLb
    refine ⟨_, rfl, _, rfl, _, rfl, _, _, rfl, rfl, _, rfl, _, rfl, _, rfl, .ref p, L, x, steps, rfl, hp14.dp, hL, lt_up hLb (by decide), lt_up hxb (by decide), hst, fun m H11 S11 hm => ?_⟩
    have hmb := lead_bound hL hLb hx0 hx1 hst hm
    have hsgb : sg.natAbs < 2 ^ 2 := by rcases hws with ⟨_, e⟩ | ⟨_, e⟩ | ⟨_, e⟩ <;> rw [e] <;> decide
    have hso : (sg * off).natAbs < 2 ^ (2 + 101) := wide_lt hsgb hoffb
    refine ⟨_, rfl, _, rfl, _, _, rfl, rfl, wide_mul hsgb hoffb (by decide) (by decide) (by decide), _, _, rfl, rfl, _, rfl, _, _, rfl, rfl, (by show 3 ≤ sizeLine; decide), fun q6 hq6 => ?_⟩
    have B11 : At H H11 t g (n + 13) := ⟨B10.T.same S11, B10.k.trans (Keep.of_same S11)⟩
    refine k _ _ (wd, x + kk * L, m + sg * off + kk * L) ((B11.new hq6).up (by omega)) (.tup (SqT.of upd_same) (.cons (.str _) (.cons (.int _) (.cons (.int _) .nil)))) ⟨?_, ⟨?_, ?_⟩, x, kk, m, rfl, hm, fun e => ?_, fun e => ?_, fun e => ?_⟩
    · rcases hws with ⟨e, _⟩ | ⟨e, _⟩ | ⟨e, _⟩
      · exact .inl e
      · exact .inr (.inl e)
      · exact .inr (.inr e)
    · exact add_lt (lt_up hxb (by decide)) hkL
    · exact add_lt (lt_up (add_lt hmb (lt_up hso (by decide))) (by decide)) hkL
    · have e' : wd = "at" := e
      show m + sg * off + kk * L = m + kk * L
      rcases hws with ⟨_, es⟩ | ⟨ew, _⟩ | ⟨ew, _⟩
      · rw [es]; omega
      · rw [e'] at ew; exact absurd ew (by decide +kernel)
      · rw [e'] at ew; exact absurd ew (by decide +kernel)
    · have e' : wd = "from" := e
      show m + sg * off + kk * L ≤ m + kk * L
      rcases hws with ⟨ew, _⟩ | ⟨_, es⟩ | ⟨ew, _⟩
      · rw [e'] at ew; exact absurd ew (by decide +kernel)
      · rw [es]; omega
      · rw [e'] at ew; exact absurd ew (by decide +kernel)
    · have e' : wd = "upto" := e
      show m + kk * L ≤ m + sg * off + kk * L
      rcases hws with ⟨ew, _⟩ | ⟨ew, _⟩ | ⟨_, es⟩
      · rw [e'] at ew; exact absurd ew (by decide +kernel)
      · rw [e'] at ew; exact absurd ew (by decide +kernel)
      · rw [es]; omega
end
end KA
namespace KA
open PySem PySem.Spec PyProof.Rows L2 DP
def spKnown (K : PySem.W.Frag) : Sp := fun vs H Q _ => ∃ (t g : Addr) (n : Nat) (L most : Int), vs = [.ref t, .int L, .int most] ∧ Tray H t g n ∧ n < 2 ^ 44 ∧ 0 < L ∧ L ≤ 10 ^ 30 ∧ 0 ≤ most ∧ most ≤ 40 ∧
  ∀ (H' : Hp) (p : Addr) (ls : List Lk) (steps : List Pr), H p = none → At H H' t g (n + 2000) → LAt K H' p (ls.map encL) → (∀ l ∈ ls, TrueLk L steps l) → StepsOk L steps → (ls.length : Int) ≤ most → Q (.ref p) H'
def spLawSide (K : PySem.W.Frag) (sd : Str) : Sp := fun vs H Q _ => ∃ (v : V) (L x : Int) (ls : List Lk), vs = [.int L, v, .int x] ∧ Dp K H v (.list (ls.map encL)) ∧ 0 < L ∧ L.natAbs < 2 ^ 200 ∧ x.natAbs < 2 ^ 400 ∧ (∀ l ∈ ls, WordOk l.1 ∧ Sized 400 l) ∧ ls.length ≤ 100 ∧
  ∀ v H', Same H H' → Tells sd ls x L v → Q v H'
section
variable {P : Program} {w : World} {K : PySem.W.Frag} {mg : Str → Option Value} {base : Heap} {Z : Ad}
theorem ok_law_known (T : Tx K w mg Z) : FnOk P w K mg base CX0 4 Z.a_law_known Z.d_law_known P_law_known (spKnown K) := by
  refine T.F_law_known.ok sclaw_known (fun vs H Q E h => ?_) (fun cdv A outer s H vs Q E hr h => ?_)
  · obtain ⟨t, g, n, L, most, rfl, _⟩ := h
    rfl
  · obtain ⟨t, g, n, L, most, rfl, hT, hn, hL, hL30, hm0, hm1, k⟩ := h
    have hb : ∀ m, m ≤ n + 2000 → m < 2 ^ 46 := fun m hm => Nat.lt_of_le_of_lt hm (Nat.lt_of_lt_of_le (Nat.add_lt_add_right hn 2000) (by decide))
    have hb' : ∀ m, m ≤ n + 2000 → m < 2 ^ 60 := fun m hm => Nat.lt_trans (hb m hm) (by decide)
    have A0 : At H H t g n := ⟨hT, Keep.refl _ _ _⟩
    refine ⟨_, (pss_cons (ps_set (i := 3) sclaw_known.nd rfl (Or.inr rfl) (pe_call (ok_law_secret T) (hr.mono (by decide)) (by rfl) T.g_law_secret T.F_law_secret.kp T.bb_law_secret .nil pass0 (pa_cons (pv 0) (pa_cons (pv 1) pa_nil))))
      (pss_cons (ps_set (i := 4) sclaw_known.nd rfl (Or.inl rfl) (pe_call (ok_law_draw T) (hr.mono (by decide)) (by rfl) T.g_law_draw T.F_law_draw.kp T.bb_law_draw .nil pass0 (pa_cons (pv 0) (pa_cons (pe_ix (ixL (K := K)) (pe_lst (pa_cons pe_int (pa_cons pe_int (pa_cons (pe_op op_add (pv 2) pe_int) pa_nil)))) (pe_call (ok_law_draw T) (hr.mono (by decide)) (by rfl) T.g_law_draw T.F_law_draw.kp T.bb_law_draw .nil pass0 (pa_cons (pv 0) (pa_cons pe_int pa_nil))) (fun _ _ => rfl)) pa_nil))))
      (pss_one (ps_ret (pe_lc (own := [("turn", 5)]) (g := gName 5) (tt := tYes) rfl sclaw_known.nd (pi_range1 (by rfl) T.b_range (pa_cons (pe_callB (call_min2 rfl) (by rfl) T.b_min (by decide +kernel) (pa_cons (pv 2) (pa_cons (pv 4) pa_nil))) pa_nil)) (blkOk_by (own := [("turn", 5)]) (N := N_law_known) (sc := defScope slaw_known) (by decide +kernel)) (fun _ _ _ _ _ => (pg_name (i := 5) sclaw_known.nd rfl (Or.inl rfl))) (fun _ _ _ _ _ => pts_nil) (fun _ _ _ _ _ => (pe_call (ok_law_true_look T) (hr.mono (by decide)) (by rfl) T.g_law_true_look T.F_law_true_look.kp T.bb_law_true_look .nil pass0 (pa_cons (pv 0) (pa_cons (pv 1) (pa_cons (pv 3) pa_nil)))))))))), ?_⟩
    refine ⟨_, rfl, _, rfl, t, g, n, L, rfl, hT, Nat.lt_trans hn (by decide), hL, hL30, fun H1 p steps hp T1 k1 l1 hst => ?_⟩
    have A1 := A0.step T1 k1
    obtain ⟨hpt, hpg⟩ := hT.at_ne hp
    have nl := noLs_map noL_encP steps
    refine ⟨_, rfl, _, rfl, _, _, rfl, rfl, (by show 3 ≤ sizeLine; decide), fun q hq => ?_⟩
    obtain ⟨qt, qg⟩ := T1.at_ne hq
    have A2 := A1.new (o := HO.lst [V.int 4, .int 9, .int (most + 1)]) hq
    refine ⟨_, rfl, t, g, n + 30, 3, rfl, A2.T, by decide, by decide, hb' _ (by omega), fun H2 c0 c1 c2 T2 k2 => ?_⟩
    have A3 := A2.step T2 k2
    have l3 := (l1.same (same_upd (o := HO.lst [V.int 4, .int 9, .int (most + 1)]) hq)).keep A2.T k2 hpt hpg nl
    have hmany : ∃ j : Int, atI [V.int 4, .int 9, .int (most + 1)] c0 = some (.int j) ∧ 0 < j ∧ j ≤ 41 := by
      have : c0 = 0 ∨ c0 = 1 ∨ c0 = 2 := by omega
      rcases this with e | e | e <;> subst e
      · exact ⟨4, rfl, by decide, by decide⟩
      · exact ⟨9, rfl, by decide, by decide⟩
      · exact ⟨most + 1, rfl, by omega, by omega⟩
    obtain ⟨j, hj, hj0, hj1⟩ := hmany
    refine ⟨q, _, _, _, rfl, rfl, SqL.of (k2 _ _ upd_same qt qg), hj, t, g, n + 31, j, rfl, A3.T, hj0, Nat.lt_of_le_of_lt (by omega : j.natAbs ≤ 41) (by decide), hb' _ (by omega), fun H3 m m0 m1 T3 k3 => ?_⟩
    have A4 := A3.step T3 k3
    have l4 := l3.keep A3.T k3 hpt hpg nl
    have hmin : 0 ≤ (if m < most then m else most) ∧ (if m < most then m else most) ≤ most := by split <;> omega
    refine ⟨_, rfl, _, rfl, _, _, rfl, _, rfl, Int.le_trans (by decide) hmin.1, Int.lt_of_le_of_lt hmin.2 (Int.lt_of_le_of_lt hm1 (by decide)), fun D hD => ?_⟩
    obtain ⟨Dt, Dg⟩ := T3.at_ne hD
    have hDH := A4.free hD
    obtain ⟨vs4, hp4, _⟩ := id l4
    have hDp : p ≠ D := ne_of_none hp4 hD
    refine lc_range (lo := 0) (n := (if m < most then m else most).toNat) (fun i H' => At H H' t g (n + 40 + 30 * i) ∧ LAt K H' p (steps.map encP) ∧ ∃ (vs : List V) (ls : List Lk), H' D = some (.lst vs) ∧ DpAll K H' vs (ls.map encL) ∧ ls.length = i ∧ ∀ l ∈ ls, TrueLk L steps l)
      ⟨(A4.new hD).up (by omega), l4.same (same_upd hD), [], [], upd_same, .nil, rfl, fun _ z => absurd z (by simp)⟩ ?_ ?_
    · rintro i H' hi ⟨A, lp, vs, ls, hd, hds, hl, htr⟩
      have hi40 : i < 40 := by omega
      refine ⟨rfl, yes_ite ?_⟩
      refine ⟨_, rfl, _, rfl, _, rfl, t, g, p, n + 40 + 30 * i, L, steps, rfl, A.T, hb _ (by omega), hL, hL30, lp, hst, hpt, hpg, fun H5 r l A5 hr hl5 => ?_⟩
      have hd5 := A5.k _ _ hd Dt Dg
      have hds5 := dpAll_tups (Keep.tups A.T A5.k) _ _ (noLs_map noL_encL ls) hds
      obtain ⟨vp, hvp, hvq⟩ := lp.keep A.T A5.k hpt hpg nl
      have hvl : vs.length = ls.length := by rw [dpAll_len hds, List.length_map]
      refine ⟨vs, hd5, small1000 (by omega), ((A.step A5.T A5.k).acc hDH Dt Dg).up (by omega), ⟨vp, (upd_ne hDp).trans hvp, dpAll_tups (Tups.upd_lst hd5) _ _ nl hvq⟩, _, ls ++ [l], upd_same, ?_, by simp [hl], fun o ho => ?_⟩
      · rw [List.map_append]
        exact acc_step hd5 (noLs_map noL_encL _) rfl hds5 hr
      · rcases List.mem_append.mp ho with h | h
        · exact htr o h
        · rw [List.mem_singleton] at h; subst h; exact hl5
    · rintro H' ⟨A, lp, vs, ls, hd, hds, hl, htr⟩
      refine k H' D ls steps hDH (A.up (by omega)) ⟨vs, hd, hds⟩ htr hst (by omega)
theorem ok_law_least (T : Tx K w mg Z) : FnOk P w K mg base CX0 1 Z.a_law_least Z.d_law_least P_law_least (spLawSide K "slow") := by
  refine T.F_law_least.ok sclaw_least (fun vs H Q E h => ?_) (fun cdv A outer s H vs Q E hr h => ?_)
  · obtain ⟨v, L, x, ls, rfl, _⟩ := h
    rfl
  · obtain ⟨v, L, x, ls, rfl, hv, hL, hLb, hx, hw, hlen, k'⟩ := h
    have k0 := fun (e : sideOf "slow" ls = []) H' (S : Same H H') => k' _ H' S (.inl ⟨e, rfl⟩)
    have k := fun m H' (S : Same H H') (hb : IsBest "slow" (sideOf "slow" ls) x L m) => k' _ H' S (.inr ⟨m, rfl, hb⟩)
    obtain ⟨a, xs, rfl, ha, hd⟩ := dp_list hv
    have hxl : xs.length = ls.length := by rw [dpAll_len hd, List.length_map]
    refine ⟨_, (pss_cons (ps_setLc (i := 3) (own := [("said", 4), ("here", 5), ("there", 6)]) (g := gTup K 3 (gCons (gName 4) (gCons (gName 5) (gCons (gName 6) gNil)))) (tt := _) rfl sclaw_least.nd rfl rfl (sw_true rfl rfl rfl (by decide +kernel)) (pi_list (pv 1)) (blkOk_by (own := [("said", 4), ("here", 5), ("there", 6)]) (N := N_law_least) (sc := defScope slaw_least) (by decide +kernel)) (fun _ _ _ _ _ => (tupK (K := K) (by rfl) (pgs_cons (pg_name (i := 4) sclaw_least.nd rfl (Or.inl rfl)) (pgs_cons (pg_name (i := 5) sclaw_least.nd rfl (Or.inl rfl)) (pgs_cons (pg_name (i := 6) sclaw_least.nd rfl (Or.inl rfl)) pgs_nil))))) (fun _ _ _ _ _ => (pts_one (pt_cmpR (inS (K := K)) (pv 4) (pe_lst (pa_cons pe_str (pa_cons pe_str pa_nil))) (by rfl)))) (fun _ _ _ _ _ => (pe_op op_add (pv 6) (pe_op op_mulW (pe_op op_fdivW (pe_op op_sub (pv 2) (pv 5)) (pv 0)) (pv 0)))))
      (pss_one (ps_ret (pe_ifExp (pt_cmpR (neDK (K := K) hr.units) (pv 3) (pe_lst pa_nil) (nomark _)) (pe_callB (maxK (K := K) rfl) (by rfl) T.b_max (by decide +kernel) (pa_cons (pv 3) pa_nil)) pe_non)))), ?_⟩
    refine ⟨_, rfl, a, rfl, ⟨_, ha⟩, fun D hD => ?_⟩
    refine lc_list (K := K) (a := a) (xs := xs) (fun i H' => Same H H' ∧ H' D = some (.lst (((sideOf "slow" (ls.take i)).map fun l => plc "slow" l x L).map V.int))) ⟨same_upd hD, upd_same⟩ (fun i H' _ ⟨S, _⟩ => Same.sqL S ha) ?_ ?_
    · rintro i y H' hi ⟨S, hd'⟩
      obtain ⟨d, hdi, hdy⟩ := dpAll_get hd hi
      obtain ⟨l, hl, rfl⟩ := map_at hdi
      have hwl := hw l (List.mem_of_getElem? hl)
      obtain ⟨p, rfl, hp⟩ := dp_look (dp_mono S _ _ hdy)
      refine ⟨_, _, rfl, hp, rfl, _, _, rfl, _, _, rfl, _, _, rfl, rfl, rfl, ?_⟩
      refine ⟨_, rfl, (by show 2 ≤ sizeLine; decide), fun q hq => ?_⟩
      have S2 := same_upd (o := HO.lst [V.str "at", .str "from"]) hq
      refine ⟨_, _, rfl, .inl (SqL.of upd_same), rfl, rfl, _, rfl, ?_⟩
      have e1 : (if false = true then !inV (V.str l.1) [V.str "at", V.str "from"] else inV (V.str l.1) [V.str "at", V.str "from"]) = onSide "slow" l.1 := by rw [if_neg Bool.false_ne_true]; exact (decl_words hwl.1).1
      rw [e1]
      have e2 : sideOf "slow" (ls.take (i + 1)) = sideOf "slow" (ls.take i) ++ (if onSide "slow" l.1 = true then [l] else []) := by
        rw [take_snoc hl]; unfold sideOf; rw [List.filter_append]
        cases c : onSide "slow" l.1 <;> simp [c]
      rw [e2]
      cases c : onSide "slow" l.1 with
      | false => exact iteF ⟨S.trans S2, by simpa using S2 _ _ hd'⟩
      | true =>
        refine iteT ?_
        refine ⟨_, rfl, _, rfl, _, rfl, _, _, rfl, rfl, _, rfl, _, _, rfl, rfl, wide_div hL hLb (by decide) (by decide), _, rfl, _, _, rfl, rfl, wide_mul (div_lt hL (sub_lt hx hwl.2.1)) hLb (by decide) (by decide) (by decide), _, _, rfl, rfl, ?_⟩
        refine ⟨_, S2 _ _ hd', ?_, same_set (S.trans S2) hD, ?_⟩
        · have h1 : i < ls.length := (List.getElem?_eq_some_iff.mp hl).1
          have h2 : (sideOf "slow" (ls.take i)).length ≤ i := Nat.le_trans (List.length_filter_le _ _) (by rw [List.length_take]; omega)
          exact small1000 (by simp; omega)
        · rw [if_pos rfl, List.map_append, List.map_append]
          have : plc "slow" l x L = l.2.2 + (x - l.2.1) / L * L := plc_slow l x L
          simp only [List.map_cons, List.map_nil, this]
          exact upd_same
    · rintro H' ⟨S, hd'⟩
      rw [List.take_of_length_le (by rw [hxl]; exact Nat.le_refl _)] at hd'
      refine ⟨_, rfl, (by show 0 ≤ sizeLine; decide), fun q hq => ?_⟩
      have S2 := same_upd (o := HO.lst []) hq
      refine ⟨_, _, .lst (SqL.of (S2 _ _ hd')) (dpAll_ints _), .lst (SqL.of upd_same) .nil, shaped_ints _, rfl, _, rfl, ?_⟩
      cases hs : sideOf "slow" ls with
      | nil =>
        exact iteF (k0 hs _ (S.trans S2))
      | cons l0 rest =>
        refine iteT ?_
        rw [hs] at hd'
        refine ⟨_, rfl, D, _, rfl, SqL.of (S2 _ _ hd'), by simp, fun m h1 h2 => k m _ (S.trans S2) ?_⟩
        rw [hs]
        refine ⟨List.mem_map.mp h1, fun l hl => ?_⟩
        rw [if_pos rfl]
        exact h2 _ (List.mem_map.mpr ⟨l, hl, rfl⟩)
theorem ok_law_greatest (T : Tx K w mg Z) : FnOk P w K mg base CX0 1 Z.a_law_greatest Z.d_law_greatest P_law_greatest (spLawSide K "fast") := by
  refine T.F_law_greatest.ok sclaw_greatest (fun vs H Q E h => ?_) (fun cdv A outer s H vs Q E hr h => ?_)
  · obtain ⟨v, L, x, ls, rfl, _⟩ := h
    rfl
  · obtain ⟨v, L, x, ls, rfl, hv, hL, hLb, hx, hw, hlen, k'⟩ := h
    have k0 := fun (e : sideOf "fast" ls = []) H' (S : Same H H') => k' _ H' S (.inl ⟨e, rfl⟩)
    have k := fun m H' (S : Same H H') (hb : IsBest "fast" (sideOf "fast" ls) x L m) => k' _ H' S (.inr ⟨m, rfl, hb⟩)
    obtain ⟨a, xs, rfl, ha, hd⟩ := dp_list hv
    have hxl : xs.length = ls.length := by rw [dpAll_len hd, List.length_map]
    refine ⟨_, (pss_cons (ps_setLc (i := 3) (own := [("said", 4), ("here", 5), ("there", 6)]) (g := gTup K 3 (gCons (gName 4) (gCons (gName 5) (gCons (gName 6) gNil)))) (tt := _) rfl sclaw_greatest.nd rfl rfl (sw_true rfl rfl rfl (by decide +kernel)) (pi_list (pv 1)) (blkOk_by (own := [("said", 4), ("here", 5), ("there", 6)]) (N := N_law_greatest) (sc := defScope slaw_greatest) (by decide +kernel)) (fun _ _ _ _ _ => (tupK (K := K) (by rfl) (pgs_cons (pg_name (i := 4) sclaw_greatest.nd rfl (Or.inl rfl)) (pgs_cons (pg_name (i := 5) sclaw_greatest.nd rfl (Or.inl rfl)) (pgs_cons (pg_name (i := 6) sclaw_greatest.nd rfl (Or.inl rfl)) pgs_nil))))) (fun _ _ _ _ _ => (pts_one (pt_cmpR (inS (K := K)) (pv 4) (pe_lst (pa_cons pe_str (pa_cons pe_str pa_nil))) (by rfl)))) (fun _ _ _ _ _ => (pe_op op_sub (pv 6) (pe_op op_mulW (pe_op op_fdivW (pe_op op_sub (pv 5) (pv 2)) (pv 0)) (pv 0)))))
      (pss_one (ps_ret (pe_ifExp (pt_cmpR (neDK (K := K) hr.units) (pv 3) (pe_lst pa_nil) (nomark _)) (pe_callB (minK (K := K) rfl) (by rfl) T.b_min (by decide +kernel) (pa_cons (pv 3) pa_nil)) pe_non)))), ?_⟩
    refine ⟨_, rfl, a, rfl, ⟨_, ha⟩, fun D hD => ?_⟩
    refine lc_list (K := K) (a := a) (xs := xs) (fun i H' => Same H H' ∧ H' D = some (.lst (((sideOf "fast" (ls.take i)).map fun l => plc "fast" l x L).map V.int))) ⟨same_upd hD, upd_same⟩ (fun i H' _ ⟨S, _⟩ => Same.sqL S ha) ?_ ?_
    · rintro i y H' hi ⟨S, hd'⟩
      obtain ⟨d, hdi, hdy⟩ := dpAll_get hd hi
      obtain ⟨l, hl, rfl⟩ := map_at hdi
      have hwl := hw l (List.mem_of_getElem? hl)
      obtain ⟨p, rfl, hp⟩ := dp_look (dp_mono S _ _ hdy)
      refine ⟨_, _, rfl, hp, rfl, _, _, rfl, _, _, rfl, _, _, rfl, rfl, rfl, ?_⟩
      refine ⟨_, rfl, (by show 2 ≤ sizeLine; decide), fun q hq => ?_⟩
      have S2 := same_upd (o := HO.lst [V.str "at", .str "upto"]) hq
      refine ⟨_, _, rfl, .inl (SqL.of upd_same), rfl, rfl, _, rfl, ?_⟩
      have e1 : (if false = true then !inV (V.str l.1) [V.str "at", V.str "upto"] else inV (V.str l.1) [V.str "at", V.str "upto"]) = onSide "fast" l.1 := by rw [if_neg Bool.false_ne_true]; exact (decl_words hwl.1).2.1
      rw [e1]
      have e2 : sideOf "fast" (ls.take (i + 1)) = sideOf "fast" (ls.take i) ++ (if onSide "fast" l.1 = true then [l] else []) := by
        rw [take_snoc hl]; unfold sideOf; rw [List.filter_append]
        cases c : onSide "fast" l.1 <;> simp [c]
      rw [e2]
      cases c : onSide "fast" l.1 with
      | false => exact iteF ⟨S.trans S2, by simpa using S2 _ _ hd'⟩
      | true =>
        refine iteT ?_
        refine ⟨_, rfl, _, rfl, _, rfl, _, _, rfl, rfl, _, rfl, _, _, rfl, rfl, wide_div hL hLb (by decide) (by decide), _, rfl, _, _, rfl, rfl, wide_mul (div_lt hL (sub_lt hwl.2.1 hx)) hLb (by decide) (by decide) (by decide), _, _, rfl, rfl, ?_⟩
        refine ⟨_, S2 _ _ hd', ?_, same_set (S.trans S2) hD, ?_⟩
        · have h1 : i < ls.length := (List.getElem?_eq_some_iff.mp hl).1
          have h2 : (sideOf "fast" (ls.take i)).length ≤ i := Nat.le_trans (List.length_filter_le _ _) (by rw [List.length_take]; omega)
          exact small1000 (by simp; omega)
        · rw [if_pos rfl, List.map_append, List.map_append]
          have : plc "fast" l x L = l.2.2 - (l.2.1 - x) / L * L := plc_fast l x L
          simp only [List.map_cons, List.map_nil, this]
          exact upd_same
    · rintro H' ⟨S, hd'⟩
      rw [List.take_of_length_le (by rw [hxl]; exact Nat.le_refl _)] at hd'
      refine ⟨_, rfl, (by show 0 ≤ sizeLine; decide), fun q hq => ?_⟩
      have S2 := same_upd (o := HO.lst []) hq
      refine ⟨_, _, .lst (SqL.of (S2 _ _ hd')) (dpAll_ints _), .lst (SqL.of upd_same) .nil, shaped_ints _, rfl, _, rfl, ?_⟩
      cases hs : sideOf "fast" ls with
      | nil =>
        exact iteF (k0 hs _ (S.trans S2))
      | cons l0 rest =>
        refine iteT ?_
        rw [hs] at hd'
        refine ⟨_, rfl, D, _, rfl, SqL.of (S2 _ _ hd'), by simp, fun m h1 h2 => k m _ (S.trans S2) ?_⟩
        rw [hs]
        refine ⟨List.mem_map.mp h1, fun l hl => ?_⟩
        rw [if_neg slow_ne]
        exact h2 _ (List.mem_map.mpr ⟨l, hl, rfl⟩)
end
end KA
namespace KA
open PySem PySem.Spec PyProof.Rows L2 DP
/-- no list of it is long -/
def fewD : PyData → Bool
  | .list xs => decide (xs.length ≤ 1000) && fewDs xs
  | .tuple xs => decide (xs.length ≤ 1000) && fewDs xs
  | _ => true
where fewDs : List PyData → Bool
  | [] => true
  | x :: xs => fewD x && fewDs xs
def tyName : PyData → String
  | .none => "NoneType"
  | .bool _ => "bool"
  | .int _ => "int"
  | .str _ => "str"
  | .list _ => "list"
  | .tuple _ => "tuple"
  | .dict _ => "dict"
theorem ty_of {K : PySem.W.Frag} {H : Hp} {v : V} {d : PyData} (h : Dp K H v d) : TyX K H v (.type (tyName d)) := by
  cases h with
  | non => exact .base .non
  | bl b => exact .base (.bl b)
  | int i => exact .base (.int i)
  | str x => exact .base (.str x)
  | lst s a =>
    rcases s with (s | ⟨o, s⟩) | ⟨o, its, n, e, c, _⟩
    · exact .base (.lst s)
    · exact .base (.frz s)
    · exact .kList e c
  | tup s a =>
    rcases s with (s | ⟨o, s⟩) | ⟨o, its, n, e, c, _⟩
    · exact .base (.tup s)
    · exact .fTuple s
    · exact .kTuple e c
theorem isi {K : PySem.W.Frag} {H : Hp} {v : V} {d : PyData} {C : String} {b : Bool} {Q : VK} (h : Dp K H v d) (hk : kitB (tyName d) C = some b) (q : Q (.bl b) H) : rIsi K [v, .ty C] H Q :=
  ⟨v, .ty C, _, .type C, b, rfl, ClsV.ty C, ty_of h, kit_ty hk, q⟩
def spAlike (K : PySem.W.Frag) (n : Nat) : Sp := fun vs H Q _ => ∃ (v u : V) (d : PyData), vs = [v, u] ∧ Dp K H v d ∧ Dp K H u d ∧ fewD d = true ∧ d.depth < n ∧ Q (.bl true) H
theorem few_at : ∀ {ds : List PyData} {i : Nat} {d : PyData}, fewD.fewDs ds = true → ds[i]? = some d → fewD d = true
  | [], _, _, _, h => by simp at h
  | a :: r, 0, d, n, h => by
    rw [fewD.fewDs, Bool.and_eq_true] at n
    have e : a = d := Option.some.inj h
    subst e; exact n.1
  | a :: r, i + 1, d, n, h => by
    rw [fewD.fewDs, Bool.and_eq_true] at n
    exact few_at n.2 (by simpa using h)
theorem depth_at : ∀ {ds : List PyData} {i : Nat} {d : PyData}, ds[i]? = some d → d.depth ≤ PyData.depthAll ds
  | [], _, _, h => by simp at h
  | a :: r, 0, d, h => by
    have e : a = d := Option.some.inj h
    subst e; rw [PyData.depthAll]; omega
  | a :: r, i + 1, d, h => by
    have := depth_at (ds := r) (i := i) (d := d) (by simpa using h)
    rw [PyData.depthAll]; omega
theorem ix_any {K : PySem.W.Frag} {H : Hp} {p : Addr} {xs : List V} {i : Int} {x : V} {Q : VK} (s : SqL K H p xs ∨ SqT K H p xs) (h : atI xs i = some x) (q : Q x H) : rIx K (.ref p) (.int i) H Q := by
  rcases s with s | s
  · exact .inl ⟨p, xs, i, x, rfl, rfl, s, h, q⟩
  · exact .inr (.inl ⟨p, xs, i, x, rfl, rfl, s, h, q⟩)
section
variable {P : Program} {w : World} {K : PySem.W.Frag} {mg : Str → Option Value} {base : Heap} {Z : Ad}
/-- what the loop asks: the items alike, by the promise one level down -/
theorem ok_law_alike_of {k n : Nat} (T : Tx K w mg Z) (ih : FnOk P w K mg base CX0 k Z.a_law_alike Z.d_law_alike P_law_alike (spAlike K n)) : FnOk P w K mg base CX0 (k + 1) Z.a_law_alike Z.d_law_alike P_law_alike (spAlike K (n + 1)) := by
  refine T.F_law_alike.ok sclaw_alike (fun vs H Q E h => ?_) (fun cdv A outer s H vs Q E hr h => ?_)
  · obtain ⟨v, u, d, rfl, _⟩ := h
    rfl
  · obtain ⟨v, u, d, rfl, hv, hu, hf, hd, k⟩ := h
    -- the data's kinds: what the tests answer
    have ty := ty_of hu
    refine ⟨_, (C8.pss_cut (ps_if (pt_cmpR op_isN (pv 1) pe_non (nomark _)) (pss_one (ps_ret (pe_cmpR op_isN (pv 0) pe_non (nomark _)))) pss_nil)
      (C8.pss_cut (ps_if (pt_val (pe_callB (isiK (K := K)) (by rfl) T.b_isinstance (by decide +kernel) (pa_cons (pv 1) (pa_cons (pe_bltn (v := .ty "bool") (by rfl) T.b_bool (by decide +kernel) rfl) pa_nil)))) (pss_one (ps_ret (pe_and (pe_callB (isiK (K := K)) (by rfl) T.b_isinstance (by decide +kernel) (pa_cons (pv 0) (pa_cons (pe_bltn (v := .ty "bool") (by rfl) T.b_bool (by decide +kernel) rfl) pa_nil))) (pe_one (pe_cmpR op_eq (pv 0) (pv 1) (nomark _)))))) pss_nil)
      (C8.pss_cut (ps_if (pt_val (pe_callB (isiK (K := K)) (by rfl) T.b_isinstance (by decide +kernel) (pa_cons (pv 1) (pa_cons (pe_bltn (v := .ty "int") (by rfl) T.b_int (by decide +kernel) rfl) pa_nil)))) (pss_one (ps_ret (pe_and (pe_callB (isiK (K := K)) (by rfl) T.b_isinstance (by decide +kernel) (pa_cons (pv 0) (pa_cons (pe_bltn (v := .ty "int") (by rfl) T.b_int (by decide +kernel) rfl) pa_nil))) (pe_and (pe_not (pe_callB (isiK (K := K)) (by rfl) T.b_isinstance (by decide +kernel) (pa_cons (pv 0) (pa_cons (pe_bltn (v := .ty "bool") (by rfl) T.b_bool (by decide +kernel) rfl) pa_nil)))) (pe_one (pe_cmpR op_eq (pv 0) (pv 1) (nomark _))))))) pss_nil)
      (C8.pss_cut (ps_if (pt_val (pe_callB (isiK (K := K)) (by rfl) T.b_isinstance (by decide +kernel) (pa_cons (pv 1) (pa_cons (pe_bltn (v := .ty "str") (by rfl) T.b_str (by decide +kernel) rfl) pa_nil)))) (pss_one (ps_ret (pe_and (pe_callB (isiK (K := K)) (by rfl) T.b_isinstance (by decide +kernel) (pa_cons (pv 0) (pa_cons (pe_bltn (v := .ty "str") (by rfl) T.b_str (by decide +kernel) rfl) pa_nil))) (pe_one (pe_cmpR op_eq (pv 0) (pv 1) (nomark _)))))) pss_nil)
      (C8.pss_cut (ps_if (PW.pt (pw_or (pt_cmpR op_ne (pe_callB (isiK (K := K)) (by rfl) T.b_isinstance (by decide +kernel) (pa_cons (pv 0) (pa_cons (pe_bltn (v := .ty "list") (by rfl) T.b_list (by decide +kernel) rfl) pa_nil))) (pe_callB (isiK (K := K)) (by rfl) T.b_isinstance (by decide +kernel) (pa_cons (pv 1) (pa_cons (pe_bltn (v := .ty "list") (by rfl) T.b_list (by decide +kernel) rfl) pa_nil))) (nomark _)) (pw_or1 (pt_cmpR op_ne (pe_callB (isiK (K := K)) (by rfl) T.b_isinstance (by decide +kernel) (pa_cons (pv 0) (pa_cons (pe_bltn (v := .ty "tuple") (by rfl) T.b_tuple (by decide +kernel) rfl) pa_nil))) (pe_callB (isiK (K := K)) (by rfl) T.b_isinstance (by decide +kernel) (pa_cons (pv 1) (pa_cons (pe_bltn (v := .ty "tuple") (by rfl) T.b_tuple (by decide +kernel) rfl) pa_nil))) (nomark _))))) (pss_one (ps_ret pe_bl)) pss_nil)
      (C8.pss_cut (ps_if (pt_cmpR op_ne (pe_callB (lenK (K := K)) (by rfl) T.b_len (by decide +kernel) (pa_cons (pv 0) pa_nil)) (pe_callB (lenK (K := K)) (by rfl) T.b_len (by decide +kernel) (pa_cons (pv 1) pa_nil)) (nomark _)) (pss_one (ps_ret pe_bl)) pss_nil)
      (pss_cons (ps_for PassesOwn.never rfl (pi_range1 (by rfl) T.b_range (pa_cons (pe_callB (lenK (K := K)) (by rfl) T.b_len (by decide +kernel) (pa_cons (pv 1) pa_nil)) pa_nil)) (pg_name (i := 2) sclaw_alike.nd rfl (Or.inl rfl)) (pss_one (ps_if (pt_not (pt_val (pe_call ih hr (by rfl) T.g_law_alike T.F_law_alike.kp T.bb_law_alike .nil pass0 (pa_cons (pe_ix ix_seq (pv 0) (pv 2) (fun _ _ => rfl)) (pa_cons (pe_ix ix_seq (pv 1) (pv 2) (fun _ _ => rfl)) pa_nil))))) (pss_one (ps_ret pe_bl)) pss_nil)))
      (pss_one (ps_ret pe_bl))))))))), ?_⟩
    refine ⟨fun σ' H' => σ' = [some v, some u, none] ∧ H' = H ∧ d ≠ .none, ?_, ?_⟩
    · refine ⟨_, rfl, rfl, _, rfl, ?_⟩
      cases hu with
      | non =>
        cases hv
        exact iteT ⟨_, rfl, rfl, k⟩
      | bl b => exact iteF ⟨rfl, rfl, fun e => by cases e⟩
      | int b => exact iteF ⟨rfl, rfl, fun e => by cases e⟩
      | str b => exact iteF ⟨rfl, rfl, fun e => by cases e⟩
      | lst s a => exact iteF ⟨rfl, rfl, fun e => by cases e⟩
      | tup s a => exact iteF ⟨rfl, rfl, fun e => by cases e⟩
    rintro σ1 H1 ⟨rfl, rfl, n1⟩
    refine ⟨fun σ' H' => σ' = [some v, some u, none] ∧ H' = H1 ∧ ∀ b, d ≠ .bool b, ?_, ?_⟩
    · cases hu with
      | non => exact absurd rfl n1
      | bl b =>
        have hv' := hv
        cases hv
        exact ⟨_, rfl, ⟨_, _, _, _, true, rfl, .ty _, ty_of (.bl b), kit_ty (by simp only [tyName]; decide +kernel), _, rfl, iteT ⟨_, rfl, ⟨_, _, _, _, true, rfl, .ty _, ty_of hv', kit_ty (by simp only [tyName]; decide +kernel), _, rfl, iteT ⟨_, rfl, _, rfl, rfl, (by simpa using k)⟩⟩⟩⟩⟩
      | int b => exact ⟨_, rfl, ⟨_, _, _, _, false, rfl, .ty _, ty_of (.int b), kit_ty (by simp only [tyName]; decide +kernel), _, rfl, iteF ⟨rfl, rfl, fun _ e => by cases e⟩⟩⟩
      | str b => exact ⟨_, rfl, ⟨_, _, _, _, false, rfl, .ty _, ty_of (.str b), kit_ty (by simp only [tyName]; decide +kernel), _, rfl, iteF ⟨rfl, rfl, fun _ e => by cases e⟩⟩⟩
      | lst s a => exact ⟨_, rfl, ⟨_, _, _, _, false, rfl, .ty _, ty_of (.lst s a), kit_ty (by simp only [tyName]; decide +kernel), _, rfl, iteF ⟨rfl, rfl, fun _ e => by cases e⟩⟩⟩
      | tup s a => exact ⟨_, rfl, ⟨_, _, _, _, false, rfl, .ty _, ty_of (.tup s a), kit_ty (by simp only [tyName]; decide +kernel), _, rfl, iteF ⟨rfl, rfl, fun _ e => by cases e⟩⟩⟩
    rintro σ2 H2 ⟨rfl, rfl, n2⟩
    refine ⟨fun σ' H' => σ' = [some v, some u, none] ∧ H' = H2 ∧ ∀ b, d ≠ .int b, ?_, ?_⟩
    · cases hu with
      | non => exact absurd rfl n1
      | bl b => exact absurd rfl (n2 b)
      | int b =>
        have hv' := hv
        cases hv
        exact ⟨_, rfl, ⟨_, _, _, _, true, rfl, .ty _, ty_of (.int b), kit_ty (by simp only [tyName]; decide +kernel), _, rfl, iteT ⟨_, rfl, ⟨_, _, _, _, true, rfl, .ty _, ty_of hv', kit_ty (by simp only [tyName]; decide +kernel), _, rfl, iteT ⟨_, rfl, ⟨_, _, _, _, false, rfl, .ty _, ty_of hv', kit_ty (by simp only [tyName]; decide +kernel), _, rfl, _, rfl, iteT ⟨_, rfl, _, rfl, rfl, (by simpa using k)⟩⟩⟩⟩⟩⟩⟩
      | str b => exact ⟨_, rfl, ⟨_, _, _, _, false, rfl, .ty _, ty_of (.str b), kit_ty (by simp only [tyName]; decide +kernel), _, rfl, iteF ⟨rfl, rfl, fun _ e => by cases e⟩⟩⟩
      | lst s a => exact ⟨_, rfl, ⟨_, _, _, _, false, rfl, .ty _, ty_of (.lst s a), kit_ty (by simp only [tyName]; decide +kernel), _, rfl, iteF ⟨rfl, rfl, fun _ e => by cases e⟩⟩⟩
      | tup s a => exact ⟨_, rfl, ⟨_, _, _, _, false, rfl, .ty _, ty_of (.tup s a), kit_ty (by simp only [tyName]; decide +kernel), _, rfl, iteF ⟨rfl, rfl, fun _ e => by cases e⟩⟩⟩
    rintro σ3 H3 ⟨rfl, rfl, n3⟩
    refine ⟨fun σ' H' => σ' = [some v, some u, none] ∧ H' = H3 ∧ ∀ b, d ≠ .str b, ?_, ?_⟩
    · cases hu with
      | non => exact absurd rfl n1
      | bl b => exact absurd rfl (n2 b)
      | int b => exact absurd rfl (n3 b)
      | str b =>
        have hv' := hv
        cases hv
        exact ⟨_, rfl, ⟨_, _, _, _, true, rfl, .ty _, ty_of (.str b), kit_ty (by simp only [tyName]; decide +kernel), _, rfl, iteT ⟨_, rfl, ⟨_, _, _, _, true, rfl, .ty _, ty_of hv', kit_ty (by simp only [tyName]; decide +kernel), _, rfl, iteT ⟨_, rfl, _, rfl, rfl, (by simpa using k)⟩⟩⟩⟩⟩
      | lst s a => exact ⟨_, rfl, ⟨_, _, _, _, false, rfl, .ty _, ty_of (.lst s a), kit_ty (by simp only [tyName]; decide +kernel), _, rfl, iteF ⟨rfl, rfl, fun _ e => by cases e⟩⟩⟩
      | tup s a => exact ⟨_, rfl, ⟨_, _, _, _, false, rfl, .ty _, ty_of (.tup s a), kit_ty (by simp only [tyName]; decide +kernel), _, rfl, iteF ⟨rfl, rfl, fun _ e => by cases e⟩⟩⟩
    rintro σ4 H4 ⟨rfl, rfl, n4⟩
    -- a list or a tuple
    obtain ⟨p, q, xs, ys, ds, ev, eu, sx, sy, hx, hy, hl, hfw, hdp, hty⟩ : ∃ (p q : Addr) (xs ys : List V) (ds : List PyData), v = .ref p ∧ u = .ref q ∧ (SqL K H4 p xs ∨ SqT K H4 p xs) ∧ (SqL K H4 q ys ∨ SqT K H4 q ys) ∧ DpAll K H4 xs ds ∧ DpAll K H4 ys ds ∧ ds.length ≤ 1000 ∧ fewD.fewDs ds = true ∧ PyData.depthAll ds < n ∧ (tyName d = "list" ∨ tyName d = "tuple") := by
      cases hu with
      | non => exact absurd rfl n1
      | bl b => exact absurd rfl (n2 b)
      | int b => exact absurd rfl (n3 b)
      | str b => exact absurd rfl (n4 b)
      | lst s a =>
        cases hv with
        | lst s' a' =>
          rw [fewD, Bool.and_eq_true, decide_eq_true_eq] at hf
          rw [PyData.depth] at hd
          exact ⟨_, _, _, _, _, rfl, rfl, .inl s', .inl s, a', a, hf.1, hf.2, by omega, .inl rfl⟩
      | tup s a =>
        cases hv with
        | tup s' a' =>
          rw [fewD, Bool.and_eq_true, decide_eq_true_eq] at hf
          rw [PyData.depth] at hd
          exact ⟨_, _, _, _, _, rfl, rfl, .inr s', .inr s, a', a, hf.1, hf.2, by omega, .inr rfl⟩
    have lx := dpAll_len hx
    have ly := dpAll_len hy
    refine ⟨fun σ' H' => σ' = [some v, some u, none] ∧ H' = H4, ?_, ?_⟩
    · obtain ⟨b1, e1⟩ : ∃ b, kitB (tyName d) "list" = some b := by
        rcases hty with e | e <;> rw [e]
        · exact ⟨true, by decide +kernel⟩
        · exact ⟨false, by decide +kernel⟩
      obtain ⟨b2, e2⟩ : ∃ b, kitB (tyName d) "tuple" = some b := by
        rcases hty with e | e <;> rw [e]
        · exact ⟨false, by decide +kernel⟩
        · exact ⟨true, by decide +kernel⟩
      refine ⟨_, rfl, ⟨_, _, _, _, _, rfl, .ty _, ty_of hv, kit_ty e1, _, rfl, ⟨_, _, _, _, _, rfl, .ty _, ty_of hu, kit_ty e1, rfl, _, rfl, ?_⟩⟩⟩
      have d1 : (!decide (V.bl b1 = V.bl b1)) = false := by simp
      rw [d1]
      refine iteF ⟨_, rfl, ⟨_, _, _, _, _, rfl, .ty _, ty_of hv, kit_ty e2, _, rfl, ⟨_, _, _, _, _, rfl, .ty _, ty_of hu, kit_ty e2, rfl, _, rfl, ?_⟩⟩⟩
      have d2 : (!decide (V.bl b2 = V.bl b2)) = false := by simp
      rw [d2]
      exact iteF ⟨rfl, rfl⟩
    rintro σ5 H5 ⟨rfl, rfl⟩
    refine ⟨fun σ' H' => σ' = [some v, some u, none] ∧ H' = H5, ?_, ?_⟩
    · subst ev eu
      refine ⟨_, rfl, p, xs, rfl, sx, _, rfl, q, ys, rfl, sy, rfl, _, rfl, ?_⟩
      have d1 : (!decide (V.int (xs.length : Int) = V.int (ys.length : Int))) = false := by rw [lx, ly]; simp
      rw [d1]
      exact iteF ⟨rfl, rfl⟩
    rintro σ6 H6 ⟨rfl, rfl⟩
    subst ev eu
    refine ⟨_, rfl, q, ys, rfl, sy, (ys.length : Int), rfl, ?_, ?_, ?_⟩
    · exact Int.le_trans (by decide) (Int.natCast_nonneg _)
    · have : (ys.length : Int) ≤ 1000 := by rw [ly]; exact_mod_cast hl
      exact Int.lt_of_le_of_lt this (by decide)
    refine for_range (n := (ys.length : Int).toNat) (fun i σ' H' => ∃ w0, σ' = [some (.ref p), some (.ref q), w0] ∧ H' = H6) ⟨none, rfl, rfl⟩ ?_ ?_
    · rintro i σ' H' hi ⟨w0, rfl, rfl⟩
      have hi' : i < ds.length := by rw [← ly]; simpa using hi
      obtain ⟨e, he⟩ : ∃ e, ds[i]? = some e := ⟨ds[i], List.getElem?_eq_getElem hi'⟩
      obtain ⟨x, hxi, hxe⟩ := dpAll_get' hx he
      obtain ⟨y, hyi, hye⟩ := dpAll_get' hy he
      refine ⟨_, rfl, _, rfl, ?_⟩
      refine ix_any (K := K) sx (at_of (by simp) hxi) ?_
      refine ⟨_, rfl, _, rfl, ?_⟩
      refine ix_any (K := K) sy (at_of (by simp) hyi) ?_
      exact ⟨x, y, e, rfl, hxe, hye, few_at hfw he, Nat.lt_of_le_of_lt (depth_at he) hdp, _, rfl, iteF ⟨_, rfl, rfl⟩⟩
    · rintro σ' H' ⟨w0, rfl, rfl⟩
      exact k
theorem ok_law_alike0 (T : Tx K w mg Z) : FnOk P w K mg base CX0 1 Z.a_law_alike Z.d_law_alike P_law_alike (spAlike K 0) := by
  refine T.F_law_alike.ok sclaw_alike (fun vs H Q E h => ?_) (fun cdv A outer s H vs Q E hr h => ?_)
  · obtain ⟨v, u, d, rfl, _⟩ := h
    rfl
  · obtain ⟨v, u, d, rfl, hv, hu, hf, hd, k⟩ := h
    exact absurd hd (Nat.not_lt_zero _)
theorem ok_law_alike (T : Tx K w mg Z) : ∀ n, FnOk P w K mg base CX0 (n + 1) Z.a_law_alike Z.d_law_alike P_law_alike (spAlike K n)
  | 0 => ok_law_alike0 T
  | n + 1 => ok_law_alike_of T (ok_law_alike T n)
end
end KA
namespace KA
open PySem PySem.Spec PyProof.Rows L2 DP
/-! ### the hidden hand -/
theorem leads_shift {L x k : Int} (hL : 0 < L) (steps : List Pr) : leads L steps (x + k * L) = (leads L steps x).map (· + k * L) := by
  unfold leads
  rw [List.map_map]
  refine List.map_congr_left fun s _ => ?_
  show s.2 + (x + k * L - s.1) / L * L = s.2 + (x - s.1) / L * L + k * L
  have e : x + k * L - s.1 = (x - s.1) + k * L := by omega
  rw [e, Int.add_mul_ediv_right _ _ (by omega), Int.add_mul]
  omega
theorem max_shift {L x k m : Int} (hL : 0 < L) {steps : List Pr} (h : IsMaxL (leads L steps x) m) : IsMaxL (leads L steps (x + k * L)) (m + k * L) := by
  rw [leads_shift hL]
  refine ⟨List.mem_map.mpr ⟨m, h.1, rfl⟩, fun y hy => ?_⟩
  obtain ⟨z, hz, e⟩ := List.mem_map.mp hy
  have := h.2 z hz
  have e' : z + k * L = y := e
  omega
theorem max_mono {L x x' m m' : Int} (hL : 0 < L) {steps : List Pr} (hx : x ≤ x') (h : IsMaxL (leads L steps x) m) (h' : IsMaxL (leads L steps x') m') : m ≤ m' := by
  obtain ⟨s, hs, e⟩ := List.mem_map.mp h.1
  have h1 := h'.2 _ (List.mem_map.mpr ⟨s, hs, rfl⟩)
  have h2 : (x - s.1) / L ≤ (x' - s.1) / L := Int.ediv_le_ediv hL (by omega)
  have h3 := Int.mul_le_mul_of_nonneg_right h2 (Int.le_of_lt hL)
  omega
theorem max_one {l : List Int} {m m' : Int} (h : IsMaxL l m) (h' : IsMaxL l m') : m = m' := by
  have := h.2 _ h'.1
  have := h'.2 _ h.1
  omega
/-- what a true look says, wherever it stands -/
def Says (L : Int) (steps : List Pr) (l : Lk) : Prop := ∃ x k m, l.2.1 = x + k * L ∧ IsMaxL (leads L steps x) m ∧ (l.1 = "at" → l.2.2 = m + k * L) ∧ (l.1 = "from" → l.2.2 ≤ m + k * L) ∧ (l.1 = "upto" → m + k * L ≤ l.2.2)
theorem says_home {L : Int} {steps : List Pr} {l : Lk} (h : Says L steps l) : Says L steps (home L l) := by
  obtain ⟨x, k, m, h1, h2, h3, h4, h5⟩ := h
  refine ⟨x, k - l.2.1 / L, m, ?_, h2, fun e => ?_, fun e => ?_, fun e => ?_⟩
  · show l.2.1 - l.2.1 / L * L = x + (k - l.2.1 / L) * L
    rw [Int.sub_mul]; omega
  · have := h3 e
    show l.2.2 - l.2.1 / L * L = m + (k - l.2.1 / L) * L
    rw [Int.sub_mul]; omega
  · have := h4 e
    show l.2.2 - l.2.1 / L * L ≤ m + (k - l.2.1 / L) * L
    rw [Int.sub_mul]; omega
  · have := h5 e
    show m + (k - l.2.1 / L) * L ≤ l.2.2 - l.2.1 / L * L
    rw [Int.sub_mul]; omega
theorem side_low {x : Str} (h : onSide "slow" x = true) : x = "at" ∨ x = "from" := by
  unfold onSide at h
  rw [if_pos rfl, Bool.or_eq_true, decide_eq_true_eq, decide_eq_true_eq] at h
  exact h
theorem side_high {x : Str} (h : onSide "fast" x = true) : x = "at" ∨ x = "upto" := by
  unfold onSide at h
  rw [if_neg slow_ne, Bool.or_eq_true, decide_eq_true_eq, decide_eq_true_eq] at h
  exact h
theorem no_far {L : Int} (hL : 0 < L) {steps : List Pr} {a b : Lk} (ha : Says L steps a) (hb : Says L steps b) : tooFar a b L = false := by
  unfold tooFar
  cases c1 : onSide "slow" a.1 with
  | false => rfl
  | true =>
    cases c2 : onSide "fast" b.1 with
    | false => rfl
    | true =>
      rw [Bool.true_and, Bool.true_and, decide_eq_false_iff_not, plc_slow]
      obtain ⟨x, k, m, h1, h2, h3, h4, h5⟩ := ha
      obtain ⟨x', k', m', h1', h2', h3', h4', h5'⟩ := hb
      have low : a.2.2 ≤ m + k * L := by
        rcases side_low c1 with e | e
        · exact Int.le_of_eq (h3 e)
        · exact h4 e
      have high : m' + k' * L ≤ b.2.2 := by
        rcases side_high c2 with e | e
        · exact Int.le_of_eq (h3' e).symm
        · exact h5' e
      have hj : (b.2.1 - a.2.1) / L * L ≤ b.2.1 - a.2.1 := by
        have := Int.mul_ediv_add_emod (b.2.1 - a.2.1) L
        have h0 := Int.emod_nonneg (b.2.1 - a.2.1) (show L ≠ 0 by omega)
        rw [Int.mul_comm] at this
        omega
      generalize (b.2.1 - a.2.1) / L = j at hj ⊢
      have hx : x + (k + j - k') * L ≤ x' := by
        rw [Int.sub_mul, Int.add_mul]; omega
      have := max_mono hL hx (max_shift hL h2) h2'
      rw [Int.sub_mul, Int.add_mul] at this
      omega
theorem no_clash {L : Int} (hL : 0 < L) {steps : List Pr} {a b : Lk} (ha : Says L steps a) (hb : Says L steps b) : clashB a b L = false := by
  unfold clashB
  rw [no_far hL ha hb, no_far hL hb ha]; rfl
theorem TrueLk.says {L : Int} {steps : List Pr} {l : Lk} (h : TrueLk L steps l) : Says L steps l := h.ex
/-! ### what a Dark tells and what the looks tell -/
theorem plc_home {L : Int} (hL : 0 < L) (sd : Str) (l : Lk) (x : Int) : plc sd (home L l) x L = plc sd l x L := by
  unfold plc home
  split
  · show l.2.2 - l.2.1 / L * L + (x - (l.2.1 - l.2.1 / L * L)) / L * L = l.2.2 + (x - l.2.1) / L * L
    have e : x - (l.2.1 - l.2.1 / L * L) = (x - l.2.1) + l.2.1 / L * L := by omega
    rw [e, Int.add_mul_ediv_right _ _ (by omega), Int.add_mul]; omega
  · show l.2.2 - l.2.1 / L * L - (l.2.1 - l.2.1 / L * L - x) / L * L = l.2.2 - (l.2.1 - x) / L * L
    have e : l.2.1 - l.2.1 / L * L - x = (l.2.1 - x) + (-(l.2.1 / L)) * L := by rw [Int.neg_mul]; omega
    rw [e, Int.add_mul_ediv_right _ _ (by omega), Int.add_mul, Int.neg_mul]; omega
theorem fold_mem {L : Int} : ∀ (ls acc : List Lk) (o : Lk), o ∈ ls.foldl (heard L) acc ↔ o ∈ acc ∨ ∃ l ∈ ls, o = home L l
  | [], acc, o => by simp
  | l :: ls, acc, o => by
    rw [List.foldl_cons, fold_mem ls, heard_mem]
    constructor
    · rintro ((h | h) | ⟨q, hq, e⟩)
      · exact .inl h
      · exact .inr ⟨l, List.mem_cons_self, h⟩
      · exact .inr ⟨q, List.mem_cons_of_mem _ hq, e⟩
    · rintro (h | ⟨q, hq, e⟩)
      · exact .inl (.inl h)
      · rcases List.mem_cons.mp hq with h | h
        · subst h; exact .inl (.inr e)
        · exact .inr ⟨q, h, e⟩
theorem fold_len {L : Int} : ∀ (ls acc : List Lk), (ls.foldl (heard L) acc).length ≤ acc.length + ls.length
  | [], acc => by simp
  | l :: ls, acc => by
    have h1 := fold_len (L := L) ls (heard L acc l)
    have h2 := heard_len L acc l
    rw [List.foldl_cons, List.length_cons]; omega
theorem mem_side {sd : Str} {ls : List Lk} {l : Lk} : l ∈ sideOf sd ls ↔ l ∈ ls ∧ onSide sd l.1 = true := by
  unfold sideOf; rw [List.mem_filter]
/-- the best of the looks is the best of them brought home -/
theorem best_home {L : Int} (hL : 0 < L) {sd : Str} {ls hs : List Lk} {x m : Int} (hh : ∀ o, o ∈ hs ↔ ∃ l ∈ ls, o = home L l) (h : IsBest sd (sideOf sd hs) x L m) : IsBest sd (sideOf sd ls) x L m := by
  obtain ⟨⟨o, ho, e⟩, h2⟩ := h
  obtain ⟨ho1, ho2⟩ := mem_side.mp ho
  obtain ⟨l, hl, rfl⟩ := (hh o).mp ho1
  rw [plc_home hL] at e
  refine ⟨⟨l, mem_side.mpr ⟨hl, ho2⟩, e⟩, fun q hq => ?_⟩
  obtain ⟨hq1, hq2⟩ := mem_side.mp hq
  have := h2 (home L q) (mem_side.mpr ⟨(hh _).mpr ⟨q, hq1, rfl⟩, hq2⟩)
  rw [plc_home hL] at this
  exact this
theorem best_one {sd : Str} {ls : List Lk} {x L m m' : Int} (h : IsBest sd ls x L m) (h' : IsBest sd ls x L m') : m = m' := by
  obtain ⟨⟨a, ha, ea⟩, h2⟩ := h
  obtain ⟨⟨b, hb, eb⟩, h2'⟩ := h'
  have q1 := h2 b hb
  have q2 := h2' a ha
  rw [eb] at q1
  rw [ea] at q2
  split at q1 <;> split at q2 <;> first | omega | (exfalso; simp_all)
theorem side_nil {L : Int} {sd : Str} {ls hs : List Lk} (hh : ∀ o, o ∈ hs ↔ ∃ l ∈ ls, o = home L l) : sideOf sd hs = [] ↔ sideOf sd ls = [] := by
  constructor
  · intro h
    refine List.eq_nil_iff_forall_not_mem.mpr fun l hl => ?_
    obtain ⟨h1, h2⟩ := mem_side.mp hl
    have : home L l ∈ sideOf sd hs := mem_side.mpr ⟨(hh _).mpr ⟨l, h1, rfl⟩, h2⟩
    rw [h] at this; cases this
  · intro h
    refine List.eq_nil_iff_forall_not_mem.mpr fun o ho => ?_
    obtain ⟨h1, h2⟩ := mem_side.mp ho
    obtain ⟨l, hl, rfl⟩ := (hh o).mp h1
    have : l ∈ sideOf sd ls := mem_side.mpr ⟨hl, h2⟩
    rw [h] at this; cases this
def spMade (Z : Ad) (K : PySem.W.Frag) : Sp := fun vs H Q _ => ∃ (v : V) (L : Int) (ls : List Lk), vs = [.int L, v] ∧ Dp K H v (.list (ls.map encL)) ∧ 0 < L ∧ L.natAbs < 2 ^ 200 ∧ (∀ l ∈ ls, WordOk l.1 ∧ Sized 300 l) ∧ (∀ a ∈ ls, ∀ b ∈ ls, clashB a b L = false) ∧ ls.length ≤ 58 ∧
  ∀ (H' : Hp) (d : Addr), H d = none → Same H H' → DarkAt Z K H' d L (ls.foldl (heard L) []) → (∀ la dx, H' d = some (.ins Z.C dx (df L la)) → H la = none) → Q (.ref d) H'
theorem plc_shift {L : Int} (hL : 0 < L) (sd : Str) (l : Lk) (x k : Int) : plc sd l (x + k * L) L = plc sd l x L + k * L := by
  unfold plc
  split
  · have e : x + k * L - l.2.1 = (x - l.2.1) + k * L := by omega
    rw [e, Int.add_mul_ediv_right _ _ (by omega), Int.add_mul]; omega
  · have e : l.2.1 - (x + k * L) = (l.2.1 - x) + (-k) * L := by rw [Int.neg_mul]; omega
    rw [e, Int.add_mul_ediv_right _ _ (by omega), Int.add_mul, Int.neg_mul]; omega
theorem far_home {L : Int} (hL : 0 < L) (a b : Lk) : tooFar (home L a) (home L b) L = tooFar a b L := by
  unfold tooFar
  have e1 : (home L b).2.2 = b.2.2 - b.2.1 / L * L := rfl
  have e2 : (home L b).2.1 = b.2.1 + (-(b.2.1 / L)) * L := by show b.2.1 - b.2.1 / L * L = _; rw [Int.neg_mul]; omega
  rw [e1, e2, plc_home hL, plc_shift hL, Int.neg_mul]
  congr 1
  rw [decide_eq_decide]
  constructor <;> intro h <;> omega
theorem clash_home {L : Int} (hL : 0 < L) (a b : Lk) : clashB (home L a) (home L b) L = clashB a b L := by
  unfold clashB
  rw [far_home hL, far_home hL]
def spSpot (K : PySem.W.Frag) : Sp := fun vs H Q _ => ∃ (t g p : Addr) (n : Nat) (L : Int) (ls : List Lk), vs = [.ref t, .int L, .ref p] ∧ Tray H t g n ∧ n < 2 ^ 44 ∧ 0 < L ∧ L ≤ 10 ^ 30 ∧ LAt K H p (ls.map encL) ∧ p ≠ t ∧ p ≠ g ∧ (∀ l ∈ ls, WordOk l.1 ∧ Sized 270 l) ∧ ls.length ≤ 100 ∧
  ∀ (H' : Hp) (r : Int), At H H' t g (n + 20) → r.natAbs < 2 ^ 280 → Q (.int r) H'
section
variable {P : Program} {w : World} {K : PySem.W.Frag} {mg : Str → Option Value} {base : Heap} {Z : Ad}
theorem ok_law_made (T : Tx K w mg Z) : FnOk P w K mg base CX0 6 Z.a_law_made Z.d_law_made P_law_made (spMade Z K) := by
  refine T.F_law_made.ok sclaw_made (fun vs H Q E h => ?_) (fun cdv A outer s H vs Q E hr h => ?_)
  · obtain ⟨v, L, ls, rfl, _⟩ := h
    rfl
  · obtain ⟨v, L, ls, rfl, hv, hL, hLb, htr, hnc, hlen, k⟩ := h
    obtain ⟨a, xs, rfl, ha, hd⟩ := dp_list hv
    have hxl : xs.length = ls.length := by rw [dpAll_len hd, List.length_map]
    refine ⟨_, (pss_cons (ps_set (i := 2) sclaw_made.nd rfl (Or.inl rfl) (pe_make T.mk_Dark (ok_Dark_init T) (hr.mono (by decide)) (by rfl) T.g_Dark T.bb_Dark_init .nil pass0 (pa_cons (pv 0) pa_nil)))
      (pss_cons (ps_for PassesOwn.never rfl (pi_list (pv 1)) (pg_name (i := 3) sclaw_made.nd rfl (Or.inl rfl)) (pss_one (ps_expr (pe_meth (pv 2) T.cl T.m_Dark_hear (ok_Dark_hear T) (hr.mono (by decide)) T.bb_Dark_hear .nil pass0 (pa_cons (pe_ix (ixT (K := K)) (pv 3) pe_int (fun _ _ => rfl)) (pa_cons (pe_ix (ixT (K := K)) (pv 3) pe_int (fun _ _ => rfl)) (pa_cons (pe_ix (ixT (K := K)) (pv 3) pe_int (fun _ _ => rfl)) pa_nil)))))))
      (pss_one (ps_ret (pv 2))))), ?_⟩
    refine ⟨_, rfl, fun d dx hdn hdx hne => ?_⟩
    have S0 : Same H (upd (upd H dx (.own d)) d (.ins Z.C dx [])) := fun b o e => by
      rw [upd_ne (ne_of_none e hdn), upd_ne (ne_of_none e hdx)]; exact e
    refine ⟨d, dx, L, rfl, upd_same, hL, hLb, fun H1 D1 f1 k1 => ⟨rfl, ?_⟩⟩
    have S1 : Same H H1 := fun b o e => k1 b o (S0 b o e) (ne_of_none e hdn)
    refine ⟨_, rfl, a, rfl, ⟨_, Same.sqL S1 ha⟩, ?_⟩
    refine for_list (K := K) (a := a) (xs := xs) (fun i σ' H' => ∃ u, σ' = [some (.int L), some (.ref a), some (.ref d), u] ∧ Same H H' ∧ DarkAt Z K H' d L ((ls.take i).foldl (heard L) []) ∧ ∀ la dx, H' d = some (.ins Z.C dx (df L la)) → H la = none) ⟨none, rfl, S1, D1, fun la dx e => S0.free (f1 la dx e)⟩ (fun i σ' H' _ ⟨_, _, S, _⟩ => Same.sqL S ha) ?_ ?_
    · rintro i y σ' H' hi ⟨u, rfl, S, D, F⟩
      obtain ⟨e, hdi, hdy⟩ := dpAll_get hd hi
      obtain ⟨l, hl, rfl⟩ := map_at hdi
      have hlm := List.mem_of_getElem? hl
      have hi' : i < ls.length := (List.getElem?_eq_some_iff.mp hl).1
      obtain ⟨p, rfl, hp⟩ := dp_look (dp_mono S _ _ hdy)
      obtain ⟨dx', la, vs, g1, g2, g3⟩ := id D.ex
      have hfl := fold_len (L := L) (ls.take i) []
      refine ⟨_, rfl, d, dx', _, rfl, g1, df_no _ _ (by decide +kernel) (by decide +kernel), ?_⟩
      refine ⟨_, rfl, _, _, _, _, rfl, rfl, hp, rfl, _, rfl, _, _, _, _, rfl, rfl, hp, rfl, _, rfl, _, _, _, _, rfl, rfl, hp, rfl, ?_⟩
      refine ⟨d, L, _, l, rfl, D, (htr l hlm).1, (htr l hlm).2, ?_, fun o ho => ?_, fun H2 D2 f2 k2 => ?_⟩
      · rw [List.length_take] at hfl; simp at hfl; omega
      · obtain h | ⟨q, hq, e⟩ := (fold_mem _ _ _).mp ho
        · cases h
        · rw [e]
          rw [clash_home hL]
          exact hnc l hlm q (List.mem_of_mem_take hq)
      · refine ⟨_, rfl, fun b o e => k2 b o (S b o e) (ne_of_none e hdn), ?_⟩
        rw [take_snoc hl, List.foldl_append]
        refine ⟨D2, fun la dx e => ?_⟩
        rcases f2 la dx e with ⟨dx', h⟩ | h
        · exact F la dx' h
        · exact S.free h
    · rintro σ' H' ⟨u, rfl, S, D, F⟩
      rw [List.take_of_length_le (by rw [hxl]; exact Nat.le_refl _)] at D
      exact ⟨_, rfl, k H' d hdn S D F⟩
theorem ok_law_spot (T : Tx K w mg Z) : FnOk P w K mg base CX0 3 Z.a_law_spot Z.d_law_spot P_law_spot (spSpot K) := by
  refine T.F_law_spot.ok sclaw_spot (fun vs H Q E h => ?_) (fun cdv A outer s H vs Q E hr h => ?_)
  · obtain ⟨t, g, p, n, L, ls, rfl, _⟩ := h
    rfl
  · obtain ⟨t, g, p, n, L, ls, rfl, hT, hn, hL, hL30, hp, hpt, hpg, hok, hlen, k⟩ := h
    have hLb := bigL hL hL30
    have hb : ∀ m, m ≤ n + 30 → m < 2 ^ 49 := fun m hm => Nat.lt_of_le_of_lt hm (Nat.lt_of_lt_of_le (Nat.add_lt_add_right hn 30) (by decide))
    have hb' : ∀ m, m ≤ n + 30 → m < 2 ^ 60 := fun m hm => Nat.lt_trans (hb m hm) (by decide)
    have A0 : At H H t g n := ⟨hT, Keep.refl _ _ _⟩
    have nl := noLs_map noL_encL ls
    refine ⟨_, (pss_cons (ps_set (i := 3) sclaw_spot.nd rfl (Or.inl rfl) (pe_call (ok_law_draw T) (hr.mono (by decide)) (by rfl) T.g_law_draw T.F_law_draw.kp T.bb_law_draw .nil pass0 (pa_cons (pv 0) (pa_cons pe_int pa_nil))))
      (pss_cons (ps_set (i := 4) sclaw_spot.nd rfl (Or.inl rfl) (pe_call (ok_law_draw T) (hr.mono (by decide)) (by rfl) T.g_law_draw T.F_law_draw.kp T.bb_law_draw .nil pass0 (pa_cons (pv 0) (pa_cons (pv 1) pa_nil))))
      (C8.pss_cut (ps_if (PW.pt (pw_and (pt_cmpR (neDK (K := K) hr.units) (pv 2) (pe_lst pa_nil) (nomark _)) (pw_and1 (pt_cmpR op_lt (pv 3) pe_int (nomark _))))) (pss_one (ps_set (i := 4) sclaw_spot.nd rfl (Or.inl rfl) (pe_op op_add (pe_ix (ixT (K := K)) (pe_ix (ixL (K := K)) (pv 2) (pe_call (ok_law_draw T) (hr.mono (by decide)) (by rfl) T.g_law_draw T.F_law_draw.kp T.bb_law_draw .nil pass0 (pa_cons (pv 0) (pa_cons (pe_callB (lenK (K := K)) (by rfl) T.b_len (by decide +kernel) (pa_cons (pv 2) pa_nil)) pa_nil))) (fun _ _ => rfl)) pe_int (fun _ _ => rfl)) (pe_ix (ixL (K := K)) (pe_lst (pa_cons pe_int (pa_cons pe_int (pa_cons (pe_un un_neg pe_int) pa_nil)))) (pv 3) (fun _ _ => rfl))))) pss_nil)
      (pss_one (ps_ret (pe_op op_add (pv 4) (pe_op op_mulW (pe_ix (ixL (K := K)) (pe_lst (pa_cons pe_int (pa_cons (pe_op op_sub (pe_call (ok_law_draw T) (hr.mono (by decide)) (by rfl) T.g_law_draw T.F_law_draw.kp T.bb_law_draw .nil pass0 (pa_cons (pv 0) (pa_cons pe_int pa_nil))) pe_int) (pa_cons (pe_op op_fdivW (pe_call (ok_law_great T) (hr.mono (by decide)) (by rfl) T.g_law_great T.F_law_great.kp T.bb_law_great .nil pass0 (pa_cons (pv 0) pa_nil)) (pe_op op_pow pe_int pe_int)) pa_nil)))) (pe_call (ok_law_draw T) (hr.mono (by decide)) (by rfl) T.g_law_draw T.F_law_draw.kp T.bb_law_draw .nil pass0 (pa_cons (pv 0) (pa_cons pe_int pa_nil))) (fun _ _ => rfl)) (pv 1)))))))), ?_⟩
    refine ⟨_, rfl, t, g, n, 4, rfl, hT, by decide, by decide, hb' _ (by omega), fun H1 lot l0 l1 T1 k1 => ?_⟩
    have A1 := A0.step T1 k1
    refine ⟨_, rfl, _, rfl, t, g, n + 1, L, rfl, T1, hL, lt_up hLb (by decide), hb' _ (by omega), fun H2 s0 s1 s2 T2 k2 => ?_⟩
    have A2 := A1.step T2 k2
    have hp2 := (hp.keep hT k1 hpt hpg nl).keep T1 k2 hpt hpg nl
    have hs0 : s0.natAbs < 2 ^ 275 := small_nat s1 (Int.le_of_lt s2) (lt_up hLb (by decide))
    refine ⟨fun σ' H' => ∃ x : Int, σ' = [some (.ref t), some (.int L), some (.ref p), some (.int lot), some (.int x)] ∧ x.natAbs < 2 ^ 275 ∧ At H H' t g (n + 4), ?_, ?_⟩
    · obtain ⟨vs2, hv1, hv2⟩ := id hp2
      refine ⟨_, rfl, (by show 0 ≤ sizeLine; decide), fun q hq => ?_⟩
      have S3 := same_upd (o := HO.lst []) hq
      have A3 := A2.new (o := HO.lst []) hq
      have hp3 := hp2.same S3
      refine ⟨_, _, hp3.dp, .lst (SqL.of upd_same) .nil, shaped_looks fun l hl => (hok l hl).1, rfl, _, rfl, ?_⟩
      cases ls with
      | nil => exact iteF (iteF ⟨s0, rfl, hs0, A3.up (by omega)⟩)
      | cons l1' lr =>
        refine iteT ⟨_, rfl, _, _, rfl, rfl, _, rfl, ?_⟩
        refine ite2 (fun c => ?_) (fun _ => ⟨s0, rfl, hs0, A3.up (by omega)⟩)
        have c' := of_decide_eq_true c
        obtain ⟨vs3, hw1, hw2⟩ := id hp3
        have hvl : vs3.length = (l1' :: lr).length := by rw [dpAll_len hw2, List.length_map]
        have hpos : 0 < vs3.length := by rw [hvl]; simp
        refine ⟨_, rfl, _, rfl, _, rfl, p, vs3, rfl, .inl (SqL.of hw1), t, g, n + 2, (vs3.length : Int), rfl, A3.T, by omega, Nat.lt_of_le_of_lt (by rw [hvl]; exact hlen : vs3.length ≤ 100) (by decide), hb' _ (by omega), fun H4 i0 i1 i2 T4 k4 => ?_⟩
        have A4 := A3.step T4 k4
        obtain ⟨vs4, hx1, hx2⟩ := hp3.keep A3.T k4 hpt hpg nl
        have hi : i0.toNat < (l1' :: lr).length := by rw [← hvl]; omega
        obtain ⟨l, hl⟩ : ∃ l, (l1' :: lr)[i0.toNat]? = some l := ⟨_, List.getElem?_eq_getElem hi⟩
        obtain ⟨v0, hv0, hd0⟩ := dpAll_get' hx2 (show ((l1' :: lr).map encL)[i0.toNat]? = some (encL l) by rw [List.getElem?_map, hl]; rfl)
        obtain ⟨a0, rfl, hq0⟩ := dp_look hd0
        refine ⟨p, vs4, _, _, rfl, rfl, SqL.of hx1, at_of (j := i0.toNat) (by omega) hv0, a0, _, _, _, rfl, rfl, hq0, rfl, ?_⟩
        refine ⟨_, rfl, (by show 3 ≤ sizeLine; decide), fun q2 hq2 => ?_⟩
        have hlot : ∃ j : Int, atI [V.int 0, .int 1, .int (-1)] lot = some (.int j) ∧ j.natAbs < 2 ^ 2 := by
          have : lot = 0 ∨ lot = 1 ∨ lot = 2 := by omega
          rcases this with e | e | e <;> subst e
          · exact ⟨0, rfl, by decide⟩
          · exact ⟨1, rfl, by decide⟩
          · exact ⟨-1, rfl, by decide⟩
        obtain ⟨j, hj, hjb⟩ := hlot
        refine ⟨_, rfl, q2, _, _, _, rfl, rfl, SqL.of upd_same, hj, _, _, rfl, rfl, ?_⟩
        exact ⟨_, rfl, lt_up (add_lt (hok l (List.mem_of_getElem? hl)).2.1 (lt_up hjb (by decide))) (by decide), (A4.new hq2).up (by omega)⟩
    · rintro σ' H3 ⟨x, rfl, hx, A3⟩
      refine ⟨_, rfl, _, rfl, t, g, n + 4, 5, rfl, A3.T, by decide, by decide, hb' _ (by omega), fun H4 f0 f1 f2 T4 k4 => ?_⟩
      have A4 := A3.step T4 k4
      refine ⟨_, _, rfl, rfl, _, rfl, t, g, n + 5, rfl, T4, Nat.lt_trans (hb _ (by omega)) (by decide), fun H5 g0 g1 g2 T5 k5 => ?_⟩
      have A5 := A4.step T5 k5
      refine ⟨_, _, rfl, rfl, ⟨by decide, by decide, by decide⟩, _, _, rfl, rfl, wide_div (b := 110) (by decide) (by decide) (by decide) (by decide), (by show 3 ≤ sizeLine; decide), fun q4 hq4 => ?_⟩
      obtain ⟨q4t, q4g⟩ := T5.at_ne hq4
      have A6 := A5.new (o := HO.lst [V.int 0, .int (f0 - 2), .int (g0 / 10 ^ (31 : Int).toNat)]) hq4
      refine ⟨_, rfl, t, g, n + 9, 3, rfl, A6.T, by decide, by decide, hb' _ (by omega), fun H7 h0 h1 h2 T7 k7 => ?_⟩
      have A7 := A6.step T7 k7
      have hturn : ∃ kk : Int, atI [V.int 0, .int (f0 - 2), .int (g0 / 10 ^ (31 : Int).toNat)] h0 = some (.int kk) ∧ kk.natAbs < 2 ^ 169 := by
        have c1 : (f0 - 2).natAbs < 2 ^ 169 := Nat.lt_of_le_of_lt (by omega : (f0 - 2).natAbs ≤ 7) (by decide)
        have c2 : (g0 / 10 ^ (31 : Int).toNat).natAbs < 2 ^ 169 := by
          have h1 : g0 / 10 ^ (31 : Int).toNat ≤ 10 ^ 59 / 10 ^ (31 : Int).toNat := Int.ediv_le_ediv (by decide) (Int.le_of_lt g2)
          have h0 : 0 ≤ g0 / 10 ^ (31 : Int).toNat := Int.ediv_nonneg g1 (by decide)
          exact small_nat h0 h1 (by decide)
        have : h0 = 0 ∨ h0 = 1 ∨ h0 = 2 := by omega
        rcases this with e | e | e <;> subst e
        · exact ⟨0, rfl, by decide⟩
        · exact ⟨_, rfl, c1⟩
        · exact ⟨_, rfl, c2⟩
      obtain ⟨kk, hkk, hkb⟩ := hturn
      refine ⟨q4, _, _, _, rfl, rfl, SqL.of (k7 _ _ upd_same q4t q4g), hkk, _, rfl, _, _, rfl, rfl, wide_mul hkb hLb (by decide) (by decide) (by decide), _, _, rfl, rfl, ?_⟩
      exact k _ _ (A7.up (by omega)) (lt_up (add_lt hx (lt_up (wide_lt hkb hLb) (by decide))) (by decide))
end
end KA
namespace KA
open PySem PySem.Spec PyProof.Rows L2 DP
def spCan (K : PySem.W.Frag) : Sp := fun vs H Q _ => ∃ (v u : V) (L : Int) (ls : List Lk) (l : Lk), vs = [.int L, v, u] ∧ Dp K H v (.list (ls.map encL)) ∧ Dp K H u (encL l) ∧ 0 < L ∧ L.natAbs < 2 ^ 200 ∧ (∀ l ∈ ls, WordOk l.1 ∧ Sized 300 l) ∧ (∀ a ∈ ls, ∀ b ∈ ls, clashB a b L = false) ∧ ls.length ≤ 58 ∧ WordOk l.1 ∧ Sized 300 l ∧
  ∀ H', Same H H' → Q (.bl (!ls.any fun q => clashB l q L)) H'
section
variable {P : Program} {w : World} {K : PySem.W.Frag} {mg : Str → Option Value} {base : Heap} {Z : Ad} {Y : AdX}
theorem ok_law_can_hear (T : Tx K w mg Z) (X : Ex P K mg Y) : FnOk P w K mg base CX0 8 Z.a_law_can_hear Z.d_law_can_hear P_law_can_hear (spCan K) := by
  refine T.F_law_can_hear.ok sclaw_can_hear (fun vs H Q E h => ?_) (fun cdv A outer s H vs Q E hr h => ?_)
  · obtain ⟨v, u, L, ls, l, rfl, _⟩ := h
    rfl
  · obtain ⟨v, u, L, ls, l, rfl, hv, hu, hL, hLb, hok, hnc, hlen, hw, hl, k⟩ := h
    refine ⟨_, (pss_cons (ps_set (i := 3) sclaw_can_hear.nd rfl (Or.inl rfl) (pe_call (ok_law_made T) (hr.mono (by decide)) (by rfl) T.g_law_made T.F_law_made.kp T.bb_law_made .nil pass0 (pa_cons (pv 0) (pa_cons (pv 1) pa_nil))))
      (pss_cons (ps_set (i := 4) sclaw_can_hear.nd rfl (Or.inl rfl) pe_bl)
      (pss_cons (ps_try_only (tb := fun W => tDrop (tMethX Z.C "hear" (spHearX Z K Y.c_Clash) (WE W) (tVar 3) (tCons (tOp (rIxT K) (tVar 2) (tC (.int 0))) (tCons (tOp (rIxT K) (tVar 2) (tC (.int 1))) (tCons (tOp (rIxT K) (tVar 2) (tC (.int 2))) tNil))))) (ts := fun _ _ _ => tAsg (tC (.bl false)) (gName 4)) (Wout := fun _ _ _ _ => False) rfl rfl ⟨rfl, by decide, Or.inl X.g_Clash⟩ takes0
        (fun W pn xe tk _ => pss_one (ps_expr (pe_methX (pv 3) T.cl T.m_Dark_hear (ok_Dark_hearX T X) (hr.mono (by decide)) T.bb_Dark_hear (fun σ => passAt tk σ) (pa_cons (pe_ix (ixT (K := K)) (pv 2) pe_int (fun _ _ => rfl)) (pa_cons (pe_ix (ixT (K := K)) (pv 2) pe_int (fun _ _ => rfl)) (pa_cons (pe_ix (ixT (K := K)) (pv 2) pe_int (fun _ _ => rfl)) pa_nil))))))
        (fun a oe cls d pn hz hf => pss_one (ps_set (i := 4) sclaw_can_hear.nd rfl (Or.inl rfl) pe_bl)))
      (pss_one (ps_ret (pv 4)))))), ?_⟩
    obtain ⟨p2, rfl, hp2⟩ := dp_look hu
    refine ⟨_, rfl, _, rfl, v, L, ls, rfl, hv, hL, hLb, hok, hnc, hlen, fun H1 d hdn S1 D F => ?_⟩
    have hh : ∀ o, o ∈ ls.foldl (heard L) [] ↔ ∃ l ∈ ls, o = home L l := fun o => by rw [fold_mem]; simp
    have hfl := fold_len (L := L) ls []
    generalize ls.foldl (heard L) [] = hs at D hh hfl
    obtain ⟨dx, la, vs, g1, g2, g3⟩ := id D.ex
    have hp1 := Same.sqT S1 hp2
    refine ⟨_, rfl, d, dx, _, rfl, g1, df_no _ _ (by decide +kernel) (by decide +kernel), _, rfl, _, _, _, _, rfl, rfl, hp1, rfl, _, rfl, _, _, _, _, rfl, rfl, hp1, rfl, _, rfl, _, _, _, _, rfl, rfl, hp1, rfl, ?_⟩
    refine ⟨d, L, hs, l, rfl, D, hw, hl, by simp at hfl; omega, fun hno H2 D2 f2 k2 => ?_, fun o hf dd x H2 S2 hd hx hn => ⟨true, X.m_Clash, fun _ a0 _ => ?_, fun q => Bool.noConfusion q⟩⟩
    · have e : (!ls.any fun q => clashB l q L) = true := by
        rw [Bool.not_eq_true', List.any_eq_false]
        intro q hq
        have := hno (home L q) ((hh _).mpr ⟨q, hq, rfl⟩)
        rw [clash_home hL] at this
        rw [this]; exact Bool.false_ne_true
      have kk := k H2 (fun b o e => k2 b o (S1 b o e) (ne_of_none e hdn))
      rw [e] at kk
      exact ⟨_, rfl, kk⟩
    · have e : (!ls.any fun q => clashB l q L) = false := by
        rw [Bool.not_eq_false', List.any_eq_true]
        obtain ⟨q, hq, eq⟩ := (hh o).mp (List.mem_of_find?_eq_some hf)
        refine ⟨q, hq, ?_⟩
        have h1 := List.find?_some hf
        rw [eq, clash_home hL] at h1
        exact h1
      have kk := k H2 (S1.trans S2)
      rw [e] at kk
      exact ⟨_, rfl, kk⟩
end
end KA
namespace KA
open PySem PySem.Spec PyProof.Rows L2 DP
theorem tells_home {L : Int} (hL : 0 < L) {sd : Str} {ls hs : List Lk} {x : Int} {v u : V} (hh : ∀ o, o ∈ hs ↔ ∃ l ∈ ls, o = home L l) (h : Tells sd ls x L v) (h' : Tells sd hs x L u) : u = v := by
  rcases h with ⟨e, rfl⟩ | ⟨m, rfl, b⟩
  · rcases h' with ⟨_, rfl⟩ | ⟨m, rfl, b⟩
    · rfl
    · obtain ⟨⟨l, hl, _⟩, _⟩ := b
      rw [(side_nil hh).mpr e] at hl; cases hl
  · rcases h' with ⟨e, rfl⟩ | ⟨m', rfl, b'⟩
    · obtain ⟨⟨l, hl, _⟩, _⟩ := b
      rw [(side_nil hh).mp e] at hl; cases hl
    · rw [best_one b (best_home hL hh b')]
theorem DarkAt.keep {Z : Ad} {K : PySem.W.Frag} {H H' : Hp} {t g d : Addr} {n : Nat} {L : Int} {ls : List Lk} (D : DarkAt Z K H d L ls) (T : Tray H t g n) (k : Keep t g H H') (hla : ∀ la dx, H d = some (.ins Z.C dx (df L la)) → la ≠ t ∧ la ≠ g) :
    DarkAt Z K H' d L ls ∧ ∀ la dx, H' d = some (.ins Z.C dx (df L la)) → la ≠ t ∧ la ≠ g := by
  obtain ⟨dx, la, vs, h1, h2, h3⟩ := D.ex
  obtain ⟨a1, a2⟩ := hla la dx h1
  have hd : d ≠ t ∧ d ≠ g := by
    obtain ⟨⟨gs, l, f, c, e1, e2, r⟩, hne⟩ := T
    refine ⟨?_, ?_⟩ <;> rintro rfl
    · rw [h1] at e1; cases e1
    · rw [h1] at e2; cases e2
  have h1' := k _ _ h1 hd.1 hd.2
  refine ⟨⟨⟨dx, la, vs, h1', k _ _ h2 a1 a2, dpAll_tups (Keep.tups T k) _ _ (noLs_map noL_encL ls) h3⟩, D.pos, D.big, D.ok, D.len⟩, fun la' dx' e => ?_⟩
  rw [h1'] at e
  rw [← df_inj e]
  exact ⟨a1, a2⟩
/-- what a Dark tells, told by the looks that it heard -/
theorem tells_ls {L : Int} (hL : 0 < L) {sd : Str} {ls hs : List Lk} {x : Int} {v : V} (hh : ∀ o, o ∈ hs ↔ ∃ l ∈ ls, o = home L l) (h : Tells sd hs x L v) : Tells sd ls x L v := by
  rcases h with ⟨e, rfl⟩ | ⟨m, rfl, b⟩
  · exact .inl ⟨(side_nil hh).mp e, rfl⟩
  · exact .inr ⟨m, rfl, best_home hL hh b⟩
def vmap (φ : Int → Int) : V → V | .int m => .int (φ m) | _ => .non
def Flat (v : V) : Prop := v = .non ∨ ∃ m, v = .int m
theorem tells_flat' {sd : Str} {ls : List Lk} {x L : Int} {v : V} (h : Tells sd ls x L v) : Flat v := by
  rcases h with ⟨_, rfl⟩ | ⟨m, rfl, _⟩
  · exact .inl rfl
  · exact .inr ⟨m, rfl⟩
theorem flat_map {v : V} (h : Flat v) (φ : Int → Int) : Flat (vmap φ v) := by
  rcases h with rfl | ⟨m, rfl⟩
  · exact .inl rfl
  · exact .inr ⟨_, rfl⟩
theorem flat_dp {v : V} (h : Flat v) : ∃ d, fewD d = true ∧ d.depth = 0 ∧ ∀ (K : PySem.W.Frag) (H : Hp), Dp K H v d := by
  rcases h with rfl | ⟨m, rfl⟩
  · exact ⟨.none, rfl, rfl, fun K H => .non⟩
  · exact ⟨.int m, rfl, rfl, fun K H => .int m⟩
/-- looks changed, places changed: what is told is changed -/
theorem tells_map {sd sd' : Str} {f : Lk → Lk} {φ : Int → Int} {ls : List Lk} {x x' L L' : Int} {v : V} (hside : ∀ l ∈ ls, onSide sd' (f l).1 = onSide sd l.1) (hplc : ∀ l ∈ ls, plc sd' (f l) x' L' = φ (plc sd l x L))
    (hmono : ∀ a b, (if sd = "slow" then a ≤ b else b ≤ a) → if sd' = "slow" then φ a ≤ φ b else φ b ≤ φ a) (h : Tells sd ls x L v) : Tells sd' (ls.map f) x' L' (vmap φ v) := by
  rcases h with ⟨e, rfl⟩ | ⟨m, rfl, ⟨l, hl, em⟩, hb⟩
  · refine .inl ⟨List.eq_nil_iff_forall_not_mem.mpr fun o ho => ?_, rfl⟩
    obtain ⟨h1, h2⟩ := mem_side.mp ho
    obtain ⟨l, hl, rfl⟩ := List.mem_map.mp h1
    rw [hside l hl] at h2
    have : l ∈ sideOf sd ls := mem_side.mpr ⟨hl, h2⟩
    rw [e] at this; cases this
  · obtain ⟨h1, h2⟩ := mem_side.mp hl
    refine .inr ⟨φ m, rfl, ⟨f l, mem_side.mpr ⟨List.mem_map.mpr ⟨l, h1, rfl⟩, by rw [hside l h1]; exact h2⟩, by rw [hplc l h1, em]⟩, fun o ho => ?_⟩
    obtain ⟨g1, g2⟩ := mem_side.mp ho
    obtain ⟨q, hq, rfl⟩ := List.mem_map.mp g1
    rw [hside q hq] at g2
    have h3 := hb q (mem_side.mpr ⟨hq, g2⟩)
    rw [hplc q hq]
    refine hmono _ _ ?_
    split at h3
    · rw [if_pos (by assumption)]; exact h3
    · rw [if_neg (by assumption)]; exact h3
theorem far_map {f : Lk → Lk} {L L' : Int} {a b : Lk} (h1 : onSide "slow" (f a).1 = onSide "slow" a.1) (h2 : onSide "fast" (f b).1 = onSide "fast" b.1) (h3 : (f b).2.2 < plc "slow" (f a) (f b).2.1 L' ↔ b.2.2 < plc "slow" a b.2.1 L) : tooFar (f a) (f b) L' = tooFar a b L := by
  unfold tooFar
  rw [h1, h2]
  congr 1
  rw [decide_eq_decide]
  exact h3
/-- moved -/
def mv (off : Int) (l : Lk) : Lk := (l.1, l.2.1 + off, l.2.2 + off)
theorem plc_mv (sd : Str) (off : Int) (l : Lk) (x L : Int) : plc sd (mv off l) (x + off) L = plc sd l x L + off := by
  unfold plc
  split
  · show l.2.2 + off + (x + off - (l.2.1 + off)) / L * L = l.2.2 + (x - l.2.1) / L * L + off
    have e : x + off - (l.2.1 + off) = x - l.2.1 := by omega
    rw [e]; omega
  · show l.2.2 + off - (l.2.1 + off - (x + off)) / L * L = l.2.2 - (l.2.1 - x) / L * L + off
    have e : l.2.1 + off - (x + off) = l.2.1 - x := by omega
    rw [e]; omega
theorem far_mv (off : Int) (a b : Lk) (L : Int) : tooFar (mv off a) (mv off b) L = tooFar a b L := by
  refine far_map rfl rfl ?_
  show b.2.2 + off < plc "slow" (mv off a) (b.2.1 + off) L ↔ _
  rw [plc_mv]; omega
theorem clash_mv (off : Int) (a b : Lk) (L : Int) : clashB (mv off a) (mv off b) L = clashB a b L := by
  unfold clashB
  rw [far_mv, far_mv]
/-- so many times -/
def gr (m : Int) (l : Lk) : Lk := (l.1, l.2.1 * m, l.2.2 * m)
theorem div_gr {a m r L : Int} (hm : 0 < m) (hL : 0 < L) (h0 : 0 ≤ r) (h1 : r < m) : (a * m + r) / (L * m) = a / L := by
  have e : (a * m + r) / m = a := by
    rw [Int.add_comm, Int.add_mul_ediv_right _ _ (by omega), Int.ediv_eq_zero_of_lt h0 h1, Int.zero_add]
  have e2 : (a * m + r) / (m * L) = (a * m + r) / m / L := (Int.ediv_ediv_of_nonneg (Int.le_of_lt hm)).symm
  rw [Int.mul_comm L m, e2, e]
theorem plc_gr_slow {m r L : Int} (hm : 0 < m) (hL : 0 < L) (h0 : 0 ≤ r) (h1 : r < m) (l : Lk) (x : Int) : plc "slow" (gr m l) (x * m + r) (L * m) = plc "slow" l x L * m := by
  rw [plc_slow, plc_slow]
  show l.2.2 * m + (x * m + r - l.2.1 * m) / (L * m) * (L * m) = (l.2.2 + (x - l.2.1) / L * L) * m
  have e : x * m + r - l.2.1 * m = (x - l.2.1) * m + r := by rw [Int.sub_mul]; omega
  rw [e, div_gr hm hL h0 h1, Int.add_mul, Int.mul_assoc]
theorem plc_gr_fast {m r L : Int} (hm : 0 < m) (hL : 0 < L) (h0 : 0 ≤ r) (h1 : r < m) (l : Lk) (x : Int) : plc "fast" (gr m l) (x * m - r) (L * m) = plc "fast" l x L * m := by
  rw [plc_fast, plc_fast]
  show l.2.2 * m - (l.2.1 * m - (x * m - r)) / (L * m) * (L * m) = (l.2.2 - (l.2.1 - x) / L * L) * m
  have e : l.2.1 * m - (x * m - r) = (l.2.1 - x) * m + r := by rw [Int.sub_mul]; omega
  rw [e, div_gr hm hL h0 h1, Int.sub_mul, Int.mul_assoc]
theorem far_gr {m L : Int} (hm : 0 < m) (hL : 0 < L) (a b : Lk) : tooFar (gr m a) (gr m b) (L * m) = tooFar a b L := by
  refine far_map rfl rfl ?_
  show b.2.2 * m < plc "slow" (gr m a) (b.2.1 * m) (L * m) ↔ _
  have e := plc_gr_slow hm hL (Int.le_refl 0) hm a b.2.1
  rw [Int.add_zero] at e
  rw [e]
  exact Int.mul_lt_mul_right hm
theorem clash_gr {m L : Int} (hm : 0 < m) (hL : 0 < L) (a b : Lk) : clashB (gr m a) (gr m b) (L * m) = clashB a b L := by
  unfold clashB
  rw [far_gr hm hL, far_gr hm hL]
/-- the other way about -/
def sw (x : Str) : Str := if x = "from" then "upto" else if x = "upto" then "from" else "at"
def ot (l : Lk) : Lk := (sw l.1, 0 - l.2.1, 0 - l.2.2)
theorem sw_ok {x : Str} (h : WordOk x) : WordOk (sw x) ∧ onSide "slow" (sw x) = onSide "fast" x ∧ onSide "fast" (sw x) = onSide "slow" x := by
  rcases h with rfl | rfl | rfl <;> exact ⟨by unfold WordOk; decide +kernel, by decide +kernel, by decide +kernel⟩
theorem plc_ot_slow (l : Lk) (x L : Int) : plc "slow" (ot l) (0 - x) L = 0 - plc "fast" l x L := by
  rw [plc_slow, plc_fast]
  show 0 - l.2.2 + (0 - x - (0 - l.2.1)) / L * L = 0 - (l.2.2 - (l.2.1 - x) / L * L)
  have e : 0 - x - (0 - l.2.1) = l.2.1 - x := by omega
  rw [e]; omega
theorem plc_ot_fast (l : Lk) (x L : Int) : plc "fast" (ot l) (0 - x) L = 0 - plc "slow" l x L := by
  rw [plc_slow, plc_fast]
  show 0 - l.2.2 - (0 - l.2.1 - (0 - x)) / L * L = 0 - (l.2.2 + (x - l.2.1) / L * L)
  have e : 0 - l.2.1 - (0 - x) = x - l.2.1 := by omega
  rw [e]; omega
theorem far_ot {a b : Lk} (ha : WordOk a.1) (hb : WordOk b.1) (L : Int) : tooFar (ot a) (ot b) L = tooFar b a L := by
  unfold tooFar
  have e1 : onSide "slow" (ot a).1 = onSide "fast" a.1 := (sw_ok ha).2.1
  have e2 : onSide "fast" (ot b).1 = onSide "slow" b.1 := (sw_ok hb).2.2
  rw [e1, e2, Bool.and_comm (onSide "fast" a.1)]
  congr 1
  rw [decide_eq_decide]
  show 0 - b.2.2 < plc "slow" (ot a) (0 - b.2.1) L ↔ a.2.2 < plc "slow" b a.2.1 L
  rw [plc_ot_slow, plc_fast, plc_slow]
  omega
theorem clash_ot {a b : Lk} (ha : WordOk a.1) (hb : WordOk b.1) (L : Int) : clashB (ot a) (ot b) L = clashB a b L := by
  unfold clashB
  rw [far_ot ha hb, far_ot hb ha, Bool.or_comm]
/-- may -/
def mayB (L : Int) (hs : List Lk) (l : Lk) : Bool := !hs.any fun o => clashB (home L l) o L
theorem may_ls {L : Int} (hL : 0 < L) {ls hs : List Lk} (hh : ∀ o, o ∈ hs ↔ ∃ l ∈ ls, o = home L l) (l : Lk) : mayB L hs l = !ls.any fun q => clashB l q L := by
  unfold mayB
  congr 1
  rw [Bool.eq_iff_iff, List.any_eq_true, List.any_eq_true]
  constructor
  · rintro ⟨o, ho, e⟩
    obtain ⟨q, hq, rfl⟩ := (hh o).mp ho
    rw [clash_home hL] at e
    exact ⟨q, hq, e⟩
  · rintro ⟨q, hq, e⟩
    exact ⟨_, (hh _).mpr ⟨q, hq, rfl⟩, by rw [clash_home hL]; exact e⟩
theorem any_map {f : Lk → Lk} {L L' : Int} {ls : List Lk} {l : Lk} (h : ∀ q ∈ ls, clashB (f l) (f q) L' = clashB l q L) : ((ls.map f).any fun q => clashB (f l) q L') = ls.any fun q => clashB l q L := by
  rw [List.any_map, Bool.eq_iff_iff, List.any_eq_true, List.any_eq_true]
  constructor
  · rintro ⟨q, hq, e⟩
    exact ⟨q, hq, by rw [← h q hq]; exact e⟩
  · rintro ⟨q, hq, e⟩
    exact ⟨q, hq, by show clashB (f l) (f q) L' = true; rw [h q hq]; exact e⟩
end KA
namespace KA
open PySem PySem.Spec PyProof.Rows L2 DP
def spMay (Z : Ad) (K : PySem.W.Frag) : Sp := fun vs H Q _ => ∃ (d : Addr) (L : Int) (hs : List Lk) (l : Lk), vs = [.ref d, .str l.1, .int l.2.1, .int l.2.2] ∧ DarkAt Z K H d L hs ∧ WordOk l.1 ∧ Sized 300 l ∧
  ∀ H', Same H H' → Q (.bl (mayB L hs l)) H'
section
variable {P : Program} {w : World} {K : PySem.W.Frag} {mg : Str → Option Value} {base : Heap} {Z : Ad}
theorem ok_Dark_may (T : Tx K w mg Z) : FnOk P w K mg base CX0 5 Z.a_Dark_may Z.d_Dark_may P_Dark_may (spMay Z K) := by
  refine T.F_Dark_may.ok scDark_may (fun vs H Q E h => ?_) (fun cdv A outer s H vs Q E hr h => ?_)
  · obtain ⟨d, L, hs, l, rfl, _⟩ := h
    rfl
  · obtain ⟨d, L, hs, l, rfl, D, hw, hl, k⟩ := h
    obtain ⟨dx, la, xs, h1, h2, h3⟩ := id D.ex
    refine ⟨_, (pss_one (ps_ret (pe_cmpR op_isN (pe_meth (pv 0) T.cl T.m_Darkclashing (ok_Darkclashing T) (hr.mono (by decide)) T.bb_Darkclashing .nil pass0 (pa_cons (pe_meth (pv 0) T.cl T.m_Darkhome (ok_Darkhome T) (hr.mono (by decide)) T.bb_Darkhome .nil pass0 (pa_cons (pv 1) (pa_cons (pv 2) (pa_cons (pv 3) pa_nil)))) pa_nil)) pe_non (nomark _)))), ?_⟩
    refine ⟨_, rfl, d, dx, _, rfl, h1, df_no _ _ (by decide +kernel) (by decide +kernel), _, rfl, d, dx, _, rfl, h1, df_no _ _ (by decide +kernel) (by decide +kernel), _, rfl, _, rfl, _, rfl, d, L, hs, l, rfl, D, hw, hl, fun H1 r S1 hr => ?_⟩
    refine ⟨d, r, L, hs, home L l, rfl, D.same S1, hr, hw, home_sized D.pos D.big hl, fun hf => ?_, fun o r2 hf hr2 => ?_⟩
    · refine ⟨rfl, ?_⟩
      have e : mayB L hs l = true := by
        unfold mayB
        have h1 := List.find?_eq_none.mp hf
        rw [Bool.not_eq_true', List.any_eq_false]
        exact h1
      have e2 : decide (V.non = V.non) = mayB L hs l := by rw [e]; rfl
      show Q (.bl (decide (V.non = V.non))) _
      rw [e2]
      exact k _ S1
    · refine ⟨rfl, ?_⟩
      obtain ⟨p2, rfl, _⟩ := dp_look hr2
      have e : mayB L hs l = false := by
        unfold mayB
        rw [Bool.not_eq_false', List.any_eq_true]
        exact ⟨o, List.mem_of_find?_eq_some hf, by simpa using List.find?_some hf⟩
      have e2 : decide (V.ref p2 = V.non) = mayB L hs l := by rw [e]; rfl
      show Q (.bl (decide (V.ref p2 = V.non))) _
      rw [e2]
      exact k _ S1
end
end KA
namespace KA
open PySem PySem.Spec PyProof.Rows L2 DP
def geV (v : V) (y : Int) : Bool := match v with | .int m => decide (m ≥ y) | _ => false
def leV (v : V) (y : Int) : Bool := match v with | .int m => decide (m ≤ y) | _ => false
def sureOf (word : Str) (a b : Bool) : Bool := if word = "from" then a else if word = "upto" then b else a && b
def sureB (word : Str) (u v : V) (y : Int) : Bool := sureOf word (geV u y) (leV v y)
def spSure (Z : Ad) (K : PySem.W.Frag) : Sp := fun vs H Q _ => ∃ (d : Addr) (L : Int) (hs : List Lk) (l : Lk), vs = [.ref d, .str l.1, .int l.2.1, .int l.2.2] ∧ DarkAt Z K H d L hs ∧ WordOk l.1 ∧ l.2.1.natAbs < 2 ^ 400 ∧
  ∀ u v H', Same H H' → Tells "slow" hs l.2.1 L u → Tells "fast" hs l.2.1 L v → Q (.bl (sureB l.1 u v l.2.2)) H'
section
variable {P : Program} {w : World} {K : PySem.W.Frag} {mg : Str → Option Value} {base : Heap} {Z : Ad}
theorem ok_Dark_sure (T : Tx K w mg Z) : FnOk P w K mg base CX0 5 Z.a_Dark_sure Z.d_Dark_sure P_Dark_sure (spSure Z K) := by
  refine T.F_Dark_sure.ok scDark_sure (fun vs H Q E h => ?_) (fun cdv A outer s H vs Q E hr h => ?_)
  · obtain ⟨d, L, hs, l, rfl, _⟩ := h
    rfl
  · obtain ⟨d, L, hs, l, rfl, D, hw, hx, k⟩ := h
    obtain ⟨dx, la, xs, h1, h2, h3⟩ := id D.ex
    refine ⟨_, (pss_cons (ps_expr (pe_meth (pv 0) T.cl T.m_Darkcheck_word (ok_Darkcheck_word T) (hr.mono (by decide)) T.bb_Darkcheck_word .nil pass0 (pa_cons (pv 1) pa_nil)))
      (pss_cons (ps_par (i := 4) (j := 5) (by rfl) scDark_sure.nd rfl rfl (by decide) rfl rfl (pa_cons (pe_meth (pv 0) T.cl T.m_Dark_least (ok_Dark_least T) (hr.mono (by decide)) T.bb_Dark_least .nil pass0 (pa_cons (pv 2) pa_nil)) (pa_cons (pe_meth (pv 0) T.cl T.m_Dark_greatest (ok_Dark_greatest T) (hr.mono (by decide)) T.bb_Dark_greatest .nil pass0 (pa_cons (pv 2) pa_nil)) pa_nil)) (by rfl))
      (pss_cons (ps_set (i := 6) scDark_sure.nd rfl (Or.inl rfl) (pe_and (pe_cmpR op_notN (pv 4) pe_non (nomark _)) (pe_one (pe_cmpR op_ge (pv 4) (pv 3) (nomark _)))))
      (pss_cons (ps_set (i := 7) scDark_sure.nd rfl (Or.inl rfl) (pe_and (pe_cmpR op_notN (pv 5) pe_non (nomark _)) (pe_one (pe_cmpR op_le (pv 5) (pv 3) (nomark _)))))
      (C8.pss_cut (ps_if (pt_cmpR op_eq (pv 1) pe_str (nomark _)) (pss_one (ps_ret (pv 6))) pss_nil)
      (C8.pss_cut (ps_if (pt_cmpR op_eq (pv 1) pe_str (nomark _)) (pss_one (ps_ret (pv 7))) pss_nil)
      (pss_one (ps_ret (pe_and (pv 6) (pe_one (pv 7))))))))))), ?_⟩
    refine ⟨_, rfl, d, dx, _, rfl, h1, df_no _ _ (by decide +kernel) (by decide +kernel), _, rfl, _, _, rfl, hw, ?_⟩
    refine ⟨_, rfl, d, dx, _, rfl, h1, df_no _ _ (by decide +kernel) (by decide +kernel), _, rfl, d, L, hs, _, rfl, D, hx, fun u H1 S1 t1 => ?_⟩
    refine ⟨_, rfl, d, dx, _, rfl, S1 _ _ h1, df_no _ _ (by decide +kernel) (by decide +kernel), _, rfl, d, L, hs, _, rfl, D.same S1, hx, fun v H2 S2 t2 => ?_⟩
    refine ⟨_, _, rfl, ?_⟩
    have kk := k u v H2 (S1.trans S2) t1 t2
    have hu : u = .non ∨ ∃ m, u = .int m := by
      rcases t1 with ⟨_, e⟩ | ⟨m, e, _⟩
      · exact .inl e
      · exact .inr ⟨m, e⟩
    have hv : v = .non ∨ ∃ m, v = .int m := by
      rcases t2 with ⟨_, e⟩ | ⟨m, e, _⟩
      · exact .inl e
      · exact .inr ⟨m, e⟩
    rcases hu with rfl | ⟨m, rfl⟩ <;> rcases hv with rfl | ⟨m2, rfl⟩
    · have kk' : Q (.bl (sureOf l.1 (false) (false))) H2 := kk
      refine ⟨_, rfl, rfl, _, rfl, ?_⟩
      refine iteF ?_
      refine ⟨_, rfl, rfl, _, rfl, ?_⟩
      refine iteF ?_
      refine ⟨fun σ' H' => σ' = [some (.ref d), some (.str l.1), some (.int l.2.1), some (.int l.2.2), some (.non), some (.non), some (.bl (false)), some (.bl (false))] ∧ H' = H2 ∧ ¬ l.1 = "from", ?_, ?_⟩
      · refine ⟨_, rfl, rfl, _, rfl, ?_⟩
        refine ite2 (fun c => ?_) (fun c => ⟨rfl, rfl, fun e => c (decide_eq_true (congrArg V.str e))⟩)
        have c' : l.1 = "from" := V.str.inj (of_decide_eq_true c)
        rw [sureOf, if_pos c'] at kk'
        exact ⟨_, rfl, kk'⟩
      rintro σ' H' ⟨rfl, rfl, n1⟩
      rw [sureOf, if_neg n1] at kk'
      refine ⟨fun σ'' H'' => σ'' = [some (.ref d), some (.str l.1), some (.int l.2.1), some (.int l.2.2), some (.non), some (.non), some (.bl (false)), some (.bl (false))] ∧ H'' = H' ∧ ¬ l.1 = "upto", ?_, ?_⟩
      · refine ⟨_, rfl, rfl, _, rfl, ?_⟩
        refine ite2 (fun c => ?_) (fun c => ⟨rfl, rfl, fun e => c (decide_eq_true (congrArg V.str e))⟩)
        have c' : l.1 = "upto" := V.str.inj (of_decide_eq_true c)
        rw [if_pos c'] at kk'
        exact ⟨_, rfl, kk'⟩
      rintro σ'' H'' ⟨rfl, rfl, n2⟩
      rw [if_neg n2] at kk'
      exact ⟨_, rfl, _, rfl, iteF kk'⟩
    · have kk' : Q (.bl (sureOf l.1 (false) (decide (m2 ≤ l.2.2)))) H2 := kk
      refine ⟨_, rfl, rfl, _, rfl, ?_⟩
      refine iteF ?_
      refine ⟨_, rfl, rfl, _, rfl, ?_⟩
      refine iteT ⟨_, rfl, _, rfl, _, _, rfl, rfl, ?_⟩
      refine ⟨fun σ' H' => σ' = [some (.ref d), some (.str l.1), some (.int l.2.1), some (.int l.2.2), some (.non), some (.int m2), some (.bl (false)), some (.bl (decide (m2 ≤ l.2.2)))] ∧ H' = H2 ∧ ¬ l.1 = "from", ?_, ?_⟩
      · refine ⟨_, rfl, rfl, _, rfl, ?_⟩
        refine ite2 (fun c => ?_) (fun c => ⟨rfl, rfl, fun e => c (decide_eq_true (congrArg V.str e))⟩)
        have c' : l.1 = "from" := V.str.inj (of_decide_eq_true c)
        rw [sureOf, if_pos c'] at kk'
        exact ⟨_, rfl, kk'⟩
      rintro σ' H' ⟨rfl, rfl, n1⟩
      rw [sureOf, if_neg n1] at kk'
      refine ⟨fun σ'' H'' => σ'' = [some (.ref d), some (.str l.1), some (.int l.2.1), some (.int l.2.2), some (.non), some (.int m2), some (.bl (false)), some (.bl (decide (m2 ≤ l.2.2)))] ∧ H'' = H' ∧ ¬ l.1 = "upto", ?_, ?_⟩
      · refine ⟨_, rfl, rfl, _, rfl, ?_⟩
        refine ite2 (fun c => ?_) (fun c => ⟨rfl, rfl, fun e => c (decide_eq_true (congrArg V.str e))⟩)
        have c' : l.1 = "upto" := V.str.inj (of_decide_eq_true c)
        rw [if_pos c'] at kk'
        exact ⟨_, rfl, kk'⟩
      rintro σ'' H'' ⟨rfl, rfl, n2⟩
      rw [if_neg n2] at kk'
      exact ⟨_, rfl, _, rfl, iteF kk'⟩
    · have kk' : Q (.bl (sureOf l.1 (decide (l.2.2 ≤ m)) (false))) H2 := kk
      refine ⟨_, rfl, rfl, _, rfl, ?_⟩
      refine iteT ⟨_, rfl, _, rfl, _, _, rfl, rfl, ?_⟩
      refine ⟨_, rfl, rfl, _, rfl, ?_⟩
      refine iteF ?_
      refine ⟨fun σ' H' => σ' = [some (.ref d), some (.str l.1), some (.int l.2.1), some (.int l.2.2), some (.int m), some (.non), some (.bl (decide (l.2.2 ≤ m))), some (.bl (false))] ∧ H' = H2 ∧ ¬ l.1 = "from", ?_, ?_⟩
      · refine ⟨_, rfl, rfl, _, rfl, ?_⟩
        refine ite2 (fun c => ?_) (fun c => ⟨rfl, rfl, fun e => c (decide_eq_true (congrArg V.str e))⟩)
        have c' : l.1 = "from" := V.str.inj (of_decide_eq_true c)
        rw [sureOf, if_pos c'] at kk'
        exact ⟨_, rfl, kk'⟩
      rintro σ' H' ⟨rfl, rfl, n1⟩
      rw [sureOf, if_neg n1] at kk'
      refine ⟨fun σ'' H'' => σ'' = [some (.ref d), some (.str l.1), some (.int l.2.1), some (.int l.2.2), some (.int m), some (.non), some (.bl (decide (l.2.2 ≤ m))), some (.bl (false))] ∧ H'' = H' ∧ ¬ l.1 = "upto", ?_, ?_⟩
      · refine ⟨_, rfl, rfl, _, rfl, ?_⟩
        refine ite2 (fun c => ?_) (fun c => ⟨rfl, rfl, fun e => c (decide_eq_true (congrArg V.str e))⟩)
        have c' : l.1 = "upto" := V.str.inj (of_decide_eq_true c)
        rw [if_pos c'] at kk'
        exact ⟨_, rfl, kk'⟩
      rintro σ'' H'' ⟨rfl, rfl, n2⟩
      rw [if_neg n2] at kk'
      cases e1 : decide (l.2.2 ≤ m) with
      | false =>
        rw [e1] at kk'
        exact ⟨_, rfl, _, rfl, iteF kk'⟩
      | true =>
        rw [e1] at kk'
        exact ⟨_, rfl, _, rfl, iteT ⟨_, rfl, kk'⟩⟩
    · have kk' : Q (.bl (sureOf l.1 (decide (l.2.2 ≤ m)) (decide (m2 ≤ l.2.2)))) H2 := kk
      refine ⟨_, rfl, rfl, _, rfl, ?_⟩
      refine iteT ⟨_, rfl, _, rfl, _, _, rfl, rfl, ?_⟩
      refine ⟨_, rfl, rfl, _, rfl, ?_⟩
      refine iteT ⟨_, rfl, _, rfl, _, _, rfl, rfl, ?_⟩
      refine ⟨fun σ' H' => σ' = [some (.ref d), some (.str l.1), some (.int l.2.1), some (.int l.2.2), some (.int m), some (.int m2), some (.bl (decide (l.2.2 ≤ m))), some (.bl (decide (m2 ≤ l.2.2)))] ∧ H' = H2 ∧ ¬ l.1 = "from", ?_, ?_⟩
      · refine ⟨_, rfl, rfl, _, rfl, ?_⟩
        refine ite2 (fun c => ?_) (fun c => ⟨rfl, rfl, fun e => c (decide_eq_true (congrArg V.str e))⟩)
        have c' : l.1 = "from" := V.str.inj (of_decide_eq_true c)
        rw [sureOf, if_pos c'] at kk'
        exact ⟨_, rfl, kk'⟩
      rintro σ' H' ⟨rfl, rfl, n1⟩
      rw [sureOf, if_neg n1] at kk'
      refine ⟨fun σ'' H'' => σ'' = [some (.ref d), some (.str l.1), some (.int l.2.1), some (.int l.2.2), some (.int m), some (.int m2), some (.bl (decide (l.2.2 ≤ m))), some (.bl (decide (m2 ≤ l.2.2)))] ∧ H'' = H' ∧ ¬ l.1 = "upto", ?_, ?_⟩
      · refine ⟨_, rfl, rfl, _, rfl, ?_⟩
        refine ite2 (fun c => ?_) (fun c => ⟨rfl, rfl, fun e => c (decide_eq_true (congrArg V.str e))⟩)
        have c' : l.1 = "upto" := V.str.inj (of_decide_eq_true c)
        rw [if_pos c'] at kk'
        exact ⟨_, rfl, kk'⟩
      rintro σ'' H'' ⟨rfl, rfl, n2⟩
      rw [if_neg n2] at kk'
      cases e1 : decide (l.2.2 ≤ m) with
      | false =>
        rw [e1] at kk'
        exact ⟨_, rfl, _, rfl, iteF kk'⟩
      | true =>
        rw [e1] at kk'
        exact ⟨_, rfl, _, rfl, iteT ⟨_, rfl, kk'⟩⟩
end
end KA
namespace KA
open PySem PySem.Spec PyProof.Rows L2 DP
def noneB (v : V) : Bool := decide (v = .non)
def dl (said : Str) (b3 b4 b5 b6 : Bool) : List V := if said = "at" then [.bl (b3 && b4), .bl (b5 && b6)] else if said = "from" then [.bl b4, .bl b5] else [.bl b3, .bl b6]
def duesL (said : Str) (u v : V) (y : Int) : List V := dl said (noneB u || leV u y) (noneB v || geV v y) (geV u y) (leV v y)
def spDues (K : PySem.W.Frag) : Sp := fun vs H Q _ => ∃ (p : Addr) (said : Str) (u v : V) (y : Int), vs = [.str said, .ref p, .int y] ∧ SqL K H p [u, v] ∧ Flat u ∧ Flat v ∧ ∀ q H', Same H H' → H' q = some (.lst (duesL said u v y)) → Q (.ref q) H'
section
variable {P : Program} {w : World} {K : PySem.W.Frag} {mg : Str → Option Value} {base : Heap} {Z : Ad}
theorem ok_law_dues (T : Tx K w mg Z) : FnOk P w K mg base CX0 1 Z.a_law_dues Z.d_law_dues P_law_dues (spDues K) := by
  refine T.F_law_dues.ok sclaw_dues (fun vs H Q E h => ?_) (fun cdv A outer s H vs Q E hr h => ?_)
  · obtain ⟨p, said, u, v, y, rfl, _⟩ := h
    rfl
  · obtain ⟨p, said, u, v, y, rfl, hp, hu, hv, k⟩ := h
    refine ⟨_, (pss_cons (ps_set (i := 3) sclaw_dues.nd rfl (Or.inl rfl) (pe_or (pe_cmpR op_isN (pe_ix (ixL (K := K)) (pv 1) pe_int (fun _ _ => rfl)) pe_non (nomark _)) (pe_one (pe_cmpR op_le (pe_ix (ixL (K := K)) (pv 1) pe_int (fun _ _ => rfl)) (pv 2) (nomark _)))))
      (pss_cons (ps_set (i := 4) sclaw_dues.nd rfl (Or.inl rfl) (pe_or (pe_cmpR op_isN (pe_ix (ixL (K := K)) (pv 1) pe_int (fun _ _ => rfl)) pe_non (nomark _)) (pe_one (pe_cmpR op_ge (pe_ix (ixL (K := K)) (pv 1) pe_int (fun _ _ => rfl)) (pv 2) (nomark _)))))
      (pss_cons (ps_set (i := 5) sclaw_dues.nd rfl (Or.inl rfl) (pe_and (pe_cmpR op_notN (pe_ix (ixL (K := K)) (pv 1) pe_int (fun _ _ => rfl)) pe_non (nomark _)) (pe_one (pe_cmpR op_ge (pe_ix (ixL (K := K)) (pv 1) pe_int (fun _ _ => rfl)) (pv 2) (nomark _)))))
      (C8.pss_cut (ps_set (i := 6) sclaw_dues.nd rfl (Or.inl rfl) (pe_and (pe_cmpR op_notN (pe_ix (ixL (K := K)) (pv 1) pe_int (fun _ _ => rfl)) pe_non (nomark _)) (pe_one (pe_cmpR op_le (pe_ix (ixL (K := K)) (pv 1) pe_int (fun _ _ => rfl)) (pv 2) (nomark _)))))
      (C8.pss_cut (ps_if (pt_cmpR op_eq (pv 0) pe_str (nomark _)) (pss_one (ps_ret (pe_lst (pa_cons (pe_and (pv 3) (pe_one (pv 4))) (pa_cons (pe_and (pv 5) (pe_one (pv 6))) pa_nil))))) pss_nil)
      (pss_one (ps_ret (pe_ifExp (pt_cmpR op_eq (pv 0) pe_str (nomark _)) (pe_lst (pa_cons (pv 4) (pa_cons (pv 5) pa_nil))) (pe_lst (pa_cons (pv 3) (pa_cons (pv 6) pa_nil))))))))))), ?_⟩
    have i0 : atI [u, v] 0 = some u := rfl
    have i1 : atI [u, v] 1 = some v := rfl
    unfold duesL at k
    rcases hu with rfl | ⟨m, rfl⟩ <;> rcases hv with rfl | ⟨m2, rfl⟩
    · refine ⟨_, rfl, p, _, _, _, rfl, rfl, hp, i0, rfl, _, rfl, ?_⟩
      refine iteT ?_
      refine ⟨_, rfl, p, _, _, _, rfl, rfl, hp, i1, rfl, _, rfl, ?_⟩
      refine iteT ?_
      refine ⟨_, rfl, p, _, _, _, rfl, rfl, hp, i0, rfl, _, rfl, ?_⟩
      refine iteF ?_
      refine ⟨fun σ' H' => ∃ b3 b4 b5 b6 : Bool, σ' = [some (.str said), some (.ref p), some (.int y), some (.bl b3), some (.bl b4), some (.bl b5), some (.bl b6)] ∧ H' = H ∧ ∀ q H', Same H H' → H' q = some (.lst (dl said b3 b4 b5 b6)) → Q (.ref q) H', ?_, ?_⟩
      · refine ⟨_, rfl, p, _, _, _, rfl, rfl, hp, i1, rfl, _, rfl, ?_⟩
        exact iteF ⟨true, true, false, false, rfl, rfl, k⟩
      rintro σ1 H1 ⟨b3, b4, b5, b6, rfl, rfl, kk⟩
      refine ⟨fun σ' H' => σ' = [some (.str said), some (.ref p), some (.int y), some (.bl b3), some (.bl b4), some (.bl b5), some (.bl b6)] ∧ H' = H1 ∧ ¬ said = "at", ?_, ?_⟩
      · refine ⟨_, rfl, rfl, _, rfl, ?_⟩
        refine ite2 (fun c => ?_) (fun c => ⟨rfl, rfl, fun e => c (decide_eq_true (congrArg V.str e))⟩)
        have c' : said = "at" := V.str.inj (of_decide_eq_true c)
        unfold dl at kk
        rw [if_pos c'] at kk
        cases b3 <;> cases b5 <;> first
          | exact ⟨_, rfl, _, rfl, iteF ⟨_, rfl, _, rfl, iteF ⟨(by show 2 ≤ sizeLine; decide), fun q hq => kk q _ (same_upd hq) upd_same⟩⟩⟩
          | exact ⟨_, rfl, _, rfl, iteF ⟨_, rfl, _, rfl, iteT ⟨_, rfl, (by show 2 ≤ sizeLine; decide), fun q hq => kk q _ (same_upd hq) upd_same⟩⟩⟩
          | exact ⟨_, rfl, _, rfl, iteT ⟨_, rfl, _, rfl, _, rfl, iteF ⟨(by show 2 ≤ sizeLine; decide), fun q hq => kk q _ (same_upd hq) upd_same⟩⟩⟩
          | exact ⟨_, rfl, _, rfl, iteT ⟨_, rfl, _, rfl, _, rfl, iteT ⟨_, rfl, (by show 2 ≤ sizeLine; decide), fun q hq => kk q _ (same_upd hq) upd_same⟩⟩⟩
      rintro σ2 H2 ⟨rfl, rfl, n1⟩
      unfold dl at kk
      rw [if_neg n1] at kk
      refine ⟨_, rfl, rfl, _, rfl, ?_⟩
      refine ite2 (fun c => ?_) (fun c => ?_)
      · rw [if_pos (V.str.inj (of_decide_eq_true c))] at kk
        exact ⟨_, rfl, _, rfl, (by show 2 ≤ sizeLine; decide), fun q hq => kk q _ (same_upd hq) upd_same⟩
      · rw [if_neg fun e => c (decide_eq_true (congrArg V.str e))] at kk
        exact ⟨_, rfl, _, rfl, (by show 2 ≤ sizeLine; decide), fun q hq => kk q _ (same_upd hq) upd_same⟩
    · refine ⟨_, rfl, p, _, _, _, rfl, rfl, hp, i0, rfl, _, rfl, ?_⟩
      refine iteT ?_
      refine ⟨_, rfl, p, _, _, _, rfl, rfl, hp, i1, rfl, _, rfl, ?_⟩
      refine iteF ⟨_, rfl, p, _, _, _, rfl, rfl, hp, i1, _, rfl, _, _, rfl, rfl, ?_⟩
      refine ⟨_, rfl, p, _, _, _, rfl, rfl, hp, i0, rfl, _, rfl, ?_⟩
      refine iteF ?_
      refine ⟨fun σ' H' => ∃ b3 b4 b5 b6 : Bool, σ' = [some (.str said), some (.ref p), some (.int y), some (.bl b3), some (.bl b4), some (.bl b5), some (.bl b6)] ∧ H' = H ∧ ∀ q H', Same H H' → H' q = some (.lst (dl said b3 b4 b5 b6)) → Q (.ref q) H', ?_, ?_⟩
      · refine ⟨_, rfl, p, _, _, _, rfl, rfl, hp, i1, rfl, _, rfl, ?_⟩
        exact iteT ⟨_, rfl, p, _, _, _, rfl, rfl, hp, i1, _, rfl, _, _, rfl, rfl, true, decide (m2 ≥ y), false, decide (m2 ≤ y), rfl, rfl, k⟩
      rintro σ1 H1 ⟨b3, b4, b5, b6, rfl, rfl, kk⟩
      refine ⟨fun σ' H' => σ' = [some (.str said), some (.ref p), some (.int y), some (.bl b3), some (.bl b4), some (.bl b5), some (.bl b6)] ∧ H' = H1 ∧ ¬ said = "at", ?_, ?_⟩
      · refine ⟨_, rfl, rfl, _, rfl, ?_⟩
        refine ite2 (fun c => ?_) (fun c => ⟨rfl, rfl, fun e => c (decide_eq_true (congrArg V.str e))⟩)
        have c' : said = "at" := V.str.inj (of_decide_eq_true c)
        unfold dl at kk
        rw [if_pos c'] at kk
        cases b3 <;> cases b5 <;> first
          | exact ⟨_, rfl, _, rfl, iteF ⟨_, rfl, _, rfl, iteF ⟨(by show 2 ≤ sizeLine; decide), fun q hq => kk q _ (same_upd hq) upd_same⟩⟩⟩
          | exact ⟨_, rfl, _, rfl, iteF ⟨_, rfl, _, rfl, iteT ⟨_, rfl, (by show 2 ≤ sizeLine; decide), fun q hq => kk q _ (same_upd hq) upd_same⟩⟩⟩
          | exact ⟨_, rfl, _, rfl, iteT ⟨_, rfl, _, rfl, _, rfl, iteF ⟨(by show 2 ≤ sizeLine; decide), fun q hq => kk q _ (same_upd hq) upd_same⟩⟩⟩
          | exact ⟨_, rfl, _, rfl, iteT ⟨_, rfl, _, rfl, _, rfl, iteT ⟨_, rfl, (by show 2 ≤ sizeLine; decide), fun q hq => kk q _ (same_upd hq) upd_same⟩⟩⟩
      rintro σ2 H2 ⟨rfl, rfl, n1⟩
      unfold dl at kk
      rw [if_neg n1] at kk
      refine ⟨_, rfl, rfl, _, rfl, ?_⟩
      refine ite2 (fun c => ?_) (fun c => ?_)
      · rw [if_pos (V.str.inj (of_decide_eq_true c))] at kk
        exact ⟨_, rfl, _, rfl, (by show 2 ≤ sizeLine; decide), fun q hq => kk q _ (same_upd hq) upd_same⟩
      · rw [if_neg fun e => c (decide_eq_true (congrArg V.str e))] at kk
        exact ⟨_, rfl, _, rfl, (by show 2 ≤ sizeLine; decide), fun q hq => kk q _ (same_upd hq) upd_same⟩
    · refine ⟨_, rfl, p, _, _, _, rfl, rfl, hp, i0, rfl, _, rfl, ?_⟩
      refine iteF ⟨_, rfl, p, _, _, _, rfl, rfl, hp, i0, _, rfl, _, _, rfl, rfl, ?_⟩
      refine ⟨_, rfl, p, _, _, _, rfl, rfl, hp, i1, rfl, _, rfl, ?_⟩
      refine iteT ?_
      refine ⟨_, rfl, p, _, _, _, rfl, rfl, hp, i0, rfl, _, rfl, ?_⟩
      refine iteT ⟨_, rfl, p, _, _, _, rfl, rfl, hp, i0, _, rfl, _, _, rfl, rfl, ?_⟩
      refine ⟨fun σ' H' => ∃ b3 b4 b5 b6 : Bool, σ' = [some (.str said), some (.ref p), some (.int y), some (.bl b3), some (.bl b4), some (.bl b5), some (.bl b6)] ∧ H' = H ∧ ∀ q H', Same H H' → H' q = some (.lst (dl said b3 b4 b5 b6)) → Q (.ref q) H', ?_, ?_⟩
      · refine ⟨_, rfl, p, _, _, _, rfl, rfl, hp, i1, rfl, _, rfl, ?_⟩
        exact iteF ⟨decide (m ≤ y), true, decide (m ≥ y), false, rfl, rfl, k⟩
      rintro σ1 H1 ⟨b3, b4, b5, b6, rfl, rfl, kk⟩
      refine ⟨fun σ' H' => σ' = [some (.str said), some (.ref p), some (.int y), some (.bl b3), some (.bl b4), some (.bl b5), some (.bl b6)] ∧ H' = H1 ∧ ¬ said = "at", ?_, ?_⟩
      · refine ⟨_, rfl, rfl, _, rfl, ?_⟩
        refine ite2 (fun c => ?_) (fun c => ⟨rfl, rfl, fun e => c (decide_eq_true (congrArg V.str e))⟩)
        have c' : said = "at" := V.str.inj (of_decide_eq_true c)
        unfold dl at kk
        rw [if_pos c'] at kk
        cases b3 <;> cases b5 <;> first
          | exact ⟨_, rfl, _, rfl, iteF ⟨_, rfl, _, rfl, iteF ⟨(by show 2 ≤ sizeLine; decide), fun q hq => kk q _ (same_upd hq) upd_same⟩⟩⟩
          | exact ⟨_, rfl, _, rfl, iteF ⟨_, rfl, _, rfl, iteT ⟨_, rfl, (by show 2 ≤ sizeLine; decide), fun q hq => kk q _ (same_upd hq) upd_same⟩⟩⟩
          | exact ⟨_, rfl, _, rfl, iteT ⟨_, rfl, _, rfl, _, rfl, iteF ⟨(by show 2 ≤ sizeLine; decide), fun q hq => kk q _ (same_upd hq) upd_same⟩⟩⟩
          | exact ⟨_, rfl, _, rfl, iteT ⟨_, rfl, _, rfl, _, rfl, iteT ⟨_, rfl, (by show 2 ≤ sizeLine; decide), fun q hq => kk q _ (same_upd hq) upd_same⟩⟩⟩
      rintro σ2 H2 ⟨rfl, rfl, n1⟩
      unfold dl at kk
      rw [if_neg n1] at kk
      refine ⟨_, rfl, rfl, _, rfl, ?_⟩
      refine ite2 (fun c => ?_) (fun c => ?_)
      · rw [if_pos (V.str.inj (of_decide_eq_true c))] at kk
        exact ⟨_, rfl, _, rfl, (by show 2 ≤ sizeLine; decide), fun q hq => kk q _ (same_upd hq) upd_same⟩
      · rw [if_neg fun e => c (decide_eq_true (congrArg V.str e))] at kk
        exact ⟨_, rfl, _, rfl, (by show 2 ≤ sizeLine; decide), fun q hq => kk q _ (same_upd hq) upd_same⟩
    · refine ⟨_, rfl, p, _, _, _, rfl, rfl, hp, i0, rfl, _, rfl, ?_⟩
      refine iteF ⟨_, rfl, p, _, _, _, rfl, rfl, hp, i0, _, rfl, _, _, rfl, rfl, ?_⟩
      refine ⟨_, rfl, p, _, _, _, rfl, rfl, hp, i1, rfl, _, rfl, ?_⟩
      refine iteF ⟨_, rfl, p, _, _, _, rfl, rfl, hp, i1, _, rfl, _, _, rfl, rfl, ?_⟩
      refine ⟨_, rfl, p, _, _, _, rfl, rfl, hp, i0, rfl, _, rfl, ?_⟩
      refine iteT ⟨_, rfl, p, _, _, _, rfl, rfl, hp, i0, _, rfl, _, _, rfl, rfl, ?_⟩
      refine ⟨fun σ' H' => ∃ b3 b4 b5 b6 : Bool, σ' = [some (.str said), some (.ref p), some (.int y), some (.bl b3), some (.bl b4), some (.bl b5), some (.bl b6)] ∧ H' = H ∧ ∀ q H', Same H H' → H' q = some (.lst (dl said b3 b4 b5 b6)) → Q (.ref q) H', ?_, ?_⟩
      · refine ⟨_, rfl, p, _, _, _, rfl, rfl, hp, i1, rfl, _, rfl, ?_⟩
        exact iteT ⟨_, rfl, p, _, _, _, rfl, rfl, hp, i1, _, rfl, _, _, rfl, rfl, decide (m ≤ y), decide (m2 ≥ y), decide (m ≥ y), decide (m2 ≤ y), rfl, rfl, k⟩
      rintro σ1 H1 ⟨b3, b4, b5, b6, rfl, rfl, kk⟩
      refine ⟨fun σ' H' => σ' = [some (.str said), some (.ref p), some (.int y), some (.bl b3), some (.bl b4), some (.bl b5), some (.bl b6)] ∧ H' = H1 ∧ ¬ said = "at", ?_, ?_⟩
      · refine ⟨_, rfl, rfl, _, rfl, ?_⟩
        refine ite2 (fun c => ?_) (fun c => ⟨rfl, rfl, fun e => c (decide_eq_true (congrArg V.str e))⟩)
        have c' : said = "at" := V.str.inj (of_decide_eq_true c)
        unfold dl at kk
        rw [if_pos c'] at kk
        cases b3 <;> cases b5 <;> first
          | exact ⟨_, rfl, _, rfl, iteF ⟨_, rfl, _, rfl, iteF ⟨(by show 2 ≤ sizeLine; decide), fun q hq => kk q _ (same_upd hq) upd_same⟩⟩⟩
          | exact ⟨_, rfl, _, rfl, iteF ⟨_, rfl, _, rfl, iteT ⟨_, rfl, (by show 2 ≤ sizeLine; decide), fun q hq => kk q _ (same_upd hq) upd_same⟩⟩⟩
          | exact ⟨_, rfl, _, rfl, iteT ⟨_, rfl, _, rfl, _, rfl, iteF ⟨(by show 2 ≤ sizeLine; decide), fun q hq => kk q _ (same_upd hq) upd_same⟩⟩⟩
          | exact ⟨_, rfl, _, rfl, iteT ⟨_, rfl, _, rfl, _, rfl, iteT ⟨_, rfl, (by show 2 ≤ sizeLine; decide), fun q hq => kk q _ (same_upd hq) upd_same⟩⟩⟩
      rintro σ2 H2 ⟨rfl, rfl, n1⟩
      unfold dl at kk
      rw [if_neg n1] at kk
      refine ⟨_, rfl, rfl, _, rfl, ?_⟩
      refine ite2 (fun c => ?_) (fun c => ?_)
      · rw [if_pos (V.str.inj (of_decide_eq_true c))] at kk
        exact ⟨_, rfl, _, rfl, (by show 2 ≤ sizeLine; decide), fun q hq => kk q _ (same_upd hq) upd_same⟩
      · rw [if_neg fun e => c (decide_eq_true (congrArg V.str e))] at kk
        exact ⟨_, rfl, _, rfl, (by show 2 ≤ sizeLine; decide), fun q hq => kk q _ (same_upd hq) upd_same⟩
end
end KA
namespace KA
open PySem PySem.Spec PyProof.Rows L2 DP
def spEdge : Sp := fun vs H Q _ => ∃ (t g p : Addr) (n : Nat) (L x : Int) (u v : V), vs = [.ref t, .int L, .ref p, .int x] ∧ Tray H t g n ∧ n < 2 ^ 50 ∧ 0 < L ∧ L ≤ 10 ^ 30 ∧ H p = some (.lst [u, v]) ∧ Flat u ∧ Flat v ∧ (∀ z, u = .int z ∨ v = .int z → z.natAbs < 2 ^ 290) ∧ x.natAbs < 2 ^ 290 ∧
  ∀ (H' : Hp) (r : Int), At H H' t g (n + 5) → r.natAbs < 2 ^ 295 → Q (.int r) H'
section
variable {P : Program} {w : World} {K : PySem.W.Frag} {mg : Str → Option Value} {base : Heap} {Z : Ad}
theorem ok_law_edge (T : Tx K w mg Z) : FnOk P w K mg base CX0 2 Z.a_law_edge Z.d_law_edge P_law_edge (spEdge) := by
  refine T.F_law_edge.ok sclaw_edge (fun vs H Q E h => ?_) (fun cdv A outer s H vs Q E hr h => ?_)
  · obtain ⟨t, g, p, n, L, x, u, v, rfl, _⟩ := h
    rfl
  · obtain ⟨t, g, p, n, L, x, u, v, rfl, hT, hn, hL, hL30, hp, hu, hv, hz, hx, k⟩ := h
    have hLb := bigL hL hL30
    have hb' : ∀ m, m ≤ n + 5 → m < 2 ^ 60 := fun m hm => Nat.lt_of_le_of_lt hm (Nat.lt_of_lt_of_le (Nat.add_lt_add_right hn 5) (by decide))
    have b2 : (2 * L).natAbs < 2 ^ 103 := by rw [Int.natAbs_mul]; exact Nat.lt_of_lt_of_le (Nat.mul_lt_mul_of_le_of_lt (Nat.le_refl 2) hLb (by decide)) (by decide)
    have A0 : At H H t g n := ⟨hT, Keep.refl _ _ _⟩
    refine ⟨_, (pss_cons (ps_set (i := 2) sclaw_edge.nd rfl (Or.inl rfl) (pe_op op_cat (pe_lc (own := [("there", 4)]) (g := gName 4) (tt := _) rfl sclaw_edge.nd (pi_list (pv 2)) (blkOk_by (own := [("there", 4)]) (N := N_law_edge) (sc := defScope slaw_edge) (by decide +kernel)) (fun _ _ _ _ _ => (pg_name (i := 4) sclaw_edge.nd rfl (Or.inl rfl))) (fun _ _ _ _ _ => (pts_one (pt_cmpR op_notN (pv 4) pe_non (nomark _)))) (fun _ _ _ _ _ => (pv 4))) (pe_lst (pa_cons (pv 3) pa_nil))))
      (pss_cons (ps_set (i := 5) sclaw_edge.nd rfl (Or.inl rfl) (pe_ix (ixL (K := K)) (pe_lst (pa_cons pe_int (pa_cons pe_int (pa_cons pe_int (pa_cons (pe_un un_neg pe_int) (pa_cons (pe_op op_sub (pe_call (ok_law_draw T) (hr.mono (by decide)) (by rfl) T.g_law_draw T.F_law_draw.kp T.bb_law_draw .nil pass0 (pa_cons (pv 0) (pa_cons (pe_op op_add (pe_op op_mulW pe_int (pv 1)) pe_int) pa_nil))) (pv 1)) pa_nil)))))) (pe_call (ok_law_draw T) (hr.mono (by decide)) (by rfl) T.g_law_draw T.F_law_draw.kp T.bb_law_draw .nil pass0 (pa_cons (pv 0) (pa_cons pe_int pa_nil))) (fun _ _ => rfl)))
      (pss_one (ps_ret (pe_op op_add (pe_ix (ixL (K := K)) (pv 2) (pe_call (ok_law_draw T) (hr.mono (by decide)) (by rfl) T.g_law_draw T.F_law_draw.kp T.bb_law_draw .nil pass0 (pa_cons (pv 0) (pa_cons (pe_callB (lenK (K := K)) (by rfl) T.b_len (by decide +kernel) (pa_cons (pv 2) pa_nil)) pa_nil))) (fun _ _ => rfl)) (pv 5)))))), ?_⟩
    refine ⟨_, rfl, p, rfl, ⟨_, SqL.of hp⟩, fun D hD => ?_⟩
    refine lc_list (K := K) (a := p) (xs := [u, v]) (fun i H' => Same H H' ∧ ∃ zs : List Int, H' D = some (.lst (zs.map V.int)) ∧ zs.length ≤ i ∧ ∀ z ∈ zs, z.natAbs < 2 ^ 290) ⟨same_upd hD, [], upd_same, Nat.zero_le _, fun _ z => absurd z (by simp)⟩ (fun i H' _ ⟨S, _⟩ => SqL.of (S _ _ hp)) ?_ ?_
    · rintro i y H' hi ⟨S, zs, hd, hl, hzs⟩
      have hi2 : i < 2 := (List.getElem?_eq_some_iff.mp hi).1
      have hy : Flat y ∧ ∀ z, y = .int z → z.natAbs < 2 ^ 290 := by
        have hm := List.mem_of_getElem? hi
        simp only [List.mem_cons, List.mem_nil_iff, or_false] at hm
        rcases hm with rfl | rfl
        · exact ⟨hu, fun z e => hz z (.inl e)⟩
        · exact ⟨hv, fun z e => hz z (.inr e)⟩
      rcases hy.1 with rfl | ⟨z, rfl⟩
      · exact ⟨rfl, _, rfl, rfl, _, rfl, iteF ⟨S, zs, hd, by omega, hzs⟩⟩
      · refine ⟨rfl, _, rfl, rfl, _, rfl, iteT ⟨_, rfl, _, hd, small1000 (by simp; omega), same_set S hD, zs ++ [z], ?_, by simp; omega, fun q hq => ?_⟩⟩
        · rw [List.map_append]; exact upd_same
        · rcases List.mem_append.mp hq with h | h
          · exact hzs q h
          · rw [List.mem_singleton] at h; subst h; exact hy.2 _ rfl
    rintro H1 ⟨S1, zs, hd, hl, hzs⟩
    have hl2 : zs.length ≤ 2 := hl
    refine ⟨_, rfl, (by show 1 ≤ sizeLine; decide), fun q hq => ?_⟩
    refine ⟨D, q, _, _, rfl, rfl, (same_upd hq) _ _ hd, upd_same, Nat.le_of_lt (small1000 (by simp; omega)), fun q2 hq2 => ?_⟩
    have S2 := (S1.trans (same_upd (o := HO.lst [V.int x]) hq)).trans (same_upd (o := HO.lst (zs.map V.int ++ [V.int x])) hq2)
    have hq2' : (upd (upd H1 q (.lst [V.int x])) q2 (.lst (zs.map V.int ++ [V.int x]))) q2 = some (.lst ((zs ++ [x]).map V.int)) := by rw [upd_same, List.map_append]; rfl
    have A2 : At H _ t g n := ⟨hT.same S2, Keep.of_same S2⟩
    obtain ⟨q2t, q2g⟩ := (hT.same (S1.trans (same_upd (o := HO.lst [V.int x]) hq))).at_ne hq2
    generalize upd (upd H1 q (.lst [V.int x])) q2 (.lst (zs.map V.int ++ [V.int x])) = H2 at S2 hq2' A2 ⊢
    -- off
    refine ⟨_, rfl, _, rfl, _, rfl, _, _, rfl, rfl, wide_mul (a := 10) (by decide) hLb (by decide) (by decide) (by decide), _, _, rfl, rfl, t, g, n, 2 * L + 1, rfl, A2.T, by omega, lt_up (add_lt b2 (show (1 : Int).natAbs < 2 ^ 103 by decide)) (by decide), hb' _ (by omega), fun H3 r r0 r1 T3 k3 => ?_⟩
    have A3 := A2.step T3 k3
    refine ⟨_, rfl, _, _, rfl, rfl, (by show 5 ≤ sizeLine; decide), fun q3 hq3 => ?_⟩
    obtain ⟨q3t, q3g⟩ := T3.at_ne hq3
    have A4 := A3.new (o := HO.lst [V.int 0, .int 0, .int 1, .int (-1), .int (r - L)]) hq3
    have hq24 := (same_upd (o := HO.lst [V.int 0, .int 0, .int 1, .int (-1), .int (r - L)]) hq3) _ _ (k3 _ _ hq2' q2t q2g)
    refine ⟨_, rfl, t, g, n + 1, 5, rfl, A4.T, by decide, by decide, hb' _ (by omega), fun H5 c c0 c1 T5 k5 => ?_⟩
    have A5 := A4.step T5 k5
    have hoff : ∃ off : Int, atI [V.int 0, .int 0, .int 1, .int (-1), .int (r - L)] c = some (.int off) ∧ off.natAbs < 2 ^ 290 := by
      have : c = 0 ∨ c = 1 ∨ c = 2 ∨ c = 3 ∨ c = 4 := by omega
      rcases this with e | e | e | e | e <;> subst e
      · exact ⟨_, rfl, by decide⟩
      · exact ⟨_, rfl, by decide⟩
      · exact ⟨_, rfl, by decide⟩
      · exact ⟨_, rfl, by decide⟩
      · refine ⟨_, rfl, Nat.lt_of_le_of_lt (?_ : (r - L).natAbs ≤ (2 * L).natAbs) (lt_up b2 (by decide))⟩
        clear hLb b2; omega
    obtain ⟨off, hoff1, hoff2⟩ := hoff
    have hq25 := k5 _ _ hq24 q2t q2g
    refine ⟨q3, _, _, _, rfl, rfl, SqL.of (k5 _ _ upd_same q3t q3g), hoff1, ?_⟩
    have hlen : ((zs ++ [x]).map V.int).length = zs.length + 1 := by simp
    refine ⟨_, rfl, _, rfl, _, rfl, q2, _, rfl, .inl (SqL.of hq25), t, g, n + 2, (((zs ++ [x]).map V.int).length : Int), rfl, T5, by rw [hlen]; omega, Nat.lt_of_le_of_lt (by rw [hlen]; omega : _ ≤ 10) (by decide), hb' _ (by omega), fun H6 j j0 j1 T6 k6 => ?_⟩
    have A6 := A5.step T6 k6
    have hj : j.toNat < (zs ++ [x]).length := by rw [hlen] at j1; simp; omega
    have hzz : ((zs ++ [x])[j.toNat]).natAbs < 2 ^ 290 := by
      rcases List.mem_append.mp (List.getElem_mem hj) with h | h
      · exact hzs _ h
      · rw [List.mem_singleton] at h; rw [h]; exact hx
    refine ⟨q2, _, _, _, rfl, rfl, SqL.of (k6 _ _ hq25 q2t q2g), at_of (j := j.toNat) (by omega) (by rw [List.getElem?_map, List.getElem?_eq_getElem hj]; rfl), _, rfl, _, _, rfl, rfl, ?_⟩
    exact k H6 _ (A6.up (by omega)) (lt_up (add_lt hzz hoff2) (by decide))
end
end KA
namespace KA
open PySem PySem.Spec PyProof.Rows L2 DP
theorem any_under {L : Int} {ls : List Lk} {said : Str} {x y : Int} {u : V} (t : Tells "slow" ls x L u) : (ls.any fun q => tooFar q ((said, x, y) : Lk) L) = (onSide "fast" said && !(noneB u || leV u y)) := by
  rw [Bool.eq_iff_iff, List.any_eq_true, Bool.and_eq_true]
  constructor
  · rintro ⟨q, hq, e⟩
    unfold tooFar at e
    rw [Bool.and_eq_true, Bool.and_eq_true, decide_eq_true_eq] at e
    obtain ⟨⟨e1, e2⟩, e3⟩ := e
    have e3' : y < plc "slow" q x L := e3
    refine ⟨e2, ?_⟩
    have hm : q ∈ sideOf "slow" ls := mem_side.mpr ⟨hq, e1⟩
    rcases t with ⟨e4, _⟩ | ⟨m, rfl, _, hb⟩
    · rw [e4] at hm; cases hm
    · have h1 := hb q hm
      rw [if_pos rfl] at h1
      have h2 : ¬ m ≤ y := by omega
      simp [noneB, leV, h2]
  · rintro ⟨e2, e⟩
    rcases t with ⟨_, rfl⟩ | ⟨m, rfl, ⟨q, hq, em⟩, _⟩
    · simp [noneB] at e
    · have h2 : ¬ m ≤ y := by simpa [noneB, leV] using e
      obtain ⟨h3, h4⟩ := mem_side.mp hq
      refine ⟨q, h3, ?_⟩
      unfold tooFar
      rw [Bool.and_eq_true, Bool.and_eq_true, decide_eq_true_eq]
      exact ⟨⟨h4, e2⟩, by show y < plc "slow" q x L; omega⟩
theorem any_above {L : Int} {ls : List Lk} {said : Str} {x y : Int} {v : V} (t : Tells "fast" ls x L v) : (ls.any fun q => tooFar ((said, x, y) : Lk) q L) = (onSide "slow" said && !(noneB v || geV v y)) := by
  have key : ∀ q : Lk, q.2.2 < plc "slow" ((said, x, y) : Lk) q.2.1 L ↔ plc "fast" q x L < y := fun q => by
    rw [plc_slow, plc_fast]
    show q.2.2 < y + (q.2.1 - x) / L * L ↔ q.2.2 - (q.2.1 - x) / L * L < y
    omega
  rw [Bool.eq_iff_iff, List.any_eq_true, Bool.and_eq_true]
  constructor
  · rintro ⟨q, hq, e⟩
    unfold tooFar at e
    rw [Bool.and_eq_true, Bool.and_eq_true, decide_eq_true_eq] at e
    obtain ⟨⟨e1, e2⟩, e3⟩ := e
    have e3' := (key q).mp e3
    refine ⟨e1, ?_⟩
    have hm : q ∈ sideOf "fast" ls := mem_side.mpr ⟨hq, e2⟩
    rcases t with ⟨e4, _⟩ | ⟨m, rfl, _, hb⟩
    · rw [e4] at hm; cases hm
    · have h1 := hb q hm
      rw [if_neg slow_ne] at h1
      have h2 : ¬ y ≤ m := by omega
      simp [noneB, geV, h2]
  · rintro ⟨e2, e⟩
    rcases t with ⟨_, rfl⟩ | ⟨m, rfl, ⟨q, hq, em⟩, _⟩
    · simp [noneB] at e
    · have h2 : ¬ y ≤ m := by simpa [noneB, geV] using e
      obtain ⟨h3, h4⟩ := mem_side.mp hq
      refine ⟨q, h3, ?_⟩
      unfold tooFar
      rw [Bool.and_eq_true, Bool.and_eq_true, decide_eq_true_eq]
      exact ⟨⟨e2, h4⟩, (key q).mpr (by omega)⟩
theorem any_or {α : Type} (f g : α → Bool) : ∀ l : List α, (l.any fun q => f q || g q) = (l.any f || l.any g)
  | [] => rfl
  | a :: l => by
    rw [List.any_cons, List.any_cons, List.any_cons, any_or f g l]
    cases f a <;> cases g a <;> simp
/-- the two answers are the two dues -/
theorem dues_are {L : Int} {ls : List Lk} {said : Str} {x y : Int} {u v : V} (hw : WordOk said) (tu : Tells "slow" ls x L u) (tv : Tells "fast" ls x L v) :
    duesL said u v y = [.bl (!ls.any fun q => clashB ((said, x, y) : Lk) q L), .bl (sureB said u v y)] := by
  have e : (ls.any fun q => clashB ((said, x, y) : Lk) q L) = ((onSide "slow" said && !(noneB v || geV v y)) || (onSide "fast" said && !(noneB u || leV u y))) := by
    rw [← any_above tv, ← any_under tu, ← any_or]
    rfl
  rw [e]
  unfold duesL dl sureB sureOf
  generalize (noneB v || geV v y) = b4
  generalize (noneB u || leV u y) = b3
  rcases hw with rfl | rfl | rfl
  · have n1 : ¬ (("at" : Str) = "from") := by decide +kernel
    have n2 : ¬ (("at" : Str) = "upto") := by decide +kernel
    have o1 : onSide "slow" "at" = true := by decide +kernel
    have o2 : onSide "fast" "at" = true := by decide +kernel
    rw [if_pos rfl, if_neg n1, if_neg n2, o1, o2]
    cases b3 <;> cases b4 <;> rfl
  · have n1 : ¬ (("from" : Str) = "at") := by decide +kernel
    have o1 : onSide "slow" "from" = true := by decide +kernel
    have o2 : onSide "fast" "from" = false := by decide +kernel
    rw [if_neg n1, if_pos rfl, if_pos rfl, o1, o2]
    cases b4 <;> rfl
  · have n1 : ¬ (("upto" : Str) = "at") := by decide +kernel
    have n2 : ¬ (("upto" : Str) = "from") := by decide +kernel
    have o1 : onSide "slow" "upto" = false := by decide +kernel
    have o2 : onSide "fast" "upto" = true := by decide +kernel
    rw [if_neg n1, if_neg n2, if_neg n2, if_pos rfl, o1, o2]
    cases b3 <;> rfl
end KA
namespace KA
open PySem PySem.Spec PyProof.Rows L2 DP
def spLaw (K : PySem.W.Frag) : Sp := fun vs H Q _ => ∃ (a : Addr) (ns : List Int), vs = [.ref a] ∧ SqL K H a (ns.map V.int) ∧ ns.length ≤ 63 ∧ ∀ H', Q (.bl true) H'
theorem At.sm {H H1 H2 : Hp} {t g : Addr} {m : Nat} (A : At H H1 t g m) (S : Same H1 H2) : At H H2 t g m := ⟨A.T.same S, A.k.trans (Keep.of_same S)⟩
theorem tells_near {L : Int} (hL : 0 < L) (hLb : L.natAbs < 2 ^ 100) {sd : Str} {ls : List Lk} {x : Int} {v : V} (hok : ∀ l ∈ ls, Sized 270 l) (hx : x.natAbs < 2 ^ 280) (t : Tells sd ls x L v) : ∀ z, v = .int z → z.natAbs < 2 ^ 290 := by
  intro z e
  rcases t with ⟨_, rfl⟩ | ⟨m, rfl, ⟨l, hl, em⟩, _⟩
  · cases e
  · have ez : m = z := V.int.inj e
    subst ez
    obtain ⟨h1, h2⟩ := hok l (mem_side.mp hl).1
    have dv : ∀ a : Int, (a / L * L).natAbs ≤ a.natAbs + L.natAbs := fun a => by
      have h := Int.mul_ediv_add_emod a L
      have h0 := Int.emod_nonneg a (show L ≠ 0 by omega)
      have h3 := Int.emod_lt_of_pos a hL
      rw [Int.mul_comm] at h
      clear hLb hx h1 h2
      omega
    have d1 := dv (x - l.2.1)
    have d2 := dv (l.2.1 - x)
    have hz : m.natAbs ≤ l.2.2.natAbs + (x.natAbs + l.2.1.natAbs + L.natAbs) := by
      rw [← em]
      unfold plc
      clear hLb hx h1 h2 em
      split <;> omega
    have hsum : l.2.2.natAbs + (x.natAbs + l.2.1.natAbs + L.natAbs) < 2 ^ 270 + (2 ^ 280 + 2 ^ 270 + 2 ^ 100) := Nat.add_lt_add h2 (Nat.add_lt_add (Nat.add_lt_add hx h1) hLb)
    exact Nat.lt_of_le_of_lt hz (Nat.lt_trans hsum (by decide))
section
variable {P : Program} {w : World} {K : PySem.W.Frag} {mg : Str → Option Value} {base : Heap} {Z : Ad} {Y : AdX}
theorem ok_law (T : Tx K w mg Z) (X : Ex P K mg Y) : FnOk P w K mg base CX0 9 Z.a_law Z.d_law P_law (spLaw K) := by
  refine T.F_law.ok sclaw (fun vs H Q E h => ?_) (fun cdv A outer s H vs Q E hr h => ?_)
  · obtain ⟨a, ns, rfl, _⟩ := h
    rfl
  · obtain ⟨a, ns, rfl, hS, hlen, k⟩ := h
    refine ⟨_, (pss_cons (ps_set (i := 1) sclaw.nd rfl (Or.inl rfl) (pe_call (ok_law_tray T) (hr.mono (by decide)) (by rfl) T.g_law_tray T.F_law_tray.kp T.bb_law_tray .nil pass0 (pa_cons (pv 0) pa_nil)))
      (pss_cons (ps_for PassesOwn.never rfl (pi_range1 (by rfl) T.b_range (pa_cons (pe_op op_add pe_int (pe_callB (lenK (K := K)) (by rfl) T.b_len (by decide +kernel) (pa_cons (pe_slice (slL (K := K)) (pv 0) po_none (po_some pe_int)) pa_nil))) pa_nil)) (pg_name (i := 2) sclaw.nd rfl (Or.inl rfl)) (pss_cons (ps_set (i := 3) sclaw.nd rfl (Or.inl rfl) (pe_call (ok_law_length T) (hr.mono (by decide)) (by rfl) T.g_law_length T.F_law_length.kp T.bb_law_length .nil pass0 (pa_cons (pv 1) pa_nil)))
      (pss_cons (ps_set (i := 4) sclaw.nd rfl (Or.inr rfl) (pe_ix (ixL (K := K)) (pe_lst (pa_cons pe_str (pa_cons pe_str (pa_cons pe_str (pa_cons pe_str (pa_cons pe_str (pa_cons pe_str pa_nil))))))) (pe_call (ok_law_draw T) (hr.mono (by decide)) (by rfl) T.g_law_draw T.F_law_draw.kp T.bb_law_draw .nil pass0 (pa_cons (pv 1) (pa_cons pe_int pa_nil))) (fun _ _ => rfl)))
      (pss_cons (ps_setLc (i := 5) (own := [("look", 6)]) (g := gName 6) (tt := _) rfl sclaw.nd rfl rfl (sw_true rfl rfl rfl (by decide +kernel)) (pi_list (pe_call (ok_law_known T) (hr.mono (by decide)) (by rfl) T.g_law_known T.F_law_known.kp T.bb_law_known .nil pass0 (pa_cons (pv 1) (pa_cons (pv 3) (pa_cons pe_int pa_nil))))) (blkOk_by (own := [("look", 6)]) (N := N_law) (sc := defScope slaw) (by decide +kernel)) (fun _ _ _ _ _ => (pg_name (i := 6) sclaw.nd rfl (Or.inl rfl))) (fun _ _ _ _ _ => (pts_one (pt_cmpR (inS (K := K)) (pv 4) (pe_lst (pa_cons pe_str (pa_cons (pe_ix (ixT (K := K)) (pv 6) pe_int (fun _ _ => rfl)) pa_nil))) (by rfl)))) (fun _ _ _ _ _ => (pv 6)))
      (pss_cons (ps_set (i := 7) sclaw.nd rfl (Or.inl rfl) (pe_call (ok_law_made T) (hr.mono (by decide)) (by rfl) T.g_law_made T.F_law_made.kp T.bb_law_made .nil pass0 (pa_cons (pv 3) (pa_cons (pv 5) pa_nil))))
      (pss_cons (ps_set (i := 8) sclaw.nd rfl (Or.inl rfl) (pe_meth0 (pv 7) T.cl T.m_Dark_looks (ok_Dark_looks T) (hr.mono (by decide)) T.bb_Dark_looks .nil pass0))
      (pss_one (ps_for PassesOwn.never rfl (pi_range1 (by rfl) T.b_range (pa_cons pe_int pa_nil)) (pg_name (i := 9) sclaw.nd rfl (Or.inl rfl)) (pss_cons (ps_set (i := 10) sclaw.nd rfl (Or.inl rfl) (pe_call (ok_law_spot T) (hr.mono (by decide)) (by rfl) T.g_law_spot T.F_law_spot.kp T.bb_law_spot .nil pass0 (pa_cons (pv 1) (pa_cons (pv 3) (pa_cons (pv 5) pa_nil)))))
      (pss_cons (ps_set (i := 11) sclaw.nd rfl (Or.inl rfl) (pe_lst (pa_cons (pe_call (ok_law_least T) (hr.mono (by decide)) (by rfl) T.g_law_least T.F_law_least.kp T.bb_law_least .nil pass0 (pa_cons (pv 3) (pa_cons (pv 5) (pa_cons (pv 10) pa_nil)))) (pa_cons (pe_call (ok_law_greatest T) (hr.mono (by decide)) (by rfl) T.g_law_greatest T.F_law_greatest.kp T.bb_law_greatest .nil pass0 (pa_cons (pv 3) (pa_cons (pv 5) (pa_cons (pv 10) pa_nil)))) pa_nil))))
      (pss_cons (ps_set (i := 12) sclaw.nd rfl (Or.inl rfl) (pe_ix (ixL (K := K)) (pe_lst (pa_cons pe_str (pa_cons pe_str (pa_cons pe_str pa_nil)))) (pe_call (ok_law_draw T) (hr.mono (by decide)) (by rfl) T.g_law_draw T.F_law_draw.kp T.bb_law_draw .nil pass0 (pa_cons (pv 1) (pa_cons pe_int pa_nil))) (fun _ _ => rfl)))
      (pss_cons (ps_set (i := 13) sclaw.nd rfl (Or.inl rfl) (pe_call (ok_law_edge T) (hr.mono (by decide)) (by rfl) T.g_law_edge T.F_law_edge.kp T.bb_law_edge .nil pass0 (pa_cons (pv 1) (pa_cons (pv 3) (pa_cons (pv 11) (pa_cons (pv 10) pa_nil))))))
      (pss_cons (ps_set (i := 14) sclaw.nd rfl (Or.inl rfl) (pe_call (ok_law_dues T) (hr.mono (by decide)) (by rfl) T.g_law_dues T.F_law_dues.kp T.bb_law_dues .nil pass0 (pa_cons (pv 12) (pa_cons (pv 11) (pa_cons (pv 13) pa_nil)))))
      (pss_cons (ps_set (i := 15) sclaw.nd rfl (Or.inl rfl) (pe_lst (pa_cons (pe_meth (pv 7) T.cl T.m_Dark_may (ok_Dark_may T) (hr.mono (by decide)) T.bb_Dark_may .nil pass0 (pa_cons (pv 12) (pa_cons (pv 10) (pa_cons (pv 13) pa_nil)))) (pa_cons (pe_meth (pv 7) T.cl T.m_Dark_sure (ok_Dark_sure T) (hr.mono (by decide)) T.bb_Dark_sure .nil pass0 (pa_cons (pv 12) (pa_cons (pv 10) (pa_cons (pv 13) pa_nil)))) pa_nil))))
      (pss_cons (ps_set (i := 15) sclaw.nd rfl (Or.inl rfl) (pe_op op_cat (pv 15) (pe_lst (pa_cons (pe_methK0 (pv 7) T.cl T.m_Dark_may (ok_Dark_may T) (hr.mono (by decide)) T.kb_Dark_may pass0 (pk_cons (pv 13) (pk_cons (pv 10) (pk_cons (pv 12) pk_nil)))) (pa_cons (pe_methK0 (pv 7) T.cl T.m_Dark_sure (ok_Dark_sure T) (hr.mono (by decide)) T.kb_Dark_sure pass0 (pk_cons (pv 13) (pk_cons (pv 10) (pk_cons (pv 12) pk_nil)))) pa_nil)))))
      (C8.pss_cut (ps_if (PW.pt (pw_or (pt_not (pt_val (pe_call (ok_law_alike T 4) (hr.mono (by decide)) (by rfl) T.g_law_alike T.F_law_alike.kp T.bb_law_alike .nil pass0 (pa_cons (pv 15) (pa_cons (pe_op op_cat (pv 14) (pv 14)) pa_nil))))) (pw_or1 (pt_cmpR (neDK (K := K) hr.units) (pe_meth0 (pv 7) T.cl T.m_Dark_looks (ok_Dark_looks T) (hr.mono (by decide)) T.bb_Dark_looks .nil pass0) (pv 8) (nomark _))))) (pss_one (ps_ret pe_bl)) pss_nil)
      (C8.pss_cut (ps_set (i := 16) sclaw.nd rfl (Or.inl rfl) (pe_ifExp (pt_cmpR op_lt (pv 9) pe_int (nomark _)) (pe_call (ok_law_can_hear T X) (hr.mono (by decide)) (by rfl) T.g_law_can_hear T.F_law_can_hear.kp T.bb_law_can_hear .nil pass0 (pa_cons (pv 3) (pa_cons (pv 5) (pa_cons (pe_tup (pa_cons (pv 12) (pa_cons (pv 10) (pa_cons (pv 13) pa_nil)))) pa_nil)))) (pe_ix (ixL (K := K)) (pv 14) pe_int (fun _ _ => rfl))))
      (pss_one (ps_if (pt_cmpR op_ne (pv 16) (pe_ix (ixL (K := K)) (pv 14) pe_int (fun _ _ => rfl)) (nomark _)) (pss_one (ps_ret pe_bl)) pss_nil)))))))))))))))))))
      (pss_one (ps_ret pe_bl)))), ?_⟩
    refine ⟨_, rfl, a, ns, rfl, hS, hlen, fun H0 t g T0 S0 ht hg => ?_⟩
    refine ⟨_, rfl, _, rfl, a, _, rfl, Same.sqL S0 hS, fun q hq => ⟨q, _, rfl, .inl (SqL.of upd_same), _, _, rfl, rfl, ?_⟩⟩
    have hcut : ((cutV (ns.map V.int) none (some 8)).length : Int) ≤ 63 := by
      have e : (cutV (ns.map V.int) none (some (8 : Int))).length ≤ 63 := Nat.le_trans (cutV_length _ _ _) (by rw [List.length_map]; exact hlen)
      exact_mod_cast e
    have hcut0 : (0 : Int) ≤ ((cutV (ns.map V.int) none (some 8)).length : Int) := Int.natCast_nonneg _
    generalize ((cutV (ns.map V.int) none (some 8)).length : Int) = cut at hcut hcut0 ⊢
    have A0 : At H0 (upd H0 q (.lst (cutV (ns.map V.int) none (some 8)))) t g 0 := ⟨T0.same (same_upd hq), Keep.of_same (same_upd hq)⟩
    generalize upd H0 q (.lst (cutV (ns.map V.int) none (some 8))) = H0' at A0 ⊢
    refine ⟨3 + cut, rfl, by omega, by omega, ?_⟩
    refine for_range (n := (3 + cut).toNat) (fun i σ' H' => ∃ (u2 u3 u4 u5 u6 u7 u8 u9 u10 u11 u12 u13 u14 u15 u16 : Option V), σ' = [some (.ref a), some (.ref t), u2, u3, u4, u5, u6, u7, u8, u9, u10, u11, u12, u13, u14, u15, u16] ∧ At H0 H' t g (10000 * i)) ⟨_, _, _, _, _, _, _, _, _, _, _, _, _, _, _, rfl, A0⟩ ?_ ?_
    · rintro i σ' H1 hi ⟨u2, u3, u4, u5, u6, u7, u8, u9, u10, u11, u12, u13, u14, u15, u16, rfl, A1⟩
      have hi13 : i < 66 := by omega
      have hn : ∀ m, m ≤ 10000 * i + 10000 → m < 2 ^ 44 := fun m hm => Nat.lt_of_le_of_lt (by omega : m ≤ 1000000) (by decide)
      have hn' : ∀ m, m ≤ 10000 * i + 10000 → m < 2 ^ 60 := fun m hm => Nat.lt_trans (hn m hm) (by decide)
      obtain ⟨N, eN⟩ : ∃ N, N = 10000 * i := ⟨_, rfl⟩
      rw [← eN] at A1 hn hn'
      -- size, side, known
      refine ⟨_, rfl, t, g, N, rfl, A1.T, Nat.lt_trans (hn _ (by omega)) (by decide), fun H2 L hL hL30 T2 k2 => ?_⟩
      have A2 := A1.step T2 k2
      have hLb := bigL hL hL30
      refine ⟨(by show 6 ≤ sizeLine; decide), fun q hq => ?_⟩
      obtain ⟨qt, qg⟩ := T2.at_ne hq
      have A3 := A2.new (o := HO.lst [V.str "", .str "", .str "", .str "", .str "from", .str "upto"]) hq
      refine ⟨_, rfl, t, g, N + 10, 6, rfl, A3.T, by decide, by decide, hn' _ (by omega), fun H4 c0 c1 c2 T4 k4 => ?_⟩
      have A4 := A3.step T4 k4
      have hside : ∃ sd : Str, atI [V.str "", .str "", .str "", .str "", .str "from", .str "upto"] c0 = some (.str sd) := by
        have : c0 = 0 ∨ c0 = 1 ∨ c0 = 2 ∨ c0 = 3 ∨ c0 = 4 ∨ c0 = 5 := by omega
        rcases this with e | e | e | e | e | e <;> subst e <;> exact ⟨_, rfl⟩
      obtain ⟨sd, hsd⟩ := hside
      refine ⟨q, _, _, _, rfl, rfl, SqL.of (k4 _ _ upd_same qt qg), hsd, ?_⟩
      refine ⟨_, rfl, _, rfl, t, g, N + 11, L, 23, rfl, T4, hn _ (by omega), hL, hL30, by decide, by decide, fun H5 p ls steps hp A5' lp5 htr hst hll => ?_⟩
      have A5 := A4.step A5'.T A5'.k
      have T5 := A5'.T
      obtain ⟨pt, pg⟩ := T4.at_ne hp
      have nl := noLs_map noL_encL ls
      -- known = [look for look in known if side in ['', look[0]]]
      obtain ⟨vs5, hv5, hd5⟩ := id lp5
      have hvl : vs5.length = ls.length := by rw [dpAll_len hd5, List.length_map]
      refine ⟨p, rfl, ⟨_, SqL.of hv5⟩, fun D hD => ?_⟩
      obtain ⟨Dt, Dg⟩ := T5.at_ne hD
      refine lc_list (K := K) (a := p) (xs := vs5) (fun j H' => Same H5 H' ∧ ∃ (ys : List V) (l2 : List Lk), H' D = some (.lst ys) ∧ DpAll K H' ys (l2.map encL) ∧ l2.length ≤ j ∧ ∀ l ∈ l2, TrueLk L steps l) ⟨same_upd hD, [], [], upd_same, .nil, Nat.le_refl _, fun _ z => absurd z (by simp)⟩ (fun j H' _ ⟨S, _⟩ => SqL.of (S _ _ hv5)) ?_ ?_
      · rintro j y H' hj ⟨S, ys, l2, hd', hds, hl2, ht2⟩
        obtain ⟨e, hdi, hdy⟩ := dpAll_get hd5 hj
        obtain ⟨l, hl, rfl⟩ := map_at hdi
        have hj' : j < ls.length := (List.getElem?_eq_some_iff.mp hl).1
        have hdy' := dp_mono S _ _ hdy
        obtain ⟨pp, rfl, hpp⟩ := dp_look hdy'
        refine ⟨rfl, _, rfl, _, rfl, _, _, _, _, rfl, rfl, hpp, rfl, (by show 2 ≤ sizeLine; decide), fun q2 hq2 => ?_⟩
        have S2 := same_upd (o := HO.lst [V.str "", .str l.1]) hq2
        refine ⟨_, _, rfl, .inl (SqL.of upd_same), rfl, rfl, _, rfl, ?_⟩
        refine ite2 (fun _ => ?_) (fun _ => ⟨S.trans S2, ys, l2, S2 _ _ hd', dpAll_mono S2 _ _ hds, by omega, ht2⟩)
        have hd2 := S2 _ _ hd'
        have hyl : ys.length = l2.length := by rw [dpAll_len hds, List.length_map]
        refine ⟨_, rfl, ys, hd2, small1000 (by omega), same_set (S.trans S2) hD, _, l2 ++ [l], upd_same, ?_, by simp; omega, fun o ho => ?_⟩
        · rw [List.map_append]
          exact acc_step hd2 (noLs_map noL_encL _) rfl (dpAll_mono S2 _ _ hds) (dp_mono S2 _ _ hdy')
        · rcases List.mem_append.mp ho with h | h
          · exact ht2 o h
          · rw [List.mem_singleton] at h; subst h
            exact htr o (List.mem_of_getElem? hl)
      rintro H6 ⟨S6, ys, l2, hd6, hds6, hl2, ht2⟩
      rw [hvl] at hl2
      have l2len : l2.length ≤ 24 := by omega
      have lD : LAt K H6 D (l2.map encL) := ⟨ys, hd6, hds6⟩
      have A6 : At H0 H6 t g (N + 2100) := (A5.sm S6).up (by omega)
      have nl2 := noLs_map noL_encL l2
      have okl : ∀ l ∈ l2, WordOk l.1 ∧ Sized 300 l := fun l hl => ⟨(ht2 l hl).word, (ht2 l hl).sz.up (by decide)⟩
      have okl4 : ∀ l ∈ l2, WordOk l.1 ∧ Sized 400 l := fun l hl => ⟨(ht2 l hl).word, (ht2 l hl).sz.up (by decide)⟩
      have oks : ∀ l ∈ l2, WordOk l.1 ∧ Sized 270 l := fun l hl => ⟨(ht2 l hl).word, (ht2 l hl).sz⟩
      have nc : ∀ a ∈ l2, ∀ b ∈ l2, clashB a b L = false := fun a ha b hb => no_clash hL (ht2 a ha).says (ht2 b hb).says
      have hL2 : L.natAbs < 2 ^ 200 := lt_up hLb (by decide)
      -- made, before
      refine ⟨_, rfl, _, rfl, .ref D, L, l2, rfl, lD.dp, hL, hL2, okl, nc, by omega, fun H7 d hd S7 DK7 F7 => ?_⟩
      have A7 := A6.sm S7
      have lD7 := lD.same S7
      have G7 : ∀ la dx, H7 d = some (.ins Z.C dx (df L la)) → la ≠ t ∧ la ≠ g := fun la dx e => A6.T.at_ne (F7 la dx e)
      have hh : ∀ o, o ∈ l2.foldl (heard L) [] ↔ ∃ l ∈ l2, o = home L l := fun o => by rw [fold_mem]; simp
      generalize l2.foldl (heard L) [] = hs at DK7 hh
      obtain ⟨dx7, la7, vs7, e7, e7', e7''⟩ := id DK7.ex
      refine ⟨_, rfl, d, dx7, _, rfl, e7, df_no _ _ (by decide +kernel) (by decide +kernel), d, L, hs, rfl, DK7, fun pb xs H8 hpb S8 hb1 hb2 => ?_⟩
      obtain ⟨pbt, pbg⟩ := A7.T.at_ne hpb
      have A8 := A7.sm S8
      have lD8 := lD7.same S8
      have DK8 := DK7.same S8
      have G8 : ∀ la dx, H8 d = some (.ins Z.C dx (df L la)) → la ≠ t ∧ la ≠ g := fun la dx e => by
        have e' := S8 _ _ e7
        rw [e] at e'
        rw [df_inj e']
        exact G7 _ _ e7
      have lb8 : LAt K H8 pb (hs.map encL) := ⟨xs, hb1, hb2⟩
      have nlh := noLs_map noL_encL hs
      have T8 := A8.T
      have k8 := A8.k
      have hwd : ∀ l ∈ hs, WordOk l.1 := fun l hl => (DK8.ok l hl).1
      -- for turn in range(16)
      refine ⟨16, rfl, by decide, by decide, ?_⟩
      refine for_range (n := 16) (fun j σ' H' => ∃ (u6 u9 u10 u11 u12 u13 u14 u15 u16 : Option V), σ' = [some (.ref a), some (.ref t), some (.int (0 + (i : Int))), some (.int L), some (.str sd), some (.ref D), u6, some (.ref d), some (.ref pb), u9, u10, u11, u12, u13, u14, u15, u16] ∧ At H8 H' t g (N + 3000 + 40 * j)) ⟨_, _, _, _, _, _, _, _, _, rfl, T8.up (by omega), Keep.refl _ _ _⟩ ?_ ?_
      · rintro j σ' H9 hj ⟨u6, u9, u10, u11, u12, u13, u14, u15, u16, rfl, A9⟩
        obtain ⟨M, eM⟩ : ∃ M, M = N + 3000 + 40 * j := ⟨_, rfl⟩
        rw [← eM] at A9
        have hM : ∀ m, m ≤ M + 40 → m < 2 ^ 44 := fun m hm => hn m (by omega)
        have hM' : ∀ m, m ≤ M + 40 → m < 2 ^ 60 := fun m hm => Nat.lt_trans (hM m hm) (by decide)
        have lDk : ∀ {H'}, Keep t g H8 H' → LAt K H' D (l2.map encL) := fun k => lD8.keep T8 k Dt Dg nl2
        have DKk : ∀ {H'}, Keep t g H8 H' → DarkAt Z K H' d L hs := fun k => (DK8.keep T8 k G8).1
        -- spot
        refine ⟨_, rfl, _, rfl, _, rfl, t, g, D, M, L, l2, rfl, A9.T, hM _ (by omega), hL, hL30, lDk A9.k, Dt, Dg, oks, by omega, fun H10 x A10' hx => ?_⟩
        have A10 := A9.step A10'.T A10'.k
        have hx4 : x.natAbs < 2 ^ 400 := lt_up hx (by decide)
        -- some
        refine ⟨_, rfl, _, rfl, _, rfl, .ref D, L, x, l2, rfl, (lDk A10.k).dp, hL, hL2, hx4, okl4, by omega, fun v1 H11 S11 t1 => ?_⟩
        have A11 := A10.sm S11
        refine ⟨_, rfl, _, rfl, _, rfl, .ref D, L, x, l2, rfl, (lDk A11.k).dp, hL, hL2, hx4, okl4, by omega, fun v2 H12 S12 t2 => ?_⟩
        have A12 := A11.sm S12
        refine ⟨(by show 2 ≤ sizeLine; decide), fun q3 hq3 => ?_⟩
        obtain ⟨q3t, q3g⟩ := A12.T.at_ne hq3
        have A13 := A12.new (o := HO.lst [v1, v2]) hq3
        have hq13 : (upd H12 q3 (.lst [v1, v2])) q3 = some (.lst [v1, v2]) := upd_same
        generalize upd H12 q3 (.lst [v1, v2]) = H13 at A13 hq13 ⊢
        -- said
        refine ⟨(by show 3 ≤ sizeLine; decide), fun q4 hq4 => ?_⟩
        obtain ⟨q4t, q4g⟩ := A13.T.at_ne hq4
        have A14 := A13.new (o := HO.lst [V.str "at", .str "from", .str "upto"]) hq4
        refine ⟨_, rfl, t, g, M + 20, 3, rfl, A14.T, by decide, by decide, hM' _ (by omega), fun H15 c0 c1 c2 T15 k15 => ?_⟩
        have A15 := A14.step T15 k15
        have hsaid : ∃ said : Str, atI [V.str "at", .str "from", .str "upto"] c0 = some (.str said) ∧ WordOk said := by
          have : c0 = 0 ∨ c0 = 1 ∨ c0 = 2 := by omega
          rcases this with e | e | e <;> subst e
          · exact ⟨_, rfl, .inl rfl⟩
          · exact ⟨_, rfl, .inr (.inl rfl)⟩
          · exact ⟨_, rfl, .inr (.inr rfl)⟩
        obtain ⟨said, hs1, hw⟩ := hsaid
        refine ⟨q4, _, _, _, rfl, rfl, SqL.of (k15 _ _ upd_same q4t q4g), hs1, ?_⟩
        have hq15 := k15 _ _ ((same_upd (o := HO.lst [V.str "at", .str "from", .str "upto"]) hq4) _ _ hq13) q3t q3g
        have fl1 := tells_flat' t1
        have fl2 := tells_flat' t2
        have nr1 := tells_near hL hLb (fun l hl => (oks l hl).2) hx t1
        have nr2 := tells_near hL hLb (fun l hl => (oks l hl).2) hx t2
        -- there
        refine ⟨_, rfl, _, rfl, _, rfl, _, rfl, t, g, q3, M + 21, L, x, v1, v2, rfl, T15, Nat.lt_trans (hM _ (by omega)) (by decide), hL, hL30, hq15, fl1, fl2, fun z hz => hz.elim (nr1 z) (nr2 z), lt_up hx (by decide), fun H16 y A16' hy => ?_⟩
        have A16 := A15.step A16'.T A16'.k
        have hq16 := A16'.k _ _ hq15 q3t q3g
        have hsz : Sized 300 ((said, x, y) : Lk) := ⟨lt_up hx (by decide), lt_up hy (by decide)⟩
        -- due
        refine ⟨_, rfl, _, rfl, _, rfl, q3, said, v1, v2, y, rfl, SqL.of hq16, fl1, fl2, fun qd H17 S17 hqd => ?_⟩
        have A17 := A16.sm S17
        rw [dues_are hw t1 t2] at hqd
        obtain ⟨dxa, laa, vsa, ea, _, _⟩ := id (DKk A17.k).ex
        -- told
        have em : mayB L hs (said, x, y) = !l2.any fun q => clashB (said, x, y) q L := may_ls hL hh _
        refine ⟨_, rfl, d, dxa, _, rfl, ea, df_no _ _ (by decide +kernel) (by decide +kernel), _, rfl, _, rfl, _, rfl, d, L, hs, (said, x, y), rfl, DKk A17.k, hw, hsz, fun H18 S18 => ?_⟩
        have A18 := A17.sm S18
        refine ⟨_, rfl, d, dxa, _, rfl, S18 _ _ ea, df_no _ _ (by decide +kernel) (by decide +kernel), _, rfl, _, rfl, _, rfl, d, L, hs, (said, x, y), rfl, DKk A18.k, hw, hx4, fun w1 w2 H19 S19 r1 r2 => ?_⟩
        have E1 := tells_home hL hh t1 r1
        have E2 := tells_home hL hh t2 r2
        subst E1 E2
        have A19 := A18.sm S19
        rw [em]
        obtain ⟨bm, ebm⟩ : ∃ b, b = !l2.any fun q => clashB (said, x, y) q L := ⟨_, rfl⟩
        rw [← ebm] at hqd ⊢
        obtain ⟨bs, ebs⟩ : ∃ b, b = sureB said w1 w2 y := ⟨_, rfl⟩
        rw [← ebs] at hqd
        have ebs' : sureB ((said, x, y) : Lk).1 w1 w2 ((said, x, y) : Lk).2.2 = bs := ebs.symm
        rw [ebs']
        refine ⟨(by show 2 ≤ sizeLine; decide), fun q5 hq5 => ?_⟩
        have hq5' : (upd H19 q5 (.lst [.bl bm, .bl bs])) q5 = some (.lst [.bl bm, .bl bs]) := upd_same
        have S20 := (S18.trans S19).trans (same_upd (o := HO.lst [V.bl bm, .bl bs]) hq5)
        generalize upd H19 q5 (.lst [.bl bm, .bl bs]) = H20 at S20 hq5' ⊢
        have A20 := A17.sm S20
        refine ⟨_, rfl, _, rfl, d, dxa, _, rfl, S20 _ _ ea, df_no _ _ (by decide +kernel) (by decide +kernel), _, rfl, _, rfl, _, rfl, d, L, hs, (said, x, y), rfl, DKk A20.k, hw, hsz, fun H21 S21 => ?_⟩
        have A21 := A20.sm S21
        refine ⟨_, rfl, d, dxa, _, rfl, S21 _ _ (S20 _ _ ea), df_no _ _ (by decide +kernel) (by decide +kernel), _, rfl, _, rfl, _, rfl, d, L, hs, (said, x, y), rfl, DKk A21.k, hw, hx4, fun w3 w4 H22 S22 r3 r4 => ?_⟩
        have E3 := tells_home hL hh t1 r3
        have E4 := tells_home hL hh t2 r4
        have ebs2 : sureB ((said, x, y) : Lk).1 w3 w4 ((said, x, y) : Lk).2.2 = bs := by rw [ebs, E3, E4]
        rw [em, ← ebm, ebs2]
        refine ⟨(by show 2 ≤ sizeLine; decide), fun q6 hq6 => ?_⟩
        have S23 := (S21.trans S22).trans (same_upd (o := HO.lst [V.bl bm, .bl bs]) hq6)
        have hq6' : (upd H22 q6 (.lst [.bl bm, .bl bs])) q6 = some (.lst [.bl bm, .bl bs]) := upd_same
        generalize upd H22 q6 (.lst [.bl bm, .bl bs]) = H23 at S23 hq6' ⊢
        refine ⟨q5, q6, _, _, rfl, rfl, S23 _ _ hq5', hq6', (by show 2 + 2 ≤ sizeLine; decide), fun q7 hq7 => ?_⟩
        have S24 := (S20.trans S23).trans (same_upd (o := HO.lst ([V.bl bm, .bl bs] ++ [.bl bm, .bl bs])) hq7)
        have hq7' : (upd H23 q7 (.lst ([V.bl bm, .bl bs] ++ [.bl bm, .bl bs]))) q7 = some (.lst [V.bl bm, .bl bs, .bl bm, .bl bs]) := upd_same
        generalize upd H23 q7 (.lst ([V.bl bm, .bl bs] ++ [.bl bm, .bl bs])) = H24 at S24 hq7' ⊢
        have A24 := A17.sm S24
        have hqd24 := S24 _ _ hqd
        have dpb : ∀ (H : Hp) (b : Bool), Dp K H (.bl b) (.bool b) := fun _ b => .bl b
        -- if not _law_alike(told, due + due) or made.looks() != before
        refine ⟨fun σ' H' => σ' = [some (.ref a), some (.ref t), some (.int (0 + (i : Int))), some (.int L), some (.str sd), some (.ref D), u6, some (.ref d), some (.ref pb), some (.int (0 + (j : Int))), some (.int x), some (.ref q3), some (.str said), some (.int y), some (.ref qd), some (.ref q7), u16] ∧ At H8 H' t g (M + 30) ∧ H' qd = some (.lst [.bl bm, .bl bs]), ?_, ?_⟩
        · refine ⟨_, rfl, _, rfl, _, rfl, qd, qd, _, _, rfl, rfl, hqd24, hqd24, (by show 2 + 2 ≤ sizeLine; decide), fun q8 hq8 => ?_⟩
          have S25 := same_upd (o := HO.lst ([V.bl bm, .bl bs] ++ [.bl bm, .bl bs])) hq8
          refine ⟨.ref q7, .ref q8, .list [.bool bm, .bool bs, .bool bm, .bool bs], rfl, .lst (SqL.of (S25 _ _ hq7')) (.cons (dpb _ _) (.cons (dpb _ _) (.cons (dpb _ _) (.cons (dpb _ _) .nil)))), .lst (SqL.of upd_same) (.cons (dpb _ _) (.cons (dpb _ _) (.cons (dpb _ _) (.cons (dpb _ _) .nil)))), rfl, by simp [PyData.depth, PyData.depthAll], _, rfl, ?_⟩
          have A25 := A24.sm S25
          refine iteF ⟨_, rfl, d, dxa, _, rfl, S25 _ _ (S24 _ _ ea), df_no _ _ (by decide +kernel) (by decide +kernel), d, L, hs, rfl, DKk A25.k, fun pc xs H26 hpc S26 hc1 hc2 => ?_⟩
          have A26 := A25.sm S26
          refine ⟨_, rfl, _, _, .lst (SqL.of hc1) hc2, (lb8.keep T8 A26.k pbt pbg nlh).dp, shaped_looks hwd, shaped_looks hwd, _, rfl, ?_⟩
          rw [SeqAt.eqv_refl _ (SeqAt.canLay_of_shaped (shaped_looks hwd))]
          exact iteF ⟨rfl, A26.up (by omega), S26 _ _ (S25 _ _ hqd24)⟩
        · rintro σ1 H27 ⟨rfl, A27, hqd27⟩
          refine ⟨fun σ' H' => σ' = [some (.ref a), some (.ref t), some (.int (0 + (i : Int))), some (.int L), some (.str sd), some (.ref D), u6, some (.ref d), some (.ref pb), some (.int (0 + (j : Int))), some (.int x), some (.ref q3), some (.str said), some (.int y), some (.ref qd), some (.ref q7), some (.bl bm)] ∧ At H8 H' t g (M + 30) ∧ H' qd = some (.lst [.bl bm, .bl bs]), ?_, ?_⟩
          · refine ⟨_, rfl, _, _, rfl, rfl, _, rfl, ?_⟩
            refine ite2 (fun _ => ?_) (fun _ => ?_)
            · refine ⟨_, rfl, _, rfl, _, rfl, _, rfl, _, rfl, (by show 3 ≤ sizeLine; decide), fun q8 hq8 => ?_⟩
              have S28 := same_upd (o := HO.tup [V.str said, .int x, .int y]) hq8
              have A28 := A27.sm S28
              refine ⟨.ref D, .ref q8, L, l2, (said, x, y), rfl, (lDk A28.k).dp, .tup (SqT.of upd_same) (.cons (.str _) (.cons (.int _) (.cons (.int _) .nil))), hL, hL2, okl, nc, by omega, hw, hsz, fun H29 S29 => ?_⟩
              rw [← ebm]
              exact ⟨rfl, A28.sm S29, S29 _ _ (S28 _ _ hqd27)⟩
            · exact ⟨_, rfl, qd, _, _, _, rfl, rfl, SqL.of hqd27, rfl, rfl, A27, hqd27⟩
          · rintro σ2 H30 ⟨rfl, A30, hqd30⟩
            refine ⟨_, rfl, _, rfl, qd, _, _, _, rfl, rfl, SqL.of hqd30, rfl, rfl, _, rfl, ?_⟩
            exact iteNS rfl ⟨_, _, _, _, _, _, _, _, _, rfl, A30.up (by omega)⟩
      · rintro σ' H9 ⟨u6, u9, u10, u11, u12, u13, u14, u15, u16, rfl, A9⟩
        exact ⟨_, _, _, _, _, _, _, _, _, _, _, _, _, _, _, rfl, ⟨A9.T.up (by omega), k8.trans A9.k⟩⟩
    · rintro σ' H1 ⟨u2, u3, u4, u5, u6, u7, u8, u9, u10, u11, u12, u13, u14, u15, u16, rfl, A1⟩
      exact k _
end
end KA
namespace KA
open PySem PySem.Spec PyProof.Rows L2 DP
theorem g11_of {α : Type} : ∀ {us ws : List α}, (g11 us ws).length = 2 → ∃ a b, us = [a] ∧ ws = [b]
  | [a], [b], _ => ⟨a, b, rfl, rfl⟩
  | [], _, h => nomatch (show (0 : Nat) = 2 from h)
  | [_], [], h => nomatch (show (0 : Nat) = 2 from h)
  | [_], _ :: _ :: _, h => nomatch (show (0 : Nat) = 2 from h)
  | _ :: _ :: _, _, h => nomatch (show (0 : Nat) = 2 from h)
theorem sqt2 {K : PySem.W.Frag} {H : Hp} {t : Addr} {x y : Str} {o : Option Addr} {u v : Tok} {n : Nat} {s : Array (Option Value)} (l : K.lookup t = some ⟨.type "tuple", o, .seq #[.str x u, .str y v] n, s⟩) : SqT K H t [.str x, .str y] :=
  .inr ⟨_, _, n, l, rfl, rfl, (by show 2 ≤ sizeLine; decide), .cons ⟨u, rfl⟩ (.cons ⟨v, rfl⟩ .nil)⟩
theorem sqt3 {K : PySem.W.Frag} {H : Hp} {t : Addr} {x y z : Str} {o : Option Addr} {u v q : Tok} {n : Nat} {s : Array (Option Value)} (l : K.lookup t = some ⟨.type "tuple", o, .seq #[.str x u, .str y v, .str z q] n, s⟩) : SqT K H t [.str x, .str y, .str z] :=
  .inr ⟨_, _, n, l, rfl, rfl, (by show 3 ≤ sizeLine; decide), .cons ⟨u, rfl⟩ (.cons ⟨v, rfl⟩ (.cons ⟨q, rfl⟩ .nil))⟩
theorem all_mk {l : PySem.W.OpenLaw} {w : World} {K : PySem.W.Frag} {h : Heap} {mg : Str → Option Value} {fa : Addr} (X : K.In h) (G : h.Ns mainGlobals mg) (hfa : mg "law" = some (.ref fa))
    {C : Addr}
    {f0 : Addr} {od0 an0 : Option Addr} {sl0 : Array (Option Value)} {oc0 kV0 dc0 pm0 cd0 ct0 : Value}
    {f1 : Addr} {od1 an1 : Option Addr} {sl1 : Array (Option Value)} {oc1 kV1 dc1 pm1 cd1 ct1 : Value}
    {f2 : Addr} {od2 an2 : Option Addr} {sl2 : Array (Option Value)} {oc2 kV2 dc2 pm2 cd2 ct2 : Value}
    {f3 : Addr} {od3 an3 : Option Addr} {sl3 : Array (Option Value)} {oc3 kV3 dc3 pm3 cd3 ct3 : Value}
    {f4 : Addr} {od4 an4 : Option Addr} {sl4 : Array (Option Value)} {oc4 kV4 dc4 pm4 cd4 ct4 : Value}
    {f5 : Addr} {od5 an5 : Option Addr} {sl5 : Array (Option Value)} {oc5 kV5 dc5 pm5 cd5 ct5 : Value}
    {f6 : Addr} {od6 an6 : Option Addr} {sl6 : Array (Option Value)} {oc6 kV6 dc6 pm6 cd6 ct6 : Value}
    {f7 : Addr} {od7 an7 : Option Addr} {sl7 : Array (Option Value)} {oc7 kV7 dc7 pm7 cd7 ct7 : Value}
    {f8 : Addr} {od8 an8 : Option Addr} {sl8 : Array (Option Value)} {oc8 kV8 dc8 pm8 cd8 ct8 : Value}
    {f9 : Addr} {od9 an9 : Option Addr} {sl9 : Array (Option Value)} {oc9 kV9 dc9 pm9 cd9 ct9 : Value}
    {f10 : Addr} {od10 an10 : Option Addr} {sl10 : Array (Option Value)} {oc10 kV10 dc10 pm10 cd10 ct10 : Value}
    {f11 : Addr} {od11 an11 : Option Addr} {sl11 : Array (Option Value)} {oc11 kV11 dc11 pm11 cd11 ct11 : Value}
    {f12 : Addr} {od12 an12 : Option Addr} {sl12 : Array (Option Value)} {oc12 kV12 dc12 pm12 cd12 ct12 : Value}
    {f13 : Addr} {od13 an13 : Option Addr} {sl13 : Array (Option Value)} {oc13 kV13 dc13 pm13 cd13 ct13 : Value}
    {f14 : Addr} {od14 an14 : Option Addr} {sl14 : Array (Option Value)} {oc14 kV14 dc14 pm14 cd14 ct14 : Value}
    {f15 : Addr} {od15 an15 : Option Addr} {sl15 : Array (Option Value)} {oc15 kV15 dc15 pm15 cd15 ct15 : Value}
    {f16 : Addr} {od16 an16 : Option Addr} {sl16 : Array (Option Value)} {oc16 kV16 dc16 pm16 cd16 ct16 : Value}
    {f17 : Addr} {od17 an17 : Option Addr} {sl17 : Array (Option Value)} {oc17 kV17 dc17 pm17 cd17 ct17 : Value}
    {f18 : Addr} {od18 an18 : Option Addr} {sl18 : Array (Option Value)} {oc18 kV18 dc18 pm18 cd18 ct18 : Value}
    {f19 : Addr} {od19 an19 : Option Addr} {sl19 : Array (Option Value)} {oc19 kV19 dc19 pm19 cd19 ct19 : Value}
    {f20 : Addr} {od20 an20 : Option Addr} {sl20 : Array (Option Value)} {oc20 kV20 dc20 pm20 cd20 ct20 : Value}
    {f21 : Addr} {od21 an21 : Option Addr} {sl21 : Array (Option Value)} {oc21 kV21 dc21 pm21 cd21 ct21 : Value}
    {f22 : Addr} {od22 an22 : Option Addr} {sl22 : Array (Option Value)} {oc22 kV22 dc22 pm22 cd22 ct22 : Value}
    {f23 : Addr} {od23 an23 : Option Addr} {sl23 : Array (Option Value)} {oc23 kV23 dc23 pm23 cd23 ct23 : Value}
    {f24 : Addr} {od24 an24 : Option Addr} {sl24 : Array (Option Value)} {oc24 kV24 dc24 pm24 cd24 ct24 : Value}
    {f25 : Addr} {od25 an25 : Option Addr} {sl25 : Array (Option Value)} {oc25 kV25 dc25 pm25 cd25 ct25 : Value}
    {f26 : Addr} {od26 an26 : Option Addr} {sl26 : Array (Option Value)} {oc26 kV26 dc26 pm26 cd26 ct26 : Value}
    {f27 : Addr} {od27 an27 : Option Addr} {sl27 : Array (Option Value)} {oc27 kV27 dc27 pm27 cd27 ct27 : Value}
    {f28 : Addr} {od28 an28 : Option Addr} {sl28 : Array (Option Value)} {oc28 kV28 dc28 pm28 cd28 ct28 : Value}
    {f29 : Addr} {od29 an29 : Option Addr} {sl29 : Array (Option Value)} {oc29 kV29 dc29 pm29 cd29 ct29 : Value}
    {f30 : Addr} {od30 an30 : Option Addr} {sl30 : Array (Option Value)} {oc30 kV30 dc30 pm30 cd30 ct30 : Value}
    {f31 : Addr} {od31 an31 : Option Addr} {sl31 : Array (Option Value)} {oc31 kV31 dc31 pm31 cd31 ct31 : Value}
    {f32 : Addr} {od32 an32 : Option Addr} {sl32 : Array (Option Value)} {oc32 kV32 dc32 pm32 cd32 ct32 : Value}
    {tSLOW : Tok}
    {tFAST : Tok}
    {aW aL tS tF : Addr} {es : Array DictEntry} {nW n1 n2 n3 : Nat} {o1 o2 o3 : Option Addr} {s1 s2 s3 : Array (Option Value)} {u1 u2 u3 u4 u5 u6 u7 : Tok}
    {xC0 xF0 xN0 xcc0 xcda0 : Addr} {xnm0 xq0 xfile0 : Str} {xbs0 xbm0 : List Value} {xsn0 : List Str} {xsub0 : List Value} {xab0 : Bool} {xcol0 : Option Bool} {xdd0 xod0 xan0 xcld0 xcdd0 : Option Addr} {xk00 xk10 xk20 xk30 xk50 : Option Value} {xoc0 xdoc0 xpm0 xct0 xcl0 xccl0 : Value} {xosl0 xcsl0 xccs0 : Array (Option Value)} {xvs0 : Array Value} {xtf0 : Tok}
    (aC : PySem.W.nsIn K mainGlobals "Dark" = some (some (.ref C)))
    (a0 : PySem.W.nsIn K mainGlobals "_law_tray" = some (some (.ref f0)))
    (l0 : K.lookup f0 = some ⟨oc0, od0, .func (PySem.W.fnOf "_law_tray" "_law_tray" (defArgs slaw_tray) (defBody slaw_tray) (defScope slaw_tray) .none kV0 dc0 pm0 an0 cd0 ct0), sl0⟩)
    (c0 : PySem.W.codeIn K cd0 "_law_tray" = true)
    (k0 : PySem.W.keepIn K (.ref f0) = true)
    (a1 : PySem.W.nsIn K mainGlobals "_law_draw" = some (some (.ref f1)))
    (l1 : K.lookup f1 = some ⟨oc1, od1, .func (PySem.W.fnOf "_law_draw" "_law_draw" (defArgs slaw_draw) (defBody slaw_draw) (defScope slaw_draw) .none kV1 dc1 pm1 an1 cd1 ct1), sl1⟩)
    (c1 : PySem.W.codeIn K cd1 "_law_draw" = true)
    (k1 : PySem.W.keepIn K (.ref f1) = true)
    (a2 : PySem.W.nsIn K mainGlobals "_law_great" = some (some (.ref f2)))
    (l2 : K.lookup f2 = some ⟨oc2, od2, .func (PySem.W.fnOf "_law_great" "_law_great" (defArgs slaw_great) (defBody slaw_great) (defScope slaw_great) .none kV2 dc2 pm2 an2 cd2 ct2), sl2⟩)
    (c2 : PySem.W.codeIn K cd2 "_law_great" = true)
    (k2 : PySem.W.keepIn K (.ref f2) = true)
    (a3 : PySem.W.nsIn K mainGlobals "_law_alike" = some (some (.ref f3)))
    (l3 : K.lookup f3 = some ⟨oc3, od3, .func (PySem.W.fnOf "_law_alike" "_law_alike" (defArgs slaw_alike) (defBody slaw_alike) (defScope slaw_alike) .none kV3 dc3 pm3 an3 cd3 ct3), sl3⟩)
    (c3 : PySem.W.codeIn K cd3 "_law_alike" = true)
    (k3 : PySem.W.keepIn K (.ref f3) = true)
    (a4 : PySem.W.nsIn K mainGlobals "_law_length" = some (some (.ref f4)))
    (l4 : K.lookup f4 = some ⟨oc4, od4, .func (PySem.W.fnOf "_law_length" "_law_length" (defArgs slaw_length) (defBody slaw_length) (defScope slaw_length) .none kV4 dc4 pm4 an4 cd4 ct4), sl4⟩)
    (c4 : PySem.W.codeIn K cd4 "_law_length" = true)
    (k4 : PySem.W.keepIn K (.ref f4) = true)
    (a5 : PySem.W.nsIn K mainGlobals "_law_lead" = some (some (.ref f5)))
    (l5 : K.lookup f5 = some ⟨oc5, od5, .func (PySem.W.fnOf "_law_lead" "_law_lead" (defArgs slaw_lead) (defBody slaw_lead) (defScope slaw_lead) .none kV5 dc5 pm5 an5 cd5 ct5), sl5⟩)
    (c5 : PySem.W.codeIn K cd5 "_law_lead" = true)
    (k5 : PySem.W.keepIn K (.ref f5) = true)
    (a6 : PySem.W.nsIn K mainGlobals "_law_secret" = some (some (.ref f6)))
    (l6 : K.lookup f6 = some ⟨oc6, od6, .func (PySem.W.fnOf "_law_secret" "_law_secret" (defArgs slaw_secret) (defBody slaw_secret) (defScope slaw_secret) .none kV6 dc6 pm6 an6 cd6 ct6), sl6⟩)
    (c6 : PySem.W.codeIn K cd6 "_law_secret" = true)
    (k6 : PySem.W.keepIn K (.ref f6) = true)
    (a7 : PySem.W.nsIn K mainGlobals "_law_true_look" = some (some (.ref f7)))
    (l7 : K.lookup f7 = some ⟨oc7, od7, .func (PySem.W.fnOf "_law_true_look" "_law_true_look" (defArgs slaw_true_look) (defBody slaw_true_look) (defScope slaw_true_look) .none kV7 dc7 pm7 an7 cd7 ct7), sl7⟩)
    (c7 : PySem.W.codeIn K cd7 "_law_true_look" = true)
    (k7 : PySem.W.keepIn K (.ref f7) = true)
    (a8 : PySem.W.nsIn K mainGlobals "_law_known" = some (some (.ref f8)))
    (l8 : K.lookup f8 = some ⟨oc8, od8, .func (PySem.W.fnOf "_law_known" "_law_known" (defArgs slaw_known) (defBody slaw_known) (defScope slaw_known) .none kV8 dc8 pm8 an8 cd8 ct8), sl8⟩)
    (c8 : PySem.W.codeIn K cd8 "_law_known" = true)
    (k8 : PySem.W.keepIn K (.ref f8) = true)
    (a9 : PySem.W.nsIn K mainGlobals "_law_least" = some (some (.ref f9)))
    (l9 : K.lookup f9 = some ⟨oc9, od9, .func (PySem.W.fnOf "_law_least" "_law_least" (defArgs slaw_least) (defBody slaw_least) (defScope slaw_least) .none kV9 dc9 pm9 an9 cd9 ct9), sl9⟩)
    (c9 : PySem.W.codeIn K cd9 "_law_least" = true)
    (k9 : PySem.W.keepIn K (.ref f9) = true)
    (a10 : PySem.W.nsIn K mainGlobals "_law_greatest" = some (some (.ref f10)))
    (l10 : K.lookup f10 = some ⟨oc10, od10, .func (PySem.W.fnOf "_law_greatest" "_law_greatest" (defArgs slaw_greatest) (defBody slaw_greatest) (defScope slaw_greatest) .none kV10 dc10 pm10 an10 cd10 ct10), sl10⟩)
    (c10 : PySem.W.codeIn K cd10 "_law_greatest" = true)
    (k10 : PySem.W.keepIn K (.ref f10) = true)
    (a11 : PySem.W.nsIn K mainGlobals "_law_made" = some (some (.ref f11)))
    (l11 : K.lookup f11 = some ⟨oc11, od11, .func (PySem.W.fnOf "_law_made" "_law_made" (defArgs slaw_made) (defBody slaw_made) (defScope slaw_made) .none kV11 dc11 pm11 an11 cd11 ct11), sl11⟩)
    (c11 : PySem.W.codeIn K cd11 "_law_made" = true)
    (k11 : PySem.W.keepIn K (.ref f11) = true)
    (a12 : PySem.W.nsIn K mainGlobals "_law_spot" = some (some (.ref f12)))
    (l12 : K.lookup f12 = some ⟨oc12, od12, .func (PySem.W.fnOf "_law_spot" "_law_spot" (defArgs slaw_spot) (defBody slaw_spot) (defScope slaw_spot) .none kV12 dc12 pm12 an12 cd12 ct12), sl12⟩)
    (c12 : PySem.W.codeIn K cd12 "_law_spot" = true)
    (k12 : PySem.W.keepIn K (.ref f12) = true)
    (a13 : PySem.W.nsIn K mainGlobals "_law_edge" = some (some (.ref f13)))
    (l13 : K.lookup f13 = some ⟨oc13, od13, .func (PySem.W.fnOf "_law_edge" "_law_edge" (defArgs slaw_edge) (defBody slaw_edge) (defScope slaw_edge) .none kV13 dc13 pm13 an13 cd13 ct13), sl13⟩)
    (c13 : PySem.W.codeIn K cd13 "_law_edge" = true)
    (k13 : PySem.W.keepIn K (.ref f13) = true)
    (a14 : PySem.W.nsIn K mainGlobals "_law_dues" = some (some (.ref f14)))
    (l14 : K.lookup f14 = some ⟨oc14, od14, .func (PySem.W.fnOf "_law_dues" "_law_dues" (defArgs slaw_dues) (defBody slaw_dues) (defScope slaw_dues) .none kV14 dc14 pm14 an14 cd14 ct14), sl14⟩)
    (c14 : PySem.W.codeIn K cd14 "_law_dues" = true)
    (k14 : PySem.W.keepIn K (.ref f14) = true)
    (a15 : PySem.W.nsIn K mainGlobals "_law_can_hear" = some (some (.ref f15)))
    (l15 : K.lookup f15 = some ⟨oc15, od15, .func (PySem.W.fnOf "_law_can_hear" "_law_can_hear" (defArgs slaw_can_hear) (defBody slaw_can_hear) (defScope slaw_can_hear) .none kV15 dc15 pm15 an15 cd15 ct15), sl15⟩)
    (c15 : PySem.W.codeIn K cd15 "_law_can_hear" = true)
    (k15 : PySem.W.keepIn K (.ref f15) = true)
    (a16 : PySem.W.nsIn K mainGlobals "side_looks" = some (some (.ref f16)))
    (l16 : K.lookup f16 = some ⟨oc16, od16, .func (PySem.W.fnOf "side_looks" "side_looks" (defArgs sside_looks) (defBody sside_looks) (defScope sside_looks) .none kV16 dc16 pm16 an16 cd16 ct16), sl16⟩)
    (c16 : PySem.W.codeIn K cd16 "side_looks" = true)
    (k16 : PySem.W.keepIn K (.ref f16) = true)
    (a17 : PySem.W.nsIn K mainGlobals "place_by" = some (some (.ref f17)))
    (l17 : K.lookup f17 = some ⟨oc17, od17, .func (PySem.W.fnOf "place_by" "place_by" (defArgs splace_by) (defBody splace_by) (defScope splace_by) .none kV17 dc17 pm17 an17 cd17 ct17), sl17⟩)
    (c17 : PySem.W.codeIn K cd17 "place_by" = true)
    (k17 : PySem.W.keepIn K (.ref f17) = true)
    (a18 : PySem.W.nsIn K mainGlobals "best_step" = some (some (.ref f18)))
    (l18 : K.lookup f18 = some ⟨oc18, od18, .func (PySem.W.fnOf "best_step" "best_step" (defArgs sbest_step) (defBody sbest_step) (defScope sbest_step) .none kV18 dc18 pm18 an18 cd18 ct18), sl18⟩)
    (c18 : PySem.W.codeIn K cd18 "best_step" = true)
    (k18 : PySem.W.keepIn K (.ref f18) = true)
    (a19 : PySem.W.nsIn K mainGlobals "too_far" = some (some (.ref f19)))
    (l19 : K.lookup f19 = some ⟨oc19, od19, .func (PySem.W.fnOf "too_far" "too_far" (defArgs stoo_far) (defBody stoo_far) (defScope stoo_far) .none kV19 dc19 pm19 an19 cd19 ct19), sl19⟩)
    (c19 : PySem.W.codeIn K cd19 "too_far" = true)
    (k19 : PySem.W.keepIn K (.ref f19) = true)
    (a20 : PySem.W.nsIn K mainGlobals "clash" = some (some (.ref f20)))
    (l20 : K.lookup f20 = some ⟨oc20, od20, .func (PySem.W.fnOf "clash" "clash" (defArgs sclash) (defBody sclash) (defScope sclash) .none kV20 dc20 pm20 an20 cd20 ct20), sl20⟩)
    (c20 : PySem.W.codeIn K cd20 "clash" = true)
    (k20 : PySem.W.keepIn K (.ref f20) = true)
    (a21 : PySem.W.findIn K (.ref C) "__init__" = some (some (.ref f21)))
    (i21 : PySem.W.isFn K (.ref f21) = true)
    (l21 : K.lookup f21 = some ⟨oc21, od21, .func (PySem.W.fnOf "__init__" "Dark.__init__" (defArgs sDark_init) (defBody sDark_init) (defScope sDark_init) .none kV21 dc21 pm21 an21 cd21 ct21), sl21⟩)
    (c21 : PySem.W.codeIn K cd21 "Dark.__init__" = true)
    (k21 : PySem.W.keepIn K (.ref f21) = true)
    (a22 : PySem.W.findIn K (.ref C) "hear" = some (some (.ref f22)))
    (i22 : PySem.W.isFn K (.ref f22) = true)
    (l22 : K.lookup f22 = some ⟨oc22, od22, .func (PySem.W.fnOf "hear" "Dark.hear" (defArgs sDark_hear) (defBody sDark_hear) (defScope sDark_hear) .none kV22 dc22 pm22 an22 cd22 ct22), sl22⟩)
    (c22 : PySem.W.codeIn K cd22 "Dark.hear" = true)
    (k22 : PySem.W.keepIn K (.ref f22) = true)
    (a23 : PySem.W.findIn K (.ref C) "looks" = some (some (.ref f23)))
    (i23 : PySem.W.isFn K (.ref f23) = true)
    (l23 : K.lookup f23 = some ⟨oc23, od23, .func (PySem.W.fnOf "looks" "Dark.looks" (defArgs sDark_looks) (defBody sDark_looks) (defScope sDark_looks) .none kV23 dc23 pm23 an23 cd23 ct23), sl23⟩)
    (c23 : PySem.W.codeIn K cd23 "Dark.looks" = true)
    (k23 : PySem.W.keepIn K (.ref f23) = true)
    (a24 : PySem.W.findIn K (.ref C) "least" = some (some (.ref f24)))
    (i24 : PySem.W.isFn K (.ref f24) = true)
    (l24 : K.lookup f24 = some ⟨oc24, od24, .func (PySem.W.fnOf "least" "Dark.least" (defArgs sDark_least) (defBody sDark_least) (defScope sDark_least) .none kV24 dc24 pm24 an24 cd24 ct24), sl24⟩)
    (c24 : PySem.W.codeIn K cd24 "Dark.least" = true)
    (k24 : PySem.W.keepIn K (.ref f24) = true)
    (a25 : PySem.W.findIn K (.ref C) "greatest" = some (some (.ref f25)))
    (i25 : PySem.W.isFn K (.ref f25) = true)
    (l25 : K.lookup f25 = some ⟨oc25, od25, .func (PySem.W.fnOf "greatest" "Dark.greatest" (defArgs sDark_greatest) (defBody sDark_greatest) (defScope sDark_greatest) .none kV25 dc25 pm25 an25 cd25 ct25), sl25⟩)
    (c25 : PySem.W.codeIn K cd25 "Dark.greatest" = true)
    (k25 : PySem.W.keepIn K (.ref f25) = true)
    (a26 : PySem.W.findIn K (.ref C) "may" = some (some (.ref f26)))
    (i26 : PySem.W.isFn K (.ref f26) = true)
    (l26 : K.lookup f26 = some ⟨oc26, od26, .func (PySem.W.fnOf "may" "Dark.may" (defArgs sDark_may) (defBody sDark_may) (defScope sDark_may) .none kV26 dc26 pm26 an26 cd26 ct26), sl26⟩)
    (c26 : PySem.W.codeIn K cd26 "Dark.may" = true)
    (k26 : PySem.W.keepIn K (.ref f26) = true)
    (a27 : PySem.W.findIn K (.ref C) "sure" = some (some (.ref f27)))
    (i27 : PySem.W.isFn K (.ref f27) = true)
    (l27 : K.lookup f27 = some ⟨oc27, od27, .func (PySem.W.fnOf "sure" "Dark.sure" (defArgs sDark_sure) (defBody sDark_sure) (defScope sDark_sure) .none kV27 dc27 pm27 an27 cd27 ct27), sl27⟩)
    (c27 : PySem.W.codeIn K cd27 "Dark.sure" = true)
    (k27 : PySem.W.keepIn K (.ref f27) = true)
    (a28 : PySem.W.findIn K (.ref C) "_check_word" = some (some (.ref f28)))
    (i28 : PySem.W.isFn K (.ref f28) = true)
    (l28 : K.lookup f28 = some ⟨oc28, od28, .func (PySem.W.fnOf "_check_word" "Dark._check_word" (defArgs sDarkcheck_word) (defBody sDarkcheck_word) (defScope sDarkcheck_word) .none kV28 dc28 pm28 an28 cd28 ct28), sl28⟩)
    (c28 : PySem.W.codeIn K cd28 "Dark._check_word" = true)
    (k28 : PySem.W.keepIn K (.ref f28) = true)
    (a29 : PySem.W.findIn K (.ref C) "_home" = some (some (.ref f29)))
    (i29 : PySem.W.isFn K (.ref f29) = true)
    (l29 : K.lookup f29 = some ⟨oc29, od29, .func (PySem.W.fnOf "_home" "Dark._home" (defArgs sDarkhome) (defBody sDarkhome) (defScope sDarkhome) .none kV29 dc29 pm29 an29 cd29 ct29), sl29⟩)
    (c29 : PySem.W.codeIn K cd29 "Dark._home" = true)
    (k29 : PySem.W.keepIn K (.ref f29) = true)
    (a30 : PySem.W.findIn K (.ref C) "_clashing" = some (some (.ref f30)))
    (i30 : PySem.W.isFn K (.ref f30) = true)
    (l30 : K.lookup f30 = some ⟨oc30, od30, .func (PySem.W.fnOf "_clashing" "Dark._clashing" (defArgs sDarkclashing) (defBody sDarkclashing) (defScope sDarkclashing) .none kV30 dc30 pm30 an30 cd30 ct30), sl30⟩)
    (c30 : PySem.W.codeIn K cd30 "Dark._clashing" = true)
    (k30 : PySem.W.keepIn K (.ref f30) = true)
    (a31 : PySem.W.findIn K (.ref C) "_bound" = some (some (.ref f31)))
    (i31 : PySem.W.isFn K (.ref f31) = true)
    (l31 : K.lookup f31 = some ⟨oc31, od31, .func (PySem.W.fnOf "_bound" "Dark._bound" (defArgs sDarkbound) (defBody sDarkbound) (defScope sDarkbound) .none kV31 dc31 pm31 an31 cd31 ct31), sl31⟩)
    (c31 : PySem.W.codeIn K cd31 "Dark._bound" = true)
    (k31 : PySem.W.keepIn K (.ref f31) = true)
    (a32 : PySem.W.nsIn K mainGlobals "law" = some (some (.ref f32)))
    (l32 : K.lookup f32 = some ⟨oc32, od32, .func (PySem.W.fnOf "law" "law" (defArgs slaw) (defBody slaw) (defScope slaw) .none kV32 dc32 pm32 an32 cd32 ct32), sl32⟩)
    (c32 : PySem.W.codeIn K cd32 "law" = true)
    (k32 : PySem.W.keepIn K (.ref f32) = true)
    (pg : PySem.W.plainGet K C Str.empty = true)
    (hd : PySem.W.hasDictIn K C = true)
    (po : PySem.W.plainOver K C = true)
    (sa : PySem.W.findIn K (.ref C) "__setattr__" = some (some (.builtin "object.__setattr__")))
    (mk : PySem.W.makesIn K C = true)
    (kc : PySem.W.keepIn K (.ref C) = true)
    (n_length : PySem.W.findIn K (.ref C) "_length" = some none)
    (n_looks : PySem.W.findIn K (.ref C) "_looks" = some none)
    (b_max : PySem.W.nsIn K mainGlobals "max" = some none)
    (b_min : PySem.W.nsIn K mainGlobals "min" = some none)
    (b_len : PySem.W.nsIn K mainGlobals "len" = some none)
    (b_range : PySem.W.nsIn K mainGlobals "range" = some none)
    (b_sorted : PySem.W.nsIn K mainGlobals "sorted" = some none)
    (b_set : PySem.W.nsIn K mainGlobals "set" = some none)
    (b_isinstance : PySem.W.nsIn K mainGlobals "isinstance" = some none)
    (b_list : PySem.W.nsIn K mainGlobals "list" = some none)
    (b_tuple : PySem.W.nsIn K mainGlobals "tuple" = some none)
    (b_bool : PySem.W.nsIn K mainGlobals "bool" = some none)
    (b_int : PySem.W.nsIn K mainGlobals "int" = some none)
    (b_str : PySem.W.nsIn K mainGlobals "str" = some none)
    (b_super : PySem.W.nsIn K mainGlobals "super" = some none)
    (gSLOW : PySem.W.nsIn K mainGlobals "SLOW" = some (some (.str "slow" tSLOW)))
    (gFAST : PySem.W.nsIn K mainGlobals "FAST" = some (some (.str "fast" tFAST)))
    (gW : PySem.W.nsIn K mainGlobals "WORDS" = some (some (.ref aW)))
    (lW : K.lookup aW = some ⟨.type "dict", none, .dict es nW, #[]⟩)
    (keys : PySem.W.KeysLit w.params es.toList)
    (low : (aW == sysModules) = false)
    (wS : PySem.W.nsIn K aW "slow" = some (some (.ref tS)))
    (wF : PySem.W.nsIn K aW "fast" = some (some (.ref tF)))
    (lS : K.lookup tS = some ⟨.type "tuple", o1, .seq #[.str "at" u1, .str "from" u2] n1, s1⟩)
    (lF : K.lookup tF = some ⟨.type "tuple", o2, .seq #[.str "at" u3, .str "upto" u4] n2, s2⟩)
    (gL : PySem.W.nsIn K mainGlobals "LOOK_WORDS" = some (some (.ref aL)))
    (lL : K.lookup aL = some ⟨.type "tuple", o3, .seq #[.str "at" u5, .str "from" u6, .str "upto" u7] n3, s3⟩)
    (xg0 : PySem.W.nsIn K mainGlobals "Clash" = some (some (.ref xC0)))
    (xL0 : K.lookup xC0 = some (excClassObj xnm0 xq0 xC0 xN0 xbs0 xbm0 true xsn0 xsub0 xab0 xcol0 xdd0 xk00 xk10 xk20 xk30 xk50 "ValueError.__new__"))
    (xbv0 : PySem.HandSPX.refsVE xbm0 = true)
    (xsa0 : PySem.W.findIn K (.ref xC0) "__setattr__" = some (some (.builtin "object.__setattr__")))
    (xnw0 : PySem.W.findIn K (.ref xC0) "what" = some none)
    (xsv0 : PySem.W.subIn K (.ref xC0) (.type "ValueError") = some true)
    (xsu0 : PySem.W.ks_superIn K xC0 xC0 "__init__" = some (some (.builtin "ValueError.__init__")))
    (xop0 : PySem.W.nsIn K PySem.cStatics "thirdparty.any" = some none)
    (xme0 : PySem.W.mroIn K xC0 (.ref xC0) = some true)
    (xin0 : PySem.W.findIn K (.ref xC0) "__init__" = some (some (.ref xF0)))
    (xty0 : PySem.W.typeIn K (.ref xF0) = some (.type "function"))
    (xkc0 : PySem.W.keepIn K (.ref xC0) = true)
    (xex0 : PySem.W.subIn K (.ref xC0) (.type "BaseException") = some true)
    (xtc0 : PySem.W.typeIn K (.ref xC0) = some (.type "type"))
    (xic0 : PySem.W.isClsIn K xC0 = true)
    (xss0 : PySem.W.subIn K (.ref xC0) (.ref xC0) = some true)
    (xto0 : (l.prog.main.scope.names.lookup ("super" : Str)).isSome = false)
    (xl0 : K.lookup xF0 = some ⟨xoc0, xod0, .func (PySem.W.ksFn "__init__" "Clash.__init__" (defArgs (inClass (top 5) 0)) (defBody (inClass (top 5) 0)) (defScope (inClass (top 5) 0)) .none .none xdoc0 xpm0 xan0 (.ref xcda0) xct0 xcc0), xosl0⟩)
    (xc0 : PySem.W.codeIn K (.ref xcda0) "Clash.__init__" = true)
    (xlc0 : K.lookup xcc0 = some ⟨xcl0, xcld0, .cell (some (.ref xC0)), xcsl0⟩)
    (xld0 : K.lookup xcda0 = some ⟨xccl0, xcdd0, .fields xvs0, xccs0⟩)
    (xv0 : xvs0[2]? = some (.str xfile0 xtf0))
    (xfi0 : ((l.prog.main.file : Str) == xfile0) = true) :
    ∃ fd : FuncData, (∀ (s : Shared) (v : Value), BindsTo s fd ⟨[v], []⟩ [("script", v)]) ∧ ∀ base : Heap, K.In base → base.Ns mainGlobals mg → FnOk l.prog w K mg base CX0 9 fa fd ["script"] (spLaw K) := by
  have e := hfa.symm.trans (PySem.W.mg_of X G a32)
  cases e
  have F0 := fun_mk (st := slaw_tray) l0 c0 k0
  have F1 := fun_mk (st := slaw_draw) l1 c1 k1
  have F2 := fun_mk (st := slaw_great) l2 c2 k2
  have F3 := fun_mk (st := slaw_alike) l3 c3 k3
  have F4 := fun_mk (st := slaw_length) l4 c4 k4
  have F5 := fun_mk (st := slaw_lead) l5 c5 k5
  have F6 := fun_mk (st := slaw_secret) l6 c6 k6
  have F7 := fun_mk (st := slaw_true_look) l7 c7 k7
  have F8 := fun_mk (st := slaw_known) l8 c8 k8
  have F9 := fun_mk (st := slaw_least) l9 c9 k9
  have F10 := fun_mk (st := slaw_greatest) l10 c10 k10
  have F11 := fun_mk (st := slaw_made) l11 c11 k11
  have F12 := fun_mk (st := slaw_spot) l12 c12 k12
  have F13 := fun_mk (st := slaw_edge) l13 c13 k13
  have F14 := fun_mk (st := slaw_dues) l14 c14 k14
  have F15 := fun_mk (st := slaw_can_hear) l15 c15 k15
  have F16 := fun_mk (st := sside_looks) l16 c16 k16
  have F17 := fun_mk (st := splace_by) l17 c17 k17
  have F18 := fun_mk (st := sbest_step) l18 c18 k18
  have F19 := fun_mk (st := stoo_far) l19 c19 k19
  have F20 := fun_mk (st := sclash) l20 c20 k20
  have F21 := fun_mk (st := sDark_init) l21 c21 k21
  have F22 := fun_mk (st := sDark_hear) l22 c22 k22
  have F23 := fun_mk (st := sDark_looks) l23 c23 k23
  have F24 := fun_mk (st := sDark_least) l24 c24 k24
  have F25 := fun_mk (st := sDark_greatest) l25 c25 k25
  have F26 := fun_mk (st := sDark_may) l26 c26 k26
  have F27 := fun_mk (st := sDark_sure) l27 c27 k27
  have F28 := fun_mk (st := sDarkcheck_word) l28 c28 k28
  have F29 := fun_mk (st := sDarkhome) l29 c29 k29
  have F30 := fun_mk (st := sDarkclashing) l30 c30 k30
  have F31 := fun_mk (st := sDarkbound) l31 c31 k31
  have F32 := fun_mk (st := slaw) l32 c32 k32
  let Z : Ad := {
    a_law_tray := f0,
    d_law_tray := PySem.W.fnOf "_law_tray" "_law_tray" (defArgs slaw_tray) (defBody slaw_tray) (defScope slaw_tray) .none kV0 dc0 pm0 an0 cd0 ct0,
    a_law_draw := f1,
    d_law_draw := PySem.W.fnOf "_law_draw" "_law_draw" (defArgs slaw_draw) (defBody slaw_draw) (defScope slaw_draw) .none kV1 dc1 pm1 an1 cd1 ct1,
    a_law_great := f2,
    d_law_great := PySem.W.fnOf "_law_great" "_law_great" (defArgs slaw_great) (defBody slaw_great) (defScope slaw_great) .none kV2 dc2 pm2 an2 cd2 ct2,
    a_law_alike := f3,
    d_law_alike := PySem.W.fnOf "_law_alike" "_law_alike" (defArgs slaw_alike) (defBody slaw_alike) (defScope slaw_alike) .none kV3 dc3 pm3 an3 cd3 ct3,
    a_law_length := f4,
    d_law_length := PySem.W.fnOf "_law_length" "_law_length" (defArgs slaw_length) (defBody slaw_length) (defScope slaw_length) .none kV4 dc4 pm4 an4 cd4 ct4,
    a_law_lead := f5,
    d_law_lead := PySem.W.fnOf "_law_lead" "_law_lead" (defArgs slaw_lead) (defBody slaw_lead) (defScope slaw_lead) .none kV5 dc5 pm5 an5 cd5 ct5,
    a_law_secret := f6,
    d_law_secret := PySem.W.fnOf "_law_secret" "_law_secret" (defArgs slaw_secret) (defBody slaw_secret) (defScope slaw_secret) .none kV6 dc6 pm6 an6 cd6 ct6,
    a_law_true_look := f7,
    d_law_true_look := PySem.W.fnOf "_law_true_look" "_law_true_look" (defArgs slaw_true_look) (defBody slaw_true_look) (defScope slaw_true_look) .none kV7 dc7 pm7 an7 cd7 ct7,
    a_law_known := f8,
    d_law_known := PySem.W.fnOf "_law_known" "_law_known" (defArgs slaw_known) (defBody slaw_known) (defScope slaw_known) .none kV8 dc8 pm8 an8 cd8 ct8,
    a_law_least := f9,
    d_law_least := PySem.W.fnOf "_law_least" "_law_least" (defArgs slaw_least) (defBody slaw_least) (defScope slaw_least) .none kV9 dc9 pm9 an9 cd9 ct9,
    a_law_greatest := f10,
    d_law_greatest := PySem.W.fnOf "_law_greatest" "_law_greatest" (defArgs slaw_greatest) (defBody slaw_greatest) (defScope slaw_greatest) .none kV10 dc10 pm10 an10 cd10 ct10,
    a_law_made := f11,
    d_law_made := PySem.W.fnOf "_law_made" "_law_made" (defArgs slaw_made) (defBody slaw_made) (defScope slaw_made) .none kV11 dc11 pm11 an11 cd11 ct11,
    a_law_spot := f12,
    d_law_spot := PySem.W.fnOf "_law_spot" "_law_spot" (defArgs slaw_spot) (defBody slaw_spot) (defScope slaw_spot) .none kV12 dc12 pm12 an12 cd12 ct12,
    a_law_edge := f13,
    d_law_edge := PySem.W.fnOf "_law_edge" "_law_edge" (defArgs slaw_edge) (defBody slaw_edge) (defScope slaw_edge) .none kV13 dc13 pm13 an13 cd13 ct13,
    a_law_dues := f14,
    d_law_dues := PySem.W.fnOf "_law_dues" "_law_dues" (defArgs slaw_dues) (defBody slaw_dues) (defScope slaw_dues) .none kV14 dc14 pm14 an14 cd14 ct14,
    a_law_can_hear := f15,
    d_law_can_hear := PySem.W.fnOf "_law_can_hear" "_law_can_hear" (defArgs slaw_can_hear) (defBody slaw_can_hear) (defScope slaw_can_hear) .none kV15 dc15 pm15 an15 cd15 ct15,
    a_side_looks := f16,
    d_side_looks := PySem.W.fnOf "side_looks" "side_looks" (defArgs sside_looks) (defBody sside_looks) (defScope sside_looks) .none kV16 dc16 pm16 an16 cd16 ct16,
    a_place_by := f17,
    d_place_by := PySem.W.fnOf "place_by" "place_by" (defArgs splace_by) (defBody splace_by) (defScope splace_by) .none kV17 dc17 pm17 an17 cd17 ct17,
    a_best_step := f18,
    d_best_step := PySem.W.fnOf "best_step" "best_step" (defArgs sbest_step) (defBody sbest_step) (defScope sbest_step) .none kV18 dc18 pm18 an18 cd18 ct18,
    a_too_far := f19,
    d_too_far := PySem.W.fnOf "too_far" "too_far" (defArgs stoo_far) (defBody stoo_far) (defScope stoo_far) .none kV19 dc19 pm19 an19 cd19 ct19,
    a_clash := f20,
    d_clash := PySem.W.fnOf "clash" "clash" (defArgs sclash) (defBody sclash) (defScope sclash) .none kV20 dc20 pm20 an20 cd20 ct20,
    a_Dark_init := f21,
    d_Dark_init := PySem.W.fnOf "__init__" "Dark.__init__" (defArgs sDark_init) (defBody sDark_init) (defScope sDark_init) .none kV21 dc21 pm21 an21 cd21 ct21,
    a_Dark_hear := f22,
    d_Dark_hear := PySem.W.fnOf "hear" "Dark.hear" (defArgs sDark_hear) (defBody sDark_hear) (defScope sDark_hear) .none kV22 dc22 pm22 an22 cd22 ct22,
    a_Dark_looks := f23,
    d_Dark_looks := PySem.W.fnOf "looks" "Dark.looks" (defArgs sDark_looks) (defBody sDark_looks) (defScope sDark_looks) .none kV23 dc23 pm23 an23 cd23 ct23,
    a_Dark_least := f24,
    d_Dark_least := PySem.W.fnOf "least" "Dark.least" (defArgs sDark_least) (defBody sDark_least) (defScope sDark_least) .none kV24 dc24 pm24 an24 cd24 ct24,
    a_Dark_greatest := f25,
    d_Dark_greatest := PySem.W.fnOf "greatest" "Dark.greatest" (defArgs sDark_greatest) (defBody sDark_greatest) (defScope sDark_greatest) .none kV25 dc25 pm25 an25 cd25 ct25,
    a_Dark_may := f26,
    d_Dark_may := PySem.W.fnOf "may" "Dark.may" (defArgs sDark_may) (defBody sDark_may) (defScope sDark_may) .none kV26 dc26 pm26 an26 cd26 ct26,
    a_Dark_sure := f27,
    d_Dark_sure := PySem.W.fnOf "sure" "Dark.sure" (defArgs sDark_sure) (defBody sDark_sure) (defScope sDark_sure) .none kV27 dc27 pm27 an27 cd27 ct27,
    a_Darkcheck_word := f28,
    d_Darkcheck_word := PySem.W.fnOf "_check_word" "Dark._check_word" (defArgs sDarkcheck_word) (defBody sDarkcheck_word) (defScope sDarkcheck_word) .none kV28 dc28 pm28 an28 cd28 ct28,
    a_Darkhome := f29,
    d_Darkhome := PySem.W.fnOf "_home" "Dark._home" (defArgs sDarkhome) (defBody sDarkhome) (defScope sDarkhome) .none kV29 dc29 pm29 an29 cd29 ct29,
    a_Darkclashing := f30,
    d_Darkclashing := PySem.W.fnOf "_clashing" "Dark._clashing" (defArgs sDarkclashing) (defBody sDarkclashing) (defScope sDarkclashing) .none kV30 dc30 pm30 an30 cd30 ct30,
    a_Darkbound := f31,
    d_Darkbound := PySem.W.fnOf "_bound" "Dark._bound" (defArgs sDarkbound) (defBody sDarkbound) (defScope sDarkbound) .none kV31 dc31 pm31 an31 cd31 ct31,
    a_law := fa,
    d_law := PySem.W.fnOf "law" "law" (defArgs slaw) (defBody slaw) (defScope slaw) .none kV32 dc32 pm32 an32 cd32 ct32,
    C := C,
    v_SLOW := .str "slow" tSLOW,
    v_FAST := .str "fast" tFAST,
    a_WORDS := aW,
    a_LW := aL,
    t_slow := tS,
    t_fast := tF }
  have T : Tx K w mg Z := {
    F_law_tray := F0,
    bb_law_tray := F0.binds (ps := P_law_tray) fun _ _ _ _ _ _ us hl => match us, hl with | [_], _ => rfl,
    g_law_tray := PySem.W.mg_of X G a0,
    F_law_draw := F1,
    bb_law_draw := F1.binds (ps := P_law_draw) fun _ _ _ _ _ _ us hl => match us, hl with | [_, _], _ => rfl,
    g_law_draw := PySem.W.mg_of X G a1,
    F_law_great := F2,
    bb_law_great := F2.binds (ps := P_law_great) fun _ _ _ _ _ _ us hl => match us, hl with | [_], _ => rfl,
    g_law_great := PySem.W.mg_of X G a2,
    F_law_alike := F3,
    bb_law_alike := F3.binds (ps := P_law_alike) fun _ _ _ _ _ _ us hl => match us, hl with | [_, _], _ => rfl,
    g_law_alike := PySem.W.mg_of X G a3,
    F_law_length := F4,
    bb_law_length := F4.binds (ps := P_law_length) fun _ _ _ _ _ _ us hl => match us, hl with | [_], _ => rfl,
    g_law_length := PySem.W.mg_of X G a4,
    F_law_lead := F5,
    bb_law_lead := F5.binds (ps := P_law_lead) fun _ _ _ _ _ _ us hl => match us, hl with | [_, _, _], _ => rfl,
    g_law_lead := PySem.W.mg_of X G a5,
    F_law_secret := F6,
    bb_law_secret := F6.binds (ps := P_law_secret) fun _ _ _ _ _ _ us hl => match us, hl with | [_, _], _ => rfl,
    g_law_secret := PySem.W.mg_of X G a6,
    F_law_true_look := F7,
    bb_law_true_look := F7.binds (ps := P_law_true_look) fun _ _ _ _ _ _ us hl => match us, hl with | [_, _, _], _ => rfl,
    g_law_true_look := PySem.W.mg_of X G a7,
    F_law_known := F8,
    bb_law_known := F8.binds (ps := P_law_known) fun _ _ _ _ _ _ us hl => match us, hl with | [_, _, _], _ => rfl,
    g_law_known := PySem.W.mg_of X G a8,
    F_law_least := F9,
    bb_law_least := F9.binds (ps := P_law_least) fun _ _ _ _ _ _ us hl => match us, hl with | [_, _, _], _ => rfl,
    g_law_least := PySem.W.mg_of X G a9,
    F_law_greatest := F10,
    bb_law_greatest := F10.binds (ps := P_law_greatest) fun _ _ _ _ _ _ us hl => match us, hl with | [_, _, _], _ => rfl,
    g_law_greatest := PySem.W.mg_of X G a10,
    F_law_made := F11,
    bb_law_made := F11.binds (ps := P_law_made) fun _ _ _ _ _ _ us hl => match us, hl with | [_, _], _ => rfl,
    g_law_made := PySem.W.mg_of X G a11,
    F_law_spot := F12,
    bb_law_spot := F12.binds (ps := P_law_spot) fun _ _ _ _ _ _ us hl => match us, hl with | [_, _, _], _ => rfl,
    g_law_spot := PySem.W.mg_of X G a12,
    F_law_edge := F13,
    bb_law_edge := F13.binds (ps := P_law_edge) fun _ _ _ _ _ _ us hl => match us, hl with | [_, _, _, _], _ => rfl,
    g_law_edge := PySem.W.mg_of X G a13,
    F_law_dues := F14,
    bb_law_dues := F14.binds (ps := P_law_dues) fun _ _ _ _ _ _ us hl => match us, hl with | [_, _, _], _ => rfl,
    g_law_dues := PySem.W.mg_of X G a14,
    F_law_can_hear := F15,
    bb_law_can_hear := F15.binds (ps := P_law_can_hear) fun _ _ _ _ _ _ us hl => match us, hl with | [_, _, _], _ => rfl,
    g_law_can_hear := PySem.W.mg_of X G a15,
    F_side_looks := F16,
    bb_side_looks := F16.binds (ps := P_side_looks) fun _ _ _ _ _ _ us hl => match us, hl with | [_, _], _ => rfl,
    g_side_looks := PySem.W.mg_of X G a16,
    F_place_by := F17,
    bb_place_by := F17.binds (ps := P_place_by) fun _ _ _ _ _ _ us hl => match us, hl with | [_, _, _, _], _ => rfl,
    g_place_by := PySem.W.mg_of X G a17,
    F_best_step := F18,
    bb_best_step := F18.binds (ps := P_best_step) fun _ _ _ _ _ _ us hl => match us, hl with | [_, _, _, _], _ => rfl,
    g_best_step := PySem.W.mg_of X G a18,
    F_too_far := F19,
    bb_too_far := F19.binds (ps := P_too_far) fun _ _ _ _ _ _ us hl => match us, hl with | [_, _, _], _ => rfl,
    g_too_far := PySem.W.mg_of X G a19,
    F_clash := F20,
    bb_clash := F20.binds (ps := P_clash) fun _ _ _ _ _ _ us hl => match us, hl with | [_, _, _], _ => rfl,
    g_clash := PySem.W.mg_of X G a20,
    F_Dark_init := F21,
    bb_Dark_init := F21.binds (ps := P_Dark_init) fun _ _ _ _ _ _ us hl => match us, hl with | [_, _], _ => rfl,
    F_Dark_hear := F22,
    bb_Dark_hear := F22.binds (ps := P_Dark_hear) fun _ _ _ _ _ _ us hl => match us, hl with | [_, _, _, _], _ => rfl,
    m_Dark_hear := ⟨a22, i22, k22⟩,
    F_Dark_looks := F23,
    bb_Dark_looks := F23.binds (ps := P_Dark_looks) fun _ _ _ _ _ _ us hl => match us, hl with | [_], _ => rfl,
    m_Dark_looks := ⟨a23, i23, k23⟩,
    F_Dark_least := F24,
    bb_Dark_least := F24.binds (ps := P_Dark_least) fun _ _ _ _ _ _ us hl => match us, hl with | [_, _], _ => rfl,
    m_Dark_least := ⟨a24, i24, k24⟩,
    F_Dark_greatest := F25,
    bb_Dark_greatest := F25.binds (ps := P_Dark_greatest) fun _ _ _ _ _ _ us hl => match us, hl with | [_, _], _ => rfl,
    m_Dark_greatest := ⟨a25, i25, k25⟩,
    F_Dark_may := F26,
    bb_Dark_may := F26.binds (ps := P_Dark_may) fun _ _ _ _ _ _ us hl => match us, hl with | [_, _, _, _], _ => rfl,
    m_Dark_may := ⟨a26, i26, k26⟩,
    F_Dark_sure := F27,
    bb_Dark_sure := F27.binds (ps := P_Dark_sure) fun _ _ _ _ _ _ us hl => match us, hl with | [_, _, _, _], _ => rfl,
    m_Dark_sure := ⟨a27, i27, k27⟩,
    F_Darkcheck_word := F28,
    bb_Darkcheck_word := F28.binds (ps := P_Darkcheck_word) fun _ _ _ _ _ _ us hl => match us, hl with | [_, _], _ => rfl,
    m_Darkcheck_word := ⟨a28, i28, k28⟩,
    F_Darkhome := F29,
    bb_Darkhome := F29.binds (ps := P_Darkhome) fun _ _ _ _ _ _ us hl => match us, hl with | [_, _, _, _], _ => rfl,
    m_Darkhome := ⟨a29, i29, k29⟩,
    F_Darkclashing := F30,
    bb_Darkclashing := F30.binds (ps := P_Darkclashing) fun _ _ _ _ _ _ us hl => match us, hl with | [_, _], _ => rfl,
    m_Darkclashing := ⟨a30, i30, k30⟩,
    F_Darkbound := F31,
    bb_Darkbound := F31.binds (ps := P_Darkbound) fun _ _ _ _ _ _ us hl => match us, hl with | [_, _, _], _ => rfl,
    m_Darkbound := ⟨a31, i31, k31⟩,
    F_law := F32,
    bb_law := F32.binds (ps := P_law) fun _ _ _ _ _ _ us hl => match us, hl with | [_], _ => rfl,
    g_law := PySem.W.mg_of X G a32,
    kb_Dark_may := ⟨fun s us ws X hl => by
      obtain ⟨a, b, c, d, rfl, rfl⟩ := g1_yxword_of hl
      exact .of_eq rfl, g1_yxword_rel⟩,
    kb_Dark_sure := ⟨fun s us ws X hl => by
      obtain ⟨a, b, c, d, rfl, rfl⟩ := g1_yxword_of hl
      exact .of_eq rfl, g1_yxword_rel⟩,
    cl := ⟨pg, hd, po, sa⟩,
    g_Dark := PySem.W.mg_of X G aC,
    mk_Dark := ⟨mk, a21, i21, kc⟩,
    n_length := n_length,
    n_looks := n_looks,
    b_max := PySem.W.mg_none_of X G b_max,
    b_min := PySem.W.mg_none_of X G b_min,
    b_len := PySem.W.mg_none_of X G b_len,
    b_range := PySem.W.mg_none_of X G b_range,
    b_sorted := PySem.W.mg_none_of X G b_sorted,
    b_set := PySem.W.mg_none_of X G b_set,
    b_isinstance := PySem.W.mg_none_of X G b_isinstance,
    b_list := PySem.W.mg_none_of X G b_list,
    b_tuple := PySem.W.mg_none_of X G b_tuple,
    b_bool := PySem.W.mg_none_of X G b_bool,
    b_int := PySem.W.mg_none_of X G b_int,
    b_str := PySem.W.mg_none_of X G b_str,
    b_super := PySem.W.mg_none_of X G b_super,
    g_SLOW := PySem.W.mg_of X G gSLOW,
    r_SLOW := ⟨tSLOW, rfl⟩,
    g_FAST := PySem.W.mg_of X G gFAST,
    r_FAST := ⟨tFAST, rfl⟩,
    g_WORDS := PySem.W.mg_of X G gW,
    kd_WORDS := ⟨es, nW, lW, keys, low⟩,
    w_slow := wS,
    w_fast := wF,
    q_slow := fun _ => sqt2 lS,
    q_fast := fun _ => sqt2 lF,
    g_LOOK_WORDS := PySem.W.mg_of X G gL,
    q_LW := fun _ => sqt3 lL }
  let Y : AdX := {
    c_Clash := xC0,
    i_Clash := xF0 }
  have X : Ex l.prog K mg Y := {
    Clash := ERR.errT_mk (inClass (top 5) 0) xL0 xbv0 xsa0 xnw0 xsv0 xsu0 xop0 xme0 xin0 xty0 xkc0 xex0 xtc0 xto0 xl0 ⟨_, _, rfl⟩ rfl rfl (fun _ => ⟨_, rfl⟩) xc0 xlc0 xld0 xv0 xfi0,
    g_Clash := PySem.W.mg_of X G xg0,
    m_Clash := ERR.exm_self xex0 xic0 xtc0 xss0 }
  exact ⟨PySem.W.fnOf "law" "law" (defArgs slaw) (defBody slaw) (defScope slaw) .none kV32 dc32 pm32 an32 cd32 ct32, fun s v => .of_eq rfl, fun base _ _ => ok_law T X⟩
theorem walk {l : PySem.W.OpenLaw} {q : Program} {loose : List Str} {XP : (Str → Option Value) → Heap → Prop} {YP : World → Heap → Prop} {d : DefRec} {K : Params → PySem.W.Frag} (hn : l.most = some 63) (hdf : d.params.defaults = [])
    (hY : ∀ (w : World) (h : Heap), YP w h → (K w.params).In h)
    (F : ∀ (w : World) (mg : Str → Option Value) (fa : Addr) (h : Heap), (K w.params).In h → h.Ns mainGlobals mg → mg d.name = some (.ref fa) →
      ∃ fd : FuncData, (∀ (s : Shared) (u : Value), BindsTo s fd ⟨[u], []⟩ [("script", u)]) ∧ ∀ base : Heap, (K w.params).In base → base.Ns mainGlobals mg → FnOk l.prog w (K w.params) mg base CX0 9 fa fd ["script"] (spLaw (K w.params))) :
    PySem.W.WalkO q loose XP YP l.row.toRowW d [] (fun f vs => PySem.call f vs) :=
  L2.walk_of (n := 63) (k := 9) (x := "script") (CX := fun _ => CX0) (sp := fun w => spLaw (K w.params)) hn (by decide) hdf ⟨rfl, by decide, by decide⟩ hY F (fun _ _ a ns hl _ hS => ⟨a, ns, rfl, hS, hl, fun _ => rfl⟩) fun _ _ _ _ _ z => z
end KA
open PySem PySem.W PyProof.Rows
set_option maxRecDepth 100000 in
set_option maxHeartbeats 0 in
theorem PySem.Challenge.cw_darkpace_k05_may_and_sure_holds : PySem.Challenge.rw_darkpace_k05_may_and_sure.Holds := by
  w_on; o_law; k_head; (case hw => w_witness2)
  k_fill
  refine KA.walk (l := PySem.Challenge.rw_darkpace_k05_may_and_sure) rfl rfl (fun w h Y => PySem.W.kIn_of Y) ?F
  case F =>
    intro w mg fa h KX G hmg
    refine' KA.all_mk KX G hmg ?aC ?a0 ?l0 ?c0 ?k0 ?a1 ?l1 ?c1 ?k1 ?a2 ?l2 ?c2 ?k2 ?a3 ?l3 ?c3 ?k3 ?a4 ?l4 ?c4 ?k4 ?a5 ?l5 ?c5 ?k5 ?a6 ?l6 ?c6 ?k6 ?a7 ?l7 ?c7 ?k7 ?a8 ?l8 ?c8 ?k8 ?a9 ?l9 ?c9 ?k9 ?a10 ?l10 ?c10 ?k10 ?a11 ?l11 ?c11 ?k11 ?a12 ?l12 ?c12 ?k12 ?a13 ?l13 ?c13 ?k13 ?a14 ?l14 ?c14 ?k14 ?a15 ?l15 ?c15 ?k15 ?a16 ?l16 ?c16 ?k16 ?a17 ?l17 ?c17 ?k17 ?a18 ?l18 ?c18 ?k18 ?a19 ?l19 ?c19 ?k19 ?a20 ?l20 ?c20 ?k20 ?a21 ?i21 ?l21 ?c21 ?k21 ?a22 ?i22 ?l22 ?c22 ?k22 ?a23 ?i23 ?l23 ?c23 ?k23 ?a24 ?i24 ?l24 ?c24 ?k24 ?a25 ?i25 ?l25 ?c25 ?k25 ?a26 ?i26 ?l26 ?c26 ?k26 ?a27 ?i27 ?l27 ?c27 ?k27 ?a28 ?i28 ?l28 ?c28 ?k28 ?a29 ?i29 ?l29 ?c29 ?k29 ?a30 ?i30 ?l30 ?c30 ?k30 ?a31 ?i31 ?l31 ?c31 ?k31 ?a32 ?l32 ?c32 ?k32 ?pg ?hd ?po ?sa ?mk ?kc ?n_length ?n_looks ?b_max ?b_min ?b_len ?b_range ?b_sorted ?b_set ?b_isinstance ?b_list ?b_tuple ?b_bool ?b_int ?b_str ?b_super ?gSLOW ?gFAST ?gW ?lW ?keys ?low ?wS ?wF ?lS ?lF ?gL ?lL ?xg0 ?xL0 ?xbv0 ?xsa0 ?xnw0 ?xsv0 ?xsu0 ?xop0 ?xme0 ?xin0 ?xty0 ?xkc0 ?xex0 ?xtc0 ?xic0 ?xss0 ?xto0 ?xl0 ?xc0 ?xlc0 ?xld0 ?xv0 ?xfi0
    (case aC => k_is)
    (case a0 => k_is)
    (case l0 => k_is)
    (case c0 => k_is)
    (case k0 => k_is)
    (case a1 => k_is)
    (case l1 => k_is)
    (case c1 => k_is)
    (case k1 => k_is)
    (case a2 => k_is)
    (case l2 => k_is)
    (case c2 => k_is)
    (case k2 => k_is)
    (case a3 => k_is)
    (case l3 => k_is)
    (case c3 => k_is)
    (case k3 => k_is)
    (case a4 => k_is)
    (case l4 => k_is)
    (case c4 => k_is)
    (case k4 => k_is)
    (case a5 => k_is)
    (case l5 => k_is)
    (case c5 => k_is)
    (case k5 => k_is)
    (case a6 => k_is)
    (case l6 => k_is)
    (case c6 => k_is)
    (case k6 => k_is)
    (case a7 => k_is)
    (case l7 => k_is)
    (case c7 => k_is)
    (case k7 => k_is)
    (case a8 => k_is)
    (case l8 => k_is)
    (case c8 => k_is)
    (case k8 => k_is)
    (case a9 => k_is)
    (case l9 => k_is)
    (case c9 => k_is)
    (case k9 => k_is)
    (case a10 => k_is)
    (case l10 => k_is)
    (case c10 => k_is)
    (case k10 => k_is)
    (case a11 => k_is)
    (case l11 => k_is)
    (case c11 => k_is)
    (case k11 => k_is)
    (case a12 => k_is)
    (case l12 => k_is)
    (case c12 => k_is)
    (case k12 => k_is)
    (case a13 => k_is)
    (case l13 => k_is)
    (case c13 => k_is)
    (case k13 => k_is)
    (case a14 => k_is)
    (case l14 => k_is)
    (case c14 => k_is)
    (case k14 => k_is)
    (case a15 => k_is)
    (case l15 => k_is)
    (case c15 => k_is)
    (case k15 => k_is)
    (case a16 => k_is)
    (case l16 => k_is)
    (case c16 => k_is)
    (case k16 => k_is)
    (case a17 => k_is)
    (case l17 => k_is)
    (case c17 => k_is)
    (case k17 => k_is)
    (case a18 => k_is)
    (case l18 => k_is)
    (case c18 => k_is)
    (case k18 => k_is)
    (case a19 => k_is)
    (case l19 => k_is)
    (case c19 => k_is)
    (case k19 => k_is)
    (case a20 => k_is)
    (case l20 => k_is)
    (case c20 => k_is)
    (case k20 => k_is)
    (case a21 => k_is)
    (case i21 => k_is)
    (case l21 => k_is)
    (case c21 => k_is)
    (case k21 => k_is)
    (case a22 => k_is)
    (case i22 => k_is)
    (case l22 => k_is)
    (case c22 => k_is)
    (case k22 => k_is)
    (case a23 => k_is)
    (case i23 => k_is)
    (case l23 => k_is)
    (case c23 => k_is)
    (case k23 => k_is)
    (case a24 => k_is)
    (case i24 => k_is)
    (case l24 => k_is)
    (case c24 => k_is)
    (case k24 => k_is)
    (case a25 => k_is)
    (case i25 => k_is)
    (case l25 => k_is)
    (case c25 => k_is)
    (case k25 => k_is)
    (case a26 => k_is)
    (case i26 => k_is)
    (case l26 => k_is)
    (case c26 => k_is)
    (case k26 => k_is)
    (case a27 => k_is)
    (case i27 => k_is)
    (case l27 => k_is)
    (case c27 => k_is)
    (case k27 => k_is)
    (case a28 => k_is)
    (case i28 => k_is)
    (case l28 => k_is)
    (case c28 => k_is)
    (case k28 => k_is)
    (case a29 => k_is)
    (case i29 => k_is)
    (case l29 => k_is)
    (case c29 => k_is)
    (case k29 => k_is)
    (case a30 => k_is)
    (case i30 => k_is)
    (case l30 => k_is)
    (case c30 => k_is)
    (case k30 => k_is)
    (case a31 => k_is)
    (case i31 => k_is)
    (case l31 => k_is)
    (case c31 => k_is)
    (case k31 => k_is)
    (case a32 => k_is)
    (case l32 => k_is)
    (case c32 => k_is)
    (case k32 => k_is)
    (case pg => k_is)
    (case hd => k_is)
    (case po => k_is)
    (case sa => k_is)
    (case mk => k_is)
    (case kc => k_is)
    (case n_length => k_is)
    (case n_looks => k_is)
    (case b_max => k_is)
    (case b_min => k_is)
    (case b_len => k_is)
    (case b_range => k_is)
    (case b_sorted => k_is)
    (case b_set => k_is)
    (case b_isinstance => k_is)
    (case b_list => k_is)
    (case b_tuple => k_is)
    (case b_bool => k_is)
    (case b_int => k_is)
    (case b_str => k_is)
    (case b_super => k_is)
    (case gSLOW => k_is)
    (case gFAST => k_is)
    (case gW => k_is)
    (case lW => k_is)
    (case keys => k_keys)
    (case low => decide +kernel)
    (case wS => k_is)
    (case wF => k_is)
    (case lS => k_is)
    (case lF => k_is)
    (case gL => k_is)
    (case lL => k_is)
    (case xg0 => k_is)
    (case xL0 => k_is)
    (case xbv0 => decide +kernel)
    (case xsa0 => k_is)
    (case xnw0 => k_is)
    (case xsv0 => k_is)
    (case xsu0 => ks_is)
    (case xop0 => k_is)
    (case xme0 => k_is)
    (case xin0 => k_is)
    (case xty0 => k_is)
    (case xkc0 => k_is)
    (case xex0 => k_is)
    (case xtc0 => k_is)
    (case xic0 => k_is)
    (case xss0 => first | rfl | k_is)
    (case xto0 => first | rfl | decide +kernel)
    (case xl0 => k_is)
    (case xc0 => k_is)
    (case xlc0 => k_is)
    (case xld0 => k_is)
    (case xv0 => rfl)
    (case xfi0 => first | rfl | decide +kernel)
