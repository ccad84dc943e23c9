import PyProof.Rows.All
import Wide.All
import OpenK.AllK
import Wide.FinOn
import HandS.ForMost
import HandS.Wide
import HandS.Deep
import HandS.IsInst
import HandS.Strs
import HandS.Codes
import HandS.Gcd
import KE.SortData
import KE.DataMinMax
import HandS.SetFor
import KE.KSuper
import KE.KExcSuper
import HandS.Base
import HandS.Call
import HandS.Exc
import HandS.ExcInit
import HandS.Words
import KE.RegKSuper
import HandS.OwnEq
import KE.KExcIs
import HandS.ExcField
import HandS.ExcValue
import HandS.Defaults
import HandS.MakeKwOnly
import HandS.ExcOwn
import HandS.TryOnly
import HandS.TupSets
import HandS.SetKeys
import HandS.WideBits
import HandS.WordsExc
import PySem.Challenge.RW_darkpace_k45_followed_refused
set_option Elab.async false
set_option linter.all false
set_option maxRecDepth 100000
set_option exponentiation.threshold 3000
set_option maxHeartbeats 16000000
/-! Rules of our own: data under a growing heap, sorted and max and min of data, set of ints, a written dict's item, a method called with a keyword. -/
namespace DP
open PySem PySem.Spec PyProof.Rows L2

theorem rooms {A : Around} {k : Nat} (hr : Room k A) : A.units + 65 < cLine := by have := hr.un; omega

theorem Same.rd {H H' : Hp} {a : Addr} {u : HO} (S : Same H H') (h : Rd H a u) : Rd H' a u := by
  rcases h with h | ⟨o, h⟩
  · exact Or.inl (S _ _ h)
  · exact Or.inr ⟨o, S _ _ h⟩
theorem Same.sqT {K : PySem.W.Frag} {H H' : Hp} {a : Addr} {xs : List V} (S : Same H H') (h : SqT K H a xs) : SqT K H' a xs := by
  rcases h with h | h
  · exact Or.inl (Same.rd S h)
  · exact Or.inr h
theorem Same.sqL {K : PySem.W.Frag} {H H' : Hp} {a : Addr} {xs : List V} (S : Same H H') (h : SqL K H a xs) : SqL K H' a xs := by
  rcases h with h | h
  · exact Or.inl (Same.rd S h)
  · exact Or.inr h
mutual
theorem dp_mono {K : PySem.W.Frag} {H H' : Hp} (S : Same H H') : ∀ (d : PyData) (v : V), Dp K H v d → Dp K H' v d
  | .none, _, h => by cases h; exact .non
  | .bool b, _, h => by cases h; exact .bl _
  | .int b, _, h => by cases h; exact .int _
  | .str b, _, h => by cases h; exact .str _
  | .list ds, _, h => by
    cases h with
    | lst s a => exact .lst (Same.sqL S s) (dpAll_mono S ds _ a)
  | .tuple ds, _, h => by
    cases h with
    | tup s a => exact .tup (Same.sqT S s) (dpAll_mono S ds _ a)
  | .dict _, _, h => by cases h
theorem dpAll_mono {K : PySem.W.Frag} {H H' : Hp} (S : Same H H') : ∀ (ds : List PyData) (vs : List V), DpAll K H vs ds → DpAll K H' vs ds
  | [], _, h => by cases h; exact .nil
  | d :: ds, _, h => by
    cases h with
    | cons a b => exact .cons (dp_mono S d _ a) (dpAll_mono S ds _ b)
end
section
variable {K : PySem.W.Frag} {H : Hp}
theorem dpAll_len : ∀ {vs : List V} {ds : List PyData}, DpAll K H vs ds → vs.length = ds.length
  | _, _, .nil => rfl
  | _, _, .cons _ t => by rw [List.length_cons, List.length_cons, dpAll_len t]
theorem dpAll_get : ∀ {vs : List V} {ds : List PyData} {i : Nat} {v : V}, DpAll K H vs ds → vs[i]? = some v → ∃ d, ds[i]? = some d ∧ Dp K H v d
  | _, _, _, _, .nil, e => by simp at e
  | _, _, 0, _, .cons r _, e => by simp at e; subst e; exact ⟨_, rfl, r⟩
  | _, _, i + 1, v, .cons _ t, e => by
    obtain ⟨d, h1, h2⟩ := dpAll_get (i := i) (v := v) t (by simpa using e)
    exact ⟨d, by simpa using h1, h2⟩
theorem dpAll_get' : ∀ {vs : List V} {ds : List PyData} {i : Nat} {d : PyData}, DpAll K H vs ds → ds[i]? = some d → ∃ v, vs[i]? = some v ∧ Dp K H v d
  | _, _, _, _, .nil, e => by simp at e
  | _, _, 0, _, .cons r _, e => by simp at e; subst e; exact ⟨_, rfl, r⟩
  | _, _, i + 1, v, .cons _ t, e => by
    obtain ⟨d, h1, h2⟩ := dpAll_get' (i := i) (d := v) t (by simpa using e)
    exact ⟨d, by simpa using h1, h2⟩
theorem dpAll_snoc : ∀ {vs : List V} {ds : List PyData} {v : V} {d : PyData}, DpAll K H vs ds → Dp K H v d → DpAll K H (vs ++ [v]) (ds ++ [d])
  | _, _, _, _, .nil, r => .cons r .nil
  | _, _, _, _, .cons q t, r => .cons q (dpAll_snoc t r)
theorem dpAll_app : ∀ {vs ws : List V} {ds es : List PyData}, DpAll K H vs ds → DpAll K H ws es → DpAll K H (vs ++ ws) (ds ++ es)
  | _, _, _, _, .nil, r => r
  | _, _, _, _, .cons q t, r => .cons q (dpAll_app t r)
theorem dpAll_ints : ∀ ns : List Int, DpAll K H (ns.map V.int) (ns.map PyData.int)
  | [] => .nil
  | n :: ns => .cons (.int n) (dpAll_ints ns)
theorem dpAll_int : ∀ {vs : List V} {ns : List Int}, DpAll K H vs (ns.map PyData.int) → vs = ns.map V.int
  | _, [], h => by cases h; rfl
  | _, n :: ns, h => by
    have h' : DpAll K H _ (PyData.int n :: ns.map PyData.int) := h
    cases h' with
    | cons a b =>
      cases a
      rw [dpAll_int b]; rfl
theorem same_upd {H : Hp} {p : Addr} {o : HO} (h : H p = none) : Same H (upd H p o) := fun b u e => by rw [upd_ne (ne_of_none e h)]; exact e
end

section
variable {X : Cx}
/-- sorted(xs): xs a list of alike data, of any length; P is what is known of each -/
def rSortD (K : PySem.W.Frag) {β : Type} (enc : β → PyData) : List V → Hp → VK → Prop := fun vs H Q => ∃ (a : Addr) (xs : List V) (bs : List β), vs = [V.ref a] ∧ SqL K H a xs ∧ DpAll K H xs (bs.map enc) ∧
  PySem.W.AllAlike (bs.map enc) ∧ PySem.W.Sortable (bs.map enc) ∧ (∀ b ∈ bs, (enc b).depth ≤ 60) ∧
  ∀ (p : Addr) (ys : List V) H', H p = none → Same H H' → H' p = some (.lst ys) → DpAll K H' ys ((bs.mergeSort (PySem.W.dataLe false enc)).map enc) → Q (.ref p) H'
theorem each_vals {K : PySem.W.Frag} {H : Hp} {β : Type} {enc : β → PyData} : ∀ {xs : List V} {us : List Value} {bs : List β}, Vals xs us → DpAll K H xs (bs.map enc) → PySem.W.EachIs (fun u b => ∃ x, RelV x u ∧ Dp K H x (enc b)) us bs
  | _, _, [], r, d => by
    have d' : DpAll K H _ [] := d
    cases d'
    cases r
    exact .nil
  | _, _, b :: bs, r, d => by
    have d' : DpAll K H _ (enc b :: bs.map enc) := d
    cases d' with
    | cons d1 d2 =>
      cases r with
      | cons r1 r2 => exact .cons ⟨_, r1, d1⟩ (each_vals r2 d2)
theorem vals_each {K : PySem.W.Frag} {H : Hp} {β : Type} {enc : β → PyData} : ∀ {us : List Value} {bs : List β}, PySem.W.EachIs (fun u b => ∃ x, RelV x u ∧ Dp K H x (enc b)) us bs → ∃ xs, Vals xs us ∧ DpAll K H xs (bs.map enc)
  | _, _, .nil => ⟨[], .nil, .nil⟩
  | _, _, .cons ⟨x, r, d⟩ t => by
    obtain ⟨xs, h1, h2⟩ := vals_each t
    exact ⟨x :: xs, .cons r h1, .cons d h2⟩
theorem cr_sortD {β : Type} (enc : β → PyData) (hu : X.A.units + 65 < cLine) : CallR X (.builtin "sorted") (rSortD X.K enc) := by
  intro pins s σ H vs us Q I r h
  obtain ⟨a, xs, bs, rfl, hs, hd, hal, hk, hdep, q⟩ := h
  obtain ⟨its, rv, hl, hz⟩ := I.list hs
  rw [Vals.ref1 r]
  have hlen : its.length = bs.length := by rw [← rv.length, dpAll_len hd, List.length_map]
  have e := each_vals rv hd
  obtain ⟨as, ra⟩ := Dp.readsAll I _ _ _ hd rv
  refine PySem.W.sorted_data (enc := enc) (bs := bs) (vs := its) hl.isList e (PySem.W.readsAll_each enc ra) hal hk (by rw [← hlen, ← rv.length]; exact hz) (fun b hb => ?_) fun out ho eo => ?_
  · have := hdep b hb
    omega
  · obtain ⟨ys, h1, h2⟩ := vals_each eo
    obtain ⟨ep, he'⟩ := PyProof.Rows.sortedAll_at s.heap its (List.toArray out)
    have hn : H (s.heap.objs.size + 1) = none := I.hok.fresh (Nat.le_succ _)
    have hyl : ys.length ≤ sizeLine := by
      rw [h1.length, ho, ← hlen, ← rv.length]; exact hz
    refine ⟨.ref _, upd H (s.heap.objs.size + 1) (.lst ys), I.laid (t' := s.toks) (fun _ _ => PyProof.Rows.sortedAll_old) (Nat.le_succ _) ⟨hyl, out, ep, h1, he'⟩, rfl, q _ ys _ hn (same_upd hn) upd_same ?_⟩
    exact dpAll_mono (same_upd hn) _ _ h2

/-- max(xs), min(xs): xs a list of alike data -/
def rBestD (K : PySem.W.Frag) (best : PyData → List PyData → PyData) : List V → Hp → VK → Prop := fun vs H Q => ∃ (a : Addr) (xs : List V) (d : PyData) (ds : List PyData), vs = [V.ref a] ∧ SqL K H a xs ∧ DpAll K H xs (d :: ds) ∧
  PySem.W.AlikeAll (d :: ds) ∧ PyData.canLayAll0 (d :: ds) = true ∧ PyData.depthAll (d :: ds) ≤ 60 ∧
  ∀ (x : V), Dp K H x (best d ds) → Q x H
theorem best_end {pins : List (Addr × Obj)} {s : Shared} {σ : L2.St} {H : Hp} {Q : VK} (I : Inv X pins σ H s) {xs : List V} {its : List Value} {as : List Addr} {ds : List PyData} (rv : Vals xs its) (hd : DpAll X.K H xs ds) (ra : ReadsAll s.heap its ds as) (hc : PyData.canLayAll0 ds = true) {i : Nat} {v : Value} {h' : Heap} {tk : Nat} {bs : List Addr} {e : PyData} (hi : its.toArray[i]? = some v)
    (hr : Reads h' v e bs) (he : e.canLay0 = true) (hk : ∀ b o, s.heap.get? b = some o → h'.get? b = some o) (q : ∀ x, Dp X.K H x e → Q x H) : EP X pins σ Q v { heap := h', gens := s.gens, drawn := s.drawn, toks := tk, os := s.os } := by
  have hi' : its[i]? = some v := by simpa using hi
  have hlt : i < its.length := by
    rcases Nat.lt_or_ge i its.length with h | h
    · exact h
    · rw [List.getElem?_eq_none h] at hi'; cases hi'
  obtain ⟨x, hx⟩ : ∃ x, xs[i]? = some x := ⟨xs[i]'(by rw [rv.length]; exact hlt), List.getElem?_eq_getElem _⟩
  obtain ⟨u, hu, ru⟩ := rv.get hx
  have euv : u = v := Option.some.inj (hu.symm.trans hi')
  subst euv
  obtain ⟨d, hdi, hdx⟩ := dpAll_get hd hx
  obtain ⟨as', rx⟩ := Dp.reads I d x u hdx ru
  have rx' : Reads h' u d as' := PyProof.Rows.Reads.keeps hk rx
  have hcd : d.canLay0 = true := by
    have : ∀ (ds : List PyData) (i : Nat), PyData.canLayAll0 ds = true → ds[i]? = some d → d.canLay0 = true := by
      intro ds
      induction ds with
      | nil => intro i _ h; simp at h
      | cons a r ih =>
        intro i h1 h2
        rw [PyData.canLayAll0, Bool.and_eq_true] at h1
        cases i with
        | zero => simp at h2; rw [← h2]; exact h1.1
        | succ i => exact ih i h1.2 (by simpa using h2)
    exact this ds i hc hdi
  have e1 := SeqAt.readOf_eq hcd rx'
  have e2 := SeqAt.readOf_eq he hr
  have ed : d = e := e1.symm.trans e2
  subst ed
  exact ⟨x, H, I.kept hk, ru, q x hdx⟩
theorem canLay_fold (f : PyData → PyData → Bool) : ∀ (ds : List PyData) (d : PyData), PyData.canLayAll0 (d :: ds) = true → (ds.foldl (fun a y => if f a y then y else a) d).canLay0 = true
  | [], d, h => by
    rw [PyData.canLayAll0, Bool.and_eq_true] at h
    exact h.1
  | e :: ds, d, h => by
    rw [PyData.canLayAll0, PyData.canLayAll0, Bool.and_eq_true, Bool.and_eq_true] at h
    rw [List.foldl_cons]
    refine canLay_fold f ds _ ?_
    rw [PyData.canLayAll0, Bool.and_eq_true]
    refine ⟨?_, h.2.2⟩
    split
    · exact h.2.1
    · exact h.1
theorem cr_maxD (hc : X.calm = true) (hu : X.A.units + 65 < cLine) : CallR X (.builtin "max") (rBestD X.K PySem.W.maxD) := by
  intro pins s σ H vs us Q I r h
  obtain ⟨a, xs, d, ds, rfl, hs, hd, hal, hl0, hdep, q⟩ := h
  obtain ⟨its, rv, hl, hz⟩ := I.list hs
  rw [Vals.ref1 r]
  obtain ⟨as, ra⟩ := Dp.readsAll I _ _ _ hd rv
  exact PySem.W.max_list_data (I.ok.hd hc) hl.isList (by simpa using ra) hal (by omega) fun i v h' tk bs hi hr hk => best_end I rv hd ra hl0 hi hr (canLay_fold _ ds d hl0) hk q
theorem cr_minD (hc : X.calm = true) (hu : X.A.units + 65 < cLine) : CallR X (.builtin "min") (rBestD X.K PySem.W.minD) := by
  intro pins s σ H vs us Q I r h
  obtain ⟨a, xs, d, ds, rfl, hs, hd, hal, hl0, hdep, q⟩ := h
  obtain ⟨its, rv, hl, hz⟩ := I.list hs
  rw [Vals.ref1 r]
  obtain ⟨as, ra⟩ := Dp.readsAll I _ _ _ hd rv
  exact PySem.W.min_list_data (I.ok.hd hc) hl.isList (by simpa using ra) hal (by omega) fun i v h' tk bs hi hr hk => best_end I rv hd ra hl0 hi hr (canLay_fold (fun a y => PySem.W.dataLt y a) ds d hl0) hk q
end
end DP
/-! set(xs) of a list of whole numbers, sorted then. -/
namespace DP
open PySem PySem.Spec PyProof.Rows L2
/-- a fresh set -/
abbrev newSet (w : World) : Obj := { cls := .type "set", dict := none, data := .set #[] 0 (.fresh 0 0 (!w.params.followText "set-order")) }
theorem set_of_ints {P : Program} {w : World} {A : Around} {E : Value → Shared → Prop} {s : Shared} {l : Addr} {items : Array Value} (ns : List Int) {Q : Value → Shared → Prop} (hh : A.handled = none) (hl : s.heap.IsList l items) (hit : IntsAre items.toList ns) (hb : ns.length + 1 < scanBound)
    (h : ∀ (h' : Heap) (tk c : Nat), SetR w h' s.heap.objs.size (fun j => decide (j ∈ ns)) c → c ≤ ns.length → (∀ b o, s.heap.get? b = some o → h'.get? b = some o) → Q (.ref s.heap.objs.size) { s with heap := h', toks := tk }) :
    wpAny (model P w) A (call (.type "set") [.ref l]) Q E s := by
  have hisz : items.size = ns.length := (Array.length_toList (xs := items)).symm.trans (IntsAre.length hit)
  have C := F.called_set
  obtain ⟨c, tl, hmro⟩ := C.mro
  have hmade := C.made; have hsub := C.sub
  refine wpAny_call (codeAny_of_tree ?_)
  show wpAny _ _ (callAny (.type "set") _) _ _ _
  refine wpAny_pure ⟨Code.quiet_builtin _ (by decide +kernel), codeAny_builtin F.entry_type_call ?_⟩
  rw [Around.under_plain (weight_type_call_type "set" [.ref l] []) rfl]
  have h1 := C.notType; have h2 := C.canCreate
  have hct := F.typeCall_set_1 (.ref l)
  repeat (any_goals (first | assumption | wp_step))
  refine codeAny_mono (code_set_led1 (.ref l) (E := E) (Q₁ := fun obj s₁ => obj = .ref s.heap.objs.size ∧ s₁ = { s with heap := s.heap.push (newSet w) }) ⟨rfl, rfl⟩) fun r s₁ hr => ?_
  cases r with
  | error e => exact hr
  | ok fl =>
  cases fl with
  | ret obj =>
    obtain ⟨rfl, rfl⟩ := hr
    have hS : (s.heap.push (newSet w)).get? s.heap.objs.size = some (newSet w) := Heap.get?_push_size _ rfl
    have hT : Shared.TypeIs { s with heap := s.heap.push (newSet w) } (.ref s.heap.objs.size) "set" := ⟨_, hS, rfl⟩
    have hli := C.init.lookup; have hbi := C.init.bind (.ref s.heap.objs.size)
    repeat (any_goals (first | assumption | wp_step))
    refine codeAny_mono (codeAny_call_builtin (R := wants (fun r s₂ => r = .none ∧ ∃ h' tk c, s₂ = { s with heap := h', toks := tk } ∧ SetR w h' s.heap.objs.size (fun j => decide (j ∈ ns)) c ∧ c ≤ ns.length ∧ ∀ b o, s.heap.get? b = some o → h'.get? b = some o) E) C.init.plain F.entry_set_init (check_set_init_1 hT ?_)) fun r₂ s₂ hr₂ => ?_
    · obtain ⟨⟨ocls, odict, odata, oslots⟩, hol, hcl, nl, hdl⟩ := hl
      simp only at hcl hdl
      subst hcl hdl
      have hol' : (s.heap.push (newSet w)).get? l = some { cls := .type "list", dict := odict, data := .seq items nl, slots := oslots } := Heap.get?_push_of_some _ hol
      have hsls := F.sub_list_set; have hslf := F.sub_list_frozenset
      have hne : (Value.type "list" == Value.type "dict") = false := by decide
      have hl1 : (s.heap.push (newSet w)).IsList l items := ⟨_, hol', rfl, nl, rfl⟩
      unfold Builtin.«set.__init__» noKeywords Builtin.Frozenset.updateFrom
      generalize hPI : pyIter = PI
      wp_walk
      subst hPI
      refine wpAny_pyIter_list hl1 (wpAny_bind (wpAny_runValue ?_))
      have hlS : l < s.heap.objs.size := Heap.lt_size hol
      have hh3 : A.in1.in1.in1.handled = none := by simp [hh]
      have hz : (s.heap.push (newSet w)).objs.size = s.heap.objs.size + 1 := Heap.size_push ..
      have hneI : l ≠ (s.heap.push (newSet w)).objs.size := by rw [hz]; exact Nat.ne_of_lt (Nat.lt_succ_of_lt hlS)
      have hSf : s.heap.objs.size ∉ [(s.heap.push (newSet w)).objs.size, l] := by
        rw [hz]; simp only [List.mem_cons, List.not_mem_nil, or_false, not_or]; exact ⟨Nat.ne_of_lt (Nat.lt_succ_self _), Nat.ne_of_gt hlS⟩
      have hval : ∀ (i : Nat) (v : Value), items[i]? = some v → ∃ k t, ns[i]? = some k ∧ v = .int k t := fun i v hv => by
        have hi : i < ns.length := hisz ▸ (Array.getElem?_eq_some_iff.mp hv).1
        obtain ⟨t, e⟩ := PyProof.Rows.IntsAre.int_at hit i v (by rw [Array.getElem?_toList]; exact hv)
        exact ⟨ns[i], t, List.getElem?_eq_getElem hi, by rw [e, List.getD_eq_getElem?_getD, List.getElem?_eq_getElem hi]; rfl⟩
      refine set_update_ints ((Walks.list hh3 _ l hneI items).toS) s.heap.objs.size hSf ns hisz hb hval (items.size - 0) 0 _ (by omega) (Nat.zero_le _) ⟨⟨_, Heap.get?_push_size _ rfl, rfl, rfl⟩, (hl1.push _)⟩ ?z0 ?zR
      case z0 => exact ⟨0, Nat.le_refl 0, setR_new_at (Heap.get?_push_of_some _ hS)⟩
      case zR =>
        intro s' c' hm hc' hS'
        obtain ⟨h', g2, d', tk', os'⟩ := s'
        have eg : g2 = s.gens := hm.gens
        have ed : d' = s.drawn := hm.drawn
        have eo : os' = s.os := hm.os
        subst eg ed eo
        rw [hisz] at hc'
        refine wpAny_pure (?_ : wpAny _ _ (ret Value.none) _ _ _)
        refine wpAny_pure ⟨rfl, h', tk', c', rfl, hS', hc', fun b o e => ?_⟩
        have hb0 : b < s.heap.objs.size := Heap.lt_size e
        refine hm.heap b o ?_ (Heap.get?_push_of_some _ (Heap.get?_push_of_some _ e))
        simp only [List.mem_cons, List.not_mem_nil, or_false, not_or]
        exact ⟨Nat.ne_of_lt hb0, by rw [hz]; exact Nat.ne_of_lt (Nat.lt_succ_of_lt hb0)⟩
    · cases r₂ with
      | error e => exact hr₂
      | ok fl₂ =>
      cases fl₂ with
      | ret r =>
        obtain ⟨rfl, h', tk, c', rfl, hS', hc', hk'⟩ := hr₂
        repeat (any_goals (first | assumption | wp_step))
        exact h _ _ _ hS' hc' hk'
      | _ => exact hr₂.elim
  | _ => exact hr.elim
section
variable {X : Cx}
/-- set(xs), xs a list of whole numbers -/
def rSetI (K : PySem.W.Frag) (w : World) : List V → Hp → VK → Prop := fun vs H Q => ∃ (l : Addr) (ns : List Int), vs = [V.ref l] ∧ SqL K H l (ns.map V.int) ∧ ns.length ≤ 60 ∧
  ∀ (a : Addr) (c : Nat), c ≤ ns.length → H a = none → Q (.ref a) (upd H a (SetO w a (fun j => decide (j ∈ ns)) c))
theorem cr_setI (hc : X.calm = true) : CallR X (.type "set") (rSetI X.K X.w) := by
  intro pins s σ H vs us Q I r h
  obtain ⟨l, ns, rfl, hs, hlen, q⟩ := h
  obtain ⟨its, rv, pl, hz⟩ := I.list hs
  rw [Vals.ref1 r]
  have hi : IntsAre its.toArray.toList ns := by simpa using rv.ints
  refine set_of_ints ns (I.ok.hd hc) pl.isList hi (by unfold scanBound; omega) fun h' tk c R hcl hk => ?_
  exact ⟨.ref _, upd H s.heap.objs.size (SetO X.w s.heap.objs.size (fun j => decide (j ∈ ns)) c), I.laid (t' := tk) hk (Nat.le_refl _) (setO_new R), rfl, q _ c hcl (I.hok.fresh (Nat.le_refl _))⟩
/-- d[k], d a written dict -/
theorem ix_kd {d : Addr} {es : Array DictEntry} {n : Nat} (D : KDict X.K X.w d es n) : IxR X (fun x y H Q => ∃ (z : Str) (u0 : Value) (v0 : V), x = .ref d ∧ y = .str z ∧ PySem.W.nsIn X.K d z = some (some u0) ∧ RelV v0 u0 ∧ Q v0 H) := by
  intro value slice pins s σ H x y v u Q I rx ry h hs
  obtain ⟨z, u0, v0, ex, ey, e, r, q⟩ := h
  subst ex ey
  cases rx
  obtain ⟨t, rfl⟩ := ry
  have fin : EP X pins σ Q u0 s := ⟨v0, H, I, r, q⟩
  exact subscriptTail_builtinR (x := u0) (kd_type D I) PySem.F.slot_dict_getitem.lookup
    (wpAny_getItem_of (PySem.strKind_is X.prog X.w z t) (PySem.W.mapOf_K (prog := X.prog) I.kIn D.at_ D.lit) (PySem.W.find_K D.at_ e) ⟨rfl, ⟨v0, H, I.tok _, r, q⟩⟩) hs
end
end DP
/-! The rules with the written part named, for comprehensions; a method called with keywords. -/
namespace DP
open PySem PySem.Spec PyProof.Rows L2
section
variable {X : Cx} {K : PySem.W.Frag}
theorem ixT (h : X.K = K := by rfl) : IxR X (rIxT K) := by subst h; exact ix_tup
theorem ixL (h : X.K = K := by rfl) : IxR X (rIxL K) := by subst h; exact ix_list
theorem inS (h : X.K = K := by rfl) : OpR X (compareOp .In) (rIn K false) := by subst h; exact op_in_seq
theorem notInS (h : X.K = K := by rfl) : OpR X (compareOp .NotIn) (rIn K true) := by subst h; exact op_notIn_seq
theorem eqDK (hu : X.A.units + 64 < cLine) (h : X.K = K := by rfl) : OpR X (compareOp .Eq) (rEqD K) := by subst h; exact op_eqD hu
theorem neDK (hu : X.A.units + 64 < cLine) (h : X.K = K := by rfl) : OpR X (compareOp .NotEq) (rNeD K) := by subst h; exact op_neD hu
theorem inDK (hu : X.A.units + 65 < cLine) (h : X.K = K := by rfl) : OpR X (compareOp .In) (rInD K) := by subst h; exact op_inD hu
theorem notInDK (hu : X.A.units + 65 < cLine) (h : X.K = K := by rfl) : OpR X (compareOp .NotIn) (rNotInD K) := by subst h; exact op_notInD hu
def rLenK (K : PySem.W.Frag) : List V → Hp → VK → Prop := fun xs H Q => ∃ p ys, xs = [V.ref p] ∧ (SqL K H p ys ∨ SqT K H p ys) ∧ Q (.int ys.length) H
theorem lenK (h : X.K = K := by rfl) : CallR X (.builtin "len") (rLenK K) := by subst h; exact call_len_seq
def rListK (K : PySem.W.Frag) : List V → Hp → VK → Prop := fun xs H Q => ∃ p ys, xs = [V.ref p] ∧ (SqL K H p ys ∨ SqT K H p ys) ∧ ∀ l, H l = none → Q (.ref l) (upd H l (.lst ys))
theorem listK (h : X.K = K := by rfl) : CallR X (.type "list") (rListK K) := by subst h; exact call_list_of
theorem maxK (hc : X.calm = true) (h : X.K = K := by rfl) : CallR X (.builtin "max") (rMax K) := by subst h; exact cr_max hc
theorem minK (hc : X.calm = true) (h : X.K = K := by rfl) : CallR X (.builtin "min") (rMin K) := by subst h; exact cr_min hc
theorem maxDK (hc : X.calm = true) (hu : X.A.units + 65 < cLine) (h : X.K = K := by rfl) : CallR X (.builtin "max") (rBestD K PySem.W.maxD) := by subst h; exact cr_maxD hc hu
theorem minDK (hc : X.calm = true) (hu : X.A.units + 65 < cLine) (h : X.K = K := by rfl) : CallR X (.builtin "min") (rBestD K PySem.W.minD) := by subst h; exact cr_minD hc hu
theorem sortK (h : X.K = K := by rfl) : CallR X (.builtin "sorted") (rSorted K) := by subst h; exact cr_sorted
theorem sortDK {β : Type} (enc : β → PyData) (hu : X.A.units + 65 < cLine) (h : X.K = K := by rfl) : CallR X (.builtin "sorted") (rSortD K enc) := by subst h; exact cr_sortD enc hu
theorem setIK {w : World} (hc : X.calm = true) (h : X.K = K := by rfl) (hw : X.w = w := by rfl) : CallR X (.type "set") (rSetI K w) := by subst h hw; exact cr_setI hc
theorem sortedSetK {w : World} (hc : X.calm = true) (hw : X.w = w := by rfl) : CallR X (.builtin "sorted") (rSortedSet w) := by subst hw; exact cr_sortedSet hc
theorem slL (h : X.K = K := by rfl) : SlR X (rSlL K) := by subst h; exact sl_list
theorem isiK (h : X.K = K := by rfl) : CallR X (.builtin "isinstance") (rIsi K) := by subst h; exact call_isi
theorem fldK {o : Expr} {ta : TE} {f : Str} {pos : Pos} (he : PE X o ta) (hb : attributeBase o f X.env (eval o X.env) = eval o X.env := by rfl) (h : X.K = K := by rfl) : PE X (.Attribute o f pos) (tFld K ta f) := by subst h; exact pe_fld he hb
theorem tupK {es : List Expr} {k : Nat} {t : TGs} {n : Nat} {pos : Pos} (hc : X.calm = true) (h1 : PGs X es t) (hn : (assignEach es X.env).length = n := by rfl) (hst : (assignEach es X.env).findIdx? (·.1) = none := by rfl) (h : X.K = K := by rfl) :
    PG X (.Tuple es k pos) (gTup K n t) := by subst h; exact pg_tup hc h1 hn hst
end
section
variable {X : Cx} {CX : CXT} {k : Nat} {f C : Addr} {fd : FuncData} {ps ks : List Str} {sp : Sp} {E : XK} {m : Str} {pos apos : Pos} {o : Expr} {kws : List Keyword} {ta : TE} {tk : TA} {g : List Value → List Value → List Value} {gV : List V → List V → List V}
/-- o.m(k = v, ..) -/
def tMethK (C : Addr) (m : Str) (sp : Sp) (gV : List V → List V → List V) (E : XK) (ta : TE) (tk : TA) : TE := fun σ H Q => ta σ H fun x H1 => ∃ a dx fs, x = .ref a ∧ H1 a = some (.ins C dx fs) ∧ fs.lookup m = none ∧ tk σ H1 fun zs H2 => sp (gV [.ref a] zs) H2 Q E
theorem pe_methK0 {pl : Sem Bool} (he : PE X o ta) (c : Cls X.K C) (hm : Meth X.K C m f) (F : FnOk X.prog X.w X.K X.mg X.base CX k f fd ps sp) (hr : Room k X.A) (hb : KBinds X.K fd ps ks g gV) (hx : Passes CX X E) (hkw : PK X kws tk)
    (hall : (backToKw pos (keywordEach kws X.env)).all (·.1.isSome) = true := by rfl) (hks : (backToKw pos (keywordEach kws X.env)).filterMap (·.1) = ks := by rfl)
    (hpl : ((backTo pos (starEach [] X.env)).any (·.1) || (backToKw pos (keywordEach kws X.env)).any (·.1.isNone)) = false := by rfl)
    (ht : eval (.Call (.Attribute o m apos) [] kws pos) X.env = (do
      let ov ← eval o X.env
      standAt apos.atName
      let (f, first) ← holding [ov] (getMethod ov m pl)
      callWith pos f first (backTo pos (starEach [] X.env)) (backToKw pos (keywordEach kws X.env))) := by rfl) :
    PE X (.Call (.Attribute o m apos) [] kws pos) (tMethK C m sp gV E ta tk) := by
  refine ⟨fun pins s σ H Q I h => ?_⟩
  refine PySem.W.methodCall_KW (pl := pl) (thn (he.run pins s σ H _ I h) fun u s1 ⟨x, H1, I1, rx, a, dx, fs, ex, ea, l, q⟩ => ?_) ht
  subst ex
  obtain rfl : u = Value.ref a := rx
  refine getmeth_ok I1 ea c hm l ?_
  refine PySem.W.callWith_KW0 (first := [.ref a]) (h₀ := X.base) I.ok.mod.kin hm.kp hall ?_ hpl
  refine thn (hkw.run pos pins s1 σ H1 _ I1 q) fun ws s2 ⟨zs, H2, I2, rz, q2⟩ => ⟨I2.kIn, ?_⟩
  rw [hks]
  exact run_fnk (us := [.ref a]) (vs := [.ref a]) F hr hb hx I2 (.cons rfl .nil) rz q2
end
/-- one positional value, one keyword -/
def g11 {α : Type} : List α → List α → List α
  | [a], [b] => [a, b]
  | _, _ => []
theorem g11_rel {vs : List V} {us : List Value} {zs : List V} {ws : List Value} (r : Vals vs us) (q : Vals zs ws) : Vals (g11 vs zs) (g11 us ws) := by
  cases r with
  | nil => exact .nil
  | cons a t =>
    cases t with
    | cons _ _ => exact .nil
    | nil =>
      cases q with
      | nil => exact .nil
      | cons b t =>
        cases t with
        | cons _ _ => exact .nil
        | nil => exact .cons a (.cons b .nil)
end DP
/-! An own error class over ValueError whose __init__ says super().__init__(a text), then self.what = what: what a call of it leaves. -/
namespace ERR
open PySem PySem.W PySem.Calls PyProof.Rows PySem.HandSPX
def eA (p1 p2 : Pos) : Arguments := { posonlyargs := [], args := [{ arg := "self", annotation := none, pos := p1 }, { arg := "what", annotation := none, pos := p2 }], vararg := none, kwonlyargs := [], kw_defaults := [], kwarg := none, defaults := [] }
def eB (txt : Str) (p : Nat → Pos) : List Stmt := [.Expr (.Call (.Attribute (.Call (.Name "super" (p 0)) [] [] (p 1)) "__init__" (p 2)) [.Constant (.str txt) 0 (p 3)] [] (p 4)) (p 5), .Assign [.Attribute (.Name "self" (p 6)) "what" (p 7)] (.Name "what" (p 8)) (p 9)]
def eS : Scope := { kind := .function, names := [("self", .local), ("what", .local), ("__class__", .free), ("super", .globalImplicit)], isGenerator := false, isCoroutine := false, more := [] }
structure ErrT (P : Program) (K : Frag) (C fI : Addr) : Prop where
  cls : ∃ nm q N bs bm sn sub ab col dd k0 k1 k2 k3 k5, K.lookup C = some (excClassObj nm q C N bs bm true sn sub ab col dd k0 k1 k2 k3 k5 "ValueError.__new__") ∧ refsVE bm = true
  sa : findIn K (.ref C) "__setattr__" = some (some (.builtin "object.__setattr__"))
  noW : findIn K (.ref C) "what" = some none
  subV : subIn K (.ref C) (.type "ValueError") = some true
  sup : ks_superIn K C C "__init__" = some (some (.builtin "ValueError.__init__"))
  opq : nsIn K cStatics "thirdparty.any" = some none
  me : mroIn K C (.ref C) = some true
  init : findIn K (.ref C) "__init__" = some (some (.ref fI))
  tyI : typeIn K (.ref fI) = some (.type "function")
  kC : keepIn K (.ref C) = true
  exC : subIn K (.ref C) (.type "BaseException") = some true
  tyC : typeIn K (.ref C) = some (.type "type")
  top : (P.main.scope.names.lookup ("super" : Str)).isSome = false
  fn : ∃ (oc : Value) (od an : Option Addr) (doc pm ct : Value) (osl : Array (Option Value)) (qual txt : Str) (cc cda : Addr) (p1 p2 : Pos) (p : Nat → Pos) (cl ccl : Value) (cld cdd : Option Addr) (csl ccs : Array (Option Value)) (vs : Array Value) (file : Str) (tf : Tok),
    K.lookup fI = some ⟨oc, od, .func (ksFn "__init__" qual (eA p1 p2) (eB txt p) eS .none .none doc pm an (.ref cda) ct cc), osl⟩ ∧ codeIn K (.ref cda) qual = true ∧
    (∀ env : Env, ∃ pl : Sem Bool, eval (.Call (.Attribute (.Call (.Name "super" (p 0)) [] [] (p 1)) "__init__" (p 2)) [.Constant (.str txt) 0 (p 3)] [] (p 4)) env = (do
      let ov ← attributeBase (.Call (.Name "super" (p 0)) [] [] (p 1)) "__init__" env (eval (.Call (.Name "super" (p 0)) [] [] (p 1)) env)
      standAt (p 2).atName
      let (f, first) ← holding [ov] (getMethod ov "__init__" pl)
      callWith (p 4) f first (backTo (p 4) (starEach [.Constant (.str txt) 0 (p 3)] env)) [])) ∧
    K.lookup cc = some ⟨cl, cld, .cell (some (.ref C)), csl⟩ ∧ K.lookup cda = some ⟨ccl, cdd, .fields vs, ccs⟩ ∧ vs[2]? = some (.str file tf) ∧ ((P.main.file : Str) == file) = true
/-- what __init__ leaves of a fresh exception at x -/
structure Left (h h' : Heap) (x C dx t1 : Addr) (v : Value) : Prop where
  keep : ∀ b o, b ≠ x → h.get? b = some o → h'.get? b = some o
  obj : h'.get? x = some { cls := .ref C, dict := some dx, data := .fields #[.ref t1, .none, .none, .none, .bool false, .none] }
  dbig : h.objs.size ≤ dx
  dne : dx ≠ x
  ns : h'.Ns1 dx (fun y => if y = "what" then some v else none)
section
variable {P : Program} {w : World} {A : Around} {E : Value → Shared → Prop} {R : Result → Shared → Prop} {s : Shared} {K : Frag} {mg mb : Str → Option Value} {C fI : Addr}
theorem mw_call {h : Heap} {g : Array GenState} {d : Drawn} {tk : Nat} {os : OsState} {u x t0 : Addr} {rest : List Value} {nm q : Str} {N : Addr} {bs bm : List Value} {sn : List Str} {sub : List Value} {ab : Bool} {col : Option Bool} {dd : Option Addr} {k0 k1 k2 k3 k5 : Option Value} {Q : Value → Shared → Prop}
    (hu : h.get? u = some (kxs_mw "ValueError.__init__" x)) (hx : h.get? x = some (excO C t0)) (hC : h.get? C = some (excClassObj nm q C N bs bm true sn sub ab col dd k0 k1 k2 k3 k5 "ValueError.__new__")) (hz : rest.length ≤ sizeLine)
    (fin : ∀ h', (∀ b o, b ≠ x → h.get? b = some o → h'.get? b = some o) → h'.get? x = some (excO C h.objs.size) → Q .none ⟨h', g, d, tk, os⟩) :
    wpAny (model P w) A (call (.ref u) rest) Q E ⟨h, g, d, tk, os⟩ := by
  have e1 : (Value.type "method-wrapper" == Value.type "method" || Value.type "method-wrapper" == Value.type "builtin_function_or_method" || Value.type "method-wrapper" == Value.type "method-wrapper") = true := by decide
  refine wpAny_call (codeAny_of_tree (show wpAny _ A.in1 (callAny (.ref u) ⟨rest, []⟩) _ _ _ from ?_))
  unfold callAny
  refine wpAny_bind (wpAny_load hu ?_)
  simp only [kxs_mw, e1, if_true]
  refine KFB.if_so (by decide) (wpAny_bind (check_bound_init F.excBase_ValueError.toExcCallFacts hC hx rfl ?_))
  refine wpAny_bind (wpAny_pure (wpAny_pure ⟨plainId_quiet F.excBase_ValueError.init.plain _, codeAny_builtin F.excBase_ValueError.initEntry ?_⟩))
  exact exc_init_tree (cls := .ref C) (t0 := t0) (dv := none) (c2 := .none) (c3 := .none) (b4 := .bool false) hx hz fun h' a1 a2 _ => fin h' a1 a2
theorem err_init (T : ErrT P K C fI) {x t0 : Addr} {v : Value} (X : K.In s.heap) (hlim : s.heap.NoLimit) (G : s.heap.Ns mainGlobals mg) (B : s.heap.Ns builtinsNs mb) (g0 : mg "super" = none) (b0 : mb "super" = some (.type "super"))
    (hx : s.heap.get? x = some (excO C t0)) (hnx : K.lookup x = none) (hroom : A.depth < recursionLimit)
    (hq : ∀ h' tk dx t1, Left s.heap h' x C dx t1 v → R (.ok (.ret .none)) { s with heap := h', toks := tk }) :
    codeAny (model P w) A (.call (.ref fI) ⟨[.ref x, v], []⟩) R s := by
  obtain ⟨oc, od, an, doc, pm, ct, osl, qual, txt, cc, cda, p1, p2, p, cl, ccl, cld, cdd, csl, ccs, vs, file, tf, ho, hcd, hev, hcell, hcode, hvs, hfile⟩ := T.fn
  obtain ⟨nm, q, N, bs, bm, sn, sub, ab, col, dd, k0, k1, k2, k3, k5, hC, hbm⟩ := T.cls
  refine ks_codeAny_call_defAt (fd := ksFn "__init__" qual (eA p1 p2) (eB txt p) eS .none .none doc pm an (.ref cda) ct cc) (body := eB txt p) (binds := [("self", .ref x), ("what", v)]) hroom (X _ _ ho) rfl hlim (codeRec_of X hcd) rfl (BindsTo.of_eq rfl) (show ∀ x ∈ eS.names, x.2 ≠ .cell by decide +kernel) (fun y hy => ?_) (fun h₁ hns k => ?_) rfl rfl rfl
  · simp only [List.mem_cons, List.mem_nil_iff, or_false] at hy
    rcases hy with rfl | rfl <;> rfl
  have X1 : K.In h₁ := X.keeps k
  have hx1 := k _ _ hx
  have hD1 := X1 _ _ hC
  have hxC : x ≠ C := fun e => by rw [e, hC] at hnx; cases hnx
  have hcl : clsIn K C = some { name := nm, bases := bs, mro := .ref C :: bm, ns := N, qualname := q, hasDict := true, slotNames := sn, subclasses := sub, abstract := ab, collection := col, hasDel := false } := by unfold clsIn; rw [hC] <;> rfl
  have I1 : InstAt h₁ x (excO C t0) C none := ⟨hx1, rfl, rfl, trivial⟩
  -- super().__init__(text)
  obtain ⟨pl, hev⟩ := hev (ksEnv qual eS s.heap.objs.size fI (.ref cda) cc)
  refine ks_wpAt_execs_cons (ks_wpAt_Expr_any (ks_wpAt_MethodCall (pl := pl) ?_ hev))
  refine ks_wpAt_super_base (env := ksEnv qual eS s.heap.objs.size fI (.ref cda) cc) rfl rfl rfl rfl (X1 _ _ ho) rfl rfl rfl (X1 _ _ hcode) rfl hvs hfile T.top ?_
  refine ks_loadName_global rfl rfl (loadGlobal_builtin (env := ksEnv qual eS s.heap.objs.size fI (.ref cda) cc) (G.keeps k) g0 (B.keeps k) b0 ⟨rfl, ?_⟩)
  refine wpAny_loadName_free rfl rfl rfl ⟨_, X1 _ _ hcell, rfl⟩ ?_
  refine wpAny_loadName_local (v := .ref x) rfl rfl hns rfl ?_
  refine ks_wpAny_isType_cls hD1 rfl ⟨rfl, ?_⟩
  refine ks_wpAny_call_super hD1 rfl hx1 rfl (fun c e => by cases e) (looks_mroIn X1 T.me) (fun h2 hso k2 => ?_)
  have X2 : K.In h2 := X1.keeps k2
  have I2 : InstAt h2 x (excO C t0) C none := ⟨k2 _ _ hx1, rfl, rfl, trivial⟩
  have hal : alongIn K "__init__" (((Value.ref C :: bm).dropWhile (· != .ref C)).drop 1) = some (some (.builtin "ValueError.__init__")) := by
    have h := T.sup
    unfold ks_superIn at h
    rw [hcl] at h
    exact h
  have hmr : ∀ {M : Model}, Looks M h2 (mroOf (.ref C)) (.ref C :: bm) := fun A Q E s k q => wpAny_bind ((looks_clsIn X2 hcl) A _ E s k (wpAny_pure q))
  refine kxs_getMethod kxs_ValueError hso (looks_opaque X2 T.opq) hmr rfl X2 hal (I2.type.andThen (looks_subIn X2 T.subV)) hxC (by decide) ?_
  refine kxs_callWith (i := "ValueError.__init__") (x := x) rfl (evalArgs_plain ?_)
  refine Calls.spliced_cons (Constant_str (k := 0) (pos := p 3) (Calls.spliced_nil ⟨?_, ?_⟩))
  · exact Heap.get?_push_size h2 rfl
  have kp : ∀ b o, h2.get? b = some o → (h2.push (kxs_mw "ValueError.__init__" x)).get? b = some o := fun b o e => Heap.get?_push_of_some _ e
  refine mw_call (Heap.get?_push_size h2 rfl) (kp _ _ (k2 _ _ hx1)) (kp _ _ (k2 _ _ hD1)) (by rw [sizeLine_eq]; exact (by decide : 1 ≤ 16777216)) fun h3 k3' hx3 => ?_
  have k3 : ∀ b o, b ≠ x → h₁.get? b = some o → h3.get? b = some o := fun b o hb e => k3' b o hb (kp _ _ (k2 _ _ e))
  have X3 : K.In h3 := fun a o e => k3 a o (fun z => by rw [z, hnx] at e; cases e) (X1 a o e)
  -- self.what = what
  have hxL : s.heap.objs.size ≠ x := Nat.ne_of_gt (Heap.lt_size hx)
  have hns3 : h3.Ns s.heap.objs.size (fun y => ([("self", Value.ref x), ("what", v)] : List (Str × Value)).reverse.lookup y) := by
    obtain ⟨oL, es, ep, hL, r⟩ := hns
    exact ⟨oL, es, ep, k3 _ _ hxL hL, r⟩
  have I3 : InstAt h3 x (excO C (h2.push (kxs_mw "ValueError.__init__" x)).objs.size) C none := ⟨hx3, rfl, rfl, trivial⟩
  refine ks_wpAt_execs_cons (wpAt_of_wpAny (plainObj_wpAny_Assign_Attribute ?_))
  refine wpAny_Name (wpAny_loadName_local (v := v) rfl rfl hns3 rfl ?_) (by decide)
  refine wpAny_Name (wpAny_loadName_local (v := .ref x) rfl rfl hns3 rfl ?_) (by decide)
  refine set_plain X3 I3 T.sa ?_
  refine exc_osa X3 hx3 hcl (show refsVE (.ref C :: bm) = true from hbm) rfl T.noW (fun h4 tk4 dx k4 dn dne hx4 hn4 => ?_)
  have sz : s.heap.objs.size ≤ h3.objs.size := Nat.le_of_lt hns3.lt
  refine wpAt_of_wpAny (wpAny_execs_nil (hq h4 tk4 dx _ ⟨fun b o hb e => k4 b o hb (k3 b o hb (k b o e)), hx4, Nat.le_trans sz dn, dne, hn4⟩))
end
end ERR
namespace ERR
open PySem PySem.W PySem.Calls PyProof.Rows PySem.HandSPX
/-- a made error -/
structure Made (h h' : Heap) (e C d : Addr) (v : Value) : Prop where
  keep : ∀ b o, h.get? b = some o → h'.get? b = some o
  new : h.objs.size ≤ e
  obj : ∃ t1 : Addr, h'.get? e = some { cls := .ref C, dict := some d, data := .fields #[.ref t1, .none, .none, .none, .bool false, .none] }
  dbig : h.objs.size ≤ d
  dne : d ≠ e
  ns : h'.Ns1 d (fun y => if y = "what" then some v else none)
section
variable {P : Program} {w : World} {A : Around} {R : Result → Shared → Prop} {s : Shared} {K : Frag} {mg mb : Str → Option Value} {C fI : Addr}
theorem err_made (T : ErrT P K C fI) {v : Value} (X : K.In s.heap) (hlim : s.heap.NoLimit) (G : s.heap.Ns mainGlobals mg) (B : s.heap.Ns builtinsNs mb) (g0 : mg "super" = none) (b0 : mb "super" = some (.type "super")) (hroom : A.depth + 1 < recursionLimit)
    (hq : ∀ h' tk e d, Made s.heap h' e C d v → R (.ok (.ret (.ref e))) { s with heap := h', toks := tk }) :
    codeAny (model P w) A (.call (.ref C) ⟨[v], []⟩) R s := by
  obtain ⟨nm, q, N, bs, bm, sn, sub, ab, col, dd, k0, k1, k2, k3, k5, hC, hbm⟩ := T.cls
  obtain ⟨hp, gs, dr, tk, os⟩ := s
  have up : ∀ b o, hp.get? b = some o → ((hp.push (kdv_tup [v])).push (excO C hp.objs.size)).get? b = some o := fun b o e => Heap.get?_push_of_some _ (Heap.get?_push_of_some _ e)
  have new : ((hp.push (kdv_tup [v])).push (excO C hp.objs.size)).get? (hp.objs.size + 1) = some (excO C hp.objs.size) := by heap_get
  have out : K.lookup (hp.objs.size + 1) = none := by
    cases e : K.lookup (hp.objs.size + 1) with
    | none => rfl
    | some o =>
      have hlt := Heap.lt_size (X _ _ e)
      have hlt' : hp.objs.size + 1 < hp.objs.size := hlt
      omega
  have one : [v].length ≤ sizeLine := by rw [sizeLine_eq]; exact (by decide : 1 ≤ 16777216)
  refine call_own F.excBase_ValueError (fun Y => refsVE_contains Y bm hbm) (X _ _ hC) (looks_findIn X T.init) (fun self => bind_fn X self T.tyI) one ?_
  refine err_init (s := ⟨(hp.push (kdv_tup [v])).push (excO C hp.objs.size), gs, dr, tk, os⟩) T (X.keeps up) (hlim.keeps up) (G.keeps up) (B.keeps up) g0 b0 new out hroom fun h' tk' dx t1 L => ?_
  have z : hp.objs.size + 1 + 1 ≤ dx := by
    have q := L.dbig
    first
      | exact q
      | simpa only [Heap.size_push] using q
  refine ⟨rfl, hq h' tk' (hp.objs.size + 1) dx ⟨fun b o e => L.keep b o (fun eb => ?_) (up b o e), Nat.le_succ _, ⟨t1, L.obj⟩, Nat.le_trans (Nat.le_add_right _ 2) z, L.dne, L.ns⟩⟩
  subst eb
  have hlt : hp.objs.size + 1 < hp.objs.size := Heap.lt_size e
  omega
end
end ERR
namespace L2
open PySem PySem.Spec PyProof.Rows
theorem relO_what {v : V} {u : Value} (r : RelV v u) (f : Str) : RelO (List.lookup f [(("what" : Str), v)]) (if f = "what" then some u else none) := by
  by_cases hw : f = "what"
  · rw [hw, if_pos rfl, show List.lookup ("what" : Str) [(("what" : Str), v)] = some v by simp [List.lookup]]
    exact r
  · have hb : (f == ("what" : Str)) = false := by simpa using hw
    rw [if_neg hw, show List.lookup f [(("what" : Str), v)] = none by simp [List.lookup, hb]]
    trivial
section
variable {X : Cx} {C fI : Addr}
/-- C(e): an error whose own dict is new and holds what -/
def tMkErr (C : Addr) (ta : TA) : St → Hp → XK → Prop := fun σ H Q => ta σ H fun vs H1 => ∃ v, vs = [v] ∧ ∀ d, H1 d = none → Q (.ref C) (some d) (upd H1 d (.xd [(("what" : Str), v)]))
theorem pmk_err {nm : Str} {a : Expr} {ta : TA} {p pos : Pos} {k : Nat} (T : ERR.ErrT X.prog X.K C fI) (hm : X.mg nm = some (.ref C)) (g0 : X.mg "super" = none) (hr : Room k X.A) (ha : PA X [a] ta) (hg : Gl X nm := by rfl) (hdb : (nm == ("__debug__" : Str)) = false := by decide)
    (he : starEach (a :: []) X.env = (false, eval a X.env) :: starEach [] X.env := by rfl) (hpl : (backTo pos (starEach [] X.env)).any (·.1) = false := by rfl) :
    PMk X (.Call (.Name nm p) [a] [] pos) (tMkErr C ta) := by
  intro pins s σ H Q I h
  refine wpAny_Call_Name_kw (ld_glob I hg hm ?_ hdb)
  refine PySem.W.callWith_K (h₀ := X.base) I.ok.mod.kin T.kC (thn (ha.run pos pins s σ H _ I h) fun us s1 ⟨vs, H1, I1, r1, v, ev, q1⟩ => ⟨I1.kIn, ?_⟩) he hpl
  subst ev
  obtain ⟨u, rfl, rv⟩ : ∃ u, us = [u] ∧ RelV v u := by
    cases r1 with
    | cons a b => cases b; exact ⟨_, rfl, a⟩
  obtain ⟨mb, hb, hbb⟩ := I1.mod.blt
  have lim := I1.nolimit
  obtain ⟨hp, gs, dr, tk, os⟩ := s1
  refine wpAny_call (ERR.err_made T I1.kIn lim (I1.mod.glob.keeps I1.bk) (hb.keeps I1.bk) g0 ((hbb "super" (by decide)).trans (by rfl)) (by have := hr.dp; omega) fun h' tk' e d M => ?_)
  obtain ⟨t1, hoe⟩ := M.obj
  obtain ⟨G', f1, f2⟩ := restrict h' fun b => decide (b ≠ e)
  have at_ : ∀ b, b ≠ e → G'.get? b = h'.get? b := fun b hb => f1 b (decide_eq_true hb)
  have gone : G'.get? e = none := f2 e (by simp)
  have lt : ∀ b o, hp.get? b = some o → b ≠ e := fun b o q z => by
    have h1 := Heap.lt_size q
    have h2 := M.new
    rw [z] at h1
    exact absurd h1 (Nat.not_lt.mpr h2)
  have ob : ObjOk X.prog X.w (upd H1 d (.xd [(("what" : Str), v)])) G' d (.xd [(("what" : Str), v)]) := ⟨_, M.ns.at (fun o q => (at_ d M.dne).trans q), fun f => relO_what rv f⟩
  have J : Inv X pins σ (upd H1 d (.xd [(("what" : Str), v)])) ⟨G', gs, dr, tk', os⟩ := I1.laid (t' := tk') (fun b o q => (at_ b (lt b o q)).trans (M.keep b o q)) M.dbig ob
  have nA : (upd H1 d (.xd [(("what" : Str), v)])) e = none := by rw [upd_ne (Ne.symm M.dne)]; exact I1.hok.fresh M.new
  refine ⟨e, _, _, ⟨G', gs, dr, tk', os⟩, _, .ref C, some d, rfl, J, fun b o q => ?_, gone, hoe, ⟨rfl, rfl⟩, rfl, rfl, nA, rfl, I1.bare, raises_own T.exC T.tyC, q1 d (I1.hok.fresh M.dbig)⟩
  by_cases hbe : b = e
  · rw [hbe] at q; exact absurd (q.symm.trans gone) (by simp)
  · exact (at_ b hbe).symm.trans q
end
end L2
/-! The facts of an own error class out of the written part, one by one. -/
namespace ERR
open PySem PySem.W PySem.Calls PyProof.Rows PySem.HandSPX
/-- where the parts of such an __init__ stand -/
def ePos (b : List Stmt) : Nat → Pos := match b with
  | [.Expr (.Call (.Attribute (.Call (.Name _ p0) _ _ p1) _ p2) [.Constant _ _ p3] _ p4) p5, .Assign [.Attribute (.Name _ p6) _ p7] (.Name _ p8) p9] => fun n => match n with
    | 0 => p0 | 1 => p1 | 2 => p2 | 3 => p3 | 4 => p4 | 5 => p5 | 6 => p6 | 7 => p7 | 8 => p8 | _ => p9
  | _ => fun _ => ⟨0, 0, 0, 0⟩
def eTxt (b : List Stmt) : Str := match b with
  | [.Expr (.Call _ [.Constant (.str x) _ _] _ _) _, _] => x
  | _ => ""
/-- an error of the class at S is what «except S» names -/
theorem exm_self {K : Frag} {S : Addr} (h1 : subIn K (.ref S) (.type "BaseException") = some true) (h2 : isClsIn K S = true) (h3 : typeIn K (.ref S) = some (.type "type")) (h4 : subIn K (.ref S) (.ref S) = some true) :
    exmOne K (.ref S) (.ref S) = some true := by
  have e1 : (subIn K (.ref S) (.type "BaseException") == some true) = true := by rw [h1] <;> rfl
  have e2 : ((clsIn K S).isSome && typeIn K (.ref S) == some (.type "type")) = true := by
    have h2' : (clsIn K S).isSome = true := h2
    rw [h2', h3] <;> rfl
  show (if (subIn K (.ref S) (.type "BaseException") == some true) = true then (if ((clsIn K S).isSome && typeIn K (.ref S) == some (.type "type")) = true then subIn K (.ref S) (.ref S) else none) else none) = some true
  rw [if_pos e1, if_pos e2]
  exact h4
theorem errT_mk {P : Program} {K : Frag} {C fI : Addr} (s : Stmt) {qual : Str}
    {nm q : Str} {N : Addr} {bs bm : List Value} {sn : List Str} {sub : List Value} {ab : Bool} {col : Option Bool} {dd : Option Addr} {k0 k1 k2 k3 k5 : Option Value}
    {oc doc pm ct cl ccl : Value} {od an cld cdd : Option Addr} {osl csl ccs : Array (Option Value)} {cc cda : Addr} {vs : Array Value} {file : Str} {tf : Tok}
    (xL : K.lookup C = some (excClassObj nm q C N bs bm true sn sub ab col dd k0 k1 k2 k3 k5 "ValueError.__new__")) (bmv : refsVE bm = true)
    (sa : findIn K (.ref C) "__setattr__" = some (some (.builtin "object.__setattr__")))
    (noW : findIn K (.ref C) "what" = some none)
    (subV : subIn K (.ref C) (.type "ValueError") = some true)
    (sup : ks_superIn K C C "__init__" = some (some (.builtin "ValueError.__init__")))
    (opq : nsIn K cStatics "thirdparty.any" = some none)
    (me : mroIn K C (.ref C) = some true)
    (init : findIn K (.ref C) "__init__" = some (some (.ref fI)))
    (tyI : typeIn K (.ref fI) = some (.type "function"))
    (kC : keepIn K (.ref C) = true)
    (exC : subIn K (.ref C) (.type "BaseException") = some true)
    (tyC : typeIn K (.ref C) = some (.type "type"))
    (top : (P.main.scope.names.lookup ("super" : Str)).isSome = false)
    (l : K.lookup fI = some ⟨oc, od, .func (ksFn "__init__" qual (L2.defArgs s) (L2.defBody s) (L2.defScope s) .none .none doc pm an (.ref cda) ct cc), osl⟩)
    (hA : ∃ p1 p2, L2.defArgs s = eA p1 p2) (hB : L2.defBody s = eB (eTxt (L2.defBody s)) (ePos (L2.defBody s))) (hS : L2.defScope s = eS)
    (hev : ∀ env : Env, ∃ pl : Sem Bool, eval (.Call (.Attribute (.Call (.Name "super" (ePos (L2.defBody s) 0)) [] [] (ePos (L2.defBody s) 1)) "__init__" (ePos (L2.defBody s) 2)) [.Constant (.str (eTxt (L2.defBody s))) 0 (ePos (L2.defBody s) 3)] [] (ePos (L2.defBody s) 4)) env = (do
      let ov ← attributeBase (.Call (.Name "super" (ePos (L2.defBody s) 0)) [] [] (ePos (L2.defBody s) 1)) "__init__" env (eval (.Call (.Name "super" (ePos (L2.defBody s) 0)) [] [] (ePos (L2.defBody s) 1)) env)
      standAt (ePos (L2.defBody s) 2).atName
      let (f, first) ← holding [ov] (getMethod ov "__init__" pl)
      callWith (ePos (L2.defBody s) 4) f first (backTo (ePos (L2.defBody s) 4) (starEach [.Constant (.str (eTxt (L2.defBody s))) 0 (ePos (L2.defBody s) 3)] env)) []))
    (c : codeIn K (.ref cda) qual = true)
    (lc : K.lookup cc = some ⟨cl, cld, .cell (some (.ref C)), csl⟩) (ld : K.lookup cda = some ⟨ccl, cdd, .fields vs, ccs⟩) (hv : vs[2]? = some (.str file tf)) (hf : ((P.main.file : Str) == file) = true) : ErrT P K C fI := by
  obtain ⟨p1, p2, hA⟩ := hA
  rw [hA, hS] at l
  generalize eTxt (L2.defBody s) = txt at hB hev
  generalize ePos (L2.defBody s) = p at hB hev
  rw [hB] at l
  exact { cls := ⟨nm, q, N, bs, bm, sn, sub, ab, col, dd, k0, k1, k2, k3, k5, xL, bmv⟩, sa := sa, noW := noW, subV := subV, sup := sup, opq := opq, me := me, init := init, tyI := tyI, kC := kC, exC := exC, tyC := tyC, top := top,
          fn := ⟨oc, od, an, doc, pm, ct, osl, qual, txt, cc, cda, p1, p2, p, cl, ccl, cld, cdd, csl, ccs, vs, file, tf, l, c, hev, lc, ld, hv, hf⟩ }
end ERR
/-! == and != by an own class's __eq__ and __ne__, whatever they answer. -/
namespace DP
open PySem PySem.Spec PyProof.Rows L2
theorem rooms64 {A : Around} {k : Nat} (hr : Room k A) : A.units + 64 < cLine := by have := hr.un; omega
/-- what isinstance asks of an own class's instances -/
structure IsiC (K : PySem.W.Frag) (C : Addr) : Prop where
  ha : PySem.W.findIn K (.ref C) "__class__" = some (some (.builtin "object.__class__"))
  hn : PySem.W.specialIn K (.builtin "object.__class__") "__get__" = some (some (.builtin "getset_descriptor.__get__"))
  htk : PySem.W.takesIn K (.builtin "object.__class__") = some true
  hm : PySem.W.mroIn K C (.type "object") = some true
theorem kit_self (K : PySem.W.Frag) (C : Addr) : PySem.W.kitOne K (.ref C) (.ref C) = some true := if_pos (beq_self_eq_true _)
theorem kit_no {K : PySem.W.Frag} {S : Addr} {t : Value} (h0 : (t == .ref S) = false) (h2 : PySem.W.isClsIn K S = true) (h3 : PySem.W.typeIn K (.ref S) = some (.type "type")) {b : Option Bool} (h4 : PySem.W.subIn K t (.ref S) = b) : PySem.W.kitOne K t (.ref S) = b := by
  have e2 : ((PySem.W.clsIn K S).isSome && PySem.W.typeIn K (.ref S) == some (.type "type")) = true := by
    have h2' : (PySem.W.clsIn K S).isSome = true := h2
    rw [h2', h3] <;> rfl
  show (if (t == .ref S) = true then some true else if ((PySem.W.clsIn K S).isSome && PySem.W.typeIn K (.ref S) == some (.type "type")) = true then PySem.W.subIn K t (.ref S) else none) = b
  rw [h0, if_neg Bool.false_ne_true, if_pos e2]
  exact h4
section
variable {X : Cx} {CX : CXT} {C f : Addr} {fd : FuncData} {ps : List Str} {sp : Sp} {E : XK} {k : Nat} {op : CmpOp}
/-- the right side: of the same class, a list, a whole number -/
inductive Right (K : PySem.W.Frag) (C : Addr) (H : Hp) : V → Prop
  | ins {b dy gs} : H b = some (.ins C dy gs) → Right K C H (.ref b)
  | lst {b xs} : SqL K H b xs → PySem.W.notFirst K C (.type "list") = true → Right K C H (.ref b)
  | int {i} : PySem.W.notFirst K C (.type "int") = true → Right K C H (.int i)
def rOwn (K : PySem.W.Frag) (C : Addr) (sp : Sp) (E : XK) : V → V → Hp → VK → Prop := fun x y H Q => ∃ a dx fs, x = .ref a ∧ H a = some (.ins C dx fs) ∧ Right K C H y ∧ sp [x, y] H (fun v H' => ∃ b, v = .bl b ∧ Q (.bl b) H') E
theorem own_run (F : FnOk X.prog X.w X.K X.mg X.base CX k f fd ps sp) (hs : PySem.W.findIn X.K (.ref C) (cmpInfo op).2.1 = some (some (.ref f))) (hf : PySem.W.isFn X.K (.ref f) = true) (hb : Binds X.K fd ps []) (hx : Passes CX X E) (hr : Room k X.A) : ∀ (pins : List (Addr × Obj)) (s : Shared) (σ : L2.St) (H : Hp) (x y : V) (v u : Value) (Q : VK), Inv X pins σ H s → RelV x v → RelV y u → rOwn X.K C sp E x y H Q → wpAny (model X.prog X.w) X.A (richCompare op v u) (EP X pins σ Q) X.xe s := by
  intro pins s σ H x y v u Q I rx ry hq
  obtain ⟨a, dx, fs, rfl, ha, hy, q⟩ := hq
  cases rx
  obtain ⟨mA, J, _⟩ := ins_get I.hok ha
  obtain ⟨od, J, _⟩ := J.look
  obtain ⟨m, hF⟩ := I.fr
  obtain ⟨tb, hl, hn⟩ : ∃ tb, PySem.W.Looks (model X.prog X.w) s.heap (typeOf u) tb ∧ PySem.W.notFirst X.K C tb = true := by
    cases hy with
    | ins h =>
      cases ry
      obtain ⟨mB, J', _⟩ := ins_get I.hok h
      obtain ⟨od', J', _⟩ := J'.look
      exact ⟨.ref C, J'.type, by simp [PySem.W.notFirst]⟩
    | lst h hn =>
      cases ry
      obtain ⟨its, rv, pl, hz⟩ := I.list h
      exact ⟨_, fun A Q E s1 k q => (by
        obtain ⟨o, ho, hc, r⟩ := pl.isList
        exact wpAny_typeOf_ref (k _ _ ho) (by rw [hc]; exact q)), hn⟩
    | int hn =>
      obtain ⟨t, rfl⟩ := ry
      exact ⟨_, fun A Q E s1 k q => wpAny_pure q, hn⟩
  refine PySem.W.cmp_K (op := op) (tb := tb) hr.units0 hF I.ok.mod.kin J hl hn hs hf ?_
  have r2 : Vals [V.ref a, y] [Value.ref a, u] := .cons rfl (.cons ry .nil)
  have hlen := F.len _ _ _ _ q
  refine wpAny_call (codeAny_mono (F.run X.A X.stack s H ⟨[.ref a, u], []⟩ [.ref a, u] [.ref a, y] _ E hr I.env0 (by
    have := hb s [.ref a, u] I.kIn (by simpa using hlen)
    simpa using this) r2 q) fun r s' hq => ?_)
  cases r with
  | error e => exact hx pins σ H s e s' I hq
  | ok fl =>
    cases fl with
    | ret w =>
      obtain ⟨z, H', I', rz, b, ez, q2⟩ := I.after hq
      subst ez
      cases rz
      exact ⟨.bl b, H', I', rfl, q2⟩
    | next => exact hq.elim
    | brk => exact hq.elim
    | cont => exact hq.elim
theorem op_ownEq (F : FnOk X.prog X.w X.K X.mg X.base CX k f fd ps sp) (hs : PySem.W.findIn X.K (.ref C) "__eq__" = some (some (.ref f))) (hf : PySem.W.isFn X.K (.ref f) = true) (hb : Binds X.K fd ps []) (hx : Passes CX X E) (hr : Room k X.A) : OpR X (compareOp .Eq) (rOwn X.K C sp E) := fun pins s σ H x y v u Q I rx ry hq =>
  own_run (op := .Eq) F hs hf hb hx hr pins s σ H x y v u Q I rx ry hq
theorem op_ownNe (F : FnOk X.prog X.w X.K X.mg X.base CX k f fd ps sp) (hs : PySem.W.findIn X.K (.ref C) "__ne__" = some (some (.ref f))) (hf : PySem.W.isFn X.K (.ref f) = true) (hb : Binds X.K fd ps []) (hx : Passes CX X E) (hr : Room k X.A) : OpR X (compareOp .NotEq) (rOwn X.K C sp E) := fun pins s σ H x y v u Q I rx ry hq =>
  own_run (op := .NotEq) F hs hf hb hx hr pins s σ H x y v u Q I rx ry hq
end
end DP
/-! A caught error that stays: tracked from the except suite on, asked for its class and its fields wherever it is held. -/
namespace EK
open PySem PySem.Spec PyProof.Rows L2
/-- an error of the class cls at a, its own dict d -/
def ExV (cls : Value) (d : Option Addr) (a : Addr) : HO := .ext fun h => ∃ (oe : Obj) (vs : Array Value), h.get? a = some oe ∧ Zc cls d oe ∧ oe.data = .fields vs
theorem exV_ok {P : Program} {w : World} {H : Hp} {h : Heap} {a : Addr} {cls : Value} {d : Option Addr} {oe : Obj} {vs : Array Value} (e : h.get? a = some oe) (z : Zc cls d oe) (dt : oe.data = .fields vs) : ObjOk P w H h a (ExV cls d a) :=
  ⟨⟨oe, vs, e, z, dt⟩, ⟨oe, e⟩, fun _ _ ⟨o, v, q, r⟩ k => ⟨o, v, k o q, r⟩⟩
section
variable {X : Cx} {pins : List (Addr × Obj)} {σ : L2.St} {H : Hp} {s : Shared}
/-- an object that wasn't there at the entry is tracked from now on -/
theorem track {a : Addr} {o : HO} (I : Inv X pins σ H s) (na : H a = none) (n0 : X.s_0.heap.get? a = none) (nL : a ≠ X.env.locals) (nC : ∀ x c, X.env.cells.lookup x = some c → c ≠ a) (nP : ∀ p ∈ X.pn ++ pins, p.1 ≠ a)
    (ok : ObjOk X.prog X.w (upd H a o) s.heap a o) : Inv X pins σ (upd H a o) s := by
  have keep : ∀ {b : Addr} {u : HO}, H b = some u → upd H a o b = some u := fun {b u} e => by rw [upd_ne (ne_of_none e na)]; exact e
  refine ⟨I.ok, I.os, I.bare, ⟨I.base.keep, I.base.slot, fun b u e n q => ?_, I.base.there, fun b xs e => keep (I.base.tups b xs e), fun b u v e => keep (I.base.frzs b u v e), fun b ps e => ?_⟩, I.loc, I.cell, ?_, fun x c e => ?_, fun p hp => ?_, I.hok.laidN (fun _ _ e => e) na ok, I.len⟩
  · rw [upd_ne (fun z => by rw [z, n0] at e; cases e)]
    exact I.base.free b u e n q
  · obtain ⟨m, z⟩ := I.base.tbls b ps e
    exact ⟨m, keep z⟩
  · rw [upd_ne (Ne.symm nL)]; exact I.free
  · rw [upd_ne (nC x c e)]; exact I.freeC x c e
  · obtain ⟨e, n, ne, nf, dd⟩ := I.pin p hp
    exact ⟨e, by rw [upd_ne (nP p hp)]; exact n, ne, nf, dd⟩
abbrev suite0 (X : Cx) (a : Addr) (pn : List (Addr × Obj)) : Cx := X.suite a pn
theorem to_suite (I : Inv X pins σ H s) (a : Addr) : Inv (X.suite a (X.pn ++ pins)) [] σ H s :=
  ⟨I.ok.suite _ _, I.os, I.bare, I.base, I.loc, I.cell, I.free, I.freeC, fun p hp => by rw [List.append_nil] at hp; exact I.pin p hp, I.hok, I.len⟩
theorem of_suite {a : Addr} {pn' : List (Addr × Obj)} (I : Inv (X.suite a (X.pn ++ pins)) pn' σ H s) (ok : X.Ok) : Inv X pins σ H s :=
  ⟨ok, I.os, I.bare, I.base, I.loc, I.cell, I.free, I.freeC, fun p hp => I.pin p (List.mem_append_left _ hp), I.hok, I.len⟩
end
/-- what 'except x as n' wishes of an error of the body: slot i is n's, the error tracked -/
def wKeep (K : PySem.W.Frag) (c : Value) (i : Nat) (ts : TS) (Wout : WX) (D : Ends) : WX := fun cls d σ H =>
  ∃ b, PySem.W.exmOne K cls c = some b ∧ (b = true → ∀ a, H a = none → ts { nx := fun σ' H' => D.nx (σ'.set i none) H', rt := D.rt, bk := fun σ' H' => D.bk (σ'.set i none) H', ct := fun σ' H' => D.ct (σ'.set i none) H' } (σ.set i (some (.ref a))) (upd H a (ExV cls d a))) ∧
    (b = false → Wout cls d σ H)
section
variable {X : Cx} {x n : Str} {c : Value} {i : Nat} {body suite : List Stmt} {b₀ : Stmt} {np pos pos' : Pos} {tb : WX → TS} {ts : TS} {Wout : WX}
theorem ps_try_keep (hs : X.stack = X.env :: X.outer) (hf : X.env.frame = some X.env.locals) (hex : X.ex = []) (hN : X.N.Nodup) (hi : X.N[i]? = some n) (hln : X.env.kindOf n = some .local) (hc : Names X x c) (tk : Takes X Wout)
    (hb : ∀ (W : WX) (pn : List (Addr × Obj)) (xe : Value → Shared → Prop), Takes (X.tr pn xe) W → PassesOwn (model X.prog X.w) X.A X.env xe → PSs (X.tr pn xe) body (tb W))
    (hsu : ∀ (a : Addr) (pn : List (Addr × Obj)), PSs (X.suite a pn) (b₀ :: suite) ts) :
    PS X (.Try body [.ExceptHandler (some (.Name x np)) (some n) (b₀ :: suite) pos'] [] [] pos) (fun D σ H => tb (wKeep X.K c i ts Wout D) D σ H) := by
  refine ⟨fun pins s σ H D I h => ?_⟩
  have ok := I.ok
  have hfr : X.A.frames = some (X.env :: X.outer) := by rw [ok.frames, hs]
  have hloc : Loc X.env.scope n := .inl hln
  refine wpAny_Try_except (wpAny_mono ((hb (wKeep X.K c i ts Wout D) (X.pn ++ pins) (fun e s₁ => wpAny (model X.prog X.w) X.A (noteFrame e X.env) (fun _ s₂ => wpAny (model X.prog X.w) X.A (setFlight e none) (fun _ s₃ =>
    wpAny (model X.prog X.w) X.A (handleBy e X.env [.ExceptHandler (some (.Name x np)) (some n) (b₀ :: suite) pos']) (SP X pins D) X.xe s₃) X.xe s₂) X.xe s₁) (fun u s' xx => ?_) PassesOwn.looking).run [] s σ H D (I.toTry _) h) (fun f s1 hsp => ?_) (fun e s1 he => he))
  · obtain ⟨a, B, sI, pins', σ', H', cls, d, rfl, J', nb, up, sky, na, os, ag, b, hb1, hyes, hno⟩ := xx
    have J : Inv X pins σ' H' sI := J'.ofTry ok
    have sky' : Sky B (X.env :: X.outer) a (Zc cls d) X.env.locals s'.heap := by rw [← hs]; exact sky
    show wpAny (model X.prog X.w) X.A (noteFrame (.ref a) X.env) _ _ _
    refine Sky.land Zc.steady hfr hf sky' fun h3 fl3 up3 => ?_
    have J3 : Inv X pins σ' H' { s' with heap := h3 } := J.landed nb fl3.1 (up.trans up3) os ag
    obtain ⟨oe3, vs3, he3, hz3, hd3⟩ := fl3.there
    have nfr : a ∉ frs (X.env :: X.outer) := fun hm => by
      obtain ⟨_, o', e', hnf⟩ := fl3.2.2.1.mem hm
      rw [he3] at e'; cases e'
      exact hnf _ hd3
    have nL : a ≠ X.env.locals := fun z => nfr (List.mem_filterMap.mpr ⟨X.env, List.mem_cons_self, by rw [hf, z]⟩)
    have nF : a ∉ X.fs := fun hm => by
      obtain ⟨e, he, q⟩ := List.mem_filterMap.mp hm
      exact nfr (List.mem_filterMap.mpr ⟨e, List.mem_cons_of_mem _ he, q⟩)
    have nB : B.get? a = none := fl3.2.1
    -- it is none of what stood
    have nI : ∀ b o, sI.heap.get? b = some o → b ∉ frs X.stack → b ≠ a := fun b o e hb z => by
      have q := nb b o e hb
      rw [z, nB] at q; cases q
    have nS : a ∉ frs X.stack := by rw [hs]; exact nfr
    have n0 : X.s_0.heap.get? a = none := by
      cases e : X.s_0.heap.get? a with
      | none => rfl
      | some o =>
        obtain ⟨o2, e2⟩ := J.base.there a o e (by rw [hex]; exact fun z => nomatch z)
        exact absurd rfl (nI a o2 e2 nS)
    have nP : ∀ p ∈ X.pn ++ pins, p.1 ≠ a := fun p hp z => by
      obtain ⟨e, _, _, _, _⟩ := J.pin p hp
      exact nI _ _ e (by rw [z]; exact nS) z
    have nC : ∀ x c, X.env.cells.lookup x = some c → c ≠ a := fun x c e z => by
      obtain ⟨v, o, ho, hd⟩ := J3.cell x c e
      rw [z, he3] at ho
      rw [← Option.some.inj ho, hd3] at hd
      exact nomatch hd
    have S3 := J3.suite he3 hd3 na nL nF
    refine wpAny_handleBy_cons (codeAny_handlers_test ?_) (by intro q; cases q)
    have LT : PySem.W.Looks (model X.prog X.w) h3 (typeOf (.ref a)) cls := fun A Q E s k q => wpAny_typeOf_ref (k _ _ he3) (by rw [hz3.1]; exact q)
    have LM := PySem.W.exm_one (M := model X.prog X.w) (J3.kIn) LT hb1
    have test : ∀ {Q : Value → Shared → Prop} {E : Value → Shared → Prop}, Q c { s' with heap := h3 } → wpAny (model X.prog X.w) (X.A.mark (some (.ref a))) (eval (.Name x np) X.env) Q E { s' with heap := h3 } := fun {Q E} q => by
      obtain ⟨hg, hdbg, hm | ⟨hm, hv, hnn⟩⟩ := hc
      · exact ld_glob (X := X.suite a ((a, oe3) :: (X.pn ++ pins))) S3 hg hm q hdbg
      · exact ld_blt (X := X.suite a ((a, oe3) :: (X.pn ++ pins))) S3 hg hm hv q hnn hdbg
    refine test (LM.here ?_)
    cases b with
    | true =>
      refine codeAny_handlers_suite_as (HandSPX.lands_againZ fl3 fun h4 fl4 up4 => ?_)
      have J4 : Inv X pins σ' H' { s' with heap := h4 } := J.landed nb fl4.1 ((up.trans up3).trans up4) os ag
      obtain ⟨oe4, vs4, he4, hz4, hd4⟩ := fl4.there
      have J5 := track (o := ExV cls d a) J4 na n0 nL nC nP (exV_ok he4 hz4 hd4)
      refine store_ok (X := X.suite a (X.pn ++ pins)) (v := .ref a) (to_suite J5 a) hN hi hloc rfl (fun s5 S5 => ?_) (.inr hln)
      refine wpAny_mono ((hsu a (X.pn ++ pins)).run [] s5 _ _ _ S5 (hyes rfl a na)) (fun f s6 hsp => ?_) (fun _ _ z => False.elim z)
      have leave : ∀ {σ6 : L2.St} {H6 : Hp} {Q : Shared → Prop}, Inv (X.suite a (X.pn ++ pins)) [] σ6 H6 s6 → (∀ s7, Inv X pins (σ6.set i none) H6 s7 → Q s7) →
          wpAny (model X.prog X.w) X.A (do bindName X.env n .none; unbindBehindTheSuite X.env n pos') (fun _ s7 => Q s7) X.xe s6 := fun {σ6 H6 Q} S6 hq => gone_ok (of_suite S6 ok) hN hi hln hq
      cases f with
      | next =>
        obtain ⟨σ6, H6, S6, q6⟩ := hsp
        exact leave S6 fun s7 J7 => ⟨_, _, J7, q6⟩
      | brk =>
        obtain ⟨σ6, H6, S6, q6⟩ := hsp
        exact leave S6 fun s7 J7 => ⟨_, _, J7, q6⟩
      | cont =>
        obtain ⟨σ6, H6, S6, q6⟩ := hsp
        exact leave S6 fun s7 J7 => ⟨_, _, J7, q6⟩
      | ret u =>
        obtain ⟨v6, σ6, H6, S6, r6, q6⟩ := hsp
        exact leave S6 fun s7 J7 => ⟨_, _, _, J7, r6, q6⟩
    | false =>
      show wpAny _ X.A (handleBy (.ref a) X.env []) _ _ _
      refine wpAny_handleBy_nil ?_
      obtain ⟨k1, k2, k3, oe, vs, T, oT, ts', he, hz, hd, h1, hr⟩ := id fl3
      unfold PySem.passOn
      refine wpAny_bind (wpAny_field he hd h1 ?_)
      rw [if_neg (show ¬ ((Value.ref T == Value.none) = true) from by simp)]
      have fin : wpAny (model X.prog X.w) X.A (setFlight (.ref a) X.env.frame) (fun _ s4 => wpAny (model X.prog X.w) X.A (throw (.ref a) : Sem Flow) (SP X pins D) X.xe s4) X.xe { s' with heap := h3 } := by
        rw [hf]
        refine HandSPX.setFlight_upZ fl3 fun h4 hh4 up4 => wpAny_throw (tk _ _ ⟨a, B, sI, pins, σ', H', cls, d, rfl, J, nb, (up.trans up3).trans up4, .inr (.inr (by rw [hs]; exact hh4)), na, os, ag, hno rfl⟩)
      first
        | exact wpAny_bind (wpAny_pure (wpAny_bind fin))
        | exact wpAny_bind fin
  · cases f with
    | next =>
      obtain ⟨σ', H', J', q⟩ := hsp
      exact wpAny_execs_nil ⟨σ', H', J'.ofTry ok, q⟩
    | brk =>
      obtain ⟨σ', H', J', q⟩ := hsp
      exact ⟨σ', H', J'.ofTry ok, q⟩
    | cont =>
      obtain ⟨σ', H', J', q⟩ := hsp
      exact ⟨σ', H', J'.ofTry ok, q⟩
    | ret u =>
      obtain ⟨v, σ', H', J', r, q⟩ := hsp
      exact ⟨v, σ', H', J'.ofTry ok, r, q⟩
end
/-- what an own error class's instances are asked -/
structure ExF (K : PySem.W.Frag) (C : Addr) : Prop where
  ga : PySem.W.findIn K (.ref C) "__getattribute__" = some (some (.builtin "BaseException.__getattribute__"))
  gg : PySem.W.findIn K (.ref C) "__getattr__" = some none
  exC : PySem.W.subIn K (.ref C) (.type "BaseException") = some true
  hdC : PySem.W.hasDictIn K C = true
  ha : PySem.W.findIn K (.ref C) "__class__" = some (some (.builtin "object.__class__"))
  hn : PySem.W.specialIn K (.builtin "object.__class__") "__get__" = some (some (.builtin "getset_descriptor.__get__"))
  htk : PySem.W.takesIn K (.builtin "object.__class__") = some true
  hm : PySem.W.mroIn K C (.type "object") = some true
  what : PySem.W.findIn K (.ref C) "what" = some none
section
variable {X : Cx} {K : PySem.W.Frag}
theorem ExF.cl {K : PySem.W.Frag} {C : Addr} (F : ExF K C) : (PySem.W.clsIn K C).isSome = true := by
  have h := F.hdC
  unfold PySem.W.hasDictIn at h
  cases e : PySem.W.clsIn K C with
  | none => rw [e] at h; cases h
  | some _ => rfl
/-- an error held at a, of the class at C, its fields fs -/
def Held (K : PySem.W.Frag) (H : Hp) (a C : Addr) (fs : List (Str × V)) : Prop := ∃ dd, H a = some (ExV (.ref C) (some dd) a) ∧ H dd = some (.xd fs) ∧ ExF K C
theorem Held.same {K : PySem.W.Frag} {H H' : Hp} {a C : Addr} {fs : List (Str × V)} (h : Held K H a C fs) (S : Same H H') : Held K H' a C fs := by
  obtain ⟨dd, h1, h2, h3⟩ := h
  exact ⟨dd, S _ _ h1, S _ _ h2, h3⟩
theorem Held.at {pins : List (Addr × Obj)} {σ : L2.St} {H : Hp} {s : Shared} {a C : Addr} {fs : List (Str × V)} (h : Held X.K H a C fs) (I : Inv X pins σ H s) :
    ∃ oe od, PySem.W.InstAt s.heap a oe C (some od) ∧ ∀ f v, fs.lookup f = some v → ∃ u, PySem.W.lookIn f od = some (some u) ∧ RelV v u := by
  obtain ⟨dd, h1, h2, F⟩ := h
  obtain ⟨oe, vs, e, z, dt⟩ : ∃ (oe : Obj) (vs : Array Value), s.heap.get? a = some oe ∧ Zc (.ref C) (some dd) oe ∧ oe.data = .fields vs := (I.hok a _ h1).1
  have hx : ObjOk X.prog X.w H s.heap dd (.xd fs) := I.hok dd _ h2
  obtain ⟨mA, hns, hr⟩ := hx
  obtain ⟨od, ho, hl⟩ := lookIn_ns hns
  refine ⟨oe, od, ⟨e, z.1, by unfold PySem.W.notCls; rw [dt] <;> rfl, by rw [z.2]; exact ho⟩, fun f v l => ?_⟩
  obtain ⟨u, hu, ru⟩ := RelO.some_of (v := v) (o := mA f) (by rw [← l]; exact hr f)
  exact ⟨u, by rw [hl, hu], ru⟩
/-- isinstance(an error, a class) -/
def rIsiE (K : PySem.W.Frag) : List V → Hp → VK → Prop := fun xs H Q => ∃ (a C : Addr) (fs : List (Str × V)) (c : V) (u : Value) (b : Bool), xs = [.ref a, c] ∧ Held K H a C fs ∧ ClsV c u ∧ PySem.W.kitOne K (.ref C) u = some b ∧ Q (.bl b) H
/-- isinstance(an error, a tuple of classes that was just laid) -/
def rIsiET (K : PySem.W.Frag) : List V → Hp → VK → Prop := fun xs H Q => ∃ (a C : Addr) (fs : List (Str × V)) (tp : Addr) (cs : List V) (us : List Value) (b : Bool), xs = [.ref a, .ref tp] ∧ Held K H a C fs ∧ H tp = some (.tup cs) ∧ Paired ClsV cs us ∧ PySem.W.kitAny K (.ref C) us = some b ∧ Q (.bl b) H
theorem call_isiE (h : X.K = K := by rfl) : CallR X (.builtin "isinstance") (rIsiE K) := by
  subst h
  intro pins s σ H xs us Q I r h
  obtain ⟨a, C, fs, c, u, b, rfl, hh, k, e, q⟩ := h
  obtain ⟨u1, u2, rfl, r1, r2⟩ := vals2 r
  cases (show u1 = Value.ref a from r1)
  have e2 := k.eq r2
  subst e2
  obtain ⟨oe, od, J, _⟩ := hh.at I
  obtain ⟨_, _, _, F⟩ := hh
  exact PySem.W.kia_one (PySem.W.kitx_exc F.cl F.ga F.gg F.exC F.ha F.hn F.htk F.hm) I.kIn J e (fun z => nomatch z) fun tk => ⟨.bl b, H, I.tok tk, rfl, q⟩
theorem call_isiET (h : X.K = K := by rfl) : CallR X (.builtin "isinstance") (rIsiET K) := by
  subst h
  intro pins s σ H xs us Q I r h
  obtain ⟨a, C, fs, tp, cs, ws, b, rfl, hh, hT, k, e, q⟩ := h
  obtain ⟨u1, u2, rfl, r1, r2⟩ := vals2 r
  cases (show u1 = Value.ref a from r1)
  cases (show u2 = Value.ref tp from r2)
  obtain ⟨oe, od, J, _⟩ := hh.at I
  obtain ⟨_, _, _, F⟩ := hh
  obtain ⟨_, its, rv, o, h1, h2, n, h3⟩ := (show ObjOk X.prog X.w H s.heap tp (.tup cs) from I.hok tp _ hT)
  have e3 := ClsV.all k rv
  subst e3
  obtain ⟨oc, od2, dt, sl⟩ := o
  simp only at h2 h3
  subst h2 h3
  exact PySem.W.kia_tup (PySem.W.kitx_exc F.cl F.ga F.gg F.exC F.ha F.hn F.htk F.hm) I.kIn J h1 e (fun z => nomatch z) fun tk => ⟨.bl b, H, I.tok tk, rfl, q⟩
/-- e.f of an error that is held -/
def tExF (K : PySem.W.Frag) (f : Str) (te : TE) : TE := fun σ H Q => te σ H fun x H1 => ∃ (a C : Addr) (fs : List (Str × V)) (v : V), x = .ref a ∧ Held K H1 a C fs ∧ PySem.W.findIn K (.ref C) f = some none ∧ fs.lookup f = some v ∧ Q v H1
theorem pe_exf {e : Expr} {te : TE} {pos : Pos} {n : Str} (he : PE X e te) (hb : attributeBase e n X.env (eval e X.env) = eval e X.env := by rfl) (h : X.K = K := by rfl) : PE X (.Attribute e n pos) (tExF K n te) := by
  subst h
  refine ⟨fun pins s σ H Q I h => attr_of hb (thn (he.run pins s σ H _ I h) fun u s1 hh => ?_)⟩
  obtain ⟨x, H1, I1, rx, a, C, fs, v, ex, hd, hno, l, q⟩ := hh
  subst ex
  obtain rfl : u = Value.ref a := rx
  obtain ⟨oe, od, J, hl⟩ := hd.at I1
  obtain ⟨_, _, _, F⟩ := hd
  obtain ⟨u, hu, ru⟩ := hl _ _ l
  exact HandSPX.exc_get I1.kIn J F.ga F.gg F.exC (PySem.W.findObj_own F.hdC hno rfl hu) (handed_of ru) ⟨v, H1, I1.tok _, ru, q⟩
end
end EK
/-! What an own error is, asked by classes above it, beside it, and built in. -/
namespace ERR
open PySem PySem.W PyProof.Rows L2
theorem exm_of {K : Frag} {E S : Addr} (h1 : subIn K (.ref S) (.type "BaseException") = some true) (h2 : isClsIn K S = true) (h3 : typeIn K (.ref S) = some (.type "type")) (h4 : subIn K (.ref E) (.ref S) = some true) :
    exmOne K (.ref E) (.ref S) = some true := by
  have e1 : (subIn K (.ref S) (.type "BaseException") == some true) = true := by rw [h1] <;> rfl
  have e2 : ((clsIn K S).isSome && typeIn K (.ref S) == some (.type "type")) = true := by
    have h2' : (clsIn K S).isSome = true := h2
    rw [h2', h3] <;> rfl
  show (if (subIn K (.ref S) (.type "BaseException") == some true) = true then (if ((clsIn K S).isSome && typeIn K (.ref S) == some (.type "type")) = true then subIn K (.ref E) (.ref S) else none) else none) = some true
  rw [if_pos e1, if_pos e2]
  exact h4
theorem kit_blt {K : Frag} {E : Addr} {T : String} {b : Bool} (hm : kitMeta T = true) (h : subIn K (.ref E) (.type T) = some b) : kitOne K (.ref E) (.type T) = some b := by
  show (if ((Value.ref E) == .type T) = true then some true else (if kitMeta T = true then subIn K (.ref E) (.type T) else none)) = some b
  rw [if_neg (show ¬ ((Value.ref E) == .type T) = true from Bool.false_ne_true), if_pos hm]
  exact h
end ERR
/-! Calls by keywords, in any order, with defaults: functions, methods, classes. -/
namespace KW
open PySem PySem.Spec PyProof.Rows L2 DP
/-- those of a list that stand at these places -/
def pick {α : Type} (is : List Nat) (l : List α) : List α := is.filterMap fun i => l[i]?
theorem vals_at : ∀ {vs : List V} {us : List Value} (r : Vals vs us) (i : Nat), (vs[i]? = none ∧ us[i]? = none) ∨ ∃ v u, vs[i]? = some v ∧ us[i]? = some u ∧ RelV v u
  | _, _, .nil, i => .inl ⟨by simp, by simp⟩
  | _, _, .cons h t, 0 => .inr ⟨_, _, rfl, rfl, h⟩
  | _, _, .cons h t, i + 1 => by simpa using vals_at t i
theorem pick_rel {vs : List V} {us : List Value} (r : Vals vs us) : ∀ is : List Nat, Vals (pick is vs) (pick is us)
  | [] => .nil
  | i :: is => by
    unfold pick
    rw [List.filterMap_cons, List.filterMap_cons]
    rcases vals_at r i with ⟨e1, e2⟩ | ⟨v, u, e1, e2, h⟩
    · rw [e1, e2]; exact pick_rel r is
    · rw [e1, e2]; exact .cons h (pick_rel r is)
/-- positional values, then the rest out of the keywords' values and the defaults -/
def gk {α : Type} (is : List Nat) (ds us ws : List α) : List α := us ++ pick is (ws ++ ds)
theorem gk_rel {is : List Nat} {dv vs zs : List V} {ds us ws : List Value} (rd : Vals dv ds) (r : Vals vs us) (rz : Vals zs ws) : Vals (gk is dv vs zs) (gk is ds us ws) := r.append (pick_rel (rz.append rd) is)
/-- all parameters are given -/
theorem kbn0 {K : PySem.W.Frag} {fd : FuncData} {ps ks : List Str} {n : Nat} (is : List Nat) (h : ∀ us ws : List Value, us.length = n → ws.length = ks.length → bindArgs fd ⟨us, ks.zip ws⟩ = pure (ps.zip (gk is [] us ws))) : KBn K fd ps n ks (gk is []) (gk is []) :=
  ⟨fun s us ws _ h1 h2 => .of_eq (h us ws h1 h2), fun r rz => gk_rel .nil r rz⟩
section
variable {K : PySem.W.Frag} {x qual : Str} {params : Arguments} {body : List Stmt} {scope : Scope} {dvs : List V} {f : Addr} {fd : FuncData} {ps : List Str}
/-- the lacking ones stand among the defaults -/
theorem kbnD (F : FunD K x qual params body scope dvs [] f fd) (n : Nat) (ks : List Str) (is : List Nat) (hd : dvs ≠ [])
    (h : ∀ (T : Addr) (kV doc pm : Value) (an : Option Addr) (cdv ct : Value) (us its ws : List Value), us.length = n → its.length = dvs.length → ws.length = ks.length →
      ∃ k, bindArgs (PySem.W.fnOf x qual params body scope (.ref T) kV doc pm an cdv ct) ⟨us, ks.zip ws⟩ = seqItems? (.ref T) >>= k ∧ k (some its.toArray) = pure (ps.zip (gk is its us ws))) : ∃ its : List Value, KBn K fd ps n ks (gk is its) (gk is dvs) := by
  obtain ⟨oc, od, dV, kV, doc, pm, an, cdv, ct, osl, rfl, lk, hcd, hD, hK⟩ := F.ex
  rcases hD with ⟨e, _⟩ | ⟨_, T, o, its, m, rfl, lT, oT, rT⟩
  · exact absurd e hd
  · refine ⟨its, fun s us ws X l1 l2 => ?_, fun r rz => gk_rel rT r rz⟩
    obtain ⟨k, e1, e2⟩ := h T kV doc pm an cdv ct us its ws l1 rT.length.symm l2
    refine BindsTo.of_looks fun M => ?_
    rw [e1]
    exact looks_items X lT oT (.of_pure e2)
end
section
variable {X : Cx} {CX : CXT} {k : Nat} {f C : Addr} {fd : FuncData} {ps ks : List Str} {sp : Sp} {E : XK} {x m : Str} {p pos apos : Pos} {o : Expr} {kws : List Keyword} {ta : TE} {tk : TA} {g : List Value → List Value → List Value} {gV : List V → List V → List V}
def tCallN0 (c : Nat) (sp : Sp) (gV : List V → List V → List V) (E : XK) (tk : TA) : TE := fun σ H Q => tk σ H fun zs H2 => zs.length = c ∧ sp (gV [] zs) H2 Q E
/-- f(k = v, ..) -/
theorem pe_callN0 (F : FnOk X.prog X.w X.K X.mg X.base CX k f fd ps sp) (hr : Room k X.A) (hg : Gl X x) (hm : X.mg x = some (.ref f)) (hk : PySem.W.keepIn X.K (.ref f) = true) (hb : KBn X.K fd ps 0 ks g gV) (hx : Passes CX X E) (hkw : PK X kws tk)
    (hall : (backToKw pos (keywordEach kws X.env)).all (·.1.isSome) = true := by rfl) (hks : (backToKw pos (keywordEach kws X.env)).filterMap (·.1) = ks := by rfl) (hdb : (x == ("__debug__" : Str)) = false := by decide)
    (hpl : ((backTo pos (starEach [] X.env)).any (·.1) || (backToKw pos (keywordEach kws X.env)).any (·.1.isNone)) = false := by rfl) :
    PE X (.Call (.Name x p) [] kws pos) (tCallN0 ks.length sp gV E tk) := by
  refine ⟨fun pins s σ H Q I h => ?_⟩
  refine wpAny_Call_Name_kw (ld_glob I hg hm ?_ hdb)
  refine PySem.W.callWith_KW0 (h₀ := X.base) I.ok.mod.kin hk hall ?_ hpl
  refine thn (hkw.run pos pins s σ H _ I h) fun ws s2 ⟨zs, H2, I2, rz, l2, q2⟩ => ⟨I2.kIn, ?_⟩
  rw [hks]
  exact run_fnN (us := []) (vs := []) F hr hb hx I2 .nil rz rfl l2 q2
def tMethN (C : Addr) (m : Str) (c : Nat) (sp : Sp) (gV : List V → List V → List V) (E : XK) (ta : TE) (tk : TA) : TE := fun σ H Q => ta σ H fun x H1 => ∃ a dx fs, x = .ref a ∧ H1 a = some (.ins C dx fs) ∧ fs.lookup m = none ∧ tk σ H1 fun zs H2 => zs.length = c ∧ sp (gV [.ref a] zs) H2 Q E
/-- o.m(k = v, ..) -/
theorem pe_methN {pl : Sem Bool} (he : PE X o ta) (c : Cls X.K C) (hm : Meth X.K C m f) (F : FnOk X.prog X.w X.K X.mg X.base CX k f fd ps sp) (hr : Room k X.A) (hb : KBn X.K fd ps 1 ks g gV) (hx : Passes CX X E) (hkw : PK X kws tk)
    (hall : (backToKw pos (keywordEach kws X.env)).all (·.1.isSome) = true := by rfl) (hks : (backToKw pos (keywordEach kws X.env)).filterMap (·.1) = ks := by rfl)
    (hpl : ((backTo pos (starEach [] X.env)).any (·.1) || (backToKw pos (keywordEach kws X.env)).any (·.1.isNone)) = false := by rfl)
    (ht : eval (.Call (.Attribute o m apos) [] kws pos) X.env = (do
      let ov ← eval o X.env
      standAt apos.atName
      let (f, first) ← holding [ov] (getMethod ov m pl)
      callWith pos f first (backTo pos (starEach [] X.env)) (backToKw pos (keywordEach kws X.env))) := by rfl) :
    PE X (.Call (.Attribute o m apos) [] kws pos) (tMethN C m ks.length sp gV E ta tk) := by
  refine ⟨fun pins s σ H Q I h => ?_⟩
  refine PySem.W.methodCall_KW (pl := pl) (thn (he.run pins s σ H _ I h) fun u s1 ⟨x, H1, I1, rx, a, dx, fs, ex, ea, l, q⟩ => ?_) ht
  subst ex
  obtain rfl : u = Value.ref a := rx
  refine getmeth_ok I1 ea c hm l ?_
  refine PySem.W.callWith_KW0 (first := [.ref a]) (h₀ := X.base) I.ok.mod.kin hm.kp hall ?_ hpl
  refine thn (hkw.run pos pins s1 σ H1 _ I1 q) fun ws s2 ⟨zs, H2, I2, rz, l2, q2⟩ => ⟨I2.kIn, ?_⟩
  rw [hks]
  exact run_fnN (us := [.ref a]) (vs := [.ref a]) F hr hb hx I2 (.cons rfl .nil) rz rfl l2 q2
end
section
variable {P : Program} {w : World} {K : PySem.W.Frag} {mg : Str → Option Value} {base : Heap} {x qual : Str} {st : Stmt} {dvs : List V} {f : Addr} {fd : FuncData}
/-- a def with defaults, by its body -/
theorem FunD.okN {N ps : List Str} {k : Nat} {sp : Sp} (F : FunD K x qual (defArgs st) (defBody st) (defScope st) dvs [] f fd) (S : FnScope N ps (defScope st)) (len : ∀ vs H Q E, sp vs H Q E → vs.length = ps.length)
    (hbody : ∀ (cdv : Value) (A : Around) (outer : List Env) (s : Shared) (H : Hp) (vs : List V) (Q : VK) (E : XK), Room k (A.deeper (envOfC qual (defScope st) s.heap.objs.size f cdv)) → sp vs H Q E →
      ∃ t, PSs (cxOf CX0 P w K mg base N qual (defScope st) f cdv A outer s H E).nox (defBody st) t ∧ t { nx := fun _ H' => Q .non H', rt := Q } (start N vs) H) : FnOk P w K mg base CX0 (k + 1) f fd ps sp :=
  F.ok S len fun cdv A outer s H vs Q E hr hsp => by
    obtain ⟨t, h, q⟩ := hbody cdv A outer s H vs Q E hr hsp
    exact ⟨t, h.nox, q⟩
end
end KW
/-! Calls in a try's body: methods and classes, by place and by keywords; what they let out is asked at the slots of the call. -/
namespace KW
open PySem PySem.Spec PyProof.Rows L2 DP
section
variable {P : Program} {w : World} {K : PySem.W.Frag} {mg : Str → Option Value} {base : Heap} {CX : CXT} {k : Nat} {f : Addr} {fd : FuncData} {ps : List Str} {sp sq : Sp}
/-- a def that lets out nothing keeps its promise where others may let out something -/
theorem ok_may (F : FnOk P w K mg base CX0 k f fd ps sp) : FnOk P w K mg base CX k f fd ps sp := by
  refine ⟨F.len, fun A outer s H args us vs Q E hr he hb hv hs => ?_⟩
  have h := F.run A outer s H args us vs Q E hr he hb hv hs
  refine codeAny_mono h fun r s' q => ?_
  cases r with
  | error e => exact False.elim q
  | ok fl => cases fl <;> exact q
/-- either of two promises -/
theorem ok_or (F : FnOk P w K mg base CX k f fd ps sp) (G : FnOk P w K mg base CX k f fd ps sq) : FnOk P w K mg base CX k f fd ps (fun vs H Q E => sp vs H Q E ∨ sq vs H Q E) :=
  ⟨fun vs H Q E h => h.elim (F.len vs H Q E) (G.len vs H Q E), fun A outer s H args us vs Q E hr he hb hv h => h.elim (F.run A outer s H args us vs Q E hr he hb hv) (G.run A outer s H args us vs Q E hr he hb hv)⟩
end
section
variable {X : Cx} {CX : CXT} {k : Nat} {f C : Addr} {fd : FuncData} {ps ks : List Str} {sp : Sp} {E : L2.St → XK} {x m : Str} {p pos apos : Pos} {e o : Expr} {es : List Expr} {kws : List Keyword} {ta : TE} {t tk : TA} {g : List Value → List Value → List Value} {gV : List V → List V → List V}
/-- o.m(e, ..) -/
def tMethX (C : Addr) (m : Str) (sp : Sp) (E : L2.St → XK) (ta : TE) (t : TA) : TE := fun σ H Q => ta σ H fun x H1 => ∃ a dx fs, x = .ref a ∧ H1 a = some (.ins C dx fs) ∧ fs.lookup m = none ∧ t σ H1 fun vs H2 => sp (.ref a :: vs) H2 Q (E σ)
theorem pe_methX {pl : Sem Bool} (he : PE X o ta) (c : Cls X.K C) (hm : Meth X.K C m f) (F : FnOk X.prog X.w X.K X.mg X.base CX k f fd ps sp) (hr : Room k X.A) (hb : Binds X.K fd ps []) (hx : ∀ σ, PassesAt CX X σ (E σ)) (ha : PA X (e :: es) t)
    (hst : starEach (e :: es) X.env = (false, eval e X.env) :: starEach es X.env := by rfl) (hpl : (backTo pos (starEach es X.env)).any (·.1) = false := by rfl)
    (ht : eval (.Call (.Attribute o m apos) (e :: es) [] pos) X.env = (do let ov ← eval o X.env; standAt apos.atName; let (f, first) ← holding [ov] (getMethod ov m pl); callWith pos f first (backTo pos (starEach (e :: es) X.env)) (backToKw pos (keywordEach [] X.env))) := by rfl) :
    PE X (.Call (.Attribute o m apos) (e :: es) [] pos) (tMethX C m sp E ta t) := ⟨fun pins s σ H Q I h => by
  refine PySem.W.methodCall_KW (pl := pl) (thn (he.run pins s σ H _ I h) fun u s1 hh => ?_) ht
  obtain ⟨x, H1, I1, rx, a, dx, fs, ex, ea, l, q⟩ := hh
  subst ex
  obtain rfl : u = Value.ref a := rx
  refine getmeth_ok I1 ea c hm l (PySem.W.callWith_K (first := [.ref a]) (h₀ := X.base) I.ok.mod.kin hm.kp (thn (ha.run pos pins s1 σ H1 _ I1 q) fun us s2 hh => ?_) hst hpl)
  obtain ⟨vs, H2, I2, r, q2⟩ := hh
  exact ⟨I2.kIn, run_fnS (us := .ref a :: us) (vs := .ref a :: vs) F hr hb (hx σ) I2 (.cons rfl r) q2⟩⟩
/-- the callee runs, with keywords -/
theorem run_kwX {n : Nat} {pins : List (Addr × Obj)} {σ : L2.St} {H : Hp} {s : Shared} {Q : VK} {us ws : List Value} {vs zs : List V} (F : FnOk X.prog X.w X.K X.mg X.base CX k f fd ps sp) (hr : Room k X.A) (hb : KBn X.K fd ps n ks g gV) (hx : PassesAt CX X σ (E σ))
    (I : Inv X pins σ H s) (r : Vals vs us) (rz : Vals zs ws) (l1 : vs.length = n) (l2 : zs.length = ks.length) (h : sp (gV vs zs) H Q (E σ)) : wpAny (model X.prog X.w) X.A (call (.ref f) us (ks.zip ws)) (EP X pins σ Q) X.xe s := by
  have n1 : us.length = n := by rw [← r.length, l1]
  refine wpAny_call (codeAny_mono (F.run X.A X.stack s H ⟨us, ks.zip ws⟩ (g us ws) (gV vs zs) Q (E σ) hr I.env0 (hb.to s us ws I.kIn n1 (rz.length.symm.trans l2)) (hb.rel r rz) h) fun r s' hq => ?_)
  cases r with
  | error e => exact hx pins H s e s' I hq
  | ok fl =>
    cases fl with
    | ret u => exact I.after hq
    | next => exact False.elim hq
    | brk => exact False.elim hq
    | cont => exact False.elim hq
def tCallNX (c : Nat) (sp : Sp) (gV : List V → List V → List V) (E : L2.St → XK) (tk : TA) : TE := fun σ H Q => tk σ H fun zs H2 => zs.length = c ∧ sp (gV [] zs) H2 Q (E σ)
/-- f(k = v, ..) -/
theorem pe_callNX (F : FnOk X.prog X.w X.K X.mg X.base CX k f fd ps sp) (hr : Room k X.A) (hg : Gl X x) (hm : X.mg x = some (.ref f)) (hk : PySem.W.keepIn X.K (.ref f) = true) (hb : KBn X.K fd ps 0 ks g gV) (hx : ∀ σ, PassesAt CX X σ (E σ)) (hkw : PK X kws tk)
    (hall : (backToKw pos (keywordEach kws X.env)).all (·.1.isSome) = true := by rfl) (hks : (backToKw pos (keywordEach kws X.env)).filterMap (·.1) = ks := by rfl) (hdb : (x == ("__debug__" : Str)) = false := by decide)
    (hpl : ((backTo pos (starEach [] X.env)).any (·.1) || (backToKw pos (keywordEach kws X.env)).any (·.1.isNone)) = false := by rfl) :
    PE X (.Call (.Name x p) [] kws pos) (tCallNX ks.length sp gV E tk) := ⟨fun pins s σ H Q I h => by
  refine wpAny_Call_Name_kw (ld_glob I hg hm ?_ hdb)
  refine PySem.W.callWith_KW0 (h₀ := X.base) I.ok.mod.kin hk hall ?_ hpl
  refine thn (hkw.run pos pins s σ H _ I h) fun ws s2 hh => ?_
  obtain ⟨zs, H2, I2, rz, l2, q2⟩ := hh
  refine ⟨I2.kIn, ?_⟩
  rw [hks]
  exact run_kwX (us := []) (vs := []) F hr hb (hx σ) I2 .nil rz rfl l2 q2⟩
def tMethNX (C : Addr) (m : Str) (c : Nat) (sp : Sp) (gV : List V → List V → List V) (E : L2.St → XK) (ta : TE) (tk : TA) : TE := fun σ H Q => ta σ H fun x H1 => ∃ a dx fs, x = .ref a ∧ H1 a = some (.ins C dx fs) ∧ fs.lookup m = none ∧ tk σ H1 fun zs H2 => zs.length = c ∧ sp (gV [.ref a] zs) H2 Q (E σ)
/-- o.m(k = v, ..) -/
theorem pe_methNX {pl : Sem Bool} (he : PE X o ta) (c : Cls X.K C) (hm : Meth X.K C m f) (F : FnOk X.prog X.w X.K X.mg X.base CX k f fd ps sp) (hr : Room k X.A) (hb : KBn X.K fd ps 1 ks g gV) (hx : ∀ σ, PassesAt CX X σ (E σ)) (hkw : PK X kws tk)
    (hall : (backToKw pos (keywordEach kws X.env)).all (·.1.isSome) = true := by rfl) (hks : (backToKw pos (keywordEach kws X.env)).filterMap (·.1) = ks := by rfl)
    (hpl : ((backTo pos (starEach [] X.env)).any (·.1) || (backToKw pos (keywordEach kws X.env)).any (·.1.isNone)) = false := by rfl)
    (ht : eval (.Call (.Attribute o m apos) [] kws pos) X.env = (do let ov ← eval o X.env; standAt apos.atName; let (f, first) ← holding [ov] (getMethod ov m pl); callWith pos f first (backTo pos (starEach [] X.env)) (backToKw pos (keywordEach kws X.env))) := by rfl) :
    PE X (.Call (.Attribute o m apos) [] kws pos) (tMethNX C m ks.length sp gV E ta tk) := ⟨fun pins s σ H Q I h => by
  refine PySem.W.methodCall_KW (pl := pl) (thn (he.run pins s σ H _ I h) fun u s1 hh => ?_) ht
  obtain ⟨x, H1, I1, rx, a, dx, fs, ex, ea, l, q⟩ := hh
  subst ex
  obtain rfl : u = Value.ref a := rx
  refine getmeth_ok I1 ea c hm l (PySem.W.callWith_KW0 (first := [.ref a]) (h₀ := X.base) I.ok.mod.kin hm.kp hall ?_ hpl)
  refine thn (hkw.run pos pins s1 σ H1 _ I1 q) fun ws s2 hh => ?_
  obtain ⟨zs, H2, I2, rz, l2, q2⟩ := hh
  refine ⟨I2.kIn, ?_⟩
  rw [hks]
  exact run_kwX (us := [.ref a]) (vs := [.ref a]) F hr hb (hx σ) I2 (.cons rfl .nil) rz rfl l2 q2⟩
/-- C(e, ..), C(k = v, ..) -/
def tMakeX (C : Addr) (sp : Sp) (E : L2.St → XK) (t : TA) : TE := fun σ H Q => t σ H fun vs H1 => ∀ x dx, H1 x = none → H1 dx = none → dx ≠ x →
  sp (.ref x :: vs) (upd (upd H1 dx (.own x)) x (.ins C dx [])) (fun v H2 => v = .non ∧ Q (.ref x) H2) (E σ)
def tMakeNX (C : Addr) (c : Nat) (sp : Sp) (gV : List V → List V → List V) (E : L2.St → XK) (tk : TA) : TE := fun σ H Q => tk σ H fun zs H1 => zs.length = c ∧ ∀ x dx, H1 x = none → H1 dx = none → dx ≠ x →
  sp (gV [.ref x] zs) (upd (upd H1 dx (.own x)) x (.ins C dx [])) (fun v H2 => v = .non ∧ Q (.ref x) H2) (E σ)
theorem pe_makeX (M : Mk X.K C f) (F : FnOk X.prog X.w X.K X.mg X.base CX k f fd ps sp) (hr : Room (k + 1) X.A) (hg : Gl X x) (hm : X.mg x = some (.ref C)) (hb : Binds X.K fd ps []) (hx : ∀ σ, PassesAt CX X σ (E σ)) (ha : PA X (e :: es) t)
    (hdb : (x == ("__debug__" : Str)) = false := by decide) (he : starEach (e :: es) X.env = (false, eval e X.env) :: starEach es X.env := by rfl) (hpl : (backTo pos (starEach es X.env)).any (·.1) = false := by rfl) :
    PE X (.Call (.Name x p) (e :: es) [] pos) (tMakeX C sp E t) := ⟨fun pins s σ H Q I h => by
  refine wpAny_Call_Name_kw (ld_glob I hg hm ?_ hdb)
  refine PySem.W.callWith_K (h₀ := X.base) I.ok.mod.kin M.kp (thn (ha.run pos pins s σ H _ I h) fun us s1 hh => ?_) he hpl
  obtain ⟨vs, H1, I1, r, q⟩ := hh
  refine ⟨I1.kIn, ?_⟩
  have hq := q (s1.heap.objs.size + 1) s1.heap.objs.size (I1.hok.fresh (Nat.le_succ _)) (I1.hok.fresh (Nat.le_refl _)) (Nat.ne_of_lt (Nat.lt_succ_self _))
  have I2 := Inv.made (C := C) I1
  have r2 : Vals (V.ref (s1.heap.objs.size + 1) :: vs) (Value.ref (s1.heap.objs.size + 1) :: us) := .cons rfl r
  have hl : (Value.ref (s1.heap.objs.size + 1) :: us).length = ps.length := by rw [← r2.length]; exact F.len _ _ _ _ hq
  have hb2 := hb _ (Value.ref (s1.heap.objs.size + 1) :: us) I2.kIn (by simpa using hl)
  rw [List.append_nil] at hb2
  refine wpAny_call (make_map (f := f) I1.kIn M.makes M.init (beq_iff_eq.mp M.fn) (codeAny_mono (F.run _ X.stack _ _ ⟨Value.ref (s1.heap.objs.size + 1) :: us, []⟩ (Value.ref (s1.heap.objs.size + 1) :: us) _ _ (E σ) (hr.make C us []) (I2.env0.make C us []) hb2 r2 hq) fun z s' hq' => ?_))
  cases z with
  | error e => exact hx σ pins _ _ e s' I2 hq'
  | ok fl =>
    cases fl with
    | ret u =>
      obtain ⟨v, H', I3, rv, ev, q3⟩ := I2.after hq'
      subst ev
      exact ⟨rv, ⟨V.ref (s1.heap.objs.size + 1), H', I3, rfl, q3⟩⟩
    | next => exact False.elim hq'
    | brk => exact False.elim hq'
    | cont => exact False.elim hq'⟩
theorem pe_makeNX (M : Mk X.K C f) (F : FnOk X.prog X.w X.K X.mg X.base CX k f fd ps sp) (hr : Room (k + 1) X.A) (hg : Gl X x) (hm : X.mg x = some (.ref C)) (hb : KBn X.K fd ps 1 ks g gV) (hx : ∀ σ, PassesAt CX X σ (E σ)) (hkw : PK X kws tk)
    (hall : (backToKw pos (keywordEach kws X.env)).all (·.1.isSome) = true := by rfl) (hks : (backToKw pos (keywordEach kws X.env)).filterMap (·.1) = ks := by rfl) (hdb : (x == ("__debug__" : Str)) = false := by decide)
    (hpl : ((backTo pos (starEach [] X.env)).any (·.1) || (backToKw pos (keywordEach kws X.env)).any (·.1.isNone)) = false := by rfl) :
    PE X (.Call (.Name x p) [] kws pos) (tMakeNX C ks.length sp gV E tk) := ⟨fun pins s σ H Q I h => by
  refine wpAny_Call_Name_kw (ld_glob I hg hm ?_ hdb)
  refine PySem.W.callWith_KW0 (h₀ := X.base) I.ok.mod.kin M.kp hall ?_ hpl
  refine thn (hkw.run pos pins s σ H _ I h) fun ws s1 hh => ?_
  obtain ⟨zs, H1, I1, rz, l2, q⟩ := hh
  refine ⟨I1.kIn, ?_⟩
  rw [hks]
  have hq := q (s1.heap.objs.size + 1) s1.heap.objs.size (I1.hok.fresh (Nat.le_succ _)) (I1.hok.fresh (Nat.le_refl _)) (Nat.ne_of_lt (Nat.lt_succ_self _))
  have I2 := Inv.made (C := C) I1
  have r1 : Vals [V.ref (s1.heap.objs.size + 1)] [Value.ref (s1.heap.objs.size + 1)] := .cons rfl .nil
  have r2 := hb.rel r1 rz
  refine wpAny_call (make_map (f := f) I1.kIn M.makes M.init (beq_iff_eq.mp M.fn) (codeAny_mono (F.run _ X.stack _ _ ⟨[Value.ref (s1.heap.objs.size + 1)], ks.zip ws⟩ (g [Value.ref (s1.heap.objs.size + 1)] ws) _ _ (E σ) (hr.make C [] (ks.zip ws))
    (I2.env0.make C [] (ks.zip ws)) (hb.to _ [Value.ref (s1.heap.objs.size + 1)] ws I2.kIn rfl (rz.length.symm.trans l2)) r2 hq) fun z s' hq' => ?_))
  cases z with
  | error e => exact hx σ pins _ _ e s' I2 hq'
  | ok fl =>
    cases fl with
    | ret u =>
      obtain ⟨v, H', I3, rv, ev, q3⟩ := I2.after hq'
      subst ev
      exact ⟨rv, ⟨V.ref (s1.heap.objs.size + 1), H', I3, rfl, q3⟩⟩
    | next => exact False.elim hq'
    | brk => exact False.elim hq'
    | cont => exact False.elim hq'⟩
end
end KW
/-! A set of tuples whose parts are plain (whole numbers, texts), made of a list and sorted: over any kind of plain parts. -/
namespace SD
open PySem PySem.Spec PyProof.Rows L2
section
variable {P : Program} {w : World} {κ : Type} [DecidableEq κ] {kn : KeyKind P w κ} {A : Around} {E : Value → Shared → Prop} {s : Shared}
/-- parts are no objects -/
def Plain (kn : KeyKind P w κ) : Prop := ∀ k v, kn.is k v = true → v.scannable = true
abbrev TupAt (kn : KeyKind P w κ) (h : Heap) (p : Addr × List κ) : Prop := IsTupleKey kn h p.2 p.1
abbrev hsh (kn : KeyKind P w κ) (k : List κ) : Int := tupleKeyHash kn k
theorem parts (pl : Plain kn) : ∀ {k : List κ} {vs : List Value}, ItemsAre kn k vs → ∀ v ∈ vs, v.scannable = true
  | _, _, .nil, v, h => by cases h
  | _, _, .cons a t, v, h => by
    rcases List.mem_cons.mp h with e | h
    · rw [e]; exact pl _ _ a
    · exact parts pl t v h
theorem no_class1 (n : Nat) {v : Value} (h : v.scannable = true) : ofAClassStatement n v = pure false := by
  cases n <;> cases v <;> simp_all [Value.scannable, ofAClassStatement]
theorem no_class (pl : Plain kn) {b : Addr} {k : List κ} {Q : Bool → Shared → Prop} (hk : TupAt kn s.heap (b, k)) (q : Q false s) : wpAny (model P w) A (ofAClassStatement 8 (.ref b)) Q E s := by
  have ty := IsTupleKey.typeIs hk
  obtain ⟨o, items, n, ho, _, hd, hi⟩ := hk
  have hp := parts pl hi
  unfold ofAClassStatement
  refine wpAny_bind (wpAny_typeOf ty ?_)
  dsimp only
  simp only [show (("tuple" : String) == "tuple") = true by decide, if_true, Bool.not_true, Bool.false_eq_true, if_false]
  try refine wpAny_bind (wpAny_pure ?_)
  try simp only [Bool.not_true, Bool.false_eq_true, if_false]
  refine wpAny_bind (wpAny_seqItems ho hd ?_)
  dsimp only
  refine wpAny_bind ?_
  rw [← Array.forIn_toList]
  refine wpAny_forIn_list _ (fun rest r s2 => (r.1 = none ∧ s2 = s) ∧ ∀ v ∈ rest, v.scannable = true) _ (fun v rest r s2 hh => ?_) (fun r s2 hh => ?_) _ _ ⟨⟨rfl, rfl⟩, hp⟩
  · obtain ⟨⟨h1, rfl⟩, h2⟩ := hh
    rw [no_class1 _ (h2 v List.mem_cons_self)]
    refine wpAny_bind (wpAny_pure ?_)
    simp only [Bool.false_eq_true, if_false]
    exact wpAny_pure ⟨⟨rfl, rfl⟩, fun u hu => h2 u (List.mem_cons_of_mem _ hu)⟩
  · obtain ⟨⟨h1, rfl⟩, _⟩ := hh
    obtain ⟨r1, r2⟩ := r
    have h1' : r1 = none := h1
    subst h1'
    exact wpAny_pure q
theorem by_value (pl : Plain kn) {b : Addr} {k : List κ} {Q : Bool → Shared → Prop} (hk : TupAt kn s.heap (b, k)) (q : ∀ r, Q r s) : wpAny (model P w) A (hashByValue 8 (.ref b)) Q E s := by
  have ty := IsTupleKey.typeIs hk
  obtain ⟨o, items, n, ho, _, hd, hi⟩ := hk
  have hp := parts pl hi
  unfold hashByValue
  refine wpAny_bind (wpAny_specialOf ty F.slot_tuple_hash.lookup ?_)
  show wpAny _ _ (seqItems? (.ref b) >>= _) _ _ s
  refine wpAny_bind (wpAny_seqItems ho hd ?_)
  refine wpAny_bind ?_
  show wpAny _ _ (forIn items _ _) _ _ s
  rw [← Array.forIn_toList]
  refine wpAny_forIn_list _ (fun rest r s2 => s2 = s ∧ ∀ v ∈ rest, v.scannable = true) _ (fun v rest r s2 hh => ?_) (fun r s2 hh => ?_) _ _ ⟨rfl, hp⟩
  · obtain ⟨rfl, h2⟩ := hh
    rw [hashByValue_scannable _ (h2 v List.mem_cons_self)]
    refine wpAny_bind (wpAny_pure ?_)
    cases plainKind v
    · simp only [Bool.not_false, if_true]
      exact wpAny_pure (show wpAny _ _ (pure false) _ _ _ from wpAny_pure (q false))
    · simp only [Bool.not_true, Bool.false_eq_true, if_false]
      exact wpAny_pure ⟨rfl, fun u hu => h2 u (List.mem_cons_of_mem _ hu)⟩
  · obtain ⟨rfl, _⟩ := hh
    obtain ⟨r1, r2⟩ := r
    cases r1 with
    | none => exact wpAny_pure (q true)
    | some r => exact wpAny_pure (q r)
end
section
variable {P : Program} {w : World} {κ : Type} [DecidableEq κ] {kn : KeyKind P w κ} {A : Around} {E : Value → Shared → Prop} {s : Shared}
/-- looking for a tuple among tuples shows nothing -/
theorem unseen (pl : Plain kn) {b : Addr} {k : List κ} {Q : Bool → Shared → Prop} (hk : TupAt kn s.heap (b, k)) {ys : List Value} (hy : ∀ y ∈ ys, ∃ p : Addr × List κ, y = Value.ref p.1 ∧ TupAt kn s.heap p) (q : Q false s) :
    wpAny (model P w) A (searchCouldBeSeen (.ref b) ys) Q E s := by
  unfold searchCouldBeSeen
  refine wpAny_bind ?_
  refine wpAny_forIn_list _ (fun rest r s2 => (r.1 = none ∧ s2 = s) ∧ ∀ y ∈ rest, ∃ p : Addr × List κ, y = Value.ref p.1 ∧ TupAt kn s.heap p) _ (fun v rest r s2 hh => ?_) (fun r s2 hh => ?_) _ _ ⟨⟨rfl, rfl⟩, hy⟩
  · obtain ⟨⟨h1, rfl⟩, h2⟩ := hh
    obtain ⟨p, rfl, hp⟩ := h2 v List.mem_cons_self
    have more : ∀ y ∈ rest, ∃ p : Addr × List κ, y = Value.ref p.1 ∧ TupAt kn s2.heap p := fun u hu => h2 u (List.mem_cons_of_mem _ hu)
    dsimp only
    cases c : (b == p.1 || (carriedByValue (.ref b) && carriedByValue (.ref p.1))) with
    | true =>
      refine wp_if_pos rfl ?_
      exact wpAny_pure ⟨⟨rfl, rfl⟩, more⟩
    | false =>
      refine wp_if_neg Bool.false_ne_true ?_
      refine wpAny_bind (wpAny_eqIsQuiet_tuple hk ?_)
      simp only [Bool.not_true, Bool.false_eq_true, if_false]
      refine wpAny_bind (wpAny_eqIsQuiet_tuple hp ?_)
      simp only [Bool.not_true, Bool.false_eq_true, if_false]
      refine wpAny_bind (no_class pl hk ?_)
      simp only [Bool.false_eq_true, if_false]
      refine wpAny_bind (no_class pl hp ?_)
      simp only [Bool.false_eq_true, if_false]
      exact wpAny_pure ⟨⟨rfl, rfl⟩, more⟩
  · obtain ⟨⟨h1, rfl⟩, _⟩ := hh
    obtain ⟨r1, r2⟩ := r
    have h1' : r1 = none := h1
    subst h1'
    exact wpAny_pure q
/-- an entry's row -/
def row (kn : KeyKind P w κ) (p : Addr × List κ) : Int × Value := (hsh kn p.2, .ref p.1)
/-- the set at a has the tuples L -/
structure Tb (kn : KeyKind P w κ) (h : Heap) (a : Addr) (L : List (Addr × List κ)) (es : Array (Int × Value)) (ep : Nat) (t : SetTable) : Prop where
  obj : ∃ o, h.get? a = some o ∧ o.ExactSet ∧ o.data = .set es ep t
  rows : es.toList = L.map (row kn)
  tab : TabOk t (L.map fun p => hsh kn p.2)
  one : (L.map Prod.snd).Nodup
  led : w.params.followText "set-order" = true ∨ t.led = true
  room : L.length * 5 < t.mask * 3
  few : L.length < 64
def All (kn : KeyKind P w κ) (h : Heap) (L : List (Addr × List κ)) : Prop := ∀ p ∈ L, TupAt kn h p
variable {a : Addr} {L : List (Addr × List κ)} {es : Array (Int × Value)} {ep : Nat} {t : SetTable}
theorem rows_len {L : List (Addr × List κ)} {es : Array (Int × Value)} (h : es.toList = L.map (row kn)) : es.size = L.length := by
  have e := congrArg List.length h
  rwa [Array.length_toList, List.length_map] at e
theorem tab_len {t : SetTable} {L : List (Addr × List κ)} (T : TabOk t (L.map fun p => hsh kn p.2)) : t.place.size = L.length := by
  have e := T.sz
  rwa [List.length_map] at e
theorem fits_of {t : SetTable} {n : Nat} (h1 : t.place.size = n) (h2 : t.dummies = #[]) (h3 : n ≤ t.mask) : t.fits n = true := by
  unfold SetTable.fits SetTable.fill
  rw [h2, h1, Bool.and_eq_true, beq_iff_eq, decide_eq_true_eq]
  exact ⟨rfl, h3⟩
theorem Tb.fit (R : Tb kn s.heap a L es ep t) : t.fits es.size = true := by
  rw [rows_len R.rows]
  have h := R.room
  exact fits_of (tab_len R.tab) R.tab.dm (by omega)
theorem row_at {L : List (Addr × List κ)} {es : Array (Int × Value)} (h : es.toList = L.map (row kn)) {i : Nat} {p : Addr × List κ} (hp : L[i]? = some p) : es[i]? = some (hsh kn p.2, Value.ref p.1) := by
  rw [← Array.getElem?_toList, h, List.getElem?_map, hp]; rfl
theorem undumb (m : Nat) : ∀ (n : Nat) (p : SetTable.Probe), p.dummy = none → (nth m p n).dummy = none
  | 0, _, h => h
  | n + 1, p, h => undumb m n (adv m p) (by unfold adv; split <;> exact h)
abbrev from0 (m : Nat) (h : Int) : SetTable.Probe := runAt m (SetTable.bits h % (m + 1)) (SetTable.bits h)
/-- the search for x, from step c of its way on -/
theorem seek (pl : Plain kn) (R : Tb kn s.heap a L es ep t) (R2 : All kn s.heap L) {x : Addr} {k : List κ} (hx : TupAt kn s.heap (x, k)) (hu : A.units < cLine) {n : Nat} (hn : n < 10 * SetTable.turns t.mask)
    (free : way t.mask (hsh kn k) n ∉ t.place.toList) (full : ∀ c, c < n → way t.mask (hsh kn k) c ∈ t.place.toList) {Q : SetFound → Shared → Prop} (yes : k ∈ L.map Prod.snd → Q (.there none) s)
    (no : k ∉ L.map Prod.snd → Q (.free (way t.mask (hsh kn k) n) false) s) :
    ∀ (f c : Nat) (stand : Option SetTable.Probe), stand.getD (t.probeStart (hsh kn k)) = nth t.mask (from0 t.mask (hsh kn k)) c → c ≤ n → n - c < f →
      (∀ (i : Nat) p, L[i]? = some p → p.2 = k → ∃ d, (c ≤ d ∧ d < n) ∧ t.place.toList[i]? = some (way t.mask (hsh kn k) d)) →
      wpAny (model P w) A (setSearchFrom a (.ref x) (hsh kn k) true f stand) Q E s := by
  intro f
  induction f with
  | zero => intro c stand _ _ z _; exact absurd z (Nat.not_lt_zero _)
  | succ f ih =>
    intro c stand hs hc hf left
    obtain ⟨o, ho, _, hd⟩ := R.obj
    have gw : ¬ t.gaveWay = true := by
      unfold SetTable.gaveWay
      rw [mask_odd R.tab.mok]; decide
    have shift : ∀ q, nth t.mask (nth t.mask (from0 t.mask (hsh kn k)) c) q = nth t.mask (from0 t.mask (hsh kn k)) (c + q) := fun q => (nth_add t.mask c _ q).symm
    have wj : ∀ q, (nth t.mask (nth t.mask (from0 t.mask (hsh kn k)) c) q).j = way t.mask (hsh kn k) (c + q) := fun q => congrArg SetTable.Probe.j (shift q)
    have hcn : c + (n - c) = n := by omega
    have at_ : ∀ (i : Nat) p, L[i]? = some p → ((es[i]?.map (·.1)).getD 0 : Int) = hsh kn p.2 := fun i p hp => by rw [row_at R.rows hp]; rfl
    rw [setSearchFrom_succ]
    refine wpAny_bind (wpAny_setState_of ho hd R.fit ?_)
    dsimp only
    refine wp_if_neg gw ?_
    try refine wpAny_bind (wpAny_pure ?_)
    rcases go_spec t R.tab.ris R.tab.dm (fun i => (es[i]?.map (·.1)).getD 0) (hsh kn k) (10 * SetTable.turns t.mask) (n - c) _ (undumb t.mask c _ rfl) (by omega) (fun q hq => by rw [wj]; exact full _ (by omega)) (by rw [wj, hcn]; exact free) with ⟨q, i, hq, hi, hh, nb, pr⟩ | ⟨nb, pr⟩
    · have pr2 : t.probe (fun i => (es[i]?.map (·.1)).getD 0) (hsh kn k) (stand.getD (t.probeStart (hsh kn k))) = some (.candidate (way t.mask (hsh kn k) (c + q)) i (nth t.mask (from0 t.mask (hsh kn k)) (c + (q + 1)))) := by
        rw [hs, ← wj, ← shift]; exact pr
      rw [pr2]
      dsimp only
      rw [wj] at hi
      have hil : i < L.length := by
        have h1 := (List.getElem?_eq_some_iff.mp hi).1
        rw [Array.length_toList, tab_len R.tab] at h1
        exact h1
      obtain ⟨p, hp⟩ : ∃ p, L[i]? = some p := ⟨_, List.getElem?_eq_getElem hil⟩
      have hpL := List.mem_of_getElem? hp
      have live : t.slot (way t.mask (hsh kn k) (c + q)) = .live i := slot_live R.tab.ris hi
      have cand : wpAny (model P w) A (searchRest a (.ref x) (hsh kn k) true f es t (way t.mask (hsh kn k) (c + q)) i (nth t.mask (from0 t.mask (hsh kn k)) (c + (q + 1)))) Q E s := by
        unfold searchRest
        rw [row_at R.rows hp]
        dsimp only
        refine wpAny_bind (wpAny_holding (wpAny_eqBool_tuple hu (R2 p hpL) hx ?_))
        refine wpAny_bind (wpAny_setState_of ho hd R.fit ?_)
        dsimp only
        by_cases same : p.2 = k
        · refine wp_if_pos (by simp [same]) (wpAny_pure (yes ?_))
          exact List.mem_map.mpr ⟨p, hpL, same⟩
        · refine wp_if_neg (by simp [same]) ?_
          try refine wpAny_bind (wpAny_pure ?_)
          rw [L2.sameMem]
          dsimp only
          simp only [if_true, live, row_at R.rows hp]
          refine wpAny_bind (wpAny_isSame_ref_self (wpAny_bind (wpAny_pure ?_)))
          simp only [if_true]
          refine wp_if_neg (by simp [same]) ?_
          refine ih (c + (q + 1)) _ rfl (by omega) (by omega) fun i2 p2 h2 hk2 => ?_
          obtain ⟨d, ⟨d1, d2⟩, d3⟩ := left i2 p2 h2 hk2
          refine ⟨d, ⟨?_, d2⟩, d3⟩
          rcases Nat.lt_trichotomy d (c + q) with z | z | z
          · refine absurd ((at_ i2 p2 h2).trans (congrArg (hsh kn) hk2)) (nb (d - c) i2 (by omega) ?_)
            rw [wj, show c + (d - c) = d by omega]; exact d3
          · rw [z] at d3
            have e := (slot_live R.tab.ris d3).symm.trans live
            injection e with e
            rw [e, hp] at h2
            exact absurd ((congrArg Prod.snd (Option.some.inj h2)).trans hk2) same
          · omega
      cases hl : t.led with
      | true =>
        refine wp_if_neg (by simp) ?_
        try refine wpAny_bind (wpAny_pure ?_)
        exact cand
      | false =>
        refine wp_if_pos (by simp) ?_
        refine wpAny_bind (unseen pl hx (fun y hy => ?_) ?_)
        · obtain ⟨e, he, rfl⟩ := List.mem_map.mp hy
          have he2 : e ∈ es.toList := by
            have h3 : e ∈ es ∧ e.1 = hsh kn k := by simpa using he
            simpa using h3.1
          rw [R.rows] at he2
          obtain ⟨p2, hp2, rfl⟩ := List.mem_map.mp he2
          exact ⟨p2, rfl, R2 p2 hp2⟩
        · refine wp_if_neg (by decide) ?_
          try refine wpAny_bind (wpAny_pure ?_)
          exact cand
    · have pr2 : t.probe (fun i => (es[i]?.map (·.1)).getD 0) (hsh kn k) (stand.getD (t.probeStart (hsh kn k))) = some (.empty (way t.mask (hsh kn k) n) none) := by
        have e : way t.mask (hsh kn k) n = (nth t.mask (nth t.mask (from0 t.mask (hsh kn k)) c) (n - c)).j := by rw [wj, hcn]
        rw [hs, e]; exact pr
      rw [pr2]
      dsimp only
      refine wpAny_pure (no fun hm => ?_)
      obtain ⟨p2, h2, hk2⟩ := List.mem_map.mp hm
      obtain ⟨i2, hi2⟩ := List.mem_iff_getElem?.mp h2
      obtain ⟨d, ⟨d1, d2⟩, d3⟩ := left i2 p2 hi2 hk2
      refine absurd ((at_ i2 p2 hi2).trans (congrArg (hsh kn) hk2)) (nb (d - c) i2 (by omega) ?_)
      rw [wj, show c + (d - c) = d by omega]; exact d3
theorem seek0 (pl : Plain kn) (R : Tb kn s.heap a L es ep t) (R2 : All kn s.heap L) {x : Addr} {k : List κ} (hx : TupAt kn s.heap (x, k)) (hu : A.units < cLine) {Q : SetFound → Shared → Prop} (yes : k ∈ L.map Prod.snd → Q (.there none) s)
    (no : ∀ n, k ∉ L.map Prod.snd → way t.mask (hsh kn k) n ∉ t.place.toList → (∀ c, c < n → way t.mask (hsh kn k) c ∈ t.place.toList) → Q (.free (way t.mask (hsh kn k) n) false) s) :
    wpAny (model P w) A (setSearch a (.ref x) (hsh kn k) true) Q E s := by
  have hr := R.room
  obtain ⟨n, hn, h1, h2⟩ := R.tab.first (by rw [List.length_map]; omega) (hsh kn k)
  have small : n < 100000 := by
    have : SetTable.turns t.mask ≤ 142 := by
      unfold SetTable.turns
      rcases R.tab.mok with e | e | e <;> omega
    omega
  unfold setSearch
  refine seek pl R R2 hx hu hn h1 h2 yes (fun c => no n c h1 h2) 100000 0 none rfl (Nat.zero_le _) (by omega) fun i p hp hk => ?_
  have hi : (L.map fun p => hsh kn p.2)[i]? = some (hsh kn k) := by rw [List.getElem?_map, hp, ← hk]; rfl
  have hil : i < t.place.toList.length := by
    rw [Array.length_toList, tab_len R.tab]
    exact (List.getElem?_eq_some_iff.mp hp).1
  have hj := List.getElem?_eq_getElem hil
  obtain ⟨d, hd, e⟩ := R.tab.before h1 hi hj
  exact ⟨d, ⟨Nat.zero_le _, hd⟩, by rw [hj, e]⟩
end
section
variable {P : Program} {w : World} {κ : Type} [DecidableEq κ] {kn : KeyKind P w κ} {A : Around} {E : Value → Shared → Prop} {s : Shared}
theorem tup_but {h h' : Heap} {p : Addr × List κ} {a : Addr} {o : Obj} {es : Array (Int × Value)} {ep : Nat} {t : SetTable} (hp : TupAt kn h p) (ho : h.get? a = some o) (hd : o.data = .set es ep t) (hs : Heap.SameBut a h h') : TupAt kn h' p := by
  obtain ⟨o2, its, n, ho2, hc, hd2, hi⟩ := hp
  have ne : p.1 ≠ a := fun e => by
    rw [e, ho] at ho2
    rw [← Option.some.inj ho2, hd] at hd2
    exact nomatch hd2
  exact ⟨o2, its, n, (hs.2 p.1 ne).trans ho2, hc, hd2, hi⟩
theorem tup_keep {h h' : Heap} {p : Addr × List κ} (hp : TupAt kn h p) (hk : ∀ c o, h.get? c = some o → h'.get? c = some o) : TupAt kn h' p := by
  obtain ⟨o2, its, n, ho2, r⟩ := hp
  exact ⟨o2, its, n, hk _ _ ho2, r⟩
theorem mid_perm {α : Type} (L : List α) (p : Nat) (x : α) : (L.take p ++ x :: L.drop p).Perm (x :: L) := by
  have h := List.perm_middle (a := x) (l₁ := L.take p) (l₂ := L.drop p)
  rwa [List.take_append_drop] at h
theorem map_mid {α β : Type} (f : α → β) (L : List α) (p : Nat) (x : α) : (L.take p ++ x :: L.drop p).map f = (L.map f).take p ++ f x :: (L.map f).drop p := by
  rw [List.map_append, List.map_cons, List.map_take, List.map_drop]
/-- the rows in another order -/
theorem reorder {L : List (Addr × List κ)} {es : Array (Int × Value)} {order : Array Nat} (hr : es.toList = L.map (row kn)) (hp : order.toList.Perm (List.range L.length)) :
    ∃ M : List (Addr × List κ), (order.filterMap (es[·]?)).toList = M.map (row kn) ∧ M.Perm L ∧ (M.map fun p => hsh kn p.2) = order.toList.map fun i => (es.map (·.1)).getD i 0 := by
  have each : ∀ l : List Nat, (∀ i ∈ l, i < L.length) → l.filterMap (fun i => es[i]?) = (l.filterMap fun i => L[i]?).map (row kn) ∧ ((l.filterMap fun i => L[i]?).map fun p => hsh kn p.2) = l.map fun i => (es.map (·.1)).getD i 0 := by
    intro l
    induction l with
    | nil => intro _; exact ⟨rfl, rfl⟩
    | cons i l ih =>
      intro hl
      obtain ⟨e1, e2⟩ := ih fun j hj => hl j (List.mem_cons_of_mem _ hj)
      have hi := hl i List.mem_cons_self
      obtain ⟨p, hp⟩ : ∃ p, L[i]? = some p := ⟨_, List.getElem?_eq_getElem hi⟩
      have hrow := row_at hr hp
      rw [List.filterMap_cons_some hrow, List.filterMap_cons_some hp, List.map_cons, List.map_cons, List.map_cons, e1, e2]
      refine ⟨rfl, ?_⟩
      have e3 : (es.map (·.1))[i]? = some (hsh kn p.2) := by rw [Array.getElem?_map, hrow]; rfl
      have e4 : (es.map (·.1)).getD i 0 = hsh kn p.2 := by simp [Array.getD_eq_getD_getElem?, e3]
      rw [e4]
  obtain ⟨e1, e2⟩ := each order.toList fun i hi => List.mem_range.mp (hp.mem_iff.mp hi)
  refine ⟨_, by first | (rw [Array.toList_filterMap]; exact e1) | simpa using e1, ?_, e2⟩
  have all : (List.range L.length).filterMap (fun i => L[i]?) = L := by
    have z : ∀ n, n ≤ L.length → (List.range n).filterMap (fun i => L[i]?) = L.take n := by
      intro n
      induction n with
      | zero => intro _; rfl
      | succ n ih =>
        intro hn
        rw [List.range_succ, List.filterMap_append, ih (Nat.le_of_lt hn), List.take_succ, List.getElem?_eq_getElem hn, List.filterMap_cons_some (List.getElem?_eq_getElem hn)]; rfl
    rw [z _ (Nat.le_refl _), List.take_length]
  have h := hp.filterMap fun i => L[i]?
  rwa [all] at h
variable {a : Addr} {L : List (Addr × List κ)} {es : Array (Int × Value)} {ep : Nat} {t : SetTable}
/-- a larger table -/
theorem larger {o : Obj} (ho : s.heap.get? a = some o) (hx : o.ExactSet) (hd : o.data = .set es ep t) (rows : es.toList = L.map (row kn)) (sz : t.place.size = es.size) (dm : t.dummies = #[]) (fl : es.size ≤ t.mask)
    (one : (L.map Prod.snd).Nodup) (led : w.params.followText "set-order" = true ∨ t.led = true) (few : L.length < 64) {wanted M : Nat}
    (hw : SetTable.sizeAbove wanted - 1 = M) (hM : MaskOk M) (hw2 : SetTable.sizeAbove wanted ≤ 128) (room : L.length * 5 < M * 3) {Q : Unit → Shared → Prop}
    (q : ∀ h' L' es' ep' t', Heap.SameBut a s.heap h' → Tb kn h' a L' es' ep' t' → L'.Perm L → Q () { s with heap := h' }) : wpAny (model P w) A (setRelay a wanted) Q E s := by
  have hn := rows_len rows
  obtain ⟨t2, order, e, hp, T, em, el, _, _⟩ := relaid_ok t (hs := es.map (·.1)) (wanted := wanted) hw hM (by rw [Array.size_map, hn]; omega)
  rw [Array.size_map, hn] at hp
  obtain ⟨N, r1, r2, r3⟩ := reorder rows hp
  rw [← r3] at T
  have hz : (order.filterMap (es[·]?)).size = es.size := by rw [rows_len r1, r2.length_eq, hn]
  rw [setRelay_eq]
  refine wpAny_bind (wpAny_setState_of ho hd (fits_of sz dm fl) ?_)
  dsimp only
  refine wp_if_neg (by rw [sizeLine_eq]; omega) ?_
  try refine wpAny_bind (wpAny_pure ?_)
  rw [e]
  dsimp only
  refine wpAny_bind ?_
  refine wp_if_neg (by rw [hz]; simp) ?_
  try refine wpAny_bind (wpAny_pure ?_)
  refine wpAny_pure ?_
  dsimp only
  refine wpAny_storeSet_of ho hd ?_ (by rw [hz, hn, sizeLine_eq]; omega)
  have but : Heap.SameBut a s.heap (s.heap.update a (Obj.putSet (order.filterMap (es[·]?)) t2)) := Heap.SameBut.update ..
  refine q _ N _ (ep + 1) t2 but ⟨⟨_, store_at ho hd, ⟨hx.1, hx.2.1, hx.2.2⟩, rfl⟩, r1, T, (r2.map Prod.snd).nodup_iff.mpr one, by rw [el]; exact led, by rw [r2.length_eq, em]; exact room, by rw [r2.length_eq]; exact few⟩ r2
theorem plain_off {t : SetTable} {hs : List Int} (T : TabOk t hs) : TabOk { t with plain := false } hs := ⟨T.ris, T.dm, T.sz, T.mok, T.bd, T.reach⟩
/-- one tuple put in -/
theorem adding (pl : Plain kn) (R : Tb kn s.heap a L es ep t) (R2 : All kn s.heap L) {x : Addr} {k : List κ} (hx : TupAt kn s.heap (x, k)) (hu : A.units < cLine) (few : L.length + 1 < 64) {Q : Bool → Shared → Prop}
    (q : ∀ b h' L' es' ep' t', Heap.SameBut a s.heap h' → Tb kn h' a L' es' ep' t' → (L' = L ∧ k ∈ L.map Prod.snd ∨ L'.Perm ((x, k) :: L)) → Q b { s with heap := h' }) :
    wpAny (model P w) A (setAddHashed a (.ref x) (hsh kn k)) Q E s := by
  obtain ⟨o, ho, hex, hd⟩ := R.obj
  have hn := rows_len R.rows
  have hroom := R.room
  unfold setAddHashed
  refine wpAny_holding ?_
  rw [show (100000 : Nat) = 99999 + 1 from rfl, setAddHashedIn_succ]
  refine wpAny_bind (wpAny_setState_of ho hd R.fit ?_)
  dsimp only
  refine wp_if_neg (by simp [byScan, Value.scannable]) ?_
  try refine wpAny_bind (wpAny_pure ?_)
  refine wpAny_bind (seek0 pl R R2 hx hu (fun hm => ?_) fun n hm free full => ?_)
  · dsimp only
    exact wpAny_pure (q false s.heap L es ep t (Heap.SameBut.refl a s.heap) R (.inl ⟨rfl, hm⟩))
  dsimp only
  refine wpAny_bind (wpAny_setState_of ho hd R.fit ?_)
  dsimp only
  obtain ⟨q1, q2, q3, q4, q5, _, _, _, q9⟩ := R.tab.put free full
  generalize t.put (way t.mask (hsh kn k) n) = pt at q1 q3 q4 q5 q9 ⊢
  obtain ⟨t0, p0⟩ := pt
  dsimp only at q1 q3 q4 q5 q9 ⊢
  subst q1
  generalize SetTable.below t.place (way t.mask (hsh kn k) n) = p at q2 q3 ⊢
  -- whatever the table is called now
  have fin : ∀ t1 : SetTable, TabOk t1 ((L.map fun p => hsh kn p.2).take p ++ hsh kn k :: (L.map fun p => hsh kn p.2).drop p) → t1.mask = t.mask → t1.led = t.led → t1.fill = (L.map fun p => hsh kn p.2).length + 1 →
      wpAny (model P w) A (do
        storeSet a (SetTable.insertAt es p (hsh kn k, .ref x)) t1
        if !false && t1.tooFull then setRelay a (SetTable.grown (es.size + 1))
        return true) Q E s := by
    intro t1 T1 em el ef
    have hins : (SetTable.insertAt es p (hsh kn k, Value.ref x)).toList = (L.take p ++ (x, k) :: L.drop p).map (row kn) := by
      rw [SetTable.toList_insertAt, map_mid, R.rows]; rfl
    have pm := mid_perm L p (x, k)
    have hlen : (L.take p ++ (x, k) :: L.drop p).length = L.length + 1 := pm.length_eq
    have T2 : TabOk t1 ((L.take p ++ (x, k) :: L.drop p).map fun p => hsh kn p.2) := by rw [map_mid]; exact T1
    have one1 : ((L.take p ++ (x, k) :: L.drop p).map Prod.snd).Nodup := by
      refine (pm.map Prod.snd).nodup_iff.mpr ?_
      rw [List.map_cons]
      exact List.nodup_cons.mpr ⟨hm, R.one⟩
    have hsz := rows_len hins
    rw [hlen] at hsz
    generalize SetTable.insertAt es p (hsh kn k, Value.ref x) = es1 at hins hsz ⊢
    generalize L.take p ++ (x, k) :: L.drop p = L1 at pm hlen T2 one1 hins
    refine wpAny_bind (wpAny_storeSet_of ho hd ?_ (by rw [hsz, sizeLine_eq]; omega))
    have but : Heap.SameBut a s.heap (s.heap.update a (Obj.putSet es1 t1)) := Heap.SameBut.update ..
    have ho1 := store_at (es' := es1) (t' := t1) ho hd
    generalize s.heap.update a (Obj.putSet es1 t1) = h1 at but ho1 ⊢
    have led1 : w.params.followText "set-order" = true ∨ t1.led = true := by rw [el]; exact R.led
    cases full1 : t1.tooFull with
    | true =>
      have hb : (L.length + 1) * 5 ≥ t.mask * 3 := by
        have h := full1
        unfold SetTable.tooFull at h
        rw [decide_eq_true_eq, ef, em, List.length_map] at h
        exact h
      have two : (t.mask = 7 ∧ L.length = 4) ∨ (t.mask = 31 ∧ L.length = 18) := by
        rcases R.tab.mok with e | e | e <;> rw [e] at hb hroom
        · exact .inl ⟨e, by omega⟩
        · exact .inr ⟨e, by omega⟩
        · exfalso; omega
      have go : ∀ M, SetTable.sizeAbove (SetTable.grown (es.size + 1)) - 1 = M → MaskOk M → SetTable.sizeAbove (SetTable.grown (es.size + 1)) ≤ 128 → (L.length + 1) * 5 < M * 3 →
          wpAny (model P w) A (setRelay a (SetTable.grown (es.size + 1))) (fun _ s' => wpAny (model P w) A (pure true) Q E s') E { s with heap := h1 } := fun M g1 g2 g3 g4 => by
        refine larger (s := { s with heap := h1 }) ho1 ⟨hex.1, hex.2.1, hex.2.2⟩ rfl hins (by rw [tab_len T2, hsz, hlen]) T2.dm (by rw [hsz, em]; omega) one1 led1 (by rw [hlen]; exact few) g1 g2 g3 (by rw [hlen]; exact g4) ?_
        intro h2 L2 es2 ep2 t2 but2 R3 pm2
        exact wpAny_pure (q true h2 L2 es2 ep2 t2 (but.trans but2) R3 (.inr (pm2.trans pm)))
      first
        | (refine wpAny_bind ?_; refine wp_if_pos (by simp) ?_)
        | (refine wp_if_pos (by simp) ?_; refine wpAny_bind ?_)
      rcases two with ⟨_, e2⟩ | ⟨_, e2⟩
      · exact go 31 (by rw [hn, e2, size_20]) (.inr (.inl rfl)) (by rw [hn, e2, size_20]; decide) (by omega)
      · exact go 127 (by rw [hn, e2, size_76]) (.inr (.inr rfl)) (by rw [hn, e2, size_76]; decide) (by omega)
    | false =>
      first
        | refine wp_if_neg (by simp) ?_
        | (refine wpAny_bind ?_; refine wp_if_neg (by simp) ?_; refine wpAny_pure ?_)
      refine wpAny_pure (q true h1 L1 es1 (ep + 1) t1 but ⟨⟨_, ho1, ⟨hex.1, hex.2.1, hex.2.2⟩, rfl⟩, hins, T2, one1, led1, ?_, by rw [hlen]; exact few⟩ (.inr pm))
      have h := full1
      unfold SetTable.tooFull at h
      rw [decide_eq_false_iff_not, ef, em, List.length_map] at h
      rw [hlen, em]
      omega
  by_cases hpl : t0.plain = true
  · first
      | (refine wpAny_bind ?_; refine wp_if_pos hpl ?_; refine by_value pl hx fun r => ?_)
      | (refine wp_if_pos hpl ?_; refine wpAny_bind (by_value pl hx fun r => ?_))
    cases r with
    | true => simp only [if_true]; exact fin t0 q3 q4 q5 q9
    | false => simp only [Bool.false_eq_true, if_false]; exact fin _ (plain_off q3) q4 q5 q9
  · first
      | (refine wpAny_bind ?_; refine wp_if_neg hpl ?_; refine wpAny_pure ?_)
      | (refine wp_if_neg hpl ?_; refine wpAny_bind (wpAny_pure ?_))
    simp only [if_true]; exact fin t0 q3 q4 q5 q9
end
section
variable {P : Program} {w : World} {κ : Type} [DecidableEq κ] {kn : KeyKind P w κ} {A : Around} {E : Value → Shared → Prop} {s : Shared}
/-- L has what the first i of ks are, each once -/
structure Has (ks : List (Addr × List κ)) (i : Nat) (L : List (Addr × List κ)) : Prop where
  from_ : ∀ p ∈ L, p ∈ ks
  all : ∀ p ∈ ks.take i, p.2 ∈ L.map Prod.snd
  len : L.length ≤ i
theorem has_next {ks L L' : List (Addr × List κ)} {i : Nat} {x : Addr × List κ} (g : Has ks i L) (h : ks[i]? = some x) (c : (L' = L ∧ x.2 ∈ L.map Prod.snd) ∨ L'.Perm (x :: L)) : Has ks (i + 1) L' := by
  have tk : ks.take (i + 1) = ks.take i ++ [x] := by rw [List.take_succ, h]; rfl
  rcases c with ⟨rfl, hm⟩ | pm
  · refine ⟨g.from_, fun p hp => ?_, Nat.le_succ_of_le g.len⟩
    rw [tk] at hp
    rcases List.mem_append.mp hp with z | z
    · exact g.all p z
    · rw [List.mem_singleton.mp z]; exact hm
  · refine ⟨fun p hp => ?_, fun p hp => ?_, by rw [pm.length_eq]; exact Nat.succ_le_succ g.len⟩
    · rcases List.mem_cons.mp (pm.mem_iff.mp hp) with e | z
      · rw [e]; exact List.mem_of_getElem? h
      · exact g.from_ p z
    · rw [(pm.map Prod.snd).mem_iff, List.map_cons, List.mem_cons]
      rw [tk] at hp
      rcases List.mem_append.mp hp with z | z
      · exact .inr (g.all p z)
      · exact .inl (congrArg Prod.snd (List.mem_singleton.mp z))
theorem tb_keep {h h' : Heap} {a : Addr} {L : List (Addr × List κ)} {es : Array (Int × Value)} {ep : Nat} {t : SetTable} (R : Tb kn h a L es ep t) (k : ∀ o, h.get? a = some o → h'.get? a = some o) : Tb kn h' a L es ep t := by
  obtain ⟨o, ho, r⟩ := R.obj
  exact ⟨⟨o, k o ho, r⟩, R.rows, R.tab, R.one, R.led, R.room, R.few⟩
theorem tb_new {h : Heap} {a : Addr} (ho : h.get? a = some (DP.newSet w)) : Tb kn h a [] #[] 0 (.fresh 0 0 (!w.params.followText "set-order")) where
  obj := ⟨_, ho, ⟨rfl, rfl, rfl⟩, rfl⟩
  rows := rfl
  tab := ⟨.nil, rfl, rfl, .inl rfl, fun x h => (by cases h), fun i h j e => (by simp at e)⟩
  one := .nil
  led := by
    cases e : w.params.followText "set-order" with
    | true => exact .inl rfl
    | false => exact .inr rfl
  room := (by decide : 0 * 5 < 7 * 3)
  few := (by decide : 0 < 64)
/-- the loop of set.update over a list of tuples -/
theorem filling (pl : Plain kn) {I : Addr} {fp wr : List Addr} {G : Array GenState → Array GenState → Prop} {n : Nat} {Pv : Nat → Value → Prop} {St : Nat → Shared → Prop} {R : Result → Shared → Prop}
    (W : WalksS P w A.in1 I fp wr G n Pv St) {S : Addr} (hSf : S ∉ fp) {ks : List (Addr × List κ)} (few : ks.length < 64) (val : ∀ i v, Pv i v → ∃ p, ks[i]? = some p ∧ v = .ref p.1)
    {h0 : Heap} (hk : All kn h0 ks) (hS0 : h0.get? S = none) (hw0 : ∀ b ∈ wr, h0.get? b = none) (hu : A.in1.units < cLine)
    (q : ∀ s1 s' L es ep t, Moved (S :: wr) G s1 s' → Tb kn s'.heap S L es ep t → Has ks n L → (∀ b o, h0.get? b = some o → s'.heap.get? b = some o) → s1 = s → R (.ok (.ret .none)) s') :
    ∀ (j i : Nat) (s2 : Shared), n - i = j → i ≤ n → St i s2 → (∀ b o, h0.get? b = some o → s2.heap.get? b = some o) → (∃ L es ep t, Tb kn s2.heap S L es ep t ∧ Has ks i L) → (i = 0 → s2 = s) → (i ≠ 0 → Moved (S :: wr) G s s2) →
      codeAny (model P w) A (.builtin "set.update.loop" ⟨[.ref S, .ref I], []⟩) R s2 := by
  have hSw : S ∉ wr := fun h => hSf (W.sub _ h)
  have inS : ∀ b ∈ wr, b ∈ S :: wr := fun b hb => List.mem_cons_of_mem _ hb
  have still : ∀ {x y : Shared}, Moved wr G x y → (∀ b o, h0.get? b = some o → x.heap.get? b = some o) → ∀ b o, h0.get? b = some o → y.heap.get? b = some o := fun m k b o e => m.heap b o (fun hb => by rw [hw0 b hb] at e; cases e) (k b o e)
  have join : ∀ {i : Nat} {x y : Shared}, (i = 0 → x = s) → (i ≠ 0 → Moved (S :: wr) G s x) → Moved (S :: wr) G x y → Moved (S :: wr) G s y := fun {i x y} e0 e1 m => by
    by_cases c : i = 0
    · rw [← e0 c]; exact m
    · exact Moved.trans W.gtrans (e1 c) m
  intro j
  induction j with
  | zero =>
    intro i s2 hj hi hst kp ⟨L, es, ep, t, T, g⟩ e0 e1
    have hin : i = n := by omega
    subst hin
    refine codeAny_builtin F.entry_set_update_loop ?_
    rw [Around.under_plainId F.plain_set_update_loop _]
    show wpAny _ A.in1 (pyNext (.ref I) >>= _) _ _ s2
    refine wpAny_bind (W.done s2 _ _ hst fun s3 m => ?_)
    exact wpAny_pure (q s s3 L es ep t (join e0 e1 (m.mono inS)) (tb_keep T fun o e => m.heap S o hSw e) g (still m kp) rfl)
  | succ j ih =>
    intro i s2 hj hi hst kp ⟨L, es, ep, t, T, g⟩ e0 e1
    have hlt : i < n := by omega
    refine codeAny_builtin F.entry_set_update_loop ?_
    rw [Around.under_plainId F.plain_set_update_loop _]
    show wpAny _ A.in1 (pyNext (.ref I) >>= _) _ _ s2
    refine wpAny_bind (W.item i s2 _ _ hlt hst fun v s3 hP hst3 m => ?_)
    obtain ⟨p, hp, rfl⟩ := val i v hP
    have kp3 := still m kp
    have T3 : Tb kn s3.heap S L es ep t := tb_keep T fun o e => m.heap S o hSw e
    have hx : TupAt kn s3.heap p := tup_keep (hk p (List.mem_of_getElem? hp)) kp3
    have hL : All kn s3.heap L := fun r hr => tup_keep (hk r (g.from_ r hr)) kp3
    show wpAny _ A.in1 (holding [Value.ref p.1] (setAdd S (.ref p.1)) >>= _) _ _ s3
    refine wpAny_bind (wpAny_holding ?_)
    unfold setAdd
    refine wpAny_holding (wpAny_bind (wpAny_pyHash_tuple hu hx ?_))
    have hlen := (List.getElem?_eq_some_iff.mp hp).1
    refine adding (s := { s3 with toks := s3.toks + (p.2.length + 1) }) pl T3 hL hx hu (by have := g.len; omega) fun b h4 L4 es4 ep4 t4 but T4 c => ?_
    have keepB : ∀ b o, b ≠ S → s3.heap.get? b = some o → h4.get? b = some o := fun b o hb e => (but.2 b hb).trans e
    refine wpAny_pure ⟨plainId_quiet F.plain_set_update_loop _, ih (i + 1) _ (by omega) hlt (W.frame _ s3 _ _ hst3 (Nat.le_add_right _ _) fun b hb o e => keepB b o (fun e2 => hSf (e2 ▸ hb)) e) (fun b o e => keepB b o (fun z => by rw [z, hS0] at e; cases e) (kp3 b o e)) ⟨L4, es4, ep4, t4, T4, has_next g hp c⟩ (fun z => absurd z (Nat.succ_ne_zero _)) fun _ => ?_⟩
    exact join e0 e1 ((m.mono inS).then_heap (Nat.le_add_right _ _) fun b o hb e => keepB b o (fun z => hb (z ▸ List.mem_cons_self)) e)
/-- set(xs) -/
theorem set_made (pl : Plain kn) {l : Addr} {its : Array Value} (ks : List (Addr × List κ)) {Q : Value → Shared → Prop} (hh : A.handled = none) (hl : s.heap.IsList l its) (hit : its.toList = ks.map fun p => Value.ref p.1)
    (hk : All kn s.heap ks) (few : ks.length < 64) (hu : A.units + 3 < cLine)
    (q : ∀ (h' : Heap) (tk : Nat) L es ep t, Tb kn h' s.heap.objs.size L es ep t → Has ks ks.length L → (∀ b o, s.heap.get? b = some o → h'.get? b = some o) → Q (.ref s.heap.objs.size) { s with heap := h', toks := tk }) :
    wpAny (model P w) A (call (.type "set") [.ref l]) Q E s := by
  have hz : its.size = ks.length := by
    have e := congrArg List.length hit
    rwa [Array.length_toList, List.length_map] at e
  have C := F.called_set
  obtain ⟨c, tl, hmro⟩ := C.mro
  have hmade := C.made; have hsub := C.sub
  refine wpAny_call (codeAny_of_tree ?_)
  show wpAny _ _ (callAny (.type "set") _) _ _ _
  refine wpAny_pure ⟨Code.quiet_builtin _ (by decide +kernel), codeAny_builtin F.entry_type_call ?_⟩
  rw [Around.under_plain (weight_type_call_type "set" [.ref l] []) rfl]
  have h1 := C.notType; have h2 := C.canCreate
  have hct := F.typeCall_set_1 (.ref l)
  repeat (any_goals (first | assumption | wp_step))
  refine codeAny_mono (code_set_led1 (.ref l) (E := E) (Q₁ := fun obj s₁ => obj = .ref s.heap.objs.size ∧ s₁ = { s with heap := s.heap.push (DP.newSet w) }) ⟨rfl, rfl⟩) fun r s₁ hr => ?_
  cases r with
  | error e => exact hr
  | ok fl =>
  cases fl with
  | ret obj =>
    obtain ⟨rfl, rfl⟩ := hr
    have hS : (s.heap.push (DP.newSet w)).get? s.heap.objs.size = some (DP.newSet w) := Heap.get?_push_size _ rfl
    have hT : Shared.TypeIs { s with heap := s.heap.push (DP.newSet w) } (.ref s.heap.objs.size) "set" := ⟨_, hS, rfl⟩
    have hli := C.init.lookup; have hbi := C.init.bind (.ref s.heap.objs.size)
    repeat (any_goals (first | assumption | wp_step))
    refine codeAny_mono (codeAny_call_builtin (R := wants (fun r s₂ => r = .none ∧ ∃ h' tk L es ep t, s₂ = { s with heap := h', toks := tk } ∧ Tb kn h' s.heap.objs.size L es ep t ∧ Has ks ks.length L ∧ ∀ b o, s.heap.get? b = some o → h'.get? b = some o) E) C.init.plain F.entry_set_init (check_set_init_1 hT ?_)) fun r₂ s₂ hr₂ => ?_
    · obtain ⟨⟨ocls, odict, odata, oslots⟩, hol, hcl, nl, hdl⟩ := hl
      simp only at hcl hdl
      subst hcl hdl
      have hol' : (s.heap.push (DP.newSet w)).get? l = some { cls := .type "list", dict := odict, data := .seq its nl, slots := oslots } := Heap.get?_push_of_some _ hol
      have hsls := F.sub_list_set; have hslf := F.sub_list_frozenset
      have hne : (Value.type "list" == Value.type "dict") = false := by decide
      have hl1 : (s.heap.push (DP.newSet w)).IsList l its := ⟨_, hol', rfl, nl, rfl⟩
      unfold Builtin.«set.__init__» noKeywords Builtin.Frozenset.updateFrom
      generalize hPI : pyIter = PI
      wp_walk
      subst hPI
      refine wpAny_pyIter_list hl1 (wpAny_bind (wpAny_runValue ?_))
      have hlS : l < s.heap.objs.size := Heap.lt_size hol
      have hh3 : A.in1.in1.in1.handled = none := by simp [hh]
      have sz : (s.heap.push (DP.newSet w)).objs.size = s.heap.objs.size + 1 := Heap.size_push ..
      have neI : l ≠ (s.heap.push (DP.newSet w)).objs.size := by rw [sz]; exact Nat.ne_of_lt (Nat.lt_succ_of_lt hlS)
      have hSf : s.heap.objs.size ∉ [(s.heap.push (DP.newSet w)).objs.size, l] := by
        rw [sz]; simp only [List.mem_cons, List.not_mem_nil, or_false, not_or]; exact ⟨Nat.ne_of_lt (Nat.lt_succ_self _), Nat.ne_of_gt hlS⟩
      have val : ∀ (i : Nat) (v : Value), its[i]? = some v → ∃ p, ks[i]? = some p ∧ v = .ref p.1 := fun i v hv => by
        have e : its.toList[i]? = some v := by rw [Array.getElem?_toList]; exact hv
        rw [hit, List.getElem?_map, Option.map_eq_some_iff] at e
        obtain ⟨p, e1, e2⟩ := e
        exact ⟨p, e1, e2.symm⟩
      have gone : ∀ b, s.heap.objs.size ≤ b → s.heap.get? b = none := fun b hb => by
        cases e : s.heap.get? b with
        | none => rfl
        | some o => exact absurd (Heap.lt_size e) (Nat.not_lt.mpr hb)
      refine filling pl ((Walks.list hh3 _ l neI its).toS) hSf few val hk (gone _ (Nat.le_refl _)) (fun b hb => gone b (by rw [List.mem_singleton.mp hb, sz]; exact Nat.le_succ _)) hu ?fin (its.size - 0) 0 _ (by omega) (Nat.zero_le _) ⟨⟨_, Heap.get?_push_size _ rfl, rfl, rfl⟩, (hl1.push _)⟩ (fun b o e => Heap.get?_push_of_some _ (Heap.get?_push_of_some _ e)) ⟨[], _, _, _, tb_new (Heap.get?_push_of_some _ hS), ⟨fun p h => (by cases h), fun p h => (by simp at h), Nat.le_refl _⟩⟩ (fun _ => rfl) fun z => absurd rfl z
      case fin =>
        intro s1 s' L es ep t m T g k es1
        subst es1
        obtain ⟨h', g2, d', tk', os'⟩ := s'
        have eg : g2 = s.gens := m.gens
        have ed : d' = s.drawn := m.drawn
        have eo : os' = s.os := m.os
        subst eg ed eo
        refine wpAny_pure (?_ : wpAny _ _ (ret Value.none) _ _ _)
        rw [hz] at g
        exact wpAny_pure ⟨rfl, h', tk', L, es, ep, t, rfl, T, g, k⟩
    · cases r₂ with
      | error e => exact hr₂
      | ok fl₂ =>
      cases fl₂ with
      | ret r =>
        obtain ⟨rfl, h', tk, L, es, ep, t, rfl, T, g, k⟩ := hr₂
        repeat (any_goals (first | assumption | wp_step))
        exact q _ _ _ _ _ _ T g k
      | _ => exact hr₂.elim
  | _ => exact hr.elim
end
end SD
/-! The rules: set(xs) of a list of tuples of whole numbers and texts; sorted of such a set. -/
namespace SD
open PySem PySem.Spec PyProof.Rows L2 DP
theorem mix_plain (P : Program) (w : World) : Plain (mixKind P w) := fun k v h => by
  rcases keyIs_shape h with ⟨i, t, _, rfl⟩ | ⟨x, t, _, rfl⟩ <;> rfl
/-- a set with the tuples L -/
def SetDO (P : Program) (w : World) (a : Addr) (L : List (Addr × List Key)) : HO := .ext fun h => ∃ es ep t, Tb (mixKind P w) h a L es ep t
theorem set_new {P : Program} {w : World} {H : Hp} {h : Heap} {a : Addr} {L : List (Addr × List Key)} {es : Array (Int × Value)} {ep : Nat} {t : SetTable} (R : Tb (mixKind P w) h a L es ep t) : ObjOk P w H h a (SetDO P w a L) := by
  have ⟨o, ho, r⟩ := R.obj
  exact ⟨⟨es, ep, t, R⟩, ⟨o, ho⟩, fun h1 h2 ⟨es', ep', t', R'⟩ k => ⟨es', ep', t', tb_keep R' k⟩⟩
theorem keys_of {P : Program} {w : World} : ∀ {k : List Key} {us : List Value}, Vals (k.map kV) us → ItemsAre (mixKind P w) k us
  | [], _, .nil => .nil
  | n :: k, _, .cons r t => .cons (by
      cases n with
      | inl i =>
        obtain ⟨tk, rfl⟩ := r
        simp [mixKind, keyIs, Value.isInt]
      | inr z =>
        obtain ⟨tk, rfl⟩ := r
        simp [mixKind, keyIs, Value.isStrOf]) (keys_of t)
theorem refs_eq : ∀ {ks : List (Addr × List Key)} {us : List Value}, Vals (ks.map fun p => V.ref p.1) us → us = ks.map fun p => Value.ref p.1
  | [], _, .nil => rfl
  | p :: ks, _, .cons r t => by
    cases r
    rw [refs_eq t]; rfl
theorem refs_vals : ∀ (ks : List (Addr × List Key)), Vals (ks.map fun p => V.ref p.1) (ks.map fun p => Value.ref p.1)
  | [] => .nil
  | p :: ks => .cons rfl (refs_vals ks)
def kD : Key → PyData
  | .inl i => .int i
  | .inr z => .str z
section
variable {X : Cx}
theorem tup_inv {pins : List (Addr × Obj)} {σ : L2.St} {H : Hp} {s : Shared} {p : Addr × List Key} (I : Inv X pins σ H s) (h : SqT X.K H p.1 (p.2.map kV)) : TupAt (mixKind X.prog X.w) s.heap p := by
  obtain ⟨its, r, ⟨o, ho, hc, n, hd⟩, _⟩ := I.tuple h
  exact ⟨o, its.toArray, n, ho, hc, hd, by simpa using keys_of r⟩
/-- the tuples of the list stand there -/
def Stand (K : PySem.W.Frag) (H : Hp) (ks : List (Addr × List Key)) : Prop := ∀ p ∈ ks, SqT K H p.1 (p.2.map kV)
theorem Stand.same {K : PySem.W.Frag} {H H' : Hp} {ks : List (Addr × List Key)} (h : Stand K H ks) (S : Same H H') : Stand K H' ks := fun p hp => Same.sqT S (h p hp)
def rSetD (K : PySem.W.Frag) (P : Program) (w : World) : List V → Hp → VK → Prop := fun xs H Q => ∃ (l : Addr) (ks : List (Addr × List Key)), xs = [V.ref l] ∧ SqL K H l (ks.map fun p => V.ref p.1) ∧ Stand K H ks ∧ ks.length < 64 ∧
  ∀ a L, H a = none → (∀ p ∈ L, p ∈ ks) → (∀ p ∈ ks, p.2 ∈ L.map Prod.snd) → (L.map Prod.snd).Nodup → Q (.ref a) (upd H a (SetDO P w a L))
theorem cr_setD (hc : X.calm = true) (hu : X.A.units + 64 < cLine) : CallR X (.type "set") (rSetD X.K X.prog X.w) := by
  intro pins s σ H xs us Q I r h
  obtain ⟨l, ks, rfl, hl, hk, few, q⟩ := h
  rw [Vals.ref1 r]
  obtain ⟨its, rv, pl, hz⟩ := I.list hl
  refine set_made (P := X.prog) (w := X.w) (mix_plain _ _) ks (I.ok.hd hc) pl.isList (by simpa using refs_eq rv) (fun p hp => tup_inv I (hk p hp)) few (by omega) fun h' tk L es ep t T g k => ?_
  refine ⟨.ref s.heap.objs.size, upd H s.heap.objs.size (SetDO X.prog X.w s.heap.objs.size L), I.laid (t' := tk) k (Nat.le_refl _) (set_new T), rfl, q _ L (I.hok.fresh (Nat.le_refl _)) g.from_ (fun p hp => ?_) T.one⟩
  exact g.all p (by rw [List.take_length]; exact hp)
end
section
variable {P : Program} {w : World} {A : Around} {E : Value → Shared → Prop} {s : Shared}
def encK (p : Addr × List Key) : PyData := .tuple (p.2.map kD)
theorem reads_parts : ∀ {k : List Key} {us : List Value} {h : Heap}, ItemsAre (mixKind P w) k us → ReadsAll h us (k.map kD) []
  | _, _, _, .nil => .nil
  | _, _, h, .cons (k := n) a t => by
    rcases keyIs_shape a with ⟨i, tk, rfl, rfl⟩ | ⟨x, tk, rfl, rfl⟩
    · exact .cons (as := []) (.int _ _) (reads_parts t)
    · exact .cons (as := []) (.str _ _) (reads_parts t)
theorem reads_tup {h : Heap} {p : Addr × List Key} (x : TupAt (mixKind P w) h p) : Reads h (.ref p.1) (encK p) [] := by
  obtain ⟨o, its, n, ho, hc, hd, hi⟩ := x
  exact .tuple ho hc hd (reads_parts hi)
theorem each_refs : ∀ L : List (Addr × List Key), PySem.W.EachIs (fun (u : Value) (p : Addr × List Key) => u = .ref p.1) (L.map fun q => Value.ref q.1) L
  | [] => .nil
  | p :: L => .cons rfl (each_refs L)
theorem of_each : ∀ {us : List Value} {L : List (Addr × List Key)}, PySem.W.EachIs (fun (u : Value) (p : Addr × List Key) => u = .ref p.1) us L → us = L.map fun q => Value.ref q.1
  | _, _, .nil => rfl
  | _, _, .cons a t => by rw [a, of_each t]; rfl
theorem each_reads {h : Heap} : ∀ {L : List (Addr × List Key)} {a : Addr}, All (mixKind P w) h L → PySem.W.EachIs (fun (u : Value) (p : Addr × List Key) => ∃ as, Reads h u (encK p) as ∧ a ∉ as) (L.map fun q => Value.ref q.1) L
  | [], _, _ => .nil
  | p :: L, _, k => .cons ⟨[], reads_tup (k p List.mem_cons_self), by simp⟩ (each_reads fun q hq => k q (List.mem_cons_of_mem _ hq))
/-- what is known of the parts so that tuples can be put in order -/
structure Even (L : List (Addr × List Key)) : Prop where
  alike : ∀ p ∈ L, ∀ q ∈ L, PySem.W.alike (encK p) (encK q) = true
  some_ : ∀ p ∈ L, p.2 ≠ []
theorem Even.sub {L M : List (Addr × List Key)} (e : Even L) (h : ∀ p ∈ M, p ∈ L) : Even M := ⟨fun p hp q hq => e.alike p (h p hp) q (h q hq), fun p hp => e.some_ p (h p hp)⟩
theorem depth_parts : ∀ k : List Key, PyData.depthAll (k.map kD) = 0
  | [] => rfl
  | .inl i :: k => by
    show PyData.depthAll (PyData.int i :: k.map kD) = 0
    rw [PyData.depthAll, depth_parts k]; rfl
  | .inr z :: k => by
    show PyData.depthAll (PyData.str z :: k.map kD) = 0
    rw [PyData.depthAll, depth_parts k]; rfl
theorem depth_tup (p : Addr × List Key) : (encK p).depth = 1 := by
  unfold encK
  rw [PyData.depth, depth_parts]
theorem sorted_set {a : Addr} {L : List (Addr × List Key)} {es : Array (Int × Value)} {ep : Nat} {t : SetTable} {Q : Value → Shared → Prop} (R : Tb (mixKind P w) s.heap a L es ep t) (R2 : All (mixKind P w) s.heap L) (hh : A.handled = none) (hu : A.units + 64 < cLine) (ev : Even L)
    (q : ∀ s' p (out : Array Value) (c : Nat) (M : List (Addr × List Key)), (∀ b o, s.heap.get? b = some o → s'.heap.get? b = some o) → s'.gens = s.gens → s'.os = s.os → s.heap.objs.size ≤ p → M.Perm L →
      s'.heap.get? p = some (seqObj "list" out c) → out.toList = (M.mergeSort (PySem.W.dataLe false encK)).map (fun q => Value.ref q.1) → Q (.ref p) s') :
    wpAny (model P w) A (call (.builtin "sorted") [.ref a]) Q E s := by
  obtain ⟨o, ho, hex, hd⟩ := R.obj
  have hn := rows_len R.rows
  have few := R.few
  refine Calls.call_function_entry kind_sorted plain_sorted entry_sorted (args_sorted1 _) ?_
  unfold Builtin.«sorted»
  refine wpAny_bind (m := checkCount "sorted" 1 1 _) (wpAny_pure ?_)
  refine wpAny_bind (collect_set (A := A.in1) hh ⟨o, ho, hex.1, hd⟩ R.fit (by unfold scanBound; omega) R.tab.ris R.led fun s1 vs k1 hz g1 o1 pm => ?_)
  have hv : es.toList.map (·.2) = L.map fun q => Value.ref q.1 := by
    rw [R.rows, List.map_map]; rfl
  rw [hv] at pm
  -- the values' own list of rows
  obtain ⟨M, eM, pL⟩ : ∃ M : List (Addr × List Key), vs = M.map (fun q => Value.ref q.1) ∧ M.Perm L := by
    have z : ∀ {xs ys : List Value}, xs.Perm ys → ∀ L : List (Addr × List Key), ys = L.map (fun q => Value.ref q.1) → ∃ M : List (Addr × List Key), xs = M.map (fun q => Value.ref q.1) ∧ M.Perm L := by
      intro xs ys pm
      induction pm with
      | nil => intro L e; exact ⟨L, e, .refl _⟩
      | @cons x l1 l2 _ ih =>
        intro L e
        cases L with
        | nil => cases e
        | cons p L =>
          injection e with e1 e2
          obtain ⟨M, e3, p3⟩ := ih L e2
          exact ⟨p :: M, by rw [e1, e3]; rfl, p3.cons p⟩
      | swap x y l =>
        intro L e
        cases L with
        | nil => cases e
        | cons p L =>
          cases L with
          | nil => injection e with _ e2; cases e2
          | cons q L =>
            injection e with e1 e2
            injection e2 with e2 e3
            exact ⟨q :: p :: L, by rw [e1, e2, e3]; rfl, .swap _ _ _⟩
      | trans _ _ ih1 ih2 =>
        intro L e
        obtain ⟨M, e3, p3⟩ := ih2 L e
        obtain ⟨N, e4, p4⟩ := ih1 M e3
        exact ⟨N, e4, p4.trans p3⟩
    exact z pm L rfl
  subst eM
  have hml : M.length < 64 := by rw [pL.length_eq]; exact few
  have evM : Even M := ev.sub fun p hp => pL.mem_iff.mp hp
  refine wpAny_bind (wpAny_newList ?_ (by rw [List.length_map, sizeLine_eq]; omega))
  have hoL : (s1.heap.push (seqObj "list" (M.map fun q => Value.ref q.1).toArray 0)).get? s1.heap.objs.size = some (seqObj "list" (M.map fun q => Value.ref q.1).toArray 0) := Heap.get?_push_size _ rfl
  have stand : All (mixKind P w) (s1.heap.push (seqObj "list" (M.map fun q => Value.ref q.1).toArray 0)) M := fun p hp => tup_keep (R2 p (pL.mem_iff.mp hp)) fun b u e => Heap.get?_push_of_some _ (k1 b u e)
  refine wpAny_bind (wpAny_holding (PySem.W.list_sort_data (enc := encK) (s := { s1 with heap := s1.heap.push (seqObj "list" (M.map fun q => Value.ref q.1).toArray 0) }) hoL (each_refs M) (each_reads stand) (fun d hd' d' hd2 => ?_) (.inl fun d hd' => ?_) (by rw [sizeLine_eq]; omega) (fun p _ => ?_) fun out ho2 eo => ?_))
  · obtain ⟨p, hp, rfl⟩ := List.mem_map.mp hd'
    obtain ⟨p2, hp2, rfl⟩ := List.mem_map.mp hd2
    exact evM.alike p hp p2 hp2
  · obtain ⟨p, hp, rfl⟩ := List.mem_map.mp hd'
    have h2 := evM.some_ p hp
    unfold encK
    cases e : p.2 with
    | nil => exact absurd e h2
    | cons k r => exact ⟨_, _, rfl⟩
  · rw [depth_tup]
    have e : A.in1.units ≤ A.units + 1 := by first | exact Nat.le_refl _ | (show _ ≤ _; simp [Around.in1, Around.units])
    omega
  · obtain ⟨c, hc⟩ := sortedHeap_at (vs := M.map fun q => Value.ref q.1) (out := List.toArray out) hoL
    refine wpAny_pure ⟨_, rfl, q _ s1.heap.objs.size (List.toArray out) c M (fun b u e => ?_) g1 o1 hz pL hc (by simpa using of_each eo)⟩
    have e2 := k1 b u e
    have hlt := Heap.lt_size e2
    show (sortedHeap (s1.heap.push (seqObj "list" (M.map fun q => Value.ref q.1).toArray 0)) s1.heap.objs.size (M.map fun q => Value.ref q.1) (List.toArray out)).get? b = some u
    rw [sortedHeap_old (Nat.ne_of_lt hlt) (by rw [size_push']; exact Nat.lt_succ_of_lt hlt)]
    exact Heap.get?_push_of_some _ e2
end
section
variable {X : Cx}
/-- sorted(a set of tuples) -/
def rSortSetD (K : PySem.W.Frag) (P : Program) (w : World) : List V → Hp → VK → Prop := fun vs H Q => ∃ (a : Addr) (L : List (Addr × List Key)), vs = [V.ref a] ∧ H a = some (SetDO P w a L) ∧ Stand K H L ∧ Even L ∧
  ∀ (M : List (Addr × List Key)) (p : Addr), M.Perm L → H p = none → Q (.ref p) (upd H p (.lst ((M.mergeSort (PySem.W.dataLe false encK)).map fun q => V.ref q.1)))
theorem cr_sortSetD (hc : X.calm = true) (hu : X.A.units + 64 < cLine) : CallR X (.builtin "sorted") (rSortSetD X.K X.prog X.w) := by
  intro pins s σ H vs us Q I r h
  obtain ⟨a, L, rfl, ha, st, ev, q⟩ := h
  obtain ⟨es, ep, t, R⟩ : ∃ es ep t, Tb (mixKind X.prog X.w) s.heap a L es ep t := (I.hok a _ ha).1
  rw [Vals.ref1 r]
  refine sorted_set R (fun p hp => tup_inv I (st p hp)) (I.ok.hd hc) hu ev fun s' p out c M k g o hp pm hg hout => ?_
  have few := R.few
  have hlen : ((M.mergeSort (PySem.W.dataLe false encK)).map fun q => V.ref q.1).length ≤ sizeLine := by rw [List.length_map, List.length_mergeSort, pm.length_eq, sizeLine_eq]; omega
  have hn : H p = none := I.hok.fresh hp
  have hv : Vals ((M.mergeSort (PySem.W.dataLe false encK)).map fun q => V.ref q.1) out.toList := by rw [hout]; exact refs_vals _
  have J : Inv X pins σ (upd H p (.lst ((M.mergeSort (PySem.W.dataLe false encK)).map fun q => V.ref q.1))) { s with heap := s'.heap, gens := s'.gens, drawn := s'.drawn, toks := s'.toks } :=
    I.call (ch := []) (Un.laid k hp hn) (I.hok.laid k hp ⟨hlen, out.toList, c, hv, hg⟩) (by rw [g]; exact I.bare) (fun _ z => nomatch z)
  have e : s' = { s with heap := s'.heap, gens := s'.gens, drawn := s'.drawn, toks := s'.toks } := by
    cases s'; cases s; cases o; rfl
  rw [e]
  exact ⟨.ref p, _, J, rfl, q M p pm hn⟩
theorem setDK {K : PySem.W.Frag} {P : Program} {w : World} (hc : X.calm = true) (hu : X.A.units + 64 < cLine) (h : X.K = K := by rfl) (hp : X.prog = P := by rfl) (hw : X.w = w := by rfl) : CallR X (.type "set") (rSetD K P w) := by subst h hp hw; exact cr_setD hc hu
theorem sortSetDK {K : PySem.W.Frag} {P : Program} {w : World} (hc : X.calm = true) (hu : X.A.units + 64 < cLine) (h : X.K = K := by rfl) (hp : X.prog = P := by rfl) (hw : X.w = w := by rfl) : CallR X (.builtin "sorted") (rSortSetD K P w) := by subst h hp hw; exact cr_sortSetD hc hu
end
end SD
namespace KA
open PySem PySem.Spec PyProof.Rows L2 DP
def top (i : Nat) : Stmt := PySem.Challenge.pw_darkpace_k45_followed_refused.main.body.getD i (.Pass ⟨0, 0, 0, 0⟩)
abbrev slaw_bag : Stmt := top 38
abbrev N_law_bag : List Str := ["script", "fold", "great", "cell"]
abbrev P_law_bag : List Str := ["script"]
theorem sclaw_bag : FnScope N_law_bag P_law_bag (defScope slaw_bag) := ⟨rfl, rfl, rfl, by decide +kernel, rfl, by decide +kernel, by decide +kernel⟩
abbrev slaw_draw : Stmt := top 39
abbrev N_law_draw : List Str := ["bag", "many", "drawn", "turn", "mixed"]
abbrev P_law_draw : List Str := ["bag", "many"]
theorem sclaw_draw : FnScope N_law_draw P_law_draw (defScope slaw_draw) := ⟨rfl, rfl, rfl, by decide +kernel, rfl, by decide +kernel, by decide +kernel⟩
abbrev slaw_table : Stmt := top 44
abbrev N_law_table : List Str := ["bag", "length", "first", "found", "k", "room_of", "step"]
abbrev P_law_table : List Str := ["bag", "length"]
theorem sclaw_table : FnScope N_law_table P_law_table (defScope slaw_table) := ⟨rfl, rfl, rfl, by decide +kernel, rfl, by decide +kernel, by decide +kernel⟩
abbrev slaw_led : Stmt := top 45
abbrev N_law_led : List Str := ["table", "x"]
abbrev P_law_led : List Str := ["table", "x"]
theorem sclaw_led : FnScope N_law_led P_law_led (defScope slaw_led) := ⟨rfl, rfl, rfl, by decide +kernel, rfl, by decide +kernel, by decide +kernel⟩
abbrev slaw_caught : Stmt := top 47
abbrev N_law_caught : List Str := ["length", "first", "leads", "e"]
abbrev P_law_caught : List Str := ["length", "first", "leads"]
theorem sclaw_caught : FnScope N_law_caught P_law_caught (defScope slaw_caught) := ⟨rfl, rfl, rfl, by decide +kernel, rfl, by decide +kernel, by decide +kernel⟩
abbrev slaw_clash : Stmt := top 48
abbrev N_law_clash : List Str := ["length", "one", "other", "turns"]
abbrev P_law_clash : List Str := ["length", "one", "other"]
theorem sclaw_clash : FnScope N_law_clash P_law_clash (defScope slaw_clash) := ⟨rfl, rfl, rfl, by decide +kernel, rfl, by decide +kernel, by decide +kernel⟩
abbrev slaw_due : Stmt := top 49
abbrev N_law_due : List Str := ["length", "first", "leads", "heard", "here", "lead", "look", "odd", "one"]
abbrev P_law_due : List Str := ["length", "first", "leads"]
theorem sclaw_due : FnScope N_law_due P_law_due (defScope slaw_due) := ⟨rfl, rfl, rfl, by decide +kernel, rfl, by decide +kernel, by decide +kernel⟩
abbrev sside_looks : Stmt := top 19
abbrev N_side_looks : List Str := ["looks", "side", "words", "look"]
abbrev P_side_looks : List Str := ["looks", "side"]
theorem scside_looks : FnScope N_side_looks P_side_looks (defScope sside_looks) := ⟨rfl, rfl, rfl, by decide +kernel, rfl, by decide +kernel, by decide +kernel⟩
abbrev sround_looks : Stmt := top 20
abbrev N_round_looks : List Str := ["hands", "side", "hand"]
abbrev P_round_looks : List Str := ["hands", "side"]
theorem scround_looks : FnScope N_round_looks P_round_looks (defScope sround_looks) := ⟨rfl, rfl, rfl, by decide +kernel, rfl, by decide +kernel, by decide +kernel⟩
abbrev splace_by : Stmt := top 21
abbrev N_place_by : List Str := ["look", "side", "x", "length", "_", "start", "end"]
abbrev P_place_by : List Str := ["look", "side", "x", "length"]
theorem scplace_by : FnScope N_place_by P_place_by (defScope splace_by) := ⟨rfl, rfl, rfl, by decide +kernel, rfl, by decide +kernel, by decide +kernel⟩
abbrev sbest_step : Stmt := top 22
abbrev N_best_step : List Str := ["looks", "side", "x", "length", "steps", "look"]
abbrev P_best_step : List Str := ["looks", "side", "x", "length"]
theorem scbest_step : FnScope N_best_step P_best_step (defScope sbest_step) := ⟨rfl, rfl, rfl, by decide +kernel, rfl, by decide +kernel, by decide +kernel⟩
abbrev sWalk_init : Stmt := inClass (top 23) 0
abbrev N_Walk_init : List Str := ["self", "hands", "side", "x"]
abbrev P_Walk_init : List Str := ["self", "hands", "side", "x"]
theorem scWalk_init : FnScope N_Walk_init P_Walk_init (defScope sWalk_init) := ⟨rfl, rfl, rfl, by decide +kernel, rfl, by decide +kernel, by decide +kernel⟩
abbrev sWalkfollow : Stmt := inClass (top 23) 1
abbrev N_Walkfollow : List Str := ["self", "length", "known", "side", "seen", "uses", "number", "mark", "place", "look"]
abbrev P_Walkfollow : List Str := ["self", "length", "known", "side"]
theorem scWalkfollow : FnScope N_Walkfollow P_Walkfollow (defScope sWalkfollow) := ⟨rfl, rfl, rfl, by decide +kernel, rfl, by decide +kernel, by decide +kernel⟩
abbrev sWalk_period : Stmt := inClass (top 23) 2
abbrev N_Walk_period : List Str := ["self"]
abbrev P_Walk_period : List Str := ["self"]
theorem scWalk_period : FnScope N_Walk_period P_Walk_period (defScope sWalk_period) := ⟨rfl, rfl, rfl, by decide +kernel, rfl, by decide +kernel, by decide +kernel⟩
abbrev sWalk_climb : Stmt := inClass (top 23) 3
abbrev N_Walk_climb : List Str := ["self"]
abbrev P_Walk_climb : List Str := ["self"]
theorem scWalk_climb : FnScope N_Walk_climb P_Walk_climb (defScope sWalk_climb) := ⟨rfl, rfl, rfl, by decide +kernel, rfl, by decide +kernel, by decide +kernel⟩
abbrev sWalk_behind : Stmt := inClass (top 23) 4
abbrev N_Walk_behind : List Str := ["self", "uses", "times", "rest"]
abbrev P_Walk_behind : List Str := ["self", "uses"]
theorem scWalk_behind : FnScope N_Walk_behind P_Walk_behind (defScope sWalk_behind) := ⟨rfl, rfl, rfl, by decide +kernel, rfl, by decide +kernel, by decide +kernel⟩
abbrev scheck_round : Stmt := top 30
abbrev N_check_round : List Str := ["hands", "length", "number", "hand"]
abbrev P_check_round : List Str := ["hands"]
theorem sccheck_round : FnScope N_check_round P_check_round (defScope scheck_round) := ⟨rfl, rfl, rfl, by decide +kernel, rfl, by decide +kernel, by decide +kernel⟩
abbrev slowest : Stmt := top 32
abbrev N_lowest : List Str := ["top", "bottom", "shared"]
abbrev P_lowest : List Str := ["top", "bottom"]
theorem sclowest : FnScope N_lowest P_lowest (defScope slowest) := ⟨rfl, rfl, rfl, by decide +kernel, rfl, by decide +kernel, by decide +kernel⟩
abbrev sside_pace : Stmt := top 33
abbrev N_side_pace : List Str := ["hands", "side", "walk"]
abbrev P_side_pace : List Str := ["hands", "side"]
theorem scside_pace : FnScope N_side_pace P_side_pace (defScope sside_pace) := ⟨rfl, rfl, rfl, by decide +kernel, rfl, by decide +kernel, by decide +kernel⟩
abbrev spaces : Stmt := top 34
abbrev N_paces : List Str := ["hands"]
abbrev P_paces : List Str := ["hands"]
theorem scpaces : FnScope N_paces P_paces (defScope spaces) := ⟨rfl, rfl, rfl, by decide +kernel, rfl, by decide +kernel, by decide +kernel⟩
abbrev sfollowed : Stmt := top 36
abbrev N_followed : List Str := ["length", "first", "leads", "dark", "place", "lead"]
abbrev P_followed : List Str := ["length", "first", "leads"]
theorem scfollowed : FnScope N_followed P_followed (defScope sfollowed) := ⟨rfl, rfl, rfl, by decide +kernel, rfl, by decide +kernel, by decide +kernel⟩
abbrev stoo_far : Stmt := top 26
abbrev N_too_far : List Str := ["low", "high", "length"]
abbrev P_too_far : List Str := ["low", "high", "length"]
theorem sctoo_far : FnScope N_too_far P_too_far (defScope stoo_far) := ⟨rfl, rfl, rfl, by decide +kernel, rfl, by decide +kernel, by decide +kernel⟩
abbrev sclash : Stmt := top 27
abbrev N_clash : List Str := ["look", "other", "length"]
abbrev P_clash : List Str := ["look", "other", "length"]
theorem scclash : FnScope N_clash P_clash (defScope sclash) := ⟨rfl, rfl, rfl, by decide +kernel, rfl, by decide +kernel, by decide +kernel⟩
abbrev sDark_init : Stmt := inClass (top 28) 0
abbrev N_Dark_init : List Str := ["self", "length"]
abbrev P_Dark_init : List Str := ["self", "length"]
theorem scDark_init : FnScope N_Dark_init P_Dark_init (defScope sDark_init) := ⟨rfl, rfl, rfl, by decide +kernel, rfl, by decide +kernel, by decide +kernel⟩
abbrev sDark_length : Stmt := inClass (top 28) 3
abbrev N_Dark_length : List Str := ["self"]
abbrev P_Dark_length : List Str := ["self"]
theorem scDark_length : FnScope N_Dark_length P_Dark_length (defScope sDark_length) := ⟨rfl, rfl, rfl, by decide +kernel, rfl, by decide +kernel, by decide +kernel⟩
abbrev sDark_hear : Stmt := inClass (top 28) 4
abbrev N_Dark_hear : List Str := ["self", "word", "x", "y", "look", "other"]
abbrev P_Dark_hear : List Str := ["self", "word", "x", "y"]
theorem scDark_hear : FnScope N_Dark_hear P_Dark_hear (defScope sDark_hear) := ⟨rfl, rfl, rfl, by decide +kernel, rfl, by decide +kernel, by decide +kernel⟩
abbrev sDark_looks : Stmt := inClass (top 28) 6
abbrev N_Dark_looks : List Str := ["self"]
abbrev P_Dark_looks : List Str := ["self"]
theorem scDark_looks : FnScope N_Dark_looks P_Dark_looks (defScope sDark_looks) := ⟨rfl, rfl, rfl, by decide +kernel, rfl, by decide +kernel, by decide +kernel⟩
abbrev sDarkcheck_word : Stmt := inClass (top 28) 12
abbrev N_Darkcheck_word : List Str := ["self", "word"]
abbrev P_Darkcheck_word : List Str := ["self", "word"]
theorem scDarkcheck_word : FnScope N_Darkcheck_word P_Darkcheck_word (defScope sDarkcheck_word) := ⟨rfl, rfl, rfl, by decide +kernel, rfl, by decide +kernel, by decide +kernel⟩
abbrev sDarkhome : Stmt := inClass (top 28) 13
abbrev N_Darkhome : List Str := ["self", "word", "x", "y", "turns"]
abbrev P_Darkhome : List Str := ["self", "word", "x", "y"]
theorem scDarkhome : FnScope N_Darkhome P_Darkhome (defScope sDarkhome) := ⟨rfl, rfl, rfl, by decide +kernel, rfl, by decide +kernel, by decide +kernel⟩
abbrev sDarkclashing : Stmt := inClass (top 28) 14
abbrev N_Darkclashing : List Str := ["self", "look", "other"]
abbrev P_Darkclashing : List Str := ["self", "look"]
theorem scDarkclashing : FnScope N_Darkclashing P_Darkclashing (defScope sDarkclashing) := ⟨rfl, rfl, rfl, by decide +kernel, rfl, by decide +kernel, by decide +kernel⟩
abbrev slaw : Stmt := top 50
abbrev N_law : List Str := ["script", "bag", "turn", "length", "table", "first", "leads", "x", "k", "at", "handed"]
abbrev P_law : List Str := ["script"]
theorem sclaw : FnScope N_law P_law (defScope slaw) := ⟨rfl, rfl, rfl, by decide +kernel, rfl, by decide +kernel, by decide +kernel⟩
structure Ad where
  C : Addr
  C_Walk : Addr
  a_law_bag : Addr
  d_law_bag : FuncData
  a_law_draw : Addr
  d_law_draw : FuncData
  a_law_table : Addr
  d_law_table : FuncData
  a_law_led : Addr
  d_law_led : FuncData
  a_law_caught : Addr
  d_law_caught : FuncData
  a_law_clash : Addr
  d_law_clash : FuncData
  a_law_due : Addr
  d_law_due : FuncData
  a_side_looks : Addr
  d_side_looks : FuncData
  a_round_looks : Addr
  d_round_looks : FuncData
  a_place_by : Addr
  d_place_by : FuncData
  a_best_step : Addr
  d_best_step : FuncData
  a_Walk_init : Addr
  d_Walk_init : FuncData
  a_Walkfollow : Addr
  d_Walkfollow : FuncData
  a_Walk_period : Addr
  d_Walk_period : FuncData
  a_Walk_climb : Addr
  d_Walk_climb : FuncData
  a_Walk_behind : Addr
  d_Walk_behind : FuncData
  a_check_round : Addr
  d_check_round : FuncData
  a_lowest : Addr
  d_lowest : FuncData
  a_side_pace : Addr
  d_side_pace : FuncData
  a_paces : Addr
  d_paces : FuncData
  a_followed : Addr
  d_followed : FuncData
  a_too_far : Addr
  d_too_far : FuncData
  a_clash : Addr
  d_clash : FuncData
  a_Dark_init : Addr
  d_Dark_init : FuncData
  a_Dark_length : Addr
  d_Dark_length : FuncData
  a_Dark_hear : Addr
  d_Dark_hear : FuncData
  a_Dark_looks : Addr
  d_Dark_looks : FuncData
  a_Darkcheck_word : Addr
  d_Darkcheck_word : FuncData
  a_Darkhome : Addr
  d_Darkhome : FuncData
  a_Darkclashing : Addr
  d_Darkclashing : FuncData
  a_law : Addr
  d_law : FuncData
  v_SLOW : Value
  v_FAST : Value
  a_WORDS : Addr
  a_LW : Addr
  t_slow : Addr
  t_fast : Addr
structure Tx (K : PySem.W.Frag) (w : World) (mg : Str → Option Value) (Z : Ad) : Prop where
  F_law_bag : Fun K "_law_bag" "_law_bag" slaw_bag Z.a_law_bag Z.d_law_bag
  bb_law_bag : Binds K Z.d_law_bag P_law_bag []
  g_law_bag : mg "_law_bag" = some (.ref Z.a_law_bag)
  F_law_draw : Fun K "_law_draw" "_law_draw" slaw_draw Z.a_law_draw Z.d_law_draw
  bb_law_draw : Binds K Z.d_law_draw P_law_draw []
  g_law_draw : mg "_law_draw" = some (.ref Z.a_law_draw)
  F_law_table : Fun K "_law_table" "_law_table" slaw_table Z.a_law_table Z.d_law_table
  bb_law_table : Binds K Z.d_law_table P_law_table []
  g_law_table : mg "_law_table" = some (.ref Z.a_law_table)
  F_law_led : Fun K "_law_led" "_law_led" slaw_led Z.a_law_led Z.d_law_led
  bb_law_led : Binds K Z.d_law_led P_law_led []
  g_law_led : mg "_law_led" = some (.ref Z.a_law_led)
  F_law_caught : Fun K "_law_caught" "_law_caught" slaw_caught Z.a_law_caught Z.d_law_caught
  bb_law_caught : Binds K Z.d_law_caught P_law_caught []
  g_law_caught : mg "_law_caught" = some (.ref Z.a_law_caught)
  F_law_clash : Fun K "_law_clash" "_law_clash" slaw_clash Z.a_law_clash Z.d_law_clash
  bb_law_clash : Binds K Z.d_law_clash P_law_clash []
  g_law_clash : mg "_law_clash" = some (.ref Z.a_law_clash)
  F_law_due : Fun K "_law_due" "_law_due" slaw_due Z.a_law_due Z.d_law_due
  bb_law_due : Binds K Z.d_law_due P_law_due []
  g_law_due : mg "_law_due" = some (.ref Z.a_law_due)
  F_side_looks : Fun K "side_looks" "side_looks" sside_looks Z.a_side_looks Z.d_side_looks
  bb_side_looks : Binds K Z.d_side_looks P_side_looks []
  g_side_looks : mg "side_looks" = some (.ref Z.a_side_looks)
  F_round_looks : Fun K "round_looks" "round_looks" sround_looks Z.a_round_looks Z.d_round_looks
  bb_round_looks : Binds K Z.d_round_looks P_round_looks []
  g_round_looks : mg "round_looks" = some (.ref Z.a_round_looks)
  F_place_by : Fun K "place_by" "place_by" splace_by Z.a_place_by Z.d_place_by
  bb_place_by : Binds K Z.d_place_by P_place_by []
  g_place_by : mg "place_by" = some (.ref Z.a_place_by)
  F_best_step : Fun K "best_step" "best_step" sbest_step Z.a_best_step Z.d_best_step
  bb_best_step : Binds K Z.d_best_step P_best_step []
  g_best_step : mg "best_step" = some (.ref Z.a_best_step)
  F_Walk_init : Fun K "__init__" "Walk.__init__" sWalk_init Z.a_Walk_init Z.d_Walk_init
  bb_Walk_init : Binds K Z.d_Walk_init P_Walk_init []
  F_Walkfollow : Fun K "_follow" "Walk._follow" sWalkfollow Z.a_Walkfollow Z.d_Walkfollow
  bb_Walkfollow : Binds K Z.d_Walkfollow P_Walkfollow []
  m_Walkfollow : Meth K Z.C_Walk "_follow" Z.a_Walkfollow
  F_Walk_period : Fun K "period" "Walk.period" sWalk_period Z.a_Walk_period Z.d_Walk_period
  bb_Walk_period : Binds K Z.d_Walk_period P_Walk_period []
  m_Walk_period : Meth K Z.C_Walk "period" Z.a_Walk_period
  F_Walk_climb : Fun K "climb" "Walk.climb" sWalk_climb Z.a_Walk_climb Z.d_Walk_climb
  bb_Walk_climb : Binds K Z.d_Walk_climb P_Walk_climb []
  m_Walk_climb : Meth K Z.C_Walk "climb" Z.a_Walk_climb
  F_Walk_behind : Fun K "behind" "Walk.behind" sWalk_behind Z.a_Walk_behind Z.d_Walk_behind
  bb_Walk_behind : Binds K Z.d_Walk_behind P_Walk_behind []
  m_Walk_behind : Meth K Z.C_Walk "behind" Z.a_Walk_behind
  F_check_round : Fun K "check_round" "check_round" scheck_round Z.a_check_round Z.d_check_round
  bb_check_round : Binds K Z.d_check_round P_check_round []
  g_check_round : mg "check_round" = some (.ref Z.a_check_round)
  F_lowest : Fun K "lowest" "lowest" slowest Z.a_lowest Z.d_lowest
  bb_lowest : Binds K Z.d_lowest P_lowest []
  g_lowest : mg "lowest" = some (.ref Z.a_lowest)
  F_side_pace : Fun K "side_pace" "side_pace" sside_pace Z.a_side_pace Z.d_side_pace
  bb_side_pace : Binds K Z.d_side_pace P_side_pace []
  g_side_pace : mg "side_pace" = some (.ref Z.a_side_pace)
  F_paces : Fun K "paces" "paces" spaces Z.a_paces Z.d_paces
  bb_paces : Binds K Z.d_paces P_paces []
  g_paces : mg "paces" = some (.ref Z.a_paces)
  F_followed : Fun K "followed" "followed" sfollowed Z.a_followed Z.d_followed
  bb_followed : Binds K Z.d_followed P_followed []
  g_followed : mg "followed" = some (.ref Z.a_followed)
  F_too_far : Fun K "too_far" "too_far" stoo_far Z.a_too_far Z.d_too_far
  bb_too_far : Binds K Z.d_too_far P_too_far []
  g_too_far : mg "too_far" = some (.ref Z.a_too_far)
  F_clash : Fun K "clash" "clash" sclash Z.a_clash Z.d_clash
  bb_clash : Binds K Z.d_clash P_clash []
  g_clash : mg "clash" = some (.ref Z.a_clash)
  F_Dark_init : Fun K "__init__" "Dark.__init__" sDark_init Z.a_Dark_init Z.d_Dark_init
  bb_Dark_init : Binds K Z.d_Dark_init P_Dark_init []
  F_Dark_length : Fun K "length" "Dark.length" sDark_length Z.a_Dark_length Z.d_Dark_length
  bb_Dark_length : Binds K Z.d_Dark_length P_Dark_length []
  m_Dark_length : Meth K Z.C "length" Z.a_Dark_length
  F_Dark_hear : Fun K "hear" "Dark.hear" sDark_hear Z.a_Dark_hear Z.d_Dark_hear
  bb_Dark_hear : Binds K Z.d_Dark_hear P_Dark_hear []
  m_Dark_hear : Meth K Z.C "hear" Z.a_Dark_hear
  F_Dark_looks : Fun K "looks" "Dark.looks" sDark_looks Z.a_Dark_looks Z.d_Dark_looks
  bb_Dark_looks : Binds K Z.d_Dark_looks P_Dark_looks []
  m_Dark_looks : Meth K Z.C "looks" Z.a_Dark_looks
  F_Darkcheck_word : Fun K "_check_word" "Dark._check_word" sDarkcheck_word Z.a_Darkcheck_word Z.d_Darkcheck_word
  bb_Darkcheck_word : Binds K Z.d_Darkcheck_word P_Darkcheck_word []
  m_Darkcheck_word : Meth K Z.C "_check_word" Z.a_Darkcheck_word
  F_Darkhome : Fun K "_home" "Dark._home" sDarkhome Z.a_Darkhome Z.d_Darkhome
  bb_Darkhome : Binds K Z.d_Darkhome P_Darkhome []
  m_Darkhome : Meth K Z.C "_home" Z.a_Darkhome
  F_Darkclashing : Fun K "_clashing" "Dark._clashing" sDarkclashing Z.a_Darkclashing Z.d_Darkclashing
  bb_Darkclashing : Binds K Z.d_Darkclashing P_Darkclashing []
  m_Darkclashing : Meth K Z.C "_clashing" Z.a_Darkclashing
  F_law : Fun K "law" "law" slaw Z.a_law Z.d_law
  bb_law : Binds K Z.d_law P_law []
  g_law : mg "law" = some (.ref Z.a_law)
  cl : Cls K Z.C
  g_Dark : mg "Dark" = some (.ref Z.C)
  cl_Walk : Cls K Z.C_Walk
  g_Walk : mg "Walk" = some (.ref Z.C_Walk)
  mk_Walk : Mk K Z.C_Walk Z.a_Walk_init
  nWalk_places : NoAttr K Z.C_Walk "places"
  nWalk_told_by : NoAttr K Z.C_Walk "told_by"
  nWalk_start : NoAttr K Z.C_Walk "start"
  mk_Dark : Mk K Z.C Z.a_Dark_init
  n_length : NoAttr K Z.C "_length"
  n_looks : NoAttr K Z.C "_looks"
  b_max : mg "max" = none
  b_min : mg "min" = none
  b_len : mg "len" = none
  b_range : mg "range" = none
  b_sorted : mg "sorted" = none
  b_set : mg "set" = none
  b_abs : mg "abs" = none
  b_list : mg "list" = none
  b_int : mg "int" = none
  b_enumerate : mg "enumerate" = none
  b_divmod : mg "divmod" = none
  g_gcd : mg "gcd" = some (.builtin "math.gcd")
  b_isinstance : mg "isinstance" = none
  b_ValueError : mg "ValueError" = none
  b_super : mg "super" = none
  g_SLOW : mg "SLOW" = some Z.v_SLOW
  r_SLOW : RelV (.str "slow") Z.v_SLOW
  g_FAST : mg "FAST" = some Z.v_FAST
  r_FAST : RelV (.str "fast") Z.v_FAST
  g_WORDS : mg "WORDS" = some (.ref Z.a_WORDS)
  kd_WORDS : ∃ es n, KDict K w Z.a_WORDS es n
  w_slow : PySem.W.nsIn K Z.a_WORDS "slow" = some (some (.ref Z.t_slow))
  w_fast : PySem.W.nsIn K Z.a_WORDS "fast" = some (some (.ref Z.t_fast))
  q_slow : ∀ H, SqT K H Z.t_slow [.str "at", .str "from"]
  q_fast : ∀ H, SqT K H Z.t_fast [.str "at", .str "upto"]
  g_LOOK_WORDS : mg "LOOK_WORDS" = some (.ref Z.a_LW)
  q_LW : ∀ H, SqT K H Z.a_LW [.str "at", .str "from", .str "upto"]
structure AdX where
  c_NoLength : Addr
  i_NoLength : Addr
  c_Clash : Addr
  i_Clash : Addr
  c_DialError : Addr
  c_NoBottom : Addr
  c_NoLook : Addr
  c_NoRing : Addr
  c_NoRound : Addr
  c_NoSide : Addr
  c_NoSteps : Addr
  c_NoText : Addr
  c_NoUses : Addr
  c_NoWord : Addr
structure Ex (P : Program) (K : PySem.W.Frag) (mg : Str → Option Value) (Y : AdX) : Prop where
  NoLength : ERR.ErrT P K Y.c_NoLength Y.i_NoLength
  g_NoLength : mg "NoLength" = some (.ref Y.c_NoLength)
  m_NoLength : PySem.W.exmOne K (.ref Y.c_NoLength) (.ref Y.c_NoLength) = some true
  Clash : ERR.ErrT P K Y.c_Clash Y.i_Clash
  g_Clash : mg "Clash" = some (.ref Y.c_Clash)
  m_Clash : PySem.W.exmOne K (.ref Y.c_Clash) (.ref Y.c_Clash) = some true
  g_DialError : mg "DialError" = some (.ref Y.c_DialError)
  g_NoBottom : mg "NoBottom" = some (.ref Y.c_NoBottom)
  g_NoLook : mg "NoLook" = some (.ref Y.c_NoLook)
  g_NoRing : mg "NoRing" = some (.ref Y.c_NoRing)
  g_NoRound : mg "NoRound" = some (.ref Y.c_NoRound)
  g_NoSide : mg "NoSide" = some (.ref Y.c_NoSide)
  g_NoSteps : mg "NoSteps" = some (.ref Y.c_NoSteps)
  g_NoText : mg "NoText" = some (.ref Y.c_NoText)
  g_NoUses : mg "NoUses" = some (.ref Y.c_NoUses)
  g_NoWord : mg "NoWord" = some (.ref Y.c_NoWord)
  d_NoLength : PySem.W.exmOne K (.ref Y.c_NoLength) (.ref Y.c_DialError) = some true
  x_NoLength : EK.ExF K Y.c_NoLength
  kv_NoLength : PySem.W.kitOne K (.ref Y.c_NoLength) (.type "ValueError") = some true
  k_NoLength_Clash : PySem.W.kitOne K (.ref Y.c_NoLength) (.ref Y.c_Clash) = some false
  k_NoLength_NoBottom : PySem.W.kitOne K (.ref Y.c_NoLength) (.ref Y.c_NoBottom) = some false
  k_NoLength_NoLook : PySem.W.kitOne K (.ref Y.c_NoLength) (.ref Y.c_NoLook) = some false
  k_NoLength_NoRing : PySem.W.kitOne K (.ref Y.c_NoLength) (.ref Y.c_NoRing) = some false
  k_NoLength_NoRound : PySem.W.kitOne K (.ref Y.c_NoLength) (.ref Y.c_NoRound) = some false
  k_NoLength_NoSide : PySem.W.kitOne K (.ref Y.c_NoLength) (.ref Y.c_NoSide) = some false
  k_NoLength_NoSteps : PySem.W.kitOne K (.ref Y.c_NoLength) (.ref Y.c_NoSteps) = some false
  k_NoLength_NoText : PySem.W.kitOne K (.ref Y.c_NoLength) (.ref Y.c_NoText) = some false
  k_NoLength_NoUses : PySem.W.kitOne K (.ref Y.c_NoLength) (.ref Y.c_NoUses) = some false
  k_NoLength_NoWord : PySem.W.kitOne K (.ref Y.c_NoLength) (.ref Y.c_NoWord) = some false
  d_Clash : PySem.W.exmOne K (.ref Y.c_Clash) (.ref Y.c_DialError) = some true
  x_Clash : EK.ExF K Y.c_Clash
  kv_Clash : PySem.W.kitOne K (.ref Y.c_Clash) (.type "ValueError") = some true
  k_Clash_NoLength : PySem.W.kitOne K (.ref Y.c_Clash) (.ref Y.c_NoLength) = some false
  k_Clash_NoBottom : PySem.W.kitOne K (.ref Y.c_Clash) (.ref Y.c_NoBottom) = some false
  k_Clash_NoLook : PySem.W.kitOne K (.ref Y.c_Clash) (.ref Y.c_NoLook) = some false
  k_Clash_NoRing : PySem.W.kitOne K (.ref Y.c_Clash) (.ref Y.c_NoRing) = some false
  k_Clash_NoRound : PySem.W.kitOne K (.ref Y.c_Clash) (.ref Y.c_NoRound) = some false
  k_Clash_NoSide : PySem.W.kitOne K (.ref Y.c_Clash) (.ref Y.c_NoSide) = some false
  k_Clash_NoSteps : PySem.W.kitOne K (.ref Y.c_Clash) (.ref Y.c_NoSteps) = some false
  k_Clash_NoText : PySem.W.kitOne K (.ref Y.c_Clash) (.ref Y.c_NoText) = some false
  k_Clash_NoUses : PySem.W.kitOne K (.ref Y.c_Clash) (.ref Y.c_NoUses) = some false
  k_Clash_NoWord : PySem.W.kitOne K (.ref Y.c_Clash) (.ref Y.c_NoWord) = some false
end KA
/-! Looks in plain Lean. -/
namespace KA
open PySem PySem.Spec PyProof.Rows L2 DP
/-- a look: word, x, y -/
abbrev Lk := Str × Int × Int
def encL (l : Lk) : PyData := .tuple [.str l.1, .int l.2.1, .int l.2.2]
def WordOk (x : Str) : Prop := x = "at" ∨ x = "from" ∨ x = "upto"
def SideOk (x : Str) : Prop := x = "slow" ∨ x = "fast"
/-- the words of a side, by truth -/
def onSide (sd x : Str) : Bool := if sd = "slow" then (decide (x = "at") || decide (x = "from")) else (decide (x = "at") || decide (x = "upto"))
/-- where a look alone tells that x is led -/
def plc (sd : Str) (l : Lk) (x L : Int) : Int := if sd = "slow" then l.2.2 + (x - l.2.1) / L * L else l.2.2 - (l.2.1 - x) / L * L
def Sized (n : Nat) (l : Lk) : Prop := l.2.1.natAbs < 2 ^ n ∧ l.2.2.natAbs < 2 ^ n
theorem slow_ne : ¬ (("fast" : Str) = "slow") := by decide +kernel
theorem plc_slow (l : Lk) (x L : Int) : plc "slow" l x L = l.2.2 + (x - l.2.1) / L * L := if_pos rfl
theorem plc_fast (l : Lk) (x L : Int) : plc "fast" l x L = l.2.2 - (l.2.1 - x) / L * L := if_neg slow_ne
def tooFar (a b : Lk) (L : Int) : Bool := onSide "slow" a.1 && onSide "fast" b.1 && decide (b.2.2 < plc "slow" a b.2.1 L)
def clashB (a b : Lk) (L : Int) : Bool := tooFar a b L || tooFar b a L
/-- brought home -/
def home (L : Int) (l : Lk) : Lk := (l.1, l.2.1 - l.2.1 / L * L, l.2.2 - l.2.1 / L * L)
theorem nat_div {a L : Int} (h : 0 < L) : (a / L).natAbs ≤ a.natAbs + 1 := Nat.le_succ_of_le (Int.natAbs_ediv_le_natAbs a L)
theorem sub_lt {a b : Int} {n : Nat} (ha : a.natAbs < 2 ^ n) (hb : b.natAbs < 2 ^ n) : (a - b).natAbs < 2 ^ (n + 1) := by
  rw [Nat.pow_succ]; omega
theorem add_lt {a b : Int} {n : Nat} (ha : a.natAbs < 2 ^ n) (hb : b.natAbs < 2 ^ n) : (a + b).natAbs < 2 ^ (n + 1) := by
  rw [Nat.pow_succ]; omega
theorem div_lt {a L : Int} {n : Nat} (h : 0 < L) (ha : a.natAbs < 2 ^ n) : (a / L).natAbs < 2 ^ (n + 1) := by
  have := nat_div (a := a) h
  have h1 : 1 ≤ 2 ^ n := Nat.one_le_two_pow
  rw [Nat.pow_succ]; omega
theorem lt_up {a : Int} {m n : Nat} (ha : a.natAbs < 2 ^ m) (h : m ≤ n) : a.natAbs < 2 ^ n := Nat.lt_of_lt_of_le ha (Nat.pow_le_pow_right (by decide) h)
section
variable {K : PySem.W.Frag} {H : Hp}
theorem dp_look {v : V} {l : Lk} (h : Dp K H v (encL l)) : ∃ a, v = .ref a ∧ SqT K H a [.str l.1, .int l.2.1, .int l.2.2] := by
  have h' : Dp K H v (.tuple [.str l.1, .int l.2.1, .int l.2.2]) := h
  cases h' with
  | tup s a =>
    cases a with
    | cons a1 a =>
      cases a with
      | cons a2 a =>
        cases a with
        | cons a3 a =>
          cases a; cases a1; cases a2; cases a3
          exact ⟨_, rfl, s⟩
theorem dp_list {v : V} {ds : List PyData} (h : Dp K H v (.list ds)) : ∃ a xs, v = .ref a ∧ SqL K H a xs ∧ DpAll K H xs ds := by
  cases h with
  | lst s a => exact ⟨_, _, rfl, s, a⟩
end
theorem decl_words {x : Str} (h : WordOk x) : inV (.str x) [.str "at", .str "from"] = onSide "slow" x ∧ inV (.str x) [.str "at", .str "upto"] = onSide "fast" x ∧ inV (.str x) [.str "at", .str "from", .str "upto"] = true := by
  rcases h with e | e | e <;> subst e <;> decide +kernel
theorem yes_ite {σ : L2.St} {H : Hp} {A B : Hp → Prop} (h : A H) : tYes σ H (fun b H3 => if b = true then A H3 else B H3) := by
  show (if true = true then A H else B H)
  rw [if_pos rfl]
  exact h
/-- data without lists: tuples, numbers, texts -/
def noL : PyData → Bool
  | .list _ => false
  | .dict _ => false
  | .tuple xs => noLs xs
  | _ => true
where noLs : List PyData → Bool
  | [] => true
  | x :: xs => noL x && noLs xs
/-- tuples stand -/
def Tups (H H' : Hp) : Prop := ∀ b xs, Rd H b (.tup xs) → Rd H' b (.tup xs)
theorem Tups.of_same {H H' : Hp} (S : Same H H') : Tups H H' := fun _ _ h => DP.Same.rd S h
theorem Tups.upd_lst {H : Hp} {D : Addr} {ys : List V} {o : HO} (h : H D = some (.lst ys)) : Tups H (upd H D o) := fun b xs hb => by
  have hn : b ≠ D := by
    rintro rfl
    rcases hb with e | ⟨q, e⟩ <;> rw [h] at e <;> cases e
  rcases hb with e | ⟨q, e⟩
  · exact .inl ((upd_ne hn).trans e)
  · exact .inr ⟨q, (upd_ne hn).trans e⟩
theorem Tups.upd_ins {H : Hp} {D C dx : Addr} {fs : List (Str × V)} {o : HO} (h : H D = some (.ins C dx fs)) : Tups H (upd H D o) := fun b xs hb => by
  have hn : b ≠ D := by
    rintro rfl
    rcases hb with e | ⟨q, e⟩ <;> rw [h] at e <;> cases e
  rcases hb with e | ⟨q, e⟩
  · exact .inl ((upd_ne hn).trans e)
  · exact .inr ⟨q, (upd_ne hn).trans e⟩
theorem Tups.trans {H H1 H2 : Hp} (a : Tups H H1) (b : Tups H1 H2) : Tups H H2 := fun c xs h => b c xs (a c xs h)
section
variable {K : PySem.W.Frag} {H H' : Hp}
mutual
theorem dp_tups (S : Tups H H') : ∀ (d : PyData) (v : V), noL d = true → Dp K H v d → Dp K H' v d
  | .none, _, _, h => by cases h; exact .non
  | .bool _, _, _, h => by cases h; exact .bl _
  | .int _, _, _, h => by cases h; exact .int _
  | .str _, _, _, h => by cases h; exact .str _
  | .list _, _, n, _ => by simp [noL] at n
  | .dict _, _, n, _ => by simp [noL] at n
  | .tuple ds, _, n, h => by
    cases h with
    | tup s a =>
      refine .tup ?_ (dpAll_tups S ds _ (by simpa [noL] using n) a)
      rcases s with s | s
      · exact .inl (S _ _ s)
      · exact .inr s
theorem dpAll_tups (S : Tups H H') : ∀ (ds : List PyData) (vs : List V), noL.noLs ds = true → DpAll K H vs ds → DpAll K H' vs ds
  | [], _, _, h => by cases h; exact .nil
  | d :: ds, _, n, h => by
    rw [noL.noLs, Bool.and_eq_true] at n
    cases h with
    | cons a b => exact .cons (dp_tups S d _ n.1 a) (dpAll_tups S ds _ n.2 b)
end
theorem noLs_map {β : Type} {enc : β → PyData} (h : ∀ b, noL (enc b) = true) : ∀ bs : List β, noL.noLs (bs.map enc) = true
  | [] => rfl
  | b :: bs => by
    show noL.noLs (enc b :: bs.map enc) = true
    rw [noL.noLs, h b, noLs_map h bs]; rfl
theorem noL_encL (l : Lk) : noL (encL l) = true := rfl
/-- one more at the list that a comprehension makes -/
theorem acc_step {D : Addr} {ys : List V} {ds : List PyData} {y : V} {d : PyData} (hD : H D = some (.lst ys)) (hn : noL.noLs ds = true) (hd : noL d = true) (h : DpAll K H ys ds) (hy : Dp K H y d) :
    DpAll K (upd H D (.lst (ys ++ [y]))) (ys ++ [y]) (ds ++ [d]) :=
  dpAll_snoc (dpAll_tups (Tups.upd_lst hD) _ _ hn h) (dp_tups (Tups.upd_lst hD) _ _ hd hy)
end
theorem same_set {H : Hp} {p : Addr} {o : HO} {H1 : Hp} (S : Same H H1) (hn : H p = none) : Same H (upd H1 p o) := fun b u e => by rw [upd_ne (ne_of_none e hn)]; exact S b u e
theorem take_snoc {α : Type} : ∀ {l : List α} {i : Nat} {x : α}, l[i]? = some x → l.take (i + 1) = l.take i ++ [x]
  | [], i, x, h => by simp at h
  | a :: l, 0, x, h => by
    have e : a = x := Option.some.inj h
    subst e
    rfl
  | a :: l, i + 1, x, h => by
    have ih := take_snoc (l := l) (i := i) (x := x) h
    show a :: l.take (i + 1) = a :: l.take i ++ [x]
    rw [ih]; rfl
theorem map_at {α β : Type} {f : α → β} {l : List α} {i : Nat} {y : β} (h : (l.map f)[i]? = some y) : ∃ x, l[i]? = some x ∧ y = f x := by
  rw [List.getElem?_map] at h
  cases e : l[i]? with
  | none => rw [e] at h; cases h
  | some x => rw [e] at h; exact ⟨x, rfl, (Option.some.inj h).symm⟩
end KA
namespace KA
open PySem PySem.Spec PyProof.Rows L2 DP
def spPlace (K : PySem.W.Frag) : Sp := fun vs H Q _ => ∃ (v : V) (l : Lk) (sd : Str) (x L : Int), vs = [v, .str sd, .int x, .int L] ∧ Dp K H v (encL l) ∧ SideOk sd ∧ 0 < L ∧ L.natAbs < 2 ^ 200 ∧ x.natAbs < 2 ^ 400 ∧ Sized 400 l ∧ Q (.int (plc sd l x L)) H
def spFar (K : PySem.W.Frag) (f : Lk → Lk → Int → Bool) : Sp := fun vs H Q _ => ∃ (v u : V) (a b : Lk) (L : Int), vs = [v, u, .int L] ∧ Dp K H v (encL a) ∧ Dp K H u (encL b) ∧ WordOk a.1 ∧ WordOk b.1 ∧ 0 < L ∧ L.natAbs < 2 ^ 200 ∧ Sized 400 a ∧ Sized 400 b ∧ Q (.bl (f a b L)) H
section
variable {P : Program} {w : World} {K : PySem.W.Frag} {mg : Str → Option Value} {base : Heap} {Z : Ad}
theorem ok_place_by (T : Tx K w mg Z) : FnOk P w K mg base CX0 1 Z.a_place_by Z.d_place_by P_place_by (spPlace K) := by
  refine T.F_place_by.ok scplace_by (fun vs H Q E h => ?_) (fun cdv A outer s H vs Q E hr h => ?_)
  · obtain ⟨v, l, sd, x, L, rfl, _⟩ := h
    rfl
  · obtain ⟨v, l, sd, x, L, rfl, hv, hsd, hL, hLb, hx, hl, k⟩ := h
    obtain ⟨a, rfl, ha⟩ := dp_look hv
    refine ⟨_, (pss_cons (ps_asg (pv 0) (tupK (K := K) (by rfl) (pgs_cons (pg_name (i := 4) scplace_by.nd rfl (Or.inl rfl)) (pgs_cons (pg_name (i := 5) scplace_by.nd rfl (Or.inl rfl)) (pgs_cons (pg_name (i := 6) scplace_by.nd rfl (Or.inl rfl)) pgs_nil)))))
      (C8.pss_cut (ps_if (pt_cmpR op_eq (pv 1) (pe_glob rfl T.g_SLOW T.r_SLOW) (nomark _)) (pss_one (ps_ret (pe_op op_add (pv 6) (pe_op op_mulW (pe_op op_fdivW (pe_op op_sub (pv 2) (pv 5)) (pv 3)) (pv 3))))) pss_nil)
      (pss_one (ps_ret (pe_op op_sub (pv 6) (pe_op op_mulW (pe_op op_fdivW (pe_op op_sub (pv 5) (pv 2)) (pv 3)) (pv 3))))))), ?_⟩
    refine ⟨_, rfl, _, _, rfl, ha, rfl, _, _, rfl, _, _, rfl, _, _, rfl, rfl, ?_⟩
    have e1 : (x - l.2.1).natAbs < 2 ^ 401 := sub_lt hx hl.1
    have e2 : (l.2.1 - x).natAbs < 2 ^ 401 := sub_lt hl.1 hx
    rcases hsd with e | e
    · subst e
      rw [plc_slow] at k
      refine ⟨fun _ _ => False, ⟨_, rfl, rfl, _, rfl, iteT ⟨_, rfl, _, rfl, _, rfl, _, _, rfl, rfl, _, rfl, _, _, rfl, rfl, wide_div hL hLb (by decide) (by decide), _, rfl, _, _, rfl, rfl, wide_mul (div_lt hL e1) hLb (by decide) (by decide) (by decide), _, _, rfl, rfl, k⟩⟩, fun _ _ z => z.elim⟩
    · subst e
      rw [plc_fast] at k
      refine ⟨fun σ' H' => σ' = [some (.ref a), some (.str "fast"), some (.int x), some (.int L), some (.str l.1), some (.int l.2.1), some (.int l.2.2)] ∧ H' = H, ⟨_, rfl, rfl, _, rfl, ?_⟩, ?_⟩
      · have e3 : decide (V.str "fast" = V.str "slow") = false := by decide +kernel
        rw [e3]
        exact iteF ⟨rfl, rfl⟩
      · rintro σ1 H1 ⟨rfl, rfl⟩
        exact ⟨_, rfl, _, rfl, _, rfl, _, _, rfl, rfl, _, rfl, _, _, rfl, rfl, wide_div hL hLb (by decide) (by decide), _, rfl, _, _, rfl, rfl, wide_mul (div_lt hL e2) hLb (by decide) (by decide) (by decide), _, _, rfl, rfl, k⟩
theorem ok_too_far (T : Tx K w mg Z) : FnOk P w K mg base CX0 2 Z.a_too_far Z.d_too_far P_too_far (spFar K tooFar) := by
  refine T.F_too_far.ok sctoo_far (fun vs H Q E h => ?_) (fun cdv A outer s H vs Q E hr h => ?_)
  · obtain ⟨v, u, a, b, L, rfl, _⟩ := h
    rfl
  · obtain ⟨v, u, a, b, L, rfl, hv, hu, wa, wb, hL, hLb, sa, sb, k⟩ := h
    obtain ⟨p, rfl, hp⟩ := dp_look hv
    obtain ⟨q, rfl, hq⟩ := dp_look hu
    obtain ⟨es, n, DW⟩ := T.kd_WORDS
    obtain ⟨da1, da2, _⟩ := decl_words wa
    obtain ⟨db1, db2, _⟩ := decl_words wb
    refine ⟨_, (C8.pss_cut (ps_if (PW.pt (pw_or (pt_cmpR (notInS (K := K)) (pe_ix (ixT (K := K)) (pv 0) pe_int (fun _ _ => rfl)) (pe_ix (ix_kd DW) (pe_glob (v := .ref Z.a_WORDS) rfl T.g_WORDS rfl) (pe_glob rfl T.g_SLOW T.r_SLOW) (fun _ _ => rfl)) (by rfl)) (pw_or1 (pt_cmpR (notInS (K := K)) (pe_ix (ixT (K := K)) (pv 1) pe_int (fun _ _ => rfl)) (pe_ix (ix_kd DW) (pe_glob (v := .ref Z.a_WORDS) rfl T.g_WORDS rfl) (pe_glob rfl T.g_FAST T.r_FAST) (fun _ _ => rfl)) (by rfl))))) (pss_one (ps_ret pe_bl)) pss_nil)
      (pss_one (ps_ret (pe_cmpR op_gt (pe_call (ok_place_by T) (hr.mono (by decide)) (by rfl) T.g_place_by T.F_place_by.kp T.bb_place_by .nil pass0 (pa_cons (pv 0) (pa_cons (pe_glob rfl T.g_SLOW T.r_SLOW) (pa_cons (pe_ix (ixT (K := K)) (pv 1) pe_int (fun _ _ => rfl)) (pa_cons (pv 2) pa_nil))))) (pe_ix (ixT (K := K)) (pv 1) pe_int (fun _ _ => rfl)) (nomark _))))), ?_⟩
    unfold tooFar at k
    refine ⟨fun σ' H' => σ' = [some (.ref p), some (.ref q), some (.int L)] ∧ H' = H ∧ onSide "slow" a.1 = true ∧ onSide "fast" b.1 = true, ?_, ?_⟩
    · refine ⟨_, rfl, _, _, _, _, rfl, rfl, hp, rfl, _, _, .ref Z.t_slow, rfl, rfl, T.w_slow, rfl, _, _, rfl, .inr (T.q_slow _), rfl, rfl, _, rfl, ?_⟩
      cases c1 : onSide "slow" a.1 with
      | false =>
        rw [c1] at da1 k
        have : (if true = true then !inV (V.str a.1) [V.str "at", V.str "from"] else inV (V.str a.1) [V.str "at", V.str "from"]) = true := by rw [if_pos rfl, da1]; rfl
        rw [this]
        exact iteT (iteT k)
      | true =>
        rw [c1] at da1
        have : (if true = true then !inV (V.str a.1) [V.str "at", V.str "from"] else inV (V.str a.1) [V.str "at", V.str "from"]) = false := by rw [if_pos rfl, da1]; rfl
        rw [this]
        refine iteF ⟨_, rfl, _, _, _, _, rfl, rfl, hq, rfl, _, _, .ref Z.t_fast, rfl, rfl, T.w_fast, rfl, _, _, rfl, .inr (T.q_fast _), rfl, rfl, _, rfl, ?_⟩
        cases c2 : onSide "fast" b.1 with
        | false =>
          rw [c2] at db2
          rw [c1, c2] at k
          have : (if true = true then !inV (V.str b.1) [V.str "at", V.str "upto"] else inV (V.str b.1) [V.str "at", V.str "upto"]) = true := by rw [if_pos rfl, db2]; rfl
          rw [this]
          exact iteT k
        | true =>
          rw [c2] at db2
          have : (if true = true then !inV (V.str b.1) [V.str "at", V.str "upto"] else inV (V.str b.1) [V.str "at", V.str "upto"]) = false := by rw [if_pos rfl, db2]; rfl
          rw [this]
          exact iteF ⟨rfl, rfl, rfl, rfl⟩
    · rintro σ1 H1 ⟨rfl, rfl, c1, c2⟩
      rw [c1, c2] at k
      refine ⟨_, rfl, _, rfl, _, _, _, _, rfl, rfl, hq, rfl, _, rfl, ?_⟩
      exact ⟨_, a, "slow", b.2.1, L, rfl, hv, .inl rfl, hL, hLb, sb.1, sa, _, rfl, _, _, _, _, rfl, rfl, hq, rfl, _, _, rfl, rfl, k⟩
theorem ok_clash (T : Tx K w mg Z) : FnOk P w K mg base CX0 3 Z.a_clash Z.d_clash P_clash (spFar K clashB) := by
  refine T.F_clash.ok scclash (fun vs H Q E h => ?_) (fun cdv A outer s H vs Q E hr h => ?_)
  · obtain ⟨v, u, a, b, L, rfl, _⟩ := h
    rfl
  · obtain ⟨v, u, a, b, L, rfl, hv, hu, wa, wb, hL, hLb, sa, sb, k⟩ := h
    refine ⟨_, (pss_one (ps_ret (pe_or (pe_call (ok_too_far T) (hr.mono (by decide)) (by rfl) T.g_too_far T.F_too_far.kp T.bb_too_far .nil pass0 (pa_cons (pv 0) (pa_cons (pv 1) (pa_cons (pv 2) pa_nil)))) (pe_one (pe_call (ok_too_far T) (hr.mono (by decide)) (by rfl) T.g_too_far T.F_too_far.kp T.bb_too_far .nil pass0 (pa_cons (pv 1) (pa_cons (pv 0) (pa_cons (pv 2) pa_nil)))))))), ?_⟩
    unfold clashB at k
    refine ⟨_, rfl, _, rfl, _, rfl, v, u, a, b, L, rfl, hv, hu, wa, wb, hL, hLb, sa, sb, _, rfl, ?_⟩
    cases c : tooFar a b L with
    | true => rw [c] at k; exact iteT k
    | false =>
      rw [c] at k
      exact iteF ⟨_, rfl, _, rfl, _, rfl, u, v, b, a, L, rfl, hu, hv, wb, wa, hL, hLb, sb, sa, k⟩
end
end KA
namespace KA
open PySem PySem.Spec PyProof.Rows L2 DP
def sideOf (sd : Str) (ls : List Lk) : List Lk := ls.filter fun l => onSide sd l.1
def spSide (K : PySem.W.Frag) : Sp := fun vs H Q _ => ∃ (v : V) (ls : List Lk) (sd : Str), vs = [v, .str sd] ∧ Dp K H v (.list (ls.map encL)) ∧ SideOk sd ∧ (∀ l ∈ ls, WordOk l.1) ∧ ls.length ≤ 1000 ∧
  ∀ H' p, H p = none → Same H H' → (∃ vs, H' p = some (.lst vs) ∧ DpAll K H' vs ((sideOf sd ls).map encL)) → Q (.ref p) H'
/-- a step: where, by which look -/
def encS (sd : Str) (x L : Int) (l : Lk) : PyData := .tuple [.int (plc sd l x L), encL l]
/-- the best step's place -/
def IsBest (sd : Str) (ls : List Lk) (x L m : Int) : Prop := (∃ l ∈ ls, plc sd l x L = m) ∧ ∀ l ∈ ls, if sd = "slow" then plc sd l x L ≤ m else m ≤ plc sd l x L
def spBest (K : PySem.W.Frag) : Sp := fun vs H Q _ => ∃ (v : V) (ls : List Lk) (sd : Str) (x L : Int), vs = [v, .str sd, .int x, .int L] ∧ Dp K H v (.list (ls.map encL)) ∧ SideOk sd ∧ (∀ l ∈ ls, WordOk l.1 ∧ Sized 400 l) ∧ ls.length ≤ 1000 ∧ 0 < L ∧ L.natAbs < 2 ^ 200 ∧ x.natAbs < 2 ^ 400 ∧
  (ls = [] → Q .non H) ∧ ∀ H' r l, l ∈ ls → Same H H' → IsBest sd ls x L (plc sd l x L) → Dp K H' r (encS sd x L l) → Q r H'
/-! ### the best step -/
theorem alike_step (sd : Str) (x L : Int) (a b : Lk) : PySem.W.alike (encS sd x L a) (encS sd x L b) = true := by simp [encS, encL, PySem.W.alike, PySem.W.alikeAll]
theorem steps_alike (sd : Str) (x L : Int) (ls : List Lk) : PySem.W.AlikeAll (ls.map (encS sd x L)) := by
  refine ⟨fun a ha b hb => ?_, fun a ha => ?_⟩
  · obtain ⟨p, _, rfl⟩ := List.mem_map.mp ha
    obtain ⟨q, _, rfl⟩ := List.mem_map.mp hb
    exact alike_step _ _ _ _ _
  · obtain ⟨p, _, rfl⟩ := List.mem_map.mp ha
    exact fun e => by cases e
theorem lay_look {l : Lk} (h : WordOk l.1) : (encL l).canLay0 = true := by
  obtain ⟨a, b, c⟩ := l
  have h : WordOk a := h
  rcases h with e | e | e <;> subst e <;> simp [encL, PyData.canLay0, PyData.canLayAll0] <;> decide +kernel
theorem steps_lay (sd : Str) (x L : Int) : ∀ ls : List Lk, (∀ l ∈ ls, WordOk l.1) → PyData.canLayAll0 (ls.map (encS sd x L)) = true
  | [], _ => rfl
  | l :: ls, h => by
    have h1 := lay_look (h l List.mem_cons_self)
    have h2 := steps_lay sd x L ls fun q hq => h q (List.mem_cons_of_mem _ hq)
    show PyData.canLayAll0 (encS sd x L l :: ls.map (encS sd x L)) = true
    simp [PyData.canLayAll0, h2, encS, PyData.canLay0, h1]
theorem steps_depth (sd : Str) (x L : Int) : ∀ ls : List Lk, PyData.depthAll (ls.map (encS sd x L)) ≤ 60
  | [] => by simp [PyData.depthAll]
  | l :: ls => by
    have h2 := steps_depth sd x L ls
    show PyData.depthAll (encS sd x L l :: ls.map (encS sd x L)) ≤ 60
    have h3 : (encS sd x L l).depth = 2 := by simp [encS, encL, PyData.depth, PyData.depthAll]
    rw [PyData.depthAll, h3]
    omega
/-- a greater place is a greater step -/
theorem lt_step {sd : Str} {x L : Int} {a b : Lk} (h : plc sd a x L < plc sd b x L) : PySem.W.dataLt (encS sd x L a) (encS sd x L b) = true := by
  unfold encS
  rw [PySem.W.dataLt_tuple, PySem.W.dataLt_cons (by simp [PySem.W.alike])]
  have e : PyData.eqv (.int (plc sd a x L)) (.int (plc sd b x L)) = false := by simp [PyData.eqv]; omega
  rw [e, if_neg Bool.false_ne_true, PySem.W.dataLt_int]
  exact decide_eq_true h
theorem le_step {sd : Str} {x L : Int} {a b : Lk} (h : PySem.W.dataLt (encS sd x L a) (encS sd x L b) = true) : plc sd a x L ≤ plc sd b x L := by
  unfold encS at h
  rw [PySem.W.dataLt_tuple, PySem.W.dataLt_cons (by simp [PySem.W.alike])] at h
  by_cases e : plc sd a x L = plc sd b x L
  · omega
  · have e' : PyData.eqv (.int (plc sd a x L)) (.int (plc sd b x L)) = false := by simp [PyData.eqv]; omega
    rw [e', if_neg Bool.false_ne_true, PySem.W.dataLt_int] at h
    have := of_decide_eq_true h
    omega
theorem max_go (x L : Int) : ∀ (ls : List Lk) (l : Lk), ∃ q, (q = l ∨ q ∈ ls) ∧ (ls.map (encS "slow" x L)).foldl (fun a y => if PySem.W.dataLt a y then y else a) (encS "slow" x L l) = encS "slow" x L q ∧ plc "slow" l x L ≤ plc "slow" q x L ∧ ∀ p ∈ ls, plc "slow" p x L ≤ plc "slow" q x L
  | [], l => ⟨l, .inl rfl, rfl, Int.le_refl _, fun _ h => by cases h⟩
  | y :: ls, l => by
    rw [List.map_cons, List.foldl_cons]
    cases c : PySem.W.dataLt (encS "slow" x L l) (encS "slow" x L y) with
    | true =>
      rw [if_pos rfl]
      obtain ⟨q, hq, e, h1, h2⟩ := max_go x L ls y
      have := le_step c
      refine ⟨q, ?_, e, by omega, fun p hp => ?_⟩
      · rcases hq with e | e
        · subst e; exact .inr List.mem_cons_self
        · exact .inr (List.mem_cons_of_mem _ e)
      · rcases List.mem_cons.mp hp with e | e
        · subst e; exact h1
        · exact h2 p e
    | false =>
      rw [if_neg Bool.false_ne_true]
      obtain ⟨q, hq, e, h1, h2⟩ := max_go x L ls l
      refine ⟨q, ?_, e, h1, fun p hp => ?_⟩
      · rcases hq with e | e
        · exact .inl e
        · exact .inr (List.mem_cons_of_mem _ e)
      · rcases List.mem_cons.mp hp with e | e
        · subst e
          by_cases hlt : plc "slow" l x L < plc "slow" p x L
          · rw [lt_step hlt] at c; cases c
          · omega
        · exact h2 p e
theorem max_step (x L : Int) (l : Lk) (ls : List Lk) : ∃ q, q ∈ l :: ls ∧ PySem.W.maxD (encS "slow" x L l) (ls.map (encS "slow" x L)) = encS "slow" x L q ∧ IsBest "slow" (l :: ls) x L (plc "slow" q x L) := by
  obtain ⟨q, hq, e, h1, h2⟩ := max_go x L ls l
  have hm : q ∈ l :: ls := by
    rcases hq with e | e
    · subst e; exact List.mem_cons_self
    · exact List.mem_cons_of_mem _ e
  refine ⟨q, hm, e, ⟨q, hm, rfl⟩, fun p hp => ?_⟩
  rw [if_pos rfl]
  rcases List.mem_cons.mp hp with e | e
  · subst e; exact h1
  · exact h2 p e
theorem min_go (x L : Int) : ∀ (ls : List Lk) (l : Lk), ∃ q, (q = l ∨ q ∈ ls) ∧ (ls.map (encS "fast" x L)).foldl (fun a y => if PySem.W.dataLt y a then y else a) (encS "fast" x L l) = encS "fast" x L q ∧ plc "fast" q x L ≤ plc "fast" l x L ∧ ∀ p ∈ ls, plc "fast" q x L ≤ plc "fast" p x L
  | [], l => ⟨l, .inl rfl, rfl, Int.le_refl _, fun _ h => by cases h⟩
  | y :: ls, l => by
    rw [List.map_cons, List.foldl_cons]
    cases c : PySem.W.dataLt (encS "fast" x L y) (encS "fast" x L l) with
    | true =>
      rw [if_pos rfl]
      obtain ⟨q, hq, e, h1, h2⟩ := min_go x L ls y
      have := le_step c
      refine ⟨q, ?_, e, by omega, fun p hp => ?_⟩
      · rcases hq with e | e
        · subst e; exact .inr List.mem_cons_self
        · exact .inr (List.mem_cons_of_mem _ e)
      · rcases List.mem_cons.mp hp with e | e
        · subst e; exact h1
        · exact h2 p e
    | false =>
      rw [if_neg Bool.false_ne_true]
      obtain ⟨q, hq, e, h1, h2⟩ := min_go x L ls l
      refine ⟨q, ?_, e, h1, fun p hp => ?_⟩
      · rcases hq with e | e
        · exact .inl e
        · exact .inr (List.mem_cons_of_mem _ e)
      · rcases List.mem_cons.mp hp with e | e
        · subst e
          by_cases hlt : plc "fast" p x L < plc "fast" l x L
          · rw [lt_step hlt] at c; cases c
          · omega
        · exact h2 p e
theorem min_step (x L : Int) (l : Lk) (ls : List Lk) : ∃ q, q ∈ l :: ls ∧ PySem.W.minD (encS "fast" x L l) (ls.map (encS "fast" x L)) = encS "fast" x L q ∧ IsBest "fast" (l :: ls) x L (plc "fast" q x L) := by
  obtain ⟨q, hq, e, h1, h2⟩ := min_go x L ls l
  have hm : q ∈ l :: ls := by
    rcases hq with e | e
    · subst e; exact List.mem_cons_self
    · exact List.mem_cons_of_mem _ e
  refine ⟨q, hm, e, ⟨q, hm, rfl⟩, fun p hp => ?_⟩
  rw [if_neg slow_ne]
  rcases List.mem_cons.mp hp with e | e
  · subst e; exact h1
  · exact h2 p e
section
variable {P : Program} {w : World} {K : PySem.W.Frag} {mg : Str → Option Value} {base : Heap} {Z : Ad}
theorem words_side {sd x : Str} (hs : SideOk sd) (hx : WordOk x) : inV (.str x) (if sd = "slow" then [.str "at", .str "from"] else [.str "at", .str "upto"]) = onSide sd x := by
  obtain ⟨h1, h2, _⟩ := decl_words hx
  rcases hs with e | e
  · subst e; rw [if_pos rfl]; exact h1
  · subst e; rw [if_neg slow_ne]; exact h2
theorem ok_side_looks (T : Tx K w mg Z) : FnOk P w K mg base CX0 1 Z.a_side_looks Z.d_side_looks P_side_looks (spSide K) := by
  refine T.F_side_looks.ok scside_looks (fun vs H Q E h => ?_) (fun cdv A outer s H vs Q E hr h => ?_)
  · obtain ⟨v, ls, sd, rfl, _⟩ := h
    rfl
  · obtain ⟨v, ls, sd, rfl, hv, hsd, hw, hlen, k⟩ := h
    obtain ⟨a, xs, rfl, ha, hd⟩ := dp_list hv
    obtain ⟨es, n, DW⟩ := T.kd_WORDS
    have hxl : xs.length = ls.length := by rw [dpAll_len hd, List.length_map]
    obtain ⟨tw, htw, hqw⟩ : ∃ tw, PySem.W.nsIn K Z.a_WORDS sd = some (some (.ref tw)) ∧ ∀ H, SqT K H tw (if sd = "slow" then [.str "at", .str "from"] else [.str "at", .str "upto"]) := by
      rcases hsd with e | e
      · subst e; exact ⟨_, T.w_slow, fun H => by rw [if_pos rfl]; exact T.q_slow H⟩
      · subst e; exact ⟨_, T.w_fast, fun H => by rw [if_neg slow_ne]; exact T.q_fast H⟩
    refine ⟨_, (pss_cons (ps_set (i := 2) scside_looks.nd rfl (Or.inr rfl) (pe_ix (ix_kd DW) (pe_glob (v := .ref Z.a_WORDS) rfl T.g_WORDS rfl) (pv 1) (fun _ _ => rfl)))
      (pss_one (ps_ret (pe_lc (own := [("look", 3)]) (g := gName 3) (tt := _) rfl scside_looks.nd (pi_list (pv 0)) (blkOk_by (own := [("look", 3)]) (N := N_side_looks) (sc := defScope sside_looks) (by decide +kernel)) (fun _ _ _ _ _ => (pg_name (i := 3) scside_looks.nd rfl (Or.inl rfl))) (fun _ _ _ _ _ => (pts_one (pt_cmpR (inS (K := K)) (pe_ix (ixT (K := K)) (pv 3) pe_int (fun _ _ => rfl)) (pv 2) (by rfl)))) (fun _ _ _ _ _ => (pv 3)))))), ?_⟩
    refine ⟨_, rfl, sd, _, .ref tw, rfl, rfl, htw, rfl, _, rfl, a, rfl, ⟨_, ha⟩, fun D hD => ?_⟩
    refine lc_list (K := K) (a := a) (xs := xs) (fun i H' => Same H H' ∧ ∃ ys, H' D = some (.lst ys) ∧ ys.length ≤ i ∧ DpAll K H' ys ((sideOf sd (ls.take i)).map encL)) ⟨same_upd hD, [], upd_same, Nat.le_refl _, .nil⟩ (fun i H' _ ⟨S, _⟩ => Same.sqL S ha) ?_ ?_
    · rintro i y H' hi ⟨S, ys, hD', hyl, hds⟩
      obtain ⟨d, hdi, hdy⟩ := dpAll_get hd hi
      obtain ⟨l, hl, rfl⟩ := map_at hdi
      have hwl := hw l (List.mem_of_getElem? hl)
      have hdy' := dp_mono S _ _ hdy
      obtain ⟨p, rfl, hp⟩ := dp_look hdy'
      refine ⟨rfl, _, rfl, _, _, _, _, rfl, rfl, hp, rfl, _, rfl, _, _, rfl, .inr (hqw _), rfl, ?_, _, rfl, ?_⟩
      · split <;> rfl
      · have e1 : (if false = true then !inV (V.str l.1) (if sd = "slow" then [V.str "at", V.str "from"] else [V.str "at", V.str "upto"]) else inV (V.str l.1) (if sd = "slow" then [V.str "at", V.str "from"] else [V.str "at", V.str "upto"])) = onSide sd l.1 := by
          rw [if_neg Bool.false_ne_true]; exact words_side hsd hwl
        rw [e1]
        have e2 : sideOf sd (ls.take (i + 1)) = sideOf sd (ls.take i) ++ (if onSide sd l.1 = true then [l] else []) := by
          rw [take_snoc hl]; unfold sideOf; rw [List.filter_append]
          cases c : onSide sd l.1 <;> simp [c]
        cases c : onSide sd l.1 with
        | false =>
          refine iteF ⟨S, ys, hD', by omega, ?_⟩
          rw [e2, c]
          simpa using hds
        | true =>
          refine iteT ⟨_, rfl, ys, hD', ?_, ?_, _, upd_same, by simp; omega, ?_⟩
          · have : ys.length ≤ 1000 := by
              have := (List.getElem?_eq_some_iff.mp hl).1
              omega
            exact small1000 this
          · exact same_set S hD
          · rw [e2, c, if_pos rfl, List.map_append]
            exact acc_step hD' (noLs_map noL_encL _) rfl hds hdy'
    · rintro H' ⟨S, ys, hD', hyl, hds⟩
      rw [List.take_of_length_le (by rw [hxl]; exact Nat.le_refl _)] at hds
      exact k H' D hD S ⟨ys, hD', hds⟩
theorem ok_best_step (T : Tx K w mg Z) : FnOk P w K mg base CX0 2 Z.a_best_step Z.d_best_step P_best_step (spBest K) := by
  refine T.F_best_step.ok scbest_step (fun vs H Q E h => ?_) (fun cdv A outer s H vs Q E hr h => ?_)
  · obtain ⟨v, ls, sd, x, L, rfl, _⟩ := h
    rfl
  · obtain ⟨v, ls, sd, x, L, rfl, hv, hsd, hw, hlen, hL, hLb, hx, k0, k⟩ := h
    obtain ⟨a, xs, rfl, ha, hd⟩ := dp_list hv
    have hxl : xs.length = ls.length := by rw [dpAll_len hd, List.length_map]
    refine ⟨_, (C8.pss_cut (ps_if (pt_not (pt_truth (pv 0) (by intro _; rfl))) (pss_one (ps_ret pe_non)) pss_nil)
      (pss_cons (ps_setLc (i := 4) (own := [("look", 5)]) (g := gName 5) (tt := tYes) rfl scbest_step.nd rfl rfl (sw_true rfl rfl rfl (by decide +kernel)) (pi_list (pv 0)) (blkOk_by (own := [("look", 5)]) (N := N_best_step) (sc := defScope sbest_step) (by decide +kernel)) (fun _ _ _ _ _ => (pg_name (i := 5) scbest_step.nd rfl (Or.inl rfl))) (fun _ _ _ _ _ => pts_nil) (fun _ _ _ _ _ => (pe_tup (pa_cons (pe_call (ok_place_by T) (hr.mono (by decide)) (by rfl) T.g_place_by T.F_place_by.kp T.bb_place_by .nil pass0 (pa_cons (pv 5) (pa_cons (pv 1) (pa_cons (pv 2) (pa_cons (pv 3) pa_nil))))) (pa_cons (pv 5) pa_nil)))))
      (pss_one (ps_ret (pe_ifExp (pt_cmpR op_eq (pv 1) (pe_glob rfl T.g_SLOW T.r_SLOW) (nomark _)) (pe_callB (maxDK (K := K) rfl (rooms hr)) (by rfl) T.b_max (by decide +kernel) (pa_cons (pv 4) pa_nil)) (pe_callB (minDK (K := K) rfl (rooms hr)) (by rfl) T.b_min (by decide +kernel) (pa_cons (pv 4) pa_nil))))))), ?_⟩
    refine ⟨fun σ' H' => σ' = [some (.ref a), some (.str sd), some (.int x), some (.int L), none, none] ∧ H' = H ∧ ls ≠ [], ?_, ?_⟩
    · refine ⟨_, rfl, _, .inl ⟨xs, ha, rfl⟩, ?_⟩
      cases ls with
      | nil =>
        have e : xs = [] := List.eq_nil_of_length_eq_zero hxl
        subst e
        exact iteT (k0 rfl)
      | cons l ls =>
        cases xs with
        | nil => simp at hxl
        | cons y ys => exact iteF ⟨rfl, rfl, by simp⟩
    · rintro σ1 H1 ⟨rfl, rfl, hne⟩
      refine ⟨_, rfl, a, rfl, ⟨_, ha⟩, fun D hD => ?_⟩
      refine lc_list (K := K) (a := a) (xs := xs) (fun i H' => Same H1 H' ∧ ∃ ys, H' D = some (.lst ys) ∧ ys.length ≤ i ∧ DpAll K H' ys ((ls.take i).map (encS sd x L))) ⟨same_upd hD, [], upd_same, Nat.le_refl _, .nil⟩ (fun i H' _ ⟨S, _⟩ => Same.sqL S ha) ?_ ?_
      · rintro i y H' hi ⟨S, ys, hD', hyl, hds⟩
        obtain ⟨d, hdi, hdy⟩ := dpAll_get hd hi
        obtain ⟨l, hl, rfl⟩ := map_at hdi
        have hwl := hw l (List.mem_of_getElem? hl)
        have hdy' := dp_mono S _ _ hdy
        refine ⟨rfl, yes_ite ?_⟩
        refine ⟨_, rfl, _, rfl, _, rfl, _, rfl, y, l, sd, x, L, rfl, hdy', hsd, hL, hLb, hx, hwl.2, _, rfl, (by show 2 ≤ sizeLine; decide), fun p hp => ?_⟩
        have hD2 : (upd H' p (.tup [.int (plc sd l x L), y])) D = some (.lst ys) := (upd_ne (ne_of_none hD' hp)).trans hD'
        have S2 := same_upd (o := HO.tup [.int (plc sd l x L), y]) hp
        refine ⟨ys, hD2, ?_, same_set (S.trans S2) hD, _, upd_same, by simp; omega, ?_⟩
        · have := (List.getElem?_eq_some_iff.mp hl).1
          exact small1000 (by omega)
        · rw [take_snoc hl, List.map_append]
          exact acc_step hD2 (noLs_map (fun _ => rfl) _) rfl (dpAll_mono S2 _ _ hds) (.tup (SqT.of upd_same) (.cons (.int _) (.cons (dp_mono S2 _ _ hdy') .nil)))
      · rintro H' ⟨S, ys, hD', hyl, hds⟩
        rw [List.take_of_length_le (by rw [hxl]; exact Nat.le_refl _)] at hds
        refine ⟨_, rfl, rfl, _, rfl, ?_⟩
        have hd0 : ∃ l ls', ls = l :: ls' := by
          cases ls with
          | nil => exact absurd rfl hne
          | cons l ls' => exact ⟨l, ls', rfl⟩
        obtain ⟨l, ls', rfl⟩ := hd0
        have hal := steps_alike sd x L (l :: ls')
        have hlay := steps_lay sd x L (l :: ls') (fun q hq => (hw q hq).1)
        have hdep := steps_depth sd x L (l :: ls')
        rcases hsd with e | e
        · subst e
          refine iteT ⟨_, rfl, D, ys, _, _, rfl, SqL.of hD', hds, hal, hlay, hdep, fun r hr => ?_⟩
          obtain ⟨q, hq, e, hb⟩ := max_step x L l ls'
          rw [e] at hr
          exact k H' r q hq S hb hr
        · subst e
          have e3 : decide (V.str "fast" = V.str "slow") = false := by decide +kernel
          rw [e3]
          refine iteF ⟨_, rfl, D, ys, _, _, rfl, SqL.of hD', hds, hal, hlay, hdep, fun r hr => ?_⟩
          obtain ⟨q, hq, e, hb⟩ := min_step x L l ls'
          rw [e] at hr
          exact k H' r q hq S hb hr
end
end KA
namespace KA
open PySem PySem.Spec PyProof.Rows L2 DP
/-- a Dark's fields -/
def df (L : Int) (la : Addr) : List (Str × V) := [("_length", .int L), ("_looks", .ref la)]
theorem ne_ll : ¬ (("_looks" : Str) = "_length") := by decide +kernel
theorem ne_ll' : ¬ (("_length" : Str) = "_looks") := by decide +kernel
theorem df_length (L : Int) (la : Addr) : (df L la).lookup ("_length" : Str) = some (.int L) := by simp [df, List.lookup]
theorem df_looks (L : Int) (la : Addr) : (df L la).lookup ("_looks" : Str) = some (.ref la) := by
  have h : (("_looks" : Str) == ("_length" : Str)) = false := by decide +kernel
  simp [df, List.lookup, h]
theorem df_no (L : Int) (la : Addr) {m : Str} (h1 : (m == ("_length" : Str)) = false) (h2 : (m == ("_looks" : Str)) = false) : (df L la).lookup m = none := by simp [df, List.lookup, h1, h2]
theorem df_put1 (v : V) : putF "_length" v [] = [(("_length" : Str), v)] := rfl
theorem df_put2 (L : Int) (la : Addr) : putF "_looks" (.ref la) [("_length", .int L)] = df L la := by
  show (if ("_length" : Str) = "_looks" then _ else _) = _
  rw [if_neg ne_ll']; rfl
theorem df_put3 (L : Int) (la lb : Addr) : putF "_looks" (.ref lb) (df L la) = df L lb := by
  show (if ("_length" : Str) = "_looks" then _ else (("_length" : Str), V.int L) :: putF "_looks" (.ref lb) [("_looks", .ref la)]) = _
  rw [if_neg ne_ll']
  show (("_length" : Str), V.int L) :: (if ("_looks" : Str) = "_looks" then _ else _) = _
  rw [if_pos rfl]; rfl
/-- what is free there was free before -/
structure FreeIn (H H' : Hp) : Prop where
  free : ∀ {b : Addr}, H' b = none → H b = none
structure DarkAt (Z : Ad) (K : PySem.W.Frag) (H : Hp) (d : Addr) (L : Int) (ls : List Lk) : Prop where
  ex : ∃ dx la vs, H d = some (.ins Z.C dx (df L la)) ∧ H la = some (.lst vs) ∧ DpAll K H vs (ls.map encL)
  pos : 0 < L
  big : L.natAbs < 2 ^ 200
  ok : ∀ l ∈ ls, WordOk l.1 ∧ Sized 302 l
  len : ls.length ≤ 60
theorem DarkAt.same {Z : Ad} {K : PySem.W.Frag} {H H' : Hp} {d : Addr} {L : Int} {ls : List Lk} (D : DarkAt Z K H d L ls) (S : Same H H') : DarkAt Z K H' d L ls := by
  obtain ⟨dx, la, vs, h1, h2, h3⟩ := D.ex
  exact ⟨⟨dx, la, vs, S _ _ h1, S _ _ h2, dpAll_mono S _ _ h3⟩, D.pos, D.big, D.ok, D.len⟩
theorem Sized.up {m n : Nat} {l : Lk} (h : Sized m l) (hm : m ≤ n) : Sized n l := ⟨lt_up h.1 hm, lt_up h.2 hm⟩
theorem df_inj {C C' dx dx' : Addr} {L L' : Int} {la la' : Addr} (h : some (HO.ins C dx (df L la)) = some (HO.ins C' dx' (df L' la'))) : la = la' := by
  have h1 : df L la = df L' la' := by injection h with h; injection h
  simp [df] at h1
  exact h1.2
def spInit (Z : Ad) (K : PySem.W.Frag) : Sp := fun vs H Q _ => ∃ (d dx : Addr) (L : Int), vs = [.ref d, .int L] ∧ H d = some (.ins Z.C dx []) ∧ 0 < L ∧ L.natAbs < 2 ^ 200 ∧ ∀ H' : Hp, DarkAt Z K H' d L [] → (∀ la dx, H' d = some (.ins Z.C dx (df L la)) → H la = none) → (∀ b o, H b = some o → b ≠ d → H' b = some o) → Q .non H'
def spLooks (Z : Ad) (K : PySem.W.Frag) : Sp := fun vs H Q _ => ∃ (d : Addr) (L : Int) (ls : List Lk), vs = [.ref d] ∧ DarkAt Z K H d L ls ∧ ∀ (p : Addr) (xs : List V) (H' : Hp), H p = none → Same H H' → H' p = some (.lst xs) → DpAll K H' xs (ls.map encL) → Q (.ref p) H'
def spWord : Sp := fun vs H Q _ => ∃ (d : V) (x : Str), vs = [d, .str x] ∧ WordOk x ∧ Q .non H
def spHome (Z : Ad) (K : PySem.W.Frag) : Sp := fun vs H Q _ => ∃ (d : Addr) (L : Int) (ls : List Lk) (l : Lk), vs = [.ref d, .str l.1, .int l.2.1, .int l.2.2] ∧ DarkAt Z K H d L ls ∧ WordOk l.1 ∧ Sized 300 l ∧ ∀ H' r, Same H H' → Dp K H' r (encL (home L l)) → Q r H'
def spClashing (Z : Ad) (K : PySem.W.Frag) : Sp := fun vs H Q _ => ∃ (d : Addr) (v : V) (L : Int) (ls : List Lk) (l : Lk), vs = [.ref d, v] ∧ DarkAt Z K H d L ls ∧ Dp K H v (encL l) ∧ WordOk l.1 ∧ Sized 302 l ∧
  (ls.find? (fun o => clashB l o L) = none → Q .non H) ∧ ∀ o r, ls.find? (fun o => clashB l o L) = some o → Dp K H r (encL o) → Q r H
/-- what is heard -/
def heard (L : Int) (ls : List Lk) (l : Lk) : List Lk := if home L l ∈ ls then ls else (ls ++ [home L l]).mergeSort (PySem.W.dataLe false encL)
def spHear (Z : Ad) (K : PySem.W.Frag) : Sp := fun vs H Q _ => ∃ (d : Addr) (L : Int) (ls : List Lk) (l : Lk), vs = [.ref d, .str l.1, .int l.2.1, .int l.2.2] ∧ DarkAt Z K H d L ls ∧ WordOk l.1 ∧ Sized 300 l ∧ ls.length < 60 ∧ (∀ o ∈ ls, clashB (home L l) o L = false) ∧
  ∀ H', DarkAt Z K H' d L (heard L ls l) → (∀ la dx, H' d = some (.ins Z.C dx (df L la)) → (∃ dx', H d = some (.ins Z.C dx' (df L la))) ∨ H la = none) → (∀ b o, H b = some o → b ≠ d → H' b = some o) → Q .non H'
def spBound (Z : Ad) (K : PySem.W.Frag) : Sp := fun vs H Q _ => ∃ (d : Addr) (L : Int) (ls : List Lk) (sd : Str) (x : Int), vs = [.ref d, .str sd, .int x] ∧ DarkAt Z K H d L ls ∧ SideOk sd ∧ x.natAbs < 2 ^ 400 ∧
  (sideOf sd ls = [] → ∀ H', Same H H' → Q .non H') ∧ ∀ m H', Same H H' → IsBest sd (sideOf sd ls) x L m → Q (.int m) H'
/-- what a side tells of x: None, or the best place -/
def Tells (sd : Str) (ls : List Lk) (x L : Int) (v : V) : Prop := (sideOf sd ls = [] ∧ v = .non) ∨ ∃ m, v = .int m ∧ IsBest sd (sideOf sd ls) x L m
def spSideOf (Z : Ad) (K : PySem.W.Frag) (sd : Str) : Sp := fun vs H Q _ => ∃ (d : Addr) (L : Int) (ls : List Lk) (x : Int), vs = [.ref d, .int x] ∧ DarkAt Z K H d L ls ∧ x.natAbs < 2 ^ 400 ∧
  ∀ v H', Same H H' → Tells sd ls x L v → Q v H'
theorem same_put {H : Hp} {d C dx : Addr} {fs fs' : List (Str × V)} (h : H d = some (.ins C dx fs)) : FreeIn H (upd H d (.ins C dx fs')) := ⟨fun {b} hb => by
  by_cases e : b = d
  · subst e; rw [upd_same] at hb; cases hb
  · rw [upd_ne e] at hb; exact hb⟩
theorem emod_small {x L : Int} (h : 0 < L) (hb : L.natAbs < 2 ^ 200) : (x - x / L * L).natAbs < 2 ^ 200 := by
  have e : x - x / L * L = x % L := by
    have := Int.mul_ediv_add_emod x L
    rw [Int.mul_comm (x / L) L]; omega
  rw [e]
  have h1 := Int.emod_nonneg x (show L ≠ 0 by omega)
  have h2 := Int.emod_lt_of_pos x h
  have h3 : (x % L).natAbs ≤ L.natAbs := by clear hb; omega
  exact Nat.lt_of_le_of_lt h3 hb
theorem home_sized {L : Int} {l : Lk} (h : 0 < L) (hb : L.natAbs < 2 ^ 200) (hl : Sized 300 l) : Sized 302 (home L l) := by
  have h0 := emod_small (x := l.2.1) h hb
  refine ⟨lt_up h0 (by decide), ?_⟩
  show (l.2.2 - l.2.1 / L * L).natAbs < 2 ^ 302
  have e : l.2.2 - l.2.1 / L * L = l.2.2 + ((l.2.1 - l.2.1 / L * L) - l.2.1) := by omega
  rw [e]
  have h1 : ((l.2.1 - l.2.1 / L * L) - l.2.1).natAbs < 2 ^ 301 := sub_lt (lt_up h0 (by decide)) hl.1
  exact add_lt (lt_up hl.2 (by decide)) h1
section
variable {P : Program} {w : World} {K : PySem.W.Frag} {mg : Str → Option Value} {base : Heap} {Z : Ad}
theorem ok_Dark_init (T : Tx K w mg Z) : FnOk P w K mg base CX0 1 Z.a_Dark_init Z.d_Dark_init P_Dark_init (spInit Z K) := by
  refine T.F_Dark_init.ok scDark_init (fun vs H Q E h => ?_) (fun cdv A outer s H vs Q E hr h => ?_)
  · obtain ⟨d, dx, L, rfl, _⟩ := h
    rfl
  · obtain ⟨d, dx, L, rfl, hd, hL, hLb, k⟩ := h
    refine ⟨_, (C8.pss_cut (ps_if (pt_cmpR op_lt (pv 1) pe_int (nomark _)) (pss_one ps_never) pss_nil)
      (pss_cons (ps_fld (pv 0) (pv 1) rfl)
      (pss_one (ps_fld (pv 0) (pe_lst pa_nil) rfl)))), ?_⟩
    refine ⟨fun σ' H' => σ' = [some (.ref d), some (.int L)] ∧ H' = H, ?_, ?_⟩
    · refine ⟨_, rfl, _, _, rfl, rfl, _, rfl, ?_⟩
      exact ite2 (fun c => (by have c' := of_decide_eq_true c; omega : False)) (fun _ => ⟨rfl, rfl⟩)
    · rintro σ1 H1 ⟨rfl, rfl⟩
      refine ⟨_, rfl, _, rfl, d, Z.C, dx, [], rfl, hd, T.cl, T.n_length, (by show 0 < 1000; decide), ?_⟩
      refine ⟨(by show 0 ≤ sizeLine; decide), fun p hp => ?_⟩
      have h1 : (upd H1 d (.ins Z.C dx (putF "_length" (.int L) []))) d = some (.ins Z.C dx [("_length", .int L)]) := upd_same
      have hdp : d ≠ p := ne_of_none h1 hp
      refine ⟨_, rfl, d, Z.C, dx, [("_length", .int L)], rfl, (upd_ne hdp).trans h1, T.cl, T.n_looks, (by show 1 < 1000; decide), ?_⟩
      refine k _ ⟨⟨dx, p, [], Eq.trans upd_same (congrArg (fun q => some (HO.ins Z.C dx q)) (df_put2 L p)), (upd_ne (Ne.symm hdp)).trans upd_same, .nil⟩, hL, hLb, (fun _ z => absurd z (by simp)), Nat.zero_le _⟩ (fun la' dx' e => ?_) fun b o e hb => ?_
      · rw [upd_same, df_put2] at e
        rw [← df_inj e]
        exact (same_put hd).free hp
      have e1 : (upd H1 d (.ins Z.C dx (putF "_length" (.int L) []))) b = some o := (upd_ne hb).trans e
      exact (upd_ne hb).trans ((upd_ne (ne_of_none e1 hp)).trans e1)
theorem ok_Dark_looks (T : Tx K w mg Z) : FnOk P w K mg base CX0 1 Z.a_Dark_looks Z.d_Dark_looks P_Dark_looks (spLooks Z K) := by
  refine T.F_Dark_looks.ok scDark_looks (fun vs H Q E h => ?_) (fun cdv A outer s H vs Q E hr h => ?_)
  · obtain ⟨d, L, ls, rfl, _⟩ := h
    rfl
  · obtain ⟨d, L, ls, rfl, D, k⟩ := h
    obtain ⟨dx, la, xs, h1, h2, h3⟩ := D.ex
    refine ⟨_, (pss_one (ps_ret (pe_callTy (listK (K := K)) (by rfl) T.b_list (by decide +kernel) (pa_cons (fldK (K := K) (pv 0) rfl) pa_nil)))), ?_⟩
    refine ⟨_, rfl, d, Z.C, dx, _, _, rfl, h1, T.cl, T.n_looks, df_looks _ _, la, xs, rfl, .inl (SqL.of h2), fun p hp => ?_⟩
    exact k p xs _ hp (same_upd hp) upd_same (dpAll_mono (same_upd hp) _ _ h3)
theorem ok_Darkcheck_word (T : Tx K w mg Z) : FnOk P w K mg base CX0 1 Z.a_Darkcheck_word Z.d_Darkcheck_word P_Darkcheck_word (spWord) := by
  refine T.F_Darkcheck_word.ok scDarkcheck_word (fun vs H Q E h => ?_) (fun cdv A outer s H vs Q E hr h => ?_)
  · obtain ⟨d, x, rfl, _⟩ := h
    rfl
  · obtain ⟨d, x, rfl, hx, k⟩ := h
    refine ⟨_, (pss_one (ps_if (pt_cmpR (notInS (K := K)) (pv 1) (pe_glob (v := .ref Z.a_LW) rfl T.g_LOOK_WORDS rfl) (by rfl)) (pss_one ps_never) pss_nil)), ?_⟩
    obtain ⟨_, _, e⟩ := decl_words hx
    refine ⟨_, rfl, _, _, rfl, .inr (T.q_LW _), rfl, rfl, _, rfl, ?_⟩
    have e2 : (if true = true then !inV (V.str x) [V.str "at", V.str "from", V.str "upto"] else inV (V.str x) [V.str "at", V.str "from", V.str "upto"]) = false := by rw [if_pos rfl, e]; rfl
    rw [e2]
    exact iteF k
theorem ok_Darkhome (T : Tx K w mg Z) : FnOk P w K mg base CX0 2 Z.a_Darkhome Z.d_Darkhome P_Darkhome (spHome Z K) := by
  refine T.F_Darkhome.ok scDarkhome (fun vs H Q E h => ?_) (fun cdv A outer s H vs Q E hr h => ?_)
  · obtain ⟨d, L, ls, l, rfl, _⟩ := h
    rfl
  · obtain ⟨d, L, ls, l, rfl, D, hw, hl, k⟩ := h
    obtain ⟨dx, la, xs, h1, h2, h3⟩ := D.ex
    refine ⟨_, (pss_cons (ps_expr (pe_meth (pv 0) T.cl T.m_Darkcheck_word (ok_Darkcheck_word T) (hr.mono (by decide)) T.bb_Darkcheck_word .nil pass0 (pa_cons (pv 1) pa_nil)))
      (pss_cons (ps_set (i := 4) scDarkhome.nd rfl (Or.inl rfl) (pe_op op_fdivW (pv 2) (fldK (K := K) (pv 0) rfl)))
      (pss_one (ps_ret (pe_tup (pa_cons (pv 1) (pa_cons (pe_op op_sub (pv 2) (pe_op op_mulW (pv 4) (fldK (K := K) (pv 0) rfl))) (pa_cons (pe_op op_sub (pv 3) (pe_op op_mulW (pv 4) (fldK (K := K) (pv 0) rfl))) pa_nil)))))))), ?_⟩
    refine ⟨_, rfl, d, dx, _, rfl, h1, df_no _ _ (by decide +kernel) (by decide +kernel), _, rfl, _, _, rfl, hw, ?_⟩
    refine ⟨_, rfl, _, rfl, d, Z.C, dx, _, _, rfl, h1, T.cl, T.n_length, df_length _ _, _, _, rfl, rfl, wide_div D.pos D.big (by decide) (by decide), ?_⟩
    have b1 : (l.2.1 / L).natAbs < 2 ^ 301 := div_lt D.pos hl.1
    refine ⟨_, rfl, _, rfl, _, rfl, _, rfl, d, Z.C, dx, _, _, rfl, h1, T.cl, T.n_length, df_length _ _, _, _, rfl, rfl, wide_mul b1 D.big (by decide) (by decide) (by decide), _, _, rfl, rfl, ?_⟩
    refine ⟨_, rfl, _, rfl, _, rfl, d, Z.C, dx, _, _, rfl, h1, T.cl, T.n_length, df_length _ _, _, _, rfl, rfl, wide_mul b1 D.big (by decide) (by decide) (by decide), _, _, rfl, rfl, (by show 3 ≤ sizeLine; decide), fun p hp => ?_⟩
    exact k _ _ (same_upd hp) (.tup (SqT.of upd_same) (.cons (.str _) (.cons (.int _) (.cons (.int _) .nil))))
theorem ok_Darkclashing (T : Tx K w mg Z) : FnOk P w K mg base CX0 4 Z.a_Darkclashing Z.d_Darkclashing P_Darkclashing (spClashing Z K) := by
  refine T.F_Darkclashing.ok scDarkclashing (fun vs H Q E h => ?_) (fun cdv A outer s H vs Q E hr h => ?_)
  · obtain ⟨d, v, L, ls, l, rfl, _⟩ := h
    rfl
  · obtain ⟨d, v, L, ls, l, rfl, D, hv, hw, hl, k0, k⟩ := h
    obtain ⟨dx, la, xs, h1, h2, h3⟩ := D.ex
    have hxl : xs.length = ls.length := by rw [dpAll_len h3, List.length_map]
    refine ⟨_, (pss_cons (ps_for PassesOwn.never rfl (pi_list (fldK (K := K) (pv 0) rfl)) (pg_name (i := 2) scDarkclashing.nd rfl (Or.inl rfl)) (pss_one (ps_if (pt_val (pe_call (ok_clash T) (hr.mono (by decide)) (by rfl) T.g_clash T.F_clash.kp T.bb_clash .nil pass0 (pa_cons (pv 1) (pa_cons (pv 2) (pa_cons (fldK (K := K) (pv 0) rfl) pa_nil))))) (pss_one (ps_ret (pv 2))) pss_nil)))
      (pss_one (ps_ret pe_non))), ?_⟩
    refine ⟨_, rfl, d, Z.C, dx, _, _, rfl, h1, T.cl, T.n_looks, df_looks _ _, la, rfl, ⟨_, SqL.of h2⟩, ?_⟩
    refine for_list (K := K) (a := la) (xs := xs) (fun i σ' H' => ∃ u, σ' = [some (.ref d), some v, u] ∧ H' = H ∧ (ls.take i).find? (fun o => clashB l o L) = none) ⟨none, rfl, rfl, rfl⟩ (fun i σ' H' _ ⟨_, _, e, _⟩ => by rw [e]; exact SqL.of h2) ?_ ?_
    · rintro i y σ' H' hi ⟨u, rfl, rfl, hno⟩
      obtain ⟨e, hdi, hdy⟩ := dpAll_get h3 hi
      obtain ⟨o, ho, rfl⟩ := map_at hdi
      have hok := D.ok o (List.mem_of_getElem? ho)
      refine ⟨_, rfl, _, rfl, _, rfl, d, Z.C, dx, _, _, rfl, h1, T.cl, T.n_length, df_length _ _, v, y, l, o, L, rfl, hv, hdy, hw, hok.1, D.pos, D.big, hl.up (by decide), hok.2.up (by decide), _, rfl, ?_⟩
      have hsp : ls = ls.take i ++ o :: ls.drop (i + 1) := by
        have h4 := List.getElem?_eq_some_iff.mp ho
        obtain ⟨h5, h6⟩ := h4
        rw [← h6, List.getElem_cons_drop, List.take_append_drop]
      cases c : clashB l o L with
      | true =>
        refine iteT ⟨_, rfl, k o y ?_ hdy⟩
        rw [hsp, List.find?_append, hno, List.find?_cons, c]
        rfl
      | false =>
        refine iteF ⟨_, rfl, rfl, ?_⟩
        rw [take_snoc ho, List.find?_append, hno, List.find?_cons, c]
        rfl
    · rintro σ' H' ⟨u, rfl, rfl, hno⟩
      rw [List.take_of_length_le (by rw [hxl]; exact Nat.le_refl _)] at hno
      exact k0 hno
theorem alike_looks (ls : List Lk) : PySem.W.AllAlike (ls.map encL) := PySem.W.AllAlike.of fun _ _ => by simp [encL, PySem.W.alike, PySem.W.alikeAll]
theorem depth_look (l : Lk) : (encL l).depth = 1 := by simp [encL, PyData.depth, PyData.depthAll]
theorem shaped_look {l : Lk} (h : WordOk l.1) : SeqAt.shaped (encL l) = true := by
  unfold SeqAt.shaped
  rw [lay_look h, depth_look]; rfl
theorem lay_looks : ∀ ls : List Lk, (∀ l ∈ ls, WordOk l.1) → PyData.canLayAll0 (ls.map encL) = true
  | [], _ => rfl
  | l :: ls, h => by
    show PyData.canLayAll0 (encL l :: ls.map encL) = true
    rw [PyData.canLayAll0, lay_look (h l List.mem_cons_self), lay_looks ls fun q hq => h q (List.mem_cons_of_mem _ hq)]; rfl
theorem depth_looks : ∀ ls : List Lk, PyData.depthAll (ls.map encL) ≤ 1
  | [] => by simp [PyData.depthAll]
  | l :: ls => by
    show PyData.depthAll (encL l :: ls.map encL) ≤ 1
    rw [PyData.depthAll, depth_look]
    have := depth_looks ls
    omega
theorem shaped_looks {ls : List Lk} (h : ∀ l ∈ ls, WordOk l.1) : SeqAt.shaped (.list (ls.map encL)) = true := by
  unfold SeqAt.shaped
  rw [PyData.canLay0, lay_looks ls h, PyData.depth]
  have := depth_looks ls
  simp; omega
theorem eqv_look (a b : Lk) : PyData.eqv (encL a) (encL b) = decide (a = b) := by
  obtain ⟨a1, a2, a3⟩ := a
  obtain ⟨b1, b2, b3⟩ := b
  simp [encL, PyData.eqv, PyData.eqvAll]
  by_cases h1 : a1 = b1 <;> by_cases h2 : a2 = b2 <;> by_cases h3 : a3 = b3 <;> simp [h1, h2, h3]
theorem any_look (ls : List Lk) (l : Lk) : ((ls.map encL).any fun z => PyData.eqv z (encL l)) = decide (l ∈ ls) := by
  rw [List.any_map]
  rw [Bool.eq_iff_iff, List.any_eq_true, decide_eq_true_eq]
  constructor
  · rintro ⟨o, ho, e⟩
    have e' : decide (o = l) = true := by rw [← eqv_look]; exact e
    rw [← of_decide_eq_true e']; exact ho
  · intro h
    exact ⟨l, h, by show PyData.eqv (encL l) (encL l) = true; rw [eqv_look]; simp⟩
theorem heard_mem {L : Int} {ls : List Lk} {l o : Lk} : o ∈ heard L ls l ↔ o ∈ ls ∨ o = home L l := by
  unfold heard
  by_cases c : home L l ∈ ls
  · rw [if_pos c]
    exact ⟨.inl, fun h => h.elim id fun e => e ▸ c⟩
  · rw [if_neg c, (List.mergeSort_perm _ _).mem_iff, List.mem_append, List.mem_singleton]
theorem heard_len (L : Int) (ls : List Lk) (l : Lk) : (heard L ls l).length ≤ ls.length + 1 := by
  unfold heard
  split
  · omega
  · rw [(List.mergeSort_perm _ _).length_eq, List.length_append]; simp
theorem ok_Dark_hear (T : Tx K w mg Z) : FnOk P w K mg base CX0 5 Z.a_Dark_hear Z.d_Dark_hear P_Dark_hear (spHear Z K) := by
  refine T.F_Dark_hear.ok scDark_hear (fun vs H Q E h => ?_) (fun cdv A outer s H vs Q E hr h => ?_)
  · obtain ⟨d, L, ls, l, rfl, _⟩ := h
    rfl
  · obtain ⟨d, L, ls, l, rfl, D, hw, hl, hlen, hno, k⟩ := h
    obtain ⟨dx, la, xs, h1, h2, h3⟩ := D.ex
    have hfind : ls.find? (fun o => clashB (home L l) o L) = none := List.find?_eq_none.mpr fun o ho => by rw [hno o ho]; exact Bool.false_ne_true
    have hsz := home_sized D.pos D.big hl
    refine ⟨_, (pss_cons (ps_set (i := 4) scDark_hear.nd rfl (Or.inl rfl) (pe_meth (pv 0) T.cl T.m_Darkhome (ok_Darkhome T) (hr.mono (by decide)) T.bb_Darkhome .nil pass0 (pa_cons (pv 1) (pa_cons (pv 2) (pa_cons (pv 3) pa_nil)))))
      (pss_cons (ps_set (i := 5) scDark_hear.nd rfl (Or.inl rfl) (pe_meth (pv 0) T.cl T.m_Darkclashing (ok_Darkclashing T) (hr.mono (by decide)) T.bb_Darkclashing .nil pass0 (pa_cons (pv 4) pa_nil)))
      (C8.pss_cut (ps_if (pt_cmpR op_notN (pv 5) pe_non (nomark _)) (pss_one ps_never) pss_nil)
      (pss_one (ps_if (pt_cmpR (notInDK (K := K) (rooms hr)) (pv 4) (fldK (K := K) (pv 0) rfl) (by rfl)) (pss_one (ps_fld (pv 0) (pe_callB (sortDK (K := K) encL (rooms hr)) (by rfl) T.b_sorted (by decide +kernel) (pa_cons (pe_op op_cat (fldK (K := K) (pv 0) rfl) (pe_lst (pa_cons (pv 4) pa_nil))) pa_nil)) rfl)) pss_nil))))), ?_⟩
    refine ⟨_, rfl, d, dx, _, rfl, h1, df_no _ _ (by decide +kernel) (by decide +kernel), _, rfl, _, rfl, _, rfl, d, L, ls, l, rfl, D, hw, hl, fun H1 r S hr => ?_⟩
    have D1 := D.same S
    refine ⟨_, rfl, d, dx, _, rfl, S _ _ h1, df_no _ _ (by decide +kernel) (by decide +kernel), _, rfl, d, r, L, ls, home L l, rfl, D1, hr, hw, hsz, fun _ => ?_, fun o r ho => ?_⟩
    · refine ⟨fun σ' H' => σ' = [some (.ref d), some (.str l.1), some (.int l.2.1), some (.int l.2.2), some r, some .non] ∧ H' = H1, ?_, ?_⟩
      · exact ⟨_, rfl, rfl, _, rfl, iteF ⟨rfl, rfl⟩⟩
      · rintro σ2 H2 ⟨rfl, rfl⟩
        have hwords : ∀ o ∈ ls, WordOk o.1 := fun o ho => (D.ok o ho).1
        have hds := dpAll_mono S _ _ h3
        refine ⟨_, rfl, _, rfl, d, Z.C, dx, _, _, rfl, S _ _ h1, T.cl, T.n_looks, df_looks _ _, encL (home L l), ls.map encL, hr, .lst (SqL.of (S _ _ h2)) hds, shaped_look hw, shaped_looks hwords, _, rfl, ?_⟩
        rw [any_look]
        have fin : ∀ H', DarkAt Z K H' d L (heard L ls l) → (∀ la dx, H' d = some (.ins Z.C dx (df L la)) → (∃ dx', H d = some (.ins Z.C dx' (df L la))) ∨ H la = none) → (∀ b o, H2 b = some o → b ≠ d → H' b = some o) → Q .non H' := fun H' DD ff kk => k H' DD ff fun b o e hb => kk b o (S b o e) hb
        have okH : ∀ o ∈ heard L ls l, WordOk o.1 ∧ Sized 302 o := fun o ho => by
          rcases heard_mem.mp ho with h | h
          · exact D.ok o h
          · subst h; exact ⟨hw, hsz⟩
        have lenH : (heard L ls l).length ≤ 60 := Nat.le_trans (heard_len L ls l) hlen
        by_cases c : home L l ∈ ls
        · have e : (!decide (home L l ∈ ls)) = false := by simp [c]
          rw [e]
          refine iteF (fin H2 ?_ (fun la' dx' e => ?_) fun _ _ e _ => e)
          · have eh : heard L ls l = ls := if_pos c
            rw [eh]; exact D1
          · have e2 := e.symm.trans (S _ _ h1)
            rw [df_inj e2]
            exact .inl ⟨dx, h1⟩
        · have e : (!decide (home L l ∈ ls)) = true := by simp [c]
          rw [e]
          refine iteT ⟨_, rfl, d, Z.C, dx, _, _, rfl, S _ _ h1, T.cl, T.n_looks, df_looks _ _, _, rfl, (by show 1 ≤ sizeLine; decide), fun p hp => ?_⟩
          have S2 := same_upd (o := HO.lst [r]) hp
          have h2' := S2 _ _ (S _ _ h2)
          refine ⟨la, p, xs, [r], rfl, rfl, h2', upd_same, ?_, fun p2 hp2 => ?_⟩
          · have : xs.length = ls.length := by rw [dpAll_len h3, List.length_map]
            exact Nat.le_of_lt (small1000 (by simp; omega))
          have S3 := S2.trans (same_upd (o := HO.lst (xs ++ [r])) hp2)
          have hall : DpAll K (upd (upd H2 p (.lst [r])) p2 (.lst (xs ++ [r]))) (xs ++ [r]) ((ls ++ [home L l]).map encL) := by
            rw [List.map_append]
            exact dpAll_snoc (dpAll_mono S3 _ _ hds) (dp_mono S3 _ _ hr)
          refine ⟨p2, xs ++ [r], ls ++ [home L l], rfl, SqL.of upd_same, hall, alike_looks _, PySem.W.Sortable.tuples fun _ => ⟨_, _, rfl⟩, fun b _ => by rw [depth_look]; decide, fun p3 ys H3 hp3 S4 hy hys => ?_⟩
          have S5 := S3.trans S4
          have h1' := S5 _ _ (S _ _ h1)
          have hd3 : d ≠ p3 := fun e => by
            subst e
            rw [(S3 _ _ (S _ _ h1))] at hp3
            cases hp3
          refine ⟨_, rfl, d, Z.C, dx, df L la, rfl, h1', T.cl, T.n_looks, (by show 2 < 1000; decide), ?_⟩
          refine fin _ ⟨⟨dx, p3, ys, Eq.trans upd_same (congrArg (fun q => some (HO.ins Z.C dx q)) (df_put3 L la p3)), (upd_ne (Ne.symm hd3)).trans hy, ?_⟩, D.pos, D.big, okH, lenH⟩ (fun la' dx' e => ?_) fun b o e hb => (upd_ne hb).trans (S5 _ _ e)
          rotate_left
          · rw [upd_same, df_put3] at e
            rw [← df_inj e]
            exact .inr (S.free (S3.free hp3))
          have eh : heard L ls l = (ls ++ [home L l]).mergeSort (PySem.W.dataLe false encL) := if_neg c
          rw [eh]
          exact dpAll_tups (Tups.upd_ins h1') _ _ (noLs_map noL_encL _) hys
    · rw [hfind] at ho; cases ho
end
end KA
namespace KA
open PySem PySem.Spec PyProof.Rows L2 DP
/-! What the looks of a side tell, in plain Lean (laws that do without the tray's Law6). -/
theorem side_low {x : Str} (h : onSide "slow" x = true) : x = "at" ∨ x = "from" := by
  unfold onSide at h
  rw [if_pos rfl, Bool.or_eq_true, decide_eq_true_eq, decide_eq_true_eq] at h
  exact h
theorem side_high {x : Str} (h : onSide "fast" x = true) : x = "at" ∨ x = "upto" := by
  unfold onSide at h
  rw [if_neg slow_ne, Bool.or_eq_true, decide_eq_true_eq, decide_eq_true_eq] at h
  exact h
theorem plc_home {L : Int} (hL : 0 < L) (sd : Str) (l : Lk) (x : Int) : plc sd (home L l) x L = plc sd l x L := by
  unfold plc home
  split
  · show l.2.2 - l.2.1 / L * L + (x - (l.2.1 - l.2.1 / L * L)) / L * L = l.2.2 + (x - l.2.1) / L * L
    have e : x - (l.2.1 - l.2.1 / L * L) = (x - l.2.1) + l.2.1 / L * L := by omega
    rw [e, Int.add_mul_ediv_right _ _ (by omega), Int.add_mul]; omega
  · show l.2.2 - l.2.1 / L * L - (l.2.1 - l.2.1 / L * L - x) / L * L = l.2.2 - (l.2.1 - x) / L * L
    have e : l.2.1 - l.2.1 / L * L - x = (l.2.1 - x) + (-(l.2.1 / L)) * L := by rw [Int.neg_mul]; omega
    rw [e, Int.add_mul_ediv_right _ _ (by omega), Int.add_mul, Int.neg_mul]; omega
theorem fold_mem {L : Int} : ∀ (ls acc : List Lk) (o : Lk), o ∈ ls.foldl (heard L) acc ↔ o ∈ acc ∨ ∃ l ∈ ls, o = home L l
  | [], acc, o => by simp
  | l :: ls, acc, o => by
    rw [List.foldl_cons, fold_mem ls, heard_mem]
    constructor
    · rintro ((h | h) | ⟨q, hq, e⟩)
      · exact .inl h
      · exact .inr ⟨l, List.mem_cons_self, h⟩
      · exact .inr ⟨q, List.mem_cons_of_mem _ hq, e⟩
    · rintro (h | ⟨q, hq, e⟩)
      · exact .inl (.inl h)
      · rcases List.mem_cons.mp hq with h | h
        · subst h; exact .inl (.inr e)
        · exact .inr ⟨q, h, e⟩
theorem fold_len {L : Int} : ∀ (ls acc : List Lk), (ls.foldl (heard L) acc).length ≤ acc.length + ls.length
  | [], acc => by simp
  | l :: ls, acc => by
    have h1 := fold_len (L := L) ls (heard L acc l)
    have h2 := heard_len L acc l
    rw [List.foldl_cons, List.length_cons]; omega
theorem mem_side {sd : Str} {ls : List Lk} {l : Lk} : l ∈ sideOf sd ls ↔ l ∈ ls ∧ onSide sd l.1 = true := by
  unfold sideOf; rw [List.mem_filter]
/-- the best of the looks is the best of them brought home -/
theorem best_home {L : Int} (hL : 0 < L) {sd : Str} {ls hs : List Lk} {x m : Int} (hh : ∀ o, o ∈ hs ↔ ∃ l ∈ ls, o = home L l) (h : IsBest sd (sideOf sd hs) x L m) : IsBest sd (sideOf sd ls) x L m := by
  obtain ⟨⟨o, ho, e⟩, h2⟩ := h
  obtain ⟨ho1, ho2⟩ := mem_side.mp ho
  obtain ⟨l, hl, rfl⟩ := (hh o).mp ho1
  rw [plc_home hL] at e
  refine ⟨⟨l, mem_side.mpr ⟨hl, ho2⟩, e⟩, fun q hq => ?_⟩
  obtain ⟨hq1, hq2⟩ := mem_side.mp hq
  have := h2 (home L q) (mem_side.mpr ⟨(hh _).mpr ⟨q, hq1, rfl⟩, hq2⟩)
  rw [plc_home hL] at this
  exact this
theorem best_one {sd : Str} {ls : List Lk} {x L m m' : Int} (h : IsBest sd ls x L m) (h' : IsBest sd ls x L m') : m = m' := by
  obtain ⟨⟨a, ha, ea⟩, h2⟩ := h
  obtain ⟨⟨b, hb, eb⟩, h2'⟩ := h'
  have q1 := h2 b hb
  have q2 := h2' a ha
  rw [eb] at q1
  rw [ea] at q2
  split at q1 <;> split at q2 <;> first | omega | (exfalso; simp_all)
theorem side_nil {L : Int} {sd : Str} {ls hs : List Lk} (hh : ∀ o, o ∈ hs ↔ ∃ l ∈ ls, o = home L l) : sideOf sd hs = [] ↔ sideOf sd ls = [] := by
  constructor
  · intro h
    refine List.eq_nil_iff_forall_not_mem.mpr fun l hl => ?_
    obtain ⟨h1, h2⟩ := mem_side.mp hl
    have : home L l ∈ sideOf sd hs := mem_side.mpr ⟨(hh _).mpr ⟨l, h1, rfl⟩, h2⟩
    rw [h] at this; cases this
  · intro h
    refine List.eq_nil_iff_forall_not_mem.mpr fun o ho => ?_
    obtain ⟨h1, h2⟩ := mem_side.mp ho
    obtain ⟨l, hl, rfl⟩ := (hh o).mp h1
    have : l ∈ sideOf sd ls := mem_side.mpr ⟨hl, h2⟩
    rw [h] at this; cases this
theorem plc_shift {L : Int} (hL : 0 < L) (sd : Str) (l : Lk) (x k : Int) : plc sd l (x + k * L) L = plc sd l x L + k * L := by
  unfold plc
  split
  · have e : x + k * L - l.2.1 = (x - l.2.1) + k * L := by omega
    rw [e, Int.add_mul_ediv_right _ _ (by omega), Int.add_mul]; omega
  · have e : l.2.1 - (x + k * L) = (l.2.1 - x) + (-k) * L := by rw [Int.neg_mul]; omega
    rw [e, Int.add_mul_ediv_right _ _ (by omega), Int.add_mul, Int.neg_mul]; omega
theorem far_home {L : Int} (hL : 0 < L) (a b : Lk) : tooFar (home L a) (home L b) L = tooFar a b L := by
  unfold tooFar
  have e1 : (home L b).2.2 = b.2.2 - b.2.1 / L * L := rfl
  have e2 : (home L b).2.1 = b.2.1 + (-(b.2.1 / L)) * L := by show b.2.1 - b.2.1 / L * L = _; rw [Int.neg_mul]; omega
  rw [e1, e2, plc_home hL, plc_shift hL, Int.neg_mul]
  congr 1
  rw [decide_eq_decide]
  constructor <;> intro h <;> omega
theorem clash_home {L : Int} (hL : 0 < L) (a b : Lk) : clashB (home L a) (home L b) L = clashB a b L := by
  unfold clashB
  rw [far_home hL, far_home hL]
/-- the best place, as a number -/
noncomputable def bst (sd : Str) (ls : List Lk) (x L : Int) : Int := by
  classical exact if h : ∃ m, IsBest sd ls x L m then h.choose else 0
theorem bst_of {sd : Str} {ls : List Lk} {x L m : Int} (h : IsBest sd ls x L m) : bst sd ls x L = m := by
  have e : ∃ m, IsBest sd ls x L m := ⟨m, h⟩
  unfold bst
  rw [dif_pos e]
  exact best_one e.choose_spec h
theorem bst_slow {ls : List Lk} (h : ls ≠ []) (x L : Int) : IsBest "slow" ls x L (bst "slow" ls x L) := by
  cases ls with
  | nil => exact absurd rfl h
  | cons l r =>
    obtain ⟨q, _, _, b⟩ := max_step x L l r
    rw [bst_of b]; exact b
theorem bst_fast {ls : List Lk} (h : ls ≠ []) (x L : Int) : IsBest "fast" ls x L (bst "fast" ls x L) := by
  cases ls with
  | nil => exact absurd rfl h
  | cons l r =>
    obtain ⟨q, _, _, b⟩ := min_step x L l r
    rw [bst_of b]; exact b
theorem plc_mono {L : Int} (hL : 0 < L) (sd : Str) (l : Lk) {x y : Int} (h : x ≤ y) : plc sd l x L ≤ plc sd l y L := by
  unfold plc
  split
  · have h1 := Int.mul_le_mul_of_nonneg_right (Int.ediv_le_ediv hL (by omega : x - l.2.1 ≤ y - l.2.1)) (Int.le_of_lt hL)
    omega
  · have h1 := Int.mul_le_mul_of_nonneg_right (Int.ediv_le_ediv hL (by omega : l.2.1 - y ≤ l.2.1 - x)) (Int.le_of_lt hL)
    omega
theorem best_mono {L : Int} (hL : 0 < L) {sd : Str} {ls : List Lk} {x y m m' : Int} (h : IsBest sd ls x L m) (h' : IsBest sd ls y L m') (hxy : x ≤ y) : m ≤ m' := by
  obtain ⟨⟨l, hl, e⟩, h2⟩ := h
  obtain ⟨⟨l', hl', e'⟩, h2'⟩ := h'
  have q1 := h2' l hl
  have q2 := h2 l' hl'
  by_cases c : sd = "slow"
  · rw [if_pos c] at q1
    have := plc_mono hL sd l hxy
    omega
  · rw [if_neg c] at q2
    have := plc_mono hL sd l' hxy
    omega
theorem best_shift {L : Int} (hL : 0 < L) {sd : Str} {ls : List Lk} {x m : Int} (k : Int) (h : IsBest sd ls x L m) : IsBest sd ls (x + k * L) L (m + k * L) := by
  obtain ⟨⟨l, hl, e⟩, h2⟩ := h
  refine ⟨⟨l, hl, by rw [plc_shift hL, e]⟩, fun q hq => ?_⟩
  have := h2 q hq
  rw [plc_shift hL]
  split at this
  · rw [if_pos (by assumption)]; omega
  · rw [if_neg (by assumption)]; omega
theorem far_le {L : Int} {a b : Lk} (h : tooFar a b L = false) (ha : onSide "slow" a.1 = true) (hb : onSide "fast" b.1 = true) : plc "slow" a b.2.1 L ≤ b.2.2 := by
  unfold tooFar at h
  rw [ha, hb, Bool.true_and, Bool.true_and, decide_eq_false_iff_not] at h
  omega
theorem far_no {L : Int} {a b : Lk} (h : onSide "slow" a.1 = true → onSide "fast" b.1 = true → plc "slow" a b.2.1 L ≤ b.2.2) : tooFar a b L = false := by
  unfold tooFar
  cases c1 : onSide "slow" a.1 with
  | false => rfl
  | true =>
    cases c2 : onSide "fast" b.1 with
    | false => rfl
    | true =>
      rw [Bool.true_and, Bool.true_and, decide_eq_false_iff_not]
      have := h c1 c2
      omega
theorem no_far_of {L : Int} {a b : Lk} (h : clashB a b L = false) : tooFar a b L = false ∧ tooFar b a L = false := by
  unfold clashB at h
  rw [Bool.or_eq_false_iff] at h
  exact h
theorem cross {L : Int} (hL : 0 < L) {a b : Lk} (h : plc "slow" a b.2.1 L ≤ b.2.2) (x : Int) : plc "slow" a x L ≤ plc "fast" b x L := by
  rw [plc_fast]
  have hj : (b.2.1 - x) / L * L ≤ b.2.1 - x := by
    have := Int.mul_ediv_add_emod (b.2.1 - x) L
    have h0 := Int.emod_nonneg (b.2.1 - x) (show L ≠ 0 by omega)
    rw [Int.mul_comm] at this
    omega
  generalize (b.2.1 - x) / L = j at hj ⊢
  have h1 := plc_mono hL "slow" a (by omega : x + j * L ≤ b.2.1)
  rw [plc_shift hL] at h1
  omega
theorem low_high {L : Int} (hL : 0 < L) {hs : List Lk} (hnc : ∀ a ∈ hs, ∀ b ∈ hs, clashB a b L = false) {x m m' : Int} (h : IsBest "slow" (sideOf "slow" hs) x L m) (h' : IsBest "fast" (sideOf "fast" hs) x L m') : m ≤ m' := by
  obtain ⟨⟨l, hl, e⟩, _⟩ := h
  obtain ⟨⟨l', hl', e'⟩, _⟩ := h'
  obtain ⟨h1, h2⟩ := mem_side.mp hl
  obtain ⟨h1', h2'⟩ := mem_side.mp hl'
  rw [← e, ← e']
  exact cross hL (far_le (no_far_of (hnc l h1 l' h1')).1 h2 h2') x
end KA
namespace KA
open PySem PySem.Spec PyProof.Rows L2 DP
/-- the length of the list at g -/
def lenAt (H : Hp) (g : Addr) : Nat := match H g with | some (.lst xs) => xs.length | _ => 0
theorem lenAt_of {H : Hp} {g : Addr} {xs : List V} (h : H g = some (.lst xs)) : lenAt H g = xs.length := by unfold lenAt; rw [h]
theorem atI_last {α : Type} {xs : List α} (h : 0 < xs.length) : atI xs (-1) = xs[xs.length - 1]? := by
  unfold atI ixN
  rw [if_neg (by decide), if_pos (by omega)]
  show xs[_]? = _
  congr 1
  omega
theorem same_made {H : Hp} {d dx : Addr} {o : HO} (hdn : H d = none) (hdx : H dx = none) : Same H (upd (upd H dx (.own d)) d o) := fun b o e => by
  rw [upd_ne (ne_of_none e hdn), upd_ne (ne_of_none e hdx)]; exact e
/-- all stands but one object -/
def Out (d : Addr) (H H' : Hp) : Prop := ∀ c o, H c = some o → c ≠ d → H' c = some o
theorem Out.tups {d C dx : Addr} {fs : List (Str × V)} {H H' : Hp} (k : Out d H H') (h : H d = some (.ins C dx fs)) : Tups H H' := fun c zs hc => by
  have hcb : c ≠ d := by
    rintro rfl
    rcases hc with e | ⟨q, e⟩ <;> rw [h] at e <;> cases e
  rcases hc with e | ⟨q, e⟩
  · exact .inl (k _ _ e hcb)
  · exact .inr ⟨q, k _ _ e hcb⟩
theorem Out.dark {Z : Ad} {K : PySem.W.Frag} {H H' : Hp} {d e C dx : Addr} {fs : List (Str × V)} {L : Int} {ls : List Lk} (k : Out d H H') (D : DarkAt Z K H e L ls) (h : H d = some (.ins C dx fs)) (hne : e ≠ d) : DarkAt Z K H' e L ls := by
  obtain ⟨dx2, la, vs, h1, h2, h3⟩ := D.ex
  exact ⟨⟨dx2, la, vs, k _ _ h1 hne, k _ _ h2 (fun q => by rw [q, h] at h2; cases h2), dpAll_tups (k.tups h) _ _ (noLs_map noL_encL ls) h3⟩, D.pos, D.big, D.ok, D.len⟩
theorem Out.sqL {K : PySem.W.Frag} {H H' : Hp} {d C dx p : Addr} {fs : List (Str × V)} {xs : List V} (k : Out d H H') (h : H d = some (.ins C dx fs)) (q : SqL K H p xs) : SqL K H' p xs := by
  rcases q with q | q
  · have hp : p ≠ d := by
      rintro rfl
      rcases q with e | ⟨z, e⟩ <;> rw [h] at e <;> cases e
    rcases q with e | ⟨z, e⟩
    · exact .inl (.inl (k _ _ e hp))
    · exact .inl (.inr ⟨z, k _ _ e hp⟩)
  · exact .inr q
end KA
namespace KA
open PySem PySem.Spec PyProof.Rows L2 DP
/-! ### hands under which nobody overtakes, and looks that they fit -/
structure Hand (L : Int) (f : Int → Int) : Prop where
  mono : ∀ x y, x ≤ y → f x ≤ f y
  turn : ∀ x k, f (x + k * L) = f x + k * L
def Fits (f : Int → Int) (l : Lk) : Prop := (onSide "slow" l.1 = true → l.2.2 ≤ f l.2.1) ∧ (onSide "fast" l.1 = true → f l.2.1 ≤ l.2.2)
theorem fit_low {L : Int} (hL : 0 < L) {f : Int → Int} (F : Hand L f) {l : Lk} (h : Fits f l) (hs : onSide "slow" l.1 = true) (x : Int) : plc "slow" l x L ≤ f x := by
  have h1 := h.1 hs
  have h2 := Int.mul_ediv_add_emod (x - l.2.1) L
  have h3 := Int.emod_nonneg (x - l.2.1) (show L ≠ 0 by omega)
  rw [Int.mul_comm] at h2
  have h4 := F.mono (l.2.1 + (x - l.2.1) / L * L) x (by omega)
  rw [F.turn] at h4
  rw [plc_slow]; omega
theorem fit_high {L : Int} (hL : 0 < L) {f : Int → Int} (F : Hand L f) {l : Lk} (h : Fits f l) (hs : onSide "fast" l.1 = true) (x : Int) : f x ≤ plc "fast" l x L := by
  have h1 := h.2 hs
  have h2 := Int.mul_ediv_add_emod (l.2.1 - x) L
  have h3 := Int.emod_nonneg (l.2.1 - x) (show L ≠ 0 by omega)
  rw [Int.mul_comm] at h2
  have h4 := F.mono x (l.2.1 + (-((l.2.1 - x) / L)) * L) (by rw [Int.neg_mul]; omega)
  rw [F.turn, Int.neg_mul] at h4
  rw [plc_fast]; omega
theorem fit_far {L : Int} (hL : 0 < L) {f : Int → Int} (F : Hand L f) {a b : Lk} (ha : Fits f a) (hb : Fits f b) : tooFar a b L = false :=
  far_no fun h1 h2 => Int.le_trans (fit_low hL F ha h1 b.2.1) (hb.2 h2)
theorem fit_clash {L : Int} (hL : 0 < L) {f : Int → Int} (F : Hand L f) {a b : Lk} (ha : Fits f a) (hb : Fits f b) : clashB a b L = false := by
  unfold clashB
  rw [fit_far hL F ha hb, fit_far hL F hb ha]; rfl
theorem fit_home {L : Int} {f : Int → Int} (F : Hand L f) {l : Lk} (h : Fits f l) : Fits f (home L l) := by
  have e : f (home L l).2.1 = f l.2.1 - l.2.1 / L * L := by
    show f (l.2.1 - l.2.1 / L * L) = _
    have := F.turn l.2.1 (-(l.2.1 / L))
    rw [Int.neg_mul] at this
    rw [Int.sub_eq_add_neg, this]; omega
  refine ⟨fun hs => ?_, fun hs => ?_⟩
  · have := h.1 hs
    rw [e]
    show l.2.2 - l.2.1 / L * L ≤ _
    omega
  · have := h.2 hs
    rw [e]
    show _ ≤ l.2.2 - l.2.1 / L * L
    omega
/-- some places, and where they are led: rising, within a turn -/
structure Rises (L : Int) (prs : List (Int × Int)) : Prop where
  ne : prs ≠ []
  ord : prs.Pairwise fun a b => a.1 < b.1 ∧ a.2 ≤ b.2
  on : ∀ s ∈ prs, 0 ≤ s.1 ∧ s.1 < L
  turn : ∃ b : Int, b.natAbs < 2 ^ 104 ∧ ∀ s ∈ prs, b ≤ s.2 ∧ s.2 ≤ b + L
theorem pw_at {α : Type} {R : α → α → Prop} {l : List α} (h : l.Pairwise R) {a b : α} (ha : a ∈ l) (hb : b ∈ l) : a = b ∨ R a b ∨ R b a := by
  obtain ⟨i, hi, rfl⟩ := List.getElem_of_mem ha
  obtain ⟨j, hj, rfl⟩ := List.getElem_of_mem hb
  rw [List.pairwise_iff_getElem] at h
  rcases Nat.lt_trichotomy i j with e | e | e
  · exact .inr (.inl (h i j hi hj e))
  · subst e; exact .inl rfl
  · exact .inr (.inr (h j i hj hi e))
def atL (s : Int × Int) : Lk := ("at", s.1, s.2)
theorem Rises.lead {L : Int} (hL : 0 < L) {prs : List (Int × Int)} (R : Rises L prs) : ∃ f, Hand L f ∧ ∀ s ∈ prs, f s.1 = s.2 := by
  have hne : prs.map atL ≠ [] := fun e => R.ne (List.map_eq_nil_iff.mp e)
  refine ⟨fun x => bst "slow" (prs.map atL) x L, ⟨fun x y h => best_mono hL (bst_slow hne x L) (bst_slow hne y L) h, fun x k => bst_of (best_shift hL k (bst_slow hne x L))⟩, fun s hs => bst_of ⟨⟨atL s, List.mem_map.mpr ⟨s, hs, rfl⟩, ?_⟩, fun l hl => ?_⟩⟩
  · rw [plc_slow]
    show s.2 + (s.1 - s.1) / L * L = s.2
    rw [Int.sub_self, Int.zero_ediv, Int.zero_mul, Int.add_zero]
  · obtain ⟨q, hq, rfl⟩ := List.mem_map.mp hl
    rw [if_pos rfl, plc_slow]
    show q.2 + (s.1 - q.1) / L * L ≤ s.2
    have h1 := R.on s hs
    have h2 := R.on q hq
    obtain ⟨b, _, hb⟩ := R.turn
    have h3 := hb s hs
    have h4 := hb q hq
    rcases pw_at R.ord hq hs with e | e | e
    · rw [e, Int.sub_self, Int.zero_ediv, Int.zero_mul]; omega
    · rw [Int.ediv_eq_zero_of_lt (by omega) (by omega), Int.zero_mul]; omega
    · have e2 : (s.1 - q.1) / L = -1 := by
        have e1 : s.1 - q.1 = (s.1 - q.1 + L) + (-1) * L := by omega
        rw [e1, Int.add_mul_ediv_right _ _ (by omega), Int.ediv_eq_zero_of_lt (by omega) (by omega)]
        rfl
      rw [e2]; omega
/-- a look that is said of such places -/
def Said (L : Int) (prs : List (Int × Int)) (l : Lk) : Prop := WordOk l.1 ∧ ∃ s ∈ prs, l.2.1 = s.1 ∧ (l.1 = "at" → l.2.2 = s.2) ∧ (l.1 = "from" → l.2.2 ≤ s.2 ∧ s.2 ≤ l.2.2 + L) ∧ (l.1 = "upto" → s.2 ≤ l.2.2 ∧ l.2.2 ≤ s.2 + L)
theorem Said.fits {L : Int} {prs : List (Int × Int)} {f : Int → Int} (hf : ∀ s ∈ prs, f s.1 = s.2) {l : Lk} (h : Said L prs l) : Fits f l := by
  obtain ⟨_, s, hs, e, h1, h2, h3⟩ := h
  rw [Fits, e, hf s hs]
  refine ⟨fun c => ?_, fun c => ?_⟩
  · rcases side_low c with e | e
    · exact Int.le_of_eq (h1 e)
    · exact (h2 e).1
  · rcases side_high c with e | e
    · exact Int.le_of_eq (h1 e).symm
    · exact (h3 e).1
theorem Said.sized {L : Int} (hL : 0 < L) (hLb : L.natAbs < 2 ^ 100) {prs : List (Int × Int)} (R : Rises L prs) {l : Lk} (h : Said L prs l) : Sized 110 l := by
  obtain ⟨w, s, hs, e, h1, h2, h3⟩ := h
  have h4 := R.on s hs
  obtain ⟨b, hb, hb2⟩ := R.turn
  have h5 := hb2 s hs
  refine ⟨?_, ?_⟩
  · rw [e]; exact lt_up (Nat.lt_of_le_of_lt (by omega : s.1.natAbs ≤ L.natAbs) hLb) (by decide)
  · have e1 : (2 : Nat) ^ 110 = 2 ^ 104 * 64 := by decide
    have e2 : (2 : Nat) ^ 100 ≤ 2 ^ 104 := by decide
    rw [e1]
    generalize (2 : Nat) ^ 104 = B at hb e2 ⊢
    generalize (2 : Nat) ^ 100 = C at hLb e2
    rcases w with w | w | w
    · rw [h1 w]; omega
    · have := h2 w; omega
    · have := h3 w; omega
/-- heard some turns on -/
theorem home_turned {L : Int} (hL : 0 < L) (w : Str) (x y k : Int) : home L (w, x + k * L, y + k * L) = home L (w, x, y) := by
  have e : (x + k * L) / L = x / L + k := by rw [Int.add_mul_ediv_right _ _ (by omega)]
  show (w, x + k * L - (x + k * L) / L * L, y + k * L - (x + k * L) / L * L) = (w, x - x / L * L, y - x / L * L)
  rw [e, Int.add_mul]
  congr 1
  congr 1 <;> omega
theorem heard_turned {L : Int} (hL : 0 < L) (ls : List Lk) (w : Str) (x y k : Int) : heard L ls (w, x + k * L, y + k * L) = heard L ls (w, x, y) := by
  unfold heard
  rw [home_turned hL]
/-- all heard -/
def heardAll (L : Int) (ls : List Lk) : List Lk := ls.foldl (heard L) []
theorem heardAll_mem {L : Int} {ls : List Lk} (o : Lk) : o ∈ heardAll L ls ↔ ∃ l ∈ ls, o = home L l := by
  unfold heardAll
  rw [fold_mem]; simp
end KA
namespace KA
open PySem PySem.Spec PyProof.Rows L2 DP
/-! ### where hands, used by turns, lead a place -/
theorem bst_is {sd : Str} (hs : SideOk sd) {ls : List Lk} (h : ls ≠ []) (x L : Int) : IsBest sd ls x L (bst sd ls x L) := by
  rcases hs with e | e <;> subst e
  · exact bst_slow h x L
  · exact bst_fast h x L
/-- one use: none where there is no look of the side -/
noncomputable def stp (sd : Str) (L : Int) (ls : List Lk) (y : Int) : Option Int := by
  classical exact if ls = [] then none else some (bst sd ls y L)
theorem stp_nil {sd : Str} {L y : Int} : stp sd L [] y = none := by
  unfold stp; rw [if_pos rfl]
theorem stp_best {sd : Str} {L y m : Int} {ls : List Lk} (h : IsBest sd ls y L m) : stp sd L ls y = some m := by
  obtain ⟨⟨l, hl, _⟩, _⟩ := id h
  have hne : ls ≠ [] := fun e => by rw [e] at hl; cases hl
  unfold stp
  rw [if_neg hne, bst_of h]
theorem stp_some {sd : Str} (hs : SideOk sd) {L y : Int} {ls : List Lk} (h : ls ≠ []) : stp sd L ls y = some (bst sd ls y L) := stp_best (bst_is hs h y L)
theorem stp_shift {sd : Str} (hs : SideOk sd) {L : Int} (hL : 0 < L) (ls : List Lk) (y k : Int) : stp sd L ls (y + k * L) = (stp sd L ls y).map (· + k * L) := by
  by_cases h : ls = []
  · subst h; rw [stp_nil, stp_nil]; rfl
  · rw [stp_best (best_shift hL k (bst_is hs h y L)), stp_best (bst_is hs h y L)]; rfl
noncomputable def it (sd : Str) (L : Int) (kn : List (List Lk)) (x : Int) : Nat → Option Int
  | 0 => some x
  | n + 1 => (it sd L kn x n).bind (stp sd L (kn.getD (n % kn.length) []))
theorem it_succ {sd : Str} {L : Int} {kn : List (List Lk)} {x : Int} (n : Nat) : it sd L kn x (n + 1) = (it sd L kn x n).bind (stp sd L (kn.getD (n % kn.length) [])) := rfl
theorem it_none {sd : Str} {L : Int} {kn : List (List Lk)} {x : Int} {n : Nat} (h : it sd L kn x n = none) : ∀ k, it sd L kn x (n + k) = none
  | 0 => h
  | k + 1 => by
    show (it sd L kn x (n + k)).bind _ = none
    rw [it_none h k]; rfl
/-- where it stands at the same hand, whole turns on, it goes on alike -/
theorem it_turn {sd : Str} (hs : SideOk sd) {L : Int} (hL : 0 < L) {kn : List (List Lk)} {x k : Int} {s t : Nat} (hm : s % kn.length = t % kn.length) (h : it sd L kn x t = (it sd L kn x s).map (· + k * L)) : ∀ n, it sd L kn x (t + n) = (it sd L kn x (s + n)).map (· + k * L)
  | 0 => h
  | n + 1 => by
    show it sd L kn x (t + n + 1) = (it sd L kn x (s + n + 1)).map _
    rw [it_succ, it_succ, it_turn hs hL hm h n]
    have e : (t + n) % kn.length = (s + n) % kn.length := by rw [Nat.add_mod, ← hm, ← Nat.add_mod]
    rw [e]
    cases it sd L kn x (s + n) with
    | none => rfl
    | some y => exact stp_shift hs hL _ y k
theorem it_laps {sd : Str} (hs : SideOk sd) {L : Int} (hL : 0 < L) {kn : List (List Lk)} {x k : Int} {s p : Nat} (hm : s % kn.length = (s + p) % kn.length) (h : it sd L kn x (s + p) = (it sd L kn x s).map (· + k * L)) (r : Nat) : ∀ t : Nat, it sd L kn x (s + r + t * p) = (it sd L kn x (s + r)).map (· + t * (k * L))
  | 0 => by
    rw [Nat.zero_mul]
    cases it sd L kn x (s + r) with
    | none => simp
    | some y => simp
  | t + 1 => by
    have h1 := it_turn hs hL hm h (r + t * p)
    have e1 : s + p + (r + t * p) = s + r + (t + 1) * p := by rw [Nat.add_mul]; omega
    have e2 : s + (r + t * p) = s + r + t * p := by omega
    rw [e1, e2] at h1
    rw [h1, it_laps hs hL hm h r t]
    cases it sd L kn x (s + r) with
    | none => rfl
    | some y =>
      show some (y + (t : Int) * (k * L) + k * L) = some (y + ((t + 1 : Nat) : Int) * (k * L))
      rw [Int.natCast_add, Int.add_mul]
      congr 1
      omega
/-- two rounds that tell the same of each place lead alike -/
theorem it_alike {sd : Str} {L : Int} {kn kn' : List (List Lk)} {x : Int} (hl : kn.length = kn'.length) (h : ∀ i y, i < kn.length → stp sd L (kn.getD i []) y = stp sd L (kn'.getD i []) y) (hm : 0 < kn.length) : ∀ n, it sd L kn x n = it sd L kn' x n
  | 0 => rfl
  | n + 1 => by
    show (it sd L kn x n).bind _ = (it sd L kn' x n).bind _
    rw [it_alike hl h hm n]
    cases it sd L kn' x n with
    | none => rfl
    | some y =>
      show stp sd L (kn.getD (n % kn.length) []) y = stp sd L (kn'.getD (n % kn'.length) []) y
      rw [← hl]
      exact h _ y (Nat.mod_lt _ hm)
/-! ### the walk -/
structure WalkOk (sd : Str) (L : Int) (kn : List (List Lk)) (x : Int) (ps : List Int) (tl : List Lk) : Prop where
  len : ps.length = tl.length + 1
  zero : ps[0]? = some x
  step : ∀ i l, tl[i]? = some l → l ∈ kn.getD (i % kn.length) [] ∧ ∃ y z, ps[i]? = some y ∧ ps[i + 1]? = some z ∧ plc sd l y L = z ∧ IsBest sd (kn.getD (i % kn.length) []) y L z
/-- how it ends -/
def EndOk (L : Int) (kn : List (List Lk)) (ps : List Int) (tl : List Lk) : Option Nat → Prop
  | none => kn.getD (tl.length % kn.length) [] = []
  | some s => s < tl.length ∧ s % kn.length = tl.length % kn.length ∧ ∃ a b, ps[s]? = some a ∧ ps[tl.length]? = some b ∧ a % L = b % L
theorem WalkOk.it {sd : Str} {L : Int} {kn : List (List Lk)} {x : Int} {ps : List Int} {tl : List Lk} (W : WalkOk sd L kn x ps tl) : ∀ (i : Nat) (y : Int), ps[i]? = some y → it sd L kn x i = some y
  | 0, y, h => by
    rw [W.zero] at h
    exact h
  | i + 1, y, h => by
    have hi := (List.getElem?_eq_some_iff.mp h).1
    have hl := W.len
    obtain ⟨_, y0, z, h1, h2, _, h4⟩ := W.step i _ (List.getElem?_eq_getElem (by omega : i < tl.length))
    rw [h2] at h
    rw [← Option.some.inj h]
    show (KA.it sd L kn x i).bind _ = _
    rw [W.it i y0 h1]
    exact stp_best h4
/-- behind any uses: the walk's own answer -/
theorem behind_in {sd : Str} {L : Int} {kn : List (List Lk)} {x : Int} {ps : List Int} {tl : List Lk} (W : WalkOk sd L kn x ps tl) {n : Nat} (h : n < ps.length) : it sd L kn x n = some (ps.getD n 0) := by
  refine W.it n _ ?_
  rw [List.getD_eq_getElem?_getD, List.getElem?_eq_getElem h]; rfl
theorem behind_none {sd : Str} {L : Int} {kn : List (List Lk)} {x : Int} {ps : List Int} {tl : List Lk} (W : WalkOk sd L kn x ps tl) (h : EndOk L kn ps tl none) {n : Nat} (hn : ps.length ≤ n) : it sd L kn x n = none := by
  have hl := W.len
  have h1 : it sd L kn x (tl.length + 1) = none := by
    show (it sd L kn x tl.length).bind _ = none
    rw [show kn.getD (tl.length % kn.length) [] = [] from h]
    cases it sd L kn x tl.length with
    | none => rfl
    | some y => exact stp_nil
  have h2 := it_none h1 (n - (tl.length + 1))
  rwa [show tl.length + 1 + (n - (tl.length + 1)) = n by omega] at h2
theorem behind_laps {sd : Str} (hs : SideOk sd) {L : Int} (hL : 0 < L) {kn : List (List Lk)} {x : Int} {ps : List Int} {tl : List Lk} (W : WalkOk sd L kn x ps tl) {s : Nat} (h : EndOk L kn ps tl (some s)) (t r : Nat) (hr : s + r < ps.length) :
    it sd L kn x (s + r + t * (tl.length - s)) = some (ps.getD (s + r) 0 + t * (ps.getD tl.length 0 - ps.getD s 0)) := by
  obtain ⟨h1, h2, a, b, ha, hb, hab⟩ := h
  have ea := W.it s a ha
  have eb := W.it _ b hb
  have e1 : s + (tl.length - s) = tl.length := by omega
  obtain ⟨k, hk⟩ : ∃ k, b = a + k * L := by
    refine ⟨b / L - a / L, ?_⟩
    have q1 := Int.mul_ediv_add_emod a L
    have q2 := Int.mul_ediv_add_emod b L
    rw [Int.mul_comm] at q1 q2
    rw [Int.sub_mul]
    omega
  have hit : it sd L kn x (s + (tl.length - s)) = (it sd L kn x s).map (· + k * L) := by
    rw [e1, ea, eb, hk]; rfl
  rw [it_laps hs hL (by rw [e1]; exact h2) hit r t, behind_in W hr]
  have ga : ps.getD s 0 = a := by rw [List.getD_eq_getElem?_getD, ha]; rfl
  have gb : ps.getD tl.length 0 = b := by rw [List.getD_eq_getElem?_getD, hb]; rfl
  rw [ga, gb, hk]
  show some (ps.getD (s + r) 0 + (t : Int) * (k * L)) = some (ps.getD (s + r) 0 + (t : Int) * (a + k * L - a))
  rw [show a + k * L - a = k * L by omega]
/-! ### sizes -/
theorem plc_near {L : Int} (hL : 0 < L) (sd : Str) (l : Lk) (x : Int) : (plc sd l x L - x).natAbs ≤ (l.2.2 - l.2.1).natAbs + L.natAbs := by
  unfold plc
  split
  · have q := Int.mul_ediv_add_emod (x - l.2.1) L
    have q0 := Int.emod_nonneg (x - l.2.1) (show L ≠ 0 by omega)
    have q1 := Int.emod_lt_of_pos (x - l.2.1) hL
    rw [Int.mul_comm] at q
    omega
  · have q := Int.mul_ediv_add_emod (l.2.1 - x) L
    have q0 := Int.emod_nonneg (l.2.1 - x) (show L ≠ 0 by omega)
    have q1 := Int.emod_lt_of_pos (l.2.1 - x) hL
    rw [Int.mul_comm] at q
    omega
/-- a hand's looks are such as a Dark keeps -/
def KnOk (kn : List (List Lk)) : Prop := ∀ ls ∈ kn, ls.length ≤ 60 ∧ ∀ l ∈ ls, WordOk l.1 ∧ Sized 310 l
theorem KnOk.get {kn : List (List Lk)} (h : KnOk kn) (i : Nat) : (kn.getD i []).length ≤ 60 ∧ ∀ l ∈ kn.getD i [], WordOk l.1 ∧ Sized 310 l := by
  by_cases hi : i < kn.length
  · have e : kn.getD i [] = kn[i] := by rw [List.getD_eq_getElem?_getD, List.getElem?_eq_getElem hi]; rfl
    rw [e]
    exact h _ (List.getElem_mem hi)
  · have e : kn.getD i [] = [] := by rw [List.getD_eq_getElem?_getD, List.getElem?_eq_none (by omega)]; rfl
    rw [e]
    exact ⟨Nat.zero_le _, fun l hl => by cases hl⟩
theorem step_near {L : Int} (hL : 0 < L) (hLb : L.natAbs < 2 ^ 200) {l : Lk} (h : Sized 310 l) (sd : Str) (x : Int) : (plc sd l x L - x).natAbs ≤ 2 ^ 312 := by
  have h1 := plc_near hL sd l x
  have h2 : (l.2.2 - l.2.1).natAbs < 2 ^ 311 := sub_lt h.2 h.1
  have h3 : L.natAbs < 2 ^ 311 := lt_up hLb (by decide)
  have h4 : (2 : Nat) ^ 312 = 2 ^ 311 + 2 ^ 311 := by rw [Nat.pow_succ, Nat.mul_two]
  omega
theorem WalkOk.small {sd : Str} {L : Int} (hL : 0 < L) (hLb : L.natAbs < 2 ^ 200) {kn : List (List Lk)} (hk : KnOk kn) {x : Int} {ps : List Int} {tl : List Lk} (W : WalkOk sd L kn x ps tl) : ∀ (i : Nat) (y : Int), ps[i]? = some y → y.natAbs ≤ x.natAbs + i * 2 ^ 312
  | 0, y, h => by
    rw [W.zero] at h
    rw [← Option.some.inj h]; omega
  | i + 1, y, h => by
    have hi := (List.getElem?_eq_some_iff.mp h).1
    have hl := W.len
    obtain ⟨hm, y0, z, h1, h2, h3, _⟩ := W.step i _ (List.getElem?_eq_getElem (by omega : i < tl.length))
    rw [h2] at h
    rw [← Option.some.inj h, ← h3]
    have q1 := W.small hL hLb hk i y0 h1
    have q2 := step_near hL hLb ((hk.get _).2 _ hm).2 sd y0
    rw [Nat.add_mul, Nat.one_mul]
    generalize (2 : Nat) ^ 312 = B at q1 q2 ⊢
    generalize i * B = c at q1 ⊢
    omega
/-! ### the marks: hand and place within the turn -/
def mark (L : Int) (m : Nat) (ps : List Int) (i : Nat) : Nat × Int := (i % m, ps.getD i 0 % L)
def marks (L : Int) (m : Nat) (ps : List Int) (n : Nat) : List (Nat × Int) := (List.range n).map (mark L m ps)
def cand (L : Int) (kn : List (List Lk)) (x : Int) : List (Nat × Int) := (0, x % L) :: ((List.range kn.length).map fun j => (kn.getD j []).map fun l => ((j + 1) % kn.length, l.2.2 % L)).flatten
theorem nodup_le {α : Type} [DecidableEq α] : ∀ {l l' : List α}, l.Nodup → (∀ a ∈ l, a ∈ l') → l.length ≤ l'.length
  | [], l', _, _ => Nat.zero_le _
  | a :: l, l', hn, hs => by
    obtain ⟨h1, h2⟩ := List.nodup_cons.mp hn
    have ha := hs a List.mem_cons_self
    have h3 : ∀ b ∈ l, b ∈ l'.erase a := fun b hb => (List.mem_erase_of_ne (fun e => h1 (by rw [← e]; exact hb))).mpr (hs b (List.mem_cons_of_mem _ hb))
    have h4 := nodup_le h2 h3
    have h5 := List.length_erase_of_mem ha
    have h6 := List.length_pos_of_mem ha
    rw [List.length_cons]; omega
theorem flat_le {β γ : Type} {f : β → List γ} {c : Nat} : ∀ {l : List β}, (∀ b ∈ l, (f b).length ≤ c) → (l.map f).flatten.length ≤ l.length * c
  | [], _ => by simp
  | b :: l, h => by
    have h1 := flat_le (l := l) fun q hq => h q (List.mem_cons_of_mem _ hq)
    have h2 := h b List.mem_cons_self
    rw [List.map_cons, List.flatten_cons, List.length_append, List.length_cons, Nat.add_mul]
    omega
theorem cand_len {L : Int} {kn : List (List Lk)} (hk : KnOk kn) (x : Int) : (cand L kn x).length ≤ kn.length * 60 + 1 := by
  unfold cand
  rw [List.length_cons]
  have h := flat_le (f := fun j => (kn.getD j []).map fun l : Lk => ((j + 1) % kn.length, l.2.2 % L)) (c := 60) (l := List.range kn.length) fun j _ => by
    rw [List.length_map]; exact (hk.get j).1
  rw [List.length_range] at h
  omega
theorem plc_mod {L : Int} (sd : Str) (l : Lk) (x : Int) : plc sd l x L % L = l.2.2 % L := by
  unfold plc
  split
  · exact Int.add_mul_emod_self_right ..
  · rw [Int.sub_eq_add_neg, ← Int.neg_mul]
    exact Int.add_mul_emod_self_right ..
theorem mark_cand {sd : Str} {L : Int} {kn : List (List Lk)} (hm : 0 < kn.length) {x : Int} {ps : List Int} {tl : List Lk} (W : WalkOk sd L kn x ps tl) : ∀ i, i < ps.length → mark L kn.length ps i ∈ cand L kn x
  | 0, _ => by
    refine List.mem_cons.mpr (.inl ?_)
    unfold mark
    rw [List.getD_eq_getElem?_getD, W.zero, Nat.zero_mod]; rfl
  | i + 1, hi => by
    refine List.mem_cons.mpr (.inr ?_)
    have hl := W.len
    obtain ⟨h0, y0, z, h1, h2, h3, _⟩ := W.step i _ (List.getElem?_eq_getElem (by omega : i < tl.length))
    refine List.mem_flatten.mpr ⟨_, List.mem_map.mpr ⟨i % kn.length, List.mem_range.mpr (Nat.mod_lt _ hm), rfl⟩, List.mem_map.mpr ⟨_, h0, ?_⟩⟩
    unfold mark
    rw [List.getD_eq_getElem?_getD, h2]
    show (_, _) = (_, z % L)
    rw [← h3, plc_mod]
    congr 1
    rw [Nat.mod_add_mod]
theorem marks_le {sd : Str} {L : Int} {kn : List (List Lk)} (hm : 0 < kn.length) {x : Int} {ps : List Int} {tl : List Lk} (W : WalkOk sd L kn x ps tl) {n : Nat} (hn : n ≤ ps.length) (hd : (marks L kn.length ps n).Nodup) : n ≤ (cand L kn x).length := by
  have h := nodup_le hd (l' := cand L kn x) fun a ha => by
    obtain ⟨i, hi, rfl⟩ := List.mem_map.mp ha
    exact mark_cand hm W i (Nat.lt_of_lt_of_le (List.mem_range.mp hi) hn)
  unfold marks at h
  rwa [List.length_map, List.length_range] at h
theorem WalkOk.new {sd : Str} {L : Int} {kn : List (List Lk)} {x : Int} : WalkOk sd L kn x [x] [] := ⟨rfl, rfl, fun i l h => by simp at h⟩
theorem WalkOk.snoc {sd : Str} {L : Int} {kn : List (List Lk)} {x y z : Int} {ps : List Int} {tl : List Lk} {l : Lk} (W : WalkOk sd L kn x ps tl) (hy : ps[tl.length]? = some y) (hl : l ∈ kn.getD (tl.length % kn.length) []) (hz : plc sd l y L = z) (hb : IsBest sd (kn.getD (tl.length % kn.length) []) y L z) : WalkOk sd L kn x (ps ++ [z]) (tl ++ [l]) := by
  have hlen := W.len
  refine ⟨by simp [hlen], by rw [List.getElem?_append_left (by omega)]; exact W.zero, fun i l' h => ?_⟩
  by_cases hi : i < tl.length
  · rw [List.getElem?_append_left hi] at h
    obtain ⟨h0, y0, z0, h1, h2, h3⟩ := W.step i l' h
    exact ⟨h0, y0, z0, by rw [List.getElem?_append_left (by omega)]; exact h1, by rw [List.getElem?_append_left (by omega)]; exact h2, h3⟩
  · have hi2 := (List.getElem?_eq_some_iff.mp h).1
    have e : i = tl.length := by
      rw [List.length_append, List.length_singleton] at hi2; omega
    subst e
    rw [List.getElem?_append_right (Nat.le_refl _), Nat.sub_self] at h
    have e2 : l = l' := Option.some.inj h
    subst e2
    refine ⟨hl, y, z, by rw [List.getElem?_append_left (by omega)]; exact hy, ?_, hz, hb⟩
    rw [List.getElem?_append_right (by omega), hlen, Nat.sub_self]; rfl
theorem marks_keep {L : Int} {m : Nat} {ps : List Int} {z : Int} {n : Nat} (h : n ≤ ps.length) : marks L m (ps ++ [z]) n = marks L m ps n := by
  unfold marks
  refine List.map_congr_left fun i hi => ?_
  have := List.mem_range.mp hi
  unfold mark
  rw [List.getD_eq_getElem?_getD, List.getD_eq_getElem?_getD, List.getElem?_append_left (by omega)]
theorem marks_succ {L : Int} {m : Nat} {ps : List Int} {n : Nat} : marks L m ps (n + 1) = marks L m ps n ++ [mark L m ps n] := by
  unfold marks
  rw [List.range_succ, List.map_append]; rfl
theorem marks_nodup {L : Int} {m : Nat} {ps : List Int} {n : Nat} (h : (marks L m ps n).Nodup) (h2 : mark L m ps n ∉ marks L m ps n) : (marks L m ps (n + 1)).Nodup := by
  rw [marks_succ]
  refine List.nodup_append.mpr ⟨h, by simp, fun a ha b hb e => ?_⟩
  rw [List.mem_singleton] at hb
  subst hb; subst e
  exact h2 ha
end KA
namespace KA
open PySem PySem.Spec PyProof.Rows L2 DP
/-- hands in the dark, of one length -/
def Darks (Z : Ad) (K : PySem.W.Frag) (H : Hp) (ds : List Addr) (L : Int) (hs : List (List Lk)) : Prop := ds.length = hs.length ∧ ∀ (i : Nat) (d : Addr) (ls : List Lk), ds[i]? = some d → hs[i]? = some ls → DarkAt Z K H d L ls
theorem Darks.same {Z : Ad} {K : PySem.W.Frag} {H H' : Hp} {ds : List Addr} {L : Int} {hs : List (List Lk)} (D : Darks Z K H ds L hs) (S : Same H H') : Darks Z K H' ds L hs := ⟨D.1, fun i d ls h1 h2 => (D.2 i d ls h1 h2).same S⟩
theorem Darks.get {Z : Ad} {K : PySem.W.Frag} {H : Hp} {ds : List Addr} {L : Int} {hs : List (List Lk)} (D : Darks Z K H ds L hs) {i : Nat} {d : Addr} (h : ds[i]? = some d) : ∃ ls, hs[i]? = some ls ∧ DarkAt Z K H d L ls := by
  have hi := (List.getElem?_eq_some_iff.mp h).1
  have hl := D.1
  exact ⟨hs[i], List.getElem?_eq_getElem (by omega), D.2 i d _ h (List.getElem?_eq_getElem (by omega))⟩
/-- a list of looks that stands as itself -/
def LkAt (K : PySem.W.Frag) (H : Hp) (p : Addr) (ls : List Lk) : Prop := ∃ vs, H p = some (.lst vs) ∧ DpAll K H vs (ls.map encL)
theorem LkAt.dp {K : PySem.W.Frag} {H : Hp} {p : Addr} {ls : List Lk} (h : LkAt K H p ls) : Dp K H (.ref p) (.list (ls.map encL)) := by
  obtain ⟨vs, h1, h2⟩ := h
  exact .lst (SqL.of h1) h2
theorem LkAt.to {K : PySem.W.Frag} {H H' : Hp} {p : Addr} {ls : List Lk} (h : LkAt K H p ls) (ht : Tups H H') (hp : ∀ o, H p = some o → H' p = some o) : LkAt K H' p ls := by
  obtain ⟨vs, h1, h2⟩ := h
  exact ⟨vs, hp _ h1, dpAll_tups ht _ _ (noLs_map noL_encL ls) h2⟩
theorem LkAt.same {K : PySem.W.Frag} {H H' : Hp} {p : Addr} {ls : List Lk} (h : LkAt K H p ls) (S : Same H H') : LkAt K H' p ls := h.to (Tups.of_same S) fun o e => S _ _ e
/-- lists of looks -/
def Lots (K : PySem.W.Frag) (H : Hp) (as : List Addr) (kn : List (List Lk)) : Prop := as.length = kn.length ∧ ∀ (i : Nat) (a : Addr) (ls : List Lk), as[i]? = some a → kn[i]? = some ls → LkAt K H a ls
theorem Lots.same {K : PySem.W.Frag} {H H' : Hp} {as : List Addr} {kn : List (List Lk)} (D : Lots K H as kn) (S : Same H H') : Lots K H' as kn := ⟨D.1, fun i a ls h1 h2 => (D.2 i a ls h1 h2).same S⟩
theorem Lots.to {K : PySem.W.Frag} {H H' : Hp} {as : List Addr} {kn : List (List Lk)} (D : Lots K H as kn) (ht : Tups H H') (hp : ∀ a ∈ as, ∀ o, H a = some o → H' a = some o) : Lots K H' as kn := ⟨D.1, fun i a ls h1 h2 => (D.2 i a ls h1 h2).to ht (hp a (List.mem_of_getElem? h1))⟩
theorem Lots.get {K : PySem.W.Frag} {H : Hp} {as : List Addr} {kn : List (List Lk)} (D : Lots K H as kn) {i : Nat} {a : Addr} (h : as[i]? = some a) : ∃ ls, kn[i]? = some ls ∧ LkAt K H a ls := by
  have hi := (List.getElem?_eq_some_iff.mp h).1
  have hl := D.1
  exact ⟨kn[i], List.getElem?_eq_getElem (by omega), D.2 i a _ h (List.getElem?_eq_getElem (by omega))⟩
theorem Lots.snoc {K : PySem.W.Frag} {H : Hp} {as : List Addr} {kn : List (List Lk)} {a : Addr} {ls : List Lk} (D : Lots K H as kn) (h : LkAt K H a ls) : Lots K H (as ++ [a]) (kn ++ [ls]) := by
  have hl := D.1
  refine ⟨by simp [hl], fun i b l h1 h2 => ?_⟩
  by_cases hi : i < as.length
  · rw [List.getElem?_append_left hi] at h1
    rw [List.getElem?_append_left (by omega)] at h2
    exact D.2 i b l h1 h2
  · have h3 := (List.getElem?_eq_some_iff.mp h1).1
    rw [List.length_append, List.length_singleton] at h3
    have e : i = as.length := by omega
    subst e
    rw [List.getElem?_append_right (Nat.le_refl _), Nat.sub_self] at h1
    rw [List.getElem?_append_right (by omega), hl, Nat.sub_self] at h2
    have e1 : a = b := Option.some.inj h1
    have e2 : ls = l := Option.some.inj h2
    subst e1 e2
    exact h
/-- a list of objects, in place of them -/
abbrev refs (as : List Addr) : List V := as.map V.ref
def spRound (Z : Ad) (K : PySem.W.Frag) : Sp := fun vs H Q _ => ∃ (hp : Addr) (ds : List Addr) (sd : Str) (L : Int) (hs : List (List Lk)), vs = [.ref hp, .str sd] ∧ SqL K H hp (refs ds) ∧ Darks Z K H ds L hs ∧ SideOk sd ∧ ds.length ≤ 1000 ∧
  ∀ H' p as, H p = none → (∀ a ∈ as, H a = none ∧ a ≠ p) → Same H H' → H' p = some (.lst (refs as)) → Lots K H' as (hs.map (sideOf sd)) → Q (.ref p) H'
theorem same_acc {H H' : Hp} {D : Addr} {o : HO} (S : Same H H') (hD : H D = none) : Same H (upd H' D o) := same_set S hD
section
variable {P : Program} {w : World} {K : PySem.W.Frag} {mg : Str → Option Value} {base : Heap} {Z : Ad}
theorem ok_round_looks (T : Tx K w mg Z) : FnOk P w K mg base CX0 2 Z.a_round_looks Z.d_round_looks P_round_looks (spRound Z K) := by
  refine T.F_round_looks.ok scround_looks (fun vs H Q E h => ?_) (fun cdv A outer s H vs Q E hr h => ?_)
  · obtain ⟨hp, ds, sd, L, hs, rfl, _⟩ := h
    rfl
  · obtain ⟨hp, ds, sd, L, hs, rfl, hh, hD, hsd, hlen, k⟩ := h
    refine ⟨_, (pss_one (ps_ret (pe_lc (own := [("hand", 2)]) (g := gName 2) (tt := tYes) rfl scround_looks.nd (pi_list (pv 0)) (blkOk_by (own := [("hand", 2)]) (N := N_round_looks) (sc := defScope sround_looks) (by decide +kernel)) (fun _ _ _ _ _ => (pg_name (i := 2) scround_looks.nd rfl (Or.inl rfl))) (fun _ _ _ _ _ => pts_nil) (fun _ _ _ _ _ => (pe_call (ok_side_looks T) (hr.mono (by decide)) (by rfl) T.g_side_looks T.F_side_looks.kp T.bb_side_looks .nil pass0 (pa_cons (pe_meth0 (pv 2) T.cl T.m_Dark_looks (ok_Dark_looks T) (hr.mono (by decide)) T.bb_Dark_looks .nil pass0) (pa_cons (pv 1) pa_nil))))))), ?_⟩
    refine ⟨_, rfl, hp, rfl, ⟨_, hh⟩, fun D hDn => ?_⟩
    refine lc_list (K := K) (a := hp) (xs := refs ds) (fun i H' => Same H H' ∧ ∃ as, H' D = some (.lst (refs as)) ∧ as.length = i ∧ (∀ a ∈ as, H a = none ∧ a ≠ D) ∧ Lots K H' as ((hs.take i).map (sideOf sd))) ⟨same_upd hDn, [], upd_same, rfl, (fun _ z => by cases z), rfl, fun i a ls z => by simp at z⟩ (fun i H' _ ⟨S, _⟩ => Same.sqL S hh) ?_ ?_
    · rintro i y H' hi ⟨S, as, hD', hal, hfr, hlots⟩
      obtain ⟨d, hd, rfl⟩ : ∃ d, ds[i]? = some d ∧ y = .ref d := by
        obtain ⟨d, h1, h2⟩ := map_at hi
        exact ⟨d, h1, h2⟩
      obtain ⟨ls, hls, DD⟩ := hD.get hd
      refine ⟨rfl, yes_ite ?_⟩
      have DD1 := DD.same S
      obtain ⟨dx, la, vs, h1, h2, h3⟩ := DD1.ex
      refine ⟨_, rfl, d, dx, _, rfl, h1, df_no _ _ (by decide +kernel) (by decide +kernel), d, L, ls, rfl, DD1, fun p xs H1 hp1 S1 hx1 hx2 => ?_⟩
      refine ⟨_, rfl, .ref p, ls, sd, rfl, .lst (SqL.of hx1) hx2, hsd, fun l hl => (DD.ok l hl).1, Nat.le_trans DD.len (by decide), fun H2 q hq S2 hlk => ?_⟩
      have S12 := S1.trans S2
      have hD2 := S12 _ _ hD'
      have hqD : q ≠ D := fun e => by rw [e, S1 _ _ hD'] at hq; cases hq
      refine ⟨refs as, hD2, ?_, same_set (S.trans S12) hDn, as ++ [q], ?_, by simp [hal], fun a ha => ?_, ?_⟩
      · have := (List.getElem?_eq_some_iff.mp hd).1
        exact small1000 (by simp; omega)
      · rw [upd_same]; simp [refs]
      · rcases List.mem_append.mp ha with h | h
        · exact hfr a h
        · rw [List.mem_singleton] at h
          subst h
          exact ⟨S.free (S1.free hq), hqD⟩
      · rw [take_snoc hls, List.map_append]
        have hn : ∀ a ∈ as ++ [q], a ≠ D := fun a ha => by
          rcases List.mem_append.mp ha with h | h
          · exact (hfr a h).2
          · rw [List.mem_singleton] at h; subst h; exact hqD
        exact ((hlots.same S12).snoc hlk).to (Tups.upd_lst hD2) fun a ha o e => (upd_ne (hn a ha)).trans e
    · rintro H' ⟨S, as, hD', hal, hfr, hlots⟩
      have hl := hD.1
      have e : hs.take (refs ds).length = hs := List.take_of_length_le (by simp; omega)
      rw [e] at hlots
      exact k H' D as hDn hfr S hD' hlots
end
end KA
namespace KA
open PySem PySem.Spec PyProof.Rows L2 DP
/-- a Walk's fields -/
def wf (pl tb : Addr) (st : V) : List (Str × V) := [("places", .ref pl), ("told_by", .ref tb), ("start", st)]
def stV : Option Nat → V
  | none => .non
  | some s => .int s
theorem wf_places (pl tb : Addr) (st : V) : (wf pl tb st).lookup ("places" : Str) = some (.ref pl) := by simp [wf, List.lookup]
theorem wf_told (pl tb : Addr) (st : V) : (wf pl tb st).lookup ("told_by" : Str) = some (.ref tb) := by
  have h : (("told_by" : Str) == ("places" : Str)) = false := by decide +kernel
  simp [wf, List.lookup, h]
theorem wf_start (pl tb : Addr) (st : V) : (wf pl tb st).lookup ("start" : Str) = some st := by
  have h : (("start" : Str) == ("places" : Str)) = false := by decide +kernel
  have h2 : (("start" : Str) == ("told_by" : Str)) = false := by decide +kernel
  simp [wf, List.lookup, h, h2]
theorem wf_no (pl tb : Addr) (st : V) {m : Str} (h1 : (m == ("places" : Str)) = false) (h2 : (m == ("told_by" : Str)) = false) (h3 : (m == ("start" : Str)) = false) : (wf pl tb st).lookup m = none := by simp [wf, List.lookup, h1, h2, h3]
theorem wf_put (pl tb : Addr) (st v : V) : putF "start" v (wf pl tb st) = wf pl tb v := by
  show (if ("places" : Str) = "start" then _ else (("places" : Str), V.ref pl) :: (if ("told_by" : Str) = "start" then _ else (("told_by" : Str), V.ref tb) :: (if ("start" : Str) = "start" then _ else _))) = _
  rw [if_neg (by decide +kernel), if_neg (by decide +kernel), if_pos rfl]; rfl
/-- what is walked: its places, the looks that told them, where it comes round to -/
structure WalkAt (Z : Ad) (K : PySem.W.Frag) (H : Hp) (w : Addr) (pl tb : Addr) (ps : List Int) (tl : List Lk) (st : Option Nat) : Prop where
  ex : ∃ dx tvs, H w = some (.ins Z.C_Walk dx (wf pl tb (stV st))) ∧ H pl = some (.lst (ps.map V.int)) ∧ H tb = some (.lst tvs) ∧ DpAll K H tvs (tl.map encL)
/-- the dict of the marks seen -/
def seenK (L : Int) (m : Nat) (ps : List Int) (n : Nat) : List (List Key × V) := (List.range n).map fun i => ([.inl (((i % m : Nat)) : Int), .inl (ps.getD i 0 % L)], V.int i)
theorem seen_some {L : Int} {m : Nat} {ps : List Int} {n : Nat} {a b : Int} {v : V} (h : valV (seenK L m ps n) [.inl a, .inl b] = some v) : ∃ i : Nat, i < n ∧ v = .int i ∧ (((i % m : Nat)) : Int) = a ∧ ps.getD i 0 % L = b := by
  unfold valV at h
  cases e : (seenK L m ps n).find? fun kv => decide (kv.1 = [.inl a, .inl b]) with
  | none => rw [e] at h; cases h
  | some p =>
    rw [e] at h
    have e1 := List.find?_some e
    obtain ⟨i, hi, rfl⟩ := List.mem_map.mp (List.mem_of_find?_eq_some e)
    have e2 := of_decide_eq_true e1
    injection e2 with e3 e4
    injection e4 with e5 _
    exact ⟨i, List.mem_range.mp hi, (Option.some.inj h).symm, Sum.inl.inj e3, Sum.inl.inj e5⟩
theorem seen_none {L : Int} {m : Nat} {ps : List Int} {n j : Nat} (h : valV (seenK L m ps n) [.inl ((j % m : Nat) : Int), .inl (ps.getD j 0 % L)] = none) : mark L m ps j ∉ marks L m ps n := by
  intro hm
  obtain ⟨i, hi, e⟩ := List.mem_map.mp hm
  unfold valV at h
  rw [Option.map_eq_none_iff] at h
  have h2 := List.find?_eq_none.mp h _ (List.mem_map.mpr ⟨i, hi, rfl⟩)
  refine h2 (decide_eq_true ?_)
  have e1 : i % m = j % m := congrArg Prod.fst e
  have e2 : ps.getD i 0 % L = ps.getD j 0 % L := congrArg Prod.snd e
  show [Sum.inl _, Sum.inl _] = _
  rw [e1, e2]
theorem putK_new {κ : Type} [DecidableEq κ] {kvs : List (κ × V)} {k : κ} {v : V} (h : valV kvs k = none) : putK kvs k v = kvs ++ [(k, v)] := by
  unfold putK
  have e : (kvs.any fun kv => decide (kv.1 = k)) = false := by rw [valV_any, h]; rfl
  rw [e, if_neg Bool.false_ne_true]
theorem seenK_len (L : Int) (m : Nat) (ps : List Int) (n : Nat) : (seenK L m ps n).length = n := by unfold seenK; simp
theorem seenK_next {L : Int} {m : Nat} {ps : List Int} {z : Int} {n : Nat} (h : n < ps.length) : seenK L m (ps ++ [z]) (n + 1) = seenK L m ps n ++ [([.inl ((n % m : Nat) : Int), .inl (ps.getD n 0 % L)], V.int n)] := by
  unfold seenK
  rw [List.range_succ, List.map_append]
  have e : ∀ i, i < ps.length → (ps ++ [z]).getD i 0 = ps.getD i 0 := fun i hi => by rw [List.getD_eq_getElem?_getD, List.getD_eq_getElem?_getD, List.getElem?_append_left hi]
  congr 1
  · refine List.map_congr_left fun i hi => ?_
    have := List.mem_range.mp hi
    rw [e i (by omega)]
  · show [([Sum.inl ((n % m : Nat) : Int), Sum.inl ((ps ++ [z]).getD n 0 % L)], V.int n)] = _
    rw [e n h]
def spFollow (Z : Ad) (K : PySem.W.Frag) : Sp := fun vs H Q _ => ∃ (w kp pl tb dx : Addr) (as : List Addr) (L x : Int) (sd : Str) (kn : List (List Lk)), vs = [.ref w, .int L, .ref kp, .str sd] ∧ H w = some (.ins Z.C_Walk dx (wf pl tb .non)) ∧ H pl = some (.lst [.int x]) ∧ H tb = some (.lst []) ∧
  H kp = some (.lst (refs as)) ∧ Lots K H as kn ∧ pl ≠ tb ∧ (∀ a ∈ kp :: as, a ≠ w ∧ a ≠ pl ∧ a ≠ tb) ∧ SideOk sd ∧ 0 < L ∧ L.natAbs < 2 ^ 200 ∧ x.natAbs < 2 ^ 390 ∧ 0 < kn.length ∧ kn.length ≤ 60 ∧ KnOk kn ∧
  ∀ H' ps tl st, WalkOk sd L kn x ps tl → EndOk L kn ps tl st → (marks L kn.length ps tl.length).Nodup → WalkAt Z K H' w pl tb ps tl st → (∀ b o, H b = some o → b ≠ w → b ≠ pl → b ≠ tb → H' b = some o) → Q .non H'
section
variable {P : Program} {w : World} {K : PySem.W.Frag} {mg : Str → Option Value} {base : Heap} {Z : Ad}
theorem ok_Walkfollow (T : Tx K w mg Z) : FnOk P w K mg base CX0 3 Z.a_Walkfollow Z.d_Walkfollow P_Walkfollow (spFollow Z K) := by
  refine T.F_Walkfollow.ok scWalkfollow (fun vs H Q E h => ?_) (fun cdv A outer s H vs Q E hr h => ?_)
  · obtain ⟨w, kp, pl, tb, dx, as, L, x, sd, kn, rfl, _⟩ := h
    rfl
  · obtain ⟨w, kp, pl, tb, dx, as, L, x, sd, kn, rfl, hw, hpl, htb, hkp, hlots, hpt, hne, hsd, hL, hLb, hx, hm0, hm1, hk, k⟩ := h
    refine ⟨_, (pss_cons (ps_set (i := 4) scWalkfollow.nd rfl (Or.inl rfl) pe_dnewT)
      (pss_one (ps_while PassesOwn.never (pt_val pe_bl) (pss_cons (ps_set (i := 5) scWalkfollow.nd rfl (Or.inl rfl) (pe_callB (lenK (K := K)) (by rfl) T.b_len (by decide +kernel) (pa_cons (fldK (K := K) (pv 0) rfl) pa_nil)))
      (pss_cons (ps_set (i := 6) scWalkfollow.nd rfl (Or.inl rfl) (pe_op op_mod (pv 5) (pe_callB (lenK (K := K)) (by rfl) T.b_len (by decide +kernel) (pa_cons (pv 2) pa_nil))))
      (pss_cons (ps_set (i := 7) scWalkfollow.nd rfl (Or.inl rfl) (pe_tup (pa_cons (pv 6) (pa_cons (pe_op op_mod (pe_ix (ixL (K := K)) (fldK (K := K) (pv 0) rfl) (pe_un un_neg pe_int) (fun _ _ => rfl)) (pv 1)) pa_nil))))
      (C8.pss_cut (ps_if (pt_cmp (pc_din (hu_of hr) (pv 7) (pv 4))) (pss_cons (ps_fld (pv 0) (pe_dget (hu_of hr) (pv 4) (pv 7) (fun _ _ => rfl)) rfl)
      (pss_one ps_retN)) pss_nil)
      (C8.pss_cut (ps_if (pt_not (pt_truth (pe_ix (ixL (K := K)) (pv 2) (pv 6) (fun _ _ => rfl)) (by intro _; rfl))) (pss_one ps_retN) pss_nil)
      (pss_cons (ps_dput (hu_of hr) (pv 4) (pv 7) (pv 5) rfl)
      (pss_cons (ps_asg (pe_call (ok_best_step T) (hr.mono (by decide)) (by rfl) T.g_best_step T.F_best_step.kp T.bb_best_step .nil pass0 (pa_cons (pe_ix (ixL (K := K)) (pv 2) (pv 6) (fun _ _ => rfl)) (pa_cons (pv 3) (pa_cons (pe_ix (ixL (K := K)) (fldK (K := K) (pv 0) rfl) (pe_un un_neg pe_int) (fun _ _ => rfl)) (pa_cons (pv 1) pa_nil))))) (tupK (K := K) (by rfl) (pgs_cons (pg_name (i := 8) scWalkfollow.nd rfl (Or.inl rfl)) (pgs_cons (pg_name (i := 9) scWalkfollow.nd rfl (Or.inl rfl)) pgs_nil))))
      (pss_cons (ps_expr (pe_bm PySem.F.plainAttrs_list PySem.F.slot_list_append PySem.F.type_list_append mt_append (fldK (K := K) (pv 0) rfl) (pa_cons (pv 8) pa_nil)))
      (pss_one (ps_expr (pe_bm PySem.F.plainAttrs_list PySem.F.slot_list_append PySem.F.type_list_append mt_append (fldK (K := K) (pv 0) rfl) (pa_cons (pv 9) pa_nil))))))))))))))), ?_⟩
    refine fun sa hsa => ?_
    have hwp : w ≠ pl := fun e => by rw [e, hpl] at hw; cases hw
    have hwt : w ≠ tb := fun e => by rw [e, htb] at hw; cases hw
    refine while_by (fun σ' H' => ∃ u5 u6 u7 u8 u9 ps tl tvs, σ' = [some (.ref w), some (.int L), some (.ref kp), some (.str sd), some (.ref sa), u5, u6, u7, u8, u9] ∧ WalkOk sd L kn x ps tl ∧ (marks L kn.length ps tl.length).Nodup ∧
      H' w = some (.ins Z.C_Walk dx (wf pl tb .non)) ∧ H' pl = some (.lst (ps.map V.int)) ∧ H' tb = some (.lst tvs) ∧ DpAll K H' tvs (tl.map encL) ∧ H' sa = some (.dT (seenK L kn.length ps tl.length)) ∧ ∀ b o, H b = some o → b ≠ w → b ≠ pl → b ≠ tb → H' b = some o)
      (fun _ H' => (cand L kn x).length - lenAt H' tb) ?_ ?_ ?_
    · refine ⟨none, none, none, none, none, [x], [], [], rfl, .new, List.nodup_nil, (upd_ne (ne_of_none hw hsa)).trans hw, (upd_ne (ne_of_none hpl hsa)).trans hpl, (upd_ne (ne_of_none htb hsa)).trans htb, .nil, upd_same, fun b o e _ _ _ => (upd_ne (ne_of_none e hsa)).trans e⟩
    · rintro σ1 H1 ⟨u5, u6, u7, u8, u9, ps, tl, tvs, rfl, W, hmk, gw, gpl, gtb, gtv, gsa, keep⟩
      have hwl := W.len
      have htl : tvs.length = tl.length := by rw [dpAll_len gtv, List.length_map]
      have hkw : kp ≠ w ∧ kp ≠ pl ∧ kp ≠ tb := hne kp List.mem_cons_self
      have gkp := keep _ _ hkp hkw.1 hkw.2.1 hkw.2.2
      have hal := hlots.1
      have hmI : (0 : Int) < ((refs as).length : Int) := by simp; omega
      obtain ⟨y, hy⟩ : ∃ y, ps[tl.length]? = some y := ⟨ps[tl.length], List.getElem?_eq_getElem (by omega)⟩
      have hlast : atI (ps.map V.int) (-1) = some (.int y) := by
        rw [atI_last (by rw [List.length_map]; omega : 0 < (ps.map V.int).length), List.length_map, show ps.length - 1 = tl.length by omega, List.getElem?_map, hy]; rfl
      refine ⟨_, rfl, iteT ?_⟩
      refine ⟨_, rfl, w, Z.C_Walk, dx, _, _, rfl, gw, T.cl_Walk, T.nWalk_told_by, wf_told _ _ _, tb, tvs, rfl, .inl (SqL.of gtb), ?_⟩
      refine ⟨_, rfl, _, rfl, kp, refs as, rfl, .inl (SqL.of gkp), _, _, rfl, rfl, hmI, ?_⟩
      refine ⟨_, rfl, _, rfl, w, Z.C_Walk, dx, _, _, rfl, gw, T.cl_Walk, T.nWalk_places, wf_places _ _ _, _, rfl, _, _, _, _, rfl, rfl, SqL.of gpl, hlast, _, rfl, _, _, rfl, rfl, hL, (by show 2 ≤ sizeLine; decide), fun q hq => ?_⟩
      have hn1 : ((tvs.length : Nat) : Int) % ((refs as).length : Int) = ((tl.length % kn.length : Nat) : Int) := by rw [htl]; simp [hal]
      have hy0 : ps.getD tl.length 0 = y := by rw [List.getD_eq_getElem?_getD, hy]; rfl
      dsimp only
      rw [hn1, htl]
      have Sq := same_upd (o := HO.tup [V.int ((tl.length % kn.length : Nat) : Int), .int (y % L)]) hq
      have fq : (upd H1 q (.tup [V.int ((tl.length % kn.length : Nat) : Int), .int (y % L)])) q = some (.tup (([.inl ((tl.length % kn.length : Nat) : Int), .inl (ps.getD tl.length 0 % L)] : List Key).map kV)) := by rw [hy0]; exact upd_same
      generalize upd H1 q (.tup [V.int ((tl.length % kn.length : Nat) : Int), .int (y % L)]) = H2 at Sq fq ⊢
      have keep2 : ∀ b o, H b = some o → b ≠ w → b ≠ pl → b ≠ tb → H2 b = some o := fun b o e n1 n2 n3 => Sq _ _ (keep b o e n1 n2 n3)
      have gtv2 := dpAll_mono Sq _ _ gtv
      have WA2 : ∀ st, H2 w = some (.ins Z.C_Walk dx (wf pl tb (stV st))) → WalkAt Z K H2 w pl tb ps tl st := fun st e => ⟨dx, tvs, e, Sq _ _ gpl, Sq _ _ gtb, gtv2⟩
      refine ⟨fun σ' H' => σ' = [some (.ref w), some (.int L), some (.ref kp), some (.str sd), some (.ref sa), some (.int tl.length), some (.int ((tl.length % kn.length : Nat) : Int)), some (.ref q), u8, u9] ∧ H' = H2 ∧ valV (seenK L kn.length ps tl.length) [.inl ((tl.length % kn.length : Nat) : Int), .inl (ps.getD tl.length 0 % L)] = none, ?_, ?_⟩
      · refine ⟨_, rfl, _, rfl, sa, _, rfl, DGet.t (Sq _ _ gsa) fq, _, rfl, ?_⟩
        cases c : valV (seenK L kn.length ps tl.length) [.inl ((tl.length % kn.length : Nat) : Int), .inl (ps.getD tl.length 0 % L)] with
        | none => exact iteF ⟨rfl, rfl, rfl⟩
        | some v =>
          refine iteT ?_
          obtain ⟨i, hi, rfl, hi1, hi2⟩ := seen_some c
          have g := DGet.t (Sq _ _ gsa) fq
          rw [c] at g
          refine ⟨_, rfl, _, rfl, sa, _, rfl, g, _, rfl, w, Z.C_Walk, dx, _, rfl, Sq _ _ gw, T.cl_Walk, T.nWalk_start, (by show 3 < 1000; decide), ?_⟩
          have hwl2 : i < ps.length := by omega
          have hup : Tups H2 (upd H2 w (.ins Z.C_Walk dx (putF "start" (.int i) (wf pl tb .non)))) := Tups.upd_ins (Sq _ _ gw)
          refine k _ ps tl (some i) W ⟨hi, by omega, ps.getD i 0, y, ?_, hy, by rw [hi2, hy0]⟩ hmk ⟨dx, tvs, ?_, (upd_ne (Ne.symm hwp)).trans (Sq _ _ gpl), (upd_ne (Ne.symm hwt)).trans (Sq _ _ gtb), dpAll_tups hup _ _ (noLs_map noL_encL tl) gtv2⟩ fun b o e n1 n2 n3 => (upd_ne n1).trans (keep2 b o e n1 n2 n3)
          · rw [List.getD_eq_getElem?_getD, List.getElem?_eq_getElem hwl2]; rfl
          · rw [upd_same, wf_put]; rfl
      · rintro σ2 H3 ⟨rfl, rfl, hnew⟩
        have hnum : tl.length % kn.length < kn.length := Nat.mod_lt _ hm0
        obtain ⟨a, ha⟩ : ∃ a, as[tl.length % kn.length]? = some a := ⟨as[tl.length % kn.length], List.getElem?_eq_getElem (by omega)⟩
        have gl2 : Lots K H3 as kn := hlots.to (fun b xs e => ?tups) fun a' ha' o e => keep2 _ _ e (hne a' (List.mem_cons_of_mem _ ha')).1 (hne a' (List.mem_cons_of_mem _ ha')).2.1 (hne a' (List.mem_cons_of_mem _ ha')).2.2
        case tups =>
          have hb1 : b ≠ w := fun q => by subst q; rcases e with e | ⟨_, e⟩ <;> rw [hw] at e <;> cases e
          have hb2 : b ≠ pl := fun q => by subst q; rcases e with e | ⟨_, e⟩ <;> rw [hpl] at e <;> cases e
          have hb3 : b ≠ tb := fun q => by subst q; rcases e with e | ⟨_, e⟩ <;> rw [htb] at e <;> cases e
          rcases e with e | ⟨z, e⟩
          · exact .inl (keep2 _ _ e hb1 hb2 hb3)
          · exact .inr ⟨z, keep2 _ _ e hb1 hb2 hb3⟩
        obtain ⟨ls, hls, hlk⟩ := gl2.get ha
        have hlsD : kn.getD (tl.length % kn.length) [] = ls := by rw [List.getD_eq_getElem?_getD, hls]; rfl
        have hix : atI (refs as) ((tl.length % kn.length : Nat) : Int) = some (.ref a) := by
          refine at_of (j := tl.length % kn.length) (by simp) ?_
          show (as.map V.ref)[_]? = _
          rw [List.getElem?_map, ha]; rfl
        obtain ⟨lvs, hl1, hl2⟩ := hlk
        have hlen2 : lvs.length = ls.length := by rw [dpAll_len hl2, List.length_map]
        have gkp3 := keep2 _ _ hkp hkw.1 hkw.2.1 hkw.2.2
        refine ⟨fun σ' H' => σ' = [some (.ref w), some (.int L), some (.ref kp), some (.str sd), some (.ref sa), some (.int tl.length), some (.int ((tl.length % kn.length : Nat) : Int)), some (.ref q), u8, u9] ∧ H' = H3 ∧ ls ≠ [], ?_, ?_⟩
        · refine ⟨_, rfl, _, rfl, _, _, _, _, rfl, rfl, SqL.of gkp3, hix, _, .inl ⟨lvs, SqL.of hl1, rfl⟩, ?_⟩
          cases hc : ls with
          | nil =>
            rw [hc] at hlen2
            have e : lvs = [] := List.eq_nil_of_length_eq_zero hlen2
            subst e
            refine iteT (k _ ps tl none W (hlsD.trans hc) hmk (WA2 none (Sq _ _ gw)) keep2)
          | cons l ls' =>
            rw [hc] at hlen2
            cases lvs with
            | nil => simp at hlen2
            | cons y' ys' => exact iteF ⟨rfl, rfl, by simp⟩
        · rintro σ3 H4 ⟨rfl, rfl, hnil⟩
          have hN : tl.length < 4000 := by
            have h1 := marks_le hm0 W (n := tl.length) (by omega) hmk
            have h2 := cand_len hk (L := L) x
            have h3 : kn.length * 60 ≤ 60 * 60 := Nat.mul_le_mul_right 60 hm1
            omega
          have hyb : y.natAbs < 2 ^ 400 := by
            have h1 := W.small hL hLb hk _ y hy
            have h2 : tl.length * 2 ^ 312 ≤ 2 ^ 390 := Nat.le_trans (Nat.mul_le_mul_right _ (Nat.le_of_lt hN)) (by decide)
            have h3 : (2 : Nat) ^ 390 + 2 ^ 390 ≤ 2 ^ 400 := by decide
            omega
          refine ⟨_, rfl, _, rfl, _, rfl, sa, _, rfl, DPut.t (Sq _ _ gsa) fq (by rw [seenK_len]; exact Nat.lt_trans hN (by decide)), ?_⟩
          rw [putK_new hnew]
          have gs4 := Sq _ _ gsa
          have nsa : ∀ b o, H4 b = some o → (∀ kvs, o ≠ .dT kvs) → b ≠ sa := fun b o e hno q => by
            subst q
            rw [e] at gs4
            exact hno _ (Option.some.inj gs4)
          have t5 : Tups H4 (upd H4 sa (.dT (seenK L kn.length ps tl.length ++ [([.inl ((tl.length % kn.length : Nat) : Int), .inl (ps.getD tl.length 0 % L)], V.int tl.length)]))) := fun b xs e => by
            have hb : b ≠ sa := by
              rintro rfl
              rcases e with e | ⟨_, e⟩ <;> rw [gs4] at e <;> cases e
            rcases e with e | ⟨z, e⟩
            · exact .inl ((upd_ne hb).trans e)
            · exact .inr ⟨z, (upd_ne hb).trans e⟩
          have up5 : ∀ b o, H4 b = some o → (∀ kvs, o ≠ .dT kvs) → (upd H4 sa (.dT (seenK L kn.length ps tl.length ++ [([.inl ((tl.length % kn.length : Nat) : Int), .inl (ps.getD tl.length 0 % L)], V.int tl.length)]))) b = some o := fun b o e hno => (upd_ne (nsa b o e hno)).trans e
          have gs5 : (upd H4 sa (.dT (seenK L kn.length ps tl.length ++ [([.inl ((tl.length % kn.length : Nat) : Int), .inl (ps.getD tl.length 0 % L)], V.int tl.length)]))) sa = some _ := upd_same
          have keep5 : ∀ b o, H b = some o → b ≠ w → b ≠ pl → b ≠ tb → (upd H4 sa (.dT (seenK L kn.length ps tl.length ++ [([.inl ((tl.length % kn.length : Nat) : Int), .inl (ps.getD tl.length 0 % L)], V.int tl.length)]))) b = some o := fun b o e n1 n2 n3 => (upd_ne (ne_of_none e hsa)).trans (keep2 b o e n1 n2 n3)
          generalize upd H4 sa (.dT (seenK L kn.length ps tl.length ++ [([.inl ((tl.length % kn.length : Nat) : Int), .inl (ps.getD tl.length 0 % L)], V.int tl.length)])) = H5 at t5 up5 gs5 keep5 ⊢
          have gw5 := up5 _ _ (Sq _ _ gw) (fun _ e => by cases e)
          have gpl5 := up5 _ _ (Sq _ _ gpl) (fun _ e => by cases e)
          have gtb5 := up5 _ _ (Sq _ _ gtb) (fun _ e => by cases e)
          have gtv5 := dpAll_tups t5 _ _ (noLs_map noL_encL tl) gtv2
          have gl5 := dpAll_tups t5 _ _ (noLs_map noL_encL ls) hl2
          have hkl := hk.get (tl.length % kn.length)
          rw [hlsD] at hkl
          refine ⟨_, rfl, _, rfl, _, _, _, _, rfl, rfl, SqL.of (keep5 _ _ hkp hkw.1 hkw.2.1 hkw.2.2), hix, _, rfl, _, rfl, w, Z.C_Walk, dx, _, _, rfl, gw5, T.cl_Walk, T.nWalk_places, wf_places _ _ _, _, rfl, _, _, _, _, rfl, rfl, SqL.of gpl5, hlast, _, rfl, ?_⟩
          refine ⟨_, ls, sd, y, L, rfl, .lst (SqL.of (up5 _ _ hl1 (fun _ e => by cases e))) gl5, hsd, fun l hl => ⟨(hkl.2 l hl).1, (hkl.2 l hl).2.up (by decide)⟩, Nat.le_trans hkl.1 (by decide), hL, hLb, hyb, fun e => absurd e hnil, fun H6 r l hl S6 hb hr => ?_⟩
          have hr' : Dp K H6 r (.tuple [.int (plc sd l y L), encL l]) := hr
          cases hr' with
          | tup sq da =>
            cases da with
            | cons a1 da =>
              cases a1
              cases da with
              | cons a2 da =>
              cases da
              have gw6 := S6 _ _ gw5
              have gpl6 := S6 _ _ gpl5
              have gtb6 := S6 _ _ gtb5
              have gs6 := S6 _ _ gs5
              have gtv6 := dpAll_mono S6 _ _ gtv5
              refine ⟨_, _, rfl, sq, rfl, _, _, rfl, _, _, rfl, rfl, ?_⟩
              refine ⟨_, rfl, w, Z.C_Walk, dx, _, _, rfl, gw6, T.cl_Walk, T.nWalk_places, wf_places _ _ _, .inl ⟨rfl, _, SqL.of gpl6⟩, _, rfl, pl, ps.map V.int, _, rfl, rfl, gpl6, ?_, ?_⟩
              · exact Nat.lt_of_le_of_lt (by rw [List.length_map]; omega : (ps.map V.int).length ≤ 4000) (by decide)
              have t7 : Tups H6 (upd H6 pl (.lst (ps.map V.int ++ [V.int (plc sd l y L)]))) := Tups.upd_lst gpl6
              have gw7 : (upd H6 pl (.lst (ps.map V.int ++ [V.int (plc sd l y L)]))) w = some (.ins Z.C_Walk dx (wf pl tb .non)) := (upd_ne hwp).trans gw6
              have gtb7 : (upd H6 pl (.lst (ps.map V.int ++ [V.int (plc sd l y L)]))) tb = some (.lst tvs) := (upd_ne (Ne.symm hpt)).trans gtb6
              have gtv7 := dpAll_tups t7 _ _ (noLs_map noL_encL tl) gtv6
              have ga7 := dp_tups t7 _ _ (noL_encL l) a2
              refine ⟨_, rfl, w, Z.C_Walk, dx, _, _, rfl, gw7, T.cl_Walk, T.nWalk_told_by, wf_told _ _ _, .inl ⟨rfl, _, SqL.of gtb7⟩, _, rfl, tb, tvs, _, rfl, rfl, gtb7, ?_, ?_⟩
              · exact Nat.lt_of_le_of_lt (by omega : tvs.length ≤ 4000) (by decide)
              have hps : sa ≠ pl := fun e => by rw [e, gpl6] at gs6; cases gs6
              have hts : sa ≠ tb := fun e => by rw [e, gtb6] at gs6; cases gs6
              have hmem : l ∈ kn.getD (tl.length % kn.length) [] := by rw [hlsD]; exact hl
              have hbest : IsBest sd (kn.getD (tl.length % kn.length) []) y L (plc sd l y L) := by rw [hlsD]; exact hb
              have W2 := W.snoc hy hmem rfl hbest
              have hnd : (marks L kn.length (ps ++ [plc sd l y L]) (tl ++ [l]).length).Nodup := by
                rw [List.length_append, List.length_singleton, marks_keep (by omega)]
                exact marks_nodup hmk (seen_none hnew)
              refine ⟨⟨_, _, _, _, _, ps ++ [plc sd l y L], tl ++ [l], _, rfl, W2, hnd, (upd_ne hwt).trans gw7, ?_, upd_same, ?_, ?_, fun b o e n1 n2 n3 => (upd_ne n3).trans ((upd_ne n2).trans (S6 _ _ (keep5 b o e n1 n2 n3)))⟩, ?_⟩
              · rw [upd_ne hpt, upd_same, List.map_append]; rfl
              · rw [List.map_append]
                exact acc_step gtb7 (noLs_map noL_encL _) rfl gtv7 ga7
              · rw [upd_ne hts, upd_ne hps, gs6, List.length_append, List.length_singleton, seenK_next (by omega)]
              · have h1 := marks_le hm0 W2 (n := (tl ++ [l]).length) (by simp; omega) hnd
                rw [lenAt_of upd_same, lenAt_of gtb]
                simp at h1 ⊢
                omega
    · rintro σ1 H1 Q1 Q2 hQ ⟨b, eb, hc⟩
      exact ⟨b, eb, hQ _ _ hc⟩
end
end KA
namespace KA
open PySem PySem.Spec PyProof.Rows L2 DP
/-- for k, x in enumerate(xs) -/
theorem for_enum {K : PySem.W.Frag} {a : Addr} {xs : List V} {g : TG} {tb : TS} {D : Ends} {σ : L2.St} {H : Hp} (Pv : Nat → L2.St → Hp → Prop) (h0 : Pv 0 σ H) (hl : ∀ i σ H, i ≤ xs.length → Pv i σ H → SqL K H a xs)
    (hs : ∀ i x T σ H, xs[i]? = some x → Pv i σ H → H T = none → g (.ref T) σ (upd H T (.tup [.int (i : Nat), x])) fun σ2 H2 => tb { D with nx := Pv (i + 1), ct := Pv (i + 1), bk := D.nx } σ2 H2) (hd : ∀ σ H, Pv xs.length σ H → D.nx σ H) :
    ∃ W : Nat → Nat → L2.St → Hp → Prop, (∃ m, W 0 m σ H) ∧ ∀ i m σ H, W i m σ H →
      ((Ite K a).stop i H ∧ D.nx σ H) ∨ ((Ite K a).go i H ∧ ∃ N : L2.St → Hp → Prop, (∀ σ' H', N σ' H' → ∃ m', m' < m ∧ W (i + 1) m' σ' H') ∧ ∀ x H', (Ite K a).yld i H x H' → g x σ H' fun σ2 H2 => tb { D with nx := N, ct := N, bk := D.nx } σ2 H2) := by
  refine ⟨fun i m σ H => m = xs.length - i ∧ i ≤ xs.length ∧ Pv i σ H, ⟨xs.length, by simp, Nat.zero_le _, h0⟩, ?_⟩
  rintro i m σ H ⟨rfl, hi, p⟩
  have q := hl i σ H hi p
  by_cases hlt : i < xs.length
  · refine .inr ⟨⟨xs, xs[i], q, by simp [hlt]⟩, Pv (i + 1), fun σ' H' p' => ⟨xs.length - (i + 1), by omega, rfl, hlt, p'⟩, fun v H' y => ?_⟩
    obtain ⟨T, x, rfl, hT, rfl, f⟩ := y
    exact hs i x T σ H (f xs q) p hT
  · have e : i = xs.length := by omega
    subst e
    exact .inl ⟨⟨xs, q, Nat.le_refl _⟩, hd σ H p⟩
/-- the sides' looks of hands are such as the walk asks -/
theorem knOk {Z : Ad} {K : PySem.W.Frag} {H : Hp} {ds : List Addr} {L : Int} {hs : List (List Lk)} (D : Darks Z K H ds L hs) (sd : Str) : KnOk (hs.map (sideOf sd)) := by
  intro ls hm
  obtain ⟨l0, hl0, rfl⟩ := List.mem_map.mp hm
  obtain ⟨i, hi, e⟩ := List.getElem_of_mem hl0
  have hl := D.1
  have DD := D.2 i ds[i] l0 (List.getElem?_eq_getElem (by omega)) (by rw [List.getElem?_eq_getElem hi, e])
  refine ⟨Nat.le_trans (List.length_filter_le _ _) DD.len, fun l hl => ?_⟩
  have h1 := DD.ok l (List.mem_filter.mp hl).1
  exact ⟨h1.1, h1.2.up (by decide)⟩
/-- an answer of a walk -/
def oV : Option Int → V
  | none => .non
  | some i => .int i
def spLen (Z : Ad) (K : PySem.W.Frag) : Sp := fun vs H Q _ => ∃ (d : Addr) (L : Int) (ls : List Lk), vs = [.ref d] ∧ DarkAt Z K H d L ls ∧ Q (.int L) H
def spWalk (Z : Ad) (K : PySem.W.Frag) : Sp := fun vs H Q _ => ∃ (w hp dx : Addr) (ds : List Addr) (sd : Str) (L x : Int) (hs : List (List Lk)), vs = [.ref w, .ref hp, .str sd, .int x] ∧ H w = some (.ins Z.C_Walk dx []) ∧ SqL K H hp (refs ds) ∧ Darks Z K H ds L hs ∧ 0 < ds.length ∧ ds.length ≤ 60 ∧ SideOk sd ∧ x.natAbs < 2 ^ 390 ∧ (∀ d ∈ ds, d ≠ w) ∧
  ∀ H' pl tb ps tl st, WalkOk sd L (hs.map (sideOf sd)) x ps tl → EndOk L (hs.map (sideOf sd)) ps tl st → (marks L (hs.map (sideOf sd)).length ps tl.length).Nodup → WalkAt Z K H' w pl tb ps tl st → Out w H H' → Q .non H'
def spPeriod (Z : Ad) (K : PySem.W.Frag) : Sp := fun vs H Q _ => ∃ (w pl tb : Addr) (ps : List Int) (tl : List Lk) (s : Nat), vs = [.ref w] ∧ WalkAt Z K H w pl tb ps tl (some s) ∧ Q (.int ((tl.length : Int) - s)) H
def spClimb (Z : Ad) (K : PySem.W.Frag) : Sp := fun vs H Q _ => ∃ (w pl tb : Addr) (ps : List Int) (tl : List Lk) (s : Nat), vs = [.ref w] ∧ WalkAt Z K H w pl tb ps tl (some s) ∧ ps.length = tl.length + 1 ∧ s < tl.length ∧ Q (.int (ps.getD tl.length 0 - ps.getD s 0)) H
def spBehind (Z : Ad) (K : PySem.W.Frag) : Sp := fun vs H Q _ => ∃ (w pl tb : Addr) (sd : Str) (L x n : Int) (kn : List (List Lk)) (ps : List Int) (tl : List Lk) (st : Option Nat), vs = [.ref w, .int n] ∧ WalkAt Z K H w pl tb ps tl st ∧ WalkOk sd L kn x ps tl ∧ EndOk L kn ps tl st ∧ SideOk sd ∧ 0 < L ∧ L.natAbs < 2 ^ 200 ∧ KnOk kn ∧ x.natAbs < 2 ^ 390 ∧ tl.length < 4000 ∧ 0 ≤ n ∧ n.natAbs < 2 ^ 300 ∧
  ∀ H', Same H H' → Q (oV (it sd L kn x n.toNat)) H'
def spCheck (Z : Ad) (K : PySem.W.Frag) : Sp := fun vs H Q _ => ∃ (hp : Addr) (ds : List Addr) (L : Int) (hs : List (List Lk)), vs = [.ref hp] ∧ SqL K H hp (refs ds) ∧ Darks Z K H ds L hs ∧ 0 < ds.length ∧ ∀ H', Same H H' → Q .non H'
def spPlaceB (Z : Ad) (K : PySem.W.Frag) : Sp := fun vs H Q _ => ∃ (hp : Addr) (ds : List Addr) (sd : Str) (L x n : Int) (hs : List (List Lk)), vs = [.ref hp, .str sd, .int x, .int n] ∧ SqL K H hp (refs ds) ∧ Darks Z K H ds L hs ∧ 0 < ds.length ∧ ds.length ≤ 60 ∧ SideOk sd ∧ x.natAbs < 2 ^ 390 ∧ 0 ≤ n ∧ n.natAbs < 2 ^ 300 ∧
  ∀ H', Same H H' → Q (oV (it sd L (hs.map (sideOf sd)) x n.toNat)) H'
def spOneB (Z : Ad) (K : PySem.W.Frag) (sd : Str) : Sp := fun vs H Q _ => ∃ (hp : Addr) (ds : List Addr) (L x n : Int) (hs : List (List Lk)), vs = [.ref hp, .int x, .int n] ∧ SqL K H hp (refs ds) ∧ Darks Z K H ds L hs ∧ 0 < ds.length ∧ ds.length ≤ 60 ∧ x.natAbs < 2 ^ 390 ∧ 0 ≤ n ∧ n.natAbs < 2 ^ 300 ∧
  ∀ H', Same H H' → Q (oV (it sd L (hs.map (sideOf sd)) x n.toNat)) H'
theorem wf_new (pl tb : Addr) : putF "start" .non (putF "told_by" (.ref tb) (putF "places" (.ref pl) [])) = wf pl tb .non := by
  have e1 : ¬ (("places" : Str) = "told_by") := by decide +kernel
  have e2 : ¬ (("places" : Str) = "start") := by decide +kernel
  have e3 : ¬ (("told_by" : Str) = "start") := by decide +kernel
  show putF "start" .non (if ("places" : Str) = "told_by" then _ else (("places" : Str), V.ref pl) :: putF "told_by" (.ref tb) []) = _
  rw [if_neg e1]
  show (if ("places" : Str) = "start" then _ else (("places" : Str), V.ref pl) :: putF "start" .non (putF "told_by" (.ref tb) [])) = _
  rw [if_neg e2]
  show (("places" : Str), V.ref pl) :: (if ("told_by" : Str) = "start" then _ else (("told_by" : Str), V.ref tb) :: putF "start" .non []) = _
  rw [if_neg e3]; rfl
section
variable {P : Program} {w : World} {K : PySem.W.Frag} {mg : Str → Option Value} {base : Heap} {Z : Ad}
theorem ok_Dark_length (T : Tx K w mg Z) : FnOk P w K mg base CX0 1 Z.a_Dark_length Z.d_Dark_length P_Dark_length (spLen Z K) := by
  refine T.F_Dark_length.ok scDark_length (fun vs H Q E h => ?_) (fun cdv A outer s H vs Q E hr h => ?_)
  · obtain ⟨d, L, ls, rfl, _⟩ := h
    rfl
  · obtain ⟨d, L, ls, rfl, D, k⟩ := h
    obtain ⟨dx, la, xs, h1, h2, h3⟩ := id D.ex
    refine ⟨_, (pss_one (ps_ret (fldK (K := K) (pv 0) rfl))), ?_⟩
    exact ⟨_, rfl, d, Z.C, dx, _, _, rfl, h1, T.cl, T.n_length, df_length _ _, k⟩
theorem ok_Walk_init (T : Tx K w mg Z) : FnOk P w K mg base CX0 4 Z.a_Walk_init Z.d_Walk_init P_Walk_init (spWalk Z K) := by
  refine T.F_Walk_init.ok scWalk_init (fun vs H Q E h => ?_) (fun cdv A outer s H vs Q E hr h => ?_)
  · obtain ⟨w, hp, dx, ds, sd, L, x, hs, rfl, _⟩ := h
    rfl
  · obtain ⟨w, hp, dx, ds, sd, L, x, hs, rfl, hw, hh, hD, hd0, hd1, hsd, hx, hdw, k⟩ := h
    refine ⟨_, (pss_cons (ps_fld (pv 0) (pe_lst (pa_cons (pv 3) pa_nil)) rfl)
      (pss_cons (ps_fld (pv 0) (pe_lst pa_nil) rfl)
      (pss_cons (ps_fld (pv 0) pe_non rfl)
      (pss_one (ps_expr (pe_meth (pv 0) T.cl_Walk T.m_Walkfollow (ok_Walkfollow T) (hr.mono (by decide)) T.bb_Walkfollow .nil pass0 (pa_cons (pe_meth0 (pe_ix (ixL (K := K)) (pv 1) pe_int (fun _ _ => rfl)) T.cl T.m_Dark_length (ok_Dark_length T) (hr.mono (by decide)) T.bb_Dark_length .nil pass0) (pa_cons (pe_call (ok_round_looks T) (hr.mono (by decide)) (by rfl) T.g_round_looks T.F_round_looks.kp T.bb_round_looks .nil pass0 (pa_cons (pv 1) (pa_cons (pv 2) pa_nil))) (pa_cons (pv 2) pa_nil))))))))), ?_⟩
    refine ⟨_, rfl, (by show 1 ≤ sizeLine; decide), fun pl hpl => ?_⟩
    have hwp : w ≠ pl := ne_of_none hw hpl
    refine ⟨_, rfl, w, Z.C_Walk, dx, [], rfl, (upd_ne hwp).trans hw, T.cl_Walk, T.nWalk_places, (by show 0 < 1000; decide), ?_⟩
    refine ⟨(by show 0 ≤ sizeLine; decide), fun tb htb => ?_⟩
    have g1 : (upd (upd H pl (.lst [V.int x])) w (.ins Z.C_Walk dx (putF "places" (.ref pl) []))) w = some (.ins Z.C_Walk dx (putF "places" (.ref pl) [])) := upd_same
    have g1p : (upd (upd H pl (.lst [V.int x])) w (.ins Z.C_Walk dx (putF "places" (.ref pl) []))) pl = some (.lst [V.int x]) := (upd_ne (Ne.symm hwp)).trans upd_same
    have k1 : ∀ b o, H b = some o → b ≠ w → (upd (upd H pl (.lst [V.int x])) w (.ins Z.C_Walk dx (putF "places" (.ref pl) []))) b = some o := fun b o e n => (upd_ne n).trans ((upd_ne (ne_of_none e hpl)).trans e)
    generalize upd (upd H pl (.lst [V.int x])) w (.ins Z.C_Walk dx (putF "places" (.ref pl) [])) = H1 at htb g1 g1p k1 ⊢
    have hwt : w ≠ tb := ne_of_none g1 htb
    have hpt : pl ≠ tb := ne_of_none g1p htb
    refine ⟨_, rfl, w, Z.C_Walk, dx, _, rfl, (upd_ne hwt).trans g1, T.cl_Walk, T.nWalk_told_by, (by show 1 < 1000; decide), ?_⟩
    have g2 : (upd (upd H1 tb (.lst [])) w (.ins Z.C_Walk dx (putF "told_by" (.ref tb) (putF "places" (.ref pl) [])))) w = some (.ins Z.C_Walk dx (putF "told_by" (.ref tb) (putF "places" (.ref pl) []))) := upd_same
    have g2p : (upd (upd H1 tb (.lst [])) w (.ins Z.C_Walk dx (putF "told_by" (.ref tb) (putF "places" (.ref pl) [])))) pl = some (.lst [V.int x]) := (upd_ne (Ne.symm hwp)).trans ((upd_ne hpt).trans g1p)
    have g2t : (upd (upd H1 tb (.lst [])) w (.ins Z.C_Walk dx (putF "told_by" (.ref tb) (putF "places" (.ref pl) [])))) tb = some (.lst []) := (upd_ne (Ne.symm hwt)).trans upd_same
    have k2 : ∀ b o, H b = some o → b ≠ w → (upd (upd H1 tb (.lst [])) w (.ins Z.C_Walk dx (putF "told_by" (.ref tb) (putF "places" (.ref pl) [])))) b = some o := fun b o e n => (upd_ne n).trans ((upd_ne (ne_of_none (k1 b o e n) htb)).trans (k1 b o e n))
    generalize upd (upd H1 tb (.lst [])) w (.ins Z.C_Walk dx (putF "told_by" (.ref tb) (putF "places" (.ref pl) []))) = H2 at g2 g2p g2t k2 ⊢
    refine ⟨_, rfl, w, Z.C_Walk, dx, _, rfl, g2, T.cl_Walk, T.nWalk_start, (by show 2 < 1000; decide), ?_⟩
    rw [wf_new]
    have g3 : (upd H2 w (.ins Z.C_Walk dx (wf pl tb .non))) w = some (.ins Z.C_Walk dx (wf pl tb .non)) := upd_same
    have g3p : (upd H2 w (.ins Z.C_Walk dx (wf pl tb .non))) pl = some (.lst [V.int x]) := (upd_ne (Ne.symm hwp)).trans g2p
    have g3t : (upd H2 w (.ins Z.C_Walk dx (wf pl tb .non))) tb = some (.lst []) := (upd_ne (Ne.symm hwt)).trans g2t
    have k3 : Out w H (upd H2 w (.ins Z.C_Walk dx (wf pl tb .non))) := fun b o e n => (upd_ne n).trans (k2 b o e n)
    generalize upd H2 w (.ins Z.C_Walk dx (wf pl tb .non)) = H3 at g3 g3p g3t k3 ⊢
    have hh3 := k3.sqL hw hh
    have hD3 : Darks Z K H3 ds L hs := ⟨hD.1, fun i d ls e1 e2 => k3.dark (hD.2 i d ls e1 e2) hw (hdw d (List.mem_of_getElem? e1))⟩
    obtain ⟨d0, hd00⟩ : ∃ d0, ds[0]? = some d0 := ⟨ds[0], List.getElem?_eq_getElem hd0⟩
    obtain ⟨ls0, hls0, D0⟩ := hD3.get hd00
    have hix : atI (refs ds) 0 = some (.ref d0) := by
      refine at_of (j := 0) rfl ?_
      show (ds.map V.ref)[0]? = _
      rw [List.getElem?_map, hd00]; rfl
    obtain ⟨dx0, la0, vs0, e1, e2, e3⟩ := id D0.ex
    refine ⟨_, rfl, w, dx, _, rfl, g3, wf_no _ _ _ (by decide +kernel) (by decide +kernel) (by decide +kernel), ?_⟩
    refine ⟨_, rfl, _, _, _, _, rfl, rfl, hh3, hix, d0, dx0, _, rfl, e1, df_no _ _ (by decide +kernel) (by decide +kernel), d0, L, ls0, rfl, D0, ?_⟩
    refine ⟨_, rfl, _, rfl, hp, ds, sd, L, hs, rfl, hh3, hD3, hsd, Nat.le_trans hd1 (by decide), fun H4 p as hp4 hfr S4 gp4 gl4 => ?_⟩
    have hn : ∀ a ∈ p :: as, a ≠ w ∧ a ≠ pl ∧ a ≠ tb := fun a ha => by
      have : H3 a = none := by
        rcases List.mem_cons.mp ha with e | e
        · subst e; exact hp4
        · exact (hfr a e).1
      exact ⟨fun e => (by rw [e, g3] at this; cases this), fun e => (by rw [e, g3p] at this; cases this), fun e => (by rw [e, g3t] at this; cases this)⟩
    have hlen := hD.1
    refine ⟨_, rfl, w, p, pl, tb, dx, as, L, x, sd, hs.map (sideOf sd), rfl, S4 _ _ g3, S4 _ _ g3p, S4 _ _ g3t, gp4, gl4, hpt, hn, hsd, D0.pos, D0.big, hx, by rw [List.length_map]; omega, by rw [List.length_map]; omega, knOk hD sd, fun H5 ps tl st W E hm WA k5 => ?_⟩
    refine k H5 pl tb ps tl st W E hm WA fun b o e n => k5 b o (S4 _ _ (k3 b o e n)) n ?_ ?_
    · intro e'; subst e'; rw [hpl] at e; cases e
    · intro e'; subst e'; exact absurd e (by
        intro e
        rw [k1 _ _ e n] at htb; cases htb)
theorem ok_Walk_period (T : Tx K w mg Z) : FnOk P w K mg base CX0 1 Z.a_Walk_period Z.d_Walk_period P_Walk_period (spPeriod Z K) := by
  refine T.F_Walk_period.ok scWalk_period (fun vs H Q E h => ?_) (fun cdv A outer s H vs Q E hr h => ?_)
  · obtain ⟨w, pl, tb, ps, tl, s, rfl, _⟩ := h
    rfl
  · obtain ⟨w, pl, tb, ps, tl, s, rfl, ⟨dx, tvs, h1, h2, h3, h4⟩, k⟩ := h
    have hl : tvs.length = tl.length := by rw [dpAll_len h4, List.length_map]
    rw [← hl] at k
    refine ⟨_, (pss_one (ps_ret (pe_op op_sub (pe_callB (lenK (K := K)) (by rfl) T.b_len (by decide +kernel) (pa_cons (fldK (K := K) (pv 0) rfl) pa_nil)) (fldK (K := K) (pv 0) rfl)))), ?_⟩
    exact ⟨_, rfl, w, Z.C_Walk, dx, _, _, rfl, h1, T.cl_Walk, T.nWalk_told_by, wf_told _ _ _, tb, tvs, rfl, .inl (SqL.of h3), _, rfl, w, Z.C_Walk, dx, _, _, rfl, h1, T.cl_Walk, T.nWalk_start, wf_start _ _ _, _, _, rfl, rfl, k⟩
theorem ok_Walk_climb (T : Tx K w mg Z) : FnOk P w K mg base CX0 1 Z.a_Walk_climb Z.d_Walk_climb P_Walk_climb (spClimb Z K) := by
  refine T.F_Walk_climb.ok scWalk_climb (fun vs H Q E h => ?_) (fun cdv A outer s H vs Q E hr h => ?_)
  · obtain ⟨w, pl, tb, ps, tl, s, rfl, _⟩ := h
    rfl
  · obtain ⟨w, pl, tb, ps, tl, s, rfl, ⟨dx, tvs, h1, h2, h3, h4⟩, hl, hs, k⟩ := h
    have q1 : atI (ps.map V.int) (-1) = some (.int (ps.getD tl.length 0)) := by
      rw [atI_last (by rw [List.length_map]; omega : 0 < (ps.map V.int).length), List.length_map, show ps.length - 1 = tl.length by omega, List.getElem?_map, List.getD_eq_getElem?_getD, List.getElem?_eq_getElem (by omega)]; rfl
    have q2 : atI (ps.map V.int) (s : Int) = some (.int (ps.getD s 0)) := by
      refine at_of (j := s) (by simp) ?_
      rw [List.getElem?_map, List.getD_eq_getElem?_getD, List.getElem?_eq_getElem (by omega)]; rfl
    refine ⟨_, (pss_one (ps_ret (pe_op op_sub (pe_ix (ixL (K := K)) (fldK (K := K) (pv 0) rfl) (pe_un un_neg pe_int) (fun _ _ => rfl)) (pe_ix (ixL (K := K)) (fldK (K := K) (pv 0) rfl) (fldK (K := K) (pv 0) rfl) (fun _ _ => rfl))))), ?_⟩
    exact ⟨_, rfl, w, Z.C_Walk, dx, _, _, rfl, h1, T.cl_Walk, T.nWalk_places, wf_places _ _ _, _, rfl, _, _, _, _, rfl, rfl, SqL.of h2, q1, _, rfl, w, Z.C_Walk, dx, _, _, rfl, h1, T.cl_Walk, T.nWalk_places, wf_places _ _ _, _, rfl, w, Z.C_Walk, dx, _, _, rfl, h1, T.cl_Walk, T.nWalk_start, wf_start _ _ _, _, _, _, _, rfl, rfl, SqL.of h2, q2, _, _, rfl, rfl, k⟩
theorem getI (ps : List Int) {i : Nat} {j : Int} (h : i < ps.length) (e : j = (i : Int)) : atI (ps.map V.int) j = some (.int (ps.getD i 0)) := by
  refine at_of (j := i) e ?_
  rw [List.getElem?_map, List.getD_eq_getElem?_getD, List.getElem?_eq_getElem h]; rfl
theorem ok_Walk_behind (T : Tx K w mg Z) : FnOk P w K mg base CX0 2 Z.a_Walk_behind Z.d_Walk_behind P_Walk_behind (spBehind Z K) := by
  refine T.F_Walk_behind.ok scWalk_behind (fun vs H Q E h => ?_) (fun cdv A outer s H vs Q E hr h => ?_)
  · obtain ⟨w, pl, tb, sd, L, x, n, kn, ps, tl, st, rfl, _⟩ := h
    rfl
  · obtain ⟨w, pl, tb, sd, L, x, n, kn, ps, tl, st, rfl, WA, W, E0', hsd, hL, hLb, hkn, hx, hN, hn0, hnb, k⟩ := h
    obtain ⟨dx, tvs, h1, h2, h3, h4⟩ := id WA.ex
    have hwl := W.len
    refine ⟨_, (C8.pss_cut (ps_if (pt_cmpR op_lt (pv 1) (pe_callB (lenK (K := K)) (by rfl) T.b_len (by decide +kernel) (pa_cons (fldK (K := K) (pv 0) rfl) pa_nil)) (nomark _)) (pss_one (ps_ret (pe_ix (ixL (K := K)) (fldK (K := K) (pv 0) rfl) (pv 1) (fun _ _ => rfl)))) pss_nil)
      (C8.pss_cut (ps_if (pt_cmpR op_isN (fldK (K := K) (pv 0) rfl) pe_non (nomark _)) (pss_one (ps_ret pe_non)) pss_nil)
      (pss_cons (ps_asg (pe_callB call_divmodW (by rfl) T.b_divmod (by decide +kernel) (pa_cons (pe_op op_sub (pv 1) (fldK (K := K) (pv 0) rfl)) (pa_cons (pe_meth0 (pv 0) T.cl_Walk T.m_Walk_period (ok_Walk_period T) (hr.mono (by decide)) T.bb_Walk_period .nil pass0) pa_nil))) (tupK (K := K) (by rfl) (pgs_cons (pg_name (i := 2) scWalk_behind.nd rfl (Or.inl rfl)) (pgs_cons (pg_name (i := 3) scWalk_behind.nd rfl (Or.inl rfl)) pgs_nil))))
      (pss_one (ps_ret (pe_op op_add (pe_ix (ixL (K := K)) (fldK (K := K) (pv 0) rfl) (pe_op op_add (fldK (K := K) (pv 0) rfl) (pv 3)) (fun _ _ => rfl)) (pe_op op_mulW (pv 2) (pe_meth0 (pv 0) T.cl_Walk T.m_Walk_climb (ok_Walk_climb T) (hr.mono (by decide)) T.bb_Walk_climb .nil pass0)))))))), ?_⟩
    refine ⟨fun σ' H' => σ' = [some (.ref w), some (.int n), none, none] ∧ H' = H ∧ ps.length ≤ n.toNat, ?_, ?_⟩
    · refine ⟨_, rfl, _, rfl, w, Z.C_Walk, dx, _, _, rfl, h1, T.cl_Walk, T.nWalk_places, wf_places _ _ _, pl, ps.map V.int, rfl, .inl (SqL.of h2), _, _, rfl, rfl, _, rfl, ite2 (fun c => ?_) (fun c => ⟨rfl, rfl, ?_⟩)⟩
      · have hlt : n.toNat < ps.length := by
          have c' := of_decide_eq_true c
          rw [List.length_map] at c'; omega
        refine ⟨_, rfl, w, Z.C_Walk, dx, _, _, rfl, h1, T.cl_Walk, T.nWalk_places, wf_places _ _ _, _, rfl, _, _, _, _, rfl, rfl, SqL.of h2, getI ps hlt (by omega), ?_⟩
        have kk := k H (fun _ _ e => e)
        rw [behind_in W hlt] at kk
        exact kk
      · have c' : ¬ (n < ((ps.map V.int).length : Int)) := fun h => c (decide_eq_true h)
        rw [List.length_map] at c'; omega
    · rintro σ1 H1 ⟨rfl, rfl, hge⟩
      cases st with
      | none =>
        refine ⟨fun _ _ => False, ?_, fun _ _ z => z.elim⟩
        refine ⟨_, rfl, w, Z.C_Walk, dx, _, _, rfl, h1, T.cl_Walk, T.nWalk_start, wf_start _ _ _, rfl, _, rfl, iteT ?_⟩
        have kk := k H1 (fun _ _ e => e)
        rw [behind_none W E0' hge] at kk
        exact kk
      | some s =>
        refine ⟨fun σ' H' => σ' = [some (.ref w), some (.int n), none, none] ∧ H' = H1, ?_, ?_⟩
        · exact ⟨_, rfl, w, Z.C_Walk, dx, _, _, rfl, h1, T.cl_Walk, T.nWalk_start, wf_start _ _ _, rfl, _, rfl, iteF ⟨rfl, rfl⟩⟩
        · rintro σ2 H2 ⟨rfl, rfl⟩
          obtain ⟨hs1, hs2, a, b, ha, hb, hab⟩ := id E0'
          have hp0 : (0 : Int) < (tl.length : Int) - s := by omega
          refine ⟨_, rfl, _, rfl, w, Z.C_Walk, dx, _, _, rfl, h1, T.cl_Walk, T.nWalk_start, wf_start _ _ _, _, _, rfl, rfl, _, rfl, w, dx, _, rfl, h1, wf_no _ _ _ (by decide +kernel) (by decide +kernel) (by decide +kernel), w, pl, tb, ps, tl, s, rfl, WA, ?_⟩
          refine ⟨_, _, rfl, ⟨hp0, PyProof.noPylong_small (by omega)⟩, fun q hq => ?_⟩
          have S2 := same_upd (o := HO.tup [V.int ((n - s) / ((tl.length : Int) - s)), .int ((n - s) % ((tl.length : Int) - s))]) hq
          have hr0 := Int.emod_nonneg (n - s) (show (tl.length : Int) - s ≠ 0 by omega)
          have hr1 := Int.emod_lt_of_pos (n - s) hp0
          have ht0 : 0 ≤ (n - s) / ((tl.length : Int) - s) := Int.ediv_nonneg (by omega) (by omega)
          have hqr := Int.mul_ediv_add_emod (n - s) ((tl.length : Int) - s)
          have htb : ((n - s) / ((tl.length : Int) - s)).natAbs < 2 ^ 302 := div_lt hp0 (sub_lt hnb (Nat.lt_of_lt_of_le (by omega : (s : Int).natAbs < 4000) (by decide)))
          have WA2 : WalkAt Z K (upd H2 q (.tup [V.int ((n - s) / ((tl.length : Int) - s)), .int ((n - s) % ((tl.length : Int) - s))])) w pl tb ps tl (some s) := ⟨dx, tvs, S2 _ _ h1, S2 _ _ h2, S2 _ _ h3, dpAll_mono S2 _ _ h4⟩
          have hsq : SqT K (upd H2 q (.tup [V.int ((n - s) / ((tl.length : Int) - s)), .int ((n - s) % ((tl.length : Int) - s))])) q [V.int ((n - s) / ((tl.length : Int) - s)), .int ((n - s) % ((tl.length : Int) - s))] := SqT.of upd_same
          generalize upd H2 q (.tup [V.int ((n - s) / ((tl.length : Int) - s)), .int ((n - s) % ((tl.length : Int) - s))]) = H3 at S2 WA2 hsq ⊢
          generalize (n - s) / ((tl.length : Int) - s) = t at ht0 htb hqr hsq ⊢
          generalize (n - s) % ((tl.length : Int) - s) = r at hr0 hr1 hqr hsq ⊢
          have hsr : s + r.toNat < ps.length := by omega
          refine ⟨_, _, rfl, hsq, rfl, _, _, rfl, _, _, rfl, rfl, ?_⟩
          refine ⟨_, rfl, w, Z.C_Walk, dx, _, _, rfl, S2 _ _ h1, T.cl_Walk, T.nWalk_places, wf_places _ _ _, _, rfl, w, Z.C_Walk, dx, _, _, rfl, S2 _ _ h1, T.cl_Walk, T.nWalk_start, wf_start _ _ _, _, rfl, _, _, rfl, rfl, _, _, _, _, rfl, rfl, SqL.of (S2 _ _ h2), getI ps hsr (by omega), ?_⟩
          have hsm : ∀ i, i < ps.length → (ps.getD i 0).natAbs < 2 ^ 391 := fun i hi => by
            have q1 := W.small hL hLb hkn i (ps.getD i 0) (by rw [List.getD_eq_getElem?_getD, List.getElem?_eq_getElem hi]; rfl)
            have q2 : i * 2 ^ 312 ≤ 2 ^ 390 := Nat.le_trans (Nat.mul_le_mul_right _ (by omega : i ≤ 4000)) (by decide)
            have q3 : (2 : Nat) ^ 391 = 2 ^ 390 + 2 ^ 390 := by rw [Nat.pow_succ, Nat.mul_two]
            omega
          have hcl : (ps.getD tl.length 0 - ps.getD s 0).natAbs < 2 ^ 392 := sub_lt (hsm _ (by omega)) (hsm _ (by omega))
          refine ⟨_, rfl, _, rfl, w, dx, _, rfl, S2 _ _ h1, wf_no _ _ _ (by decide +kernel) (by decide +kernel) (by decide +kernel), w, pl, tb, ps, tl, s, rfl, WA2, hwl, hs1, _, _, rfl, rfl, wide_mul htb hcl (by decide) (by decide) (by decide), _, _, rfl, rfl, ?_⟩
          have kk := k H3 S2
          have e : n.toNat = s + r.toNat + t.toNat * (tl.length - s) := by
            obtain ⟨tn, rfl⟩ := Int.eq_ofNat_of_zero_le ht0
            obtain ⟨rn, rfl⟩ := Int.eq_ofNat_of_zero_le hr0
            obtain ⟨pn, hpn⟩ : ∃ pn : Nat, tl.length = s + pn := ⟨tl.length - s, by omega⟩
            have e2 : (tl.length : Int) - s = (pn : Int) := by omega
            rw [e2] at hqr
            have e3 : tl.length - s = pn := by omega
            rw [e3]
            have e4 : ((pn * tn : Nat) : Int) = (pn : Int) * (tn : Int) := by simp
            have e5 : tn * pn = pn * tn := Nat.mul_comm _ _
            show n.toNat = s + rn + tn * pn
            rw [e5]
            omega
          rw [e, behind_laps hsd hL W E0' t.toNat r.toNat hsr] at kk
          have e6 : ((t.toNat : Nat) : Int) = t := by omega
          rw [e6] at kk
          exact kk
theorem ok_check_round (T : Tx K w mg Z) : FnOk P w K mg base CX0 2 Z.a_check_round Z.d_check_round P_check_round (spCheck Z K) := by
  refine T.F_check_round.ok sccheck_round (fun vs H Q E h => ?_) (fun cdv A outer s H vs Q E hr h => ?_)
  · obtain ⟨hp, ds, L, hs, rfl, _⟩ := h
    rfl
  · obtain ⟨hp, ds, L, hs, rfl, hh, hD, hd0, k⟩ := h
    obtain ⟨d0, hd00⟩ : ∃ d0, ds[0]? = some d0 := ⟨ds[0], List.getElem?_eq_getElem hd0⟩
    obtain ⟨ls0, hls0, D0⟩ := hD.get hd00
    have hix : atI (refs ds) 0 = some (.ref d0) := by
      refine at_of (j := 0) rfl ?_
      show (ds.map V.ref)[0]? = _
      rw [List.getElem?_map, hd00]; rfl
    obtain ⟨dx0, la0, vs0, e1, e2, e3⟩ := id D0.ex
    refine ⟨_, (C8.pss_cut (ps_if (pt_not (pt_truth (pv 0) (by intro _; rfl))) (pss_one ps_never) pss_nil)
      (pss_cons (ps_set (i := 1) sccheck_round.nd rfl (Or.inl rfl) (pe_meth0 (pe_ix (ixL (K := K)) (pv 0) pe_int (fun _ _ => rfl)) T.cl T.m_Dark_length (ok_Dark_length T) (hr.mono (by decide)) T.bb_Dark_length .nil pass0))
      (pss_one (ps_for PassesOwn.never rfl (pi_enum (by rfl) T.b_enumerate (pa_cons (pv 0) pa_nil)) (tupK (K := K) (by rfl) (pgs_cons (pg_name (i := 2) sccheck_round.nd rfl (Or.inl rfl)) (pgs_cons (pg_name (i := 3) sccheck_round.nd rfl (Or.inl rfl)) pgs_nil))) (pss_one (ps_if (pt_cmpR op_ne (pe_meth0 (pv 3) T.cl T.m_Dark_length (ok_Dark_length T) (hr.mono (by decide)) T.bb_Dark_length .nil pass0) (pv 1) (nomark _)) (pss_one ps_never) pss_nil)))))), ?_⟩
    refine ⟨fun σ' H' => σ' = [some (.ref hp), none, none, none] ∧ H' = H, ?_, ?_⟩
    · refine ⟨_, rfl, _, .inl ⟨refs ds, hh, rfl⟩, ?_⟩
      cases ds with
      | nil => simp at hd0
      | cons d ds => exact iteF ⟨rfl, rfl⟩
    · rintro σ1 H1 ⟨rfl, rfl⟩
      refine ⟨_, rfl, _, _, _, _, rfl, rfl, hh, hix, d0, dx0, _, rfl, e1, df_no _ _ (by decide +kernel) (by decide +kernel), d0, L, ls0, rfl, D0, ?_⟩
      refine ⟨_, rfl, hp, refs ds, rfl, hh, ?_⟩
      refine for_enum (K := K) (a := hp) (xs := refs ds) (fun i σ' H' => ∃ u2 u3, σ' = [some (.ref hp), some (.int L), u2, u3] ∧ Same H1 H') ⟨_, _, rfl, fun _ _ e => e⟩ (fun i σ' H' _ ⟨_, _, _, S⟩ => Same.sqL S hh) ?_ (fun σ' H' ⟨_, _, _, S⟩ => k H' S)
      rintro i y T' σ' H' hi ⟨u2, u3, rfl, S⟩ hT'
      obtain ⟨d, hd, rfl⟩ : ∃ d, ds[i]? = some d ∧ y = .ref d := by
        obtain ⟨d, h1, h2⟩ := map_at hi
        exact ⟨d, h1, h2⟩
      obtain ⟨ls, hls, DD⟩ := hD.get hd
      have S2 := S.trans (same_upd (o := HO.tup [V.int (i : Nat), .ref d]) hT')
      have DD2 := DD.same S2
      obtain ⟨dx, la, vs, q1, q2, q3⟩ := id DD2.ex
      refine ⟨_, _, rfl, SqT.of upd_same, rfl, _, _, rfl, _, _, rfl, rfl, ?_⟩
      refine ⟨_, rfl, d, dx, _, rfl, q1, df_no _ _ (by decide +kernel) (by decide +kernel), d, L, ls, rfl, DD2, _, rfl, rfl, _, rfl, ?_⟩
      exact ite2 (fun c => (by simp at c : False).elim) (fun _ => ⟨_, _, rfl, S2⟩)
end
end KA
namespace KA
open PySem PySem.Spec PyProof.Rows L2 DP
/-- what stood stands, but at t and g -/
def Keep (t g : Addr) (H H' : Hp) : Prop := ∀ b o, H b = some o → b ≠ t → b ≠ g → H' b = some o
theorem Keep.refl (t g : Addr) (H : Hp) : Keep t g H H := fun _ _ h _ _ => h
theorem Keep.trans {t g : Addr} {H H1 H2 : Hp} (a : Keep t g H H1) (b : Keep t g H1 H2) : Keep t g H H2 := fun c o h x y => b c o (a c o h x y) x y
/-- the bag's pairs -/
def bagK (g : Addr) (l c f : Int) : List (Key × V) := [(.inr "great", .ref g), (.inr "left", .int l), (.inr "turn", .int c), (.inr "fold", .int f)]
/-- the bag: at t, its great numbers at g; no more than n draws so far went by the fold -/
structure Tray (H : Hp) (t g : Addr) (n : Nat) : Prop where
  ex : ∃ (gs : List Int) (f : Int × Int) (c : Int), H t = some (.dK (bagK g f.1 c f.2)) ∧ H g = some (.lst (gs.map V.int)) ∧ gs.length ≤ 63 ∧ (∀ x ∈ gs, 0 ≤ x) ∧ 0 ≤ f.1 ∧ 0 ≤ f.2 ∧ f.2 < 2 ^ 61 ∧ 0 ≤ c ∧ c ≤ (n : Int)
  ne : t ≠ g
theorem Tray.same {H H' : Hp} {t g : Addr} {n : Nat} (T : Tray H t g n) (S : Same H H') : Tray H' t g n := by
  obtain ⟨⟨gs, f, c, h1, h2, r⟩, hne⟩ := T
  exact ⟨⟨gs, f, c, S _ _ h1, S _ _ h2, r⟩, hne⟩
theorem Keep.of_same {t g : Addr} {H H' : Hp} (S : Same H H') : Keep t g H H' := fun b o e _ _ => S b o e
theorem pow_lt {i : Int} {a n : Nat} (h : i.natAbs < 2 ^ a) (h0 : n ≠ 0) : (i ^ n).natAbs < 2 ^ (a * n) := by
  rw [Int.natAbs_pow, Nat.pow_mul]
  exact Nat.pow_lt_pow_left h h0
theorem while_post {c : TT} {tb : TS} {D : Ends} {σ : L2.St} {H : Hp} (Pv : L2.St → Hp → Prop) (μ : L2.St → Hp → Nat) (Po : L2.St → Hp → Prop) (h0 : Pv σ H)
    (hs : ∀ σ H, Pv σ H → c σ H fun b H1 => if b = true then tb { D with nx := fun σ' H' => Pv σ' H' ∧ μ σ' H' < μ σ H, ct := fun σ' H' => Pv σ' H' ∧ μ σ' H' < μ σ H, bk := D.nx } σ H1 else Po σ H1)
    (hd : ∀ σ H, Po σ H → D.nx σ H) (mono : ∀ σ H Q Q', (∀ b H1, Q b H1 → Q' b H1) → c σ H Q → c σ H Q') : tWhile c tb D σ H :=
  while_by Pv μ h0 (fun σ1 H1 p => mono σ1 H1 _ _ (fun b H2 q => by
    cases b with
    | true => exact q
    | false => exact hd _ _ q) (hs σ1 H1 p)) mono
theorem Tray.up {H : Hp} {t g : Addr} {m n : Nat} (T : Tray H t g m) (h : m ≤ n) : Tray H t g n := by
  obtain ⟨⟨gs, f, c, h1, h2, hl, hge, hf0, hf1, hf2, hc0, hc1⟩, hne⟩ := T
  exact ⟨⟨gs, f, c, h1, h2, hl, hge, hf0, hf1, hf2, hc0, by omega⟩, hne⟩
theorem seqIx0 {n : Nat} (h : 0 < n) : seqIndex? 0 n = some 0 := by
  unfold seqIndex?
  simp
  omega
/-! ### the bag's places -/
theorem kne {a b : Str} (h : ¬ a = b) : ¬ ((Sum.inr a : Key) = .inr b) := fun e => h (Sum.inr.inj e)
theorem bag_great (g : Addr) (l c f : Int) : valV (bagK g l c f) (.inr "great") = some (.ref g) := valV_pos rfl
theorem bag_left (g : Addr) (l c f : Int) : valV (bagK g l c f) (.inr "left") = some (.int l) := (valV_neg (kne (by decide +kernel))).trans (valV_pos rfl)
theorem bag_turn (g : Addr) (l c f : Int) : valV (bagK g l c f) (.inr "turn") = some (.int c) := (valV_neg (kne (by decide +kernel))).trans ((valV_neg (kne (by decide +kernel))).trans (valV_pos rfl))
theorem bag_fold (g : Addr) (l c f : Int) : valV (bagK g l c f) (.inr "fold") = some (.int f) := (valV_neg (kne (by decide +kernel))).trans ((valV_neg (kne (by decide +kernel))).trans ((valV_neg (kne (by decide +kernel))).trans (valV_pos rfl)))
theorem put_left (g : Addr) (l c f v : Int) : putK (bagK g l c f) (.inr "left") (.int v) = bagK g v c f := by
  unfold putK
  rw [if_pos (by rw [valV_any, bag_left]; rfl)]
  show [if (Sum.inr "great" : Key) = .inr "left" then _ else _, if (Sum.inr "left" : Key) = .inr "left" then _ else _, if (Sum.inr "turn" : Key) = .inr "left" then _ else _, if (Sum.inr "fold" : Key) = .inr "left" then _ else _] = _
  rw [if_neg (kne (by decide +kernel)), if_pos rfl, if_neg (kne (by decide +kernel)), if_neg (kne (by decide +kernel))]
  rfl
theorem put_turn (g : Addr) (l c f v : Int) : putK (bagK g l c f) (.inr "turn") (.int v) = bagK g l v f := by
  unfold putK
  rw [if_pos (by rw [valV_any, bag_turn]; rfl)]
  show [if (Sum.inr "great" : Key) = .inr "turn" then _ else _, if (Sum.inr "left" : Key) = .inr "turn" then _ else _, if (Sum.inr "turn" : Key) = .inr "turn" then _ else _, if (Sum.inr "fold" : Key) = .inr "turn" then _ else _] = _
  rw [if_neg (kne (by decide +kernel)), if_neg (kne (by decide +kernel)), if_pos rfl, if_neg (kne (by decide +kernel))]
  rfl
theorem bag_new (g : Addr) (l c f : Int) : mergeK [] (bagK g l c f) = bagK g l c f := by
  have e1 : ¬ (("great" : Str) = "left") := by decide +kernel
  have e2 : ¬ (("great" : Str) = "turn") := by decide +kernel
  have e3 : ¬ (("great" : Str) = "fold") := by decide +kernel
  have e4 : ¬ (("left" : Str) = "turn") := by decide +kernel
  have e5 : ¬ (("left" : Str) = "fold") := by decide +kernel
  have e6 : ¬ (("turn" : Str) = "fold") := by decide +kernel
  simp [mergeK, bagK, putK, e1, e2, e3, e4, e5, e6]
section
variable {H : Hp} {t g : Addr} {l c f : Int}
theorem get_great (h : H t = some (.dK (bagK g l c f))) : DGet H t (.str "great") (some (.ref g)) := by
  have := DGet.k (k := .inr "great") h
  rwa [bag_great] at this
theorem get_left (h : H t = some (.dK (bagK g l c f))) : DGet H t (.str "left") (some (.int l)) := by
  have := DGet.k (k := .inr "left") h
  rwa [bag_left] at this
theorem get_turn (h : H t = some (.dK (bagK g l c f))) : DGet H t (.str "turn") (some (.int c)) := by
  have := DGet.k (k := .inr "turn") h
  rwa [bag_turn] at this
theorem get_fold (h : H t = some (.dK (bagK g l c f))) : DGet H t (.str "fold") (some (.int f)) := by
  have := DGet.k (k := .inr "fold") h
  rwa [bag_fold] at this
theorem dput_left (h : H t = some (.dK (bagK g l c f))) (v : Int) : DPut H t (.str "left") (.int v) (upd H t (.dK (bagK g v c f))) := by
  have := DPut.k (k := .inr "left") (v := .int v) h (small1000 (by show 4 ≤ 1000; decide))
  rwa [put_left] at this
theorem dput_turn (h : H t = some (.dK (bagK g l c f))) (v : Int) : DPut H t (.str "turn") (.int v) (upd H t (.dK (bagK g l v f))) := by
  have := DPut.k (k := .inr "turn") (v := .int v) h (small1000 (by show 4 ≤ 1000; decide))
  rwa [put_turn] at this
end
def spBag (K : PySem.W.Frag) : Sp := fun vs H Q _ => ∃ (a : Addr) (ns : List Int), vs = [.ref a] ∧ SqL K H a (ns.map V.int) ∧ ns.length ≤ 63 ∧ ∀ (H' : Hp) (t g : Addr), Tray H' t g 0 → Same H H' → H t = none → H g = none → Q (.ref t) H'
def spDraw : Sp := fun vs H Q _ => ∃ (t g : Addr) (n : Nat) (m : Int), vs = [.ref t, .int m] ∧ Tray H t g n ∧ 0 < m ∧ m.natAbs < 2 ^ 1000 ∧ n < 2 ^ 60 ∧
  ∀ (H' : Hp) (r : Int), 0 ≤ r → r < m → Tray H' t g (n + 1) → Keep t g H H' → Q (.int r) H'
section
variable {P : Program} {w : World} {K : PySem.W.Frag} {mg : Str → Option Value} {base : Heap} {Z : Ad}
theorem ok_law_bag (T : Tx K w mg Z) : FnOk P w K mg base CX0 1 Z.a_law_bag Z.d_law_bag P_law_bag (spBag K) := by
  refine T.F_law_bag.ok sclaw_bag (fun vs H Q E h => ?_) (fun cdv A outer s H vs Q E hr h => ?_)
  · obtain ⟨a, ns, rfl, _⟩ := h
    rfl
  · obtain ⟨a, ns, rfl, hS, hlen, k⟩ := h
    refine ⟨_, (pss_cons (ps_par (i := 1) (j := 2) (by rfl) sclaw_bag.nd rfl rfl (by decide) rfl rfl (pa_cons pe_int (pa_cons (pe_lst pa_nil) pa_nil)) (by rfl))
      (pss_cons (ps_for PassesOwn.never rfl (pi_list (pv 0)) (pg_name (i := 3) sclaw_bag.nd rfl (Or.inl rfl)) (pss_cons (ps_set (i := 1) sclaw_bag.nd rfl (Or.inl rfl) (pe_op op_mod (pe_op op_add (pe_op op_mulW (pv 1) pe_int) (pv 3)) pe_int))
      (pss_one (ps_if (pt_cmpR op_ge (pe_callB call_abs (by rfl) T.b_abs (by decide +kernel) (pa_cons (pv 3) pa_nil)) (pe_op op_pow pe_int pe_int) (nomark _)) (pss_one (ps_expr (pe_bm PySem.F.plainAttrs_list PySem.F.slot_list_append PySem.F.type_list_append mt_append (pv 2) (pa_cons (pe_callB call_abs (by rfl) T.b_abs (by decide +kernel) (pa_cons (pv 3) pa_nil)) pa_nil)))) pss_nil))))
      (pss_one (ps_ret (pe_disp (pps_cons pe_str (pv 2) (pps_cons pe_str pe_int (pps_cons pe_str pe_int (pps_cons pe_str (pv 1) pps_nil)))) (by rfl) (by rfl) (by intro h; cases h) (by decide)))))), ?_⟩
    refine ⟨(by show 0 ≤ sizeLine; decide), fun G hG => ⟨_, _, rfl, ?_⟩⟩
    refine ⟨_, rfl, a, rfl, ⟨_, Same.sqL (same_upd hG) hS⟩, ?_⟩
    refine for_list (K := K) (a := a) (xs := ns.map V.int) (fun i σ' H' => ∃ (gs : List Int) (f : Int) (u : Option V), σ' = [some (.ref a), some (.int f), some (.ref G), u] ∧ Same H H' ∧ H' G = some (.lst (gs.map V.int)) ∧ gs.length ≤ i ∧ (∀ x ∈ gs, 0 ≤ x) ∧ 0 ≤ f ∧ f < 2 ^ 61)
      ⟨[], 11, none, rfl, same_upd hG, upd_same, Nat.le_refl _, (fun _ z => absurd z (by simp)), by decide, by decide⟩ (fun i σ' H' _ ⟨_, _, _, _, S, _⟩ => Same.sqL S hS) ?_ ?_
    · rintro i y σ' H' hi ⟨gs, f, u, rfl, S, hg, hgl, hge, hf0, hf1⟩
      obtain ⟨z, hz, rfl⟩ := map_at hi
      have hi63 : i < 63 := by
        have := (List.getElem?_eq_some_iff.mp hz).1
        omega
      have bf : f.natAbs < 2 ^ 61 := by omega
      refine ⟨_, rfl, _, _, rfl, rfl, wide_mul (b := 30) bf (by decide) (by decide) (by decide) (by decide), _, rfl, _, _, rfl, rfl, _, _, rfl, rfl, (by show (0 : Int) < _; decide), ?_⟩
      have hx0 := Int.emod_nonneg (f * 1000003 + z) (show (2305843009213693951 : Int) ≠ 0 by decide)
      have hx1 := Int.emod_lt_of_pos (f * 1000003 + z) (show (0 : Int) < 2305843009213693951 by decide)
      refine ⟨_, rfl, _, rfl, _, _, rfl, rfl, ⟨by decide, by decide, by decide⟩, _, _, rfl, rfl, _, rfl, ?_⟩
      refine ite2 (fun c => ?_) (fun _ => ?_)
      · have c' := of_decide_eq_true c
        refine ⟨_, rfl, .inl ⟨rfl, _, SqL.of hg⟩, _, rfl, _, rfl, G, _, _, rfl, rfl, hg, ?_, ?_⟩
        · exact small1000 (by simp; omega)
        · refine ⟨gs ++ [if z < 0 then -z else z], _, _, rfl, same_set S hG, ?_, ?_, ?_, hx0, by omega⟩
          · rw [List.map_append]; exact upd_same
          · simp; omega
          · intro x hx
            rcases List.mem_append.mp hx with h | h
            · exact hge x h
            · rw [List.mem_singleton] at h
              subst h
              split <;> omega
      · exact ⟨gs, _, _, rfl, S, hg, by omega, hge, hx0, by omega⟩
    · rintro σ' H' ⟨gs, f, u, rfl, S, hg, hgl, hge, hf0, hf1⟩
      refine fun t ht => ?_
      have hgt : G ≠ t := ne_of_none hg ht
      refine ⟨_, rfl, _, rfl, upd_same, bagK G 0 0 f, rfl, (by show 4 ≤ 15; decide), ?_⟩
      rw [bag_new]
      refine k _ t G ⟨⟨gs, (0, f), 0, upd_same, (upd_ne hgt).trans ((upd_ne hgt).trans hg), ?_, hge, Int.le_refl _, hf0, hf1, Int.le_refl _, Int.le_refl _⟩, Ne.symm hgt⟩ (fun b o e => ?_) (S.free ht) hG
      · rw [List.length_map] at hgl
        omega
      · have hb := ne_of_none (S b o e) ht
        exact (upd_ne hb).trans ((upd_ne hb).trans (S b o e))
theorem ok_law_draw (T : Tx K w mg Z) : FnOk P w K mg base CX0 1 Z.a_law_draw Z.d_law_draw P_law_draw (spDraw) := by
  refine T.F_law_draw.ok sclaw_draw (fun vs H Q E h => ?_) (fun cdv A outer s H vs Q E hr h => ?_)
  · obtain ⟨t, g, n, m, rfl, _⟩ := h
    rfl
  · obtain ⟨t, g, n, m, rfl, ⟨⟨gs, f, c, h1, h2, hl, hge, hl0, hf0, hf1, hc0, hc1⟩, hne⟩, hm, hmb, hn, k⟩ := h
    obtain ⟨l, f⟩ := f
    simp only at h1 hl0 hf0 hf1
    refine ⟨_, (C8.pss_cut (ps_if (PW.pt (pw_and (pt_cmpR op_lt (pe_dget (hu_of hr) (pv 0) pe_str (fun _ _ => rfl)) (pv 1) (nomark _)) (pw_and1 (pt_cmpR op_gt (pe_callB (lenK (K := K)) (by rfl) T.b_len (by decide +kernel) (pa_cons (pe_dget (hu_of hr) (pv 0) pe_str (fun _ _ => rfl)) pa_nil)) pe_int (nomark _))))) (pss_one (ps_dput (hu_of hr) (pv 0) pe_str (pe_bm PySem.F.plainAttrs_list PySem.F.slot_list_pop PySem.F.type_list_pop mt_popAt (pe_dget (hu_of hr) (pv 0) pe_str (fun _ _ => rfl)) (pa_cons pe_int pa_nil)) rfl)) pss_nil)
      (C8.pss_cut (ps_if (pt_cmpR op_ge (pe_dget (hu_of hr) (pv 0) pe_str (fun _ _ => rfl)) (pv 1) (nomark _)) (pss_cons (ps_set (i := 2) sclaw_draw.nd rfl (Or.inl rfl) (pe_op op_mod (pe_dget (hu_of hr) (pv 0) pe_str (fun _ _ => rfl)) (pv 1)))
      (pss_cons (ps_dput (hu_of hr) (pv 0) pe_str (pe_op op_fdivW (pe_dget (hu_of hr) (pv 0) pe_str (fun _ _ => rfl)) (pv 1)) rfl)
      (pss_one (ps_ret (pv 2))))) pss_nil)
      (pss_cons (ps_daug (hu_of hr) (pv 0) pe_str pe_int in_add (fun _ _ _ => rfl))
      (pss_cons (ps_set (i := 3) sclaw_draw.nd rfl (Or.inl rfl) (pe_dget (hu_of hr) (pv 0) pe_str (fun _ _ => rfl)))
      (pss_cons (ps_set (i := 4) sclaw_draw.nd rfl (Or.inl rfl) (pe_op op_add (pe_op op_mulW (pe_op op_add (pe_dget (hu_of hr) (pv 0) pe_str (fun _ _ => rfl)) (pe_op op_mulW pe_int (pv 3))) (pe_op op_pow (pe_op op_add (pv 3) pe_int) pe_int)) (pe_op op_mulW pe_int (pv 3))))
      (pss_one (ps_ret (pe_op op_mod (pe_op op_fdivW (pe_op op_mod (pe_op op_pow (pe_op op_mod (pv 4) pe_int) pe_int) (pe_op op_add (pe_op op_pow pe_int pe_int) pe_int)) pe_int) (pv 1))))))))), ?_⟩
    refine ⟨fun σ' H' => σ' = [some (.ref t), some (.int m), none, none, none] ∧ Keep t g H H' ∧ ∃ (gs : List Int) (l : Int), H' t = some (.dK (bagK g l c f)) ∧ H' g = some (.lst (gs.map V.int)) ∧ gs.length ≤ 63 ∧ (∀ x ∈ gs, 0 ≤ x) ∧ 0 ≤ l, ?_, ?_⟩
    · refine ⟨_, rfl, t, _, rfl, get_left h1, _, rfl, _, _, rfl, rfl, _, rfl, ?_⟩
      have stay : [some (V.ref t), some (.int m), none, none, none] = [some (.ref t), some (.int m), none, none, none] ∧ Keep t g H H ∧ ∃ (gs : List Int) (l : Int), H t = some (.dK (bagK g l c f)) ∧ H g = some (.lst (gs.map V.int)) ∧ gs.length ≤ 63 ∧ (∀ x ∈ gs, 0 ≤ x) ∧ 0 ≤ l := ⟨rfl, Keep.refl _ _ _, gs, l, h1, h2, hl, hge, hl0⟩
      refine ite2 (fun _ => ?_) (fun _ => iteF stay)
      refine ⟨_, rfl, t, _, rfl, get_great h1, g, _, rfl, .inl (SqL.of h2), _, _, rfl, rfl, _, rfl, ite2 (fun hlen => ?_) (fun _ => stay)⟩
      cases gs with
      | nil => exact absurd (of_decide_eq_true hlen) (by simp)
      | cons y ys =>
        refine ⟨_, rfl, t, _, rfl, get_great h1, .inl ⟨rfl, _, SqL.of h2⟩, g, _, _, 0, _, rfl, rfl, h2, by decide, by decide, seqIx0 (by simp), rfl, ?_⟩
        have h1' : (upd H g (.lst (ys.map V.int))) t = some (.dK (bagK g l c f)) := (upd_ne hne).trans h1
        refine ⟨_, rfl, t, _, rfl, dput_left h1' y, rfl, fun b o e n1 n2 => (upd_ne n1).trans ((upd_ne n2).trans e), ys, y, upd_same, (upd_ne (Ne.symm hne)).trans upd_same, ?_, fun x hx => hge x (List.mem_cons_of_mem _ hx), hge y List.mem_cons_self⟩
        simp at hl; omega
    · rintro σ1 H1 ⟨rfl, kp, gs, l, h1, h2, hl, hge, hl0⟩
      refine ⟨fun σ' H' => σ' = [some (.ref t), some (.int m), none, none, none] ∧ H' = H1, ?_, ?_⟩
      · refine ⟨_, rfl, t, _, rfl, get_left h1, _, rfl, _, _, rfl, rfl, _, rfl, ?_⟩
        refine ite2 (fun _ => ?_) (fun _ => ⟨rfl, rfl⟩)
        refine ⟨_, rfl, t, _, rfl, get_left h1, _, rfl, _, _, rfl, rfl, hm, ?_⟩
        refine ⟨_, rfl, t, _, rfl, get_left h1, _, rfl, _, _, rfl, rfl, wide_div hm hmb (by decide) (by decide), _, rfl, t, _, rfl, dput_left h1 _, _, rfl, ?_⟩
        exact k _ _ (Int.emod_nonneg _ (by omega)) (Int.emod_lt_of_pos _ hm) ⟨⟨gs, (l / m, f), c, upd_same, (upd_ne (Ne.symm hne)).trans h2, hl, hge, Int.ediv_nonneg hl0 (by omega), hf0, hf1, hc0, by push_cast; omega⟩, hne⟩ fun b o e n1 n2 => (upd_ne n1).trans (kp b o e n1 n2)
      · rintro σ2 H2 ⟨rfl, rfl⟩
        refine ⟨_, rfl, t, _, rfl, get_turn h1, _, _, rfl, rfl, _, dput_turn h1 _, ?_⟩
        have g1 : (upd H2 t (.dK (bagK g l (c + 1) f))) t = some (.dK (bagK g l (c + 1) f)) := upd_same
        have bf : (f + 17 * (c + 1)).natAbs < 2 ^ 66 := by omega
        have bc : (c + 1 + 29).natAbs < 2 ^ 61 := by omega
        have b3 : ((c + 1 + 29) ^ (2 : Int).toNat).natAbs < 2 ^ (61 * 2) := pow_lt bc (by decide)
        refine ⟨_, rfl, t, _, rfl, get_turn g1, ?_⟩
        refine ⟨_, rfl, t, _, rfl, get_fold g1, _, rfl, _, _, rfl, rfl, wide_mul (a := 6) (b := 61) (by decide) (by omega) (by decide) (by decide) (by decide), _, _, rfl, rfl, _, rfl, _, _, rfl, rfl, _, _, rfl, rfl, ⟨by decide, by decide, Nat.lt_trans bc (by decide)⟩, _, _, rfl, rfl, wide_mul bf b3 (by decide) (by decide) (by decide), ?_⟩
        refine ⟨_, rfl, _, _, rfl, rfl, wide_mul (a := 30) (b := 61) (by decide) (by omega) (by decide) (by decide) (by decide), _, _, rfl, rfl, ?_⟩
        have hx0 := Int.emod_nonneg ((f + 17 * (c + 1)) * (c + 1 + 29) ^ (2 : Int).toNat + 7919 * (c + 1)) (show (2305843009213693951 : Int) ≠ 0 by decide)
        have hx1 := Int.emod_lt_of_pos ((f + 17 * (c + 1)) * (c + 1 + 29) ^ (2 : Int).toNat + 7919 * (c + 1)) (show (0 : Int) < 2305843009213693951 by decide)
        refine ⟨_, rfl, _, _, rfl, rfl, (by show (0 : Int) < _; decide), _, _, rfl, rfl, ⟨by decide, by decide, ?_⟩, _, _, rfl, rfl, ⟨by decide, by decide, by decide⟩, _, _, rfl, rfl, _, _, rfl, rfl, (by show (0 : Int) < _; decide), _, _, rfl, rfl, wide_div (b := 10) (by decide) (by decide) (by decide) (by decide), _, rfl, _, _, rfl, rfl, hm, ?_⟩
        · show (((f + 17 * (c + 1)) * (c + 1 + 29) ^ (2 : Int).toNat + 7919 * (c + 1)) % 2305843009213693951).natAbs < 2 ^ 64
          omega
        · exact k _ _ (Int.emod_nonneg _ (by omega)) (Int.emod_lt_of_pos _ hm) ⟨⟨gs, (l, f), c + 1, g1, (upd_ne (Ne.symm hne)).trans h2, hl, hge, hl0, hf0, hf1, by omega, by push_cast; omega⟩, hne⟩ fun b o e n1 n2 => (upd_ne n1).trans (kp b o e n1 n2)
end
end KA
namespace KA
open PySem PySem.Spec PyProof.Rows L2 DP
abbrev Pr := Int × Int
def encP (p : Pr) : PyData := .tuple [.int p.1, .int p.2]
theorem noL_encP (p : Pr) : noL (encP p) = true := rfl
/-- a list of data at p, tracked -/
def LAt (K : PySem.W.Frag) (H : Hp) (p : Addr) (ds : List PyData) : Prop := ∃ vs, H p = some (.lst vs) ∧ DpAll K H vs ds
theorem LAt.dp {K : PySem.W.Frag} {H : Hp} {p : Addr} {ds : List PyData} (h : LAt K H p ds) : Dp K H (.ref p) (.list ds) := by
  obtain ⟨vs, h1, h2⟩ := h
  exact .lst (SqL.of h1) h2
theorem LAt.same {K : PySem.W.Frag} {H H' : Hp} {p : Addr} {ds : List PyData} (h : LAt K H p ds) (S : Same H H') : LAt K H' p ds := by
  obtain ⟨vs, h1, h2⟩ := h
  exact ⟨vs, S _ _ h1, dpAll_mono S _ _ h2⟩
theorem Keep.tups {H H' : Hp} {t g : Addr} {n : Nat} (T : Tray H t g n) (k : Keep t g H H') : Tups H H' := fun b xs hb => by
  obtain ⟨⟨gs, f, c, h1, h2, r⟩, hne⟩ := T
  rcases hb with e | ⟨q, e⟩
  · refine .inl (k b _ e ?_ ?_) <;> rintro rfl
    · rw [h1] at e; cases e
    · rw [h2] at e; cases e
  · refine .inr ⟨q, k b _ e ?_ ?_⟩ <;> rintro rfl
    · rw [h1] at e; cases e
    · rw [h2] at e; cases e
theorem LAt.keep {K : PySem.W.Frag} {H H' : Hp} {t g p : Addr} {n : Nat} {ds : List PyData} (h : LAt K H p ds) (T : Tray H t g n) (k : Keep t g H H') (h1 : p ≠ t) (h2 : p ≠ g) (hn : noL.noLs ds = true) : LAt K H' p ds := by
  obtain ⟨vs, a, b⟩ := h
  exact ⟨vs, k _ _ a h1 h2, dpAll_tups (Keep.tups T k) _ _ hn b⟩
theorem Tray.at_ne {H : Hp} {t g p : Addr} {n : Nat} (T : Tray H t g n) (hp : H p = none) : p ≠ t ∧ p ≠ g := by
  obtain ⟨⟨gs, f, c, h1, h2, r⟩, hne⟩ := T
  exact ⟨Ne.symm (ne_of_none h1 hp), Ne.symm (ne_of_none h2 hp)⟩
theorem dp_pair {K : PySem.W.Frag} {H : Hp} {v : V} {p : Pr} (h : Dp K H v (encP p)) : ∃ a, v = .ref a ∧ SqT K H a [.int p.1, .int p.2] := by
  have h' : Dp K H v (.tuple [.int p.1, .int p.2]) := h
  cases h' with
  | tup s a =>
    cases a with
    | cons a1 a =>
      cases a with
      | cons a2 a =>
        cases a; cases a1; cases a2
        exact ⟨_, rfl, s⟩
theorem dp_two {K : PySem.W.Frag} {H : Hp} {q : Addr} {a b : Int} (h : H q = some (.tup [.int a, .int b])) : Dp K H (.ref q) (encP (a, b)) := .tup (SqT.of h) (.cons (.int _) (.cons (.int _) .nil))
theorem small_nat {L : Int} {a : Int} {n : Nat} (h0 : 0 ≤ a) (h1 : a ≤ L) (hL : L.natAbs < 2 ^ n) : a.natAbs < 2 ^ n := Nat.lt_of_le_of_lt (by omega : a.natAbs ≤ L.natAbs) hL
theorem bigL {L : Int} (h0 : 0 < L) (h : L ≤ 10 ^ 30) : L.natAbs < 2 ^ 100 := by
  have e : (10 : Int) ^ 30 = 1000000000000000000000000000000 := by decide
  have e2 : (2 : Nat) ^ 100 = 1267650600228229401496703205376 := by decide
  rw [e] at h; rw [e2]; omega
/-- what the deck's calls keep of the frame: the deck, all else, so far m draws -/
structure At (H Hc : Hp) (t g : Addr) (m : Nat) : Prop where
  T : Tray Hc t g m
  k : Keep t g H Hc
theorem At.step {H H1 H2 : Hp} {t g : Addr} {m m' : Nat} (a : At H H1 t g m) (T : Tray H2 t g m') (k : Keep t g H1 H2) : At H H2 t g m' := ⟨T, a.k.trans k⟩
theorem At.up {H Hc : Hp} {t g : Addr} {m m' : Nat} (a : At H Hc t g m) (h : m ≤ m') : At H Hc t g m' := ⟨a.T.up h, a.k⟩
theorem At.new {H H1 : Hp} {t g p : Addr} {m : Nat} {o : HO} (a : At H H1 t g m) (hp : H1 p = none) : At H (upd H1 p o) t g m := ⟨a.T.same (same_upd hp), a.k.trans (Keep.of_same (same_upd hp))⟩
theorem At.sm {H H1 H2 : Hp} {t g : Addr} {m : Nat} (a : At H H1 t g m) (S : Same H1 H2) : At H H2 t g m := ⟨a.T.same S, a.k.trans (Keep.of_same S)⟩
theorem At.free {H H1 : Hp} {t g p : Addr} {m : Nat} (a : At H H1 t g m) (hp : H1 p = none) : H p = none := by
  obtain ⟨h1, h2⟩ := a.T.at_ne hp
  cases e : H p with
  | none => rfl
  | some o =>
    rw [a.k p o e h1 h2] at hp
    cases hp
/-- a list that a comprehension makes is changed: it is new -/
theorem At.acc {H H1 : Hp} {t g D : Addr} {m : Nat} {o : HO} (a : At H H1 t g m) (hD : H D = none) (h1 : D ≠ t) (h2 : D ≠ g) : At H (upd H1 D o) t g m := by
  obtain ⟨⟨⟨gs, f, c, e1, e2, r⟩, hne⟩, k⟩ := a
  exact ⟨⟨⟨gs, f, c, (upd_ne (Ne.symm h1)).trans e1, (upd_ne (Ne.symm h2)).trans e2, r⟩, hne⟩, fun b o e n1 n2 => (upd_ne (ne_of_none e hD)).trans (k b o e n1 n2)⟩
def spBelowD : Sp := fun vs H Q _ => ∃ (t g : Addr) (n : Nat) (m : Int), vs = [.ref t, .int m] ∧ Tray H t g n ∧ 0 < m ∧ m.natAbs < 2 ^ 1000 ∧ n < 2 ^ 59 ∧
  ∀ (H' : Hp) (r : Int), 0 ≤ r → r < m → Tray H' t g (n + 60) → Keep t g H H' → Q (.int r) H'
def spWide : Sp := fun vs H Q _ => ∃ (t g : Addr) (n : Nat), vs = [.ref t] ∧ Tray H t g n ∧ n < 2 ^ 58 ∧
  ∀ (H' : Hp) (r : Int), 0 < r → r ≤ 10 ^ 30 → Tray H' t g (n + 70) → Keep t g H H' → Q (.int r) H'
end KA
namespace KA
open PySem PySem.Spec PyProof.Rows L2 DP
/-- a Dark's list of looks is not the deck -/
def Off (Z : Ad) (H : Hp) (d : Addr) (L : Int) (t g : Addr) : Prop := ∀ la dx, H d = some (.ins Z.C dx (df L la)) → la ≠ t ∧ la ≠ g
theorem DarkAt.keep {Z : Ad} {K : PySem.W.Frag} {H H' : Hp} {t g d : Addr} {n : Nat} {L : Int} {ls : List Lk} (D : DarkAt Z K H d L ls) (T : Tray H t g n) (k : Keep t g H H') (hla : Off Z H d L t g) : DarkAt Z K H' d L ls ∧ Off Z H' d L t g := by
  obtain ⟨dx, la, vs, h1, h2, h3⟩ := D.ex
  obtain ⟨a1, a2⟩ := hla la dx h1
  have hd : d ≠ t ∧ d ≠ g := by
    obtain ⟨⟨gs, f, c, e1, e2, r⟩, hne⟩ := T
    refine ⟨?_, ?_⟩ <;> rintro rfl
    · rw [h1] at e1; cases e1
    · rw [h1] at e2; cases e2
  have h1' := k _ _ h1 hd.1 hd.2
  refine ⟨⟨⟨dx, la, vs, h1', k _ _ h2 a1 a2, dpAll_tups (Keep.tups T k) _ _ (noLs_map noL_encL ls) h3⟩, D.pos, D.big, D.ok, D.len⟩, fun la' dx' e => ?_⟩
  rw [h1'] at e
  rw [← df_inj e]
  exact ⟨a1, a2⟩
theorem Off.same {Z : Ad} {K : PySem.W.Frag} {H H' : Hp} {d t g : Addr} {L : Int} {ls : List Lk} (O : Off Z H d L t g) (D : DarkAt Z K H d L ls) (S : Same H H') : Off Z H' d L t g := fun la dx e => by
  obtain ⟨dx', la', _, h1, _⟩ := D.ex
  have e2 := S _ _ h1
  rw [e] at e2
  rw [df_inj e2]
  exact O la' dx' h1
end KA
namespace KA
open PySem PySem.Spec PyProof.Rows L2 DP
/-! ### a leading, used again and again -/
def itf (f : Int → Int) (x : Int) : Nat → Int
  | 0 => x
  | n + 1 => f (itf f x n)
theorem itf_add (f : Int → Int) (x : Int) (m : Nat) : ∀ n, itf f x (m + n) = itf f (itf f x m) n
  | 0 => rfl
  | n + 1 => by
    show f (itf f x (m + n)) = f (itf f (itf f x m) n)
    rw [itf_add f x m n]
section
variable {L : Int} {f : Int → Int}
theorem itf_mono (F : Hand L f) {x y : Int} (h : x ≤ y) : ∀ n, itf f x n ≤ itf f y n
  | 0 => h
  | n + 1 => F.mono _ _ (itf_mono F h n)
theorem itf_shift (F : Hand L f) (x k : Int) : ∀ n, itf f (x + k * L) n = itf f x n + k * L
  | 0 => rfl
  | n + 1 => by
    show f (itf f (x + k * L) n) = f (itf f x n) + k * L
    rw [itf_shift F x k n, F.turn]
theorem itf_laps (F : Hand L f) {x c : Int} {p : Nat} (h : itf f x p = x + c * L) : ∀ t : Nat, itf f x (t * p) = x + t * (c * L)
  | 0 => by simp [itf]
  | t + 1 => by
    rw [Nat.succ_mul, Nat.add_comm, itf_add, h, itf_shift F, itf_laps F h t]
    push_cast
    grind
/-- two pointers stay so many turns together -/
theorem itf_near (F : Hand L f) {x y m : Int} (h : x ≤ y + m * L) (n : Nat) : itf f x n ≤ itf f y n + m * L := by
  have := itf_mono F h n
  rwa [itf_shift F] at this
theorem far_turns (hL : 0 < L) (x y : Int) : x ≤ y + ((x - y).natAbs : Int) * L := by
  have h : ((x - y).natAbs : Int) * 1 ≤ ((x - y).natAbs : Int) * L := Int.mul_le_mul_of_nonneg_left (by omega) (by omega)
  omega
/-- all that come round do so at one pace -/
theorem pace_cmp (hL : 0 < L) (F : Hand L f) {x c z k : Int} {p q : Nat} (h1 : itf f x p = x + c * L) (h2 : itf f z q = z + k * L) : c * q = k * p := by
  obtain ⟨m, hm⟩ : ∃ m : Int, m = ((x - z).natAbs : Int) := ⟨_, rfl⟩
  have n1 := far_turns hL x z
  have n2 := far_turns hL z x
  have e : (z - x).natAbs = (x - z).natAbs := by omega
  rw [e] at n2
  rw [← hm] at n1 n2
  have m0 : 0 ≤ m := by omega
  obtain ⟨t, ht⟩ : ∃ t : Nat, (t : Int) = 2 * m + 1 := ⟨(2 * m + 1).toNat, by omega⟩
  have a1 : itf f x (t * (q * p)) = x + ((t * q : Nat) : Int) * (c * L) := by rw [← Nat.mul_assoc]; exact itf_laps F h1 _
  have a2 : itf f z (t * (q * p)) = z + ((t * p : Nat) : Int) * (k * L) := by rw [Nat.mul_comm q p, ← Nat.mul_assoc]; exact itf_laps F h2 _
  have b1 := itf_near F n1 (t * (q * p))
  have b2 := itf_near F n2 (t * (q * p))
  rw [a1, a2] at b1 b2
  push_cast at b1 b2
  rw [ht] at b1 b2
  have key : ∀ d : Int, (2 * m + 1) * d * L ≤ 2 * m * L → 0 < d → False := fun d g3 hd => by
    have g4 : (2 * m + 1) * 1 * L ≤ (2 * m + 1) * d * L := by
      refine Int.mul_le_mul_of_nonneg_right (Int.mul_le_mul_of_nonneg_left (by omega) (by omega)) (by omega)
    have g5 : (2 * m + 1) * 1 * L = 2 * m * L + L := by grind
    omega
  have e1 : (2 * m + 1) * (q : Int) * (c * L) = (2 * m + 1) * (c * q) * L := by grind
  have e2 : (2 * m + 1) * (p : Int) * (k * L) = (2 * m + 1) * (k * p) * L := by grind
  have e3 : 2 * m * L = m * L + m * L := by grind
  rw [e1, e2] at b1 b2
  rcases Int.lt_trichotomy (c * q) (k * p) with h | h | h
  · exfalso
    refine key (k * p - c * q) ?_ (by omega)
    have : (2 * m + 1) * (k * p - c * q) * L = (2 * m + 1) * (k * p) * L - (2 * m + 1) * (c * q) * L := by grind
    omega
  · exact h
  · exfalso
    refine key (c * q - k * p) ?_ (by omega)
    have : (2 * m + 1) * (c * q - k * p) * L = (2 * m + 1) * (c * q) * L - (2 * m + 1) * (k * p) * L := by grind
    omega
/-- a pace in lowest terms -/
structure PaceOf (L : Int) (f : Int → Int) (pr : Int × Int) : Prop where
  pos : 0 < pr.2
  cop : Int.gcd pr.1 pr.2 = 1
  lap : ∃ (x c : Int) (p : Nat), 0 < p ∧ itf f x p = x + c * L ∧ pr.1 * p = c * pr.2
/-- who comes round, comes round at the pace -/
theorem PaceOf.all {pr : Int × Int} (hL : 0 < L) (F : Hand L f) (P : PaceOf L f pr) {z k : Int} {q : Nat} (h : itf f z q = z + k * L) : pr.1 * q = k * pr.2 := by
  obtain ⟨x, c, p, p0, h1, h2⟩ := P.lap
  have h3 := pace_cmp hL F h1 h
  have e : (pr.1 * q) * p = (k * pr.2) * p := by grind
  exact Int.eq_of_mul_eq_mul_right (by omega) e
/-- a pace above 0 leads however far -/
theorem fwd (hL : 0 < L) (F : Hand L f) {pr : Int × Int} (P : PaceOf L f pr) (h0 : 0 < pr.1) (z y : Int) : ∃ n, y ≤ itf f z n := by
  obtain ⟨x, c, p, p0, h1, h2⟩ := P.lap
  have c0 : 0 < c := by
    have e : 0 < pr.1 * (p : Int) := Int.mul_pos h0 (by omega)
    rw [h2] at e
    have := P.pos
    by_cases hc : 0 < c
    · exact hc
    · exfalso
      have := Int.mul_nonpos_of_nonpos_of_nonneg (show c ≤ 0 by omega) (show 0 ≤ pr.2 by omega)
      omega
  obtain ⟨m, hm⟩ : ∃ m : Int, m = ((x - z).natAbs : Int) := ⟨_, rfl⟩
  have n1 := far_turns hL x z
  rw [← hm] at n1
  refine ⟨((y - x).natAbs + m.toNat) * p, ?_⟩
  have b := itf_near F n1 (((y - x).natAbs + m.toNat) * p)
  rw [itf_laps F h1] at b
  have g1 : (((y - x).natAbs + m.toNat : Nat) : Int) * L ≤ (((y - x).natAbs + m.toNat : Nat) : Int) * (c * L) := by
    refine Int.mul_le_mul_of_nonneg_left ?_ (by omega)
    have : 1 * L ≤ c * L := Int.mul_le_mul_of_nonneg_right (by omega) (by omega)
    omega
  have g2 : ((y - x).natAbs : Int) * 1 ≤ ((y - x).natAbs : Int) * L := Int.mul_le_mul_of_nonneg_left (by omega) (by omega)
  have g3 : (((y - x).natAbs + m.toNat : Nat) : Int) * L = ((y - x).natAbs : Int) * L + m * L := by
    have : ((m.toNat : Nat) : Int) = m := by omega
    push_cast
    rw [this]
    grind
  omega
/-- at a pace of 0 or below: a first use that comes so far is none behind which a place came again -/
theorem first_new (hL : 0 < L) (F : Hand L f) {pr : Int × Int} (P : PaceOf L f pr) (h0 : pr.1 ≤ 0) {z y : Int} {n : Nat} (hn : y ≤ itf f z n) (hb : ∀ k, k < n → itf f z k < y) {i j : Nat} (hij : i < j) (hj : j ≤ n) : itf f z i % L ≠ itf f z j % L := fun e => by
  obtain ⟨k, hk⟩ : ∃ k, itf f z j = itf f z i + k * L := by
    refine ⟨itf f z j / L - itf f z i / L, ?_⟩
    have q1 := Int.mul_ediv_add_emod (itf f z i) L
    have q2 := Int.mul_ediv_add_emod (itf f z j) L
    have : (itf f z j / L - itf f z i / L) * L = L * (itf f z j / L) - L * (itf f z i / L) := by grind
    omega
  have e1 : itf f (itf f z i) (j - i) = itf f z i + k * L := by
    rw [← itf_add, show i + (j - i) = j by omega, hk]
  have e2 := P.all hL F e1
  have hp := P.pos
  have k0 : k ≤ 0 := by
    by_cases hk0 : k ≤ 0
    · exact hk0
    · exfalso
      have g1 : 0 < k * pr.2 := Int.mul_pos (by omega) hp
      have g2 : pr.1 * ((j - i : Nat) : Int) ≤ 0 := Int.mul_nonpos_of_nonpos_of_nonneg h0 (by omega)
      omega
  have e3 : itf f z n = itf f z (i + (n - j)) + k * L := by
    have : itf f z n = itf f (itf f z j) (n - j) := by rw [← itf_add, show j + (n - j) = n by omega]
    rw [this, hk, itf_shift F, ← itf_add]
  have g3 : k * L ≤ 0 := Int.mul_nonpos_of_nonpos_of_nonneg k0 (by omega)
  have := hb (i + (n - j)) (by omega)
  omega
/-- the pace is one -/
theorem PaceOf.one {pr pr' : Int × Int} (hL : 0 < L) (F : Hand L f) (P : PaceOf L f pr) (P' : PaceOf L f pr') : pr = pr' := by
  obtain ⟨x, c, p, p0, h1, h2⟩ := P'.lap
  have h3 := P.all hL F h1
  have e : pr.1 * pr'.2 = pr'.1 * pr.2 := by
    have e1 : (pr.1 * pr'.2) * p = (pr'.1 * pr.2) * p := by grind
    exact Int.eq_of_mul_eq_mul_right (by omega) e1
  have a := Int.gcd_mul_right pr.1 pr'.2 pr.2
  have b := Int.gcd_mul_right pr'.1 pr.2 pr'.2
  have p1 := P.pos
  have p2 := P'.pos
  rw [P.cop] at a
  rw [P'.cop] at b
  rw [e, Int.mul_comm pr.2 pr'.2] at a
  rw [a] at b
  have e3 : pr.2 = pr'.2 := by omega
  have e4 : pr.1 = pr'.1 := by
    rw [e3] at e
    exact Int.eq_of_mul_eq_mul_right (by omega) e
  exact Prod.ext e4 e3
/-- at the pace, but for a turn -/
theorem pace_near (hL : 0 < L) {f : Int → Int} (F : Hand L f) {pr : Int × Int} (P : PaceOf L f pr) (z : Int) (n : Nat) : ((itf f z n - z) * pr.2 - n * pr.1 * L).natAbs ≤ (pr.2 * L).natAbs := by
  obtain ⟨x, c, p, p0, h1, h2⟩ := P.lap
  have hp2 := P.pos
  -- what n uses do anywhere, they do everywhere but for a turn
  have turnOf : ∀ y : Int, ∃ k : Int, z + k * L ≤ y ∧ y < z + (k + 1) * L := fun y => by
    refine ⟨(y - z) / L, ?_⟩
    have q1 := Int.mul_ediv_add_emod (y - z) L
    have q2 := Int.emod_nonneg (y - z) (show L ≠ 0 by omega)
    have q3 := Int.emod_lt_of_pos (y - z) hL
    have e1 : (y - z) / L * L = L * ((y - z) / L) := Int.mul_comm _ _
    have e2 : ((y - z) / L + 1) * L = (y - z) / L * L + L := by grind
    omega
  have up : ∀ y : Int, itf f y n - y ≤ itf f z n - z + L := fun y => by
    obtain ⟨k, k1, k2⟩ := turnOf y
    have h := itf_mono F (Int.le_of_lt k2) n
    rw [itf_shift F] at h
    have e2 : (k + 1) * L = k * L + L := by grind
    omega
  have dn : ∀ y : Int, itf f z n - z - L ≤ itf f y n - y := fun y => by
    obtain ⟨k, k1, k2⟩ := turnOf y
    have h := itf_mono F k1 n
    rw [itf_shift F] at h
    have e2 : (k + 1) * L = k * L + L := by grind
    omega
  have upN : ∀ (m : Nat) (y : Int), itf f y (m * n) - y ≤ m * (itf f z n - z + L) := by
    intro m
    induction m with
    | zero => intro y; simp [itf]
    | succ m ih =>
      intro y
      rw [show (m + 1) * n = n + m * n by rw [Nat.succ_mul, Nat.add_comm], itf_add]
      have a := up y
      have b := ih (itf f y n)
      have e : ((m + 1 : Nat) : Int) * (itf f z n - z + L) = m * (itf f z n - z + L) + (itf f z n - z + L) := by push_cast; grind
      omega
  have dnN : ∀ (m : Nat) (y : Int), m * (itf f z n - z - L) ≤ itf f y (m * n) - y := by
    intro m
    induction m with
    | zero => intro y; simp [itf]
    | succ m ih =>
      intro y
      rw [show (m + 1) * n = n + m * n by rw [Nat.succ_mul, Nat.add_comm], itf_add]
      have a := dn y
      have b := ih (itf f y n)
      have e : ((m + 1 : Nat) : Int) * (itf f z n - z - L) = m * (itf f z n - z - L) + (itf f z n - z - L) := by push_cast; grind
      omega
  have a := upN p x
  have b := dnN p x
  have e := itf_laps F h1 n
  rw [Nat.mul_comm] at e
  rw [e] at a b
  generalize itf f z n - z = D at a b ⊢
  have e3 : (n : Int) * (c * L) * pr.2 = n * pr.1 * L * p := by grind
  have a1 : n * pr.1 * L * p ≤ (D + L) * pr.2 * p := by
    have := Int.mul_le_mul_of_nonneg_right (show (n : Int) * (c * L) ≤ p * (D + L) by omega) (Int.le_of_lt hp2)
    have e4 : (p : Int) * (D + L) * pr.2 = (D + L) * pr.2 * p := by grind
    omega
  have b1 : (D - L) * pr.2 * p ≤ n * pr.1 * L * p := by
    have := Int.mul_le_mul_of_nonneg_right (show (p : Int) * (D - L) ≤ (n : Int) * (c * L) by omega) (Int.le_of_lt hp2)
    have e4 : (p : Int) * (D - L) * pr.2 = (D - L) * pr.2 * p := by grind
    omega
  have a2 := Int.le_of_mul_le_mul_right a1 (by omega)
  have b2 := Int.le_of_mul_le_mul_right b1 (by omega)
  have e5 : (D + L) * pr.2 = D * pr.2 + pr.2 * L := by grind
  have e6 : (D - L) * pr.2 = D * pr.2 - pr.2 * L := by grind
  have e7 : 0 ≤ pr.2 * L := Int.mul_nonneg (Int.le_of_lt hp2) (Int.le_of_lt hL)
  omega
/-- each lead so many turns farther -/
theorem pace_farther {f : Int → Int} (F : Hand L f) {pr : Int × Int} (P : PaceOf L f pr) (k : Int) : PaceOf L (fun x => f x + k * L) (pr.1 + k * pr.2, pr.2) := by
  obtain ⟨x, c, p, p0, h1, h2⟩ := P.lap
  have h : ∀ (n : Nat) (x : Int), itf (fun x => f x + k * L) x n = itf f x n + n * (k * L) := by
    intro n
    induction n with
    | zero => intro x; simp [itf]
    | succ n ih =>
      intro x
      show f (itf (fun x => f x + k * L) x n) + k * L = f (itf f x n) + _
      rw [ih]
      have e : (n : Int) * (k * L) = (n * k) * L := by grind
      rw [e, F.turn]
      push_cast
      grind
  refine ⟨P.pos, ?_, x, c + p * k, p, p0, ?_, ?_⟩
  · show Int.gcd (pr.1 + k * pr.2) pr.2 = 1
    rw [Int.gcd_add_mul_right_left]; exact P.cop
  · rw [h, h1]; grind
  · show (pr.1 + k * pr.2) * p = (c + p * k) * pr.2
    grind
end
def lowT (a b : Int) : Int × Int := (a / (Int.gcd a b : Int), b / (Int.gcd a b : Int))
theorem low_terms {a b : Int} (hb : 0 < b) : Int.gcd (a / (Int.gcd a b : Int)) (b / (Int.gcd a b : Int)) = 1 ∧ 0 < b / (Int.gcd a b : Int) ∧ a / (Int.gcd a b : Int) * b = a * (b / (Int.gcd a b : Int)) ∧ b / (Int.gcd a b : Int) ≤ b := by
  have g0 : 0 < Int.gcd a b := Int.gcd_pos_of_ne_zero_right a (by omega)
  have d1 := Int.gcd_dvd_left a b
  have d2 := Int.gcd_dvd_right a b
  refine ⟨Int.gcd_ediv_gcd_ediv_gcd g0, ?_, ?_, ?_⟩
  · rw [Int.lt_ediv_iff_mul_lt (by omega) d2]; omega
  · obtain ⟨x, hx⟩ := d1
    obtain ⟨y, hy⟩ := d2
    generalize hg : (Int.gcd a b : Int) = g at *
    rw [hx, Int.mul_ediv_cancel_left _ (by omega), hy, Int.mul_ediv_cancel_left _ (by omega)]
    grind
  · exact Int.ediv_le_self _ (by omega)
def SzQ (n : Nat) (s : Int × Int) : Prop := s.1.natAbs < 2 ^ n ∧ s.2.natAbs < 2 ^ n
theorem lowQ_size {a b : Int} {n : Nat} (ha : a.natAbs < 2 ^ n) (hb : b.natAbs < 2 ^ n) : SzQ n (lowT a b) := ⟨Nat.lt_of_le_of_lt (Int.natAbs_ediv_le_natAbs _ _) ha, Nat.lt_of_le_of_lt (Int.natAbs_ediv_le_natAbs _ _) hb⟩
end KA
namespace KA
open PySem PySem.Spec PyProof.Rows L2 DP
/-! ### the pace that a walk shows -/
def spLowest (K : PySem.W.Frag) : Sp := fun vs H Q _ => ∃ (a b : Int), vs = [.int a, .int b] ∧ 0 < b ∧ b.natAbs < 2 ^ 1000 ∧ ∀ H' r, Same H H' → Dp K H' r (encP (lowT a b)) → Q r H'
/-- a round's pace, from 0 on, in lowest terms -/
structure RPace (sd : Str) (L : Int) (kn : List (List Lk)) (pr : Pr) : Prop where
  pos : 0 < pr.2
  cop : Int.gcd pr.1 pr.2 = 1
  lap : ∃ (n p : Nat) (x c : Int), 0 < p ∧ it sd L kn 0 n = some x ∧ it sd L kn 0 (n + p * kn.length) = some (x + c * L) ∧ pr.1 * p = c * pr.2
def encO : Option Pr → PyData
  | none => .none
  | some l => encP l
/-- what a walk tells: no pace, for it breaks off, or one -/
def PaceOpt (sd : Str) (L : Int) (kn : List (List Lk)) (o : Option Pr) : Prop := (o = none ∧ ∃ n, it sd L kn 0 n = none) ∨ ∃ pr, o = some pr ∧ RPace sd L kn pr ∧ SzQ 393 pr
def spSideP (Z : Ad) (K : PySem.W.Frag) : Sp := fun vs H Q _ => ∃ (hp : Addr) (ds : List Addr) (sd : Str) (L : Int) (hs : List (List Lk)), vs = [.ref hp, .str sd] ∧ SqL K H hp (refs ds) ∧ Darks Z K H ds L hs ∧ 0 < ds.length ∧ ds.length ≤ 60 ∧ SideOk sd ∧
  ∀ H' r o, Same H H' → Dp K H' r (encO o) → PaceOpt sd L (hs.map (sideOf sd)) o → Q r H'
section
variable {P : Program} {w : World} {K : PySem.W.Frag} {mg : Str → Option Value} {base : Heap} {Z : Ad}
theorem ok_lowest (T : Tx K w mg Z) : FnOk P w K mg base CX0 1 Z.a_lowest Z.d_lowest P_lowest (spLowest K) := by
  refine T.F_lowest.ok sclowest (fun vs H Q E h => ?_) (fun cdv A outer s H vs Q E hr h => ?_)
  · obtain ⟨a, b, rfl, _⟩ := h
    rfl
  · obtain ⟨a, b, rfl, hb, hbb, k⟩ := h
    have g0 : 0 < Int.gcd a b := Int.gcd_pos_of_ne_zero_right a (by omega)
    have g1 : (Int.gcd a b : Int) ≤ b := Int.gcd_le_right a hb
    have g2 : ((Int.gcd a b : Int)).natAbs < 2 ^ 1000 := Nat.lt_of_le_of_lt (by omega) hbb
    refine ⟨_, (pss_cons (ps_set (i := 2) sclowest.nd rfl (Or.inl rfl) (pe_callBfun cr_gcd (by rfl) T.g_gcd (pa_cons (pv 0) (pa_cons (pv 1) pa_nil))))
      (pss_one (ps_ret (pe_tup (pa_cons (pe_op op_fdivW (pv 0) (pv 2)) (pa_cons (pe_op op_fdivW (pv 1) (pv 2)) pa_nil)))))), ?_⟩
    refine ⟨_, rfl, _, rfl, a, b, rfl, ?_⟩
    have e : ((Nat.gcd a.natAbs b.natAbs : Nat) : Int) = (Int.gcd a b : Int) := rfl
    rw [e]
    refine ⟨_, rfl, _, rfl, _, _, rfl, rfl, wide_div (by omega) g2 (by decide) (by decide), _, rfl, _, rfl, _, _, rfl, rfl, wide_div (by omega) g2 (by decide) (by decide), (by show 2 ≤ sizeLine; decide), fun q hq => ?_⟩
    exact k _ _ (same_upd hq) (dp_two upd_same)
theorem ok_side_pace (T : Tx K w mg Z) : FnOk P w K mg base CX0 6 Z.a_side_pace Z.d_side_pace P_side_pace (spSideP Z K) := by
  refine T.F_side_pace.ok scside_pace (fun vs H Q E h => ?_) (fun cdv A outer s H vs Q E hr h => ?_)
  · obtain ⟨hp, ds, sd, L, hs, rfl, _⟩ := h
    rfl
  · obtain ⟨hp, ds, sd, L, hs, rfl, hh, hD, hd0, hd1, hsd, k⟩ := h
    refine ⟨_, (pss_cons (ps_set (i := 2) scside_pace.nd rfl (Or.inl rfl) (pe_make T.mk_Walk (ok_Walk_init T) (hr.mono (by decide)) (by rfl) T.g_Walk T.bb_Walk_init .nil pass0 (pa_cons (pv 0) (pa_cons (pv 1) (pa_cons pe_int pa_nil)))))
      (C8.pss_cut (ps_if (pt_cmpR op_isN (fldK (K := K) (pv 2) rfl) pe_non (nomark _)) (pss_one (ps_ret pe_non)) pss_nil)
      (pss_one (ps_ret (pe_call (ok_lowest T) (hr.mono (by decide)) (by rfl) T.g_lowest T.F_lowest.kp T.bb_lowest .nil pass0 (pa_cons (pe_op op_fdivW (pe_meth0 (pv 2) T.cl_Walk T.m_Walk_climb (ok_Walk_climb T) (hr.mono (by decide)) T.bb_Walk_climb .nil pass0) (pe_meth0 (pe_ix (ixL (K := K)) (pv 0) pe_int (fun _ _ => rfl)) T.cl T.m_Dark_length (ok_Dark_length T) (hr.mono (by decide)) T.bb_Dark_length .nil pass0)) (pa_cons (pe_op op_fdivW (pe_meth0 (pv 2) T.cl_Walk T.m_Walk_period (ok_Walk_period T) (hr.mono (by decide)) T.bb_Walk_period .nil pass0) (pe_callB (lenK (K := K)) (by rfl) T.b_len (by decide +kernel) (pa_cons (pv 0) pa_nil))) pa_nil))))))), ?_⟩
    refine ⟨_, rfl, _, rfl, fun w dx hwn hdx hne => ?_⟩
    have S2 := same_made (o := HO.ins Z.C_Walk dx []) hwn hdx
    have hD2 := hD.same S2
    have hdw : ∀ d ∈ ds, d ≠ w := fun d hd e => by
      obtain ⟨i, hi, e1⟩ := List.getElem_of_mem hd
      have hi' : ds[i]? = some d := by rw [List.getElem?_eq_getElem hi, e1]
      obtain ⟨ls, _, DD⟩ := hD.get hi'
      obtain ⟨dx', la, vs, q1, _⟩ := DD.ex
      rw [e, hwn] at q1; cases q1
    refine ⟨w, hp, dx, ds, sd, L, 0, hs, rfl, upd_same, Same.sqL S2 hh, hD2, hd0, hd1, hsd, by decide, hdw, fun H3 pl tb ps tl st W E hm WA k3 => ⟨rfl, ?_⟩⟩
    have S3 : Same H H3 := fun b o e => k3 b o (S2 b o e) (fun e' => by
      subst e'
      rw [e] at hwn; cases hwn)
    obtain ⟨dxw, tvs, q1, q2, q3, q4⟩ := id WA.ex
    have hl := hD.1
    have hwl := W.len
    have hkn := knOk hD sd
    have hN : tl.length < 4000 := by
      have h1 := marks_le (by rw [List.length_map]; omega) W (n := tl.length) (by have := W.len; omega) hm
      have h2 := cand_len hkn (L := L) 0
      have h3 : (hs.map (sideOf sd)).length * 60 ≤ 60 * 60 := Nat.mul_le_mul_right 60 (by rw [List.length_map]; omega)
      omega
    obtain ⟨d0, hd00⟩ : ∃ d0, ds[0]? = some d0 := ⟨ds[0], List.getElem?_eq_getElem hd0⟩
    obtain ⟨ls0, hls0, D0⟩ := (hD.same S3).get hd00
    have hix : atI (refs ds) 0 = some (.ref d0) := by
      refine at_of (j := 0) rfl ?_
      show (ds.map V.ref)[0]? = _
      rw [List.getElem?_map, hd00]; rfl
    obtain ⟨dx0, la0, vs0, e1, e2, e3⟩ := id D0.ex
    cases st with
    | none =>
      refine ⟨fun _ _ => False, ?_, fun _ _ z => z.elim⟩
      exact ⟨_, rfl, w, Z.C_Walk, dxw, _, _, rfl, q1, T.cl_Walk, T.nWalk_start, wf_start _ _ _, rfl, _, rfl, iteT (k H3 .non none S3 .non (.inl ⟨rfl, ps.length, behind_none W E (Nat.le_refl _)⟩))⟩
    | some s =>
      refine ⟨fun σ' H' => σ' = [some (.ref hp), some (.str sd), some (.ref w)] ∧ H' = H3, ?_, ?_⟩
      · exact ⟨_, rfl, w, Z.C_Walk, dxw, _, _, rfl, q1, T.cl_Walk, T.nWalk_start, wf_start _ _ _, rfl, _, rfl, iteF ⟨rfl, rfl⟩⟩
      rintro σ4 H4 ⟨rfl, rfl⟩
      obtain ⟨hs1, hs2, a, b, ha, hb, hab⟩ := id E
      have hmL : (hs.map (sideOf sd)).length = ds.length := by rw [List.length_map]; omega
      have hm0 : 0 < ds.length := hd0
      obtain ⟨p, hp0⟩ : ∃ p, tl.length - s = p * ds.length := by
        rw [hmL] at hs2
        have h1 := Nat.div_add_mod tl.length ds.length
        have h2 := Nat.div_add_mod s ds.length
        refine ⟨tl.length / ds.length - s / ds.length, ?_⟩
        rw [Nat.sub_mul, Nat.mul_comm (tl.length / ds.length), Nat.mul_comm (s / ds.length)]
        omega
      have hpp : 0 < p := by
        rcases Nat.eq_zero_or_pos p with e | e
        · subst e; omega
        · exact e
      have hpl : p < 4000 := by
        have : p * 1 ≤ p * ds.length := Nat.mul_le_mul_left _ hm0
        omega
      have hper : ((tl.length : Int) - s) / (ds.length : Int) = (p : Int) := by
        have e : (tl.length : Int) - s = (p : Int) * (ds.length : Int) := by
          have : ((tl.length - s : Nat) : Int) = ((p * ds.length : Nat) : Int) := by rw [hp0]
          push_cast at this
          omega
        rw [e, Int.mul_ediv_cancel _ (by omega)]
      have hsm : ∀ i, i < ps.length → (ps.getD i 0).natAbs < 2 ^ 391 := fun i hi => by
        have q1 := W.small D0.pos D0.big hkn i (ps.getD i 0) (by rw [List.getD_eq_getElem?_getD, List.getElem?_eq_getElem hi]; rfl)
        have q2 : i * 2 ^ 312 ≤ 2 ^ 390 := Nat.le_trans (Nat.mul_le_mul_right _ (by omega : i ≤ 4000)) (by decide)
        have q3 : (2 : Nat) ^ 391 = 2 ^ 390 + 2 ^ 390 := by rw [Nat.pow_succ, Nat.mul_two]
        have q4 : (0 : Int).natAbs = 0 := rfl
        omega
      have hcl : ((ps.getD tl.length 0 - ps.getD s 0) / L).natAbs < 2 ^ 393 := div_lt D0.pos (sub_lt (hsm _ (by omega)) (hsm _ (by omega)))
      have hno1 := wf_no pl tb (stV (some s)) (m := "climb") (by decide +kernel) (by decide +kernel) (by decide +kernel)
      have hno2 := wf_no pl tb (stV (some s)) (m := "period") (by decide +kernel) (by decide +kernel) (by decide +kernel)
      have hh4 := Same.sqL S3 hh
      refine ⟨_, rfl, w, dxw, _, rfl, q1, hno1, w, pl, tb, ps, tl, s, rfl, WA, hwl, hs1, ?_⟩
      refine ⟨_, rfl, _, _, _, _, rfl, rfl, hh4, hix, d0, dx0, _, rfl, e1, df_no _ _ (by decide +kernel) (by decide +kernel), d0, L, ls0, rfl, D0, _, _, rfl, rfl, wide_div D0.pos D0.big (by decide) (by decide), ?_⟩
      have hdl : ((refs ds).length : Int) = (ds.length : Int) := by show ((ds.map V.ref).length : Int) = _; rw [List.length_map]
      refine ⟨_, rfl, w, dxw, _, rfl, q1, hno2, w, pl, tb, ps, tl, s, rfl, WA, _, rfl, hp, _, rfl, .inl hh4, _, _, rfl, rfl, wide_div (b := 10) (by rw [hdl]; omega) (by rw [hdl]; exact Nat.lt_of_le_of_lt (by omega : (ds.length : Int).natAbs ≤ 60) (by decide)) (by decide) (by decide), ?_⟩
      have ep : (fun i j => V.int (i / j)) ((tl.length : Int) - s) ((refs ds).length : Int) = .int (p : Int) := by rw [hdl]; show V.int _ = _; rw [hper]
      have hpb : (p : Int).natAbs < 2 ^ 393 := Nat.lt_of_lt_of_le (by omega : _ < 4000) (by decide)
      refine ⟨(ps.getD tl.length 0 - ps.getD s 0) / L, (p : Int), (by rw [← ep]; rfl), by omega, Nat.lt_of_lt_of_le (by omega : (p : Int).natAbs < 4000) (by decide), fun H5 r S5 hr5 => ?_⟩
      obtain ⟨c1, c2, c3, c4⟩ := low_terms (a := (ps.getD tl.length 0 - ps.getD s 0) / L) (b := (p : Int)) (by omega)
      have ga : ps.getD s 0 = a := by rw [List.getD_eq_getElem?_getD, ha]; rfl
      have gb : ps.getD tl.length 0 = b := by rw [List.getD_eq_getElem?_getD, hb]; rfl
      refine k H5 r (some _) (S3.trans S5) hr5 (.inr ⟨_, rfl, ⟨c2, c1, s, p, ps.getD s 0, (ps.getD tl.length 0 - ps.getD s 0) / L, hpp, behind_in W (by omega), ?_, c3⟩, lowQ_size hcl hpb⟩)
      rw [hmL, ← hp0, show s + (tl.length - s) = tl.length by omega, behind_in W (by omega)]
      have q1 := Int.mul_ediv_add_emod (ps.getD tl.length 0 - ps.getD s 0) L
      have q2 : (ps.getD tl.length 0 - ps.getD s 0) % L = 0 := Int.emod_eq_zero_of_dvd (Int.dvd_of_emod_eq_zero (by rw [Int.sub_emod, ga, gb, hab, Int.sub_self, Int.zero_emod]))
      rw [Int.mul_comm] at q1
      congr 1
      omega
end
end KA
namespace KA
open PySem PySem.Spec PyProof.Rows L2 DP
/-! ### a round as one leading -/
noncomputable def rf (sd : Str) (L : Int) : List (List Lk) → Int → Int
  | [] => fun x => x
  | ls :: r => fun x => rf sd L r (bst sd ls x L)
def Filled (kn : List (List Lk)) : Prop := ∀ ls ∈ kn, ls ≠ []
theorem bst_hand {sd : Str} (hs : SideOk sd) {L : Int} (hL : 0 < L) {ls : List Lk} (h : ls ≠ []) : Hand L (fun x => bst sd ls x L) :=
  ⟨fun x y hxy => best_mono hL (bst_is hs h x L) (bst_is hs h y L) hxy, fun x k => bst_of (best_shift hL k (bst_is hs h x L))⟩
theorem rf_hand {sd : Str} (hs : SideOk sd) {L : Int} (hL : 0 < L) : ∀ {kn : List (List Lk)}, Filled kn → Hand L (rf sd L kn)
  | [], _ => ⟨fun _ _ h => h, fun _ _ => rfl⟩
  | ls :: r, h => by
    have F := bst_hand hs hL (h ls List.mem_cons_self)
    have G := rf_hand hs hL (kn := r) fun l hl => h l (List.mem_cons_of_mem _ hl)
    refine ⟨fun x y hxy => G.mono _ _ (F.mono _ _ hxy), fun x k => ?_⟩
    show rf sd L r (bst sd ls (x + k * L) L) = _
    have e : bst sd ls (x + k * L) L = bst sd ls x L + k * L := F.turn x k
    rw [e]
    exact G.turn _ _
theorem rf_append (sd : Str) (L : Int) : ∀ (a b : List (List Lk)) (x : Int), rf sd L (a ++ b) x = rf sd L b (rf sd L a x)
  | [], _, _ => rfl
  | _ :: a, b, x => rf_append sd L a b _
theorem it_part {sd : Str} (hs : SideOk sd) {L : Int} {kn : List (List Lk)} (h : Filled kn) {x y : Int} {n : Nat} (hy : it sd L kn x (n * kn.length) = some y) : ∀ i, i ≤ kn.length → it sd L kn x (n * kn.length + i) = some (rf sd L (kn.take i) y)
  | 0, _ => by simpa [rf] using hy
  | i + 1, hi => by
    have h1 := it_part hs h hy i (by omega)
    have e : (n * kn.length + i) % kn.length = i := by
      rw [Nat.mul_comm, Nat.mul_add_mod, Nat.mod_eq_of_lt (by omega)]
    have hg : kn[i]? = some (kn.getD i []) := by rw [List.getD_eq_getElem?_getD, List.getElem?_eq_getElem (by omega)]; rfl
    show it sd L kn x (n * kn.length + i + 1) = _
    rw [it_succ, h1, e, take_snoc hg, rf_append]
    exact stp_some hs (h _ (List.mem_of_getElem? hg))
theorem it_rf {sd : Str} (hs : SideOk sd) {L : Int} {kn : List (List Lk)} (h : Filled kn) (x : Int) : ∀ n, it sd L kn x (n * kn.length) = some (itf (rf sd L kn) x n)
  | 0 => by rw [Nat.zero_mul]; rfl
  | n + 1 => by
    have h1 := it_part (L := L) hs h (it_rf (L := L) hs h x n) kn.length (Nat.le_refl _)
    rw [List.take_length] at h1
    rw [Nat.succ_mul]
    exact h1
theorem it_full {sd : Str} (hs : SideOk sd) {L : Int} {kn : List (List Lk)} (h : Filled kn) (h0 : 0 < kn.length) (x : Int) (n : Nat) : it sd L kn x n ≠ none := fun e => by
  have h1 := it_none e (n * kn.length - n)
  have h2 : n ≤ n * kn.length := Nat.le_mul_of_pos_right _ h0
  rw [show n + (n * kn.length - n) = n * kn.length by omega, it_rf hs h] at h1
  cases h1
theorem it_gap {sd : Str} {L : Int} {kn : List (List Lk)} (h : ¬ Filled kn) (x : Int) : ∃ n, ∀ m, n ≤ m → it sd L kn x m = none := by
  have : ∃ ls, ls ∈ kn ∧ ls = [] := Classical.byContradiction fun hno => h fun ls hl e => hno ⟨ls, hl, e⟩
  obtain ⟨ls, hl, rfl⟩ := this
  obtain ⟨i, hi, e⟩ := List.getElem_of_mem hl
  have h1 : it sd L kn x (i + 1) = none := by
    rw [it_succ, Nat.mod_eq_of_lt hi]
    have e2 : kn.getD i [] = [] := by rw [List.getD_eq_getElem?_getD, List.getElem?_eq_getElem hi, e]; rfl
    rw [e2]
    cases it sd L kn x i with
    | none => rfl
    | some y => exact stp_nil
  exact ⟨i + 1, fun m hm => by
    have := it_none h1 (m - (i + 1))
    rwa [show i + 1 + (m - (i + 1)) = m by omega] at this⟩
/-- a round's pace is its one leading's -/
theorem RPace.of {sd : Str} (hs : SideOk sd) {L : Int} (hL : 0 < L) {kn : List (List Lk)} (h : Filled kn) (h0 : 0 < kn.length) {pr : Pr} (P : RPace sd L kn pr) : PaceOf L (rf sd L kn) pr := by
  obtain ⟨n, p, x, c, p0, e1, e2, e3⟩ := P.lap
  have hm : n % kn.length = (n + p * kn.length) % kn.length := by rw [Nat.add_mul_mod_self_right]
  have ht := it_turn hs hL hm (k := c) (by rw [e2, e1]; rfl)
  obtain ⟨r, q, hr⟩ : ∃ r q, n + r = q * kn.length := by
    refine ⟨kn.length * (n + 1) - n, n + 1, ?_⟩
    have : n + 1 ≤ kn.length * (n + 1) := Nat.le_mul_of_pos_left _ h0
    rw [Nat.mul_comm (n + 1)]
    omega
  have h2 := ht r
  rw [hr, show n + p * kn.length + r = (q + p) * kn.length by rw [Nat.add_mul, ← hr]; omega, it_rf hs h, it_rf hs h] at h2
  have h3 := Option.some.inj h2
  refine ⟨P.pos, P.cop, itf (rf sd L kn) 0 q, c, p, p0, ?_, e3⟩
  rw [← itf_add]
  exact h3
/-- what paces tells of a side -/
def PaceIs (sd : Str) (L : Int) (kn : List (List Lk)) (o : Option Pr) : Prop := (¬ Filled kn → o = none) ∧ (Filled kn → ∃ pr, o = some pr ∧ PaceOf L (rf sd L kn) pr ∧ SzQ 393 pr)
theorem PaceIs.one {sd : Str} (hs : SideOk sd) {L : Int} (hL : 0 < L) {kn : List (List Lk)} {o o' : Option Pr} (h : PaceIs sd L kn o) (h' : PaceIs sd L kn o') : o = o' := by
  by_cases c : Filled kn
  · obtain ⟨p, rfl, P, _⟩ := h.2 c
    obtain ⟨p', rfl, P', _⟩ := h'.2 c
    rw [P.one hL (rf_hand hs hL c) P']
  · rw [h.1 c, h'.1 c]
/-- from one round to another whose leading goes along -/
theorem PaceIs.map {sd sd' : Str} (hs' : SideOk sd') {L L' : Int} (hL' : 0 < L') {kn kn' : List (List Lk)} {o o' : Option Pr} (g : Pr → Pr) (hf : Filled kn ↔ Filled kn') (hg : ∀ pr, Filled kn → PaceOf L (rf sd L kn) pr → PaceOf L' (rf sd' L' kn') (g pr)) (h : PaceIs sd L kn o) (h' : PaceIs sd' L' kn' o') : o' = o.map g := by
  by_cases c : Filled kn
  · obtain ⟨p, rfl, P, _⟩ := h.2 c
    obtain ⟨p', rfl, P', _⟩ := h'.2 (hf.mp c)
    rw [P'.one hL' (rf_hand hs' hL' (hf.mp c)) (hg p c P)]; rfl
  · rw [h.1 c, h'.1 fun q => c (hf.mpr q)]; rfl
/-- begun at another hand -/
theorem turned_filled (kn : List (List Lk)) (k : Nat) : Filled kn ↔ Filled (kn.drop k ++ kn.take k) := by
  have : ∀ ls, ls ∈ kn ↔ ls ∈ kn.drop k ++ kn.take k := fun ls => by
    rw [List.mem_append]
    constructor
    · intro h
      rw [← List.take_append_drop k kn] at h
      exact (List.mem_append.mp h).symm
    · rintro (h | h)
      · exact List.mem_of_mem_drop h
      · exact List.mem_of_mem_take h
  exact ⟨fun h ls hl => h ls ((this ls).mpr hl), fun h ls hl => h ls ((this ls).mp hl)⟩
theorem conj_itf {f g A : Int → Int} (h : ∀ x, g (A x) = A (f x)) (x : Int) : ∀ n, itf g (A x) n = A (itf f x n)
  | 0 => rfl
  | n + 1 => by
    show g (itf g (A x) n) = A (f (itf f x n))
    rw [conj_itf h x n, h]
theorem turned_pace {sd : Str} (hs : SideOk sd) {L : Int} (hL : 0 < L) {kn : List (List Lk)} (k : Nat) {pr : Pr} (c : Filled kn) (P : PaceOf L (rf sd L kn) pr) : PaceOf L (rf sd L (kn.drop k ++ kn.take k)) pr := by
  obtain ⟨x, c', p, p0, h1, h2⟩ := P.lap
  have F := rf_hand hs hL (kn := kn.take k) fun ls hl => c ls (List.mem_of_mem_take hl)
  refine ⟨P.pos, P.cop, rf sd L (kn.take k) x, c', p, p0, ?_, h2⟩
  have hc : ∀ y, rf sd L (kn.drop k ++ kn.take k) (rf sd L (kn.take k) y) = rf sd L (kn.take k) (rf sd L kn y) := fun y => by
    rw [rf_append, ← rf_append sd L (kn.take k) (kn.drop k), List.take_append_drop]
  rw [conj_itf hc, h1, F.turn]
/-- drawn out and moved -/
def outL (t d : Int) (l : Lk) : Lk := (l.1, l.2.1 * t + d, l.2.2 * t + d)
theorem plc_out {sd : Str} {L t d : Int} (hL : 0 < L) (ht : 0 < t) (l : Lk) (z : Int) : plc sd (outL t d l) (z * t + d) (L * t) = plc sd l z L * t + d := by
  unfold plc outL
  have e1 : ∀ u v : Int, (u * t + d - (v * t + d)) / (L * t) = (u - v) / L := fun u v => by
    rw [show u * t + d - (v * t + d) = (u - v) * t by grind, Int.mul_ediv_mul_of_pos_left _ _ ht]
  split
  · show l.2.2 * t + d + (z * t + d - (l.2.1 * t + d)) / (L * t) * (L * t) = _
    rw [e1]; grind
  · show l.2.2 * t + d - (l.2.1 * t + d - (z * t + d)) / (L * t) * (L * t) = _
    rw [e1]; grind
theorem bst_out {sd : Str} (hs : SideOk sd) {L t d : Int} (hL : 0 < L) (ht : 0 < t) {ls : List Lk} (h : ls ≠ []) (z : Int) : bst sd (ls.map (outL t d)) (z * t + d) (L * t) = bst sd ls z L * t + d := by
  obtain ⟨⟨l, hl, e⟩, h2⟩ := bst_is hs h z L
  refine bst_of ⟨⟨_, List.mem_map.mpr ⟨l, hl, rfl⟩, by rw [plc_out hL ht, e]⟩, fun q hq => ?_⟩
  obtain ⟨l', hl', rfl⟩ := List.mem_map.mp hq
  have h3 := h2 l' hl'
  rw [plc_out hL ht]
  split
  · rename_i c
    rw [if_pos c] at h3
    have := Int.mul_le_mul_of_nonneg_right h3 (Int.le_of_lt ht)
    omega
  · rename_i c
    rw [if_neg c] at h3
    have := Int.mul_le_mul_of_nonneg_right h3 (Int.le_of_lt ht)
    omega
theorem side_out (sd : Str) (t d : Int) (ls : List Lk) : sideOf sd (ls.map (outL t d)) = (sideOf sd ls).map (outL t d) := by
  unfold sideOf
  rw [List.filter_map]
  rfl
theorem rf_out {sd : Str} (hs : SideOk sd) {L t d : Int} (hL : 0 < L) (ht : 0 < t) : ∀ {kn : List (List Lk)}, Filled kn → ∀ z, rf sd (L * t) (kn.map (List.map (outL t d))) (z * t + d) = rf sd L kn z * t + d
  | [], _, _ => rfl
  | ls :: r, h, z => by
    show rf sd (L * t) (r.map (List.map (outL t d))) (bst sd (ls.map (outL t d)) (z * t + d) (L * t)) = _
    rw [bst_out hs hL ht (h ls List.mem_cons_self), rf_out hs hL ht (fun l hl => h l (List.mem_cons_of_mem _ hl))]; rfl
theorem out_filled (kn : List (List Lk)) (t d : Int) : Filled kn ↔ Filled (kn.map (List.map (outL t d))) := by
  constructor
  · intro h ls hl
    obtain ⟨l, hl', rfl⟩ := List.mem_map.mp hl
    intro e
    exact h l hl' (List.map_eq_nil_iff.mp e)
  · intro h ls hl e
    exact h _ (List.mem_map.mpr ⟨ls, hl, rfl⟩) (by rw [e]; rfl)
theorem out_pace {sd : Str} (hs : SideOk sd) {L t d : Int} (hL : 0 < L) (ht : 0 < t) {kn : List (List Lk)} {pr : Pr} (c : Filled kn) (P : PaceOf L (rf sd L kn) pr) : PaceOf (L * t) (rf sd (L * t) (kn.map (List.map (outL t d)))) pr := by
  obtain ⟨x, c', p, p0, h1, h2⟩ := P.lap
  refine ⟨P.pos, P.cop, x * t + d, c', p, p0, ?_, h2⟩
  have := conj_itf (f := rf sd L kn) (g := rf sd (L * t) (kn.map (List.map (outL t d)))) (A := fun z => z * t + d) (rf_out hs hL ht c) x p
  rw [this, h1]
  grind
/-- behind any uses, drawn out and moved -/
theorem it_out {sd : Str} (hs : SideOk sd) {L t d : Int} (hL : 0 < L) (ht : 0 < t) (kn : List (List Lk)) (x : Int) : ∀ n, it sd (L * t) (kn.map (List.map (outL t d))) (x * t + d) n = (it sd L kn x n).map fun z => z * t + d
  | 0 => rfl
  | n + 1 => by
    rw [it_succ, it_succ, it_out hs hL ht kn x n, List.length_map]
    have e : (kn.map (List.map (outL t d))).getD (n % kn.length) [] = (kn.getD (n % kn.length) []).map (outL t d) := by
      rw [List.getD_eq_getElem?_getD, List.getElem?_map, List.getD_eq_getElem?_getD]
      cases kn[n % kn.length]? <;> rfl
    rw [e]
    cases it sd L kn x n with
    | none => rfl
    | some y =>
      show stp sd (L * t) _ (y * t + d) = _
      by_cases c : kn.getD (n % kn.length) [] = []
      · rw [c]
        show stp sd (L * t) [] _ = (stp sd L [] y).map _
        rw [stp_nil, stp_nil]; rfl
      · have c2 : (kn.getD (n % kn.length) []).map (outL t d) ≠ [] := fun e => c (List.map_eq_nil_iff.mp e)
        rw [stp_some hs c2, bst_out hs hL ht c]
        show _ = (stp sd L _ y).map _
        rw [stp_some hs c]; rfl
/-- one hand's looks some turns farther -/
def farL (k L : Int) (l : Lk) : Lk := (l.1, l.2.1, l.2.2 + k * L)
theorem bst_far {sd : Str} (hs : SideOk sd) {L k : Int} {ls : List Lk} (h : ls ≠ []) (z : Int) : bst sd (ls.map (farL k L)) z L = bst sd ls z L + k * L := by
  have ep : ∀ l : Lk, plc sd (farL k L l) z L = plc sd l z L + k * L := fun l => by
    unfold plc farL
    split
    · show l.2.2 + k * L + (z - l.2.1) / L * L = _; omega
    · show l.2.2 + k * L - (l.2.1 - z) / L * L = _; omega
  obtain ⟨⟨l, hl, e⟩, h2⟩ := bst_is hs h z L
  refine bst_of ⟨⟨_, List.mem_map.mpr ⟨l, hl, rfl⟩, by rw [ep, e]⟩, fun q hq => ?_⟩
  obtain ⟨l', hl', rfl⟩ := List.mem_map.mp hq
  have h3 := h2 l' hl'
  rw [ep]
  split
  · rename_i c
    rw [if_pos c] at h3; omega
  · rename_i c
    rw [if_neg c] at h3; omega
theorem side_far (sd : Str) (k L : Int) (ls : List Lk) : sideOf sd (ls.map (farL k L)) = (sideOf sd ls).map (farL k L) := by
  unfold sideOf
  rw [List.filter_map]
  rfl
theorem rf_far {sd : Str} (hs : SideOk sd) {L : Int} (hL : 0 < L) (k : Int) : ∀ {kn : List (List Lk)} (i : Nat) (ls : List Lk), kn[i]? = some ls → Filled kn → ∀ z, rf sd L (kn.set i (ls.map (farL k L))) z = rf sd L kn z + k * L
  | [], _, _, h, _, _ => by simp at h
  | l :: r, 0, ls, h, c, z => by
    have e : l = ls := Option.some.inj h
    subst e
    show rf sd L r (bst sd (l.map (farL k L)) z L) = rf sd L r (bst sd l z L) + k * L
    rw [bst_far hs (c l List.mem_cons_self), (rf_hand hs hL (kn := r) fun q hq => c q (List.mem_cons_of_mem _ hq)).turn]
  | l :: r, i + 1, ls, h, c, z => rf_far hs hL k (kn := r) i ls h (fun q hq => c q (List.mem_cons_of_mem _ hq)) (bst sd l z L)
theorem far_filled {kn : List (List Lk)} {i : Nat} {ls : List Lk} (h : kn[i]? = some ls) (k L : Int) : Filled kn ↔ Filled (kn.set i (ls.map (farL k L))) := by
  have hi := (List.getElem?_eq_some_iff.mp h).1
  constructor
  · intro c q hq e
    rcases List.mem_or_eq_of_mem_set hq with h1 | h1
    · exact c q h1 e
    · rw [h1] at e
      exact c ls (List.mem_of_getElem? h) (List.map_eq_nil_iff.mp e)
  · intro c q hq e
    obtain ⟨j, hj, ej⟩ := List.getElem_of_mem hq
    by_cases eij : i = j
    · subst eij
      rw [List.getElem?_eq_getElem hi, ej] at h
      have e2 : q = ls := Option.some.inj h
      refine c (ls.map (farL k L)) (List.mem_of_getElem? (i := i) (by rw [List.getElem?_set_self hi])) ?_
      rw [← e2, e]; rfl
    · exact c q (List.mem_of_getElem? (i := j) (by rw [List.getElem?_set_ne eij, List.getElem?_eq_getElem hj, ej])) e
theorem far_pace {sd : Str} (hs : SideOk sd) {L : Int} (hL : 0 < L) (k : Int) {kn : List (List Lk)} {i : Nat} {ls : List Lk} (h : kn[i]? = some ls) {pr : Pr} (c : Filled kn) (P : PaceOf L (rf sd L kn) pr) : PaceOf L (rf sd L (kn.set i (ls.map (farL k L)))) (pr.1 + k * pr.2, pr.2) := by
  have e : rf sd L (kn.set i (ls.map (farL k L))) = fun x => rf sd L kn x + k * L := funext fun z => rf_far hs hL k i ls h c z
  rw [e]
  exact pace_farther (rf_hand hs hL c) P k
/-! ### heard or handed -/
theorem stp_heard {sd : Str} (hs : SideOk sd) {L : Int} (hL : 0 < L) (ls : List Lk) (y : Int) : stp sd L (sideOf sd (heardAll L ls)) y = stp sd L (sideOf sd ls) y := by
  by_cases h : sideOf sd (heardAll L ls) = []
  · rw [h, (side_nil heardAll_mem).mp h]
  · have b := bst_is hs h y L
    rw [stp_best b, stp_best (best_home hL heardAll_mem b)]
theorem it_heard {sd : Str} (hs : SideOk sd) {L : Int} (hL : 0 < L) {lots : List (List Lk)} (h0 : 0 < lots.length) (x : Int) (n : Nat) : it sd L ((lots.map (heardAll L)).map (sideOf sd)) x n = it sd L (lots.map (sideOf sd)) x n := by
  refine it_alike (by simp) (fun i y hi => ?_) (by simpa using h0) n
  rw [List.length_map, List.length_map] at hi
  have e1 : ((lots.map (heardAll L)).map (sideOf sd)).getD i [] = sideOf sd (heardAll L lots[i]) := by
    rw [List.getD_eq_getElem?_getD, List.getElem?_map, List.getElem?_map, List.getElem?_eq_getElem hi]; rfl
  have e2 : (lots.map (sideOf sd)).getD i [] = sideOf sd lots[i] := by
    rw [List.getD_eq_getElem?_getD, List.getElem?_map, List.getElem?_eq_getElem hi]; rfl
  rw [e1, e2, stp_heard hs hL]
theorem heard_filled {sd : Str} {L : Int} (lots : List (List Lk)) : Filled ((lots.map (heardAll L)).map (sideOf sd)) ↔ Filled (lots.map (sideOf sd)) := by
  have key : ∀ ls : List Lk, sideOf sd (heardAll L ls) = [] ↔ sideOf sd ls = [] := fun ls => side_nil heardAll_mem
  constructor
  · intro h q hq e
    obtain ⟨ls, hl, rfl⟩ := List.mem_map.mp hq
    exact h _ (List.mem_map.mpr ⟨_, List.mem_map.mpr ⟨ls, hl, rfl⟩, rfl⟩) ((key ls).mpr e)
  · intro h q hq e
    obtain ⟨l0, hl0, rfl⟩ := List.mem_map.mp hq
    obtain ⟨ls, hl, rfl⟩ := List.mem_map.mp hl0
    exact h _ (List.mem_map.mpr ⟨ls, hl, rfl⟩) ((key ls).mp e)
theorem rf_heard {sd : Str} (hs : SideOk sd) {L : Int} (hL : 0 < L) : ∀ {lots : List (List Lk)}, Filled (lots.map (sideOf sd)) → rf sd L ((lots.map (heardAll L)).map (sideOf sd)) = rf sd L (lots.map (sideOf sd))
  | [], _ => rfl
  | ls :: r, h => funext fun x => by
    show rf sd L ((r.map (heardAll L)).map (sideOf sd)) (bst sd (sideOf sd (heardAll L ls)) x L) = rf sd L (r.map (sideOf sd)) (bst sd (sideOf sd ls) x L)
    have h1 := h (sideOf sd ls) List.mem_cons_self
    have h2 : sideOf sd (heardAll L ls) ≠ [] := fun e => h1 ((side_nil heardAll_mem).mp e)
    have e := stp_heard hs hL ls x
    rw [stp_some hs h1, stp_some hs h2] at e
    rw [Option.some.inj e, rf_heard hs hL fun q hq => h q (List.mem_cons_of_mem _ hq)]
theorem PaceIs.heard {sd : Str} (hs : SideOk sd) {L : Int} (hL : 0 < L) {lots : List (List Lk)} {o : Option Pr} (h : PaceIs sd L ((lots.map (heardAll L)).map (sideOf sd)) o) : PaceIs sd L (lots.map (sideOf sd)) o := by
  refine ⟨fun c => h.1 fun q => c ((heard_filled lots).mp q), fun c => ?_⟩
  obtain ⟨pr, e, P, z⟩ := h.2 ((heard_filled lots).mpr c)
  rw [rf_heard hs hL c] at P
  exact ⟨pr, e, P, z⟩
theorem PaceOpt.is {sd : Str} (hs : SideOk sd) {L : Int} (hL : 0 < L) {kn : List (List Lk)} (h0 : 0 < kn.length) {o : Option Pr} (h : PaceOpt sd L kn o) : PaceIs sd L kn o := by
  rcases h with ⟨rfl, n, hn⟩ | ⟨pr, rfl, RP, z⟩
  · exact ⟨fun _ => rfl, fun c => absurd hn (it_full hs c h0 0 n)⟩
  · refine ⟨fun c => ?_, fun c => ⟨pr, rfl, RP.of hs hL c h0, z⟩⟩
    obtain ⟨n, p, x, c', p0, e1, e2, e3⟩ := RP.lap
    obtain ⟨m, hm⟩ := it_gap (sd := sd) (L := L) c 0
    exfalso
    have ht := it_turn hs hL (kn := kn) (s := n) (t := n + p * kn.length) (k := c') (x := 0) (by rw [Nat.add_mul_mod_self_right]) (by rw [e2, e1]; rfl)
    have all : ∀ j : Nat, it sd L kn 0 (n + j * (p * kn.length)) ≠ none := by
      intro j
      induction j with
      | zero => rw [Nat.zero_mul, Nat.add_zero, e1]; exact fun e => by cases e
      | succ j ih =>
        have := ht (j * (p * kn.length))
        rw [show n + p * kn.length + j * (p * kn.length) = n + (j + 1) * (p * kn.length) by rw [Nat.succ_mul]; omega] at this
        rw [this]
        intro e
        cases hq : it sd L kn 0 (n + j * (p * kn.length)) with
        | none => exact ih hq
        | some v => rw [hq] at e; cases e
    have hp1 : 1 ≤ p * kn.length := Nat.mul_pos p0 h0
    refine all m (hm _ ?_)
    have : m * 1 ≤ m * (p * kn.length) := Nat.mul_le_mul_left _ hp1
    omega
def encPs (o1 o2 : Option Pr) : PyData := .tuple [encO o1, encO o2]
def spPaces (Z : Ad) (K : PySem.W.Frag) : Sp := fun vs H Q _ => ∃ (hp : Addr) (ds : List Addr) (L : Int) (lots : List (List Lk)), vs = [.ref hp] ∧ SqL K H hp (refs ds) ∧ Darks Z K H ds L (lots.map (heardAll L)) ∧ 0 < ds.length ∧ ds.length ≤ 60 ∧
  ∀ H' r o1 o2, Same H H' → Dp K H' r (encPs o1 o2) → PaceIs "slow" L (lots.map (sideOf "slow")) o1 → PaceIs "fast" L (lots.map (sideOf "fast")) o2 → Q r H'
section
variable {P : Program} {w : World} {K : PySem.W.Frag} {mg : Str → Option Value} {base : Heap} {Z : Ad}
theorem ok_paces (T : Tx K w mg Z) : FnOk P w K mg base CX0 7 Z.a_paces Z.d_paces P_paces (spPaces Z K) := by
  refine T.F_paces.ok scpaces (fun vs H Q E h => ?_) (fun cdv A outer s H vs Q E hr h => ?_)
  · obtain ⟨hp, ds, L, lots, rfl, _⟩ := h
    rfl
  · obtain ⟨hp, ds, L, lots, rfl, hh, hD, hd0, hd1, k⟩ := h
    have hlen : lots.length = ds.length := by have := hD.1; rw [List.length_map] at this; omega
    obtain ⟨d0, hd00⟩ : ∃ d0, ds[0]? = some d0 := ⟨ds[0], List.getElem?_eq_getElem hd0⟩
    obtain ⟨ls0, hls0, D0⟩ := hD.get hd00
    have hL := D0.pos
    refine ⟨_, (pss_cons (ps_expr (pe_call (ok_check_round T) (hr.mono (by decide)) (by rfl) T.g_check_round T.F_check_round.kp T.bb_check_round .nil pass0 (pa_cons (pv 0) pa_nil)))
      (pss_one (ps_ret (pe_tup (pa_cons (pe_call (ok_side_pace T) (hr.mono (by decide)) (by rfl) T.g_side_pace T.F_side_pace.kp T.bb_side_pace .nil pass0 (pa_cons (pv 0) (pa_cons (pe_glob rfl T.g_SLOW T.r_SLOW) pa_nil))) (pa_cons (pe_call (ok_side_pace T) (hr.mono (by decide)) (by rfl) T.g_side_pace T.F_side_pace.kp T.bb_side_pace .nil pass0 (pa_cons (pv 0) (pa_cons (pe_glob rfl T.g_FAST T.r_FAST) pa_nil))) pa_nil)))))), ?_⟩
    refine ⟨_, rfl, hp, ds, L, _, rfl, hh, hD, hd0, fun H1 S1 => ?_⟩
    refine ⟨_, rfl, hp, ds, "slow", L, lots.map (heardAll L), rfl, Same.sqL S1 hh, hD.same S1, hd0, hd1, .inl rfl, fun H2 r1 o1 S2 h1 P1 => ?_⟩
    refine ⟨_, rfl, hp, ds, "fast", L, lots.map (heardAll L), rfl, Same.sqL (S1.trans S2) hh, hD.same (S1.trans S2), hd0, hd1, .inr rfl, fun H3 r2 o2 S3 h2 P2 => ?_⟩
    refine ⟨(by show 2 ≤ sizeLine; decide), fun q hq => ?_⟩
    have S4 := same_upd (o := HO.tup [r1, r2]) hq
    exact k _ _ o1 o2 (((S1.trans S2).trans S3).trans S4) (.tup (SqT.of upd_same) (.cons (dp_mono (S3.trans S4) _ _ h1) (.cons (dp_mono S4 _ _ h2) .nil))) (PaceIs.heard (.inl rfl) hL (P1.is (.inl rfl) hL (by rw [List.length_map, List.length_map]; omega))) (PaceIs.heard (.inr rfl) hL (P2.is (.inr rfl) hL (by rw [List.length_map, List.length_map]; omega)))
end
end KA
namespace KA
open PySem PySem.Spec PyProof.Rows L2 DP
def spHearX (Z : Ad) (K : PySem.W.Frag) (CL : Addr) : Sp := fun vs H Q E => ∃ (d : Addr) (L : Int) (ls : List Lk) (l : Lk), vs = [.ref d, .str l.1, .int l.2.1, .int l.2.2] ∧ DarkAt Z K H d L ls ∧ WordOk l.1 ∧ Sized 300 l ∧ ls.length < 60 ∧
  ((∀ o ∈ ls, clashB (home L l) o L = false) → ∀ H', DarkAt Z K H' d L (heard L ls l) → (∀ la dx, H' d = some (.ins Z.C dx (df L la)) → (∃ dx', H d = some (.ins Z.C dx' (df L la))) ∨ H la = none) → (∀ b o, H b = some o → b ≠ d → H' b = some o) → Q .non H') ∧
  ∀ o, ls.find? (fun o => clashB (home L l) o L) = some o → ∀ (dd : Addr) (v : V) (H' : Hp), Same H H' → H' dd = some (.xd [(("what" : Str), v)]) → Dp K H' v (.tuple [encL (home L l), encL o]) → H dd = none → E (.ref CL) (some dd) H'
section
variable {P : Program} {w : World} {K : PySem.W.Frag} {mg : Str → Option Value} {base : Heap} {Z : Ad} {Y : AdX}
theorem ok_Dark_hearX (T : Tx K w mg Z) (X : Ex P K mg Y) : FnOk P w K mg base (L2.CX P w) 5 Z.a_Dark_hear Z.d_Dark_hear P_Dark_hear (spHearX Z K Y.c_Clash) := by
  refine T.F_Dark_hear.okX scDark_hear (fun vs H Q E h => ?_) (fun cdv A outer s H vs Q E hr h => ?_)
  · obtain ⟨d, L, ls, l, rfl, _⟩ := h
    rfl
  · obtain ⟨d, L, ls, l, rfl, D, hw, hl, hlen, kno, kx⟩ := h
    obtain ⟨dx, la, xs, h1, h2, h3⟩ := D.ex
    have hsz := home_sized D.pos D.big hl
    refine ⟨_, (pss_cons (ps_set (i := 4) scDark_hear.nd rfl (Or.inl rfl) (pe_meth (pv 0) T.cl T.m_Darkhome (ok_Darkhome T) (hr.mono (by decide)) T.bb_Darkhome .nil pass0 (pa_cons (pv 1) (pa_cons (pv 2) (pa_cons (pv 3) pa_nil)))))
      (pss_cons (ps_set (i := 5) scDark_hear.nd rfl (Or.inl rfl) (pe_meth (pv 0) T.cl T.m_Darkclashing (ok_Darkclashing T) (hr.mono (by decide)) T.bb_Darkclashing .nil pass0 (pa_cons (pv 4) pa_nil)))
      (C8.pss_cut (ps_if (pt_cmpR op_notN (pv 5) pe_non (nomark _)) (pss_one (ps_raise rfl (takes_of rfl rfl rfl rfl) (pmk_err X.Clash X.g_Clash T.b_super hr (pa_cons (pe_tup (pa_cons (pv 4) (pa_cons (pv 5) pa_nil))) pa_nil)))) pss_nil)
      (pss_one (ps_if (pt_cmpR (notInDK (K := K) (rooms hr)) (pv 4) (fldK (K := K) (pv 0) rfl) (by rfl)) (pss_one (ps_fld (pv 0) (pe_callB (sortDK (K := K) encL (rooms hr)) (by rfl) T.b_sorted (by decide +kernel) (pa_cons (pe_op op_cat (fldK (K := K) (pv 0) rfl) (pe_lst (pa_cons (pv 4) pa_nil))) pa_nil)) rfl)) pss_nil))))), ?_⟩
    refine ⟨_, rfl, d, dx, _, rfl, h1, df_no _ _ (by decide +kernel) (by decide +kernel), _, rfl, _, rfl, _, rfl, d, L, ls, l, rfl, D, hw, hl, fun H1 r S hr => ?_⟩
    have D1 := D.same S
    refine ⟨_, rfl, d, dx, _, rfl, S _ _ h1, df_no _ _ (by decide +kernel) (by decide +kernel), _, rfl, d, r, L, ls, home L l, rfl, D1, hr, hw, hsz, fun hfind => ?_, fun o r2 ho hr2 => ?_⟩
    · have k := kno fun o ho => by simpa using List.find?_eq_none.mp hfind o ho
      refine ⟨fun σ' H' => σ' = [some (.ref d), some (.str l.1), some (.int l.2.1), some (.int l.2.2), some r, some .non] ∧ H' = H1, ?_, ?_⟩
      · exact ⟨_, rfl, rfl, _, rfl, iteF ⟨rfl, rfl⟩⟩
      · rintro σ2 H2 ⟨rfl, rfl⟩
        have hwords : ∀ o ∈ ls, WordOk o.1 := fun o ho => (D.ok o ho).1
        have hds := dpAll_mono S _ _ h3
        refine ⟨_, rfl, _, rfl, d, Z.C, dx, _, _, rfl, S _ _ h1, T.cl, T.n_looks, df_looks _ _, encL (home L l), ls.map encL, hr, .lst (SqL.of (S _ _ h2)) hds, shaped_look hw, shaped_looks hwords, _, rfl, ?_⟩
        rw [any_look]
        have fin : ∀ H', DarkAt Z K H' d L (heard L ls l) → (∀ la dx, H' d = some (.ins Z.C dx (df L la)) → (∃ dx', H d = some (.ins Z.C dx' (df L la))) ∨ H la = none) → (∀ b o, H2 b = some o → b ≠ d → H' b = some o) → Q .non H' := fun H' DD ff kk => k H' DD ff fun b o e hb => kk b o (S b o e) hb
        have okH : ∀ o ∈ heard L ls l, WordOk o.1 ∧ Sized 302 o := fun o ho => by
          rcases heard_mem.mp ho with h | h
          · exact D.ok o h
          · subst h; exact ⟨hw, hsz⟩
        have lenH : (heard L ls l).length ≤ 60 := Nat.le_trans (heard_len L ls l) hlen
        by_cases c : home L l ∈ ls
        · have e : (!decide (home L l ∈ ls)) = false := by simp [c]
          rw [e]
          refine iteF (fin H2 ?_ (fun la' dx' e => ?_) fun _ _ e _ => e)
          · have eh : heard L ls l = ls := if_pos c
            rw [eh]; exact D1
          · have e2 := e.symm.trans (S _ _ h1)
            rw [df_inj e2]
            exact .inl ⟨dx, h1⟩
        · have e : (!decide (home L l ∈ ls)) = true := by simp [c]
          rw [e]
          refine iteT ⟨_, rfl, d, Z.C, dx, _, _, rfl, S _ _ h1, T.cl, T.n_looks, df_looks _ _, _, rfl, (by show 1 ≤ sizeLine; decide), fun p hp => ?_⟩
          have S2 := same_upd (o := HO.lst [r]) hp
          have h2' := S2 _ _ (S _ _ h2)
          refine ⟨la, p, xs, [r], rfl, rfl, h2', upd_same, ?_, fun p2 hp2 => ?_⟩
          · have : xs.length = ls.length := by rw [dpAll_len h3, List.length_map]
            exact Nat.le_of_lt (small1000 (by simp; omega))
          have S3 := S2.trans (same_upd (o := HO.lst (xs ++ [r])) hp2)
          have hall : DpAll K (upd (upd H2 p (.lst [r])) p2 (.lst (xs ++ [r]))) (xs ++ [r]) ((ls ++ [home L l]).map encL) := by
            rw [List.map_append]
            exact dpAll_snoc (dpAll_mono S3 _ _ hds) (dp_mono S3 _ _ hr)
          refine ⟨p2, xs ++ [r], ls ++ [home L l], rfl, SqL.of upd_same, hall, alike_looks _, PySem.W.Sortable.tuples fun _ => ⟨_, _, rfl⟩, fun b _ => by rw [depth_look]; decide, fun p3 ys H3 hp3 S4 hy hys => ?_⟩
          have S5 := S3.trans S4
          have h1' := S5 _ _ (S _ _ h1)
          have hd3 : d ≠ p3 := fun e => by
            subst e
            rw [(S3 _ _ (S _ _ h1))] at hp3
            cases hp3
          refine ⟨_, rfl, d, Z.C, dx, df L la, rfl, h1', T.cl, T.n_looks, (by show 2 < 1000; decide), ?_⟩
          refine fin _ ⟨⟨dx, p3, ys, Eq.trans upd_same (congrArg (fun q => some (HO.ins Z.C dx q)) (df_put3 L la p3)), (upd_ne (Ne.symm hd3)).trans hy, ?_⟩, D.pos, D.big, okH, lenH⟩ (fun la' dx' e => ?_) fun b o e hb => (upd_ne hb).trans (S5 _ _ e)
          rotate_left
          · rw [upd_same, df_put3] at e
            rw [← df_inj e]
            exact .inr (S.free (S3.free hp3))
          have eh : heard L ls l = (ls ++ [home L l]).mergeSort (PySem.W.dataLe false encL) := if_neg c
          rw [eh]
          exact dpAll_tups (Tups.upd_ins h1') _ _ (noLs_map noL_encL _) hys
    · refine ⟨fun _ _ => False, ?_, fun _ _ z => z.elim⟩
      obtain ⟨pr, rfl, _⟩ := dp_look hr2
      refine ⟨_, rfl, rfl, _, rfl, iteT ?_⟩
      refine ⟨_, rfl, _, rfl, (by show 2 ≤ sizeLine; decide), fun q hq => ⟨_, rfl, fun dd hdd => ?_⟩⟩
      have S2 := same_upd (o := HO.tup [r, .ref pr]) hq
      have S3 := same_upd (o := HO.xd [(("what" : Str), V.ref q)]) hdd
      exact kx o ho dd (.ref q) _ (S.trans (S2.trans S3)) upd_same (.tup (SqT.of (S3 _ _ upd_same)) (.cons (dp_mono (S2.trans S3) _ _ hr) (.cons (dp_mono (S2.trans S3) _ _ hr2) .nil))) ((S.trans S2).free hdd)
end
end KA
namespace KA
open PySem PySem.Spec PyProof.Rows L2 DP
/-! ### looks in order, each once -/
def leL (a b : Lk) : Bool := PySem.W.dataLe false encL a b
theorem leL_iff {a b : Lk} : leL a b = true ↔ (listOrd itemOrd).kle (PySem.W.keyToks (encL a)) (PySem.W.keyToks (encL b)) := by
  show (!PyProof.Rows.lexLt itemOrd (PySem.W.keyToks (encL b)) (PySem.W.keyToks (encL a))) = true ↔ PyProof.Rows.lexLt itemOrd (PySem.W.keyToks (encL b)) (PySem.W.keyToks (encL a)) = false
  cases PyProof.Rows.lexLt itemOrd (PySem.W.keyToks (encL b)) (PySem.W.keyToks (encL a)) <;> simp
theorem leL_trans (a b c : Lk) (h1 : leL a b = true) (h2 : leL b c = true) : leL a c = true := leL_iff.mpr (KeyOrd.kle_trans (leL_iff.mp h1) (leL_iff.mp h2))
theorem leL_total (a b : Lk) : (leL a b || leL b a) = true := by
  rw [Bool.or_eq_true]
  cases e : (listOrd itemOrd).blt (PySem.W.keyToks (encL b)) (PySem.W.keyToks (encL a)) with
  | false => exact .inl (leL_iff.mpr e)
  | true => exact .inr (leL_iff.mpr (KeyOrd.kle_of_klt (O := listOrd itemOrd) e))
theorem toks_inj {a b : Lk} (h : PySem.W.keyToks (encL a) = PySem.W.keyToks (encL b)) : a = b := by
  obtain ⟨⟨a1⟩, a2, a3⟩ := a
  obtain ⟨⟨b1⟩, b2, b3⟩ := b
  simp [encL, PySem.W.keyToks, PySem.W.keyToksAll] at h
  obtain ⟨h1, h2, h3⟩ := h
  rw [h1, h2, h3]
theorem leL_anti (a b : Lk) (h1 : leL a b = true) (h2 : leL b a = true) : a = b := toks_inj (KeyOrd.kle_antisymm (leL_iff.mp h1) (leL_iff.mp h2))
structure Canon (ms : List Lk) (S : Lk → Prop) : Prop where
  nd : ms.Nodup
  srt : ms.Pairwise (fun a b => leL a b = true)
  mem : ∀ o, o ∈ ms ↔ S o
theorem Canon.eq {ms ns : List Lk} {S S' : Lk → Prop} (a : Canon ms S) (b : Canon ns S') (h : ∀ o, S o ↔ S' o) : ms = ns :=
  List.Perm.eq_of_pairwise (fun x y _ _ h1 h2 => leL_anti x y h1 h2) a.srt b.srt ((List.perm_ext_iff_of_nodup a.nd b.nd).mpr fun o => (a.mem o).trans ((h o).trans (b.mem o).symm))
theorem Canon.iff {ms : List Lk} {S S' : Lk → Prop} (a : Canon ms S) (h : ∀ o, S o ↔ S' o) : Canon ms S' := ⟨a.nd, a.srt, fun o => (a.mem o).trans (h o)⟩
theorem canon_nil : Canon [] (fun _ => False) := ⟨.nil, .nil, fun o => by simp⟩
theorem canon_sort {ms : List Lk} (nd : ms.Nodup) : Canon (ms.mergeSort leL) (fun o => o ∈ ms) := ⟨(List.mergeSort_perm _ _).nodup_iff.mpr nd, List.pairwise_mergeSort leL_trans leL_total _, fun o => (List.mergeSort_perm _ _).mem_iff⟩
theorem heard_canon {L : Int} {hs : List Lk} {S : Lk → Prop} (c : Canon hs S) (l : Lk) : Canon (heard L hs l) (fun o => S o ∨ o = home L l) := by
  refine ⟨?_, ?_, fun o => ?_⟩
  · unfold heard
    split
    · exact c.nd
    · rename_i h
      exact (List.mergeSort_perm _ _).nodup_iff.mpr (List.nodup_append.mpr ⟨c.nd, List.pairwise_singleton _ _, fun a ha b hb e => h (by rw [List.mem_singleton] at hb; rw [← hb, ← e]; exact ha)⟩)
  · unfold heard
    split
    · exact c.srt
    · exact List.pairwise_mergeSort leL_trans leL_total _
  · rw [heard_mem, c.mem]
theorem fold_canon {L : Int} : ∀ (ls hs : List Lk) {S : Lk → Prop}, Canon hs S → Canon (ls.foldl (heard L) hs) (fun o => S o ∨ ∃ l ∈ ls, o = home L l)
  | [], hs, S, c => c.iff fun o => by simp
  | l :: ls, hs, S, c => (fold_canon ls _ (heard_canon c l)).iff fun o => by
    constructor
    · rintro ((h | h) | ⟨q, hq, h⟩)
      · exact .inl h
      · exact .inr ⟨l, List.mem_cons_self, h⟩
      · exact .inr ⟨q, List.mem_cons_of_mem _ hq, h⟩
    · rintro (h | ⟨q, hq, h⟩)
      · exact .inl (.inl h)
      · rcases List.mem_cons.mp hq with e | e
        · exact .inl (.inr (e ▸ h))
        · exact .inr ⟨q, e, h⟩
theorem fold0_canon (L : Int) (ls : List Lk) : Canon (ls.foldl (heard L) []) (fun o => ∃ l ∈ ls, o = home L l) := (fold_canon ls [] canon_nil).iff fun o => by simp
theorem filter_canon {hs : List Lk} {S : Lk → Prop} (c : Canon hs S) (q : Lk → Bool) : Canon (hs.filter q) (fun o => S o ∧ q o = true) := ⟨c.nd.filter _, c.srt.filter _, fun o => by rw [List.mem_filter, c.mem]⟩
/-! ### a set of looks, sorted -/
def keyL (l : Lk) : List Key := [.inr l.1, .inl l.2.1, .inl l.2.2]
theorem keyL_inj {a b : Lk} (h : keyL a = keyL b) : a = b := by
  obtain ⟨a1, a2, a3⟩ := a
  obtain ⟨b1, b2, b3⟩ := b
  simp [keyL] at h
  obtain ⟨h1, h2, h3⟩ := h
  rw [h1, h2, h3]
section
variable {K : PySem.W.Frag} {H : Hp}
theorem look_rows : ∀ {ls : List Lk} {xs : List V}, DpAll K H xs (ls.map encL) → ∃ ks : List (Addr × List Key), xs = ks.map (fun p => V.ref p.1) ∧ ks.map Prod.snd = ls.map keyL ∧ SD.Stand K H ks
  | [], xs, h => by
    have h' : DpAll K H xs [] := h
    cases h'
    exact ⟨[], rfl, rfl, fun p hp => by cases hp⟩
  | l :: ls, xs, h => by
    have h' : DpAll K H xs (encL l :: ls.map encL) := h
    cases h' with
    | cons h1 h2 =>
      obtain ⟨ks, e1, e2, st⟩ := look_rows h2
      obtain ⟨a, rfl, ha⟩ := dp_look h1
      refine ⟨(a, keyL l) :: ks, by rw [e1]; rfl, by rw [List.map_cons, e2]; rfl, fun p hp => ?_⟩
      rcases List.mem_cons.mp hp with e | e
      · rw [e]; exact ha
      · exact st p e
theorem rows_look : ∀ {ms : List Lk} {M : List (Addr × List Key)}, M.map Prod.snd = ms.map keyL → SD.Stand K H M → DpAll K H (M.map fun p => V.ref p.1) (ms.map encL)
  | [], [], _, _ => .nil
  | [], _ :: _, e, _ => by cases e
  | _ :: _, [], e, _ => by cases e
  | l :: ms, p :: M, e, st => by
    injection e with e1 e2
    have h1 := st p List.mem_cons_self
    rw [e1] at h1
    exact .cons (.tup h1 (.cons (.str _) (.cons (.int _) (.cons (.int _) .nil)))) (rows_look e2 fun q hq => st q (List.mem_cons_of_mem _ hq))
theorem keys_back : ∀ {ks : List (List Key)} {ls : List Lk}, (∀ k ∈ ks, ∃ l ∈ ls, k = keyL l) → ∃ ms : List Lk, ks = ms.map keyL ∧ ∀ m ∈ ms, m ∈ ls
  | [], _, _ => ⟨[], rfl, fun _ h => by cases h⟩
  | k :: ks, ls, h => by
    obtain ⟨l, hl, e⟩ := h k List.mem_cons_self
    obtain ⟨ms, e2, h2⟩ := keys_back (ks := ks) (ls := ls) fun q hq => h q (List.mem_cons_of_mem _ hq)
    refine ⟨l :: ms, by rw [e, e2]; rfl, fun m hm => ?_⟩
    rcases List.mem_cons.mp hm with z | z
    · rw [z]; exact hl
    · exact h2 m z
/-- sorted(set(looks)) -/
theorem set_sorted {P : Program} {w : World} {l : Addr} {xs : List V} {ls : List Lk} (hl : SqL K H l xs) (hd : DpAll K H xs (ls.map encL)) (hlen : ls.length < 64) {Q : VK}
    (q : ∀ p ys H' ms, Same H H' → H p = none → H' p = some (.lst ys) → DpAll K H' ys (ms.map encL) → Canon ms (fun o => o ∈ ls) → Q (.ref p) H') :
    SD.rSetD K P w [.ref l] H (fun v H' => SD.rSortSetD K P w [v] H' Q) := by
  obtain ⟨ks, e1, e2, st⟩ := look_rows hd
  have hkl : ks.length = ls.length := by rw [← List.length_map (f := Prod.snd), e2, List.length_map]
  subst e1
  refine ⟨l, ks, rfl, hl, st, by rw [hkl]; exact hlen, fun a M ha hM hall hone => ?_⟩
  have S1 := same_upd (o := SD.SetDO P w a M) ha
  have stM : SD.Stand K (upd H a (SD.SetDO P w a M)) M := SD.Stand.same (fun p hp => st p (hM p hp)) S1
  have inl : ∀ p ∈ M, ∃ l ∈ ls, p.2 = keyL l := fun p hp => by
    have h1 : p.2 ∈ ks.map Prod.snd := List.mem_map.mpr ⟨p, hM p hp, rfl⟩
    rw [e2] at h1
    obtain ⟨l, hl, e⟩ := List.mem_map.mp h1
    exact ⟨l, hl, e.symm⟩
  refine ⟨a, M, rfl, upd_same, stM, ⟨fun p hp p2 hp2 => ?_, fun p hp => ?_⟩, fun N p pm hp => ?_⟩
  · obtain ⟨l1, _, e1⟩ := inl p hp
    obtain ⟨l2, _, e2⟩ := inl p2 hp2
    unfold SD.encK
    rw [e1, e2]
    simp [keyL, SD.kD, PySem.W.alike, PySem.W.alikeAll]
  · obtain ⟨l1, _, e1⟩ := inl p hp
    rw [e1]; simp [keyL]
  · obtain ⟨ms, em, hms⟩ := keys_back (ks := N.map Prod.snd) (ls := ls) fun k hk => by
      obtain ⟨p, hp, e⟩ := List.mem_map.mp hk
      obtain ⟨l, hl, e2⟩ := inl p (pm.mem_iff.mp hp)
      exact ⟨l, hl, by rw [← e, e2]⟩
    have ndk : (ms.map keyL).Nodup := by rw [← em]; exact (pm.map Prod.snd).nodup_iff.mpr hone
    have nd : ms.Nodup := List.Pairwise.of_map keyL (fun _ _ hne e => hne (congrArg keyL e)) ndk
    have hsort : (N.mergeSort (PySem.W.dataLe false SD.encK)).map Prod.snd = (ms.mergeSort leL).map keyL := by
      rw [List.map_mergeSort (f := Prod.snd) (r := PySem.W.dataLe false SD.encK) (s := fun a b => PySem.W.dataLe false SD.encK (0, a) (0, b)) (fun a _ b _ => rfl), em]
      rw [List.map_mergeSort (f := keyL) (r := leL) (s := fun a b => PySem.W.dataLe false SD.encK (0, a) (0, b)) (fun a _ b _ => rfl)]
    have S2 := same_upd (o := HO.lst ((N.mergeSort (PySem.W.dataLe false SD.encK)).map fun q => V.ref q.1)) hp
    refine q p _ _ (ms.mergeSort leL) (S1.trans S2) (S1.free hp) upd_same (rows_look hsort (SD.Stand.same (fun r hr => stM r (pm.mem_iff.mp ((List.mergeSort_perm _ _).mem_iff.mp hr))) S2)) ((canon_sort nd).iff fun o => ⟨hms o, fun ho => ?_⟩)
    have h1 : keyL o ∈ ks.map Prod.snd := by rw [e2]; exact List.mem_map.mpr ⟨o, ho, rfl⟩
    obtain ⟨p2, hp2, e3⟩ := List.mem_map.mp h1
    have h2 := hall p2 hp2
    rw [e3, ← (pm.map Prod.snd).mem_iff, em] at h2
    obtain ⟨m, hm, e4⟩ := List.mem_map.mp h2
    rw [← keyL_inj e4]; exact hm
end
end KA
namespace KA
open PySem PySem.Spec PyProof.Rows L2 DP
theorem ixLast {n : Nat} (h : 0 < n) : ixN n (-1) = some (n - 1) := by
  unfold ixN
  rw [if_neg (by decide), if_pos (by omega)]
  congr 1
  omega
theorem atI_end {ns : List Int} {x : Int} : atI ((ns ++ [x]).map V.int) (-1) = some (.int x) := by
  unfold atI
  rw [ixLast (by simp)]
  simp
theorem snocOf {α : Type} : ∀ {l : List α}, l ≠ [] → ∃ a b, l = a ++ [b] := fun {l} h => ⟨l.dropLast, l.getLast h, (List.dropLast_concat_getLast h).symm⟩
theorem map_snoc {ns : List Int} {x : Int} : (ns ++ [x]).map V.int = ns.map V.int ++ [.int x] := by rw [List.map_append]; rfl
def spTable (K : PySem.W.Frag) : Sp := fun vs H Q _ => ∃ (t g : Addr) (n : Nat) (L : Int), vs = [.ref t, .int L] ∧ Tray H t g n ∧ n < 2 ^ 50 ∧ 0 < L ∧ L ≤ 9 ∧
  ∀ (H' : Hp) (p : Addr) (ns : List Int), H p = none → At H H' t g (n + 30) → H' p = some (.lst (ns.map V.int)) → ns.length = L.toNat → (∀ x ∈ ns, x.natAbs ≤ 1000) → Q (.ref p) H'
def spLed45 (K : PySem.W.Frag) : Sp := fun vs H Q _ => ∃ (p : Addr) (ns : List Int) (x : Int), vs = [.ref p, .int x] ∧ H p = some (.lst (ns.map V.int)) ∧ 0 < ns.length ∧ ns.length ≤ 9 ∧ (∀ z ∈ ns, z.natAbs ≤ 1000) ∧ x.natAbs < 2 ^ 100 ∧
  ∀ y : Int, y.natAbs ≤ x.natAbs + 1010 → Q (.int y) H
section
variable {P : Program} {w : World} {K : PySem.W.Frag} {mg : Str → Option Value} {base : Heap} {Z : Ad}
theorem ok_law_table (T : Tx K w mg Z) : FnOk P w K mg base CX0 2 Z.a_law_table Z.d_law_table P_law_table (spTable K) := by
  refine T.F_law_table.ok sclaw_table (fun vs H Q E h => ?_) (fun cdv A outer s H vs Q E hr h => ?_)
  · obtain ⟨t, g, n, L, rfl, _⟩ := h
    rfl
  · obtain ⟨t, g, n, L, rfl, hT, hn, hL, hL9, k⟩ := h
    have hb : ∀ m, m ≤ n + 30 → m < 2 ^ 60 := fun m hm => Nat.lt_of_le_of_lt hm (Nat.lt_of_lt_of_le (Nat.add_lt_add_right hn 30) (by decide))
    have hLb : L.natAbs < 2 ^ 4 := Nat.lt_of_le_of_lt (by omega : L.natAbs ≤ 9) (by decide)
    refine ⟨_, (pss_cons (ps_set (i := 2) sclaw_table.nd rfl (Or.inl rfl) (pe_op op_sub (pe_call (ok_law_draw T) (hr.mono (by decide)) (by rfl) T.g_law_draw T.F_law_draw.kp T.bb_law_draw .nil pass0 (pa_cons (pv 0) (pa_cons (pe_op op_mulW pe_int (pv 1)) pa_nil))) (pv 1)))
      (pss_cons (ps_set (i := 3) sclaw_table.nd rfl (Or.inl rfl) (pe_lst (pa_cons (pv 2) pa_nil)))
      (pss_cons (ps_for PassesOwn.never rfl (pi_range1 (by rfl) T.b_range (pa_cons (pe_op op_sub (pv 1) pe_int) pa_nil)) (pg_name (i := 4) sclaw_table.nd rfl (Or.inl rfl)) (pss_cons (ps_set (i := 5) sclaw_table.nd rfl (Or.inl rfl) (pe_op op_sub (pe_op op_add (pv 2) (pv 1)) (pe_ix (ixL (K := K)) (pv 3) (pe_un un_neg pe_int) (fun _ _ => rfl))))
      (C8.pss_cut (ps_set (i := 6) sclaw_table.nd rfl (Or.inl rfl) (pe_ix (ixT (K := K)) (pe_tup (pa_cons pe_int (pa_cons pe_int (pa_cons pe_int (pa_cons (pe_call (ok_law_draw T) (hr.mono (by decide)) (by rfl) T.g_law_draw T.F_law_draw.kp T.bb_law_draw .nil pass0 (pa_cons (pv 0) (pa_cons (pe_op op_add (pv 1) pe_int) pa_nil))) pa_nil))))) (pe_call (ok_law_draw T) (hr.mono (by decide)) (by rfl) T.g_law_draw T.F_law_draw.kp T.bb_law_draw .nil pass0 (pa_cons (pv 0) (pa_cons pe_int pa_nil))) (fun _ _ => rfl)))
      (pss_one (ps_expr (pe_bm PySem.F.plainAttrs_list PySem.F.slot_list_append PySem.F.type_list_append mt_append (pv 3) (pa_cons (pe_op op_add (pe_ix (ixL (K := K)) (pv 3) (pe_un un_neg pe_int) (fun _ _ => rfl)) (pe_callB (call_min2 rfl) (by rfl) T.b_min (by decide +kernel) (pa_cons (pv 6) (pa_cons (pv 5) pa_nil)))) pa_nil)))))))
      (pss_one (ps_ret (pv 3)))))), ?_⟩
    refine ⟨_, rfl, _, rfl, _, _, rfl, rfl, wide_mul (show (3 : Int).natAbs < 2 ^ 2 by decide) hLb (by decide) (by decide) (by decide), t, g, n, 3 * L, rfl, hT, by omega, Nat.lt_of_le_of_lt (by omega : (3 * L).natAbs ≤ 27) (by decide), hb _ (by omega), fun H1 r r0 r1 T1 k1 => ?_⟩
    have A1 : At H H1 t g (n + 1) := ⟨T1, k1⟩
    refine ⟨_, rfl, _, _, rfl, rfl, ?_⟩
    have hf : (r - L).natAbs ≤ 30 := by omega
    refine ⟨_, rfl, (by show 1 ≤ sizeLine; decide), fun F hF => ?_⟩
    obtain ⟨Ft, Fg⟩ := T1.at_ne hF
    have hFH := A1.free hF
    have A2 := A1.new (o := HO.lst [V.int (r - L)]) hF
    refine ⟨_, rfl, _, _, rfl, rfl, L - 1, rfl, by omega, by omega, ?_⟩
    refine for_range (lo := 0) (n := (L - 1).toNat) (fun i σ' H' => ∃ (ns : List Int) (u4 u5 u6 : Option V), σ' = [some (.ref t), some (.int L), some (.int (r - L)), some (.ref F), u4, u5, u6] ∧ At H H' t g (n + 1 + 2 * i) ∧ H' F = some (.lst (ns.map V.int)) ∧ ns.length = i + 1 ∧ ∀ x ∈ ns, x.natAbs ≤ 100 * (i + 1)) ⟨[(r - L)], none, none, none, rfl, A2, upd_same, rfl, fun x hx => by
      rw [List.mem_singleton] at hx; omega⟩ ?_ ?_
    · rintro i σ' H3 hi ⟨ns, u4, u5, u6, rfl, A3, g3, hnl, hns⟩
      obtain ⟨ms, z, rfl⟩ : ∃ ms z, ns = ms ++ [z] := snocOf (fun e => by rw [e] at hnl; simp at hnl)
      have hz := hns z (by simp)
      have hi8 : i < 8 := by omega
      refine ⟨_, rfl, _, rfl, _, _, rfl, rfl, _, rfl, _, rfl, F, _, _, _, rfl, rfl, SqL.of g3, atI_end, _, _, rfl, rfl, ?_⟩
      refine ⟨fun σ' H' => ∃ s : Int, σ' = [some (.ref t), some (.int L), some (.int (r - L)), some (.ref F), some (.int (0 + (i : Nat))), some (.int ((r - L) + L - z)), some (.int s)] ∧ s.natAbs ≤ 10 ∧ At H H' t g (n + 1 + 2 * i + 2) ∧ H' F = some (.lst ((ms ++ [z]).map V.int)), ?_, ?_⟩
      · refine ⟨_, rfl, _, rfl, _, _, rfl, rfl, t, g, n + 1 + 2 * i, L + 1, rfl, A3.T, by omega, Nat.lt_of_le_of_lt (by omega : (L + 1).natAbs ≤ 10) (by decide), hb _ (by omega), fun H4 c c0 c1 T4 k4 => ?_⟩
        have A4 := A3.step T4 k4
        refine ⟨(by show 4 ≤ sizeLine; decide), fun q hq => ?_⟩
        obtain ⟨qt, qg⟩ := T4.at_ne hq
        have Sq := same_upd (o := HO.tup [V.int 0, .int 1, .int 1, .int c]) hq
        refine ⟨_, rfl, t, g, n + 1 + 2 * i + 1, 4, rfl, T4.same Sq, by decide, by decide, hb _ (by omega), fun H5 e e0 e1 T5 k5 => ?_⟩
        obtain ⟨s, hs, hsb⟩ : ∃ s : Int, atI [V.int 0, .int 1, .int 1, .int c] e = some (.int s) ∧ s.natAbs ≤ 10 := by
          have : e = 0 ∨ e = 1 ∨ e = 2 ∨ e = 3 := by omega
          rcases this with q | q | q | q <;> subst q
          · exact ⟨0, rfl, by decide⟩
          · exact ⟨1, rfl, by decide⟩
          · exact ⟨1, rfl, by decide⟩
          · exact ⟨c, rfl, by omega⟩
        refine ⟨q, _, _, _, rfl, rfl, SqT.of (k5 _ _ upd_same qt qg), hs, s, rfl, hsb, (A4.sm Sq).step T5 k5, k5 _ _ (Sq _ _ (k4 _ _ g3 Ft Fg)) Ft Fg⟩
      rintro σ4 H4 ⟨s, rfl, hs, A4, g4⟩
      refine ⟨_, rfl, .inl ⟨rfl, _, SqL.of g4⟩, _, rfl, _, rfl, F, _, _, _, rfl, rfl, SqL.of g4, atI_end, _, rfl, _, rfl, _, _, rfl, _, _, rfl, rfl, F, _, _, rfl, rfl, g4, Nat.lt_of_le_of_lt (by rw [List.length_map]; omega : _ ≤ 100) (by decide), ?_⟩
      have hvb : (z + (if (r - L) + L - z < s then (r - L) + L - z else s)).natAbs ≤ 100 * (i + 1 + 1) := by
        split <;> omega
      refine ⟨ms ++ [z] ++ [z + (if (r - L) + L - z < s then (r - L) + L - z else s)], _, _, _, rfl, (A4.acc hFH Ft Fg).up (by omega), (by rw [map_snoc (ns := ms ++ [z])]; exact upd_same), by rw [List.length_append, hnl]; rfl, fun x hx => ?_⟩
      rcases List.mem_append.mp hx with h | h
      · have := hns x h; omega
      · rw [List.mem_singleton] at h; rw [h]; exact hvb
    · rintro σ' H3 ⟨ns, u4, u5, u6, rfl, A3, g3, hnl, hns⟩
      exact ⟨_, rfl, k H3 F ns hFH (A3.up (by omega)) g3 (by omega) fun x hx => by have := hns x hx; omega⟩
theorem ok_law_led (T : Tx K w mg Z) : FnOk P w K mg base CX0 1 Z.a_law_led Z.d_law_led P_law_led (spLed45 K) := by
  refine T.F_law_led.ok sclaw_led (fun vs H Q E h => ?_) (fun cdv A outer s H vs Q E hr h => ?_)
  · obtain ⟨p, ns, x, rfl, _⟩ := h
    rfl
  · obtain ⟨p, ns, x, rfl, hp, h0, h9, hns, hx, k⟩ := h
    refine ⟨_, (pss_one (ps_ret (pe_op op_add (pe_ix (ixL (K := K)) (pv 0) (pe_op op_mod (pv 1) (pe_callB (lenK (K := K)) (by rfl) T.b_len (by decide +kernel) (pa_cons (pv 0) pa_nil))) (fun _ _ => rfl)) (pe_op op_mulW (pe_op op_fdivW (pv 1) (pe_callB (lenK (K := K)) (by rfl) T.b_len (by decide +kernel) (pa_cons (pv 0) pa_nil))) (pe_callB (lenK (K := K)) (by rfl) T.b_len (by decide +kernel) (pa_cons (pv 0) pa_nil)))))), ?_⟩
    have hl : (((ns.map V.int).length : Nat) : Int) = (ns.length : Int) := by rw [List.length_map]
    have hm0 := Int.emod_nonneg x (show (ns.length : Int) ≠ 0 by omega)
    have hm1 := Int.emod_lt_of_pos x (show (0 : Int) < (ns.length : Int) by omega)
    obtain ⟨z, hz⟩ : ∃ z, ns[(x % (ns.length : Int)).toNat]? = some z := ⟨_, List.getElem?_eq_getElem (by omega)⟩
    have hzb := hns z (List.mem_of_getElem? hz)
    have hat : atI (ns.map V.int) (x % (ns.length : Int)) = some (.int z) := by
      refine at_of (j := (x % (ns.length : Int)).toNat) (by omega) ?_
      rw [List.getElem?_map, hz]; rfl
    have hlb : (ns.length : Int).natAbs < 2 ^ 4 := Nat.lt_of_le_of_lt (by omega : (ns.length : Int).natAbs ≤ 9) (by decide)
    refine ⟨_, rfl, _, rfl, _, rfl, p, _, rfl, .inl (SqL.of hp), _, _, rfl, rfl, by rw [hl]; omega, _, _, _, _, rfl, rfl, SqL.of hp, by rw [hl]; exact hat, ?_⟩
    refine ⟨_, rfl, _, rfl, p, _, rfl, .inl (SqL.of hp), _, _, rfl, rfl, wide_div (by rw [hl]; omega) (by rw [hl]; exact hlb) (by decide) (by decide), _, rfl, p, _, rfl, .inl (SqL.of hp), _, _, rfl, rfl, wide_mul (div_lt (by rw [hl]; omega) hx) (by rw [hl]; exact hlb) (by decide) (by decide) (by decide), _, _, rfl, rfl, ?_⟩
    rw [hl]
    refine k _ ?_
    have h1 := Int.mul_ediv_add_emod x (ns.length : Int)
    rw [Int.mul_comm] at h1
    omega
end
end KA
namespace KA
open PySem PySem.Spec PyProof.Rows L2 DP
/-! ### a pointer that is followed, refused -/
theorem head_least : ∀ {xs ys : List Lk}, xs.Pairwise (fun a b => leL a b = true) → ys.Pairwise (fun a b => leL a b = true) → (∀ o, o ∈ xs ↔ o ∈ ys) → xs.head? = ys.head?
  | [], [], _, _, _ => rfl
  | [], y :: ys, _, _, h => absurd ((h y).mpr List.mem_cons_self) (by simp)
  | x :: xs, [], _, _, h => absurd ((h x).mp List.mem_cons_self) (by simp)
  | x :: xs, y :: ys, hx, hy, h => by
    have a : ∀ z ∈ xs, leL x z = true := fun z hz => List.rel_of_pairwise_cons hx hz
    have b : ∀ z ∈ ys, leL y z = true := fun z hz => List.rel_of_pairwise_cons hy hz
    have refl : ∀ z, leL z z = true := fun z => by simpa using leL_total z z
    have h1 : leL x y = true := by
      rcases List.mem_cons.mp ((h y).mpr List.mem_cons_self) with e | e
      · rw [e]; exact refl _
      · exact a _ e
    have h2 : leL y x = true := by
      rcases List.mem_cons.mp ((h x).mp List.mem_cons_self) with e | e
      · rw [e]; exact refl _
      · exact b _ e
    show some x = some y
    rw [leL_anti x y h1 h2]
theorem find_least {hs ks : List Lk} (c : Canon hs (fun o => o ∈ ks)) (p : Lk → Bool) : hs.find? p = ((ks.filter p).mergeSort leL).head? := by
  rw [← List.head?_filter]
  refine head_least (c.srt.filter _) (List.pairwise_mergeSort leL_trans leL_total _) fun o => ?_
  rw [(List.mergeSort_perm _ _).mem_iff, List.mem_filter, List.mem_filter, c.mem]
/-- the first lead that clashes: the look, and the least with which it does -/
def fol (L : Int) : List Lk → Int → List Int → Option (Lk × Lk)
  | _, _, [] => none
  | hs, x, y :: r => match hs.find? (fun o => clashB (home L ("at", x, y)) o L) with
    | some o => some (home L ("at", x, y), o)
    | none => fol L (heard L hs ("at", x, y)) y r
theorem fol_cons (L : Int) (hs : List Lk) (x y : Int) (r : List Int) : fol L hs x (y :: r) = match hs.find? (fun o => clashB (home L ("at", x, y)) o L) with
    | some o => some (home L ("at", x, y), o)
    | none => fol L (heard L hs ("at", x, y)) y r := rfl
theorem drop_at {α : Type} : ∀ {l : List α} {i : Nat} {x : α}, l[i]? = some x → l.drop i = x :: l.drop (i + 1)
  | [], _, _, h => by simp at h
  | a :: l, 0, x, h => by
    have e : a = x := Option.some.inj h
    rw [e]; rfl
  | a :: l, i + 1, x, h => by
    show l.drop i = x :: l.drop (i + 1)
    exact drop_at (by simpa using h)
def clashP (l o : Lk) : PyData := .tuple [encL l, encL o]
def dueD (L x : Int) (ys : List Int) : PyData := if L < 1 then .tuple [.str "length", .int L] else match fol L [] x ys with
  | some (l, o) => .tuple [.str "clash", clashP l o]
  | none => .none
def OutW (CL : Addr) (H : Hp) (E : XK) (d : PyData) (K : PySem.W.Frag) : Prop := ∀ (dd : Addr) (v : V) (H' : Hp), Same H H' → H' dd = some (.xd [(("what" : Str), v)]) → Dp K H' v d → H dd = none → E (.ref CL) (some dd) H'
def FolOk (L x : Int) (ys : List Int) : Prop := L.natAbs < 2 ^ 100 ∧ x.natAbs < 2 ^ 150 ∧ ys.length ≤ 20 ∧ ∀ y ∈ ys, y.natAbs < 2 ^ 150
def spDarkX0 (Z : Ad) (K : PySem.W.Frag) (CL : Addr) : Sp := fun vs H Q E => ∃ (d dx : Addr) (L : Int), vs = [.ref d, .int L] ∧ H d = some (.ins Z.C dx []) ∧ L < 1 ∧ OutW CL H E (.int L) K
def spDarkX (Z : Ad) (K : PySem.W.Frag) (CL : Addr) : Sp := fun vs H Q E => spDarkX0 Z K CL vs H Q E ∨ spInit Z K vs H Q E
def spFollowX (Z : Ad) (K : PySem.W.Frag) (CL CC : Addr) : Sp := fun vs H Q E => ∃ (a : Addr) (L x : Int) (ys : List Int), vs = [.int L, .int x, .ref a] ∧ SqL K H a (ys.map V.int) ∧ FolOk L x ys ∧
  (L < 1 → OutW CL H E (.int L) K) ∧ (0 < L → ∀ l o, fol L [] x ys = some (l, o) → OutW CC H E (clashP l o) K) ∧ (0 < L → fol L [] x ys = none → ∀ H' v, Same H H' → Q v H')
def spCaught (K : PySem.W.Frag) : Sp := fun vs H Q _ => ∃ (a : Addr) (L x : Int) (ys : List Int), vs = [.int L, .int x, .ref a] ∧ SqL K H a (ys.map V.int) ∧ FolOk L x ys ∧ ∀ H' r, Same H H' → Dp K H' r (dueD L x ys) → Q r H'
def spClash45 (K : PySem.W.Frag) : Sp := fun vs H Q _ => ∃ (v u : V) (L : Int) (l o : Lk), vs = [.int L, v, u] ∧ Dp K H v (encL l) ∧ Dp K H u (encL o) ∧ 0 < L ∧ L.natAbs < 2 ^ 100 ∧ l.1 = "at" ∧ o.1 = "at" ∧ Sized 302 l ∧ Sized 302 o ∧ Q (.bl (clashB o l L)) H
theorem home_homeD {L : Int} (hL : 0 < L) (l : Lk) : home L (home L l) = home L l := by
  have e : (home L l).2.1 / L = 0 := by
    show (l.2.1 - l.2.1 / L * L) / L = 0
    rw [Int.sub_mul_ediv_right _ _ (by omega : L ≠ 0), Int.sub_self]
  show ((home L l).1, (home L l).2.1 - (home L l).2.1 / L * L, (home L l).2.2 - (home L l).2.1 / L * L) = home L l
  rw [e, Int.zero_mul, Int.sub_zero, Int.sub_zero]
theorem look_sz {L x y : Int} (hL : 0 < L) (hLb : L.natAbs < 2 ^ 100) (hx : x.natAbs < 2 ^ 150) (hy : y.natAbs < 2 ^ 150) : Sized 300 (("at", x, y) : Lk) := ⟨lt_up hx (by decide), lt_up hy (by decide)⟩
theorem fol_len (L : Int) (lks : List Lk) : (heardAll L lks).length ≤ lks.length := by
  have := fold_len (L := L) lks []
  simpa [heardAll] using this
section
variable {P : Program} {w : World} {K : PySem.W.Frag} {mg : Str → Option Value} {base : Heap} {Z : Ad} {Y : AdX}
theorem okX_Dark_hear (T : Tx K w mg Z) (X : Ex P K mg Y) : FnOk P w K mg base (L2.CX P w) 5 Z.a_Dark_hear Z.d_Dark_hear P_Dark_hear (spHearX Z K Y.c_Clash) := ok_Dark_hearX T X
theorem okX_Dark_init0 (T : Tx K w mg Z) (X : Ex P K mg Y) : FnOk P w K mg base (L2.CX P w) 2 Z.a_Dark_init Z.d_Dark_init P_Dark_init (spDarkX0 Z K Y.c_NoLength) := by
  refine T.F_Dark_init.okX scDark_init (fun vs H Q E h => ?_) (fun cdv A outer s H vs Q E hr h => ?_)
  · obtain ⟨d, dx, L, rfl, _⟩ := h
    rfl
  · obtain ⟨d, dx, L, rfl, hd, hL, k⟩ := h
    refine ⟨_, (C8.pss_cut (ps_if (pt_cmpR op_lt (pv 1) pe_int (nomark _)) (pss_one (ps_raise rfl (takes_of rfl rfl rfl rfl) (pmk_err X.NoLength X.g_NoLength T.b_super hr (pa_cons (pv 1) pa_nil)))) pss_nil)
      (pss_cons (ps_fld (pv 0) (pv 1) rfl)
      (pss_one (ps_fld (pv 0) (pe_lst pa_nil) rfl)))), ?_⟩
    refine ⟨fun _ _ => False, ?_, fun _ _ z => z.elim⟩
    refine ⟨_, rfl, _, _, rfl, rfl, _, rfl, ite2 (fun c => ?_) (fun c => absurd (decide_eq_true hL) c)⟩
    exact ⟨_, rfl, _, rfl, fun dd hdd => k dd _ _ (same_upd hdd) upd_same (.int L) hdd⟩
theorem okX_Dark_init (T : Tx K w mg Z) (X : Ex P K mg Y) : FnOk P w K mg base (L2.CX P w) 2 Z.a_Dark_init Z.d_Dark_init P_Dark_init (spDarkX Z K Y.c_NoLength) :=
  KW.ok_or (okX_Dark_init0 T X) (KW.ok_may ((ok_Dark_init T).mono (by decide)))
theorem okX_followed (T : Tx K w mg Z) (X : Ex P K mg Y) : FnOk P w K mg base (L2.CX P w) 9 Z.a_followed Z.d_followed P_followed (spFollowX Z K Y.c_NoLength Y.c_Clash) := by
  refine T.F_followed.okX scfollowed (fun vs H Q E h => ?_) (fun cdv A outer s H vs Q E hr h => ?_)
  · obtain ⟨a, L, x, ys, rfl, _⟩ := h
    rfl
  · obtain ⟨a, L, x, ys, rfl, ha, ⟨hLb, hx, hyl, hyb⟩, kl, kc, k⟩ := h
    refine ⟨_, (pss_cons (ps_set (i := 3) scfollowed.nd rfl (Or.inl rfl) (pe_make T.mk_Dark (okX_Dark_init T X) (hr.mono (by decide)) (by rfl) T.g_Dark T.bb_Dark_init .nil (passes_call (takes_of rfl rfl rfl rfl) (fun _ _ _ _ h => h)) (pa_cons (pv 0) pa_nil)))
      (pss_cons (ps_set (i := 4) scfollowed.nd rfl (Or.inl rfl) (pv 1))
      (pss_cons (ps_for (passes_of rfl) rfl (pi_list (pv 2)) (pg_name (i := 5) scfollowed.nd rfl (Or.inl rfl)) (pss_cons (ps_expr (pe_meth (pv 3) T.cl T.m_Dark_hear (okX_Dark_hear T X) (hr.mono (by decide)) T.bb_Dark_hear .nil (passes_call (takes_of rfl rfl rfl rfl) (fun _ _ _ _ h => h)) (pa_cons pe_str (pa_cons (pv 4) (pa_cons (pv 5) pa_nil)))))
      (pss_one (ps_set (i := 4) scfollowed.nd rfl (Or.inl rfl) (pv 5)))))
      (pss_one (ps_ret (pe_call (ok_paces T) (hr.mono (by decide)) (by rfl) T.g_paces T.F_paces.kp T.bb_paces .nil pass0 (pa_cons (pe_lst (pa_cons (pv 3) pa_nil)) pa_nil))))))), ?_⟩
    refine ⟨_, rfl, fun d dx hdn hdx hne => ?_⟩
    have S0 : Same H (upd (upd H dx (.own d)) d (.ins Z.C dx [])) := same_made hdn hdx
    by_cases hL : L < 1
    · exact .inl ⟨d, dx, L, rfl, upd_same, hL, fun dd v H1 S1 h1 hv h2 => kl hL dd v H1 (S0.trans S1) h1 hv (S0.free h2)⟩
    have hL0 : 0 < L := by omega
    refine .inr ⟨d, dx, L, rfl, upd_same, hL0, lt_up hLb (by decide), fun H1 D1 f1 k1 => ⟨rfl, ?_⟩⟩
    have S1 : Same H H1 := fun b o e => k1 b o (S0 b o e) (ne_of_none e hdn)
    refine ⟨_, rfl, ?_⟩
    refine ⟨_, rfl, a, rfl, ⟨_, Same.sqL S1 ha⟩, ?_⟩
    refine for_list (K := K) (a := a) (xs := ys.map V.int) (fun i σ' H' => ∃ (lks : List Lk) (here : Int) (u5 : Option V), σ' = [some (.int L), some (.int x), some (.ref a), some (.ref d), some (.int here), u5] ∧ Same H H' ∧ DarkAt Z K H' d L (heardAll L lks) ∧ lks.length = i ∧ here.natAbs < 2 ^ 150 ∧ fol L [] x ys = fol L (heardAll L lks) here (ys.drop i)) ⟨[], x, none, rfl, S1, D1, rfl, hx, rfl⟩ (fun i σ' H' _ ⟨_, _, _, _, S, _⟩ => Same.sqL S ha) ?_ ?_
    · rintro i y σ' H2 hi ⟨lks, here, u5, rfl, S2, D2, hl, hh, ef⟩
      obtain ⟨z, hz, rfl⟩ := map_at hi
      have hzb := hyb z (List.mem_of_getElem? hz)
      have hi20 : i < 20 := by
        have := (List.getElem?_eq_some_iff.mp hz).1
        omega
      obtain ⟨dx2, la2, vs2, q1, q2, q3⟩ := id D2.ex
      have hlen := fol_len L lks
      rw [drop_at hz, fol_cons] at ef
      refine ⟨_, rfl, d, dx2, _, rfl, q1, df_no _ _ (by decide +kernel) (by decide +kernel), _, rfl, _, rfl, d, L, heardAll L lks, ("at", here, z), rfl, D2, .inl rfl, look_sz hL0 hLb hh hzb, by omega, fun hno H3 D3 f3 k3 => ?_, fun o hf dd v H3 S3 h1 hv h2 => ?_⟩
      · have e1 : (heardAll L lks).find? (fun o => clashB (home L ("at", here, z)) o L) = none := List.find?_eq_none.mpr fun o ho => by rw [hno o ho]; exact Bool.false_ne_true
        rw [e1] at ef
        refine ⟨_, rfl, lks ++ [((("at" : Str), here, z) : Lk)], z, _, rfl, fun b o e => k3 b o (S2 b o e) (ne_of_none e hdn), ?_, by simp [hl], hzb, ?_⟩
        · have e : heardAll L (lks ++ [((("at" : Str), here, z) : Lk)]) = heard L (heardAll L lks) ("at", here, z) := by unfold heardAll; rw [List.foldl_append]; rfl
          rw [e]; exact D3
        · have e : heardAll L (lks ++ [((("at" : Str), here, z) : Lk)]) = heard L (heardAll L lks) ("at", here, z) := by unfold heardAll; rw [List.foldl_append]; rfl
          rw [e]; exact ef
      · rw [hf] at ef
        exact kc hL0 _ _ ef dd v H3 (S2.trans S3) h1 hv (S2.free h2)
    · rintro σ' H2 ⟨lks, here, u5, rfl, S2, D2, hl, hh, ef⟩
      rw [List.drop_of_length_le (by rw [List.length_map]; exact Nat.le_refl _)] at ef
      refine ⟨_, rfl, (by show 1 ≤ sizeLine; decide), fun q hq => ?_⟩
      have Sq := same_upd (o := HO.lst [V.ref d]) hq
      refine ⟨q, [d], L, [lks], rfl, SqL.of upd_same, ⟨rfl, fun i d' ls h1 h2 => ?_⟩, by simp, by simp, fun H3 r o1 o2 S3 hr3 _ _ => k hL0 ef H3 r ((S2.trans Sq).trans S3)⟩
      cases i with
      | zero =>
        have e1 : d = d' := Option.some.inj h1
        have e2 : heardAll L lks = ls := Option.some.inj h2
        subst e1 e2
        exact D2.same Sq
      | succ i => simp at h1
theorem ok_law_caught (T : Tx K w mg Z) (X : Ex P K mg Y) : FnOk P w K mg base CX0 10 Z.a_law_caught Z.d_law_caught P_law_caught (spCaught K) := by
  refine T.F_law_caught.ok sclaw_caught (fun vs H Q E h => ?_) (fun cdv A outer s H vs Q E hr h => ?_)
  · obtain ⟨a, L, x, ys, rfl, _⟩ := h
    rfl
  · obtain ⟨a, L, x, ys, rfl, ha, hF, k⟩ := h
    refine ⟨_, (pss_cons (EK.ps_try_keep (i := 3) (tb := fun W => tDrop (tCallS (spFollowX Z K Y.c_NoLength Y.c_Clash) (WE W) (tCons (tVar 0) (tCons (tVar 1) (tCons (tVar 2) tNil))))) (Wout := fun _ _ _ _ => False) rfl rfl rfl sclaw_caught.nd rfl rfl ⟨rfl, by decide, Or.inl X.g_DialError⟩ takes0
        (fun W pn xe tk _ => (pss_one (ps_expr (pe_callS (okX_followed T X) (hr.mono (by decide)) (by rfl) T.g_followed T.F_followed.kp T.bb_followed (fun σ => passAt tk σ) (pa_cons (pv 0) (pa_cons (pv 1) (pa_cons (pv 2) pa_nil)))))))
        (fun _ _ => (C8.pss_cut (ps_if (pt_val (pe_callB (EK.call_isiET (K := K)) (by rfl) T.b_isinstance (by decide +kernel) (pa_cons (pv 3) (pa_cons (pe_tup (pa_cons (pe_glob (v := .ref Y.c_NoBottom) rfl X.g_NoBottom rfl) (pa_cons (pe_glob (v := .ref Y.c_NoLook) rfl X.g_NoLook rfl) (pa_cons (pe_glob (v := .ref Y.c_NoRing) rfl X.g_NoRing rfl) (pa_cons (pe_glob (v := .ref Y.c_NoRound) rfl X.g_NoRound rfl) (pa_cons (pe_glob (v := .ref Y.c_NoSide) rfl X.g_NoSide rfl) (pa_cons (pe_glob (v := .ref Y.c_NoSteps) rfl X.g_NoSteps rfl) (pa_cons (pe_glob (v := .ref Y.c_NoText) rfl X.g_NoText rfl) (pa_cons (pe_glob (v := .ref Y.c_NoUses) rfl X.g_NoUses rfl) (pa_cons (pe_glob (v := .ref Y.c_NoWord) rfl X.g_NoWord rfl) pa_nil)))))))))) pa_nil)))) (pss_one (ps_ret (pe_tup (pa_cons pe_str (pa_cons pe_non pa_nil))))) pss_nil)
      (C8.pss_cut (ps_if (pt_not (pt_val (pe_callB (EK.call_isiE (K := K)) (by rfl) T.b_isinstance (by decide +kernel) (pa_cons (pv 3) (pa_cons (pe_bltn (v := .ty "ValueError") (by rfl) T.b_ValueError (by decide +kernel) rfl) pa_nil))))) (pss_one (ps_ret (pe_tup (pa_cons pe_str (pa_cons pe_non pa_nil))))) pss_nil)
      (C8.pss_cut (ps_if (pt_cmpR (eqDK (K := K) hr.units) (pe_callB (EK.call_isiE (K := K)) (by rfl) T.b_isinstance (by decide +kernel) (pa_cons (pv 3) (pa_cons (pe_glob (v := .ref Y.c_NoLength) rfl X.g_NoLength rfl) pa_nil))) (pe_callB (EK.call_isiE (K := K)) (by rfl) T.b_isinstance (by decide +kernel) (pa_cons (pv 3) (pa_cons (pe_glob (v := .ref Y.c_Clash) rfl X.g_Clash rfl) pa_nil))) (nomark _)) (pss_one (ps_ret (pe_tup (pa_cons pe_str (pa_cons pe_non pa_nil))))) pss_nil)
      (pss_one (ps_ret (pe_tup (pa_cons (pe_ix (ixT (K := K)) (pe_tup (pa_cons pe_str (pa_cons pe_str pa_nil))) (pe_callTy call_int1 (by rfl) T.b_int (by decide +kernel) (pa_cons (pe_callB (EK.call_isiE (K := K)) (by rfl) T.b_isinstance (by decide +kernel) (pa_cons (pv 3) (pa_cons (pe_glob (v := .ref Y.c_NoLength) rfl X.g_NoLength rfl) pa_nil))) pa_nil)) (fun _ _ => rfl)) (pa_cons (EK.pe_exf (K := K) (pv 3)) pa_nil))))))))))
      (pss_one (ps_ret pe_non))), ?_⟩
    refine ⟨_, rfl, _, rfl, _, rfl, a, L, x, ys, rfl, ha, hF, fun hL dd v H1 S1 h1 hv h2 => ⟨true, X.d_NoLength, fun _ a2 ha2 => ?_, fun q => Bool.noConfusion q⟩, fun hL l o ef dd v H1 S1 h1 hv h2 => ⟨true, X.d_Clash, fun _ a2 ha2 => ?_, fun q => Bool.noConfusion q⟩, fun hL ef H1 v S1 => ?_⟩
    · have S2 := same_upd (o := EK.ExV (.ref Y.c_NoLength) (some dd) a2) ha2
      have hh : EK.Held K (upd H1 a2 (EK.ExV (.ref Y.c_NoLength) (some dd) a2)) a2 Y.c_NoLength [(("what" : Str), v)] := ⟨dd, upd_same, S2 _ _ h1, X.x_NoLength⟩
      have hv2 := dp_mono S2 _ _ hv
      have S12 := S1.trans S2
      generalize upd H1 a2 (EK.ExV (.ref Y.c_NoLength) (some dd) a2) = H2 at hh S12 hv2 ⊢
      refine ⟨fun σ' H' => σ' = [some (.int L), some (.int x), some (.ref a), some (.ref a2)] ∧ Same H2 H', ?_, ?_⟩
      · refine ⟨_, rfl, (by show 9 ≤ sizeLine; decide), fun tp htp => ?_⟩
        have S3 := same_upd (o := HO.tup [V.ref Y.c_NoBottom, .ref Y.c_NoLook, .ref Y.c_NoRing, .ref Y.c_NoRound, .ref Y.c_NoSide, .ref Y.c_NoSteps, .ref Y.c_NoText, .ref Y.c_NoUses, .ref Y.c_NoWord]) htp
        refine ⟨a2, Y.c_NoLength, _, tp, _, _, false, rfl, hh.same S3, upd_same, .cons (.own _) (.cons (.own _) (.cons (.own _) (.cons (.own _) (.cons (.own _) (.cons (.own _) (.cons (.own _) (.cons (.own _) (.cons (.own _) .nil)))))))), ?_, _, rfl, iteF ⟨rfl, S3⟩⟩
        exact kitAny_cons X.k_NoLength_NoBottom (fun _ => kitAny_cons X.k_NoLength_NoLook (fun _ => kitAny_cons X.k_NoLength_NoRing (fun _ => kitAny_cons X.k_NoLength_NoRound (fun _ => kitAny_cons X.k_NoLength_NoSide (fun _ => kitAny_cons X.k_NoLength_NoSteps (fun _ => kitAny_cons X.k_NoLength_NoText (fun _ => kitAny_cons X.k_NoLength_NoUses (fun _ => kitAny_cons X.k_NoLength_NoWord (fun _ => rfl) nofun) nofun) nofun) nofun) nofun) nofun) nofun) nofun) nofun
      rintro σ3 H3 ⟨rfl, S3⟩
      have hh3 := hh.same S3
      refine ⟨fun σ' H' => σ' = [some (.int L), some (.int x), some (.ref a), some (.ref a2)] ∧ H' = H3, ⟨_, rfl, a2, Y.c_NoLength, _, _, _, true, rfl, hh3, .ty _, X.kv_NoLength, _, rfl, iteF ⟨rfl, rfl⟩⟩, ?_⟩
      rintro σ4 H4 ⟨rfl, rfl⟩
      refine ⟨fun σ' H' => σ' = [some (.int L), some (.int x), some (.ref a), some (.ref a2)] ∧ H' = H4, ⟨_, rfl, a2, Y.c_NoLength, _, _, _, true, rfl, hh3, .own _, kit_self K _, _, rfl, a2, Y.c_NoLength, _, _, _, false, rfl, hh3, .own _, X.k_NoLength_Clash, .bool true, .bool false, .bl true, .bl false, rfl, rfl, _, rfl, iteF ⟨rfl, rfl⟩⟩, ?_⟩
      rintro σ5 H5 ⟨rfl, rfl⟩
      refine ⟨(by show 2 ≤ sizeLine; decide), fun tw htw => ?_⟩
      have S5 := same_upd (o := HO.tup [V.str "clash", .str "length"]) htw
      have hh5 := hh3.same S5
      refine ⟨_, rfl, a2, Y.c_NoLength, _, _, _, true, rfl, hh5, .own _, kit_self K _, .inr ⟨_, rfl, tw, _, _, _, rfl, rfl, SqT.of upd_same, rfl, _, rfl, a2, Y.c_NoLength, _, _, rfl, hh5, X.x_NoLength.what, rfl, (by show 2 ≤ sizeLine; decide), fun tr htr => ?_⟩⟩
      have S6 := same_upd (o := HO.tup [V.str "length", v]) htr
      have SA := (S3.trans S5).trans S6
      refine k _ _ (S12.trans SA) ?_
      unfold dueD
      rw [if_pos hL]
      exact .tup (SqT.of upd_same) (.cons (.str _) (.cons (dp_mono SA _ _ hv2) .nil))
    · have S2 := same_upd (o := EK.ExV (.ref Y.c_Clash) (some dd) a2) ha2
      have hh : EK.Held K (upd H1 a2 (EK.ExV (.ref Y.c_Clash) (some dd) a2)) a2 Y.c_Clash [(("what" : Str), v)] := ⟨dd, upd_same, S2 _ _ h1, X.x_Clash⟩
      have hv2 := dp_mono S2 _ _ hv
      have S12 := S1.trans S2
      generalize upd H1 a2 (EK.ExV (.ref Y.c_Clash) (some dd) a2) = H2 at hh S12 hv2 ⊢
      refine ⟨fun σ' H' => σ' = [some (.int L), some (.int x), some (.ref a), some (.ref a2)] ∧ Same H2 H', ?_, ?_⟩
      · refine ⟨_, rfl, (by show 9 ≤ sizeLine; decide), fun tp htp => ?_⟩
        have S3 := same_upd (o := HO.tup [V.ref Y.c_NoBottom, .ref Y.c_NoLook, .ref Y.c_NoRing, .ref Y.c_NoRound, .ref Y.c_NoSide, .ref Y.c_NoSteps, .ref Y.c_NoText, .ref Y.c_NoUses, .ref Y.c_NoWord]) htp
        refine ⟨a2, Y.c_Clash, _, tp, _, _, false, rfl, hh.same S3, upd_same, .cons (.own _) (.cons (.own _) (.cons (.own _) (.cons (.own _) (.cons (.own _) (.cons (.own _) (.cons (.own _) (.cons (.own _) (.cons (.own _) .nil)))))))), ?_, _, rfl, iteF ⟨rfl, S3⟩⟩
        exact kitAny_cons X.k_Clash_NoBottom (fun _ => kitAny_cons X.k_Clash_NoLook (fun _ => kitAny_cons X.k_Clash_NoRing (fun _ => kitAny_cons X.k_Clash_NoRound (fun _ => kitAny_cons X.k_Clash_NoSide (fun _ => kitAny_cons X.k_Clash_NoSteps (fun _ => kitAny_cons X.k_Clash_NoText (fun _ => kitAny_cons X.k_Clash_NoUses (fun _ => kitAny_cons X.k_Clash_NoWord (fun _ => rfl) nofun) nofun) nofun) nofun) nofun) nofun) nofun) nofun) nofun
      rintro σ3 H3 ⟨rfl, S3⟩
      have hh3 := hh.same S3
      refine ⟨fun σ' H' => σ' = [some (.int L), some (.int x), some (.ref a), some (.ref a2)] ∧ H' = H3, ⟨_, rfl, a2, Y.c_Clash, _, _, _, true, rfl, hh3, .ty _, X.kv_Clash, _, rfl, iteF ⟨rfl, rfl⟩⟩, ?_⟩
      rintro σ4 H4 ⟨rfl, rfl⟩
      refine ⟨fun σ' H' => σ' = [some (.int L), some (.int x), some (.ref a), some (.ref a2)] ∧ H' = H4, ⟨_, rfl, a2, Y.c_Clash, _, _, _, false, rfl, hh3, .own _, X.k_Clash_NoLength, _, rfl, a2, Y.c_Clash, _, _, _, true, rfl, hh3, .own _, kit_self K _, .bool false, .bool true, .bl false, .bl true, rfl, rfl, _, rfl, iteF ⟨rfl, rfl⟩⟩, ?_⟩
      rintro σ5 H5 ⟨rfl, rfl⟩
      refine ⟨(by show 2 ≤ sizeLine; decide), fun tw htw => ?_⟩
      have S5 := same_upd (o := HO.tup [V.str "clash", .str "length"]) htw
      have hh5 := hh3.same S5
      refine ⟨_, rfl, a2, Y.c_Clash, _, _, _, false, rfl, hh5, .own _, X.k_Clash_NoLength, .inr ⟨_, rfl, tw, _, _, _, rfl, rfl, SqT.of upd_same, rfl, _, rfl, a2, Y.c_Clash, _, _, rfl, hh5, X.x_Clash.what, rfl, (by show 2 ≤ sizeLine; decide), fun tr htr => ?_⟩⟩
      have S6 := same_upd (o := HO.tup [V.str "clash", v]) htr
      have SA := (S3.trans S5).trans S6
      refine k _ _ (S12.trans SA) ?_
      unfold dueD
      rw [if_neg (by omega), ef]
      exact .tup (SqT.of upd_same) (.cons (.str _) (.cons (dp_mono SA _ _ hv2) .nil))
    · have kk := k H1 .non S1
      unfold dueD at kk
      rw [if_neg (by omega), ef] at kk
      exact kk .non
theorem ok_law_clash (T : Tx K w mg Z) : FnOk P w K mg base CX0 1 Z.a_law_clash Z.d_law_clash P_law_clash (spClash45 K) := by
  refine T.F_law_clash.ok sclaw_clash (fun vs H Q E h => ?_) (fun cdv A outer s H vs Q E hr h => ?_)
  · obtain ⟨v, u, L, l, o, rfl, _⟩ := h
    rfl
  · obtain ⟨v, u, L, l, o, rfl, hv, hu, hL, hLb, wl, wo, sl, so, k⟩ := h
    obtain ⟨pl, rfl, gl⟩ := dp_look hv
    obtain ⟨po, rfl, go⟩ := dp_look hu
    have ec : clashB o l L = (decide (l.2.2 + (o.2.1 - l.2.1) / L * L > o.2.2) || decide (o.2.2 + (l.2.1 - o.2.1) / L * L > l.2.2)) := by
      unfold clashB tooFar onSide
      rw [plc_slow, plc_slow, if_pos rfl, if_pos rfl, if_neg slow_ne, if_neg slow_ne, wl, wo, Bool.or_comm]
      simp
    rw [ec] at k
    have h1 : (o.2.1 - l.2.1).natAbs < 2 ^ 303 := sub_lt so.1 sl.1
    have h2 : (l.2.1 - o.2.1).natAbs < 2 ^ 303 := sub_lt sl.1 so.1
    refine ⟨_, (pss_cons (ps_set (i := 3) sclaw_clash.nd rfl (Or.inl rfl) (pe_op op_fdivW (pe_op op_sub (pe_ix (ixT (K := K)) (pv 2) pe_int (fun _ _ => rfl)) (pe_ix (ixT (K := K)) (pv 1) pe_int (fun _ _ => rfl))) (pv 0)))
      (C8.pss_cut (ps_if (pt_cmpR op_gt (pe_op op_add (pe_ix (ixT (K := K)) (pv 1) pe_int (fun _ _ => rfl)) (pe_op op_mulW (pv 3) (pv 0))) (pe_ix (ixT (K := K)) (pv 2) pe_int (fun _ _ => rfl)) (nomark _)) (pss_one (ps_ret pe_bl)) pss_nil)
      (pss_cons (ps_set (i := 3) sclaw_clash.nd rfl (Or.inl rfl) (pe_op op_fdivW (pe_op op_sub (pe_ix (ixT (K := K)) (pv 1) pe_int (fun _ _ => rfl)) (pe_ix (ixT (K := K)) (pv 2) pe_int (fun _ _ => rfl))) (pv 0)))
      (pss_one (ps_ret (pe_cmpR op_gt (pe_op op_add (pe_ix (ixT (K := K)) (pv 2) pe_int (fun _ _ => rfl)) (pe_op op_mulW (pv 3) (pv 0))) (pe_ix (ixT (K := K)) (pv 1) pe_int (fun _ _ => rfl)) (nomark _))))))), ?_⟩
    refine ⟨_, rfl, _, _, _, _, rfl, rfl, go, rfl, _, rfl, _, _, _, _, rfl, rfl, gl, rfl, _, _, rfl, rfl, _, rfl, _, _, rfl, rfl, wide_div hL hLb (by decide) (by decide), ?_⟩
    refine ⟨fun σ' H' => σ' = [some (.int L), some (.ref pl), some (.ref po), some (.int ((o.2.1 - l.2.1) / L))] ∧ H' = H ∧ decide (l.2.2 + (o.2.1 - l.2.1) / L * L > o.2.2) = false, ?_, ?_⟩
    · refine ⟨_, rfl, _, _, _, _, rfl, rfl, gl, rfl, _, rfl, _, rfl, _, _, rfl, rfl, wide_mul (div_lt hL h1) hLb (by decide) (by decide) (by decide), _, _, rfl, rfl, _, rfl, _, _, _, _, rfl, rfl, go, rfl, _, _, rfl, rfl, _, rfl, ite2 (fun c => ?_) (fun c => ?_)⟩
      · have c' : l.2.2 + (o.2.1 - l.2.1) / L * L > o.2.2 := of_decide_eq_true c
        rw [decide_eq_true c', Bool.true_or] at k
        exact k
      · have c' : ¬ l.2.2 + (o.2.1 - l.2.1) / L * L > o.2.2 := fun h => c (decide_eq_true h)
        exact ⟨rfl, rfl, decide_eq_false c'⟩
    rintro σ1 H1 ⟨rfl, rfl, e⟩
    rw [e, Bool.false_or] at k
    refine ⟨_, rfl, _, _, _, _, rfl, rfl, gl, rfl, _, rfl, _, _, _, _, rfl, rfl, go, rfl, _, _, rfl, rfl, _, rfl, _, _, rfl, rfl, wide_div hL hLb (by decide) (by decide), ?_⟩
    exact ⟨_, rfl, _, _, _, _, rfl, rfl, go, rfl, _, rfl, _, rfl, _, _, rfl, rfl, wide_mul (div_lt hL h2) hLb (by decide) (by decide) (by decide), _, _, rfl, rfl, _, rfl, _, _, _, _, rfl, rfl, gl, rfl, _, _, rfl, rfl, k⟩
theorem ok_law_due (T : Tx K w mg Z) : FnOk P w K mg base CX0 2 Z.a_law_due Z.d_law_due P_law_due (spCaught K) := by
  refine T.F_law_due.ok sclaw_due (fun vs H Q E h => ?_) (fun cdv A outer s H vs Q E hr h => ?_)
  · obtain ⟨a, L, x, ys, rfl, _⟩ := h
    rfl
  · obtain ⟨a, L, x, ys, rfl, ha, ⟨hLb, hx, hyl, hyb⟩, k⟩ := h
    refine ⟨_, (C8.pss_cut (ps_if (pt_cmpR op_lt (pv 0) pe_int (nomark _)) (pss_one (ps_ret (pe_tup (pa_cons pe_str (pa_cons (pv 0) pa_nil))))) pss_nil)
      (pss_cons (ps_par (i := 3) (j := 4) (by rfl) sclaw_due.nd rfl rfl (by decide) rfl rfl (pa_cons (pe_lst pa_nil) (pa_cons (pv 1) pa_nil)) (by rfl))
      (pss_cons (ps_for PassesOwn.never rfl (pi_list (pv 2)) (pg_name (i := 5) sclaw_due.nd rfl (Or.inl rfl)) (pss_cons (ps_set (i := 6) sclaw_due.nd rfl (Or.inr rfl) (pe_tup (pa_cons pe_str (pa_cons (pe_op op_mod (pv 4) (pv 0)) (pa_cons (pe_op op_sub (pv 5) (pe_op op_mulW (pe_op op_fdivW (pv 4) (pv 0)) (pv 0))) pa_nil)))))
      (C8.pss_cut (ps_set (i := 7) sclaw_due.nd rfl (Or.inl rfl) (pe_callB (sortDK (K := K) encL (rooms hr)) (by rfl) T.b_sorted (by decide +kernel) (pa_cons (pe_lc (own := [("one", 8)]) (g := gName 8) (tt := _) rfl sclaw_due.nd (pi_list (pv 3)) (blkOk_by (own := [("one", 8)]) (N := N_law_due) (sc := defScope slaw_due) (by decide +kernel)) (fun _ _ _ _ _ => (pg_name (i := 8) sclaw_due.nd rfl (Or.inl rfl))) (fun _ _ _ _ _ => (pts_one (pt_val (pe_call (ok_law_clash T) (hr.mono (by decide)) (by rfl) T.g_law_clash T.F_law_clash.kp T.bb_law_clash .nil pass0 (pa_cons (pv 0) (pa_cons (pv 8) (pa_cons (pv 6) pa_nil))))))) (fun _ _ _ _ _ => (pv 8))) pa_nil)))
      (C8.pss_cut (ps_if (pt_cmpR op_gt (pe_callB (lenK (K := K)) (by rfl) T.b_len (by decide +kernel) (pa_cons (pv 7) pa_nil)) pe_int (nomark _)) (pss_one (ps_ret (pe_tup (pa_cons pe_str (pa_cons (pe_tup (pa_cons (pv 6) (pa_cons (pe_ix (ixL (K := K)) (pv 7) pe_int (fun _ _ => rfl)) pa_nil))) pa_nil))))) pss_nil)
      (pss_cons (ps_expr (pe_bm PySem.F.plainAttrs_list PySem.F.slot_list_append PySem.F.type_list_append mt_append (pv 3) (pa_cons (pv 6) pa_nil)))
      (pss_one (ps_set (i := 4) sclaw_due.nd rfl (Or.inl rfl) (pv 5))))))))
      (pss_one (ps_ret pe_non))))), ?_⟩
    refine ⟨fun σ' H' => σ' = [some (.int L), some (.int x), some (.ref a), none, none, none, none, none, none] ∧ H' = H ∧ 0 < L, ?_, ?_⟩
    · refine ⟨_, rfl, _, _, rfl, rfl, _, rfl, ite2 (fun c => ?_) (fun c => ?_)⟩
      · have c' : L < 1 := of_decide_eq_true c
        refine ⟨_, rfl, (by show 2 ≤ sizeLine; decide), fun p hp => ?_⟩
        refine k _ _ (same_upd hp) ?_
        unfold dueD
        rw [if_pos c']
        exact .tup (SqT.of upd_same) (.cons (.str _) (.cons (.int L) .nil))
      · have c' : ¬ L < 1 := fun h => c (decide_eq_true h)
        exact ⟨rfl, rfl, by omega⟩
    rintro σ0 H0 ⟨rfl, rfl, hL⟩
    have ed : dueD L x ys = match fol L [] x ys with
      | some (l, o) => .tuple [.str "clash", clashP l o]
      | none => .none := by unfold dueD; rw [if_neg (by omega)]
    rw [ed] at k
    refine ⟨(by show 0 ≤ sizeLine; decide), fun hd hhd => ⟨_, rfl, _, _, rfl, ?_⟩⟩
    have S0 := same_upd (o := HO.lst ([] : List V)) hhd
    refine ⟨_, rfl, a, rfl, ⟨_, Same.sqL S0 ha⟩, ?_⟩
    refine for_list (K := K) (a := a) (xs := ys.map V.int) (fun i σ' H' => ∃ (ks hs : List Lk) (here : Int) (vs : List V) (u5 u6 u7 : Option V), σ' = [some (.int L), some (.int x), some (.ref a), some (.ref hd), some (.int here), u5, u6, u7, none] ∧ Same H0 H' ∧ H' hd = some (.lst vs) ∧ DpAll K H' vs (ks.map encL) ∧ ks.length = i ∧ Canon hs (fun o => o ∈ ks) ∧ (∀ l ∈ ks, l.1 = "at" ∧ Sized 300 l) ∧ here.natAbs < 2 ^ 150 ∧ fol L [] x ys = fol L hs here (ys.drop i)) ⟨[], [], x, [], none, none, none, rfl, S0, upd_same, .nil, rfl, canon_nil.iff (fun o => by simp), fun _ h => absurd h (by simp), hx, rfl⟩ (fun i σ' H' _ ⟨_, _, _, _, _, _, _, _, S, _⟩ => Same.sqL S ha) ?_ ?_
    · rintro i y σ' H1 hi ⟨ks, hs, here, vs, u5, u6, u7, rfl, S1, g1, d1, hkl, ch, hok, hh, ef⟩
      obtain ⟨z, hz, rfl⟩ := map_at hi
      have hzb := hyb z (List.mem_of_getElem? hz)
      have hi20 : i < 20 := by
        have := (List.getElem?_eq_some_iff.mp hz).1
        omega
      have hvl : vs.length = ks.length := by rw [dpAll_len d1, List.length_map]
      rw [drop_at hz, fol_cons] at ef
      have eh : home L ("at", here, z) = (("at", here % L, z - here / L * L) : Lk) := by
        have h1 := Int.mul_ediv_add_emod here L
        rw [Int.mul_comm] at h1
        show (("at" : Str), here - here / L * L, z - here / L * L) = _
        congr 2
        omega
      have hm0 := Int.emod_nonneg here (show L ≠ 0 by omega)
      have hm1 := Int.emod_lt_of_pos here hL
      have hdL : (here / L * L).natAbs < 2 ^ 260 := lt_up (wide_lt (div_lt hL hh) hLb) (by decide)
      have hsz : Sized 300 (("at", here % L, z - here / L * L) : Lk) := ⟨lt_up (small_nat hm0 (Int.le_of_lt hm1) hLb) (by decide), lt_up (sub_lt (lt_up hzb (by decide)) hdL) (by decide)⟩
      refine ⟨_, rfl, _, rfl, _, _, rfl, rfl, hL, _, rfl, _, rfl, _, rfl, _, _, rfl, rfl, wide_div hL hLb (by decide) (by decide), _, rfl, _, _, rfl, rfl, wide_mul (div_lt hL hh) hLb (by decide) (by decide) (by decide), _, _, rfl, rfl, (by show 3 ≤ sizeLine; decide), fun p hp => ?_⟩
      have S2 := same_upd (o := HO.tup [V.str "at", .int (here % L), .int (z - here / L * L)]) hp
      have dl : Dp K (upd H1 p (HO.tup [V.str "at", .int (here % L), .int (z - here / L * L)])) (.ref p) (encL ("at", here % L, z - here / L * L)) := .tup (SqT.of upd_same) (.cons (.str _) (.cons (.int _) (.cons (.int _) .nil)))
      have S12 := S1.trans S2
      have g2 := S2 _ _ g1
      have d2 := dpAll_mono S2 _ _ d1
      generalize upd H1 p (HO.tup [V.str "at", .int (here % L), .int (z - here / L * L)]) = H2 at S12 g2 d2 dl ⊢
      rw [eh] at ef
      obtain ⟨l, el⟩ : ∃ l : Lk, l = (("at" : Str), here % L, z - here / L * L) := ⟨_, rfl⟩
      have l1 : l.1 = "at" := by rw [el]
      rw [← el] at ef dl hsz
      obtain ⟨as, eas⟩ : ∃ as, as = (ks.filter fun o => clashB l o L).mergeSort leL := ⟨_, rfl⟩
      have hfl : hs.find? (fun o => clashB l o L) = as.head? := by rw [eas]; exact find_least ch _
      rw [hfl] at ef
      refine ⟨fun σ' H' => ∃ (q : Addr) (qs : List V), σ' = [some (.int L), some (.int x), some (.ref a), some (.ref hd), some (.int here), some (.int z), some (.ref p), some (.ref q), none] ∧ Same H2 H' ∧ H' q = some (.lst qs) ∧ DpAll K H' qs (as.map encL), ?_, ?_⟩
      · refine ⟨_, rfl, hd, rfl, ⟨_, SqL.of g2⟩, fun D hD => ?_⟩
        refine lc_list (K := K) (a := hd) (xs := vs) (fun i' H' => Same H2 H' ∧ ∃ ws, H' D = some (.lst ws) ∧ ws.length ≤ i' ∧ DpAll K H' ws (((ks.take i').filter fun o => clashB l o L).map encL)) ⟨same_upd hD, [], upd_same, Nat.le_refl _, .nil⟩ (fun i' H' _ ⟨S, _⟩ => SqL.of (S _ _ g2)) ?_ ?_
        · rintro i' y H' hi' ⟨S, ws, gD, hwl, hwd⟩
          have hi15 : i' < ks.length := by
            have := (List.getElem?_eq_some_iff.mp hi').1
            omega
          obtain ⟨e, hdi, hdy⟩ := dpAll_get d2 hi'
          obtain ⟨o, ho, rfl⟩ := map_at hdi
          have hom := List.mem_of_getElem? ho
          refine ⟨rfl, ?_⟩
          refine ⟨_, rfl, _, rfl, _, rfl, y, .ref p, L, o, l, rfl, dp_mono S _ _ hdy, dp_mono S _ _ dl, hL, hLb, (hok o hom).1, l1, (hok o hom).2.up (by decide), hsz.up (by decide), _, rfl, ?_⟩
          rw [take_snoc ho, List.filter_append, List.map_append]
          cases eb : clashB l o L with
          | true =>
            refine iteT ⟨_, rfl, ws, gD, Nat.lt_of_le_of_lt (by omega : ws.length ≤ 60) (by decide), same_set S hD, _, upd_same, by simp; omega, ?_⟩
            have e2 : [o].filter (fun o => clashB l o L) = [o] := by simp [eb]
            rw [e2]
            exact dpAll_snoc (dpAll_tups (Tups.upd_lst gD) _ _ (noLs_map noL_encL _) hwd) (dp_tups (Tups.upd_lst gD) _ _ (noL_encL _) (dp_mono S _ _ hdy))
          | false =>
            refine iteF ⟨S, ws, gD, by omega, ?_⟩
            have e2 : [o].filter (fun o => clashB l o L) = [] := by simp [eb]
            rw [e2]
            simpa using hwd
        rintro H3 ⟨S3, ws, gD, hwl, hwd⟩
        rw [List.take_of_length_le (by omega)] at hwd
        refine ⟨D, ws, ks.filter fun o => clashB l o L, rfl, SqL.of gD, hwd, alike_looks _, PySem.W.Sortable.tuples fun _ => ⟨_, _, rfl⟩, fun b _ => by rw [depth_look]; decide, fun q qs H4 hq S4 g4 d4 => ?_⟩
        exact ⟨q, qs, rfl, S3.trans S4, g4, by rw [eas]; exact d4⟩
      rintro σ3 H3 ⟨q, qs, rfl, S3, gq, dq⟩
      have S13 := S12.trans S3
      have hql : qs.length = as.length := by rw [dpAll_len dq, List.length_map]
      refine ⟨fun σ' H' => σ' = [some (.int L), some (.int x), some (.ref a), some (.ref hd), some (.int here), some (.int z), some (.ref p), some (.ref q), none] ∧ H' = H3 ∧ as = [], ?_, ?_⟩
      · refine ⟨_, rfl, q, qs, rfl, .inl (SqL.of gq), _, _, rfl, rfl, _, rfl, ?_⟩
        cases as with
        | nil =>
          refine ite2 (fun c => ?_) (fun _ => ⟨rfl, rfl, rfl⟩)
          have c' : (0 : Int) < (qs.length : Nat) := of_decide_eq_true c
          rw [hql] at c'
          simp at c'
        | cons o r =>
          refine ite2 (fun _ => ?_) (fun c => ?_)
          · obtain ⟨v0, hv0, dv0⟩ := dpAll_get' dq (show ((o :: r).map encL)[0]? = some (encL o) from rfl)
            refine ⟨_, rfl, _, rfl, _, _, _, _, rfl, rfl, SqL.of gq, at_of (j := 0) rfl hv0, (by show 2 ≤ sizeLine; decide), fun t1 h1 => ⟨(by show 2 ≤ sizeLine; decide), fun t2 h2 => ?_⟩⟩
            have q1 := same_upd (o := HO.tup [V.ref p, v0]) h1
            have q2 := same_upd (o := HO.tup [V.str "clash", .ref t1]) h2
            have dl3 := dp_mono S3 _ _ dl
            have kk := k _ (.ref t2) ((S13.trans q1).trans q2)
            rw [ef] at kk
            exact kk (.tup (SqT.of upd_same) (.cons (.str _) (.cons (.tup (SqT.of (q2 _ _ upd_same)) (.cons (dp_mono q2 _ _ (dp_mono q1 _ _ dl3)) (.cons (dp_mono q2 _ _ (dp_mono q1 _ _ dv0)) .nil))) .nil)))
          · exact absurd (decide_eq_true (by rw [hql]; simp : (0 : Int) < (qs.length : Nat))) c
      rintro σ4 H4 ⟨rfl, rfl, eas0⟩
      rw [eas0] at ef
      have g4 := S3 _ _ g2
      have d4 := dpAll_mono S3 _ _ d2
      refine ⟨_, rfl, .inl ⟨rfl, _, SqL.of g4⟩, _, rfl, hd, vs, _, rfl, rfl, g4, Nat.lt_of_le_of_lt (by omega : vs.length ≤ 60) (by decide), ?_⟩
      have hmid : heard L hs ("at", here, z) = heard L hs l := by
        unfold heard
        have e2 : home L l = home L ("at", here, z) := by rw [el, ← eh]; exact home_homeD hL _
        rw [e2]
      refine ⟨_, rfl, ks ++ [l], heard L hs ("at", here, z), z, vs ++ [.ref p], _, _, _, rfl, same_set S13 hhd, upd_same, ?_, by simp [hkl], ?_, fun o ho => ?_, hzb, ?_⟩
      · rw [List.map_append]
        exact dpAll_snoc (dpAll_tups (Tups.upd_lst g4) _ _ (noLs_map noL_encL _) d4) (dp_tups (Tups.upd_lst g4) _ _ (noL_encL _) (dp_mono S3 _ _ dl))
      · refine (heard_canon ch ("at", here, z)).iff fun o => ?_
        rw [eh, ← el, List.mem_append, List.mem_singleton]
      · rcases List.mem_append.mp ho with h | h
        · exact hok o h
        · rw [List.mem_singleton] at h
          rw [h]; exact ⟨l1, hsz⟩
      · exact ef
    · rintro σ' H1 ⟨ks, hs, here, vs, u5, u6, u7, rfl, S1, g1, d1, hkl, ch, hok, hh, ef⟩
      rw [List.drop_of_length_le (by rw [List.length_map]; exact Nat.le_refl _)] at ef
      have kk := k H1 .non S1
      have e2 : fol L hs here [] = none := rfl
      rw [ef, e2] at kk
      exact kk .non
end
end KA
namespace KA
open PySem PySem.Spec PyProof.Rows L2 DP
theorem fol_words {L : Int} {l o : Lk} : ∀ (ys : List Int) (hs : List Lk) (x : Int), (∀ h ∈ hs, h.1 = "at") → fol L hs x ys = some (l, o) → l.1 = "at" ∧ o.1 = "at"
  | [], _, _, _, h => by cases h
  | y :: r, hs, x, hh, h => by
    rw [fol_cons] at h
    cases e : hs.find? (fun o => clashB (home L ("at", x, y)) o L) with
    | some q =>
      rw [e] at h
      cases h
      exact ⟨rfl, hh _ (List.mem_of_find?_eq_some e)⟩
    | none =>
      rw [e] at h
      refine fol_words r _ y (fun q hq => ?_) h
      rcases heard_mem.mp hq with h' | h'
      · exact hh q h'
      · rw [h']; rfl
theorem due_ok (L x : Int) (ys : List Int) : (dueD L x ys).canLay0 = true ∧ (dueD L x ys).depth ≤ 64 := by
  unfold dueD
  by_cases c : L < 1
  · rw [if_pos c]
    simp [PyData.canLay0, PyData.canLayAll0, PyData.depth, PyData.depthAll]
    decide +kernel
  · rw [if_neg c]
    cases e : fol L [] x ys with
    | none => simp [PyData.canLay0, PyData.depth]
    | some p =>
      obtain ⟨l, o⟩ := p
      obtain ⟨h1, h2⟩ := fol_words ys [] x (fun _ h => absurd h (by simp)) e
      have e1 := SeqAt.canLay_of_shaped (shaped_look (l := l) (.inl h1))
      have e2 := SeqAt.canLay_of_shaped (shaped_look (l := o) (.inl h2))
      have d1 := depth_look l
      have d2 := depth_look o
      simp only [clashP, PyData.canLay0, PyData.canLayAll0, PyData.depth, PyData.depthAll, e1, e2, d1, d2]
      exact ⟨by decide +kernel, by decide⟩
theorem shaped_due (L x : Int) (ys : List Int) : SeqAt.shaped (dueD L x ys) = true := by
  unfold SeqAt.shaped
  rw [(due_ok L x ys).1, decide_eq_true (due_ok L x ys).2]; rfl
theorem eqv_due (L x : Int) (ys : List Int) : PyData.eqv (dueD L x ys) (dueD L x ys) = true := SeqAt.eqv_refl _ (due_ok L x ys).1
theorem ints_ok (ns : List Int) : PyData.canLayAll0 (ns.map .int) = true ∧ PyData.depthAll (ns.map .int) = 0 := by
  induction ns with
  | nil => exact ⟨rfl, by simp [PyData.depthAll]⟩
  | cons x ns ih =>
    rw [List.map_cons]
    refine ⟨?_, ?_⟩
    · rw [PyData.canLayAll0, ih.1]; rfl
    · rw [PyData.depthAll, ih.2]; simp [PyData.depth]
theorem shaped_il (ns : List Int) : SeqAt.shaped (.list (ns.map .int)) = true := by
  unfold SeqAt.shaped
  rw [PyData.canLay0, (ints_ok ns).1, PyData.depth, (ints_ok ns).2]
  simp
theorem eqv_il (ns : List Int) : PyData.eqv (.list (ns.map .int)) (.list (ns.map .int)) = true := SeqAt.eqv_refl _ (SeqAt.canLay_of_shaped (shaped_il ns))
def spLaw (K : PySem.W.Frag) : Sp := fun vs H Q _ => ∃ (a : Addr) (ns : List Int), vs = [.ref a] ∧ SqL K H a (ns.map V.int) ∧ ns.length ≤ 63 ∧ ∀ H', Q (.bl true) H'
section
variable {P : Program} {w : World} {K : PySem.W.Frag} {mg : Str → Option Value} {base : Heap} {Z : Ad} {Y : AdX}
theorem ok_law (T : Tx K w mg Z) (X : Ex P K mg Y) : FnOk P w K mg base CX0 11 Z.a_law Z.d_law P_law (spLaw K) := by
  refine T.F_law.ok sclaw (fun vs H Q E h => ?_) (fun cdv A outer s H vs Q E hr h => ?_)
  · obtain ⟨a, ns, rfl, _⟩ := h
    rfl
  · obtain ⟨a, ns, rfl, hS, hlen, k⟩ := h
    refine ⟨_, (pss_cons (ps_set (i := 1) sclaw.nd rfl (Or.inl rfl) (pe_call (ok_law_bag T) (hr.mono (by decide)) (by rfl) T.g_law_bag T.F_law_bag.kp T.bb_law_bag .nil pass0 (pa_cons (pv 0) pa_nil)))
      (pss_cons (ps_for PassesOwn.never rfl (pi_range1 (by rfl) T.b_range (pa_cons (pe_op op_add pe_int (pe_callB (call_min2 rfl) (by rfl) T.b_min (by decide +kernel) (pa_cons pe_int (pa_cons (pe_callB (lenK (K := K)) (by rfl) T.b_len (by decide +kernel) (pa_cons (pv 0) pa_nil)) pa_nil)))) pa_nil)) (pg_name (i := 2) sclaw.nd rfl (Or.inl rfl)) (C8.pss_cut (ps_set (i := 3) sclaw.nd rfl (Or.inl rfl) (pe_op op_add pe_int (pe_call (ok_law_draw T) (hr.mono (by decide)) (by rfl) T.g_law_draw T.F_law_draw.kp T.bb_law_draw .nil pass0 (pa_cons (pv 1) (pa_cons pe_int pa_nil)))))
      (C8.pss_cut (ps_par (i := 4) (j := 5) (by rfl) sclaw.nd rfl rfl (by decide) rfl rfl (pa_cons (pe_call (ok_law_table T) (hr.mono (by decide)) (by rfl) T.g_law_table T.F_law_table.kp T.bb_law_table .nil pass0 (pa_cons (pv 1) (pa_cons (pv 3) pa_nil))) (pa_cons (pe_op op_sub (pe_call (ok_law_draw T) (hr.mono (by decide)) (by rfl) T.g_law_draw T.F_law_draw.kp T.bb_law_draw .nil pass0 (pa_cons (pv 1) (pa_cons pe_int pa_nil))) pe_int) pa_nil)) (by rfl))
      (C8.pss_cut (ps_par (i := 6) (j := 7) (by rfl) sclaw.nd rfl rfl (by decide) rfl rfl (pa_cons (pe_lst pa_nil) (pa_cons (pv 5) pa_nil)) (by rfl))
      (pss_cons (ps_for PassesOwn.never rfl (pi_range1 (by rfl) T.b_range (pa_cons (pe_call (ok_law_draw T) (hr.mono (by decide)) (by rfl) T.g_law_draw T.F_law_draw.kp T.bb_law_draw .nil pass0 (pa_cons (pv 1) (pa_cons pe_int pa_nil))) pa_nil)) (pg_name (i := 8) sclaw.nd rfl (Or.inl rfl)) (C8.pss_cut (ps_set (i := 7) sclaw.nd rfl (Or.inl rfl) (pe_call (ok_law_led T) (hr.mono (by decide)) (by rfl) T.g_law_led T.F_law_led.kp T.bb_law_led .nil pass0 (pa_cons (pv 4) (pa_cons (pv 7) pa_nil))))
      (pss_one (ps_expr (pe_bm PySem.F.plainAttrs_list PySem.F.slot_list_append PySem.F.type_list_append mt_append (pv 6) (pa_cons (pv 7) pa_nil))))))
      (C8.pss_cut (ps_if (PW.pt (pw_and (pt_cmpR op_gt (pe_callB (lenK (K := K)) (by rfl) T.b_len (by decide +kernel) (pa_cons (pv 6) pa_nil)) pe_int (nomark _)) (pw_and1 (pt_cmpR op_gt (pe_call (ok_law_draw T) (hr.mono (by decide)) (by rfl) T.g_law_draw T.F_law_draw.kp T.bb_law_draw .nil pass0 (pa_cons (pv 1) (pa_cons pe_int pa_nil))) pe_int (nomark _))))) (pss_cons (ps_set (i := 9) sclaw.nd rfl (Or.inl rfl) (pe_call (ok_law_draw T) (hr.mono (by decide)) (by rfl) T.g_law_draw T.F_law_draw.kp T.bb_law_draw .nil pass0 (pa_cons (pv 1) (pa_cons (pe_callB (lenK (K := K)) (by rfl) T.b_len (by decide +kernel) (pa_cons (pv 6) pa_nil)) pa_nil))))
      (pss_one (ps_asg (pe_op op_add (pe_ix (ixL (K := K)) (pv 6) (pv 9) (fun _ _ => rfl)) (pe_ix (ixT (K := K)) (pe_tup (pa_cons pe_int (pa_cons (pe_un un_neg pe_int) (pa_cons pe_int (pa_cons (pe_un un_neg pe_int) (pa_cons (pv 3) (pa_cons (pe_un un_neg (pv 3)) (pa_cons (pe_op op_pow pe_int pe_int) pa_nil)))))))) (pe_call (ok_law_draw T) (hr.mono (by decide)) (by rfl) T.g_law_draw T.F_law_draw.kp T.bb_law_draw .nil pass0 (pa_cons (pv 1) (pa_cons pe_int pa_nil))) (fun _ _ => rfl))) (pg_sub (pv 6) (pv 9) set_list)))) pss_nil)
      (C8.pss_cut (ps_if (pt_cmpR op_eq (pe_call (ok_law_draw T) (hr.mono (by decide)) (by rfl) T.g_law_draw T.F_law_draw.kp T.bb_law_draw .nil pass0 (pa_cons (pv 1) (pa_cons pe_int pa_nil))) pe_int (nomark _)) (pss_one (ps_set (i := 3) sclaw.nd rfl (Or.inl rfl) (pe_op op_sub pe_int (pe_ix (ixT (K := K)) (pe_tup (pa_cons pe_int (pa_cons pe_int (pa_cons (pe_op op_pow pe_int pe_int) pa_nil)))) (pe_call (ok_law_draw T) (hr.mono (by decide)) (by rfl) T.g_law_draw T.F_law_draw.kp T.bb_law_draw .nil pass0 (pa_cons (pv 1) (pa_cons pe_int pa_nil))) (fun _ _ => rfl))))) pss_nil)
      (C8.pss_cut (ps_set (i := 10) sclaw.nd rfl (Or.inl rfl) (pe_callTy (listK (K := K)) (by rfl) T.b_list (by decide +kernel) (pa_cons (pv 6) pa_nil)))
      (pss_one (ps_if (PW.pt (pw_or (pt_cmpR (neDK (K := K) hr.units) (pe_call (ok_law_caught T X) (hr.mono (by decide)) (by rfl) T.g_law_caught T.F_law_caught.kp T.bb_law_caught .nil pass0 (pa_cons (pv 3) (pa_cons (pv 5) (pa_cons (pv 10) pa_nil)))) (pe_call (ok_law_due T) (hr.mono (by decide)) (by rfl) T.g_law_due T.F_law_due.kp T.bb_law_due .nil pass0 (pa_cons (pv 3) (pa_cons (pv 5) (pa_cons (pv 6) pa_nil)))) (nomark _)) (pw_or1 (pt_cmpR (neDK (K := K) hr.units) (pv 10) (pv 6) (nomark _))))) (pss_one (ps_ret pe_bl)) pss_nil))))))))))
      (pss_one (ps_ret pe_bl)))), ?_⟩
    refine ⟨_, rfl, a, ns, rfl, hS, hlen, fun H0 t g T0 S0 ht hg => ?_⟩
    refine ⟨_, rfl, a, _, rfl, .inl (Same.sqL S0 hS), _, _, rfl, _, _, rfl, rfl, ?_⟩
    obtain ⟨cut, hcut⟩ : ∃ cut, cut = (if ((ns.map V.int).length : Int) < 6 then ((ns.map V.int).length : Int) else 6) := ⟨_, rfl⟩
    have hc0 : 0 ≤ cut := by rw [hcut]; split <;> omega
    have hc4 : cut ≤ 6 := by rw [hcut]; split <;> omega
    refine ⟨2 + cut, by rw [hcut], by omega, by omega, ?_⟩
    refine for_range (n := (2 + cut).toNat) (fun i σ' H' => ∃ (u2 u3 u4 u5 u6 u7 u8 u9 u10 : Option V), σ' = [some (.ref a), some (.ref t), u2, u3, u4, u5, u6, u7, u8, u9, u10] ∧ Tray H' t g (100 * i)) ⟨_, _, _, _, _, _, _, _, _, rfl, T0⟩ ?_ ?_
    rotate_left
    · rintro σ' H' ⟨_, _, _, _, _, _, _, _, _, rfl, _⟩
      exact k H'
    rintro i σ' H1 hi ⟨u2, u3, u4, u5, u6, u7, u8, u9, u10, rfl, T1⟩
    have hn : ∀ m, m ≤ 100 * i + 100 → m < 2 ^ 50 := fun m hm => Nat.lt_of_le_of_lt (by omega : m ≤ 10000) (by decide)
    obtain ⟨N, eN⟩ : ∃ N, N = 100 * i := ⟨_, rfl⟩
    have eN2 : 100 * (i + 1) = N + 100 := by omega
    rw [eN2]
    rw [← eN] at T1 hn
    have h60 : ∀ m, m ≤ N + 100 → m < 2 ^ 60 := fun m hm => Nat.lt_trans (hn m hm) (by decide)
    have e29 : (10 : Int) ^ (29 : Int).toNat = 100000000000000000000000000000 := by decide
    have e40 : (10 : Int) ^ (40 : Int).toNat = 10000000000000000000000000000000000000000 := by decide
    have e100 : (2 : Nat) ^ 100 = 1267650600228229401496703205376 := by decide
    have e140 : (2 : Nat) ^ 140 = 1393796574908163946345982392040522594123776 := by decide
    -- length
    refine ⟨fun σ' H' => ∃ L : Int, σ' = [some (.ref a), some (.ref t), some (.int (0 + (i : Nat))), some (.int L), u4, u5, u6, u7, u8, u9, u10] ∧ 0 < L ∧ L ≤ 9 ∧ Tray H' t g (N + 1), ⟨_, rfl, t, g, N, 9, rfl, T1, by decide, by decide, h60 _ (by omega), fun H2 r r0 r1 T2 k2 => ⟨_, _, rfl, rfl, 1 + r, rfl, by omega, by omega, T2⟩⟩, ?_⟩
    rintro σ2 H2 ⟨L, rfl, hL, hL9, T2⟩
    -- table, first
    refine ⟨fun σ' H' => ∃ (p : Addr) (tb : List Int) (x : Int), σ' = [some (.ref a), some (.ref t), some (.int (0 + (i : Nat))), some (.int L), some (.ref p), some (.int x), u6, u7, u8, u9, u10] ∧ p ≠ t ∧ p ≠ g ∧ Tray H' t g (N + 32) ∧ H' p = some (.lst (tb.map V.int)) ∧ tb.length = L.toNat ∧ (∀ z ∈ tb, z.natAbs ≤ 1000) ∧ x.natAbs ≤ 20, ?_, ?_⟩
    · refine ⟨_, rfl, _, rfl, t, g, N + 1, L, rfl, T2, hn _ (by omega), hL, hL9, fun H3 p tb hp A3 g3 htl htb => ?_⟩
      obtain ⟨pt, pg⟩ := T2.at_ne hp
      refine ⟨_, rfl, t, g, N + 1 + 30, 40, rfl, A3.T, by decide, by decide, h60 _ (by omega), fun H4 r r0 r1 T4 k4 => ?_⟩
      exact ⟨_, _, rfl, rfl, _, _, rfl, p, tb, r - 20, rfl, pt, pg, T4.up (by omega), k4 _ _ g3 pt pg, htl, htb, by omega⟩
    rintro σ3 H3 ⟨p, tb, x, rfl, pt, pg, T3, g3, htl, htb, hx⟩
    -- leads, x
    refine ⟨fun σ' H' => ∃ (F : Addr), σ' = [some (.ref a), some (.ref t), some (.int (0 + (i : Nat))), some (.int L), some (.ref p), some (.int x), some (.ref F), some (.int x), u8, u9, u10] ∧ F ≠ t ∧ F ≠ g ∧ p ≠ F ∧ Tray H' t g (N + 32) ∧ H' p = some (.lst (tb.map V.int)) ∧ H' F = some (.lst []), ?_, ?_⟩
    · refine ⟨(by show 0 ≤ sizeLine; decide), fun F hF => ⟨_, rfl, _, _, rfl, ?_⟩⟩
      obtain ⟨Ft, Fg⟩ := T3.at_ne hF
      have S := same_upd (o := HO.lst ([] : List V)) hF
      exact ⟨F, rfl, Ft, Fg, ne_of_none g3 hF, T3.same S, S _ _ g3, upd_same⟩
    rintro σ4 H4 ⟨F, rfl, Ft, Fg, pF, T4, g4, gF4⟩
    refine ⟨_, rfl, t, g, N + 32, 16, rfl, T4, by decide, by decide, h60 _ (by omega), fun H5 c c0 c1 T5 k5 => ?_⟩
    refine ⟨c, rfl, by omega, by omega, ?_⟩
    refine for_range (lo := 0) (n := c.toNat) (fun j σ' H' => ∃ (y : Int) (ys : List Int) (u8 : Option V), σ' = [some (.ref a), some (.ref t), some (.int (0 + (i : Nat))), some (.int L), some (.ref p), some (.int x), some (.ref F), some (.int y), u8, u9, u10] ∧ Tray H' t g (N + 33) ∧ H' p = some (.lst (tb.map V.int)) ∧ H' F = some (.lst (ys.map V.int)) ∧ ys.length = j ∧ y.natAbs ≤ 20 + 1010 * j ∧ ∀ z ∈ ys, z.natAbs ≤ 20000) ⟨x, [], _, rfl, T5, k5 _ _ g4 pt pg, k5 _ _ gF4 Ft Fg, rfl, by omega, fun _ h => absurd h (by simp)⟩ ?_ ?_
    · rintro j σ' H6 hj ⟨y, ys, u8, rfl, T6, g6, gF6, hyl, hy, hys⟩
      have hj16 : j < 16 := by omega
      refine ⟨fun σ' H' => ∃ y2 : Int, σ' = [some (.ref a), some (.ref t), some (.int (0 + (i : Nat))), some (.int L), some (.ref p), some (.int x), some (.ref F), some (.int y2), some (.int (0 + (j : Nat))), u9, u10] ∧ H' = H6 ∧ y2.natAbs ≤ y.natAbs + 1010, ?_, ?_⟩
      · exact ⟨_, rfl, _, rfl, p, tb, y, rfl, g6, by omega, by omega, htb, Nat.lt_of_le_of_lt (by omega : y.natAbs ≤ 20000) (by decide), fun y2 h2 => ⟨y2, rfl, rfl, h2⟩⟩
      rintro σ7 H7 ⟨y2, rfl, rfl, hy2⟩
      refine ⟨_, rfl, .inl ⟨rfl, _, SqL.of gF6⟩, _, rfl, F, _, _, rfl, rfl, gF6, Nat.lt_of_le_of_lt (by rw [List.length_map]; omega : _ ≤ 60) (by decide), ?_⟩
      have T8 : Tray (upd H7 F (.lst (ys.map V.int ++ [.int y2]))) t g (N + 33) := by
        obtain ⟨⟨gs, f, c', h1, h2, rr⟩, hne⟩ := T6
        exact ⟨⟨gs, f, c', (upd_ne (Ne.symm Ft)).trans h1, (upd_ne (Ne.symm Fg)).trans h2, rr⟩, hne⟩
      refine ⟨y2, ys ++ [y2], _, rfl, T8, (upd_ne pF).trans g6, by rw [map_snoc]; exact upd_same, by simp [hyl], by omega, fun z hz => ?_⟩
      rcases List.mem_append.mp hz with h | h
      · exact hys z h
      · rw [List.mem_singleton] at h; rw [h]; omega
    rintro σ6 H6 ⟨y, ys, u8, rfl, T6, g6, gF6, hyl, hy, hys⟩
    have hyl16 : ys.length ≤ 15 := by omega
    clear T1 T2 T3 T4 T5 g3 g4 gF4 k5
    -- one lead otherwise
    refine ⟨fun σ' H' => ∃ (zs : List Int) (u9 : Option V), σ' = [some (.ref a), some (.ref t), some (.int (0 + (i : Nat))), some (.int L), some (.ref p), some (.int x), some (.ref F), some (.int y), u8, u9, u10] ∧ Tray H' t g (N + 36) ∧ H' F = some (.lst (zs.map V.int)) ∧ zs.length ≤ 15 ∧ ∀ z ∈ zs, z.natAbs < 2 ^ 140, ?_, ?_⟩
    · have small : ∀ z ∈ ys, z.natAbs < 2 ^ 140 := fun z hz => Nat.lt_of_le_of_lt (hys z hz) (by decide)
      refine ⟨_, rfl, F, _, rfl, .inl (SqL.of gF6), _, _, rfl, rfl, _, rfl, ite2 (fun c1 => ?_) (fun _ => ?_)⟩
      · have c1' : (0 : Int) < ((ys.map V.int).length : Nat) := of_decide_eq_true c1
        rw [List.length_map] at c1'
        refine ⟨_, rfl, t, g, N + 33, 4, rfl, T6, by decide, by decide, h60 _ (by omega), fun H7 r r0 r1 T7 k7 => ?_⟩
        have gF7 := k7 _ _ gF6 Ft Fg
        refine ⟨_, _, rfl, rfl, _, rfl, ite2 (fun _ => ?_) (fun _ => ?_)⟩
        · refine ⟨_, rfl, _, rfl, F, _, rfl, .inl (SqL.of gF7), t, g, N + 34, _, rfl, T7, by rw [List.length_map]; exact c1', by rw [List.length_map]; exact Nat.lt_of_le_of_lt (by omega : ((ys.length : Nat) : Int).natAbs ≤ 15) (by decide), h60 _ (by omega), fun H8 e e0 e1 T8 k8 => ?_⟩
          rw [List.length_map] at e1
          have gF8 := k8 _ _ gF7 Ft Fg
          obtain ⟨z, hz⟩ : ∃ z, ys[e.toNat]? = some z := ⟨_, List.getElem?_eq_getElem (by omega)⟩
          have hzb := hys z (List.mem_of_getElem? hz)
          have hat : atI (ys.map V.int) e = some (.int z) := by
            refine at_of (j := e.toNat) (by omega) ?_
            rw [List.getElem?_map, hz]; rfl
          refine ⟨_, rfl, _, rfl, _, _, _, _, rfl, rfl, SqL.of gF8, hat, ?_⟩
          refine ⟨_, rfl, _, rfl, _, rfl, _, rfl, _, rfl, _, _, rfl, rfl, ⟨by decide, by decide, by decide⟩, (by show 7 ≤ sizeLine; decide), fun tq htq => ?_⟩
          obtain ⟨tqt, tqg⟩ := T8.at_ne htq
          have Sq := same_upd (o := HO.tup [V.int 1, .int (-1), .int 2, .int (-3), .int L, .int (-L), .int ((10 : Int) ^ (40 : Int).toNat)]) htq
          refine ⟨_, rfl, t, g, N + 35, 7, rfl, T8.same Sq, by decide, by decide, h60 _ (by omega), fun H9 f f0 f1 T9 k9 => ?_⟩
          obtain ⟨b, hb, hbb⟩ : ∃ b : Int, atI [V.int 1, .int (-1), .int 2, .int (-3), .int L, .int (-L), .int ((10 : Int) ^ (40 : Int).toNat)] f = some (.int b) ∧ b.natAbs ≤ 10000000000000000000000000000000000000000 := by
            have : f = 0 ∨ f = 1 ∨ f = 2 ∨ f = 3 ∨ f = 4 ∨ f = 5 ∨ f = 6 := by omega
            rcases this with q | q | q | q | q | q | q <;> rw [q]
            · exact ⟨1, rfl, by decide⟩
            · exact ⟨-1, rfl, by decide⟩
            · exact ⟨2, rfl, by decide⟩
            · exact ⟨-3, rfl, by decide⟩
            · exact ⟨L, rfl, by omega⟩
            · exact ⟨-L, rfl, by omega⟩
            · exact ⟨_, rfl, by rw [e40]; decide⟩
          have gF9 := k9 _ _ (Sq _ _ gF8) Ft Fg
          refine ⟨tq, _, _, _, rfl, rfl, SqT.of (k9 _ _ upd_same tqt tqg), hb, _, _, rfl, rfl, ?_⟩
          have hset : (ys.map V.int).set e.toNat (.int (z + b)) = (ys.set e.toNat (z + b)).map V.int := by rw [List.map_set]
          have hix : ixN (ys.map V.int).length e = some e.toNat := by
            unfold ixN
            rw [List.length_map, if_pos (by omega)]
            try rw [if_pos (by omega)]
          refine ⟨_, rfl, _, rfl, _, _, _, e.toNat, rfl, rfl, gF9, hix, ?_⟩
          have T10 : Tray (upd H9 F (.lst ((ys.map V.int).set e.toNat (.int (z + b))))) t g (N + 36) := by
            obtain ⟨⟨gs, f', c', h1, h2, rr⟩, hne⟩ := T9
            exact ⟨⟨gs, f', c', (upd_ne (Ne.symm Ft)).trans h1, (upd_ne (Ne.symm Fg)).trans h2, rr⟩, hne⟩
          refine ⟨ys.set e.toNat (z + b), _, rfl, T10, by rw [← hset]; exact upd_same, by rw [List.length_set]; omega, fun v hv => ?_⟩
          rcases List.mem_or_eq_of_mem_set hv with h | h
          · exact small v h
          · rw [h, e140]; omega
        · exact ⟨ys, _, rfl, T7.up (by omega), gF7, hyl16, small⟩
      · exact ⟨ys, _, rfl, T6.up (by omega), gF6, hyl16, small⟩
    rintro σ7 H7 ⟨zs, u9, rfl, T7, gF7, hzl, hzs⟩
    clear T6 g6 gF6 hys hyl
    -- a length below 1
    refine ⟨fun σ' H' => ∃ M : Int, σ' = [some (.ref a), some (.ref t), some (.int (0 + (i : Nat))), some (.int M), some (.ref p), some (.int x), some (.ref F), some (.int y), u8, u9, u10] ∧ M.natAbs < 2 ^ 100 ∧ Tray H' t g (N + 38) ∧ H' F = some (.lst (zs.map V.int)), ?_, ?_⟩
    · refine ⟨_, rfl, t, g, N + 36, 8, rfl, T7, by decide, by decide, h60 _ (by omega), fun H8 r r0 r1 T8 k8 => ?_⟩
      have gF8 := k8 _ _ gF7 Ft Fg
      refine ⟨rfl, _, rfl, ite2 (fun _ => ?_) (fun _ => ?_)⟩
      · refine ⟨_, _, rfl, rfl, ⟨by decide, by decide, by decide⟩, (by show 3 ≤ sizeLine; decide), fun tq htq => ?_⟩
        obtain ⟨tqt, tqg⟩ := T8.at_ne htq
        have Sq := same_upd (o := HO.tup [V.int 0, .int 1, .int ((10 : Int) ^ (29 : Int).toNat)]) htq
        refine ⟨_, rfl, t, g, N + 37, 3, rfl, T8.same Sq, by decide, by decide, h60 _ (by omega), fun H9 f f0 f1 T9 k9 => ?_⟩
        obtain ⟨b, hb, hbb⟩ : ∃ b : Int, atI [V.int 0, .int 1, .int ((10 : Int) ^ (29 : Int).toNat)] f = some (.int b) ∧ b.natAbs ≤ 100000000000000000000000000000 := by
          have : f = 0 ∨ f = 1 ∨ f = 2 := by omega
          rcases this with q | q | q <;> rw [q]
          · exact ⟨0, rfl, by decide⟩
          · exact ⟨1, rfl, by decide⟩
          · exact ⟨_, rfl, by rw [e29]; decide⟩
        refine ⟨tq, _, _, _, rfl, rfl, SqT.of (k9 _ _ upd_same tqt tqg), hb, _, _, rfl, rfl, 0 - b, rfl, by rw [e100]; omega, T9.up (by omega), k9 _ _ (Sq _ _ gF8) Ft Fg⟩
      · exact ⟨L, rfl, Nat.lt_of_le_of_lt (by omega : L.natAbs ≤ 9) (by decide), T8.up (by omega), gF8⟩
    rintro σ8 H8 ⟨M, rfl, hM, T8, gF8⟩
    clear T7 gF7
    -- handed
    refine ⟨fun σ' H' => ∃ hd, σ' = [some (.ref a), some (.ref t), some (.int (0 + (i : Nat))), some (.int M), some (.ref p), some (.int x), some (.ref F), some (.int y), u8, u9, some (.ref hd)] ∧ Tray H' t g (N + 38) ∧ H' F = some (.lst (zs.map V.int)) ∧ H' hd = some (.lst (zs.map V.int)), ⟨_, rfl, F, _, rfl, .inl (SqL.of gF8), fun hd hhd => ⟨hd, rfl, T8.same (same_upd hhd), same_upd hhd _ _ gF8, upd_same⟩⟩, ?_⟩
    rintro σ9 H9 ⟨hd, rfl, T9, gF9, gh9⟩
    have hF : FolOk M x zs := ⟨hM, Nat.lt_of_le_of_lt hx (by decide), by omega, fun z hz => lt_up (hzs z hz) (by decide)⟩
    refine ⟨_, rfl, _, rfl, _, rfl, hd, M, x, zs, rfl, SqL.of gh9, hF, fun H10 r1 S10 h1 => ?_⟩
    refine ⟨_, rfl, _, rfl, _, rfl, F, M, x, zs, rfl, SqL.of (S10 _ _ gF9), hF, fun H11 r2 S11 h2 => ?_⟩
    refine ⟨_, _, dp_mono S11 _ _ h1, h2, shaped_due _ _ _, shaped_due _ _ _, _, rfl, ?_⟩
    rw [eqv_due]
    refine iteF ⟨_, rfl, _, rfl, .list (zs.map .int), .list (zs.map .int), .lst (SqL.of (S11 _ _ (S10 _ _ gh9))) (dpAll_ints zs), .lst (SqL.of (S11 _ _ (S10 _ _ gF9))) (dpAll_ints zs), shaped_il _, shaped_il _, _, rfl, ?_⟩
    rw [eqv_il]
    exact iteF ⟨_, _, _, _, _, _, _, _, _, rfl, ((T9.same S10).same S11).up (by omega)⟩
end
end KA
namespace KA
open PySem PySem.Spec PyProof.Rows L2 DP
theorem g11_of {α : Type} : ∀ {us ws : List α}, (g11 us ws).length = 2 → ∃ a b, us = [a] ∧ ws = [b]
  | [a], [b], _ => ⟨a, b, rfl, rfl⟩
  | [], _, h => nomatch (show (0 : Nat) = 2 from h)
  | [_], [], h => nomatch (show (0 : Nat) = 2 from h)
  | [_], _ :: _ :: _, h => nomatch (show (0 : Nat) = 2 from h)
  | _ :: _ :: _, _, h => nomatch (show (0 : Nat) = 2 from h)
theorem sqt2 {K : PySem.W.Frag} {H : Hp} {t : Addr} {x y : Str} {o : Option Addr} {u v : Tok} {n : Nat} {s : Array (Option Value)} (l : K.lookup t = some ⟨.type "tuple", o, .seq #[.str x u, .str y v] n, s⟩) : SqT K H t [.str x, .str y] :=
  .inr ⟨_, _, n, l, rfl, rfl, (by show 2 ≤ sizeLine; decide), .cons ⟨u, rfl⟩ (.cons ⟨v, rfl⟩ .nil)⟩
theorem sqt3 {K : PySem.W.Frag} {H : Hp} {t : Addr} {x y z : Str} {o : Option Addr} {u v q : Tok} {n : Nat} {s : Array (Option Value)} (l : K.lookup t = some ⟨.type "tuple", o, .seq #[.str x u, .str y v, .str z q] n, s⟩) : SqT K H t [.str x, .str y, .str z] :=
  .inr ⟨_, _, n, l, rfl, rfl, (by show 3 ≤ sizeLine; decide), .cons ⟨u, rfl⟩ (.cons ⟨v, rfl⟩ (.cons ⟨q, rfl⟩ .nil))⟩
theorem all_mk {l : PySem.W.OpenLaw} {w : World} {K : PySem.W.Frag} {h : Heap} {mg : Str → Option Value} {fa : Addr} (X : K.In h) (G : h.Ns mainGlobals mg) (hfa : mg "law" = some (.ref fa))
    {C : Addr}
    {C_Walk : Addr}
    {f0 : Addr} {od0 an0 : Option Addr} {sl0 : Array (Option Value)} {oc0 kV0 dc0 pm0 cd0 ct0 : Value}
    {f1 : Addr} {od1 an1 : Option Addr} {sl1 : Array (Option Value)} {oc1 kV1 dc1 pm1 cd1 ct1 : Value}
    {f2 : Addr} {od2 an2 : Option Addr} {sl2 : Array (Option Value)} {oc2 kV2 dc2 pm2 cd2 ct2 : Value}
    {f3 : Addr} {od3 an3 : Option Addr} {sl3 : Array (Option Value)} {oc3 kV3 dc3 pm3 cd3 ct3 : Value}
    {f4 : Addr} {od4 an4 : Option Addr} {sl4 : Array (Option Value)} {oc4 kV4 dc4 pm4 cd4 ct4 : Value}
    {f5 : Addr} {od5 an5 : Option Addr} {sl5 : Array (Option Value)} {oc5 kV5 dc5 pm5 cd5 ct5 : Value}
    {f6 : Addr} {od6 an6 : Option Addr} {sl6 : Array (Option Value)} {oc6 kV6 dc6 pm6 cd6 ct6 : Value}
    {f7 : Addr} {od7 an7 : Option Addr} {sl7 : Array (Option Value)} {oc7 kV7 dc7 pm7 cd7 ct7 : Value}
    {f8 : Addr} {od8 an8 : Option Addr} {sl8 : Array (Option Value)} {oc8 kV8 dc8 pm8 cd8 ct8 : Value}
    {f9 : Addr} {od9 an9 : Option Addr} {sl9 : Array (Option Value)} {oc9 kV9 dc9 pm9 cd9 ct9 : Value}
    {f10 : Addr} {od10 an10 : Option Addr} {sl10 : Array (Option Value)} {oc10 kV10 dc10 pm10 cd10 ct10 : Value}
    {f11 : Addr} {od11 an11 : Option Addr} {sl11 : Array (Option Value)} {oc11 kV11 dc11 pm11 cd11 ct11 : Value}
    {f12 : Addr} {od12 an12 : Option Addr} {sl12 : Array (Option Value)} {oc12 kV12 dc12 pm12 cd12 ct12 : Value}
    {f13 : Addr} {od13 an13 : Option Addr} {sl13 : Array (Option Value)} {oc13 kV13 dc13 pm13 cd13 ct13 : Value}
    {f14 : Addr} {od14 an14 : Option Addr} {sl14 : Array (Option Value)} {oc14 kV14 dc14 pm14 cd14 ct14 : Value}
    {f15 : Addr} {od15 an15 : Option Addr} {sl15 : Array (Option Value)} {oc15 kV15 dc15 pm15 cd15 ct15 : Value}
    {f16 : Addr} {od16 an16 : Option Addr} {sl16 : Array (Option Value)} {oc16 kV16 dc16 pm16 cd16 ct16 : Value}
    {f17 : Addr} {od17 an17 : Option Addr} {sl17 : Array (Option Value)} {oc17 kV17 dc17 pm17 cd17 ct17 : Value}
    {f18 : Addr} {od18 an18 : Option Addr} {sl18 : Array (Option Value)} {oc18 kV18 dc18 pm18 cd18 ct18 : Value}
    {f19 : Addr} {od19 an19 : Option Addr} {sl19 : Array (Option Value)} {oc19 kV19 dc19 pm19 cd19 ct19 : Value}
    {f20 : Addr} {od20 an20 : Option Addr} {sl20 : Array (Option Value)} {oc20 kV20 dc20 pm20 cd20 ct20 : Value}
    {f21 : Addr} {od21 an21 : Option Addr} {sl21 : Array (Option Value)} {oc21 kV21 dc21 pm21 cd21 ct21 : Value}
    {f22 : Addr} {od22 an22 : Option Addr} {sl22 : Array (Option Value)} {oc22 kV22 dc22 pm22 cd22 ct22 : Value}
    {f23 : Addr} {od23 an23 : Option Addr} {sl23 : Array (Option Value)} {oc23 kV23 dc23 pm23 cd23 ct23 : Value}
    {f24 : Addr} {od24 an24 : Option Addr} {sl24 : Array (Option Value)} {oc24 kV24 dc24 pm24 cd24 ct24 : Value}
    {f25 : Addr} {od25 an25 : Option Addr} {sl25 : Array (Option Value)} {oc25 kV25 dc25 pm25 cd25 ct25 : Value}
    {f26 : Addr} {od26 an26 : Option Addr} {sl26 : Array (Option Value)} {oc26 kV26 dc26 pm26 cd26 ct26 : Value}
    {f27 : Addr} {od27 an27 : Option Addr} {sl27 : Array (Option Value)} {oc27 kV27 dc27 pm27 cd27 ct27 : Value}
    {f28 : Addr} {od28 an28 : Option Addr} {sl28 : Array (Option Value)} {oc28 kV28 dc28 pm28 cd28 ct28 : Value}
    {f29 : Addr} {od29 an29 : Option Addr} {sl29 : Array (Option Value)} {oc29 kV29 dc29 pm29 cd29 ct29 : Value}
    {f30 : Addr} {od30 an30 : Option Addr} {sl30 : Array (Option Value)} {oc30 kV30 dc30 pm30 cd30 ct30 : Value}
    {tSLOW : Tok}
    {tFAST : Tok}
    {aW aL tS tF : Addr} {es : Array DictEntry} {nW n1 n2 n3 : Nat} {o1 o2 o3 : Option Addr} {s1 s2 s3 : Array (Option Value)} {u1 u2 u3 u4 u5 u6 u7 : Tok}
    {xC0 xF0 xN0 xcc0 xcda0 : Addr} {xnm0 xq0 xfile0 : Str} {xbs0 xbm0 : List Value} {xsn0 : List Str} {xsub0 : List Value} {xab0 : Bool} {xcol0 : Option Bool} {xdd0 xod0 xan0 xcld0 xcdd0 : Option Addr} {xk00 xk10 xk20 xk30 xk50 : Option Value} {xoc0 xdoc0 xpm0 xct0 xcl0 xccl0 : Value} {xosl0 xcsl0 xccs0 : Array (Option Value)} {xvs0 : Array Value} {xtf0 : Tok}
    {xC1 xF1 xN1 xcc1 xcda1 : Addr} {xnm1 xq1 xfile1 : Str} {xbs1 xbm1 : List Value} {xsn1 : List Str} {xsub1 : List Value} {xab1 : Bool} {xcol1 : Option Bool} {xdd1 xod1 xan1 xcld1 xcdd1 : Option Addr} {xk01 xk11 xk21 xk31 xk51 : Option Value} {xoc1 xdoc1 xpm1 xct1 xcl1 xccl1 : Value} {xosl1 xcsl1 xccs1 : Array (Option Value)} {xvs1 : Array Value} {xtf1 : Tok}
    {yC_DialError : Addr}
    {yC_NoBottom : Addr}
    {yC_NoLook : Addr}
    {yC_NoRing : Addr}
    {yC_NoRound : Addr}
    {yC_NoSide : Addr}
    {yC_NoSteps : Addr}
    {yC_NoText : Addr}
    {yC_NoUses : Addr}
    {yC_NoWord : Addr}
    (aC : PySem.W.nsIn K mainGlobals "Dark" = some (some (.ref C)))
    (aC_Walk : PySem.W.nsIn K mainGlobals "Walk" = some (some (.ref C_Walk)))
    (a0 : PySem.W.nsIn K mainGlobals "_law_bag" = some (some (.ref f0)))
    (l0 : K.lookup f0 = some ⟨oc0, od0, .func (PySem.W.fnOf "_law_bag" "_law_bag" (defArgs slaw_bag) (defBody slaw_bag) (defScope slaw_bag) .none kV0 dc0 pm0 an0 cd0 ct0), sl0⟩)
    (c0 : PySem.W.codeIn K cd0 "_law_bag" = true)
    (k0 : PySem.W.keepIn K (.ref f0) = true)
    (a1 : PySem.W.nsIn K mainGlobals "_law_draw" = some (some (.ref f1)))
    (l1 : K.lookup f1 = some ⟨oc1, od1, .func (PySem.W.fnOf "_law_draw" "_law_draw" (defArgs slaw_draw) (defBody slaw_draw) (defScope slaw_draw) .none kV1 dc1 pm1 an1 cd1 ct1), sl1⟩)
    (c1 : PySem.W.codeIn K cd1 "_law_draw" = true)
    (k1 : PySem.W.keepIn K (.ref f1) = true)
    (a2 : PySem.W.nsIn K mainGlobals "_law_table" = some (some (.ref f2)))
    (l2 : K.lookup f2 = some ⟨oc2, od2, .func (PySem.W.fnOf "_law_table" "_law_table" (defArgs slaw_table) (defBody slaw_table) (defScope slaw_table) .none kV2 dc2 pm2 an2 cd2 ct2), sl2⟩)
    (c2 : PySem.W.codeIn K cd2 "_law_table" = true)
    (k2 : PySem.W.keepIn K (.ref f2) = true)
    (a3 : PySem.W.nsIn K mainGlobals "_law_led" = some (some (.ref f3)))
    (l3 : K.lookup f3 = some ⟨oc3, od3, .func (PySem.W.fnOf "_law_led" "_law_led" (defArgs slaw_led) (defBody slaw_led) (defScope slaw_led) .none kV3 dc3 pm3 an3 cd3 ct3), sl3⟩)
    (c3 : PySem.W.codeIn K cd3 "_law_led" = true)
    (k3 : PySem.W.keepIn K (.ref f3) = true)
    (a4 : PySem.W.nsIn K mainGlobals "_law_caught" = some (some (.ref f4)))
    (l4 : K.lookup f4 = some ⟨oc4, od4, .func (PySem.W.fnOf "_law_caught" "_law_caught" (defArgs slaw_caught) (defBody slaw_caught) (defScope slaw_caught) .none kV4 dc4 pm4 an4 cd4 ct4), sl4⟩)
    (c4 : PySem.W.codeIn K cd4 "_law_caught" = true)
    (k4 : PySem.W.keepIn K (.ref f4) = true)
    (a5 : PySem.W.nsIn K mainGlobals "_law_clash" = some (some (.ref f5)))
    (l5 : K.lookup f5 = some ⟨oc5, od5, .func (PySem.W.fnOf "_law_clash" "_law_clash" (defArgs slaw_clash) (defBody slaw_clash) (defScope slaw_clash) .none kV5 dc5 pm5 an5 cd5 ct5), sl5⟩)
    (c5 : PySem.W.codeIn K cd5 "_law_clash" = true)
    (k5 : PySem.W.keepIn K (.ref f5) = true)
    (a6 : PySem.W.nsIn K mainGlobals "_law_due" = some (some (.ref f6)))
    (l6 : K.lookup f6 = some ⟨oc6, od6, .func (PySem.W.fnOf "_law_due" "_law_due" (defArgs slaw_due) (defBody slaw_due) (defScope slaw_due) .none kV6 dc6 pm6 an6 cd6 ct6), sl6⟩)
    (c6 : PySem.W.codeIn K cd6 "_law_due" = true)
    (k6 : PySem.W.keepIn K (.ref f6) = true)
    (a7 : PySem.W.nsIn K mainGlobals "side_looks" = some (some (.ref f7)))
    (l7 : K.lookup f7 = some ⟨oc7, od7, .func (PySem.W.fnOf "side_looks" "side_looks" (defArgs sside_looks) (defBody sside_looks) (defScope sside_looks) .none kV7 dc7 pm7 an7 cd7 ct7), sl7⟩)
    (c7 : PySem.W.codeIn K cd7 "side_looks" = true)
    (k7 : PySem.W.keepIn K (.ref f7) = true)
    (a8 : PySem.W.nsIn K mainGlobals "round_looks" = some (some (.ref f8)))
    (l8 : K.lookup f8 = some ⟨oc8, od8, .func (PySem.W.fnOf "round_looks" "round_looks" (defArgs sround_looks) (defBody sround_looks) (defScope sround_looks) .none kV8 dc8 pm8 an8 cd8 ct8), sl8⟩)
    (c8 : PySem.W.codeIn K cd8 "round_looks" = true)
    (k8 : PySem.W.keepIn K (.ref f8) = true)
    (a9 : PySem.W.nsIn K mainGlobals "place_by" = some (some (.ref f9)))
    (l9 : K.lookup f9 = some ⟨oc9, od9, .func (PySem.W.fnOf "place_by" "place_by" (defArgs splace_by) (defBody splace_by) (defScope splace_by) .none kV9 dc9 pm9 an9 cd9 ct9), sl9⟩)
    (c9 : PySem.W.codeIn K cd9 "place_by" = true)
    (k9 : PySem.W.keepIn K (.ref f9) = true)
    (a10 : PySem.W.nsIn K mainGlobals "best_step" = some (some (.ref f10)))
    (l10 : K.lookup f10 = some ⟨oc10, od10, .func (PySem.W.fnOf "best_step" "best_step" (defArgs sbest_step) (defBody sbest_step) (defScope sbest_step) .none kV10 dc10 pm10 an10 cd10 ct10), sl10⟩)
    (c10 : PySem.W.codeIn K cd10 "best_step" = true)
    (k10 : PySem.W.keepIn K (.ref f10) = true)
    (a11 : PySem.W.findIn K (.ref C_Walk) "__init__" = some (some (.ref f11)))
    (i11 : PySem.W.isFn K (.ref f11) = true)
    (l11 : K.lookup f11 = some ⟨oc11, od11, .func (PySem.W.fnOf "__init__" "Walk.__init__" (defArgs sWalk_init) (defBody sWalk_init) (defScope sWalk_init) .none kV11 dc11 pm11 an11 cd11 ct11), sl11⟩)
    (c11 : PySem.W.codeIn K cd11 "Walk.__init__" = true)
    (k11 : PySem.W.keepIn K (.ref f11) = true)
    (a12 : PySem.W.findIn K (.ref C_Walk) "_follow" = some (some (.ref f12)))
    (i12 : PySem.W.isFn K (.ref f12) = true)
    (l12 : K.lookup f12 = some ⟨oc12, od12, .func (PySem.W.fnOf "_follow" "Walk._follow" (defArgs sWalkfollow) (defBody sWalkfollow) (defScope sWalkfollow) .none kV12 dc12 pm12 an12 cd12 ct12), sl12⟩)
    (c12 : PySem.W.codeIn K cd12 "Walk._follow" = true)
    (k12 : PySem.W.keepIn K (.ref f12) = true)
    (a13 : PySem.W.findIn K (.ref C_Walk) "period" = some (some (.ref f13)))
    (i13 : PySem.W.isFn K (.ref f13) = true)
    (l13 : K.lookup f13 = some ⟨oc13, od13, .func (PySem.W.fnOf "period" "Walk.period" (defArgs sWalk_period) (defBody sWalk_period) (defScope sWalk_period) .none kV13 dc13 pm13 an13 cd13 ct13), sl13⟩)
    (c13 : PySem.W.codeIn K cd13 "Walk.period" = true)
    (k13 : PySem.W.keepIn K (.ref f13) = true)
    (a14 : PySem.W.findIn K (.ref C_Walk) "climb" = some (some (.ref f14)))
    (i14 : PySem.W.isFn K (.ref f14) = true)
    (l14 : K.lookup f14 = some ⟨oc14, od14, .func (PySem.W.fnOf "climb" "Walk.climb" (defArgs sWalk_climb) (defBody sWalk_climb) (defScope sWalk_climb) .none kV14 dc14 pm14 an14 cd14 ct14), sl14⟩)
    (c14 : PySem.W.codeIn K cd14 "Walk.climb" = true)
    (k14 : PySem.W.keepIn K (.ref f14) = true)
    (a15 : PySem.W.findIn K (.ref C_Walk) "behind" = some (some (.ref f15)))
    (i15 : PySem.W.isFn K (.ref f15) = true)
    (l15 : K.lookup f15 = some ⟨oc15, od15, .func (PySem.W.fnOf "behind" "Walk.behind" (defArgs sWalk_behind) (defBody sWalk_behind) (defScope sWalk_behind) .none kV15 dc15 pm15 an15 cd15 ct15), sl15⟩)
    (c15 : PySem.W.codeIn K cd15 "Walk.behind" = true)
    (k15 : PySem.W.keepIn K (.ref f15) = true)
    (a16 : PySem.W.nsIn K mainGlobals "check_round" = some (some (.ref f16)))
    (l16 : K.lookup f16 = some ⟨oc16, od16, .func (PySem.W.fnOf "check_round" "check_round" (defArgs scheck_round) (defBody scheck_round) (defScope scheck_round) .none kV16 dc16 pm16 an16 cd16 ct16), sl16⟩)
    (c16 : PySem.W.codeIn K cd16 "check_round" = true)
    (k16 : PySem.W.keepIn K (.ref f16) = true)
    (a17 : PySem.W.nsIn K mainGlobals "lowest" = some (some (.ref f17)))
    (l17 : K.lookup f17 = some ⟨oc17, od17, .func (PySem.W.fnOf "lowest" "lowest" (defArgs slowest) (defBody slowest) (defScope slowest) .none kV17 dc17 pm17 an17 cd17 ct17), sl17⟩)
    (c17 : PySem.W.codeIn K cd17 "lowest" = true)
    (k17 : PySem.W.keepIn K (.ref f17) = true)
    (a18 : PySem.W.nsIn K mainGlobals "side_pace" = some (some (.ref f18)))
    (l18 : K.lookup f18 = some ⟨oc18, od18, .func (PySem.W.fnOf "side_pace" "side_pace" (defArgs sside_pace) (defBody sside_pace) (defScope sside_pace) .none kV18 dc18 pm18 an18 cd18 ct18), sl18⟩)
    (c18 : PySem.W.codeIn K cd18 "side_pace" = true)
    (k18 : PySem.W.keepIn K (.ref f18) = true)
    (a19 : PySem.W.nsIn K mainGlobals "paces" = some (some (.ref f19)))
    (l19 : K.lookup f19 = some ⟨oc19, od19, .func (PySem.W.fnOf "paces" "paces" (defArgs spaces) (defBody spaces) (defScope spaces) .none kV19 dc19 pm19 an19 cd19 ct19), sl19⟩)
    (c19 : PySem.W.codeIn K cd19 "paces" = true)
    (k19 : PySem.W.keepIn K (.ref f19) = true)
    (a20 : PySem.W.nsIn K mainGlobals "followed" = some (some (.ref f20)))
    (l20 : K.lookup f20 = some ⟨oc20, od20, .func (PySem.W.fnOf "followed" "followed" (defArgs sfollowed) (defBody sfollowed) (defScope sfollowed) .none kV20 dc20 pm20 an20 cd20 ct20), sl20⟩)
    (c20 : PySem.W.codeIn K cd20 "followed" = true)
    (k20 : PySem.W.keepIn K (.ref f20) = true)
    (a21 : PySem.W.nsIn K mainGlobals "too_far" = some (some (.ref f21)))
    (l21 : K.lookup f21 = some ⟨oc21, od21, .func (PySem.W.fnOf "too_far" "too_far" (defArgs stoo_far) (defBody stoo_far) (defScope stoo_far) .none kV21 dc21 pm21 an21 cd21 ct21), sl21⟩)
    (c21 : PySem.W.codeIn K cd21 "too_far" = true)
    (k21 : PySem.W.keepIn K (.ref f21) = true)
    (a22 : PySem.W.nsIn K mainGlobals "clash" = some (some (.ref f22)))
    (l22 : K.lookup f22 = some ⟨oc22, od22, .func (PySem.W.fnOf "clash" "clash" (defArgs sclash) (defBody sclash) (defScope sclash) .none kV22 dc22 pm22 an22 cd22 ct22), sl22⟩)
    (c22 : PySem.W.codeIn K cd22 "clash" = true)
    (k22 : PySem.W.keepIn K (.ref f22) = true)
    (a23 : PySem.W.findIn K (.ref C) "__init__" = some (some (.ref f23)))
    (i23 : PySem.W.isFn K (.ref f23) = true)
    (l23 : K.lookup f23 = some ⟨oc23, od23, .func (PySem.W.fnOf "__init__" "Dark.__init__" (defArgs sDark_init) (defBody sDark_init) (defScope sDark_init) .none kV23 dc23 pm23 an23 cd23 ct23), sl23⟩)
    (c23 : PySem.W.codeIn K cd23 "Dark.__init__" = true)
    (k23 : PySem.W.keepIn K (.ref f23) = true)
    (a24 : PySem.W.findIn K (.ref C) "length" = some (some (.ref f24)))
    (i24 : PySem.W.isFn K (.ref f24) = true)
    (l24 : K.lookup f24 = some ⟨oc24, od24, .func (PySem.W.fnOf "length" "Dark.length" (defArgs sDark_length) (defBody sDark_length) (defScope sDark_length) .none kV24 dc24 pm24 an24 cd24 ct24), sl24⟩)
    (c24 : PySem.W.codeIn K cd24 "Dark.length" = true)
    (k24 : PySem.W.keepIn K (.ref f24) = true)
    (a25 : PySem.W.findIn K (.ref C) "hear" = some (some (.ref f25)))
    (i25 : PySem.W.isFn K (.ref f25) = true)
    (l25 : K.lookup f25 = some ⟨oc25, od25, .func (PySem.W.fnOf "hear" "Dark.hear" (defArgs sDark_hear) (defBody sDark_hear) (defScope sDark_hear) .none kV25 dc25 pm25 an25 cd25 ct25), sl25⟩)
    (c25 : PySem.W.codeIn K cd25 "Dark.hear" = true)
    (k25 : PySem.W.keepIn K (.ref f25) = true)
    (a26 : PySem.W.findIn K (.ref C) "looks" = some (some (.ref f26)))
    (i26 : PySem.W.isFn K (.ref f26) = true)
    (l26 : K.lookup f26 = some ⟨oc26, od26, .func (PySem.W.fnOf "looks" "Dark.looks" (defArgs sDark_looks) (defBody sDark_looks) (defScope sDark_looks) .none kV26 dc26 pm26 an26 cd26 ct26), sl26⟩)
    (c26 : PySem.W.codeIn K cd26 "Dark.looks" = true)
    (k26 : PySem.W.keepIn K (.ref f26) = true)
    (a27 : PySem.W.findIn K (.ref C) "_check_word" = some (some (.ref f27)))
    (i27 : PySem.W.isFn K (.ref f27) = true)
    (l27 : K.lookup f27 = some ⟨oc27, od27, .func (PySem.W.fnOf "_check_word" "Dark._check_word" (defArgs sDarkcheck_word) (defBody sDarkcheck_word) (defScope sDarkcheck_word) .none kV27 dc27 pm27 an27 cd27 ct27), sl27⟩)
    (c27 : PySem.W.codeIn K cd27 "Dark._check_word" = true)
    (k27 : PySem.W.keepIn K (.ref f27) = true)
    (a28 : PySem.W.findIn K (.ref C) "_home" = some (some (.ref f28)))
    (i28 : PySem.W.isFn K (.ref f28) = true)
    (l28 : K.lookup f28 = some ⟨oc28, od28, .func (PySem.W.fnOf "_home" "Dark._home" (defArgs sDarkhome) (defBody sDarkhome) (defScope sDarkhome) .none kV28 dc28 pm28 an28 cd28 ct28), sl28⟩)
    (c28 : PySem.W.codeIn K cd28 "Dark._home" = true)
    (k28 : PySem.W.keepIn K (.ref f28) = true)
    (a29 : PySem.W.findIn K (.ref C) "_clashing" = some (some (.ref f29)))
    (i29 : PySem.W.isFn K (.ref f29) = true)
    (l29 : K.lookup f29 = some ⟨oc29, od29, .func (PySem.W.fnOf "_clashing" "Dark._clashing" (defArgs sDarkclashing) (defBody sDarkclashing) (defScope sDarkclashing) .none kV29 dc29 pm29 an29 cd29 ct29), sl29⟩)
    (c29 : PySem.W.codeIn K cd29 "Dark._clashing" = true)
    (k29 : PySem.W.keepIn K (.ref f29) = true)
    (a30 : PySem.W.nsIn K mainGlobals "law" = some (some (.ref f30)))
    (l30 : K.lookup f30 = some ⟨oc30, od30, .func (PySem.W.fnOf "law" "law" (defArgs slaw) (defBody slaw) (defScope slaw) .none kV30 dc30 pm30 an30 cd30 ct30), sl30⟩)
    (c30 : PySem.W.codeIn K cd30 "law" = true)
    (k30 : PySem.W.keepIn K (.ref f30) = true)
    (pg : PySem.W.plainGet K C Str.empty = true)
    (hd : PySem.W.hasDictIn K C = true)
    (po : PySem.W.plainOver K C = true)
    (sa : PySem.W.findIn K (.ref C) "__setattr__" = some (some (.builtin "object.__setattr__")))
    (mk : PySem.W.makesIn K C = true)
    (kc : PySem.W.keepIn K (.ref C) = true)
    (n_length : PySem.W.findIn K (.ref C) "_length" = some none)
    (n_looks : PySem.W.findIn K (.ref C) "_looks" = some none)
    (pg_Walk : PySem.W.plainGet K C_Walk Str.empty = true)
    (hd_Walk : PySem.W.hasDictIn K C_Walk = true)
    (po_Walk : PySem.W.plainOver K C_Walk = true)
    (sa_Walk : PySem.W.findIn K (.ref C_Walk) "__setattr__" = some (some (.builtin "object.__setattr__")))
    (mk_Walk : PySem.W.makesIn K C_Walk = true)
    (kc_Walk : PySem.W.keepIn K (.ref C_Walk) = true)
    (nWalk_places : PySem.W.findIn K (.ref C_Walk) "places" = some none)
    (nWalk_told_by : PySem.W.findIn K (.ref C_Walk) "told_by" = some none)
    (nWalk_start : PySem.W.findIn K (.ref C_Walk) "start" = some none)
    (b_max : PySem.W.nsIn K mainGlobals "max" = some none)
    (b_min : PySem.W.nsIn K mainGlobals "min" = some none)
    (b_len : PySem.W.nsIn K mainGlobals "len" = some none)
    (b_range : PySem.W.nsIn K mainGlobals "range" = some none)
    (b_sorted : PySem.W.nsIn K mainGlobals "sorted" = some none)
    (b_set : PySem.W.nsIn K mainGlobals "set" = some none)
    (b_abs : PySem.W.nsIn K mainGlobals "abs" = some none)
    (b_list : PySem.W.nsIn K mainGlobals "list" = some none)
    (b_int : PySem.W.nsIn K mainGlobals "int" = some none)
    (b_enumerate : PySem.W.nsIn K mainGlobals "enumerate" = some none)
    (b_divmod : PySem.W.nsIn K mainGlobals "divmod" = some none)
    (g_gcd0 : PySem.W.nsIn K mainGlobals "gcd" = some (some (.builtin "math.gcd")))
    (b_isinstance : PySem.W.nsIn K mainGlobals "isinstance" = some none)
    (b_ValueError : PySem.W.nsIn K mainGlobals "ValueError" = some none)
    (b_super : PySem.W.nsIn K mainGlobals "super" = some none)
    (gSLOW : PySem.W.nsIn K mainGlobals "SLOW" = some (some (.str "slow" tSLOW)))
    (gFAST : PySem.W.nsIn K mainGlobals "FAST" = some (some (.str "fast" tFAST)))
    (gW : PySem.W.nsIn K mainGlobals "WORDS" = some (some (.ref aW)))
    (lW : K.lookup aW = some ⟨.type "dict", none, .dict es nW, #[]⟩)
    (keys : PySem.W.KeysLit w.params es.toList)
    (low : (aW == sysModules) = false)
    (wS : PySem.W.nsIn K aW "slow" = some (some (.ref tS)))
    (wF : PySem.W.nsIn K aW "fast" = some (some (.ref tF)))
    (lS : K.lookup tS = some ⟨.type "tuple", o1, .seq #[.str "at" u1, .str "from" u2] n1, s1⟩)
    (lF : K.lookup tF = some ⟨.type "tuple", o2, .seq #[.str "at" u3, .str "upto" u4] n2, s2⟩)
    (gL : PySem.W.nsIn K mainGlobals "LOOK_WORDS" = some (some (.ref aL)))
    (lL : K.lookup aL = some ⟨.type "tuple", o3, .seq #[.str "at" u5, .str "from" u6, .str "upto" u7] n3, s3⟩)
    (xg0 : PySem.W.nsIn K mainGlobals "NoLength" = some (some (.ref xC0)))
    (xL0 : K.lookup xC0 = some (excClassObj xnm0 xq0 xC0 xN0 xbs0 xbm0 true xsn0 xsub0 xab0 xcol0 xdd0 xk00 xk10 xk20 xk30 xk50 "ValueError.__new__"))
    (xbv0 : PySem.HandSPX.refsVE xbm0 = true)
    (xsa0 : PySem.W.findIn K (.ref xC0) "__setattr__" = some (some (.builtin "object.__setattr__")))
    (xnw0 : PySem.W.findIn K (.ref xC0) "what" = some none)
    (xsv0 : PySem.W.subIn K (.ref xC0) (.type "ValueError") = some true)
    (xsu0 : PySem.W.ks_superIn K xC0 xC0 "__init__" = some (some (.builtin "ValueError.__init__")))
    (xop0 : PySem.W.nsIn K PySem.cStatics "thirdparty.any" = some none)
    (xme0 : PySem.W.mroIn K xC0 (.ref xC0) = some true)
    (xin0 : PySem.W.findIn K (.ref xC0) "__init__" = some (some (.ref xF0)))
    (xty0 : PySem.W.typeIn K (.ref xF0) = some (.type "function"))
    (xkc0 : PySem.W.keepIn K (.ref xC0) = true)
    (xex0 : PySem.W.subIn K (.ref xC0) (.type "BaseException") = some true)
    (xtc0 : PySem.W.typeIn K (.ref xC0) = some (.type "type"))
    (xic0 : PySem.W.isClsIn K xC0 = true)
    (xss0 : PySem.W.subIn K (.ref xC0) (.ref xC0) = some true)
    (xto0 : (l.prog.main.scope.names.lookup ("super" : Str)).isSome = false)
    (xl0 : K.lookup xF0 = some ⟨xoc0, xod0, .func (PySem.W.ksFn "__init__" "NoLength.__init__" (defArgs (inClass (top 4) 0)) (defBody (inClass (top 4) 0)) (defScope (inClass (top 4) 0)) .none .none xdoc0 xpm0 xan0 (.ref xcda0) xct0 xcc0), xosl0⟩)
    (xc0 : PySem.W.codeIn K (.ref xcda0) "NoLength.__init__" = true)
    (xlc0 : K.lookup xcc0 = some ⟨xcl0, xcld0, .cell (some (.ref xC0)), xcsl0⟩)
    (xld0 : K.lookup xcda0 = some ⟨xccl0, xcdd0, .fields xvs0, xccs0⟩)
    (xv0 : xvs0[2]? = some (.str xfile0 xtf0))
    (xfi0 : ((l.prog.main.file : Str) == xfile0) = true)
    (xg1 : PySem.W.nsIn K mainGlobals "Clash" = some (some (.ref xC1)))
    (xL1 : K.lookup xC1 = some (excClassObj xnm1 xq1 xC1 xN1 xbs1 xbm1 true xsn1 xsub1 xab1 xcol1 xdd1 xk01 xk11 xk21 xk31 xk51 "ValueError.__new__"))
    (xbv1 : PySem.HandSPX.refsVE xbm1 = true)
    (xsa1 : PySem.W.findIn K (.ref xC1) "__setattr__" = some (some (.builtin "object.__setattr__")))
    (xnw1 : PySem.W.findIn K (.ref xC1) "what" = some none)
    (xsv1 : PySem.W.subIn K (.ref xC1) (.type "ValueError") = some true)
    (xsu1 : PySem.W.ks_superIn K xC1 xC1 "__init__" = some (some (.builtin "ValueError.__init__")))
    (xop1 : PySem.W.nsIn K PySem.cStatics "thirdparty.any" = some none)
    (xme1 : PySem.W.mroIn K xC1 (.ref xC1) = some true)
    (xin1 : PySem.W.findIn K (.ref xC1) "__init__" = some (some (.ref xF1)))
    (xty1 : PySem.W.typeIn K (.ref xF1) = some (.type "function"))
    (xkc1 : PySem.W.keepIn K (.ref xC1) = true)
    (xex1 : PySem.W.subIn K (.ref xC1) (.type "BaseException") = some true)
    (xtc1 : PySem.W.typeIn K (.ref xC1) = some (.type "type"))
    (xic1 : PySem.W.isClsIn K xC1 = true)
    (xss1 : PySem.W.subIn K (.ref xC1) (.ref xC1) = some true)
    (xto1 : (l.prog.main.scope.names.lookup ("super" : Str)).isSome = false)
    (xl1 : K.lookup xF1 = some ⟨xoc1, xod1, .func (PySem.W.ksFn "__init__" "Clash.__init__" (defArgs (inClass (top 6) 0)) (defBody (inClass (top 6) 0)) (defScope (inClass (top 6) 0)) .none .none xdoc1 xpm1 xan1 (.ref xcda1) xct1 xcc1), xosl1⟩)
    (xc1 : PySem.W.codeIn K (.ref xcda1) "Clash.__init__" = true)
    (xlc1 : K.lookup xcc1 = some ⟨xcl1, xcld1, .cell (some (.ref xC1)), xcsl1⟩)
    (xld1 : K.lookup xcda1 = some ⟨xccl1, xcdd1, .fields xvs1, xccs1⟩)
    (xv1 : xvs1[2]? = some (.str xfile1 xtf1))
    (xfi1 : ((l.prog.main.file : Str) == xfile1) = true)
    (yg_DialError : PySem.W.nsIn K mainGlobals "DialError" = some (some (.ref yC_DialError)))
    (yi_DialError : PySem.W.isClsIn K yC_DialError = true)
    (yt_DialError : PySem.W.typeIn K (.ref yC_DialError) = some (.type "type"))
    (yg_NoBottom : PySem.W.nsIn K mainGlobals "NoBottom" = some (some (.ref yC_NoBottom)))
    (yi_NoBottom : PySem.W.isClsIn K yC_NoBottom = true)
    (yt_NoBottom : PySem.W.typeIn K (.ref yC_NoBottom) = some (.type "type"))
    (yg_NoLook : PySem.W.nsIn K mainGlobals "NoLook" = some (some (.ref yC_NoLook)))
    (yi_NoLook : PySem.W.isClsIn K yC_NoLook = true)
    (yt_NoLook : PySem.W.typeIn K (.ref yC_NoLook) = some (.type "type"))
    (yg_NoRing : PySem.W.nsIn K mainGlobals "NoRing" = some (some (.ref yC_NoRing)))
    (yi_NoRing : PySem.W.isClsIn K yC_NoRing = true)
    (yt_NoRing : PySem.W.typeIn K (.ref yC_NoRing) = some (.type "type"))
    (yg_NoRound : PySem.W.nsIn K mainGlobals "NoRound" = some (some (.ref yC_NoRound)))
    (yi_NoRound : PySem.W.isClsIn K yC_NoRound = true)
    (yt_NoRound : PySem.W.typeIn K (.ref yC_NoRound) = some (.type "type"))
    (yg_NoSide : PySem.W.nsIn K mainGlobals "NoSide" = some (some (.ref yC_NoSide)))
    (yi_NoSide : PySem.W.isClsIn K yC_NoSide = true)
    (yt_NoSide : PySem.W.typeIn K (.ref yC_NoSide) = some (.type "type"))
    (yg_NoSteps : PySem.W.nsIn K mainGlobals "NoSteps" = some (some (.ref yC_NoSteps)))
    (yi_NoSteps : PySem.W.isClsIn K yC_NoSteps = true)
    (yt_NoSteps : PySem.W.typeIn K (.ref yC_NoSteps) = some (.type "type"))
    (yg_NoText : PySem.W.nsIn K mainGlobals "NoText" = some (some (.ref yC_NoText)))
    (yi_NoText : PySem.W.isClsIn K yC_NoText = true)
    (yt_NoText : PySem.W.typeIn K (.ref yC_NoText) = some (.type "type"))
    (yg_NoUses : PySem.W.nsIn K mainGlobals "NoUses" = some (some (.ref yC_NoUses)))
    (yi_NoUses : PySem.W.isClsIn K yC_NoUses = true)
    (yt_NoUses : PySem.W.typeIn K (.ref yC_NoUses) = some (.type "type"))
    (yg_NoWord : PySem.W.nsIn K mainGlobals "NoWord" = some (some (.ref yC_NoWord)))
    (yi_NoWord : PySem.W.isClsIn K yC_NoWord = true)
    (yt_NoWord : PySem.W.typeIn K (.ref yC_NoWord) = some (.type "type"))
    (yb : PySem.W.subIn K (.ref yC_DialError) (.type "BaseException") = some true)
    (yga0 : PySem.W.findIn K (.ref xC0) "__getattribute__" = some (some (.builtin "BaseException.__getattribute__")))
    (ygg0 : PySem.W.findIn K (.ref xC0) "__getattr__" = some none)
    (yhd0 : PySem.W.hasDictIn K xC0 = true)
    (yha0 : PySem.W.findIn K (.ref xC0) "__class__" = some (some (.builtin "object.__class__")))
    (yhm0 : PySem.W.mroIn K xC0 (.type "object") = some true)
    (yhn : PySem.W.specialIn K (.builtin "object.__class__") "__get__" = some (some (.builtin "getset_descriptor.__get__")))
    (yht : PySem.W.takesIn K (.builtin "object.__class__") = some true)
    (ysd0 : PySem.W.subIn K (.ref xC0) (.ref yC_DialError) = some true)
    (ys_0_Clash : PySem.W.subIn K (.ref xC0) (.ref xC1) = some false)
    (yn_0_Clash : ((Value.ref xC0) == .ref xC1) = false)
    (ys_0_NoBottom : PySem.W.subIn K (.ref xC0) (.ref yC_NoBottom) = some false)
    (yn_0_NoBottom : ((Value.ref xC0) == .ref yC_NoBottom) = false)
    (ys_0_NoLook : PySem.W.subIn K (.ref xC0) (.ref yC_NoLook) = some false)
    (yn_0_NoLook : ((Value.ref xC0) == .ref yC_NoLook) = false)
    (ys_0_NoRing : PySem.W.subIn K (.ref xC0) (.ref yC_NoRing) = some false)
    (yn_0_NoRing : ((Value.ref xC0) == .ref yC_NoRing) = false)
    (ys_0_NoRound : PySem.W.subIn K (.ref xC0) (.ref yC_NoRound) = some false)
    (yn_0_NoRound : ((Value.ref xC0) == .ref yC_NoRound) = false)
    (ys_0_NoSide : PySem.W.subIn K (.ref xC0) (.ref yC_NoSide) = some false)
    (yn_0_NoSide : ((Value.ref xC0) == .ref yC_NoSide) = false)
    (ys_0_NoSteps : PySem.W.subIn K (.ref xC0) (.ref yC_NoSteps) = some false)
    (yn_0_NoSteps : ((Value.ref xC0) == .ref yC_NoSteps) = false)
    (ys_0_NoText : PySem.W.subIn K (.ref xC0) (.ref yC_NoText) = some false)
    (yn_0_NoText : ((Value.ref xC0) == .ref yC_NoText) = false)
    (ys_0_NoUses : PySem.W.subIn K (.ref xC0) (.ref yC_NoUses) = some false)
    (yn_0_NoUses : ((Value.ref xC0) == .ref yC_NoUses) = false)
    (ys_0_NoWord : PySem.W.subIn K (.ref xC0) (.ref yC_NoWord) = some false)
    (yn_0_NoWord : ((Value.ref xC0) == .ref yC_NoWord) = false)
    (yga1 : PySem.W.findIn K (.ref xC1) "__getattribute__" = some (some (.builtin "BaseException.__getattribute__")))
    (ygg1 : PySem.W.findIn K (.ref xC1) "__getattr__" = some none)
    (yhd1 : PySem.W.hasDictIn K xC1 = true)
    (yha1 : PySem.W.findIn K (.ref xC1) "__class__" = some (some (.builtin "object.__class__")))
    (yhm1 : PySem.W.mroIn K xC1 (.type "object") = some true)
    (ysd1 : PySem.W.subIn K (.ref xC1) (.ref yC_DialError) = some true)
    (ys_1_NoLength : PySem.W.subIn K (.ref xC1) (.ref xC0) = some false)
    (yn_1_NoLength : ((Value.ref xC1) == .ref xC0) = false)
    (ys_1_NoBottom : PySem.W.subIn K (.ref xC1) (.ref yC_NoBottom) = some false)
    (yn_1_NoBottom : ((Value.ref xC1) == .ref yC_NoBottom) = false)
    (ys_1_NoLook : PySem.W.subIn K (.ref xC1) (.ref yC_NoLook) = some false)
    (yn_1_NoLook : ((Value.ref xC1) == .ref yC_NoLook) = false)
    (ys_1_NoRing : PySem.W.subIn K (.ref xC1) (.ref yC_NoRing) = some false)
    (yn_1_NoRing : ((Value.ref xC1) == .ref yC_NoRing) = false)
    (ys_1_NoRound : PySem.W.subIn K (.ref xC1) (.ref yC_NoRound) = some false)
    (yn_1_NoRound : ((Value.ref xC1) == .ref yC_NoRound) = false)
    (ys_1_NoSide : PySem.W.subIn K (.ref xC1) (.ref yC_NoSide) = some false)
    (yn_1_NoSide : ((Value.ref xC1) == .ref yC_NoSide) = false)
    (ys_1_NoSteps : PySem.W.subIn K (.ref xC1) (.ref yC_NoSteps) = some false)
    (yn_1_NoSteps : ((Value.ref xC1) == .ref yC_NoSteps) = false)
    (ys_1_NoText : PySem.W.subIn K (.ref xC1) (.ref yC_NoText) = some false)
    (yn_1_NoText : ((Value.ref xC1) == .ref yC_NoText) = false)
    (ys_1_NoUses : PySem.W.subIn K (.ref xC1) (.ref yC_NoUses) = some false)
    (yn_1_NoUses : ((Value.ref xC1) == .ref yC_NoUses) = false)
    (ys_1_NoWord : PySem.W.subIn K (.ref xC1) (.ref yC_NoWord) = some false)
    (yn_1_NoWord : ((Value.ref xC1) == .ref yC_NoWord) = false) :
    ∃ fd : FuncData, (∀ (s : Shared) (v : Value), BindsTo s fd ⟨[v], []⟩ [("script", v)]) ∧ ∀ base : Heap, K.In base → base.Ns mainGlobals mg → FnOk l.prog w K mg base CX0 11 fa fd ["script"] (spLaw K) := by
  have e := hfa.symm.trans (PySem.W.mg_of X G a30)
  cases e
  have F0 := fun_mk (st := slaw_bag) l0 c0 k0
  have F1 := fun_mk (st := slaw_draw) l1 c1 k1
  have F2 := fun_mk (st := slaw_table) l2 c2 k2
  have F3 := fun_mk (st := slaw_led) l3 c3 k3
  have F4 := fun_mk (st := slaw_caught) l4 c4 k4
  have F5 := fun_mk (st := slaw_clash) l5 c5 k5
  have F6 := fun_mk (st := slaw_due) l6 c6 k6
  have F7 := fun_mk (st := sside_looks) l7 c7 k7
  have F8 := fun_mk (st := sround_looks) l8 c8 k8
  have F9 := fun_mk (st := splace_by) l9 c9 k9
  have F10 := fun_mk (st := sbest_step) l10 c10 k10
  have F11 := fun_mk (st := sWalk_init) l11 c11 k11
  have F12 := fun_mk (st := sWalkfollow) l12 c12 k12
  have F13 := fun_mk (st := sWalk_period) l13 c13 k13
  have F14 := fun_mk (st := sWalk_climb) l14 c14 k14
  have F15 := fun_mk (st := sWalk_behind) l15 c15 k15
  have F16 := fun_mk (st := scheck_round) l16 c16 k16
  have F17 := fun_mk (st := slowest) l17 c17 k17
  have F18 := fun_mk (st := sside_pace) l18 c18 k18
  have F19 := fun_mk (st := spaces) l19 c19 k19
  have F20 := fun_mk (st := sfollowed) l20 c20 k20
  have F21 := fun_mk (st := stoo_far) l21 c21 k21
  have F22 := fun_mk (st := sclash) l22 c22 k22
  have F23 := fun_mk (st := sDark_init) l23 c23 k23
  have F24 := fun_mk (st := sDark_length) l24 c24 k24
  have F25 := fun_mk (st := sDark_hear) l25 c25 k25
  have F26 := fun_mk (st := sDark_looks) l26 c26 k26
  have F27 := fun_mk (st := sDarkcheck_word) l27 c27 k27
  have F28 := fun_mk (st := sDarkhome) l28 c28 k28
  have F29 := fun_mk (st := sDarkclashing) l29 c29 k29
  have F30 := fun_mk (st := slaw) l30 c30 k30
  let Z : Ad := {
    a_law_bag := f0,
    d_law_bag := PySem.W.fnOf "_law_bag" "_law_bag" (defArgs slaw_bag) (defBody slaw_bag) (defScope slaw_bag) .none kV0 dc0 pm0 an0 cd0 ct0,
    a_law_draw := f1,
    d_law_draw := PySem.W.fnOf "_law_draw" "_law_draw" (defArgs slaw_draw) (defBody slaw_draw) (defScope slaw_draw) .none kV1 dc1 pm1 an1 cd1 ct1,
    a_law_table := f2,
    d_law_table := PySem.W.fnOf "_law_table" "_law_table" (defArgs slaw_table) (defBody slaw_table) (defScope slaw_table) .none kV2 dc2 pm2 an2 cd2 ct2,
    a_law_led := f3,
    d_law_led := PySem.W.fnOf "_law_led" "_law_led" (defArgs slaw_led) (defBody slaw_led) (defScope slaw_led) .none kV3 dc3 pm3 an3 cd3 ct3,
    a_law_caught := f4,
    d_law_caught := PySem.W.fnOf "_law_caught" "_law_caught" (defArgs slaw_caught) (defBody slaw_caught) (defScope slaw_caught) .none kV4 dc4 pm4 an4 cd4 ct4,
    a_law_clash := f5,
    d_law_clash := PySem.W.fnOf "_law_clash" "_law_clash" (defArgs slaw_clash) (defBody slaw_clash) (defScope slaw_clash) .none kV5 dc5 pm5 an5 cd5 ct5,
    a_law_due := f6,
    d_law_due := PySem.W.fnOf "_law_due" "_law_due" (defArgs slaw_due) (defBody slaw_due) (defScope slaw_due) .none kV6 dc6 pm6 an6 cd6 ct6,
    a_side_looks := f7,
    d_side_looks := PySem.W.fnOf "side_looks" "side_looks" (defArgs sside_looks) (defBody sside_looks) (defScope sside_looks) .none kV7 dc7 pm7 an7 cd7 ct7,
    a_round_looks := f8,
    d_round_looks := PySem.W.fnOf "round_looks" "round_looks" (defArgs sround_looks) (defBody sround_looks) (defScope sround_looks) .none kV8 dc8 pm8 an8 cd8 ct8,
    a_place_by := f9,
    d_place_by := PySem.W.fnOf "place_by" "place_by" (defArgs splace_by) (defBody splace_by) (defScope splace_by) .none kV9 dc9 pm9 an9 cd9 ct9,
    a_best_step := f10,
    d_best_step := PySem.W.fnOf "best_step" "best_step" (defArgs sbest_step) (defBody sbest_step) (defScope sbest_step) .none kV10 dc10 pm10 an10 cd10 ct10,
    a_Walk_init := f11,
    d_Walk_init := PySem.W.fnOf "__init__" "Walk.__init__" (defArgs sWalk_init) (defBody sWalk_init) (defScope sWalk_init) .none kV11 dc11 pm11 an11 cd11 ct11,
    a_Walkfollow := f12,
    d_Walkfollow := PySem.W.fnOf "_follow" "Walk._follow" (defArgs sWalkfollow) (defBody sWalkfollow) (defScope sWalkfollow) .none kV12 dc12 pm12 an12 cd12 ct12,
    a_Walk_period := f13,
    d_Walk_period := PySem.W.fnOf "period" "Walk.period" (defArgs sWalk_period) (defBody sWalk_period) (defScope sWalk_period) .none kV13 dc13 pm13 an13 cd13 ct13,
    a_Walk_climb := f14,
    d_Walk_climb := PySem.W.fnOf "climb" "Walk.climb" (defArgs sWalk_climb) (defBody sWalk_climb) (defScope sWalk_climb) .none kV14 dc14 pm14 an14 cd14 ct14,
    a_Walk_behind := f15,
    d_Walk_behind := PySem.W.fnOf "behind" "Walk.behind" (defArgs sWalk_behind) (defBody sWalk_behind) (defScope sWalk_behind) .none kV15 dc15 pm15 an15 cd15 ct15,
    a_check_round := f16,
    d_check_round := PySem.W.fnOf "check_round" "check_round" (defArgs scheck_round) (defBody scheck_round) (defScope scheck_round) .none kV16 dc16 pm16 an16 cd16 ct16,
    a_lowest := f17,
    d_lowest := PySem.W.fnOf "lowest" "lowest" (defArgs slowest) (defBody slowest) (defScope slowest) .none kV17 dc17 pm17 an17 cd17 ct17,
    a_side_pace := f18,
    d_side_pace := PySem.W.fnOf "side_pace" "side_pace" (defArgs sside_pace) (defBody sside_pace) (defScope sside_pace) .none kV18 dc18 pm18 an18 cd18 ct18,
    a_paces := f19,
    d_paces := PySem.W.fnOf "paces" "paces" (defArgs spaces) (defBody spaces) (defScope spaces) .none kV19 dc19 pm19 an19 cd19 ct19,
    a_followed := f20,
    d_followed := PySem.W.fnOf "followed" "followed" (defArgs sfollowed) (defBody sfollowed) (defScope sfollowed) .none kV20 dc20 pm20 an20 cd20 ct20,
    a_too_far := f21,
    d_too_far := PySem.W.fnOf "too_far" "too_far" (defArgs stoo_far) (defBody stoo_far) (defScope stoo_far) .none kV21 dc21 pm21 an21 cd21 ct21,
    a_clash := f22,
    d_clash := PySem.W.fnOf "clash" "clash" (defArgs sclash) (defBody sclash) (defScope sclash) .none kV22 dc22 pm22 an22 cd22 ct22,
    a_Dark_init := f23,
    d_Dark_init := PySem.W.fnOf "__init__" "Dark.__init__" (defArgs sDark_init) (defBody sDark_init) (defScope sDark_init) .none kV23 dc23 pm23 an23 cd23 ct23,
    a_Dark_length := f24,
    d_Dark_length := PySem.W.fnOf "length" "Dark.length" (defArgs sDark_length) (defBody sDark_length) (defScope sDark_length) .none kV24 dc24 pm24 an24 cd24 ct24,
    a_Dark_hear := f25,
    d_Dark_hear := PySem.W.fnOf "hear" "Dark.hear" (defArgs sDark_hear) (defBody sDark_hear) (defScope sDark_hear) .none kV25 dc25 pm25 an25 cd25 ct25,
    a_Dark_looks := f26,
    d_Dark_looks := PySem.W.fnOf "looks" "Dark.looks" (defArgs sDark_looks) (defBody sDark_looks) (defScope sDark_looks) .none kV26 dc26 pm26 an26 cd26 ct26,
    a_Darkcheck_word := f27,
    d_Darkcheck_word := PySem.W.fnOf "_check_word" "Dark._check_word" (defArgs sDarkcheck_word) (defBody sDarkcheck_word) (defScope sDarkcheck_word) .none kV27 dc27 pm27 an27 cd27 ct27,
    a_Darkhome := f28,
    d_Darkhome := PySem.W.fnOf "_home" "Dark._home" (defArgs sDarkhome) (defBody sDarkhome) (defScope sDarkhome) .none kV28 dc28 pm28 an28 cd28 ct28,
    a_Darkclashing := f29,
    d_Darkclashing := PySem.W.fnOf "_clashing" "Dark._clashing" (defArgs sDarkclashing) (defBody sDarkclashing) (defScope sDarkclashing) .none kV29 dc29 pm29 an29 cd29 ct29,
    a_law := fa,
    d_law := PySem.W.fnOf "law" "law" (defArgs slaw) (defBody slaw) (defScope slaw) .none kV30 dc30 pm30 an30 cd30 ct30,
    C := C,
    C_Walk := C_Walk,
    v_SLOW := .str "slow" tSLOW,
    v_FAST := .str "fast" tFAST,
    a_WORDS := aW,
    a_LW := aL,
    t_slow := tS,
    t_fast := tF }
  have T : Tx K w mg Z := {
    F_law_bag := F0,
    bb_law_bag := F0.binds (ps := P_law_bag) fun _ _ _ _ _ _ us hl => match us, hl with | [_], _ => rfl,
    g_law_bag := PySem.W.mg_of X G a0,
    F_law_draw := F1,
    bb_law_draw := F1.binds (ps := P_law_draw) fun _ _ _ _ _ _ us hl => match us, hl with | [_, _], _ => rfl,
    g_law_draw := PySem.W.mg_of X G a1,
    F_law_table := F2,
    bb_law_table := F2.binds (ps := P_law_table) fun _ _ _ _ _ _ us hl => match us, hl with | [_, _], _ => rfl,
    g_law_table := PySem.W.mg_of X G a2,
    F_law_led := F3,
    bb_law_led := F3.binds (ps := P_law_led) fun _ _ _ _ _ _ us hl => match us, hl with | [_, _], _ => rfl,
    g_law_led := PySem.W.mg_of X G a3,
    F_law_caught := F4,
    bb_law_caught := F4.binds (ps := P_law_caught) fun _ _ _ _ _ _ us hl => match us, hl with | [_, _, _], _ => rfl,
    g_law_caught := PySem.W.mg_of X G a4,
    F_law_clash := F5,
    bb_law_clash := F5.binds (ps := P_law_clash) fun _ _ _ _ _ _ us hl => match us, hl with | [_, _, _], _ => rfl,
    g_law_clash := PySem.W.mg_of X G a5,
    F_law_due := F6,
    bb_law_due := F6.binds (ps := P_law_due) fun _ _ _ _ _ _ us hl => match us, hl with | [_, _, _], _ => rfl,
    g_law_due := PySem.W.mg_of X G a6,
    F_side_looks := F7,
    bb_side_looks := F7.binds (ps := P_side_looks) fun _ _ _ _ _ _ us hl => match us, hl with | [_, _], _ => rfl,
    g_side_looks := PySem.W.mg_of X G a7,
    F_round_looks := F8,
    bb_round_looks := F8.binds (ps := P_round_looks) fun _ _ _ _ _ _ us hl => match us, hl with | [_, _], _ => rfl,
    g_round_looks := PySem.W.mg_of X G a8,
    F_place_by := F9,
    bb_place_by := F9.binds (ps := P_place_by) fun _ _ _ _ _ _ us hl => match us, hl with | [_, _, _, _], _ => rfl,
    g_place_by := PySem.W.mg_of X G a9,
    F_best_step := F10,
    bb_best_step := F10.binds (ps := P_best_step) fun _ _ _ _ _ _ us hl => match us, hl with | [_, _, _, _], _ => rfl,
    g_best_step := PySem.W.mg_of X G a10,
    F_Walk_init := F11,
    bb_Walk_init := F11.binds (ps := P_Walk_init) fun _ _ _ _ _ _ us hl => match us, hl with | [_, _, _, _], _ => rfl,
    F_Walkfollow := F12,
    bb_Walkfollow := F12.binds (ps := P_Walkfollow) fun _ _ _ _ _ _ us hl => match us, hl with | [_, _, _, _], _ => rfl,
    m_Walkfollow := ⟨a12, i12, k12⟩,
    F_Walk_period := F13,
    bb_Walk_period := F13.binds (ps := P_Walk_period) fun _ _ _ _ _ _ us hl => match us, hl with | [_], _ => rfl,
    m_Walk_period := ⟨a13, i13, k13⟩,
    F_Walk_climb := F14,
    bb_Walk_climb := F14.binds (ps := P_Walk_climb) fun _ _ _ _ _ _ us hl => match us, hl with | [_], _ => rfl,
    m_Walk_climb := ⟨a14, i14, k14⟩,
    F_Walk_behind := F15,
    bb_Walk_behind := F15.binds (ps := P_Walk_behind) fun _ _ _ _ _ _ us hl => match us, hl with | [_, _], _ => rfl,
    m_Walk_behind := ⟨a15, i15, k15⟩,
    F_check_round := F16,
    bb_check_round := F16.binds (ps := P_check_round) fun _ _ _ _ _ _ us hl => match us, hl with | [_], _ => rfl,
    g_check_round := PySem.W.mg_of X G a16,
    F_lowest := F17,
    bb_lowest := F17.binds (ps := P_lowest) fun _ _ _ _ _ _ us hl => match us, hl with | [_, _], _ => rfl,
    g_lowest := PySem.W.mg_of X G a17,
    F_side_pace := F18,
    bb_side_pace := F18.binds (ps := P_side_pace) fun _ _ _ _ _ _ us hl => match us, hl with | [_, _], _ => rfl,
    g_side_pace := PySem.W.mg_of X G a18,
    F_paces := F19,
    bb_paces := F19.binds (ps := P_paces) fun _ _ _ _ _ _ us hl => match us, hl with | [_], _ => rfl,
    g_paces := PySem.W.mg_of X G a19,
    F_followed := F20,
    bb_followed := F20.binds (ps := P_followed) fun _ _ _ _ _ _ us hl => match us, hl with | [_, _, _], _ => rfl,
    g_followed := PySem.W.mg_of X G a20,
    F_too_far := F21,
    bb_too_far := F21.binds (ps := P_too_far) fun _ _ _ _ _ _ us hl => match us, hl with | [_, _, _], _ => rfl,
    g_too_far := PySem.W.mg_of X G a21,
    F_clash := F22,
    bb_clash := F22.binds (ps := P_clash) fun _ _ _ _ _ _ us hl => match us, hl with | [_, _, _], _ => rfl,
    g_clash := PySem.W.mg_of X G a22,
    F_Dark_init := F23,
    bb_Dark_init := F23.binds (ps := P_Dark_init) fun _ _ _ _ _ _ us hl => match us, hl with | [_, _], _ => rfl,
    F_Dark_length := F24,
    bb_Dark_length := F24.binds (ps := P_Dark_length) fun _ _ _ _ _ _ us hl => match us, hl with | [_], _ => rfl,
    m_Dark_length := ⟨a24, i24, k24⟩,
    F_Dark_hear := F25,
    bb_Dark_hear := F25.binds (ps := P_Dark_hear) fun _ _ _ _ _ _ us hl => match us, hl with | [_, _, _, _], _ => rfl,
    m_Dark_hear := ⟨a25, i25, k25⟩,
    F_Dark_looks := F26,
    bb_Dark_looks := F26.binds (ps := P_Dark_looks) fun _ _ _ _ _ _ us hl => match us, hl with | [_], _ => rfl,
    m_Dark_looks := ⟨a26, i26, k26⟩,
    F_Darkcheck_word := F27,
    bb_Darkcheck_word := F27.binds (ps := P_Darkcheck_word) fun _ _ _ _ _ _ us hl => match us, hl with | [_, _], _ => rfl,
    m_Darkcheck_word := ⟨a27, i27, k27⟩,
    F_Darkhome := F28,
    bb_Darkhome := F28.binds (ps := P_Darkhome) fun _ _ _ _ _ _ us hl => match us, hl with | [_, _, _, _], _ => rfl,
    m_Darkhome := ⟨a28, i28, k28⟩,
    F_Darkclashing := F29,
    bb_Darkclashing := F29.binds (ps := P_Darkclashing) fun _ _ _ _ _ _ us hl => match us, hl with | [_, _], _ => rfl,
    m_Darkclashing := ⟨a29, i29, k29⟩,
    F_law := F30,
    bb_law := F30.binds (ps := P_law) fun _ _ _ _ _ _ us hl => match us, hl with | [_], _ => rfl,
    g_law := PySem.W.mg_of X G a30,
    cl := ⟨pg, hd, po, sa⟩,
    g_Dark := PySem.W.mg_of X G aC,
    mk_Dark := ⟨mk, a23, i23, kc⟩,
    n_length := n_length,
    n_looks := n_looks,
    cl_Walk := ⟨pg_Walk, hd_Walk, po_Walk, sa_Walk⟩,
    g_Walk := PySem.W.mg_of X G aC_Walk,
    mk_Walk := ⟨mk_Walk, a11, i11, kc_Walk⟩,
    nWalk_places := nWalk_places,
    nWalk_told_by := nWalk_told_by,
    nWalk_start := nWalk_start,
    b_max := PySem.W.mg_none_of X G b_max,
    b_min := PySem.W.mg_none_of X G b_min,
    b_len := PySem.W.mg_none_of X G b_len,
    b_range := PySem.W.mg_none_of X G b_range,
    b_sorted := PySem.W.mg_none_of X G b_sorted,
    b_set := PySem.W.mg_none_of X G b_set,
    b_abs := PySem.W.mg_none_of X G b_abs,
    b_list := PySem.W.mg_none_of X G b_list,
    b_int := PySem.W.mg_none_of X G b_int,
    b_enumerate := PySem.W.mg_none_of X G b_enumerate,
    b_divmod := PySem.W.mg_none_of X G b_divmod,
    g_gcd := PySem.W.mg_of X G g_gcd0,
    b_isinstance := PySem.W.mg_none_of X G b_isinstance,
    b_ValueError := PySem.W.mg_none_of X G b_ValueError,
    b_super := PySem.W.mg_none_of X G b_super,
    g_SLOW := PySem.W.mg_of X G gSLOW,
    r_SLOW := ⟨tSLOW, rfl⟩,
    g_FAST := PySem.W.mg_of X G gFAST,
    r_FAST := ⟨tFAST, rfl⟩,
    g_WORDS := PySem.W.mg_of X G gW,
    kd_WORDS := ⟨es, nW, lW, keys, low⟩,
    w_slow := wS,
    w_fast := wF,
    q_slow := fun _ => sqt2 lS,
    q_fast := fun _ => sqt2 lF,
    g_LOOK_WORDS := PySem.W.mg_of X G gL,
    q_LW := fun _ => sqt3 lL }
  let Y : AdX := {
    c_NoLength := xC0,
    i_NoLength := xF0,
    c_Clash := xC1,
    i_Clash := xF1,
    c_DialError := yC_DialError,
    c_NoBottom := yC_NoBottom,
    c_NoLook := yC_NoLook,
    c_NoRing := yC_NoRing,
    c_NoRound := yC_NoRound,
    c_NoSide := yC_NoSide,
    c_NoSteps := yC_NoSteps,
    c_NoText := yC_NoText,
    c_NoUses := yC_NoUses,
    c_NoWord := yC_NoWord }
  have X : Ex l.prog K mg Y := {
    NoLength := ERR.errT_mk (inClass (top 4) 0) xL0 xbv0 xsa0 xnw0 xsv0 xsu0 xop0 xme0 xin0 xty0 xkc0 xex0 xtc0 xto0 xl0 ⟨_, _, rfl⟩ rfl rfl (fun _ => ⟨_, rfl⟩) xc0 xlc0 xld0 xv0 xfi0,
    g_NoLength := PySem.W.mg_of X G xg0,
    m_NoLength := ERR.exm_self xex0 xic0 xtc0 xss0,
    Clash := ERR.errT_mk (inClass (top 6) 0) xL1 xbv1 xsa1 xnw1 xsv1 xsu1 xop1 xme1 xin1 xty1 xkc1 xex1 xtc1 xto1 xl1 ⟨_, _, rfl⟩ rfl rfl (fun _ => ⟨_, rfl⟩) xc1 xlc1 xld1 xv1 xfi1,
    g_Clash := PySem.W.mg_of X G xg1,
    m_Clash := ERR.exm_self xex1 xic1 xtc1 xss1,
    g_DialError := PySem.W.mg_of X G yg_DialError,
    g_NoBottom := PySem.W.mg_of X G yg_NoBottom,
    g_NoLook := PySem.W.mg_of X G yg_NoLook,
    g_NoRing := PySem.W.mg_of X G yg_NoRing,
    g_NoRound := PySem.W.mg_of X G yg_NoRound,
    g_NoSide := PySem.W.mg_of X G yg_NoSide,
    g_NoSteps := PySem.W.mg_of X G yg_NoSteps,
    g_NoText := PySem.W.mg_of X G yg_NoText,
    g_NoUses := PySem.W.mg_of X G yg_NoUses,
    g_NoWord := PySem.W.mg_of X G yg_NoWord,
    x_NoLength := ⟨yga0, ygg0, xex0, yhd0, yha0, yhn, yht, yhm0, xnw0⟩,
    d_NoLength := ERR.exm_of yb yi_DialError yt_DialError ysd0,
    kv_NoLength := ERR.kit_blt (by decide +kernel) xsv0,
    k_NoLength_Clash := kit_no yn_0_Clash xic1 xtc1 ys_0_Clash,
    k_NoLength_NoBottom := kit_no yn_0_NoBottom yi_NoBottom yt_NoBottom ys_0_NoBottom,
    k_NoLength_NoLook := kit_no yn_0_NoLook yi_NoLook yt_NoLook ys_0_NoLook,
    k_NoLength_NoRing := kit_no yn_0_NoRing yi_NoRing yt_NoRing ys_0_NoRing,
    k_NoLength_NoRound := kit_no yn_0_NoRound yi_NoRound yt_NoRound ys_0_NoRound,
    k_NoLength_NoSide := kit_no yn_0_NoSide yi_NoSide yt_NoSide ys_0_NoSide,
    k_NoLength_NoSteps := kit_no yn_0_NoSteps yi_NoSteps yt_NoSteps ys_0_NoSteps,
    k_NoLength_NoText := kit_no yn_0_NoText yi_NoText yt_NoText ys_0_NoText,
    k_NoLength_NoUses := kit_no yn_0_NoUses yi_NoUses yt_NoUses ys_0_NoUses,
    k_NoLength_NoWord := kit_no yn_0_NoWord yi_NoWord yt_NoWord ys_0_NoWord,
    x_Clash := ⟨yga1, ygg1, xex1, yhd1, yha1, yhn, yht, yhm1, xnw1⟩,
    d_Clash := ERR.exm_of yb yi_DialError yt_DialError ysd1,
    kv_Clash := ERR.kit_blt (by decide +kernel) xsv1,
    k_Clash_NoLength := kit_no yn_1_NoLength xic0 xtc0 ys_1_NoLength,
    k_Clash_NoBottom := kit_no yn_1_NoBottom yi_NoBottom yt_NoBottom ys_1_NoBottom,
    k_Clash_NoLook := kit_no yn_1_NoLook yi_NoLook yt_NoLook ys_1_NoLook,
    k_Clash_NoRing := kit_no yn_1_NoRing yi_NoRing yt_NoRing ys_1_NoRing,
    k_Clash_NoRound := kit_no yn_1_NoRound yi_NoRound yt_NoRound ys_1_NoRound,
    k_Clash_NoSide := kit_no yn_1_NoSide yi_NoSide yt_NoSide ys_1_NoSide,
    k_Clash_NoSteps := kit_no yn_1_NoSteps yi_NoSteps yt_NoSteps ys_1_NoSteps,
    k_Clash_NoText := kit_no yn_1_NoText yi_NoText yt_NoText ys_1_NoText,
    k_Clash_NoUses := kit_no yn_1_NoUses yi_NoUses yt_NoUses ys_1_NoUses,
    k_Clash_NoWord := kit_no yn_1_NoWord yi_NoWord yt_NoWord ys_1_NoWord }
  exact ⟨PySem.W.fnOf "law" "law" (defArgs slaw) (defBody slaw) (defScope slaw) .none kV30 dc30 pm30 an30 cd30 ct30, fun s v => .of_eq rfl, fun base _ _ => ok_law T X⟩
theorem walk {l : PySem.W.OpenLaw} {q : Program} {loose : List Str} {XP : (Str → Option Value) → Heap → Prop} {YP : World → Heap → Prop} {d : DefRec} {K : Params → PySem.W.Frag} (hn : l.most = some 63) (hdf : d.params.defaults = [])
    (hY : ∀ (w : World) (h : Heap), YP w h → (K w.params).In h)
    (F : ∀ (w : World) (mg : Str → Option Value) (fa : Addr) (h : Heap), (K w.params).In h → h.Ns mainGlobals mg → mg d.name = some (.ref fa) →
      ∃ fd : FuncData, (∀ (s : Shared) (u : Value), BindsTo s fd ⟨[u], []⟩ [("script", u)]) ∧ ∀ base : Heap, (K w.params).In base → base.Ns mainGlobals mg → FnOk l.prog w (K w.params) mg base CX0 11 fa fd ["script"] (spLaw (K w.params))) :
    PySem.W.WalkO q loose XP YP l.row.toRowW d [] (fun f vs => PySem.call f vs) :=
  L2.walk_of (n := 63) (k := 11) (x := "script") (CX := fun _ => CX0) (sp := fun w => spLaw (K w.params)) hn (by decide) hdf ⟨rfl, by decide, by decide⟩ hY F (fun _ _ a ns hl _ hS => ⟨a, ns, rfl, hS, hl, fun _ => rfl⟩) fun _ _ _ _ _ z => z
end KA
open PySem PySem.W PyProof.Rows
set_option maxRecDepth 100000 in
set_option maxHeartbeats 0 in
theorem PySem.Challenge.cw_darkpace_k45_followed_refused_holds : PySem.Challenge.rw_darkpace_k45_followed_refused.Holds := by
  w_on; o_law; k_head; (case hw => w_witness2)
  k_fill
  refine KA.walk (l := PySem.Challenge.rw_darkpace_k45_followed_refused) rfl rfl (fun w h Y => PySem.W.kIn_of Y) ?F
  case F =>
    intro w mg fa h KX G hmg
    refine' KA.all_mk KX G hmg ?aC ?aC_Walk ?a0 ?l0 ?c0 ?k0 ?a1 ?l1 ?c1 ?k1 ?a2 ?l2 ?c2 ?k2 ?a3 ?l3 ?c3 ?k3 ?a4 ?l4 ?c4 ?k4 ?a5 ?l5 ?c5 ?k5 ?a6 ?l6 ?c6 ?k6 ?a7 ?l7 ?c7 ?k7 ?a8 ?l8 ?c8 ?k8 ?a9 ?l9 ?c9 ?k9 ?a10 ?l10 ?c10 ?k10 ?a11 ?i11 ?l11 ?c11 ?k11 ?a12 ?i12 ?l12 ?c12 ?k12 ?a13 ?i13 ?l13 ?c13 ?k13 ?a14 ?i14 ?l14 ?c14 ?k14 ?a15 ?i15 ?l15 ?c15 ?k15 ?a16 ?l16 ?c16 ?k16 ?a17 ?l17 ?c17 ?k17 ?a18 ?l18 ?c18 ?k18 ?a19 ?l19 ?c19 ?k19 ?a20 ?l20 ?c20 ?k20 ?a21 ?l21 ?c21 ?k21 ?a22 ?l22 ?c22 ?k22 ?a23 ?i23 ?l23 ?c23 ?k23 ?a24 ?i24 ?l24 ?c24 ?k24 ?a25 ?i25 ?l25 ?c25 ?k25 ?a26 ?i26 ?l26 ?c26 ?k26 ?a27 ?i27 ?l27 ?c27 ?k27 ?a28 ?i28 ?l28 ?c28 ?k28 ?a29 ?i29 ?l29 ?c29 ?k29 ?a30 ?l30 ?c30 ?k30 ?pg ?hd ?po ?sa ?mk ?kc ?n_length ?n_looks ?pg_Walk ?hd_Walk ?po_Walk ?sa_Walk ?mk_Walk ?kc_Walk ?nWalk_places ?nWalk_told_by ?nWalk_start ?b_max ?b_min ?b_len ?b_range ?b_sorted ?b_set ?b_abs ?b_list ?b_int ?b_enumerate ?b_divmod ?g_gcd0 ?b_isinstance ?b_ValueError ?b_super ?gSLOW ?gFAST ?gW ?lW ?keys ?low ?wS ?wF ?lS ?lF ?gL ?lL ?xg0 ?xL0 ?xbv0 ?xsa0 ?xnw0 ?xsv0 ?xsu0 ?xop0 ?xme0 ?xin0 ?xty0 ?xkc0 ?xex0 ?xtc0 ?xic0 ?xss0 ?xto0 ?xl0 ?xc0 ?xlc0 ?xld0 ?xv0 ?xfi0 ?xg1 ?xL1 ?xbv1 ?xsa1 ?xnw1 ?xsv1 ?xsu1 ?xop1 ?xme1 ?xin1 ?xty1 ?xkc1 ?xex1 ?xtc1 ?xic1 ?xss1 ?xto1 ?xl1 ?xc1 ?xlc1 ?xld1 ?xv1 ?xfi1 ?yg_DialError ?yi_DialError ?yt_DialError ?yg_NoBottom ?yi_NoBottom ?yt_NoBottom ?yg_NoLook ?yi_NoLook ?yt_NoLook ?yg_NoRing ?yi_NoRing ?yt_NoRing ?yg_NoRound ?yi_NoRound ?yt_NoRound ?yg_NoSide ?yi_NoSide ?yt_NoSide ?yg_NoSteps ?yi_NoSteps ?yt_NoSteps ?yg_NoText ?yi_NoText ?yt_NoText ?yg_NoUses ?yi_NoUses ?yt_NoUses ?yg_NoWord ?yi_NoWord ?yt_NoWord ?yb ?yga0 ?ygg0 ?yhd0 ?yha0 ?yhm0 ?yhn ?yht ?ysd0 ?ys_0_Clash ?yn_0_Clash ?ys_0_NoBottom ?yn_0_NoBottom ?ys_0_NoLook ?yn_0_NoLook ?ys_0_NoRing ?yn_0_NoRing ?ys_0_NoRound ?yn_0_NoRound ?ys_0_NoSide ?yn_0_NoSide ?ys_0_NoSteps ?yn_0_NoSteps ?ys_0_NoText ?yn_0_NoText ?ys_0_NoUses ?yn_0_NoUses ?ys_0_NoWord ?yn_0_NoWord ?yga1 ?ygg1 ?yhd1 ?yha1 ?yhm1 ?ysd1 ?ys_1_NoLength ?yn_1_NoLength ?ys_1_NoBottom ?yn_1_NoBottom ?ys_1_NoLook ?yn_1_NoLook ?ys_1_NoRing ?yn_1_NoRing ?ys_1_NoRound ?yn_1_NoRound ?ys_1_NoSide ?yn_1_NoSide ?ys_1_NoSteps ?yn_1_NoSteps ?ys_1_NoText ?yn_1_NoText ?ys_1_NoUses ?yn_1_NoUses ?ys_1_NoWord ?yn_1_NoWord
    (case aC => k_is)
    (case aC_Walk => k_is)
    (case a0 => k_is)
    (case l0 => k_is)
    (case c0 => k_is)
    (case k0 => k_is)
    (case a1 => k_is)
    (case l1 => k_is)
    (case c1 => k_is)
    (case k1 => k_is)
    (case a2 => k_is)
    (case l2 => k_is)
    (case c2 => k_is)
    (case k2 => k_is)
    (case a3 => k_is)
    (case l3 => k_is)
    (case c3 => k_is)
    (case k3 => k_is)
    (case a4 => k_is)
    (case l4 => k_is)
    (case c4 => k_is)
    (case k4 => k_is)
    (case a5 => k_is)
    (case l5 => k_is)
    (case c5 => k_is)
    (case k5 => k_is)
    (case a6 => k_is)
    (case l6 => k_is)
    (case c6 => k_is)
    (case k6 => k_is)
    (case a7 => k_is)
    (case l7 => k_is)
    (case c7 => k_is)
    (case k7 => k_is)
    (case a8 => k_is)
    (case l8 => k_is)
    (case c8 => k_is)
    (case k8 => k_is)
    (case a9 => k_is)
    (case l9 => k_is)
    (case c9 => k_is)
    (case k9 => k_is)
    (case a10 => k_is)
    (case l10 => k_is)
    (case c10 => k_is)
    (case k10 => k_is)
    (case a11 => k_is)
    (case i11 => k_is)
    (case l11 => k_is)
    (case c11 => k_is)
    (case k11 => k_is)
    (case a12 => k_is)
    (case i12 => k_is)
    (case l12 => k_is)
    (case c12 => k_is)
    (case k12 => k_is)
    (case a13 => k_is)
    (case i13 => k_is)
    (case l13 => k_is)
    (case c13 => k_is)
    (case k13 => k_is)
    (case a14 => k_is)
    (case i14 => k_is)
    (case l14 => k_is)
    (case c14 => k_is)
    (case k14 => k_is)
    (case a15 => k_is)
    (case i15 => k_is)
    (case l15 => k_is)
    (case c15 => k_is)
    (case k15 => k_is)
    (case a16 => k_is)
    (case l16 => k_is)
    (case c16 => k_is)
    (case k16 => k_is)
    (case a17 => k_is)
    (case l17 => k_is)
    (case c17 => k_is)
    (case k17 => k_is)
    (case a18 => k_is)
    (case l18 => k_is)
    (case c18 => k_is)
    (case k18 => k_is)
    (case a19 => k_is)
    (case l19 => k_is)
    (case c19 => k_is)
    (case k19 => k_is)
    (case a20 => k_is)
    (case l20 => k_is)
    (case c20 => k_is)
    (case k20 => k_is)
    (case a21 => k_is)
    (case l21 => k_is)
    (case c21 => k_is)
    (case k21 => k_is)
    (case a22 => k_is)
    (case l22 => k_is)
    (case c22 => k_is)
    (case k22 => k_is)
    (case a23 => k_is)
    (case i23 => k_is)
    (case l23 => k_is)
    (case c23 => k_is)
    (case k23 => k_is)
    (case a24 => k_is)
    (case i24 => k_is)
    (case l24 => k_is)
    (case c24 => k_is)
    (case k24 => k_is)
    (case a25 => k_is)
    (case i25 => k_is)
    (case l25 => k_is)
    (case c25 => k_is)
    (case k25 => k_is)
    (case a26 => k_is)
    (case i26 => k_is)
    (case l26 => k_is)
    (case c26 => k_is)
    (case k26 => k_is)
    (case a27 => k_is)
    (case i27 => k_is)
    (case l27 => k_is)
    (case c27 => k_is)
    (case k27 => k_is)
    (case a28 => k_is)
    (case i28 => k_is)
    (case l28 => k_is)
    (case c28 => k_is)
    (case k28 => k_is)
    (case a29 => k_is)
    (case i29 => k_is)
    (case l29 => k_is)
    (case c29 => k_is)
    (case k29 => k_is)
    (case a30 => k_is)
    (case l30 => k_is)
    (case c30 => k_is)
    (case k30 => k_is)
    (case pg => k_is)
    (case hd => k_is)
    (case po => k_is)
    (case sa => k_is)
    (case mk => k_is)
    (case kc => k_is)
    (case n_length => k_is)
    (case n_looks => k_is)
    (case pg_Walk => k_is)
    (case hd_Walk => k_is)
    (case po_Walk => k_is)
    (case sa_Walk => k_is)
    (case mk_Walk => k_is)
    (case kc_Walk => k_is)
    (case nWalk_places => k_is)
    (case nWalk_told_by => k_is)
    (case nWalk_start => k_is)
    (case b_max => k_is)
    (case b_min => k_is)
    (case b_len => k_is)
    (case b_range => k_is)
    (case b_sorted => k_is)
    (case b_set => k_is)
    (case b_abs => k_is)
    (case b_list => k_is)
    (case b_int => k_is)
    (case b_enumerate => k_is)
    (case b_divmod => k_is)
    (case g_gcd0 => k_is)
    (case b_isinstance => k_is)
    (case b_ValueError => k_is)
    (case b_super => k_is)
    (case gSLOW => k_is)
    (case gFAST => k_is)
    (case gW => k_is)
    (case lW => k_is)
    (case keys => k_keys)
    (case low => decide +kernel)
    (case wS => k_is)
    (case wF => k_is)
    (case lS => k_is)
    (case lF => k_is)
    (case gL => k_is)
    (case lL => k_is)
    (case xg0 => k_is)
    (case xL0 => k_is)
    (case xbv0 => decide +kernel)
    (case xsa0 => k_is)
    (case xnw0 => k_is)
    (case xsv0 => k_is)
    (case xsu0 => ks_is)
    (case xop0 => k_is)
    (case xme0 => k_is)
    (case xin0 => k_is)
    (case xty0 => k_is)
    (case xkc0 => k_is)
    (case xex0 => k_is)
    (case xtc0 => k_is)
    (case xic0 => k_is)
    (case xss0 => first | rfl | k_is)
    (case xto0 => first | rfl | decide +kernel)
    (case xl0 => k_is)
    (case xc0 => k_is)
    (case xlc0 => k_is)
    (case xld0 => k_is)
    (case xv0 => rfl)
    (case xfi0 => first | rfl | decide +kernel)
    (case xg1 => k_is)
    (case xL1 => k_is)
    (case xbv1 => decide +kernel)
    (case xsa1 => k_is)
    (case xnw1 => k_is)
    (case xsv1 => k_is)
    (case xsu1 => ks_is)
    (case xop1 => k_is)
    (case xme1 => k_is)
    (case xin1 => k_is)
    (case xty1 => k_is)
    (case xkc1 => k_is)
    (case xex1 => k_is)
    (case xtc1 => k_is)
    (case xic1 => k_is)
    (case xss1 => first | rfl | k_is)
    (case xto1 => first | rfl | decide +kernel)
    (case xl1 => k_is)
    (case xc1 => k_is)
    (case xlc1 => k_is)
    (case xld1 => k_is)
    (case xv1 => rfl)
    (case xfi1 => first | rfl | decide +kernel)
    (case yg_DialError => k_is)
    (case yi_DialError => k_is)
    (case yt_DialError => k_is)
    (case yg_NoBottom => k_is)
    (case yi_NoBottom => k_is)
    (case yt_NoBottom => k_is)
    (case yg_NoLook => k_is)
    (case yi_NoLook => k_is)
    (case yt_NoLook => k_is)
    (case yg_NoRing => k_is)
    (case yi_NoRing => k_is)
    (case yt_NoRing => k_is)
    (case yg_NoRound => k_is)
    (case yi_NoRound => k_is)
    (case yt_NoRound => k_is)
    (case yg_NoSide => k_is)
    (case yi_NoSide => k_is)
    (case yt_NoSide => k_is)
    (case yg_NoSteps => k_is)
    (case yi_NoSteps => k_is)
    (case yt_NoSteps => k_is)
    (case yg_NoText => k_is)
    (case yi_NoText => k_is)
    (case yt_NoText => k_is)
    (case yg_NoUses => k_is)
    (case yi_NoUses => k_is)
    (case yt_NoUses => k_is)
    (case yg_NoWord => k_is)
    (case yi_NoWord => k_is)
    (case yt_NoWord => k_is)
    (case yb => k_is)
    (case yga0 => k_is)
    (case ygg0 => k_is)
    (case yhd0 => k_is)
    (case yha0 => k_is)
    (case yhm0 => k_is)
    (case yhn => k_is)
    (case yht => k_is)
    (case ysd0 => first | k_is | rfl | decide +kernel)
    (case ys_0_Clash => first | k_is | rfl | decide +kernel)
    (case yn_0_Clash => first | rfl | decide +kernel)
    (case ys_0_NoBottom => first | k_is | rfl | decide +kernel)
    (case yn_0_NoBottom => first | rfl | decide +kernel)
    (case ys_0_NoLook => first | k_is | rfl | decide +kernel)
    (case yn_0_NoLook => first | rfl | decide +kernel)
    (case ys_0_NoRing => first | k_is | rfl | decide +kernel)
    (case yn_0_NoRing => first | rfl | decide +kernel)
    (case ys_0_NoRound => first | k_is | rfl | decide +kernel)
    (case yn_0_NoRound => first | rfl | decide +kernel)
    (case ys_0_NoSide => first | k_is | rfl | decide +kernel)
    (case yn_0_NoSide => first | rfl | decide +kernel)
    (case ys_0_NoSteps => first | k_is | rfl | decide +kernel)
    (case yn_0_NoSteps => first | rfl | decide +kernel)
    (case ys_0_NoText => first | k_is | rfl | decide +kernel)
    (case yn_0_NoText => first | rfl | decide +kernel)
    (case ys_0_NoUses => first | k_is | rfl | decide +kernel)
    (case yn_0_NoUses => first | rfl | decide +kernel)
    (case ys_0_NoWord => first | k_is | rfl | decide +kernel)
    (case yn_0_NoWord => first | rfl | decide +kernel)
    (case yga1 => k_is)
    (case ygg1 => k_is)
    (case yhd1 => k_is)
    (case yha1 => k_is)
    (case yhm1 => k_is)
    (case ysd1 => first | k_is | rfl | decide +kernel)
    (case ys_1_NoLength => first | k_is | rfl | decide +kernel)
    (case yn_1_NoLength => first | rfl | decide +kernel)
    (case ys_1_NoBottom => first | k_is | rfl | decide +kernel)
    (case yn_1_NoBottom => first | rfl | decide +kernel)
    (case ys_1_NoLook => first | k_is | rfl | decide +kernel)
    (case yn_1_NoLook => first | rfl | decide +kernel)
    (case ys_1_NoRing => first | k_is | rfl | decide +kernel)
    (case yn_1_NoRing => first | rfl | decide +kernel)
    (case ys_1_NoRound => first | k_is | rfl | decide +kernel)
    (case yn_1_NoRound => first | rfl | decide +kernel)
    (case ys_1_NoSide => first | k_is | rfl | decide +kernel)
    (case yn_1_NoSide => first | rfl | decide +kernel)
    (case ys_1_NoSteps => first | k_is | rfl | decide +kernel)
    (case yn_1_NoSteps => first | rfl | decide +kernel)
    (case ys_1_NoText => first | k_is | rfl | decide +kernel)
    (case yn_1_NoText => first | rfl | decide +kernel)
    (case ys_1_NoUses => first | k_is | rfl | decide +kernel)
    (case yn_1_NoUses => first | rfl | decide +kernel)
    (case ys_1_NoWord => first | k_is | rfl | decide +kernel)
    (case yn_1_NoWord => first | rfl | decide +kernel)
