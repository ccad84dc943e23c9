import PyProof.Rows.All
import Wide.All
import OpenK.AllK
import Wide.FinOn
import HandS.ForMost
import HandS.Wide
import HandS.Deep
import HandS.IsInst
import HandS.Strs
import HandS.Codes
import HandS.Gcd
import KE.SortData
import KE.DataMinMax
import HandS.SetFor
import HandS.TupSets
import HandS.SetKeys
import PyProof.NeKinds
import HandS.DeepEq
import KE.KSuper
import KE.KExcSuper
import HandS.Base
import HandS.Call
import HandS.Exc
import HandS.ExcInit
import HandS.Words
import KE.RegKSuper
import HandS.OwnEq
import KE.KExcIs
import HandS.ExcField
import HandS.ExcValue
import HandS.Defaults
import HandS.MakeKwOnly
import HandS.ExcOwn
import HandS.TryOnly
import HandS.Text
import PyProof.StrOps2
import HandS.Rev
import HandS.MapJoin
import PyProof.JoinWalk
import HandS.StrMore
import HandS.FStr
import HandS.Star
import HandS.WordsExc
import HandS.Walk
import HandS.CallLocal
import HandS.Style
import PySem.Challenge.RW_darkpace_k56_whole_one_writing
set_option Elab.async false
set_option linter.all false
set_option maxRecDepth 100000
set_option exponentiation.threshold 3000
set_option maxHeartbeats 16000000
/-! Rules of our own: data under a growing heap, sorted and max and min of data, set of ints, a written dict's item, a method called with a keyword. -/
namespace DP
open PySem PySem.Spec PyProof.Rows L2

theorem rooms {A : Around} {k : Nat} (hr : Room k A) : A.units + 65 < cLine := by have := hr.un; omega

theorem Same.rd {H H' : Hp} {a : Addr} {u : HO} (S : Same H H') (h : Rd H a u) : Rd H' a u := by
  rcases h with h | ⟨o, h⟩
  · exact Or.inl (S _ _ h)
  · exact Or.inr ⟨o, S _ _ h⟩
theorem Same.sqT {K : PySem.W.Frag} {H H' : Hp} {a : Addr} {xs : List V} (S : Same H H') (h : SqT K H a xs) : SqT K H' a xs := by
  rcases h with h | h
  · exact Or.inl (Same.rd S h)
  · exact Or.inr h
theorem Same.sqL {K : PySem.W.Frag} {H H' : Hp} {a : Addr} {xs : List V} (S : Same H H') (h : SqL K H a xs) : SqL K H' a xs := by
  rcases h with h | h
  · exact Or.inl (Same.rd S h)
  · exact Or.inr h
mutual
theorem dp_mono {K : PySem.W.Frag} {H H' : Hp} (S : Same H H') : ∀ (d : PyData) (v : V), Dp K H v d → Dp K H' v d
  | .none, _, h => by cases h; exact .non
  | .bool b, _, h => by cases h; exact .bl _
  | .int b, _, h => by cases h; exact .int _
  | .str b, _, h => by cases h; exact .str _
  | .list ds, _, h => by
    cases h with
    | lst s a => exact .lst (Same.sqL S s) (dpAll_mono S ds _ a)
  | .tuple ds, _, h => by
    cases h with
    | tup s a => exact .tup (Same.sqT S s) (dpAll_mono S ds _ a)
  | .dict _, _, h => by cases h
theorem dpAll_mono {K : PySem.W.Frag} {H H' : Hp} (S : Same H H') : ∀ (ds : List PyData) (vs : List V), DpAll K H vs ds → DpAll K H' vs ds
  | [], _, h => by cases h; exact .nil
  | d :: ds, _, h => by
    cases h with
    | cons a b => exact .cons (dp_mono S d _ a) (dpAll_mono S ds _ b)
end
section
variable {K : PySem.W.Frag} {H : Hp}
theorem dpAll_len : ∀ {vs : List V} {ds : List PyData}, DpAll K H vs ds → vs.length = ds.length
  | _, _, .nil => rfl
  | _, _, .cons _ t => by rw [List.length_cons, List.length_cons, dpAll_len t]
theorem dpAll_get : ∀ {vs : List V} {ds : List PyData} {i : Nat} {v : V}, DpAll K H vs ds → vs[i]? = some v → ∃ d, ds[i]? = some d ∧ Dp K H v d
  | _, _, _, _, .nil, e => by simp at e
  | _, _, 0, _, .cons r _, e => by simp at e; subst e; exact ⟨_, rfl, r⟩
  | _, _, i + 1, v, .cons _ t, e => by
    obtain ⟨d, h1, h2⟩ := dpAll_get (i := i) (v := v) t (by simpa using e)
    exact ⟨d, by simpa using h1, h2⟩
theorem dpAll_get' : ∀ {vs : List V} {ds : List PyData} {i : Nat} {d : PyData}, DpAll K H vs ds → ds[i]? = some d → ∃ v, vs[i]? = some v ∧ Dp K H v d
  | _, _, _, _, .nil, e => by simp at e
  | _, _, 0, _, .cons r _, e => by simp at e; subst e; exact ⟨_, rfl, r⟩
  | _, _, i + 1, v, .cons _ t, e => by
    obtain ⟨d, h1, h2⟩ := dpAll_get' (i := i) (d := v) t (by simpa using e)
    exact ⟨d, by simpa using h1, h2⟩
theorem dpAll_snoc : ∀ {vs : List V} {ds : List PyData} {v : V} {d : PyData}, DpAll K H vs ds → Dp K H v d → DpAll K H (vs ++ [v]) (ds ++ [d])
  | _, _, _, _, .nil, r => .cons r .nil
  | _, _, _, _, .cons q t, r => .cons q (dpAll_snoc t r)
theorem dpAll_app : ∀ {vs ws : List V} {ds es : List PyData}, DpAll K H vs ds → DpAll K H ws es → DpAll K H (vs ++ ws) (ds ++ es)
  | _, _, _, _, .nil, r => r
  | _, _, _, _, .cons q t, r => .cons q (dpAll_app t r)
theorem dpAll_ints : ∀ ns : List Int, DpAll K H (ns.map V.int) (ns.map PyData.int)
  | [] => .nil
  | n :: ns => .cons (.int n) (dpAll_ints ns)
theorem dpAll_int : ∀ {vs : List V} {ns : List Int}, DpAll K H vs (ns.map PyData.int) → vs = ns.map V.int
  | _, [], h => by cases h; rfl
  | _, n :: ns, h => by
    have h' : DpAll K H _ (PyData.int n :: ns.map PyData.int) := h
    cases h' with
    | cons a b =>
      cases a
      rw [dpAll_int b]; rfl
theorem same_upd {H : Hp} {p : Addr} {o : HO} (h : H p = none) : Same H (upd H p o) := fun b u e => by rw [upd_ne (ne_of_none e h)]; exact e
end

section
variable {X : Cx}
/-- sorted(xs): xs a list of alike data, of any length; P is what is known of each -/
def rSortD (K : PySem.W.Frag) {β : Type} (enc : β → PyData) : List V → Hp → VK → Prop := fun vs H Q => ∃ (a : Addr) (xs : List V) (bs : List β), vs = [V.ref a] ∧ SqL K H a xs ∧ DpAll K H xs (bs.map enc) ∧
  PySem.W.AllAlike (bs.map enc) ∧ PySem.W.Sortable (bs.map enc) ∧ (∀ b ∈ bs, (enc b).depth ≤ 60) ∧
  ∀ (p : Addr) (ys : List V) H', H p = none → Same H H' → H' p = some (.lst ys) → DpAll K H' ys ((bs.mergeSort (PySem.W.dataLe false enc)).map enc) → Q (.ref p) H'
theorem each_vals {K : PySem.W.Frag} {H : Hp} {β : Type} {enc : β → PyData} : ∀ {xs : List V} {us : List Value} {bs : List β}, Vals xs us → DpAll K H xs (bs.map enc) → PySem.W.EachIs (fun u b => ∃ x, RelV x u ∧ Dp K H x (enc b)) us bs
  | _, _, [], r, d => by
    have d' : DpAll K H _ [] := d
    cases d'
    cases r
    exact .nil
  | _, _, b :: bs, r, d => by
    have d' : DpAll K H _ (enc b :: bs.map enc) := d
    cases d' with
    | cons d1 d2 =>
      cases r with
      | cons r1 r2 => exact .cons ⟨_, r1, d1⟩ (each_vals r2 d2)
theorem vals_each {K : PySem.W.Frag} {H : Hp} {β : Type} {enc : β → PyData} : ∀ {us : List Value} {bs : List β}, PySem.W.EachIs (fun u b => ∃ x, RelV x u ∧ Dp K H x (enc b)) us bs → ∃ xs, Vals xs us ∧ DpAll K H xs (bs.map enc)
  | _, _, .nil => ⟨[], .nil, .nil⟩
  | _, _, .cons ⟨x, r, d⟩ t => by
    obtain ⟨xs, h1, h2⟩ := vals_each t
    exact ⟨x :: xs, .cons r h1, .cons d h2⟩
theorem cr_sortD {β : Type} (enc : β → PyData) (hu : X.A.units + 65 < cLine) : CallR X (.builtin "sorted") (rSortD X.K enc) := by
  intro pins s σ H vs us Q I r h
  obtain ⟨a, xs, bs, rfl, hs, hd, hal, hk, hdep, q⟩ := h
  obtain ⟨its, rv, hl, hz⟩ := I.list hs
  rw [Vals.ref1 r]
  have hlen : its.length = bs.length := by rw [← rv.length, dpAll_len hd, List.length_map]
  have e := each_vals rv hd
  obtain ⟨as, ra⟩ := Dp.readsAll I _ _ _ hd rv
  refine PySem.W.sorted_data (enc := enc) (bs := bs) (vs := its) hl.isList e (PySem.W.readsAll_each enc ra) hal hk (by rw [← hlen, ← rv.length]; exact hz) (fun b hb => ?_) fun out ho eo => ?_
  · have := hdep b hb
    omega
  · obtain ⟨ys, h1, h2⟩ := vals_each eo
    obtain ⟨ep, he'⟩ := PyProof.Rows.sortedAll_at s.heap its (List.toArray out)
    have hn : H (s.heap.objs.size + 1) = none := I.hok.fresh (Nat.le_succ _)
    have hyl : ys.length ≤ sizeLine := by
      rw [h1.length, ho, ← hlen, ← rv.length]; exact hz
    refine ⟨.ref _, upd H (s.heap.objs.size + 1) (.lst ys), I.laid (t' := s.toks) (fun _ _ => PyProof.Rows.sortedAll_old) (Nat.le_succ _) ⟨hyl, out, ep, h1, he'⟩, rfl, q _ ys _ hn (same_upd hn) upd_same ?_⟩
    exact dpAll_mono (same_upd hn) _ _ h2

/-- max(xs), min(xs): xs a list of alike data -/
def rBestD (K : PySem.W.Frag) (best : PyData → List PyData → PyData) : List V → Hp → VK → Prop := fun vs H Q => ∃ (a : Addr) (xs : List V) (d : PyData) (ds : List PyData), vs = [V.ref a] ∧ SqL K H a xs ∧ DpAll K H xs (d :: ds) ∧
  PySem.W.AlikeAll (d :: ds) ∧ PyData.canLayAll0 (d :: ds) = true ∧ PyData.depthAll (d :: ds) ≤ 60 ∧
  ∀ (x : V), Dp K H x (best d ds) → Q x H
theorem best_end {pins : List (Addr × Obj)} {s : Shared} {σ : L2.St} {H : Hp} {Q : VK} (I : Inv X pins σ H s) {xs : List V} {its : List Value} {as : List Addr} {ds : List PyData} (rv : Vals xs its) (hd : DpAll X.K H xs ds) (ra : ReadsAll s.heap its ds as) (hc : PyData.canLayAll0 ds = true) {i : Nat} {v : Value} {h' : Heap} {tk : Nat} {bs : List Addr} {e : PyData} (hi : its.toArray[i]? = some v)
    (hr : Reads h' v e bs) (he : e.canLay0 = true) (hk : ∀ b o, s.heap.get? b = some o → h'.get? b = some o) (q : ∀ x, Dp X.K H x e → Q x H) : EP X pins σ Q v { heap := h', gens := s.gens, drawn := s.drawn, toks := tk, os := s.os } := by
  have hi' : its[i]? = some v := by simpa using hi
  have hlt : i < its.length := by
    rcases Nat.lt_or_ge i its.length with h | h
    · exact h
    · rw [List.getElem?_eq_none h] at hi'; cases hi'
  obtain ⟨x, hx⟩ : ∃ x, xs[i]? = some x := ⟨xs[i]'(by rw [rv.length]; exact hlt), List.getElem?_eq_getElem _⟩
  obtain ⟨u, hu, ru⟩ := rv.get hx
  have euv : u = v := Option.some.inj (hu.symm.trans hi')
  subst euv
  obtain ⟨d, hdi, hdx⟩ := dpAll_get hd hx
  obtain ⟨as', rx⟩ := Dp.reads I d x u hdx ru
  have rx' : Reads h' u d as' := PyProof.Rows.Reads.keeps hk rx
  have hcd : d.canLay0 = true := by
    have : ∀ (ds : List PyData) (i : Nat), PyData.canLayAll0 ds = true → ds[i]? = some d → d.canLay0 = true := by
      intro ds
      induction ds with
      | nil => intro i _ h; simp at h
      | cons a r ih =>
        intro i h1 h2
        rw [PyData.canLayAll0, Bool.and_eq_true] at h1
        cases i with
        | zero => simp at h2; rw [← h2]; exact h1.1
        | succ i => exact ih i h1.2 (by simpa using h2)
    exact this ds i hc hdi
  have e1 := SeqAt.readOf_eq hcd rx'
  have e2 := SeqAt.readOf_eq he hr
  have ed : d = e := e1.symm.trans e2
  subst ed
  exact ⟨x, H, I.kept hk, ru, q x hdx⟩
theorem canLay_fold (f : PyData → PyData → Bool) : ∀ (ds : List PyData) (d : PyData), PyData.canLayAll0 (d :: ds) = true → (ds.foldl (fun a y => if f a y then y else a) d).canLay0 = true
  | [], d, h => by
    rw [PyData.canLayAll0, Bool.and_eq_true] at h
    exact h.1
  | e :: ds, d, h => by
    rw [PyData.canLayAll0, PyData.canLayAll0, Bool.and_eq_true, Bool.and_eq_true] at h
    rw [List.foldl_cons]
    refine canLay_fold f ds _ ?_
    rw [PyData.canLayAll0, Bool.and_eq_true]
    refine ⟨?_, h.2.2⟩
    split
    · exact h.2.1
    · exact h.1
theorem cr_maxD (hc : X.calm = true) (hu : X.A.units + 65 < cLine) : CallR X (.builtin "max") (rBestD X.K PySem.W.maxD) := by
  intro pins s σ H vs us Q I r h
  obtain ⟨a, xs, d, ds, rfl, hs, hd, hal, hl0, hdep, q⟩ := h
  obtain ⟨its, rv, hl, hz⟩ := I.list hs
  rw [Vals.ref1 r]
  obtain ⟨as, ra⟩ := Dp.readsAll I _ _ _ hd rv
  exact PySem.W.max_list_data (I.ok.hd hc) hl.isList (by simpa using ra) hal (by omega) fun i v h' tk bs hi hr hk => best_end I rv hd ra hl0 hi hr (canLay_fold _ ds d hl0) hk q
theorem cr_minD (hc : X.calm = true) (hu : X.A.units + 65 < cLine) : CallR X (.builtin "min") (rBestD X.K PySem.W.minD) := by
  intro pins s σ H vs us Q I r h
  obtain ⟨a, xs, d, ds, rfl, hs, hd, hal, hl0, hdep, q⟩ := h
  obtain ⟨its, rv, hl, hz⟩ := I.list hs
  rw [Vals.ref1 r]
  obtain ⟨as, ra⟩ := Dp.readsAll I _ _ _ hd rv
  exact PySem.W.min_list_data (I.ok.hd hc) hl.isList (by simpa using ra) hal (by omega) fun i v h' tk bs hi hr hk => best_end I rv hd ra hl0 hi hr (canLay_fold (fun a y => PySem.W.dataLt y a) ds d hl0) hk q
end
end DP
/-! set(xs) of a list of whole numbers, sorted then. -/
namespace DP
open PySem PySem.Spec PyProof.Rows L2
/-- a fresh set -/
abbrev newSet (w : World) : Obj := { cls := .type "set", dict := none, data := .set #[] 0 (.fresh 0 0 (!w.params.followText "set-order")) }
theorem set_of_ints {P : Program} {w : World} {A : Around} {E : Value → Shared → Prop} {s : Shared} {l : Addr} {items : Array Value} (ns : List Int) {Q : Value → Shared → Prop} (hh : A.handled = none) (hl : s.heap.IsList l items) (hit : IntsAre items.toList ns) (hb : ns.length + 1 < scanBound)
    (h : ∀ (h' : Heap) (tk c : Nat), SetR w h' s.heap.objs.size (fun j => decide (j ∈ ns)) c → c ≤ ns.length → (∀ b o, s.heap.get? b = some o → h'.get? b = some o) → Q (.ref s.heap.objs.size) { s with heap := h', toks := tk }) :
    wpAny (model P w) A (call (.type "set") [.ref l]) Q E s := by
  have hisz : items.size = ns.length := (Array.length_toList (xs := items)).symm.trans (IntsAre.length hit)
  have C := F.called_set
  obtain ⟨c, tl, hmro⟩ := C.mro
  have hmade := C.made; have hsub := C.sub
  refine wpAny_call (codeAny_of_tree ?_)
  show wpAny _ _ (callAny (.type "set") _) _ _ _
  refine wpAny_pure ⟨Code.quiet_builtin _ (by decide +kernel), codeAny_builtin F.entry_type_call ?_⟩
  rw [Around.under_plain (weight_type_call_type "set" [.ref l] []) rfl]
  have h1 := C.notType; have h2 := C.canCreate
  have hct := F.typeCall_set_1 (.ref l)
  repeat (any_goals (first | assumption | wp_step))
  refine codeAny_mono (code_set_led1 (.ref l) (E := E) (Q₁ := fun obj s₁ => obj = .ref s.heap.objs.size ∧ s₁ = { s with heap := s.heap.push (newSet w) }) ⟨rfl, rfl⟩) fun r s₁ hr => ?_
  cases r with
  | error e => exact hr
  | ok fl =>
  cases fl with
  | ret obj =>
    obtain ⟨rfl, rfl⟩ := hr
    have hS : (s.heap.push (newSet w)).get? s.heap.objs.size = some (newSet w) := Heap.get?_push_size _ rfl
    have hT : Shared.TypeIs { s with heap := s.heap.push (newSet w) } (.ref s.heap.objs.size) "set" := ⟨_, hS, rfl⟩
    have hli := C.init.lookup; have hbi := C.init.bind (.ref s.heap.objs.size)
    repeat (any_goals (first | assumption | wp_step))
    refine codeAny_mono (codeAny_call_builtin (R := wants (fun r s₂ => r = .none ∧ ∃ h' tk c, s₂ = { s with heap := h', toks := tk } ∧ SetR w h' s.heap.objs.size (fun j => decide (j ∈ ns)) c ∧ c ≤ ns.length ∧ ∀ b o, s.heap.get? b = some o → h'.get? b = some o) E) C.init.plain F.entry_set_init (check_set_init_1 hT ?_)) fun r₂ s₂ hr₂ => ?_
    · obtain ⟨⟨ocls, odict, odata, oslots⟩, hol, hcl, nl, hdl⟩ := hl
      simp only at hcl hdl
      subst hcl hdl
      have hol' : (s.heap.push (newSet w)).get? l = some { cls := .type "list", dict := odict, data := .seq items nl, slots := oslots } := Heap.get?_push_of_some _ hol
      have hsls := F.sub_list_set; have hslf := F.sub_list_frozenset
      have hne : (Value.type "list" == Value.type "dict") = false := by decide
      have hl1 : (s.heap.push (newSet w)).IsList l items := ⟨_, hol', rfl, nl, rfl⟩
      unfold Builtin.«set.__init__» noKeywords Builtin.Frozenset.updateFrom
      generalize hPI : pyIter = PI
      wp_walk
      subst hPI
      refine wpAny_pyIter_list hl1 (wpAny_bind (wpAny_runValue ?_))
      have hlS : l < s.heap.objs.size := Heap.lt_size hol
      have hh3 : A.in1.in1.in1.handled = none := by simp [hh]
      have hz : (s.heap.push (newSet w)).objs.size = s.heap.objs.size + 1 := Heap.size_push ..
      have hneI : l ≠ (s.heap.push (newSet w)).objs.size := by rw [hz]; exact Nat.ne_of_lt (Nat.lt_succ_of_lt hlS)
      have hSf : s.heap.objs.size ∉ [(s.heap.push (newSet w)).objs.size, l] := by
        rw [hz]; simp only [List.mem_cons, List.not_mem_nil, or_false, not_or]; exact ⟨Nat.ne_of_lt (Nat.lt_succ_self _), Nat.ne_of_gt hlS⟩
      have hval : ∀ (i : Nat) (v : Value), items[i]? = some v → ∃ k t, ns[i]? = some k ∧ v = .int k t := fun i v hv => by
        have hi : i < ns.length := hisz ▸ (Array.getElem?_eq_some_iff.mp hv).1
        obtain ⟨t, e⟩ := PyProof.Rows.IntsAre.int_at hit i v (by rw [Array.getElem?_toList]; exact hv)
        exact ⟨ns[i], t, List.getElem?_eq_getElem hi, by rw [e, List.getD_eq_getElem?_getD, List.getElem?_eq_getElem hi]; rfl⟩
      refine set_update_ints ((Walks.list hh3 _ l hneI items).toS) s.heap.objs.size hSf ns hisz hb hval (items.size - 0) 0 _ (by omega) (Nat.zero_le _) ⟨⟨_, Heap.get?_push_size _ rfl, rfl, rfl⟩, (hl1.push _)⟩ ?z0 ?zR
      case z0 => exact ⟨0, Nat.le_refl 0, setR_new_at (Heap.get?_push_of_some _ hS)⟩
      case zR =>
        intro s' c' hm hc' hS'
        obtain ⟨h', g2, d', tk', os'⟩ := s'
        have eg : g2 = s.gens := hm.gens
        have ed : d' = s.drawn := hm.drawn
        have eo : os' = s.os := hm.os
        subst eg ed eo
        rw [hisz] at hc'
        refine wpAny_pure (?_ : wpAny _ _ (ret Value.none) _ _ _)
        refine wpAny_pure ⟨rfl, h', tk', c', rfl, hS', hc', fun b o e => ?_⟩
        have hb0 : b < s.heap.objs.size := Heap.lt_size e
        refine hm.heap b o ?_ (Heap.get?_push_of_some _ (Heap.get?_push_of_some _ e))
        simp only [List.mem_cons, List.not_mem_nil, or_false, not_or]
        exact ⟨Nat.ne_of_lt hb0, by rw [hz]; exact Nat.ne_of_lt (Nat.lt_succ_of_lt hb0)⟩
    · cases r₂ with
      | error e => exact hr₂
      | ok fl₂ =>
      cases fl₂ with
      | ret r =>
        obtain ⟨rfl, h', tk, c', rfl, hS', hc', hk'⟩ := hr₂
        repeat (any_goals (first | assumption | wp_step))
        exact h _ _ _ hS' hc' hk'
      | _ => exact hr₂.elim
  | _ => exact hr.elim
section
variable {X : Cx}
/-- set(xs), xs a list of whole numbers -/
def rSetI (K : PySem.W.Frag) (w : World) : List V → Hp → VK → Prop := fun vs H Q => ∃ (l : Addr) (ns : List Int), vs = [V.ref l] ∧ SqL K H l (ns.map V.int) ∧ ns.length ≤ 60 ∧
  ∀ (a : Addr) (c : Nat), c ≤ ns.length → H a = none → Q (.ref a) (upd H a (SetO w a (fun j => decide (j ∈ ns)) c))
theorem cr_setI (hc : X.calm = true) : CallR X (.type "set") (rSetI X.K X.w) := by
  intro pins s σ H vs us Q I r h
  obtain ⟨l, ns, rfl, hs, hlen, q⟩ := h
  obtain ⟨its, rv, pl, hz⟩ := I.list hs
  rw [Vals.ref1 r]
  have hi : IntsAre its.toArray.toList ns := by simpa using rv.ints
  refine set_of_ints ns (I.ok.hd hc) pl.isList hi (by unfold scanBound; omega) fun h' tk c R hcl hk => ?_
  exact ⟨.ref _, upd H s.heap.objs.size (SetO X.w s.heap.objs.size (fun j => decide (j ∈ ns)) c), I.laid (t' := tk) hk (Nat.le_refl _) (setO_new R), rfl, q _ c hcl (I.hok.fresh (Nat.le_refl _))⟩
/-- d[k], d a written dict -/
theorem ix_kd {d : Addr} {es : Array DictEntry} {n : Nat} (D : KDict X.K X.w d es n) : IxR X (fun x y H Q => ∃ (z : Str) (u0 : Value) (v0 : V), x = .ref d ∧ y = .str z ∧ PySem.W.nsIn X.K d z = some (some u0) ∧ RelV v0 u0 ∧ Q v0 H) := by
  intro value slice pins s σ H x y v u Q I rx ry h hs
  obtain ⟨z, u0, v0, ex, ey, e, r, q⟩ := h
  subst ex ey
  cases rx
  obtain ⟨t, rfl⟩ := ry
  have fin : EP X pins σ Q u0 s := ⟨v0, H, I, r, q⟩
  exact subscriptTail_builtinR (x := u0) (kd_type D I) PySem.F.slot_dict_getitem.lookup
    (wpAny_getItem_of (PySem.strKind_is X.prog X.w z t) (PySem.W.mapOf_K (prog := X.prog) I.kIn D.at_ D.lit) (PySem.W.find_K D.at_ e) ⟨rfl, ⟨v0, H, I.tok _, r, q⟩⟩) hs
end
end DP
/-! The rules with the written part named, for comprehensions; a method called with keywords. -/
namespace DP
open PySem PySem.Spec PyProof.Rows L2
section
variable {X : Cx} {K : PySem.W.Frag}
theorem ixT (h : X.K = K := by rfl) : IxR X (rIxT K) := by subst h; exact ix_tup
theorem ixL (h : X.K = K := by rfl) : IxR X (rIxL K) := by subst h; exact ix_list
theorem inS (h : X.K = K := by rfl) : OpR X (compareOp .In) (rIn K false) := by subst h; exact op_in_seq
theorem notInS (h : X.K = K := by rfl) : OpR X (compareOp .NotIn) (rIn K true) := by subst h; exact op_notIn_seq
theorem eqDK (hu : X.A.units + 64 < cLine) (h : X.K = K := by rfl) : OpR X (compareOp .Eq) (rEqD K) := by subst h; exact op_eqD hu
theorem neDK (hu : X.A.units + 64 < cLine) (h : X.K = K := by rfl) : OpR X (compareOp .NotEq) (rNeD K) := by subst h; exact op_neD hu
theorem inDK (hu : X.A.units + 65 < cLine) (h : X.K = K := by rfl) : OpR X (compareOp .In) (rInD K) := by subst h; exact op_inD hu
theorem notInDK (hu : X.A.units + 65 < cLine) (h : X.K = K := by rfl) : OpR X (compareOp .NotIn) (rNotInD K) := by subst h; exact op_notInD hu
def rLenK (K : PySem.W.Frag) : List V → Hp → VK → Prop := fun xs H Q => ∃ p ys, xs = [V.ref p] ∧ (SqL K H p ys ∨ SqT K H p ys) ∧ Q (.int ys.length) H
theorem lenK (h : X.K = K := by rfl) : CallR X (.builtin "len") (rLenK K) := by subst h; exact call_len_seq
def rListK (K : PySem.W.Frag) : List V → Hp → VK → Prop := fun xs H Q => ∃ p ys, xs = [V.ref p] ∧ (SqL K H p ys ∨ SqT K H p ys) ∧ ∀ l, H l = none → Q (.ref l) (upd H l (.lst ys))
theorem listK (h : X.K = K := by rfl) : CallR X (.type "list") (rListK K) := by subst h; exact call_list_of
theorem maxK (hc : X.calm = true) (h : X.K = K := by rfl) : CallR X (.builtin "max") (rMax K) := by subst h; exact cr_max hc
theorem minK (hc : X.calm = true) (h : X.K = K := by rfl) : CallR X (.builtin "min") (rMin K) := by subst h; exact cr_min hc
theorem maxDK (hc : X.calm = true) (hu : X.A.units + 65 < cLine) (h : X.K = K := by rfl) : CallR X (.builtin "max") (rBestD K PySem.W.maxD) := by subst h; exact cr_maxD hc hu
theorem minDK (hc : X.calm = true) (hu : X.A.units + 65 < cLine) (h : X.K = K := by rfl) : CallR X (.builtin "min") (rBestD K PySem.W.minD) := by subst h; exact cr_minD hc hu
theorem sortK (h : X.K = K := by rfl) : CallR X (.builtin "sorted") (rSorted K) := by subst h; exact cr_sorted
theorem sortDK {β : Type} (enc : β → PyData) (hu : X.A.units + 65 < cLine) (h : X.K = K := by rfl) : CallR X (.builtin "sorted") (rSortD K enc) := by subst h; exact cr_sortD enc hu
theorem setIK {w : World} (hc : X.calm = true) (h : X.K = K := by rfl) (hw : X.w = w := by rfl) : CallR X (.type "set") (rSetI K w) := by subst h hw; exact cr_setI hc
theorem sortedSetK {w : World} (hc : X.calm = true) (hw : X.w = w := by rfl) : CallR X (.builtin "sorted") (rSortedSet w) := by subst hw; exact cr_sortedSet hc
theorem slL (h : X.K = K := by rfl) : SlR X (rSlL K) := by subst h; exact sl_list
theorem isiK (h : X.K = K := by rfl) : CallR X (.builtin "isinstance") (rIsi K) := by subst h; exact call_isi
theorem fldK {o : Expr} {ta : TE} {f : Str} {pos : Pos} (he : PE X o ta) (hb : attributeBase o f X.env (eval o X.env) = eval o X.env := by rfl) (h : X.K = K := by rfl) : PE X (.Attribute o f pos) (tFld K ta f) := by subst h; exact pe_fld he hb
theorem tupK {es : List Expr} {k : Nat} {t : TGs} {n : Nat} {pos : Pos} (hc : X.calm = true) (h1 : PGs X es t) (hn : (assignEach es X.env).length = n := by rfl) (hst : (assignEach es X.env).findIdx? (·.1) = none := by rfl) (h : X.K = K := by rfl) :
    PG X (.Tuple es k pos) (gTup K n t) := by subst h; exact pg_tup hc h1 hn hst
end
section
variable {X : Cx} {CX : CXT} {k : Nat} {f C : Addr} {fd : FuncData} {ps ks : List Str} {sp : Sp} {E : XK} {m : Str} {pos apos : Pos} {o : Expr} {kws : List Keyword} {ta : TE} {tk : TA} {g : List Value → List Value → List Value} {gV : List V → List V → List V}
/-- o.m(k = v, ..) -/
def tMethK (C : Addr) (m : Str) (sp : Sp) (gV : List V → List V → List V) (E : XK) (ta : TE) (tk : TA) : TE := fun σ H Q => ta σ H fun x H1 => ∃ a dx fs, x = .ref a ∧ H1 a = some (.ins C dx fs) ∧ fs.lookup m = none ∧ tk σ H1 fun zs H2 => sp (gV [.ref a] zs) H2 Q E
theorem pe_methK0 {pl : Sem Bool} (he : PE X o ta) (c : Cls X.K C) (hm : Meth X.K C m f) (F : FnOk X.prog X.w X.K X.mg X.base CX k f fd ps sp) (hr : Room k X.A) (hb : KBinds X.K fd ps ks g gV) (hx : Passes CX X E) (hkw : PK X kws tk)
    (hall : (backToKw pos (keywordEach kws X.env)).all (·.1.isSome) = true := by rfl) (hks : (backToKw pos (keywordEach kws X.env)).filterMap (·.1) = ks := by rfl)
    (hpl : ((backTo pos (starEach [] X.env)).any (·.1) || (backToKw pos (keywordEach kws X.env)).any (·.1.isNone)) = false := by rfl)
    (ht : eval (.Call (.Attribute o m apos) [] kws pos) X.env = (do
      let ov ← eval o X.env
      standAt apos.atName
      let (f, first) ← holding [ov] (getMethod ov m pl)
      callWith pos f first (backTo pos (starEach [] X.env)) (backToKw pos (keywordEach kws X.env))) := by rfl) :
    PE X (.Call (.Attribute o m apos) [] kws pos) (tMethK C m sp gV E ta tk) := by
  refine ⟨fun pins s σ H Q I h => ?_⟩
  refine PySem.W.methodCall_KW (pl := pl) (thn (he.run pins s σ H _ I h) fun u s1 ⟨x, H1, I1, rx, a, dx, fs, ex, ea, l, q⟩ => ?_) ht
  subst ex
  obtain rfl : u = Value.ref a := rx
  refine getmeth_ok I1 ea c hm l ?_
  refine PySem.W.callWith_KW0 (first := [.ref a]) (h₀ := X.base) I.ok.mod.kin hm.kp hall ?_ hpl
  refine thn (hkw.run pos pins s1 σ H1 _ I1 q) fun ws s2 ⟨zs, H2, I2, rz, q2⟩ => ⟨I2.kIn, ?_⟩
  rw [hks]
  exact run_fnk (us := [.ref a]) (vs := [.ref a]) F hr hb hx I2 (.cons rfl .nil) rz q2
end
/-- one positional value, one keyword -/
def g11 {α : Type} : List α → List α → List α
  | [a], [b] => [a, b]
  | _, _ => []
theorem g11_rel {vs : List V} {us : List Value} {zs : List V} {ws : List Value} (r : Vals vs us) (q : Vals zs ws) : Vals (g11 vs zs) (g11 us ws) := by
  cases r with
  | nil => exact .nil
  | cons a t =>
    cases t with
    | cons _ _ => exact .nil
    | nil =>
      cases q with
      | nil => exact .nil
      | cons b t =>
        cases t with
        | cons _ _ => exact .nil
        | nil => exact .cons a (.cons b .nil)
end DP
/-! A set of tuples whose parts are plain (whole numbers, texts), made of a list and sorted: over any kind of plain parts. -/
namespace SD
open PySem PySem.Spec PyProof.Rows L2
section
variable {P : Program} {w : World} {κ : Type} [DecidableEq κ] {kn : KeyKind P w κ} {A : Around} {E : Value → Shared → Prop} {s : Shared}
/-- parts are no objects -/
def Plain (kn : KeyKind P w κ) : Prop := ∀ k v, kn.is k v = true → v.scannable = true
abbrev TupAt (kn : KeyKind P w κ) (h : Heap) (p : Addr × List κ) : Prop := IsTupleKey kn h p.2 p.1
abbrev hsh (kn : KeyKind P w κ) (k : List κ) : Int := tupleKeyHash kn k
theorem parts (pl : Plain kn) : ∀ {k : List κ} {vs : List Value}, ItemsAre kn k vs → ∀ v ∈ vs, v.scannable = true
  | _, _, .nil, v, h => by cases h
  | _, _, .cons a t, v, h => by
    rcases List.mem_cons.mp h with e | h
    · rw [e]; exact pl _ _ a
    · exact parts pl t v h
theorem no_class1 (n : Nat) {v : Value} (h : v.scannable = true) : ofAClassStatement n v = pure false := by
  cases n <;> cases v <;> simp_all [Value.scannable, ofAClassStatement]
theorem no_class (pl : Plain kn) {b : Addr} {k : List κ} {Q : Bool → Shared → Prop} (hk : TupAt kn s.heap (b, k)) (q : Q false s) : wpAny (model P w) A (ofAClassStatement 8 (.ref b)) Q E s := by
  have ty := IsTupleKey.typeIs hk
  obtain ⟨o, items, n, ho, _, hd, hi⟩ := hk
  have hp := parts pl hi
  unfold ofAClassStatement
  refine wpAny_bind (wpAny_typeOf ty ?_)
  dsimp only
  simp only [show (("tuple" : String) == "tuple") = true by decide, if_true, Bool.not_true, Bool.false_eq_true, if_false]
  try refine wpAny_bind (wpAny_pure ?_)
  try simp only [Bool.not_true, Bool.false_eq_true, if_false]
  refine wpAny_bind (wpAny_seqItems ho hd ?_)
  dsimp only
  refine wpAny_bind ?_
  rw [← Array.forIn_toList]
  refine wpAny_forIn_list _ (fun rest r s2 => (r.1 = none ∧ s2 = s) ∧ ∀ v ∈ rest, v.scannable = true) _ (fun v rest r s2 hh => ?_) (fun r s2 hh => ?_) _ _ ⟨⟨rfl, rfl⟩, hp⟩
  · obtain ⟨⟨h1, rfl⟩, h2⟩ := hh
    rw [no_class1 _ (h2 v List.mem_cons_self)]
    refine wpAny_bind (wpAny_pure ?_)
    simp only [Bool.false_eq_true, if_false]
    exact wpAny_pure ⟨⟨rfl, rfl⟩, fun u hu => h2 u (List.mem_cons_of_mem _ hu)⟩
  · obtain ⟨⟨h1, rfl⟩, _⟩ := hh
    obtain ⟨r1, r2⟩ := r
    have h1' : r1 = none := h1
    subst h1'
    exact wpAny_pure q
theorem by_value (pl : Plain kn) {b : Addr} {k : List κ} {Q : Bool → Shared → Prop} (hk : TupAt kn s.heap (b, k)) (q : ∀ r, Q r s) : wpAny (model P w) A (hashByValue 8 (.ref b)) Q E s := by
  have ty := IsTupleKey.typeIs hk
  obtain ⟨o, items, n, ho, _, hd, hi⟩ := hk
  have hp := parts pl hi
  unfold hashByValue
  refine wpAny_bind (wpAny_specialOf ty F.slot_tuple_hash.lookup ?_)
  show wpAny _ _ (seqItems? (.ref b) >>= _) _ _ s
  refine wpAny_bind (wpAny_seqItems ho hd ?_)
  refine wpAny_bind ?_
  show wpAny _ _ (forIn items _ _) _ _ s
  rw [← Array.forIn_toList]
  refine wpAny_forIn_list _ (fun rest r s2 => s2 = s ∧ ∀ v ∈ rest, v.scannable = true) _ (fun v rest r s2 hh => ?_) (fun r s2 hh => ?_) _ _ ⟨rfl, hp⟩
  · obtain ⟨rfl, h2⟩ := hh
    rw [hashByValue_scannable _ (h2 v List.mem_cons_self)]
    refine wpAny_bind (wpAny_pure ?_)
    cases plainKind v
    · simp only [Bool.not_false, if_true]
      exact wpAny_pure (show wpAny _ _ (pure false) _ _ _ from wpAny_pure (q false))
    · simp only [Bool.not_true, Bool.false_eq_true, if_false]
      exact wpAny_pure ⟨rfl, fun u hu => h2 u (List.mem_cons_of_mem _ hu)⟩
  · obtain ⟨rfl, _⟩ := hh
    obtain ⟨r1, r2⟩ := r
    cases r1 with
    | none => exact wpAny_pure (q true)
    | some r => exact wpAny_pure (q r)
end
section
variable {P : Program} {w : World} {κ : Type} [DecidableEq κ] {kn : KeyKind P w κ} {A : Around} {E : Value → Shared → Prop} {s : Shared}
/-- looking for a tuple among tuples shows nothing -/
theorem unseen (pl : Plain kn) {b : Addr} {k : List κ} {Q : Bool → Shared → Prop} (hk : TupAt kn s.heap (b, k)) {ys : List Value} (hy : ∀ y ∈ ys, ∃ p : Addr × List κ, y = Value.ref p.1 ∧ TupAt kn s.heap p) (q : Q false s) :
    wpAny (model P w) A (searchCouldBeSeen (.ref b) ys) Q E s := by
  unfold searchCouldBeSeen
  refine wpAny_bind ?_
  refine wpAny_forIn_list _ (fun rest r s2 => (r.1 = none ∧ s2 = s) ∧ ∀ y ∈ rest, ∃ p : Addr × List κ, y = Value.ref p.1 ∧ TupAt kn s.heap p) _ (fun v rest r s2 hh => ?_) (fun r s2 hh => ?_) _ _ ⟨⟨rfl, rfl⟩, hy⟩
  · obtain ⟨⟨h1, rfl⟩, h2⟩ := hh
    obtain ⟨p, rfl, hp⟩ := h2 v List.mem_cons_self
    have more : ∀ y ∈ rest, ∃ p : Addr × List κ, y = Value.ref p.1 ∧ TupAt kn s2.heap p := fun u hu => h2 u (List.mem_cons_of_mem _ hu)
    dsimp only
    cases c : (b == p.1 || (carriedByValue (.ref b) && carriedByValue (.ref p.1))) with
    | true =>
      refine wp_if_pos rfl ?_
      exact wpAny_pure ⟨⟨rfl, rfl⟩, more⟩
    | false =>
      refine wp_if_neg Bool.false_ne_true ?_
      refine wpAny_bind (wpAny_eqIsQuiet_tuple hk ?_)
      simp only [Bool.not_true, Bool.false_eq_true, if_false]
      refine wpAny_bind (wpAny_eqIsQuiet_tuple hp ?_)
      simp only [Bool.not_true, Bool.false_eq_true, if_false]
      refine wpAny_bind (no_class pl hk ?_)
      simp only [Bool.false_eq_true, if_false]
      refine wpAny_bind (no_class pl hp ?_)
      simp only [Bool.false_eq_true, if_false]
      exact wpAny_pure ⟨⟨rfl, rfl⟩, more⟩
  · obtain ⟨⟨h1, rfl⟩, _⟩ := hh
    obtain ⟨r1, r2⟩ := r
    have h1' : r1 = none := h1
    subst h1'
    exact wpAny_pure q
/-- an entry's row -/
def row (kn : KeyKind P w κ) (p : Addr × List κ) : Int × Value := (hsh kn p.2, .ref p.1)
/-- the set at a has the tuples L -/
structure Tb (kn : KeyKind P w κ) (h : Heap) (a : Addr) (L : List (Addr × List κ)) (es : Array (Int × Value)) (ep : Nat) (t : SetTable) : Prop where
  obj : ∃ o, h.get? a = some o ∧ o.ExactSet ∧ o.data = .set es ep t
  rows : es.toList = L.map (row kn)
  tab : TabOk t (L.map fun p => hsh kn p.2)
  one : (L.map Prod.snd).Nodup
  led : w.params.followText "set-order" = true ∨ t.led = true
  room : L.length * 5 < t.mask * 3
  few : L.length < 64
def All (kn : KeyKind P w κ) (h : Heap) (L : List (Addr × List κ)) : Prop := ∀ p ∈ L, TupAt kn h p
variable {a : Addr} {L : List (Addr × List κ)} {es : Array (Int × Value)} {ep : Nat} {t : SetTable}
theorem rows_len {L : List (Addr × List κ)} {es : Array (Int × Value)} (h : es.toList = L.map (row kn)) : es.size = L.length := by
  have e := congrArg List.length h
  rwa [Array.length_toList, List.length_map] at e
theorem tab_len {t : SetTable} {L : List (Addr × List κ)} (T : TabOk t (L.map fun p => hsh kn p.2)) : t.place.size = L.length := by
  have e := T.sz
  rwa [List.length_map] at e
theorem fits_of {t : SetTable} {n : Nat} (h1 : t.place.size = n) (h2 : t.dummies = #[]) (h3 : n ≤ t.mask) : t.fits n = true := by
  unfold SetTable.fits SetTable.fill
  rw [h2, h1, Bool.and_eq_true, beq_iff_eq, decide_eq_true_eq]
  exact ⟨rfl, h3⟩
theorem Tb.fit (R : Tb kn s.heap a L es ep t) : t.fits es.size = true := by
  rw [rows_len R.rows]
  have h := R.room
  exact fits_of (tab_len R.tab) R.tab.dm (by omega)
theorem row_at {L : List (Addr × List κ)} {es : Array (Int × Value)} (h : es.toList = L.map (row kn)) {i : Nat} {p : Addr × List κ} (hp : L[i]? = some p) : es[i]? = some (hsh kn p.2, Value.ref p.1) := by
  rw [← Array.getElem?_toList, h, List.getElem?_map, hp]; rfl
theorem undumb (m : Nat) : ∀ (n : Nat) (p : SetTable.Probe), p.dummy = none → (nth m p n).dummy = none
  | 0, _, h => h
  | n + 1, p, h => undumb m n (adv m p) (by unfold adv; split <;> exact h)
abbrev from0 (m : Nat) (h : Int) : SetTable.Probe := runAt m (SetTable.bits h % (m + 1)) (SetTable.bits h)
/-- the search for x, from step c of its way on -/
theorem seek (pl : Plain kn) (R : Tb kn s.heap a L es ep t) (R2 : All kn s.heap L) {x : Addr} {k : List κ} (hx : TupAt kn s.heap (x, k)) (hu : A.units < cLine) {n : Nat} (hn : n < 10 * SetTable.turns t.mask)
    (free : way t.mask (hsh kn k) n ∉ t.place.toList) (full : ∀ c, c < n → way t.mask (hsh kn k) c ∈ t.place.toList) {Q : SetFound → Shared → Prop} (yes : k ∈ L.map Prod.snd → Q (.there none) s)
    (no : k ∉ L.map Prod.snd → Q (.free (way t.mask (hsh kn k) n) false) s) :
    ∀ (f c : Nat) (stand : Option SetTable.Probe), stand.getD (t.probeStart (hsh kn k)) = nth t.mask (from0 t.mask (hsh kn k)) c → c ≤ n → n - c < f →
      (∀ (i : Nat) p, L[i]? = some p → p.2 = k → ∃ d, (c ≤ d ∧ d < n) ∧ t.place.toList[i]? = some (way t.mask (hsh kn k) d)) →
      wpAny (model P w) A (setSearchFrom a (.ref x) (hsh kn k) true f stand) Q E s := by
  intro f
  induction f with
  | zero => intro c stand _ _ z _; exact absurd z (Nat.not_lt_zero _)
  | succ f ih =>
    intro c stand hs hc hf left
    obtain ⟨o, ho, _, hd⟩ := R.obj
    have gw : ¬ t.gaveWay = true := by
      unfold SetTable.gaveWay
      rw [mask_odd R.tab.mok]; decide
    have shift : ∀ q, nth t.mask (nth t.mask (from0 t.mask (hsh kn k)) c) q = nth t.mask (from0 t.mask (hsh kn k)) (c + q) := fun q => (nth_add t.mask c _ q).symm
    have wj : ∀ q, (nth t.mask (nth t.mask (from0 t.mask (hsh kn k)) c) q).j = way t.mask (hsh kn k) (c + q) := fun q => congrArg SetTable.Probe.j (shift q)
    have hcn : c + (n - c) = n := by omega
    have at_ : ∀ (i : Nat) p, L[i]? = some p → ((es[i]?.map (·.1)).getD 0 : Int) = hsh kn p.2 := fun i p hp => by rw [row_at R.rows hp]; rfl
    rw [setSearchFrom_succ]
    refine wpAny_bind (wpAny_setState_of ho hd R.fit ?_)
    dsimp only
    refine wp_if_neg gw ?_
    try refine wpAny_bind (wpAny_pure ?_)
    rcases go_spec t R.tab.ris R.tab.dm (fun i => (es[i]?.map (·.1)).getD 0) (hsh kn k) (10 * SetTable.turns t.mask) (n - c) _ (undumb t.mask c _ rfl) (by omega) (fun q hq => by rw [wj]; exact full _ (by omega)) (by rw [wj, hcn]; exact free) with ⟨q, i, hq, hi, hh, nb, pr⟩ | ⟨nb, pr⟩
    · have pr2 : t.probe (fun i => (es[i]?.map (·.1)).getD 0) (hsh kn k) (stand.getD (t.probeStart (hsh kn k))) = some (.candidate (way t.mask (hsh kn k) (c + q)) i (nth t.mask (from0 t.mask (hsh kn k)) (c + (q + 1)))) := by
        rw [hs, ← wj, ← shift]; exact pr
      rw [pr2]
      dsimp only
      rw [wj] at hi
      have hil : i < L.length := by
        have h1 := (List.getElem?_eq_some_iff.mp hi).1
        rw [Array.length_toList, tab_len R.tab] at h1
        exact h1
      obtain ⟨p, hp⟩ : ∃ p, L[i]? = some p := ⟨_, List.getElem?_eq_getElem hil⟩
      have hpL := List.mem_of_getElem? hp
      have live : t.slot (way t.mask (hsh kn k) (c + q)) = .live i := slot_live R.tab.ris hi
      have cand : wpAny (model P w) A (searchRest a (.ref x) (hsh kn k) true f es t (way t.mask (hsh kn k) (c + q)) i (nth t.mask (from0 t.mask (hsh kn k)) (c + (q + 1)))) Q E s := by
        unfold searchRest
        rw [row_at R.rows hp]
        dsimp only
        refine wpAny_bind (wpAny_holding (wpAny_eqBool_tuple hu (R2 p hpL) hx ?_))
        refine wpAny_bind (wpAny_setState_of ho hd R.fit ?_)
        dsimp only
        by_cases same : p.2 = k
        · refine wp_if_pos (by simp [same]) (wpAny_pure (yes ?_))
          exact List.mem_map.mpr ⟨p, hpL, same⟩
        · refine wp_if_neg (by simp [same]) ?_
          try refine wpAny_bind (wpAny_pure ?_)
          rw [L2.sameMem]
          dsimp only
          simp only [if_true, live, row_at R.rows hp]
          refine wpAny_bind (wpAny_isSame_ref_self (wpAny_bind (wpAny_pure ?_)))
          simp only [if_true]
          refine wp_if_neg (by simp [same]) ?_
          refine ih (c + (q + 1)) _ rfl (by omega) (by omega) fun i2 p2 h2 hk2 => ?_
          obtain ⟨d, ⟨d1, d2⟩, d3⟩ := left i2 p2 h2 hk2
          refine ⟨d, ⟨?_, d2⟩, d3⟩
          rcases Nat.lt_trichotomy d (c + q) with z | z | z
          · refine absurd ((at_ i2 p2 h2).trans (congrArg (hsh kn) hk2)) (nb (d - c) i2 (by omega) ?_)
            rw [wj, show c + (d - c) = d by omega]; exact d3
          · rw [z] at d3
            have e := (slot_live R.tab.ris d3).symm.trans live
            injection e with e
            rw [e, hp] at h2
            exact absurd ((congrArg Prod.snd (Option.some.inj h2)).trans hk2) same
          · omega
      cases hl : t.led with
      | true =>
        refine wp_if_neg (by simp) ?_
        try refine wpAny_bind (wpAny_pure ?_)
        exact cand
      | false =>
        refine wp_if_pos (by simp) ?_
        refine wpAny_bind (unseen pl hx (fun y hy => ?_) ?_)
        · obtain ⟨e, he, rfl⟩ := List.mem_map.mp hy
          have he2 : e ∈ es.toList := by
            have h3 : e ∈ es ∧ e.1 = hsh kn k := by simpa using he
            simpa using h3.1
          rw [R.rows] at he2
          obtain ⟨p2, hp2, rfl⟩ := List.mem_map.mp he2
          exact ⟨p2, rfl, R2 p2 hp2⟩
        · refine wp_if_neg (by decide) ?_
          try refine wpAny_bind (wpAny_pure ?_)
          exact cand
    · have pr2 : t.probe (fun i => (es[i]?.map (·.1)).getD 0) (hsh kn k) (stand.getD (t.probeStart (hsh kn k))) = some (.empty (way t.mask (hsh kn k) n) none) := by
        have e : way t.mask (hsh kn k) n = (nth t.mask (nth t.mask (from0 t.mask (hsh kn k)) c) (n - c)).j := by rw [wj, hcn]
        rw [hs, e]; exact pr
      rw [pr2]
      dsimp only
      refine wpAny_pure (no fun hm => ?_)
      obtain ⟨p2, h2, hk2⟩ := List.mem_map.mp hm
      obtain ⟨i2, hi2⟩ := List.mem_iff_getElem?.mp h2
      obtain ⟨d, ⟨d1, d2⟩, d3⟩ := left i2 p2 hi2 hk2
      refine absurd ((at_ i2 p2 hi2).trans (congrArg (hsh kn) hk2)) (nb (d - c) i2 (by omega) ?_)
      rw [wj, show c + (d - c) = d by omega]; exact d3
theorem seek0 (pl : Plain kn) (R : Tb kn s.heap a L es ep t) (R2 : All kn s.heap L) {x : Addr} {k : List κ} (hx : TupAt kn s.heap (x, k)) (hu : A.units < cLine) {Q : SetFound → Shared → Prop} (yes : k ∈ L.map Prod.snd → Q (.there none) s)
    (no : ∀ n, k ∉ L.map Prod.snd → way t.mask (hsh kn k) n ∉ t.place.toList → (∀ c, c < n → way t.mask (hsh kn k) c ∈ t.place.toList) → Q (.free (way t.mask (hsh kn k) n) false) s) :
    wpAny (model P w) A (setSearch a (.ref x) (hsh kn k) true) Q E s := by
  have hr := R.room
  obtain ⟨n, hn, h1, h2⟩ := R.tab.first (by rw [List.length_map]; omega) (hsh kn k)
  have small : n < 100000 := by
    have : SetTable.turns t.mask ≤ 142 := by
      unfold SetTable.turns
      rcases R.tab.mok with e | e | e <;> omega
    omega
  unfold setSearch
  refine seek pl R R2 hx hu hn h1 h2 yes (fun c => no n c h1 h2) 100000 0 none rfl (Nat.zero_le _) (by omega) fun i p hp hk => ?_
  have hi : (L.map fun p => hsh kn p.2)[i]? = some (hsh kn k) := by rw [List.getElem?_map, hp, ← hk]; rfl
  have hil : i < t.place.toList.length := by
    rw [Array.length_toList, tab_len R.tab]
    exact (List.getElem?_eq_some_iff.mp hp).1
  have hj := List.getElem?_eq_getElem hil
  obtain ⟨d, hd, e⟩ := R.tab.before h1 hi hj
  exact ⟨d, ⟨Nat.zero_le _, hd⟩, by rw [hj, e]⟩
end
section
variable {P : Program} {w : World} {κ : Type} [DecidableEq κ] {kn : KeyKind P w κ} {A : Around} {E : Value → Shared → Prop} {s : Shared}
theorem tup_but {h h' : Heap} {p : Addr × List κ} {a : Addr} {o : Obj} {es : Array (Int × Value)} {ep : Nat} {t : SetTable} (hp : TupAt kn h p) (ho : h.get? a = some o) (hd : o.data = .set es ep t) (hs : Heap.SameBut a h h') : TupAt kn h' p := by
  obtain ⟨o2, its, n, ho2, hc, hd2, hi⟩ := hp
  have ne : p.1 ≠ a := fun e => by
    rw [e, ho] at ho2
    rw [← Option.some.inj ho2, hd] at hd2
    exact nomatch hd2
  exact ⟨o2, its, n, (hs.2 p.1 ne).trans ho2, hc, hd2, hi⟩
theorem tup_keep {h h' : Heap} {p : Addr × List κ} (hp : TupAt kn h p) (hk : ∀ c o, h.get? c = some o → h'.get? c = some o) : TupAt kn h' p := by
  obtain ⟨o2, its, n, ho2, r⟩ := hp
  exact ⟨o2, its, n, hk _ _ ho2, r⟩
theorem mid_perm {α : Type} (L : List α) (p : Nat) (x : α) : (L.take p ++ x :: L.drop p).Perm (x :: L) := by
  have h := List.perm_middle (a := x) (l₁ := L.take p) (l₂ := L.drop p)
  rwa [List.take_append_drop] at h
theorem map_mid {α β : Type} (f : α → β) (L : List α) (p : Nat) (x : α) : (L.take p ++ x :: L.drop p).map f = (L.map f).take p ++ f x :: (L.map f).drop p := by
  rw [List.map_append, List.map_cons, List.map_take, List.map_drop]
/-- the rows in another order -/
theorem reorder {L : List (Addr × List κ)} {es : Array (Int × Value)} {order : Array Nat} (hr : es.toList = L.map (row kn)) (hp : order.toList.Perm (List.range L.length)) :
    ∃ M : List (Addr × List κ), (order.filterMap (es[·]?)).toList = M.map (row kn) ∧ M.Perm L ∧ (M.map fun p => hsh kn p.2) = order.toList.map fun i => (es.map (·.1)).getD i 0 := by
  have each : ∀ l : List Nat, (∀ i ∈ l, i < L.length) → l.filterMap (fun i => es[i]?) = (l.filterMap fun i => L[i]?).map (row kn) ∧ ((l.filterMap fun i => L[i]?).map fun p => hsh kn p.2) = l.map fun i => (es.map (·.1)).getD i 0 := by
    intro l
    induction l with
    | nil => intro _; exact ⟨rfl, rfl⟩
    | cons i l ih =>
      intro hl
      obtain ⟨e1, e2⟩ := ih fun j hj => hl j (List.mem_cons_of_mem _ hj)
      have hi := hl i List.mem_cons_self
      obtain ⟨p, hp⟩ : ∃ p, L[i]? = some p := ⟨_, List.getElem?_eq_getElem hi⟩
      have hrow := row_at hr hp
      rw [List.filterMap_cons_some hrow, List.filterMap_cons_some hp, List.map_cons, List.map_cons, List.map_cons, e1, e2]
      refine ⟨rfl, ?_⟩
      have e3 : (es.map (·.1))[i]? = some (hsh kn p.2) := by rw [Array.getElem?_map, hrow]; rfl
      have e4 : (es.map (·.1)).getD i 0 = hsh kn p.2 := by simp [Array.getD_eq_getD_getElem?, e3]
      rw [e4]
  obtain ⟨e1, e2⟩ := each order.toList fun i hi => List.mem_range.mp (hp.mem_iff.mp hi)
  refine ⟨_, by first | (rw [Array.toList_filterMap]; exact e1) | simpa using e1, ?_, e2⟩
  have all : (List.range L.length).filterMap (fun i => L[i]?) = L := by
    have z : ∀ n, n ≤ L.length → (List.range n).filterMap (fun i => L[i]?) = L.take n := by
      intro n
      induction n with
      | zero => intro _; rfl
      | succ n ih =>
        intro hn
        rw [List.range_succ, List.filterMap_append, ih (Nat.le_of_lt hn), List.take_succ, List.getElem?_eq_getElem hn, List.filterMap_cons_some (List.getElem?_eq_getElem hn)]; rfl
    rw [z _ (Nat.le_refl _), List.take_length]
  have h := hp.filterMap fun i => L[i]?
  rwa [all] at h
variable {a : Addr} {L : List (Addr × List κ)} {es : Array (Int × Value)} {ep : Nat} {t : SetTable}
/-- a larger table -/
theorem larger {o : Obj} (ho : s.heap.get? a = some o) (hx : o.ExactSet) (hd : o.data = .set es ep t) (rows : es.toList = L.map (row kn)) (sz : t.place.size = es.size) (dm : t.dummies = #[]) (fl : es.size ≤ t.mask)
    (one : (L.map Prod.snd).Nodup) (led : w.params.followText "set-order" = true ∨ t.led = true) (few : L.length < 64) {wanted M : Nat}
    (hw : SetTable.sizeAbove wanted - 1 = M) (hM : MaskOk M) (hw2 : SetTable.sizeAbove wanted ≤ 128) (room : L.length * 5 < M * 3) {Q : Unit → Shared → Prop}
    (q : ∀ h' L' es' ep' t', Heap.SameBut a s.heap h' → Tb kn h' a L' es' ep' t' → L'.Perm L → Q () { s with heap := h' }) : wpAny (model P w) A (setRelay a wanted) Q E s := by
  have hn := rows_len rows
  obtain ⟨t2, order, e, hp, T, em, el, _, _⟩ := relaid_ok t (hs := es.map (·.1)) (wanted := wanted) hw hM (by rw [Array.size_map, hn]; omega)
  rw [Array.size_map, hn] at hp
  obtain ⟨N, r1, r2, r3⟩ := reorder rows hp
  rw [← r3] at T
  have hz : (order.filterMap (es[·]?)).size = es.size := by rw [rows_len r1, r2.length_eq, hn]
  rw [setRelay_eq]
  refine wpAny_bind (wpAny_setState_of ho hd (fits_of sz dm fl) ?_)
  dsimp only
  refine wp_if_neg (by rw [sizeLine_eq]; omega) ?_
  try refine wpAny_bind (wpAny_pure ?_)
  rw [e]
  dsimp only
  refine wpAny_bind ?_
  refine wp_if_neg (by rw [hz]; simp) ?_
  try refine wpAny_bind (wpAny_pure ?_)
  refine wpAny_pure ?_
  dsimp only
  refine wpAny_storeSet_of ho hd ?_ (by rw [hz, hn, sizeLine_eq]; omega)
  have but : Heap.SameBut a s.heap (s.heap.update a (Obj.putSet (order.filterMap (es[·]?)) t2)) := Heap.SameBut.update ..
  refine q _ N _ (ep + 1) t2 but ⟨⟨_, store_at ho hd, ⟨hx.1, hx.2.1, hx.2.2⟩, rfl⟩, r1, T, (r2.map Prod.snd).nodup_iff.mpr one, by rw [el]; exact led, by rw [r2.length_eq, em]; exact room, by rw [r2.length_eq]; exact few⟩ r2
theorem plain_off {t : SetTable} {hs : List Int} (T : TabOk t hs) : TabOk { t with plain := false } hs := ⟨T.ris, T.dm, T.sz, T.mok, T.bd, T.reach⟩
/-- one tuple put in -/
theorem adding (pl : Plain kn) (R : Tb kn s.heap a L es ep t) (R2 : All kn s.heap L) {x : Addr} {k : List κ} (hx : TupAt kn s.heap (x, k)) (hu : A.units < cLine) (few : k ∉ L.map Prod.snd → L.length + 1 < 64) {Q : Bool → Shared → Prop}
    (q : ∀ b h' L' es' ep' t', Heap.SameBut a s.heap h' → Tb kn h' a L' es' ep' t' → (L' = L ∧ k ∈ L.map Prod.snd ∨ L'.Perm ((x, k) :: L)) → Q b { s with heap := h' }) :
    wpAny (model P w) A (setAddHashed a (.ref x) (hsh kn k)) Q E s := by
  obtain ⟨o, ho, hex, hd⟩ := R.obj
  have hn := rows_len R.rows
  have hroom := R.room
  unfold setAddHashed
  refine wpAny_holding ?_
  rw [show (100000 : Nat) = 99999 + 1 from rfl, setAddHashedIn_succ]
  refine wpAny_bind (wpAny_setState_of ho hd R.fit ?_)
  dsimp only
  refine wp_if_neg (by simp [byScan, Value.scannable]) ?_
  try refine wpAny_bind (wpAny_pure ?_)
  refine wpAny_bind (seek0 pl R R2 hx hu (fun hm => ?_) fun n hm free full => ?_)
  · dsimp only
    exact wpAny_pure (q false s.heap L es ep t (Heap.SameBut.refl a s.heap) R (.inl ⟨rfl, hm⟩))
  dsimp only
  refine wpAny_bind (wpAny_setState_of ho hd R.fit ?_)
  dsimp only
  obtain ⟨q1, q2, q3, q4, q5, _, _, _, q9⟩ := R.tab.put free full
  generalize t.put (way t.mask (hsh kn k) n) = pt at q1 q3 q4 q5 q9 ⊢
  obtain ⟨t0, p0⟩ := pt
  dsimp only at q1 q3 q4 q5 q9 ⊢
  subst q1
  generalize SetTable.below t.place (way t.mask (hsh kn k) n) = p at q2 q3 ⊢
  -- whatever the table is called now
  have fin : ∀ t1 : SetTable, TabOk t1 ((L.map fun p => hsh kn p.2).take p ++ hsh kn k :: (L.map fun p => hsh kn p.2).drop p) → t1.mask = t.mask → t1.led = t.led → t1.fill = (L.map fun p => hsh kn p.2).length + 1 →
      wpAny (model P w) A (do
        storeSet a (SetTable.insertAt es p (hsh kn k, .ref x)) t1
        if !false && t1.tooFull then setRelay a (SetTable.grown (es.size + 1))
        return true) Q E s := by
    intro t1 T1 em el ef
    have few := few hm
    have hins : (SetTable.insertAt es p (hsh kn k, Value.ref x)).toList = (L.take p ++ (x, k) :: L.drop p).map (row kn) := by
      rw [SetTable.toList_insertAt, map_mid, R.rows]; rfl
    have pm := mid_perm L p (x, k)
    have hlen : (L.take p ++ (x, k) :: L.drop p).length = L.length + 1 := pm.length_eq
    have T2 : TabOk t1 ((L.take p ++ (x, k) :: L.drop p).map fun p => hsh kn p.2) := by rw [map_mid]; exact T1
    have one1 : ((L.take p ++ (x, k) :: L.drop p).map Prod.snd).Nodup := by
      refine (pm.map Prod.snd).nodup_iff.mpr ?_
      rw [List.map_cons]
      exact List.nodup_cons.mpr ⟨hm, R.one⟩
    have hsz := rows_len hins
    rw [hlen] at hsz
    generalize SetTable.insertAt es p (hsh kn k, Value.ref x) = es1 at hins hsz ⊢
    generalize L.take p ++ (x, k) :: L.drop p = L1 at pm hlen T2 one1 hins
    refine wpAny_bind (wpAny_storeSet_of ho hd ?_ (by rw [hsz, sizeLine_eq]; omega))
    have but : Heap.SameBut a s.heap (s.heap.update a (Obj.putSet es1 t1)) := Heap.SameBut.update ..
    have ho1 := store_at (es' := es1) (t' := t1) ho hd
    generalize s.heap.update a (Obj.putSet es1 t1) = h1 at but ho1 ⊢
    have led1 : w.params.followText "set-order" = true ∨ t1.led = true := by rw [el]; exact R.led
    cases full1 : t1.tooFull with
    | true =>
      have hb : (L.length + 1) * 5 ≥ t.mask * 3 := by
        have h := full1
        unfold SetTable.tooFull at h
        rw [decide_eq_true_eq, ef, em, List.length_map] at h
        exact h
      have two : (t.mask = 7 ∧ L.length = 4) ∨ (t.mask = 31 ∧ L.length = 18) := by
        rcases R.tab.mok with e | e | e <;> rw [e] at hb hroom
        · exact .inl ⟨e, by omega⟩
        · exact .inr ⟨e, by omega⟩
        · exfalso; omega
      have go : ∀ M, SetTable.sizeAbove (SetTable.grown (es.size + 1)) - 1 = M → MaskOk M → SetTable.sizeAbove (SetTable.grown (es.size + 1)) ≤ 128 → (L.length + 1) * 5 < M * 3 →
          wpAny (model P w) A (setRelay a (SetTable.grown (es.size + 1))) (fun _ s' => wpAny (model P w) A (pure true) Q E s') E { s with heap := h1 } := fun M g1 g2 g3 g4 => by
        refine larger (s := { s with heap := h1 }) ho1 ⟨hex.1, hex.2.1, hex.2.2⟩ rfl hins (by rw [tab_len T2, hsz, hlen]) T2.dm (by rw [hsz, em]; omega) one1 led1 (by rw [hlen]; exact few) g1 g2 g3 (by rw [hlen]; exact g4) ?_
        intro h2 L2 es2 ep2 t2 but2 R3 pm2
        exact wpAny_pure (q true h2 L2 es2 ep2 t2 (but.trans but2) R3 (.inr (pm2.trans pm)))
      first
        | (refine wpAny_bind ?_; refine wp_if_pos (by simp) ?_)
        | (refine wp_if_pos (by simp) ?_; refine wpAny_bind ?_)
      rcases two with ⟨_, e2⟩ | ⟨_, e2⟩
      · exact go 31 (by rw [hn, e2, size_20]) (.inr (.inl rfl)) (by rw [hn, e2, size_20]; decide) (by omega)
      · exact go 127 (by rw [hn, e2, size_76]) (.inr (.inr rfl)) (by rw [hn, e2, size_76]; decide) (by omega)
    | false =>
      first
        | refine wp_if_neg (by simp) ?_
        | (refine wpAny_bind ?_; refine wp_if_neg (by simp) ?_; refine wpAny_pure ?_)
      refine wpAny_pure (q true h1 L1 es1 (ep + 1) t1 but ⟨⟨_, ho1, ⟨hex.1, hex.2.1, hex.2.2⟩, rfl⟩, hins, T2, one1, led1, ?_, by rw [hlen]; exact few⟩ (.inr pm))
      have h := full1
      unfold SetTable.tooFull at h
      rw [decide_eq_false_iff_not, ef, em, List.length_map] at h
      rw [hlen, em]
      omega
  by_cases hpl : t0.plain = true
  · first
      | (refine wpAny_bind ?_; refine wp_if_pos hpl ?_; refine by_value pl hx fun r => ?_)
      | (refine wp_if_pos hpl ?_; refine wpAny_bind (by_value pl hx fun r => ?_))
    cases r with
    | true => simp only [if_true]; exact fin t0 q3 q4 q5 q9
    | false => simp only [Bool.false_eq_true, if_false]; exact fin _ (plain_off q3) q4 q5 q9
  · first
      | (refine wpAny_bind ?_; refine wp_if_neg hpl ?_; refine wpAny_pure ?_)
      | (refine wp_if_neg hpl ?_; refine wpAny_bind (wpAny_pure ?_))
    simp only [if_true]; exact fin t0 q3 q4 q5 q9
end
section
variable {P : Program} {w : World} {κ : Type} [DecidableEq κ] {kn : KeyKind P w κ} {A : Around} {E : Value → Shared → Prop} {s : Shared}
/-- L has what the first i of ks are, each once -/
structure Has (ks : List (Addr × List κ)) (i : Nat) (L : List (Addr × List κ)) : Prop where
  from_ : ∀ p ∈ L, p ∈ ks
  all : ∀ p ∈ ks.take i, p.2 ∈ L.map Prod.snd
  len : L.length ≤ i
theorem has_next {ks L L' : List (Addr × List κ)} {i : Nat} {x : Addr × List κ} (g : Has ks i L) (h : ks[i]? = some x) (c : (L' = L ∧ x.2 ∈ L.map Prod.snd) ∨ L'.Perm (x :: L)) : Has ks (i + 1) L' := by
  have tk : ks.take (i + 1) = ks.take i ++ [x] := by rw [List.take_succ, h]; rfl
  rcases c with ⟨rfl, hm⟩ | pm
  · refine ⟨g.from_, fun p hp => ?_, Nat.le_succ_of_le g.len⟩
    rw [tk] at hp
    rcases List.mem_append.mp hp with z | z
    · exact g.all p z
    · rw [List.mem_singleton.mp z]; exact hm
  · refine ⟨fun p hp => ?_, fun p hp => ?_, by rw [pm.length_eq]; exact Nat.succ_le_succ g.len⟩
    · rcases List.mem_cons.mp (pm.mem_iff.mp hp) with e | z
      · rw [e]; exact List.mem_of_getElem? h
      · exact g.from_ p z
    · rw [(pm.map Prod.snd).mem_iff, List.map_cons, List.mem_cons]
      rw [tk] at hp
      rcases List.mem_append.mp hp with z | z
      · exact .inr (g.all p z)
      · exact .inl (congrArg Prod.snd (List.mem_singleton.mp z))
theorem nodup_le {α : Type} [DecidableEq α] : ∀ {l S : List α}, l.Nodup → (∀ x ∈ l, x ∈ S) → l.length ≤ S.length
  | [], _, _, _ => Nat.zero_le _
  | x :: l, S, hn, h => by
    obtain ⟨h1, h2⟩ := List.nodup_cons.mp hn
    have hx := h x List.mem_cons_self
    have := nodup_le (l := l) (S := S.erase x) h2 fun y hy => (List.mem_erase_of_ne (show y ≠ x from fun e => h1 (by rw [← e]; exact hy))).mpr (h y (List.mem_cons_of_mem _ hy))
    rw [List.length_erase_of_mem hx] at this
    have := List.length_pos_of_mem hx
    rw [List.length_cons]; omega
/-- tuples of few kinds -/
def FewK (ks : List (Addr × List κ)) : Prop := ∃ S : List (List κ), S.length < 64 ∧ ∀ p ∈ ks, p.2 ∈ S
theorem few_next {ks L : List (Addr × List κ)} (few : FewK ks) (h : ∀ p ∈ L, p ∈ ks) (one : (L.map Prod.snd).Nodup) {x : Addr × List κ} (hx : x ∈ ks) (hm : x.2 ∉ L.map Prod.snd) : L.length + 1 < 64 := by
  obtain ⟨S, hS, q⟩ := few
  have := nodup_le (l := x.2 :: L.map Prod.snd) (S := S) (List.nodup_cons.mpr ⟨hm, one⟩) fun y hy => by
    rcases List.mem_cons.mp hy with rfl | hy
    · exact q x hx
    · obtain ⟨p, hp, rfl⟩ := List.mem_map.mp hy
      exact q p (h p hp)
  rw [List.length_cons, List.length_map] at this
  omega
theorem tb_keep {h h' : Heap} {a : Addr} {L : List (Addr × List κ)} {es : Array (Int × Value)} {ep : Nat} {t : SetTable} (R : Tb kn h a L es ep t) (k : ∀ o, h.get? a = some o → h'.get? a = some o) : Tb kn h' a L es ep t := by
  obtain ⟨o, ho, r⟩ := R.obj
  exact ⟨⟨o, k o ho, r⟩, R.rows, R.tab, R.one, R.led, R.room, R.few⟩
theorem tb_new {h : Heap} {a : Addr} (ho : h.get? a = some (DP.newSet w)) : Tb kn h a [] #[] 0 (.fresh 0 0 (!w.params.followText "set-order")) where
  obj := ⟨_, ho, ⟨rfl, rfl, rfl⟩, rfl⟩
  rows := rfl
  tab := ⟨.nil, rfl, rfl, .inl rfl, fun x h => (by cases h), fun i h j e => (by simp at e)⟩
  one := .nil
  led := by
    cases e : w.params.followText "set-order" with
    | true => exact .inl rfl
    | false => exact .inr rfl
  room := (by decide : 0 * 5 < 7 * 3)
  few := (by decide : 0 < 64)
/-- the loop of set.update over a list of tuples -/
theorem filling (pl : Plain kn) {I : Addr} {fp wr : List Addr} {G : Array GenState → Array GenState → Prop} {n : Nat} {Pv : Nat → Value → Prop} {St : Nat → Shared → Prop} {R : Result → Shared → Prop}
    (W : WalksS P w A.in1 I fp wr G n Pv St) {S : Addr} (hSf : S ∉ fp) {ks : List (Addr × List κ)} (few : FewK ks) (val : ∀ i v, Pv i v → ∃ p, ks[i]? = some p ∧ v = .ref p.1)
    {h0 : Heap} (hk : All kn h0 ks) (hS0 : h0.get? S = none) (hw0 : ∀ b ∈ wr, h0.get? b = none) (hu : A.in1.units < cLine)
    (q : ∀ s1 s' L es ep t, Moved (S :: wr) G s1 s' → Tb kn s'.heap S L es ep t → Has ks n L → (∀ b o, h0.get? b = some o → s'.heap.get? b = some o) → s1 = s → R (.ok (.ret .none)) s') :
    ∀ (j i : Nat) (s2 : Shared), n - i = j → i ≤ n → St i s2 → (∀ b o, h0.get? b = some o → s2.heap.get? b = some o) → (∃ L es ep t, Tb kn s2.heap S L es ep t ∧ Has ks i L) → (i = 0 → s2 = s) → (i ≠ 0 → Moved (S :: wr) G s s2) →
      codeAny (model P w) A (.builtin "set.update.loop" ⟨[.ref S, .ref I], []⟩) R s2 := by
  have hSw : S ∉ wr := fun h => hSf (W.sub _ h)
  have inS : ∀ b ∈ wr, b ∈ S :: wr := fun b hb => List.mem_cons_of_mem _ hb
  have still : ∀ {x y : Shared}, Moved wr G x y → (∀ b o, h0.get? b = some o → x.heap.get? b = some o) → ∀ b o, h0.get? b = some o → y.heap.get? b = some o := fun m k b o e => m.heap b o (fun hb => by rw [hw0 b hb] at e; cases e) (k b o e)
  have join : ∀ {i : Nat} {x y : Shared}, (i = 0 → x = s) → (i ≠ 0 → Moved (S :: wr) G s x) → Moved (S :: wr) G x y → Moved (S :: wr) G s y := fun {i x y} e0 e1 m => by
    by_cases c : i = 0
    · rw [← e0 c]; exact m
    · exact Moved.trans W.gtrans (e1 c) m
  intro j
  induction j with
  | zero =>
    intro i s2 hj hi hst kp ⟨L, es, ep, t, T, g⟩ e0 e1
    have hin : i = n := by omega
    subst hin
    refine codeAny_builtin F.entry_set_update_loop ?_
    rw [Around.under_plainId F.plain_set_update_loop _]
    show wpAny _ A.in1 (pyNext (.ref I) >>= _) _ _ s2
    refine wpAny_bind (W.done s2 _ _ hst fun s3 m => ?_)
    exact wpAny_pure (q s s3 L es ep t (join e0 e1 (m.mono inS)) (tb_keep T fun o e => m.heap S o hSw e) g (still m kp) rfl)
  | succ j ih =>
    intro i s2 hj hi hst kp ⟨L, es, ep, t, T, g⟩ e0 e1
    have hlt : i < n := by omega
    refine codeAny_builtin F.entry_set_update_loop ?_
    rw [Around.under_plainId F.plain_set_update_loop _]
    show wpAny _ A.in1 (pyNext (.ref I) >>= _) _ _ s2
    refine wpAny_bind (W.item i s2 _ _ hlt hst fun v s3 hP hst3 m => ?_)
    obtain ⟨p, hp, rfl⟩ := val i v hP
    have kp3 := still m kp
    have T3 : Tb kn s3.heap S L es ep t := tb_keep T fun o e => m.heap S o hSw e
    have hx : TupAt kn s3.heap p := tup_keep (hk p (List.mem_of_getElem? hp)) kp3
    have hL : All kn s3.heap L := fun r hr => tup_keep (hk r (g.from_ r hr)) kp3
    show wpAny _ A.in1 (holding [Value.ref p.1] (setAdd S (.ref p.1)) >>= _) _ _ s3
    refine wpAny_bind (wpAny_holding ?_)
    unfold setAdd
    refine wpAny_holding (wpAny_bind (wpAny_pyHash_tuple hu hx ?_))
    have hlen := (List.getElem?_eq_some_iff.mp hp).1
    refine adding (s := { s3 with toks := s3.toks + (p.2.length + 1) }) pl T3 hL hx hu (fun hm => few_next few g.from_ T3.one (List.mem_of_getElem? hp) hm) fun b h4 L4 es4 ep4 t4 but T4 c => ?_
    have keepB : ∀ b o, b ≠ S → s3.heap.get? b = some o → h4.get? b = some o := fun b o hb e => (but.2 b hb).trans e
    refine wpAny_pure ⟨plainId_quiet F.plain_set_update_loop _, ih (i + 1) _ (by omega) hlt (W.frame _ s3 _ _ hst3 (Nat.le_add_right _ _) fun b hb o e => keepB b o (fun e2 => hSf (e2 ▸ hb)) e) (fun b o e => keepB b o (fun z => by rw [z, hS0] at e; cases e) (kp3 b o e)) ⟨L4, es4, ep4, t4, T4, has_next g hp c⟩ (fun z => absurd z (Nat.succ_ne_zero _)) fun _ => ?_⟩
    exact join e0 e1 ((m.mono inS).then_heap (Nat.le_add_right _ _) fun b o hb e => keepB b o (fun z => hb (z ▸ List.mem_cons_self)) e)
/-- set(xs) -/
theorem set_made (pl : Plain kn) {l : Addr} {its : Array Value} (ks : List (Addr × List κ)) {Q : Value → Shared → Prop} (hh : A.handled = none) (hl : s.heap.IsList l its) (hit : its.toList = ks.map fun p => Value.ref p.1)
    (hk : All kn s.heap ks) (few : FewK ks) (hu : A.units + 3 < cLine)
    (q : ∀ (h' : Heap) (tk : Nat) L es ep t, Tb kn h' s.heap.objs.size L es ep t → Has ks ks.length L → (∀ b o, s.heap.get? b = some o → h'.get? b = some o) → Q (.ref s.heap.objs.size) { s with heap := h', toks := tk }) :
    wpAny (model P w) A (call (.type "set") [.ref l]) Q E s := by
  have hz : its.size = ks.length := by
    have e := congrArg List.length hit
    rwa [Array.length_toList, List.length_map] at e
  have C := F.called_set
  obtain ⟨c, tl, hmro⟩ := C.mro
  have hmade := C.made; have hsub := C.sub
  refine wpAny_call (codeAny_of_tree ?_)
  show wpAny _ _ (callAny (.type "set") _) _ _ _
  refine wpAny_pure ⟨Code.quiet_builtin _ (by decide +kernel), codeAny_builtin F.entry_type_call ?_⟩
  rw [Around.under_plain (weight_type_call_type "set" [.ref l] []) rfl]
  have h1 := C.notType; have h2 := C.canCreate
  have hct := F.typeCall_set_1 (.ref l)
  repeat (any_goals (first | assumption | wp_step))
  refine codeAny_mono (code_set_led1 (.ref l) (E := E) (Q₁ := fun obj s₁ => obj = .ref s.heap.objs.size ∧ s₁ = { s with heap := s.heap.push (DP.newSet w) }) ⟨rfl, rfl⟩) fun r s₁ hr => ?_
  cases r with
  | error e => exact hr
  | ok fl =>
  cases fl with
  | ret obj =>
    obtain ⟨rfl, rfl⟩ := hr
    have hS : (s.heap.push (DP.newSet w)).get? s.heap.objs.size = some (DP.newSet w) := Heap.get?_push_size _ rfl
    have hT : Shared.TypeIs { s with heap := s.heap.push (DP.newSet w) } (.ref s.heap.objs.size) "set" := ⟨_, hS, rfl⟩
    have hli := C.init.lookup; have hbi := C.init.bind (.ref s.heap.objs.size)
    repeat (any_goals (first | assumption | wp_step))
    refine codeAny_mono (codeAny_call_builtin (R := wants (fun r s₂ => r = .none ∧ ∃ h' tk L es ep t, s₂ = { s with heap := h', toks := tk } ∧ Tb kn h' s.heap.objs.size L es ep t ∧ Has ks ks.length L ∧ ∀ b o, s.heap.get? b = some o → h'.get? b = some o) E) C.init.plain F.entry_set_init (check_set_init_1 hT ?_)) fun r₂ s₂ hr₂ => ?_
    · obtain ⟨⟨ocls, odict, odata, oslots⟩, hol, hcl, nl, hdl⟩ := hl
      simp only at hcl hdl
      subst hcl hdl
      have hol' : (s.heap.push (DP.newSet w)).get? l = some { cls := .type "list", dict := odict, data := .seq its nl, slots := oslots } := Heap.get?_push_of_some _ hol
      have hsls := F.sub_list_set; have hslf := F.sub_list_frozenset
      have hne : (Value.type "list" == Value.type "dict") = false := by decide
      have hl1 : (s.heap.push (DP.newSet w)).IsList l its := ⟨_, hol', rfl, nl, rfl⟩
      unfold Builtin.«set.__init__» noKeywords Builtin.Frozenset.updateFrom
      generalize hPI : pyIter = PI
      wp_walk
      subst hPI
      refine wpAny_pyIter_list hl1 (wpAny_bind (wpAny_runValue ?_))
      have hlS : l < s.heap.objs.size := Heap.lt_size hol
      have hh3 : A.in1.in1.in1.handled = none := by simp [hh]
      have sz : (s.heap.push (DP.newSet w)).objs.size = s.heap.objs.size + 1 := Heap.size_push ..
      have neI : l ≠ (s.heap.push (DP.newSet w)).objs.size := by rw [sz]; exact Nat.ne_of_lt (Nat.lt_succ_of_lt hlS)
      have hSf : s.heap.objs.size ∉ [(s.heap.push (DP.newSet w)).objs.size, l] := by
        rw [sz]; simp only [List.mem_cons, List.not_mem_nil, or_false, not_or]; exact ⟨Nat.ne_of_lt (Nat.lt_succ_self _), Nat.ne_of_gt hlS⟩
      have val : ∀ (i : Nat) (v : Value), its[i]? = some v → ∃ p, ks[i]? = some p ∧ v = .ref p.1 := fun i v hv => by
        have e : its.toList[i]? = some v := by rw [Array.getElem?_toList]; exact hv
        rw [hit, List.getElem?_map, Option.map_eq_some_iff] at e
        obtain ⟨p, e1, e2⟩ := e
        exact ⟨p, e1, e2.symm⟩
      have gone : ∀ b, s.heap.objs.size ≤ b → s.heap.get? b = none := fun b hb => by
        cases e : s.heap.get? b with
        | none => rfl
        | some o => exact absurd (Heap.lt_size e) (Nat.not_lt.mpr hb)
      refine filling pl ((Walks.list hh3 _ l neI its).toS) hSf few val hk (gone _ (Nat.le_refl _)) (fun b hb => gone b (by rw [List.mem_singleton.mp hb, sz]; exact Nat.le_succ _)) hu ?fin (its.size - 0) 0 _ (by omega) (Nat.zero_le _) ⟨⟨_, Heap.get?_push_size _ rfl, rfl, rfl⟩, (hl1.push _)⟩ (fun b o e => Heap.get?_push_of_some _ (Heap.get?_push_of_some _ e)) ⟨[], _, _, _, tb_new (Heap.get?_push_of_some _ hS), ⟨fun p h => (by cases h), fun p h => (by simp at h), Nat.le_refl _⟩⟩ (fun _ => rfl) fun z => absurd rfl z
      case fin =>
        intro s1 s' L es ep t m T g k es1
        subst es1
        obtain ⟨h', g2, d', tk', os'⟩ := s'
        have eg : g2 = s.gens := m.gens
        have ed : d' = s.drawn := m.drawn
        have eo : os' = s.os := m.os
        subst eg ed eo
        refine wpAny_pure (?_ : wpAny _ _ (ret Value.none) _ _ _)
        rw [hz] at g
        exact wpAny_pure ⟨rfl, h', tk', L, es, ep, t, rfl, T, g, k⟩
    · cases r₂ with
      | error e => exact hr₂
      | ok fl₂ =>
      cases fl₂ with
      | ret r =>
        obtain ⟨rfl, h', tk, L, es, ep, t, rfl, T, g, k⟩ := hr₂
        repeat (any_goals (first | assumption | wp_step))
        exact q _ _ _ _ _ _ T g k
      | _ => exact hr₂.elim
  | _ => exact hr.elim
end
end SD
/-! The rules: set(xs) of a list of tuples of whole numbers and texts; sorted of such a set. -/
namespace SD
open PySem PySem.Spec PyProof.Rows L2 DP
theorem mix_plain (P : Program) (w : World) : Plain (mixKind P w) := fun k v h => by
  rcases keyIs_shape h with ⟨i, t, _, rfl⟩ | ⟨x, t, _, rfl⟩ <;> rfl
/-- a set with the tuples L -/
def SetDO (P : Program) (w : World) (a : Addr) (L : List (Addr × List Key)) : HO := .ext fun h => ∃ es ep t, Tb (mixKind P w) h a L es ep t
theorem set_new {P : Program} {w : World} {H : Hp} {h : Heap} {a : Addr} {L : List (Addr × List Key)} {es : Array (Int × Value)} {ep : Nat} {t : SetTable} (R : Tb (mixKind P w) h a L es ep t) : ObjOk P w H h a (SetDO P w a L) := by
  have ⟨o, ho, r⟩ := R.obj
  exact ⟨⟨es, ep, t, R⟩, ⟨o, ho⟩, fun h1 h2 ⟨es', ep', t', R'⟩ k => ⟨es', ep', t', tb_keep R' k⟩⟩
theorem keys_of {P : Program} {w : World} : ∀ {k : List Key} {us : List Value}, Vals (k.map kV) us → ItemsAre (mixKind P w) k us
  | [], _, .nil => .nil
  | n :: k, _, .cons r t => .cons (by
      cases n with
      | inl i =>
        obtain ⟨tk, rfl⟩ := r
        simp [mixKind, keyIs, Value.isInt]
      | inr z =>
        obtain ⟨tk, rfl⟩ := r
        simp [mixKind, keyIs, Value.isStrOf]) (keys_of t)
theorem refs_eq : ∀ {ks : List (Addr × List Key)} {us : List Value}, Vals (ks.map fun p => V.ref p.1) us → us = ks.map fun p => Value.ref p.1
  | [], _, .nil => rfl
  | p :: ks, _, .cons r t => by
    cases r
    rw [refs_eq t]; rfl
theorem refs_vals : ∀ (ks : List (Addr × List Key)), Vals (ks.map fun p => V.ref p.1) (ks.map fun p => Value.ref p.1)
  | [] => .nil
  | p :: ks => .cons rfl (refs_vals ks)
def kD : Key → PyData
  | .inl i => .int i
  | .inr z => .str z
section
variable {X : Cx}
theorem tup_inv {pins : List (Addr × Obj)} {σ : L2.St} {H : Hp} {s : Shared} {p : Addr × List Key} (I : Inv X pins σ H s) (h : SqT X.K H p.1 (p.2.map kV)) : TupAt (mixKind X.prog X.w) s.heap p := by
  obtain ⟨its, r, ⟨o, ho, hc, n, hd⟩, _⟩ := I.tuple h
  exact ⟨o, its.toArray, n, ho, hc, hd, by simpa using keys_of r⟩
/-- the tuples of the list stand there -/
def Stand (K : PySem.W.Frag) (H : Hp) (ks : List (Addr × List Key)) : Prop := ∀ p ∈ ks, SqT K H p.1 (p.2.map kV)
theorem Stand.same {K : PySem.W.Frag} {H H' : Hp} {ks : List (Addr × List Key)} (h : Stand K H ks) (S : Same H H') : Stand K H' ks := fun p hp => Same.sqT S (h p hp)
def rSetD (K : PySem.W.Frag) (P : Program) (w : World) : List V → Hp → VK → Prop := fun xs H Q => ∃ (l : Addr) (ks : List (Addr × List Key)), xs = [V.ref l] ∧ SqL K H l (ks.map fun p => V.ref p.1) ∧ Stand K H ks ∧ FewK ks ∧
  ∀ a L, H a = none → (∀ p ∈ L, p ∈ ks) → (∀ p ∈ ks, p.2 ∈ L.map Prod.snd) → (L.map Prod.snd).Nodup → Q (.ref a) (upd H a (SetDO P w a L))
theorem cr_setD (hc : X.calm = true) (hu : X.A.units + 64 < cLine) : CallR X (.type "set") (rSetD X.K X.prog X.w) := by
  intro pins s σ H xs us Q I r h
  obtain ⟨l, ks, rfl, hl, hk, few, q⟩ := h
  rw [Vals.ref1 r]
  obtain ⟨its, rv, pl, hz⟩ := I.list hl
  refine set_made (P := X.prog) (w := X.w) (mix_plain _ _) ks (I.ok.hd hc) pl.isList (by simpa using refs_eq rv) (fun p hp => tup_inv I (hk p hp)) few (by omega) fun h' tk L es ep t T g k => ?_
  refine ⟨.ref s.heap.objs.size, upd H s.heap.objs.size (SetDO X.prog X.w s.heap.objs.size L), I.laid (t' := tk) k (Nat.le_refl _) (set_new T), rfl, q _ L (I.hok.fresh (Nat.le_refl _)) g.from_ (fun p hp => ?_) T.one⟩
  exact g.all p (by rw [List.take_length]; exact hp)
end
section
variable {P : Program} {w : World} {A : Around} {E : Value → Shared → Prop} {s : Shared}
def encK (p : Addr × List Key) : PyData := .tuple (p.2.map kD)
theorem reads_parts : ∀ {k : List Key} {us : List Value} {h : Heap}, ItemsAre (mixKind P w) k us → ReadsAll h us (k.map kD) []
  | _, _, _, .nil => .nil
  | _, _, h, .cons (k := n) a t => by
    rcases keyIs_shape a with ⟨i, tk, rfl, rfl⟩ | ⟨x, tk, rfl, rfl⟩
    · exact .cons (as := []) (.int _ _) (reads_parts t)
    · exact .cons (as := []) (.str _ _) (reads_parts t)
theorem reads_tup {h : Heap} {p : Addr × List Key} (x : TupAt (mixKind P w) h p) : Reads h (.ref p.1) (encK p) [] := by
  obtain ⟨o, its, n, ho, hc, hd, hi⟩ := x
  exact .tuple ho hc hd (reads_parts hi)
theorem each_refs : ∀ L : List (Addr × List Key), PySem.W.EachIs (fun (u : Value) (p : Addr × List Key) => u = .ref p.1) (L.map fun q => Value.ref q.1) L
  | [] => .nil
  | p :: L => .cons rfl (each_refs L)
theorem of_each : ∀ {us : List Value} {L : List (Addr × List Key)}, PySem.W.EachIs (fun (u : Value) (p : Addr × List Key) => u = .ref p.1) us L → us = L.map fun q => Value.ref q.1
  | _, _, .nil => rfl
  | _, _, .cons a t => by rw [a, of_each t]; rfl
theorem each_reads {h : Heap} : ∀ {L : List (Addr × List Key)} {a : Addr}, All (mixKind P w) h L → PySem.W.EachIs (fun (u : Value) (p : Addr × List Key) => ∃ as, Reads h u (encK p) as ∧ a ∉ as) (L.map fun q => Value.ref q.1) L
  | [], _, _ => .nil
  | p :: L, _, k => .cons ⟨[], reads_tup (k p List.mem_cons_self), by simp⟩ (each_reads fun q hq => k q (List.mem_cons_of_mem _ hq))
/-- what is known of the parts so that tuples can be put in order -/
structure Even (L : List (Addr × List Key)) : Prop where
  alike : ∀ p ∈ L, ∀ q ∈ L, PySem.W.alike (encK p) (encK q) = true
  some_ : ∀ p ∈ L, p.2 ≠ []
theorem Even.sub {L M : List (Addr × List Key)} (e : Even L) (h : ∀ p ∈ M, p ∈ L) : Even M := ⟨fun p hp q hq => e.alike p (h p hp) q (h q hq), fun p hp => e.some_ p (h p hp)⟩
theorem depth_parts : ∀ k : List Key, PyData.depthAll (k.map kD) = 0
  | [] => rfl
  | .inl i :: k => by
    show PyData.depthAll (PyData.int i :: k.map kD) = 0
    rw [PyData.depthAll, depth_parts k]; rfl
  | .inr z :: k => by
    show PyData.depthAll (PyData.str z :: k.map kD) = 0
    rw [PyData.depthAll, depth_parts k]; rfl
theorem depth_tup (p : Addr × List Key) : (encK p).depth = 1 := by
  unfold encK
  rw [PyData.depth, depth_parts]
theorem sorted_set {a : Addr} {L : List (Addr × List Key)} {es : Array (Int × Value)} {ep : Nat} {t : SetTable} {Q : Value → Shared → Prop} (R : Tb (mixKind P w) s.heap a L es ep t) (R2 : All (mixKind P w) s.heap L) (hh : A.handled = none) (hu : A.units + 64 < cLine) (ev : Even L)
    (q : ∀ s' p (out : Array Value) (c : Nat) (M : List (Addr × List Key)), (∀ b o, s.heap.get? b = some o → s'.heap.get? b = some o) → s'.gens = s.gens → s'.os = s.os → s.heap.objs.size ≤ p → M.Perm L →
      s'.heap.get? p = some (seqObj "list" out c) → out.toList = (M.mergeSort (PySem.W.dataLe false encK)).map (fun q => Value.ref q.1) → Q (.ref p) s') :
    wpAny (model P w) A (call (.builtin "sorted") [.ref a]) Q E s := by
  obtain ⟨o, ho, hex, hd⟩ := R.obj
  have hn := rows_len R.rows
  have few := R.few
  refine Calls.call_function_entry kind_sorted plain_sorted entry_sorted (args_sorted1 _) ?_
  unfold Builtin.«sorted»
  refine wpAny_bind (m := checkCount "sorted" 1 1 _) (wpAny_pure ?_)
  refine wpAny_bind (collect_set (A := A.in1) hh ⟨o, ho, hex.1, hd⟩ R.fit (by unfold scanBound; omega) R.tab.ris R.led fun s1 vs k1 hz g1 o1 pm => ?_)
  have hv : es.toList.map (·.2) = L.map fun q => Value.ref q.1 := by
    rw [R.rows, List.map_map]; rfl
  rw [hv] at pm
  -- the values' own list of rows
  obtain ⟨M, eM, pL⟩ : ∃ M : List (Addr × List Key), vs = M.map (fun q => Value.ref q.1) ∧ M.Perm L := by
    have z : ∀ {xs ys : List Value}, xs.Perm ys → ∀ L : List (Addr × List Key), ys = L.map (fun q => Value.ref q.1) → ∃ M : List (Addr × List Key), xs = M.map (fun q => Value.ref q.1) ∧ M.Perm L := by
      intro xs ys pm
      induction pm with
      | nil => intro L e; exact ⟨L, e, .refl _⟩
      | @cons x l1 l2 _ ih =>
        intro L e
        cases L with
        | nil => cases e
        | cons p L =>
          injection e with e1 e2
          obtain ⟨M, e3, p3⟩ := ih L e2
          exact ⟨p :: M, by rw [e1, e3]; rfl, p3.cons p⟩
      | swap x y l =>
        intro L e
        cases L with
        | nil => cases e
        | cons p L =>
          cases L with
          | nil => injection e with _ e2; cases e2
          | cons q L =>
            injection e with e1 e2
            injection e2 with e2 e3
            exact ⟨q :: p :: L, by rw [e1, e2, e3]; rfl, .swap _ _ _⟩
      | trans _ _ ih1 ih2 =>
        intro L e
        obtain ⟨M, e3, p3⟩ := ih2 L e
        obtain ⟨N, e4, p4⟩ := ih1 M e3
        exact ⟨N, e4, p4.trans p3⟩
    exact z pm L rfl
  subst eM
  have hml : M.length < 64 := by rw [pL.length_eq]; exact few
  have evM : Even M := ev.sub fun p hp => pL.mem_iff.mp hp
  refine wpAny_bind (wpAny_newList ?_ (by rw [List.length_map, sizeLine_eq]; omega))
  have hoL : (s1.heap.push (seqObj "list" (M.map fun q => Value.ref q.1).toArray 0)).get? s1.heap.objs.size = some (seqObj "list" (M.map fun q => Value.ref q.1).toArray 0) := Heap.get?_push_size _ rfl
  have stand : All (mixKind P w) (s1.heap.push (seqObj "list" (M.map fun q => Value.ref q.1).toArray 0)) M := fun p hp => tup_keep (R2 p (pL.mem_iff.mp hp)) fun b u e => Heap.get?_push_of_some _ (k1 b u e)
  refine wpAny_bind (wpAny_holding (PySem.W.list_sort_data (enc := encK) (s := { s1 with heap := s1.heap.push (seqObj "list" (M.map fun q => Value.ref q.1).toArray 0) }) hoL (each_refs M) (each_reads stand) (fun d hd' d' hd2 => ?_) (.inl fun d hd' => ?_) (by rw [sizeLine_eq]; omega) (fun p _ => ?_) fun out ho2 eo => ?_))
  · obtain ⟨p, hp, rfl⟩ := List.mem_map.mp hd'
    obtain ⟨p2, hp2, rfl⟩ := List.mem_map.mp hd2
    exact evM.alike p hp p2 hp2
  · obtain ⟨p, hp, rfl⟩ := List.mem_map.mp hd'
    have h2 := evM.some_ p hp
    unfold encK
    cases e : p.2 with
    | nil => exact absurd e h2
    | cons k r => exact ⟨_, _, rfl⟩
  · rw [depth_tup]
    have e : A.in1.units ≤ A.units + 1 := by first | exact Nat.le_refl _ | (show _ ≤ _; simp [Around.in1, Around.units])
    omega
  · obtain ⟨c, hc⟩ := sortedHeap_at (vs := M.map fun q => Value.ref q.1) (out := List.toArray out) hoL
    refine wpAny_pure ⟨_, rfl, q _ s1.heap.objs.size (List.toArray out) c M (fun b u e => ?_) g1 o1 hz pL hc (by simpa using of_each eo)⟩
    have e2 := k1 b u e
    have hlt := Heap.lt_size e2
    show (sortedHeap (s1.heap.push (seqObj "list" (M.map fun q => Value.ref q.1).toArray 0)) s1.heap.objs.size (M.map fun q => Value.ref q.1) (List.toArray out)).get? b = some u
    rw [sortedHeap_old (Nat.ne_of_lt hlt) (by rw [size_push']; exact Nat.lt_succ_of_lt hlt)]
    exact Heap.get?_push_of_some _ e2
end
section
variable {X : Cx}
/-- sorted(a set of tuples) -/
def rSortSetD (K : PySem.W.Frag) (P : Program) (w : World) : List V → Hp → VK → Prop := fun vs H Q => ∃ (a : Addr) (L : List (Addr × List Key)), vs = [V.ref a] ∧ H a = some (SetDO P w a L) ∧ Stand K H L ∧ Even L ∧
  ∀ (M : List (Addr × List Key)) (p : Addr), M.Perm L → H p = none → Q (.ref p) (upd H p (.lst ((M.mergeSort (PySem.W.dataLe false encK)).map fun q => V.ref q.1)))
theorem cr_sortSetD (hc : X.calm = true) (hu : X.A.units + 64 < cLine) : CallR X (.builtin "sorted") (rSortSetD X.K X.prog X.w) := by
  intro pins s σ H vs us Q I r h
  obtain ⟨a, L, rfl, ha, st, ev, q⟩ := h
  obtain ⟨es, ep, t, R⟩ : ∃ es ep t, Tb (mixKind X.prog X.w) s.heap a L es ep t := (I.hok a _ ha).1
  rw [Vals.ref1 r]
  refine sorted_set R (fun p hp => tup_inv I (st p hp)) (I.ok.hd hc) hu ev fun s' p out c M k g o hp pm hg hout => ?_
  have few := R.few
  have hlen : ((M.mergeSort (PySem.W.dataLe false encK)).map fun q => V.ref q.1).length ≤ sizeLine := by rw [List.length_map, List.length_mergeSort, pm.length_eq, sizeLine_eq]; omega
  have hn : H p = none := I.hok.fresh hp
  have hv : Vals ((M.mergeSort (PySem.W.dataLe false encK)).map fun q => V.ref q.1) out.toList := by rw [hout]; exact refs_vals _
  have J : Inv X pins σ (upd H p (.lst ((M.mergeSort (PySem.W.dataLe false encK)).map fun q => V.ref q.1))) { s with heap := s'.heap, gens := s'.gens, drawn := s'.drawn, toks := s'.toks } :=
    I.call (ch := []) (Un.laid k hp hn) (I.hok.laid k hp ⟨hlen, out.toList, c, hv, hg⟩) (by rw [g]; exact I.bare) (fun _ z => nomatch z)
  have e : s' = { s with heap := s'.heap, gens := s'.gens, drawn := s'.drawn, toks := s'.toks } := by
    cases s'; cases s; cases o; rfl
  rw [e]
  exact ⟨.ref p, _, J, rfl, q M p pm hn⟩
theorem setDK {K : PySem.W.Frag} {P : Program} {w : World} (hc : X.calm = true) (hu : X.A.units + 64 < cLine) (h : X.K = K := by rfl) (hp : X.prog = P := by rfl) (hw : X.w = w := by rfl) : CallR X (.type "set") (rSetD K P w) := by subst h hp hw; exact cr_setD hc hu
theorem sortSetDK {K : PySem.W.Frag} {P : Program} {w : World} (hc : X.calm = true) (hu : X.A.units + 64 < cLine) (h : X.K = K := by rfl) (hp : X.prog = P := by rfl) (hw : X.w = w := by rfl) : CallR X (.builtin "sorted") (rSortSetD K P w) := by subst h hp hw; exact cr_sortSetD hc hu
end
end SD
/-! != of lists of tuples that hold objects: the same object stands at the same place, or the same data. -/
namespace DP
open PySem PySem.Spec PyProof.Rows L2
section
variable {X : Cx} {pins : List (Addr × Obj)} {σ : L2.St} {H : Hp} {s : Shared}
/-- one object, or the same data -/
def EqI (K : PySem.W.Frag) (H : Hp) (x y : V) : Prop := (∃ a, x = .ref a ∧ y = .ref a) ∨ ∃ d, Dp K H x d ∧ Dp K H y d ∧ d.canLay0 = true ∧ d.depth ≤ 8
/-- tuples of such -/
def EqT (K : PySem.W.Frag) (H : Hp) (x y : V) : Prop := ∃ a b xs ys, x = .ref a ∧ y = .ref b ∧ SqT K H a xs ∧ SqT K H b ys ∧ Paired (EqI K H) xs ys
theorem eqI_at (I : Inv X pins σ H s) {A : Around} (hu : A.units + 8 < cLine) {x y : V} {v u : Value} (h : EqI X.K H x y) (rx : RelV x v) (ry : RelV y u) : SeqAt.EqAt A s v u true := by
  rcases h with ⟨a, rfl, rfl⟩ | ⟨d, hx, hy, hc, hd⟩
  · have e1 : v = .ref a := rx
    have e2 : u = .ref a := ry
    rw [e1, e2]
    exact .same _
  · obtain ⟨_, r1⟩ := Dp.reads I d x v hx rx
    obtain ⟨_, r2⟩ := Dp.reads I d y u hy ry
    have h := SeqAt.eqAt_reads d d A s v u _ _ r1 r2 hc hc (by rw [Nat.min_self]; omega)
    rwa [SeqAt.eqv_refl d hc] at h
theorem pairs_at {A : Around} {F : V → V → Prop} (ih : ∀ x y v u, F x y → RelV x v → RelV y u → SeqAt.EqAt A s v u true) : ∀ {xs ys : List V} {us ws : List Value}, Paired F xs ys → Vals xs us → Vals ys ws → us.length = ws.length ∧ ∀ (j : Nat) (a b : Value), us[j]? = some a → ws[j]? = some b → SeqAt.EqAt A s a b true
  | _, _, _, _, .nil, .nil, .nil => ⟨rfl, fun j a b h => by simp at h⟩
  | _, _, _, _, .cons h t, .cons r1 q1, .cons r2 q2 => by
    obtain ⟨hl, hi⟩ := pairs_at ih t q1 q2
    refine ⟨by simp [hl], fun j a b h1 h2 => ?_⟩
    cases j with
    | zero =>
      obtain rfl := Option.some.inj h1
      obtain rfl := Option.some.inj h2
      exact ih _ _ _ _ h r1 r2
    | succ j => exact hi j a b h1 h2
theorem all_yes (n : Nat) : ((List.range n).all fun _ => true) = true := List.all_eq_true.mpr fun _ _ => rfl
theorem eqT_at (I : Inv X pins σ H s) {A : Around} (hu : A.units + 9 < cLine) {x y : V} {v u : Value} (h : EqT X.K H x y) (rx : RelV x v) (ry : RelV y u) : SeqAt.EqAt A s v u true := by
  obtain ⟨a, b, xs, ys, rfl, rfl, ha, hb, hp⟩ := h
  have e1 : v = .ref a := rx
  have e2 : u = .ref b := ry
  rw [e1, e2]
  by_cases e : a = b
  · rw [e]; exact .same _
  obtain ⟨us, q1, p1, _⟩ := I.tuple ha
  obtain ⟨ws, q2, p2, _⟩ := I.tuple hb
  obtain ⟨hl, hi⟩ := pairs_at (A := A.in1) (fun x y v u h r1 r2 => eqI_at I (A := A.in1) (by show A.units + 1 + 8 < cLine; omega) h r1 r2) hp q1 q2
  have hr := SeqAt.RcAt.tuples (e := fun _ => true) p1 p2 (by omega : A.units < cLine) fun j h1 h2 => hi j _ _ (by simp) (by simp)
  have ee : ((List.range (min us.toArray.size ws.toArray.size)).all (fun _ => true) && us.toArray.size == ws.toArray.size) = true := by
    rw [all_yes, List.size_toArray, List.size_toArray, hl]; simp
  rw [ee] at hr
  exact .of_refs e hr
/-- x != y: two lists that are alike -/
def rNeO (K : PySem.W.Frag) : R2 := fun x y H Q => ∃ a b xs ys, x = .ref a ∧ y = .ref b ∧ SqL K H a xs ∧ SqL K H b ys ∧ Paired (fun p q => EqI K H p q ∨ EqT K H p q) xs ys ∧ Q (.bl false) H
theorem op_neO (hu : X.A.units + 64 < cLine) : OpR X (compareOp .NotEq) (rNeO X.K) := by
  intro pins s σ H x y v u Q I rx ry h
  obtain ⟨a, b, xs, ys, rfl, rfl, ha, hb, hp, q⟩ := h
  have e1 : v = .ref a := rx
  have e2 : u = .ref b := ry
  rw [e1, e2]
  obtain ⟨us, q1, p1, _⟩ := I.list ha
  obtain ⟨ws, q2, p2, _⟩ := I.list hb
  obtain ⟨hl, hi⟩ := pairs_at (A := X.A.in1) (fun x y v u h r1 r2 => h.elim (fun h => eqI_at I (A := X.A.in1) (by show X.A.units + 1 + 8 < cLine; omega) h r1 r2) fun h => eqT_at I (A := X.A.in1) (by show X.A.units + 1 + 9 < cLine; omega) h r1 r2) hp q1 q2
  have hr := SeqAt.RcNeAt.lists (e := fun _ => true) p1.isList p2.isList (by rw [List.size_toArray, List.size_toArray, hl]) (by omega : X.A.units < cLine) fun j h1 h2 => hi j _ _ (by simp) (by simp)
  rw [all_yes] at hr
  exact hr X.prog X.w _ _ ⟨.bl false, H, I, rfl, q⟩
theorem neOK {K : PySem.W.Frag} (hu : X.A.units + 64 < cLine) (h : X.K = K := by rfl) : OpR X (compareOp .NotEq) (rNeO K) := by subst h; exact op_neO hu
/-- x == []: a list of anything -/
def rEqE (K : PySem.W.Frag) : R2 := fun x y H Q => ∃ a b xs, x = .ref a ∧ y = .ref b ∧ SqL K H a xs ∧ SqL K H b [] ∧ Q (.bl xs.isEmpty) H
theorem op_eqE (hu : X.A.units + 64 < cLine) : OpR X (compareOp .Eq) (rEqE X.K) := by
  intro pins s σ H x y v u Q I rx ry h
  obtain ⟨a, b, xs, rfl, rfl, ha, hb, q⟩ := h
  have e1 : v = .ref a := rx
  have e2 : u = .ref b := ry
  rw [e1, e2]
  obtain ⟨us, q1, p1, _⟩ := I.list ha
  obtain ⟨ws, q2, p2, _⟩ := I.list hb
  cases q2
  cases q1 with
  | nil =>
    have hr := SeqAt.RcAt.lists (A := X.A) (s := s) (e := fun _ => true) p1.isList p2.isList rfl (by omega : X.A.units < cLine) fun j h1 h2 => absurd h1 (by simp)
    exact hr X.prog X.w _ _ ⟨.bl true, H, I, rfl, q⟩
  | cons r rr =>
    have hr := SeqAt.RcAt.lists_lengths (A := X.A) (s := s) p1.isList p2.isList (by simp) (by omega : X.A.units < cLine)
    exact hr X.prog X.w _ _ ⟨.bl false, H, I, rfl, q⟩
theorem eqEK {K : PySem.W.Frag} (hu : X.A.units + 64 < cLine) (h : X.K = K := by rfl) : OpR X (compareOp .Eq) (rEqE K) := by subst h; exact op_eqE hu
end
end DP
/-! x != []: a list of anything. -/
namespace DP
open PySem PySem.Spec PyProof.Rows L2
section
variable {X : Cx}
def rNeE (K : PySem.W.Frag) : R2 := fun x y H Q => ∃ a b xs, x = .ref a ∧ y = .ref b ∧ SqL K H a xs ∧ SqL K H b [] ∧ Q (.bl (!xs.isEmpty)) H
theorem op_neE (hu : X.A.units + 64 < cLine) : OpR X (compareOp .NotEq) (rNeE X.K) := by
  intro pins s σ H x y v u Q I rx ry h
  obtain ⟨a, b, xs, rfl, rfl, ha, hb, q⟩ := h
  have e1 : v = .ref a := rx
  have e2 : u = .ref b := ry
  rw [e1, e2]
  obtain ⟨us, q1, p1, _⟩ := I.list ha
  obtain ⟨ws, q2, p2, _⟩ := I.list hb
  cases q2
  cases q1 with
  | nil =>
    have hr := SeqAt.RcNeAt.lists (A := X.A) (s := s) (e := fun _ => true) p1.isList p2.isList rfl (by omega : X.A.units < cLine) fun j h1 h2 => absurd h1 (by simp)
    exact hr X.prog X.w _ _ ⟨.bl false, H, I, rfl, q⟩
  | cons r rr =>
    have hr := SeqAt.RcNeAt.lists_lengths (A := X.A) (s := s) p1.isList p2.isList (by simp) (by omega : X.A.units < cLine)
    exact hr X.prog X.w _ _ ⟨.bl true, H, I, rfl, q⟩
theorem neEK {K : PySem.W.Frag} (hu : X.A.units + 64 < cLine) (h : X.K = K := by rfl) : OpR X (compareOp .NotEq) (rNeE K) := by subst h; exact op_neE hu
end
end DP
/-! An own error class over ValueError whose __init__ says super().__init__(a text), then self.what = what: what a call of it leaves. -/
namespace ERR
open PySem PySem.W PySem.Calls PyProof.Rows PySem.HandSPX
def eA (p1 p2 : Pos) : Arguments := { posonlyargs := [], args := [{ arg := "self", annotation := none, pos := p1 }, { arg := "what", annotation := none, pos := p2 }], vararg := none, kwonlyargs := [], kw_defaults := [], kwarg := none, defaults := [] }
def eB (txt : Str) (p : Nat → Pos) : List Stmt := [.Expr (.Call (.Attribute (.Call (.Name "super" (p 0)) [] [] (p 1)) "__init__" (p 2)) [.Constant (.str txt) 0 (p 3)] [] (p 4)) (p 5), .Assign [.Attribute (.Name "self" (p 6)) "what" (p 7)] (.Name "what" (p 8)) (p 9)]
def eS : Scope := { kind := .function, names := [("self", .local), ("what", .local), ("__class__", .free), ("super", .globalImplicit)], isGenerator := false, isCoroutine := false, more := [] }
structure ErrT (P : Program) (K : Frag) (C fI : Addr) : Prop where
  cls : ∃ nm q N bs bm sn sub ab col dd k0 k1 k2 k3 k5, K.lookup C = some (excClassObj nm q C N bs bm true sn sub ab col dd k0 k1 k2 k3 k5 "ValueError.__new__") ∧ refsVE bm = true
  sa : findIn K (.ref C) "__setattr__" = some (some (.builtin "object.__setattr__"))
  noW : findIn K (.ref C) "what" = some none
  subV : subIn K (.ref C) (.type "ValueError") = some true
  sup : ks_superIn K C C "__init__" = some (some (.builtin "ValueError.__init__"))
  opq : nsIn K cStatics "thirdparty.any" = some none
  me : mroIn K C (.ref C) = some true
  init : findIn K (.ref C) "__init__" = some (some (.ref fI))
  tyI : typeIn K (.ref fI) = some (.type "function")
  kC : keepIn K (.ref C) = true
  exC : subIn K (.ref C) (.type "BaseException") = some true
  tyC : typeIn K (.ref C) = some (.type "type")
  top : (P.main.scope.names.lookup ("super" : Str)).isSome = false
  fn : ∃ (oc : Value) (od an : Option Addr) (doc pm ct : Value) (osl : Array (Option Value)) (qual txt : Str) (cc cda : Addr) (p1 p2 : Pos) (p : Nat → Pos) (cl ccl : Value) (cld cdd : Option Addr) (csl ccs : Array (Option Value)) (vs : Array Value) (file : Str) (tf : Tok),
    K.lookup fI = some ⟨oc, od, .func (ksFn "__init__" qual (eA p1 p2) (eB txt p) eS .none .none doc pm an (.ref cda) ct cc), osl⟩ ∧ codeIn K (.ref cda) qual = true ∧
    (∀ env : Env, ∃ pl : Sem Bool, eval (.Call (.Attribute (.Call (.Name "super" (p 0)) [] [] (p 1)) "__init__" (p 2)) [.Constant (.str txt) 0 (p 3)] [] (p 4)) env = (do
      let ov ← attributeBase (.Call (.Name "super" (p 0)) [] [] (p 1)) "__init__" env (eval (.Call (.Name "super" (p 0)) [] [] (p 1)) env)
      standAt (p 2).atName
      let (f, first) ← holding [ov] (getMethod ov "__init__" pl)
      callWith (p 4) f first (backTo (p 4) (starEach [.Constant (.str txt) 0 (p 3)] env)) [])) ∧
    K.lookup cc = some ⟨cl, cld, .cell (some (.ref C)), csl⟩ ∧ K.lookup cda = some ⟨ccl, cdd, .fields vs, ccs⟩ ∧ vs[2]? = some (.str file tf) ∧ ((P.main.file : Str) == file) = true
/-- what __init__ leaves of a fresh exception at x -/
structure Left (h h' : Heap) (x C dx t1 : Addr) (v : Value) : Prop where
  keep : ∀ b o, b ≠ x → h.get? b = some o → h'.get? b = some o
  obj : h'.get? x = some { cls := .ref C, dict := some dx, data := .fields #[.ref t1, .none, .none, .none, .bool false, .none] }
  dbig : h.objs.size ≤ dx
  dne : dx ≠ x
  ns : h'.Ns1 dx (fun y => if y = "what" then some v else none)
section
variable {P : Program} {w : World} {A : Around} {E : Value → Shared → Prop} {R : Result → Shared → Prop} {s : Shared} {K : Frag} {mg mb : Str → Option Value} {C fI : Addr}
theorem mw_call {h : Heap} {g : Array GenState} {d : Drawn} {tk : Nat} {os : OsState} {u x t0 : Addr} {rest : List Value} {nm q : Str} {N : Addr} {bs bm : List Value} {sn : List Str} {sub : List Value} {ab : Bool} {col : Option Bool} {dd : Option Addr} {k0 k1 k2 k3 k5 : Option Value} {Q : Value → Shared → Prop}
    (hu : h.get? u = some (kxs_mw "ValueError.__init__" x)) (hx : h.get? x = some (excO C t0)) (hC : h.get? C = some (excClassObj nm q C N bs bm true sn sub ab col dd k0 k1 k2 k3 k5 "ValueError.__new__")) (hz : rest.length ≤ sizeLine)
    (fin : ∀ h', (∀ b o, b ≠ x → h.get? b = some o → h'.get? b = some o) → h'.get? x = some (excO C h.objs.size) → Q .none ⟨h', g, d, tk, os⟩) :
    wpAny (model P w) A (call (.ref u) rest) Q E ⟨h, g, d, tk, os⟩ := by
  have e1 : (Value.type "method-wrapper" == Value.type "method" || Value.type "method-wrapper" == Value.type "builtin_function_or_method" || Value.type "method-wrapper" == Value.type "method-wrapper") = true := by decide
  refine wpAny_call (codeAny_of_tree (show wpAny _ A.in1 (callAny (.ref u) ⟨rest, []⟩) _ _ _ from ?_))
  unfold callAny
  refine wpAny_bind (wpAny_load hu ?_)
  simp only [kxs_mw, e1, if_true]
  refine KFB.if_so (by decide) (wpAny_bind (check_bound_init F.excBase_ValueError.toExcCallFacts hC hx rfl ?_))
  refine wpAny_bind (wpAny_pure (wpAny_pure ⟨plainId_quiet F.excBase_ValueError.init.plain _, codeAny_builtin F.excBase_ValueError.initEntry ?_⟩))
  exact exc_init_tree (cls := .ref C) (t0 := t0) (dv := none) (c2 := .none) (c3 := .none) (b4 := .bool false) hx hz fun h' a1 a2 _ => fin h' a1 a2
theorem err_init (T : ErrT P K C fI) {x t0 : Addr} {v : Value} (X : K.In s.heap) (hlim : s.heap.NoLimit) (G : s.heap.Ns mainGlobals mg) (B : s.heap.Ns builtinsNs mb) (g0 : mg "super" = none) (b0 : mb "super" = some (.type "super"))
    (hx : s.heap.get? x = some (excO C t0)) (hnx : K.lookup x = none) (hroom : A.depth < recursionLimit)
    (hq : ∀ h' tk dx t1, Left s.heap h' x C dx t1 v → R (.ok (.ret .none)) { s with heap := h', toks := tk }) :
    codeAny (model P w) A (.call (.ref fI) ⟨[.ref x, v], []⟩) R s := by
  obtain ⟨oc, od, an, doc, pm, ct, osl, qual, txt, cc, cda, p1, p2, p, cl, ccl, cld, cdd, csl, ccs, vs, file, tf, ho, hcd, hev, hcell, hcode, hvs, hfile⟩ := T.fn
  obtain ⟨nm, q, N, bs, bm, sn, sub, ab, col, dd, k0, k1, k2, k3, k5, hC, hbm⟩ := T.cls
  refine ks_codeAny_call_defAt (fd := ksFn "__init__" qual (eA p1 p2) (eB txt p) eS .none .none doc pm an (.ref cda) ct cc) (body := eB txt p) (binds := [("self", .ref x), ("what", v)]) hroom (X _ _ ho) rfl hlim (codeRec_of X hcd) rfl (BindsTo.of_eq rfl) (show ∀ x ∈ eS.names, x.2 ≠ .cell by decide +kernel) (fun y hy => ?_) (fun h₁ hns k => ?_) rfl rfl rfl
  · simp only [List.mem_cons, List.mem_nil_iff, or_false] at hy
    rcases hy with rfl | rfl <;> rfl
  have X1 : K.In h₁ := X.keeps k
  have hx1 := k _ _ hx
  have hD1 := X1 _ _ hC
  have hxC : x ≠ C := fun e => by rw [e, hC] at hnx; cases hnx
  have hcl : clsIn K C = some { name := nm, bases := bs, mro := .ref C :: bm, ns := N, qualname := q, hasDict := true, slotNames := sn, subclasses := sub, abstract := ab, collection := col, hasDel := false } := by unfold clsIn; rw [hC] <;> rfl
  have I1 : InstAt h₁ x (excO C t0) C none := ⟨hx1, rfl, rfl, trivial⟩
  -- super().__init__(text)
  obtain ⟨pl, hev⟩ := hev (ksEnv qual eS s.heap.objs.size fI (.ref cda) cc)
  refine ks_wpAt_execs_cons (ks_wpAt_Expr_any (ks_wpAt_MethodCall (pl := pl) ?_ hev))
  refine ks_wpAt_super_base (env := ksEnv qual eS s.heap.objs.size fI (.ref cda) cc) rfl rfl rfl rfl (X1 _ _ ho) rfl rfl rfl (X1 _ _ hcode) rfl hvs hfile T.top ?_
  refine ks_loadName_global rfl rfl (loadGlobal_builtin (env := ksEnv qual eS s.heap.objs.size fI (.ref cda) cc) (G.keeps k) g0 (B.keeps k) b0 ⟨rfl, ?_⟩)
  refine wpAny_loadName_free rfl rfl rfl ⟨_, X1 _ _ hcell, rfl⟩ ?_
  refine wpAny_loadName_local (v := .ref x) rfl rfl hns rfl ?_
  refine ks_wpAny_isType_cls hD1 rfl ⟨rfl, ?_⟩
  refine ks_wpAny_call_super hD1 rfl hx1 rfl (fun c e => by cases e) (looks_mroIn X1 T.me) (fun h2 hso k2 => ?_)
  have X2 : K.In h2 := X1.keeps k2
  have I2 : InstAt h2 x (excO C t0) C none := ⟨k2 _ _ hx1, rfl, rfl, trivial⟩
  have hal : alongIn K "__init__" (((Value.ref C :: bm).dropWhile (· != .ref C)).drop 1) = some (some (.builtin "ValueError.__init__")) := by
    have h := T.sup
    unfold ks_superIn at h
    rw [hcl] at h
    exact h
  have hmr : ∀ {M : Model}, Looks M h2 (mroOf (.ref C)) (.ref C :: bm) := fun A Q E s k q => wpAny_bind ((looks_clsIn X2 hcl) A _ E s k (wpAny_pure q))
  refine kxs_getMethod kxs_ValueError hso (looks_opaque X2 T.opq) hmr rfl X2 hal (I2.type.andThen (looks_subIn X2 T.subV)) hxC (by decide) ?_
  refine kxs_callWith (i := "ValueError.__init__") (x := x) rfl (evalArgs_plain ?_)
  refine Calls.spliced_cons (Constant_str (k := 0) (pos := p 3) (Calls.spliced_nil ⟨?_, ?_⟩))
  · exact Heap.get?_push_size h2 rfl
  have kp : ∀ b o, h2.get? b = some o → (h2.push (kxs_mw "ValueError.__init__" x)).get? b = some o := fun b o e => Heap.get?_push_of_some _ e
  refine mw_call (Heap.get?_push_size h2 rfl) (kp _ _ (k2 _ _ hx1)) (kp _ _ (k2 _ _ hD1)) (by rw [sizeLine_eq]; exact (by decide : 1 ≤ 16777216)) fun h3 k3' hx3 => ?_
  have k3 : ∀ b o, b ≠ x → h₁.get? b = some o → h3.get? b = some o := fun b o hb e => k3' b o hb (kp _ _ (k2 _ _ e))
  have X3 : K.In h3 := fun a o e => k3 a o (fun z => by rw [z, hnx] at e; cases e) (X1 a o e)
  -- self.what = what
  have hxL : s.heap.objs.size ≠ x := Nat.ne_of_gt (Heap.lt_size hx)
  have hns3 : h3.Ns s.heap.objs.size (fun y => ([("self", Value.ref x), ("what", v)] : List (Str × Value)).reverse.lookup y) := by
    obtain ⟨oL, es, ep, hL, r⟩ := hns
    exact ⟨oL, es, ep, k3 _ _ hxL hL, r⟩
  have I3 : InstAt h3 x (excO C (h2.push (kxs_mw "ValueError.__init__" x)).objs.size) C none := ⟨hx3, rfl, rfl, trivial⟩
  refine ks_wpAt_execs_cons (wpAt_of_wpAny (plainObj_wpAny_Assign_Attribute ?_))
  refine wpAny_Name (wpAny_loadName_local (v := v) rfl rfl hns3 rfl ?_) (by decide)
  refine wpAny_Name (wpAny_loadName_local (v := .ref x) rfl rfl hns3 rfl ?_) (by decide)
  refine set_plain X3 I3 T.sa ?_
  refine exc_osa X3 hx3 hcl (show refsVE (.ref C :: bm) = true from hbm) rfl T.noW (fun h4 tk4 dx k4 dn dne hx4 hn4 => ?_)
  have sz : s.heap.objs.size ≤ h3.objs.size := Nat.le_of_lt hns3.lt
  refine wpAt_of_wpAny (wpAny_execs_nil (hq h4 tk4 dx _ ⟨fun b o hb e => k4 b o hb (k3 b o hb (k b o e)), hx4, Nat.le_trans sz dn, dne, hn4⟩))
end
end ERR
namespace ERR
open PySem PySem.W PySem.Calls PyProof.Rows PySem.HandSPX
/-- a made error -/
structure Made (h h' : Heap) (e C d : Addr) (v : Value) : Prop where
  keep : ∀ b o, h.get? b = some o → h'.get? b = some o
  new : h.objs.size ≤ e
  obj : ∃ t1 : Addr, h'.get? e = some { cls := .ref C, dict := some d, data := .fields #[.ref t1, .none, .none, .none, .bool false, .none] }
  dbig : h.objs.size ≤ d
  dne : d ≠ e
  ns : h'.Ns1 d (fun y => if y = "what" then some v else none)
section
variable {P : Program} {w : World} {A : Around} {R : Result → Shared → Prop} {s : Shared} {K : Frag} {mg mb : Str → Option Value} {C fI : Addr}
theorem err_made (T : ErrT P K C fI) {v : Value} (X : K.In s.heap) (hlim : s.heap.NoLimit) (G : s.heap.Ns mainGlobals mg) (B : s.heap.Ns builtinsNs mb) (g0 : mg "super" = none) (b0 : mb "super" = some (.type "super")) (hroom : A.depth + 1 < recursionLimit)
    (hq : ∀ h' tk e d, Made s.heap h' e C d v → R (.ok (.ret (.ref e))) { s with heap := h', toks := tk }) :
    codeAny (model P w) A (.call (.ref C) ⟨[v], []⟩) R s := by
  obtain ⟨nm, q, N, bs, bm, sn, sub, ab, col, dd, k0, k1, k2, k3, k5, hC, hbm⟩ := T.cls
  obtain ⟨hp, gs, dr, tk, os⟩ := s
  have up : ∀ b o, hp.get? b = some o → ((hp.push (kdv_tup [v])).push (excO C hp.objs.size)).get? b = some o := fun b o e => Heap.get?_push_of_some _ (Heap.get?_push_of_some _ e)
  have new : ((hp.push (kdv_tup [v])).push (excO C hp.objs.size)).get? (hp.objs.size + 1) = some (excO C hp.objs.size) := by heap_get
  have out : K.lookup (hp.objs.size + 1) = none := by
    cases e : K.lookup (hp.objs.size + 1) with
    | none => rfl
    | some o =>
      have hlt := Heap.lt_size (X _ _ e)
      have hlt' : hp.objs.size + 1 < hp.objs.size := hlt
      omega
  have one : [v].length ≤ sizeLine := by rw [sizeLine_eq]; exact (by decide : 1 ≤ 16777216)
  refine call_own F.excBase_ValueError (fun Y => refsVE_contains Y bm hbm) (X _ _ hC) (looks_findIn X T.init) (fun self => bind_fn X self T.tyI) one ?_
  refine err_init (s := ⟨(hp.push (kdv_tup [v])).push (excO C hp.objs.size), gs, dr, tk, os⟩) T (X.keeps up) (hlim.keeps up) (G.keeps up) (B.keeps up) g0 b0 new out hroom fun h' tk' dx t1 L => ?_
  have z : hp.objs.size + 1 + 1 ≤ dx := by
    have q := L.dbig
    first
      | exact q
      | simpa only [Heap.size_push] using q
  refine ⟨rfl, hq h' tk' (hp.objs.size + 1) dx ⟨fun b o e => L.keep b o (fun eb => ?_) (up b o e), Nat.le_succ _, ⟨t1, L.obj⟩, Nat.le_trans (Nat.le_add_right _ 2) z, L.dne, L.ns⟩⟩
  subst eb
  have hlt : hp.objs.size + 1 < hp.objs.size := Heap.lt_size e
  omega
end
end ERR
namespace L2
open PySem PySem.Spec PyProof.Rows
theorem relO_what {v : V} {u : Value} (r : RelV v u) (f : Str) : RelO (List.lookup f [(("what" : Str), v)]) (if f = "what" then some u else none) := by
  by_cases hw : f = "what"
  · rw [hw, if_pos rfl, show List.lookup ("what" : Str) [(("what" : Str), v)] = some v by simp [List.lookup]]
    exact r
  · have hb : (f == ("what" : Str)) = false := by simpa using hw
    rw [if_neg hw, show List.lookup f [(("what" : Str), v)] = none by simp [List.lookup, hb]]
    trivial
section
variable {X : Cx} {C fI : Addr}
/-- C(e): an error whose own dict is new and holds what -/
def tMkErr (C : Addr) (ta : TA) : St → Hp → XK → Prop := fun σ H Q => ta σ H fun vs H1 => ∃ v, vs = [v] ∧ ∀ d, H1 d = none → Q (.ref C) (some d) (upd H1 d (.xd [(("what" : Str), v)]))
theorem pmk_err {nm : Str} {a : Expr} {ta : TA} {p pos : Pos} {k : Nat} (T : ERR.ErrT X.prog X.K C fI) (hm : X.mg nm = some (.ref C)) (g0 : X.mg "super" = none) (hr : Room k X.A) (ha : PA X [a] ta) (hg : Gl X nm := by rfl) (hdb : (nm == ("__debug__" : Str)) = false := by decide)
    (he : starEach (a :: []) X.env = (false, eval a X.env) :: starEach [] X.env := by rfl) (hpl : (backTo pos (starEach [] X.env)).any (·.1) = false := by rfl) :
    PMk X (.Call (.Name nm p) [a] [] pos) (tMkErr C ta) := by
  intro pins s σ H Q I h
  refine wpAny_Call_Name_kw (ld_glob I hg hm ?_ hdb)
  refine PySem.W.callWith_K (h₀ := X.base) I.ok.mod.kin T.kC (thn (ha.run pos pins s σ H _ I h) fun us s1 ⟨vs, H1, I1, r1, v, ev, q1⟩ => ⟨I1.kIn, ?_⟩) he hpl
  subst ev
  obtain ⟨u, rfl, rv⟩ : ∃ u, us = [u] ∧ RelV v u := by
    cases r1 with
    | cons a b => cases b; exact ⟨_, rfl, a⟩
  obtain ⟨mb, hb, hbb⟩ := I1.mod.blt
  have lim := I1.nolimit
  obtain ⟨hp, gs, dr, tk, os⟩ := s1
  refine wpAny_call (ERR.err_made T I1.kIn lim (I1.mod.glob.keeps I1.bk) (hb.keeps I1.bk) g0 ((hbb "super" (by decide)).trans (by rfl)) (by have := hr.dp; omega) fun h' tk' e d M => ?_)
  obtain ⟨t1, hoe⟩ := M.obj
  obtain ⟨G', f1, f2⟩ := restrict h' fun b => decide (b ≠ e)
  have at_ : ∀ b, b ≠ e → G'.get? b = h'.get? b := fun b hb => f1 b (decide_eq_true hb)
  have gone : G'.get? e = none := f2 e (by simp)
  have lt : ∀ b o, hp.get? b = some o → b ≠ e := fun b o q z => by
    have h1 := Heap.lt_size q
    have h2 := M.new
    rw [z] at h1
    exact absurd h1 (Nat.not_lt.mpr h2)
  have ob : ObjOk X.prog X.w (upd H1 d (.xd [(("what" : Str), v)])) G' d (.xd [(("what" : Str), v)]) := ⟨_, M.ns.at (fun o q => (at_ d M.dne).trans q), fun f => relO_what rv f⟩
  have J : Inv X pins σ (upd H1 d (.xd [(("what" : Str), v)])) ⟨G', gs, dr, tk', os⟩ := I1.laid (t' := tk') (fun b o q => (at_ b (lt b o q)).trans (M.keep b o q)) M.dbig ob
  have nA : (upd H1 d (.xd [(("what" : Str), v)])) e = none := by rw [upd_ne (Ne.symm M.dne)]; exact I1.hok.fresh M.new
  refine ⟨e, _, _, ⟨G', gs, dr, tk', os⟩, _, .ref C, some d, rfl, J, fun b o q => ?_, gone, hoe, ⟨rfl, rfl⟩, rfl, rfl, nA, rfl, I1.bare, raises_own T.exC T.tyC, q1 d (I1.hok.fresh M.dbig)⟩
  by_cases hbe : b = e
  · rw [hbe] at q; exact absurd (q.symm.trans gone) (by simp)
  · exact (at_ b hbe).symm.trans q
end
end L2
/-! The facts of an own error class out of the written part, one by one. -/
namespace ERR
open PySem PySem.W PySem.Calls PyProof.Rows PySem.HandSPX
/-- where the parts of such an __init__ stand -/
def ePos (b : List Stmt) : Nat → Pos := match b with
  | [.Expr (.Call (.Attribute (.Call (.Name _ p0) _ _ p1) _ p2) [.Constant _ _ p3] _ p4) p5, .Assign [.Attribute (.Name _ p6) _ p7] (.Name _ p8) p9] => fun n => match n with
    | 0 => p0 | 1 => p1 | 2 => p2 | 3 => p3 | 4 => p4 | 5 => p5 | 6 => p6 | 7 => p7 | 8 => p8 | _ => p9
  | _ => fun _ => ⟨0, 0, 0, 0⟩
def eTxt (b : List Stmt) : Str := match b with
  | [.Expr (.Call _ [.Constant (.str x) _ _] _ _) _, _] => x
  | _ => ""
/-- an error of the class at S is what «except S» names -/
theorem exm_self {K : Frag} {S : Addr} (h1 : subIn K (.ref S) (.type "BaseException") = some true) (h2 : isClsIn K S = true) (h3 : typeIn K (.ref S) = some (.type "type")) (h4 : subIn K (.ref S) (.ref S) = some true) :
    exmOne K (.ref S) (.ref S) = some true := by
  have e1 : (subIn K (.ref S) (.type "BaseException") == some true) = true := by rw [h1] <;> rfl
  have e2 : ((clsIn K S).isSome && typeIn K (.ref S) == some (.type "type")) = true := by
    have h2' : (clsIn K S).isSome = true := h2
    rw [h2', h3] <;> rfl
  show (if (subIn K (.ref S) (.type "BaseException") == some true) = true then (if ((clsIn K S).isSome && typeIn K (.ref S) == some (.type "type")) = true then subIn K (.ref S) (.ref S) else none) else none) = some true
  rw [if_pos e1, if_pos e2]
  exact h4
theorem errT_mk {P : Program} {K : Frag} {C fI : Addr} (s : Stmt) {qual : Str}
    {nm q : Str} {N : Addr} {bs bm : List Value} {sn : List Str} {sub : List Value} {ab : Bool} {col : Option Bool} {dd : Option Addr} {k0 k1 k2 k3 k5 : Option Value}
    {oc doc pm ct cl ccl : Value} {od an cld cdd : Option Addr} {osl csl ccs : Array (Option Value)} {cc cda : Addr} {vs : Array Value} {file : Str} {tf : Tok}
    (xL : K.lookup C = some (excClassObj nm q C N bs bm true sn sub ab col dd k0 k1 k2 k3 k5 "ValueError.__new__")) (bmv : refsVE bm = true)
    (sa : findIn K (.ref C) "__setattr__" = some (some (.builtin "object.__setattr__")))
    (noW : findIn K (.ref C) "what" = some none)
    (subV : subIn K (.ref C) (.type "ValueError") = some true)
    (sup : ks_superIn K C C "__init__" = some (some (.builtin "ValueError.__init__")))
    (opq : nsIn K cStatics "thirdparty.any" = some none)
    (me : mroIn K C (.ref C) = some true)
    (init : findIn K (.ref C) "__init__" = some (some (.ref fI)))
    (tyI : typeIn K (.ref fI) = some (.type "function"))
    (kC : keepIn K (.ref C) = true)
    (exC : subIn K (.ref C) (.type "BaseException") = some true)
    (tyC : typeIn K (.ref C) = some (.type "type"))
    (top : (P.main.scope.names.lookup ("super" : Str)).isSome = false)
    (l : K.lookup fI = some ⟨oc, od, .func (ksFn "__init__" qual (L2.defArgs s) (L2.defBody s) (L2.defScope s) .none .none doc pm an (.ref cda) ct cc), osl⟩)
    (hA : ∃ p1 p2, L2.defArgs s = eA p1 p2) (hB : L2.defBody s = eB (eTxt (L2.defBody s)) (ePos (L2.defBody s))) (hS : L2.defScope s = eS)
    (hev : ∀ env : Env, ∃ pl : Sem Bool, eval (.Call (.Attribute (.Call (.Name "super" (ePos (L2.defBody s) 0)) [] [] (ePos (L2.defBody s) 1)) "__init__" (ePos (L2.defBody s) 2)) [.Constant (.str (eTxt (L2.defBody s))) 0 (ePos (L2.defBody s) 3)] [] (ePos (L2.defBody s) 4)) env = (do
      let ov ← attributeBase (.Call (.Name "super" (ePos (L2.defBody s) 0)) [] [] (ePos (L2.defBody s) 1)) "__init__" env (eval (.Call (.Name "super" (ePos (L2.defBody s) 0)) [] [] (ePos (L2.defBody s) 1)) env)
      standAt (ePos (L2.defBody s) 2).atName
      let (f, first) ← holding [ov] (getMethod ov "__init__" pl)
      callWith (ePos (L2.defBody s) 4) f first (backTo (ePos (L2.defBody s) 4) (starEach [.Constant (.str (eTxt (L2.defBody s))) 0 (ePos (L2.defBody s) 3)] env)) []))
    (c : codeIn K (.ref cda) qual = true)
    (lc : K.lookup cc = some ⟨cl, cld, .cell (some (.ref C)), csl⟩) (ld : K.lookup cda = some ⟨ccl, cdd, .fields vs, ccs⟩) (hv : vs[2]? = some (.str file tf)) (hf : ((P.main.file : Str) == file) = true) : ErrT P K C fI := by
  obtain ⟨p1, p2, hA⟩ := hA
  rw [hA, hS] at l
  generalize eTxt (L2.defBody s) = txt at hB hev
  generalize ePos (L2.defBody s) = p at hB hev
  rw [hB] at l
  exact { cls := ⟨nm, q, N, bs, bm, sn, sub, ab, col, dd, k0, k1, k2, k3, k5, xL, bmv⟩, sa := sa, noW := noW, subV := subV, sup := sup, opq := opq, me := me, init := init, tyI := tyI, kC := kC, exC := exC, tyC := tyC, top := top,
          fn := ⟨oc, od, an, doc, pm, ct, osl, qual, txt, cc, cda, p1, p2, p, cl, ccl, cld, cdd, csl, ccs, vs, file, tf, l, c, hev, lc, ld, hv, hf⟩ }
end ERR
/-! == and != by an own class's __eq__ and __ne__, whatever they answer. -/
namespace DP
open PySem PySem.Spec PyProof.Rows L2
theorem rooms64 {A : Around} {k : Nat} (hr : Room k A) : A.units + 64 < cLine := by have := hr.un; omega
/-- what isinstance asks of an own class's instances -/
structure IsiC (K : PySem.W.Frag) (C : Addr) : Prop where
  ha : PySem.W.findIn K (.ref C) "__class__" = some (some (.builtin "object.__class__"))
  hn : PySem.W.specialIn K (.builtin "object.__class__") "__get__" = some (some (.builtin "getset_descriptor.__get__"))
  htk : PySem.W.takesIn K (.builtin "object.__class__") = some true
  hm : PySem.W.mroIn K C (.type "object") = some true
theorem kit_self (K : PySem.W.Frag) (C : Addr) : PySem.W.kitOne K (.ref C) (.ref C) = some true := if_pos (beq_self_eq_true _)
theorem kit_no {K : PySem.W.Frag} {S : Addr} {t : Value} (h0 : (t == .ref S) = false) (h2 : PySem.W.isClsIn K S = true) (h3 : PySem.W.typeIn K (.ref S) = some (.type "type")) {b : Option Bool} (h4 : PySem.W.subIn K t (.ref S) = b) : PySem.W.kitOne K t (.ref S) = b := by
  have e2 : ((PySem.W.clsIn K S).isSome && PySem.W.typeIn K (.ref S) == some (.type "type")) = true := by
    have h2' : (PySem.W.clsIn K S).isSome = true := h2
    rw [h2', h3] <;> rfl
  show (if (t == .ref S) = true then some true else if ((PySem.W.clsIn K S).isSome && PySem.W.typeIn K (.ref S) == some (.type "type")) = true then PySem.W.subIn K t (.ref S) else none) = b
  rw [h0, if_neg Bool.false_ne_true, if_pos e2]
  exact h4
section
variable {X : Cx} {CX : CXT} {C f : Addr} {fd : FuncData} {ps : List Str} {sp : Sp} {E : XK} {k : Nat} {op : CmpOp}
/-- the right side: of the same class, a list, a whole number -/
inductive Right (K : PySem.W.Frag) (C : Addr) (H : Hp) : V → Prop
  | ins {b dy gs} : H b = some (.ins C dy gs) → Right K C H (.ref b)
  | lst {b xs} : SqL K H b xs → PySem.W.notFirst K C (.type "list") = true → Right K C H (.ref b)
  | int {i} : PySem.W.notFirst K C (.type "int") = true → Right K C H (.int i)
  | any {v t} : TyX K H v (.type t) → PySem.W.notFirst K C (.type t) = true → Right K C H v
def rOwn (K : PySem.W.Frag) (C : Addr) (sp : Sp) (E : XK) : V → V → Hp → VK → Prop := fun x y H Q => ∃ a dx fs, x = .ref a ∧ H a = some (.ins C dx fs) ∧ Right K C H y ∧ sp [x, y] H (fun v H' => ∃ b, v = .bl b ∧ Q (.bl b) H') E
theorem own_run (F : FnOk X.prog X.w X.K X.mg X.base CX k f fd ps sp) (hs : PySem.W.findIn X.K (.ref C) (cmpInfo op).2.1 = some (some (.ref f))) (hf : PySem.W.isFn X.K (.ref f) = true) (hb : Binds X.K fd ps []) (hx : Passes CX X E) (hr : Room k X.A) : ∀ (pins : List (Addr × Obj)) (s : Shared) (σ : L2.St) (H : Hp) (x y : V) (v u : Value) (Q : VK), Inv X pins σ H s → RelV x v → RelV y u → rOwn X.K C sp E x y H Q → wpAny (model X.prog X.w) X.A (richCompare op v u) (EP X pins σ Q) X.xe s := by
  intro pins s σ H x y v u Q I rx ry hq
  obtain ⟨a, dx, fs, rfl, ha, hy, q⟩ := hq
  cases rx
  obtain ⟨mA, J, _⟩ := ins_get I.hok ha
  obtain ⟨od, J, _⟩ := J.look
  obtain ⟨m, hF⟩ := I.fr
  obtain ⟨tb, hl, hn⟩ : ∃ tb, PySem.W.Looks (model X.prog X.w) s.heap (typeOf u) tb ∧ PySem.W.notFirst X.K C tb = true := by
    cases hy with
    | ins h =>
      cases ry
      obtain ⟨mB, J', _⟩ := ins_get I.hok h
      obtain ⟨od', J', _⟩ := J'.look
      exact ⟨.ref C, J'.type, by simp [PySem.W.notFirst]⟩
    | lst h hn =>
      cases ry
      obtain ⟨its, rv, pl, hz⟩ := I.list h
      exact ⟨_, fun A Q E s1 k q => (by
        obtain ⟨o, ho, hc, r⟩ := pl.isList
        exact wpAny_typeOf_ref (k _ _ ho) (by rw [hc]; exact q)), hn⟩
    | int hn =>
      obtain ⟨t, rfl⟩ := ry
      exact ⟨_, fun A Q E s1 k q => wpAny_pure q, hn⟩
    | any h hn =>
      obtain ⟨Pk, kx, hp, _⟩ := kit_of I ry h
      exact ⟨_, kx.ty _ _ I.kIn hp, hn⟩
  refine PySem.W.cmp_K (op := op) (tb := tb) hr.units0 hF I.ok.mod.kin J hl hn hs hf ?_
  have r2 : Vals [V.ref a, y] [Value.ref a, u] := .cons rfl (.cons ry .nil)
  have hlen := F.len _ _ _ _ q
  refine wpAny_call (codeAny_mono (F.run X.A X.stack s H ⟨[.ref a, u], []⟩ [.ref a, u] [.ref a, y] _ E hr I.env0 (by
    have := hb s [.ref a, u] I.kIn (by simpa using hlen)
    simpa using this) r2 q) fun r s' hq => ?_)
  cases r with
  | error e => exact hx pins σ H s e s' I hq
  | ok fl =>
    cases fl with
    | ret w =>
      obtain ⟨z, H', I', rz, b, ez, q2⟩ := I.after hq
      subst ez
      cases rz
      exact ⟨.bl b, H', I', rfl, q2⟩
    | next => exact hq.elim
    | brk => exact hq.elim
    | cont => exact hq.elim
theorem op_ownEq (F : FnOk X.prog X.w X.K X.mg X.base CX k f fd ps sp) (hs : PySem.W.findIn X.K (.ref C) "__eq__" = some (some (.ref f))) (hf : PySem.W.isFn X.K (.ref f) = true) (hb : Binds X.K fd ps []) (hx : Passes CX X E) (hr : Room k X.A) : OpR X (compareOp .Eq) (rOwn X.K C sp E) := fun pins s σ H x y v u Q I rx ry hq =>
  own_run (op := .Eq) F hs hf hb hx hr pins s σ H x y v u Q I rx ry hq
theorem op_ownNe (F : FnOk X.prog X.w X.K X.mg X.base CX k f fd ps sp) (hs : PySem.W.findIn X.K (.ref C) "__ne__" = some (some (.ref f))) (hf : PySem.W.isFn X.K (.ref f) = true) (hb : Binds X.K fd ps []) (hx : Passes CX X E) (hr : Room k X.A) : OpR X (compareOp .NotEq) (rOwn X.K C sp E) := fun pins s σ H x y v u Q I rx ry hq =>
  own_run (op := .NotEq) F hs hf hb hx hr pins s σ H x y v u Q I rx ry hq
/-- in a comprehension: K named -/
theorem ownEqK {K : PySem.W.Frag} {P : Program} {w : World} {mg : Str → Option Value} {base : Heap} (F : FnOk P w K mg base CX k f fd ps sp) (hs : PySem.W.findIn K (.ref C) "__eq__" = some (some (.ref f))) (hf : PySem.W.isFn K (.ref f) = true) (hb : Binds K fd ps []) (hx : Passes CX X E) (hr : Room k X.A) (h1 : X.prog = P := by rfl) (h2 : X.w = w := by rfl) (h3 : X.K = K := by rfl) (h4 : X.mg = mg := by rfl) (h5 : X.base = base := by rfl) : OpR X (compareOp .Eq) (rOwn K C sp E) := by
  subst h1 h2 h3 h4 h5
  exact op_ownEq F hs hf hb hx hr
end
end DP
/-! A caught error that stays: tracked from the except suite on, asked for its class and its fields wherever it is held. -/
namespace EK
open PySem PySem.Spec PyProof.Rows L2
/-- an error of the class cls at a, its own dict d -/
def ExV (cls : Value) (d : Option Addr) (a : Addr) : HO := .ext fun h => ∃ (oe : Obj) (vs : Array Value), h.get? a = some oe ∧ Zc cls d oe ∧ oe.data = .fields vs
theorem exV_ok {P : Program} {w : World} {H : Hp} {h : Heap} {a : Addr} {cls : Value} {d : Option Addr} {oe : Obj} {vs : Array Value} (e : h.get? a = some oe) (z : Zc cls d oe) (dt : oe.data = .fields vs) : ObjOk P w H h a (ExV cls d a) :=
  ⟨⟨oe, vs, e, z, dt⟩, ⟨oe, e⟩, fun _ _ ⟨o, v, q, r⟩ k => ⟨o, v, k o q, r⟩⟩
section
variable {X : Cx} {pins : List (Addr × Obj)} {σ : L2.St} {H : Hp} {s : Shared}
/-- an object that wasn't there at the entry is tracked from now on -/
theorem track {a : Addr} {o : HO} (I : Inv X pins σ H s) (na : H a = none) (n0 : X.s_0.heap.get? a = none) (nL : a ≠ X.env.locals) (nC : ∀ x c, X.env.cells.lookup x = some c → c ≠ a) (nP : ∀ p ∈ X.pn ++ pins, p.1 ≠ a)
    (ok : ObjOk X.prog X.w (upd H a o) s.heap a o) : Inv X pins σ (upd H a o) s := by
  have keep : ∀ {b : Addr} {u : HO}, H b = some u → upd H a o b = some u := fun {b u} e => by rw [upd_ne (ne_of_none e na)]; exact e
  refine ⟨I.ok, I.os, I.bare, ⟨I.base.keep, I.base.slot, fun b u e n q => ?_, I.base.there, fun b xs e => keep (I.base.tups b xs e), fun b u v e => keep (I.base.frzs b u v e), fun b ps e => ?_⟩, I.loc, I.cell, ?_, fun x c e => ?_, fun p hp => ?_, I.hok.laidN (fun _ _ e => e) na ok, I.len⟩
  · rw [upd_ne (fun z => by rw [z, n0] at e; cases e)]
    exact I.base.free b u e n q
  · obtain ⟨m, z⟩ := I.base.tbls b ps e
    exact ⟨m, keep z⟩
  · rw [upd_ne (Ne.symm nL)]; exact I.free
  · rw [upd_ne (nC x c e)]; exact I.freeC x c e
  · obtain ⟨e, n, ne, nf, dd⟩ := I.pin p hp
    exact ⟨e, by rw [upd_ne (nP p hp)]; exact n, ne, nf, dd⟩
abbrev suite0 (X : Cx) (a : Addr) (pn : List (Addr × Obj)) : Cx := X.suite a pn
theorem to_suite (I : Inv X pins σ H s) (a : Addr) : Inv (X.suite a (X.pn ++ pins)) [] σ H s :=
  ⟨I.ok.suite _ _, I.os, I.bare, I.base, I.loc, I.cell, I.free, I.freeC, fun p hp => by rw [List.append_nil] at hp; exact I.pin p hp, I.hok, I.len⟩
theorem of_suite {a : Addr} {pn' : List (Addr × Obj)} (I : Inv (X.suite a (X.pn ++ pins)) pn' σ H s) (ok : X.Ok) : Inv X pins σ H s :=
  ⟨ok, I.os, I.bare, I.base, I.loc, I.cell, I.free, I.freeC, fun p hp => I.pin p (List.mem_append_left _ hp), I.hok, I.len⟩
end
/-- what 'except x as n' wishes of an error of the body: slot i is n's, the error tracked -/
def wKeep (K : PySem.W.Frag) (c : Value) (i : Nat) (ts : TS) (Wout : WX) (D : Ends) : WX := fun cls d σ H =>
  ∃ b, PySem.W.exmOne K cls c = some b ∧ (b = true → ∀ a, H a = none → ts { nx := fun σ' H' => D.nx (σ'.set i none) H', rt := D.rt, bk := fun σ' H' => D.bk (σ'.set i none) H', ct := fun σ' H' => D.ct (σ'.set i none) H' } (σ.set i (some (.ref a))) (upd H a (ExV cls d a))) ∧
    (b = false → Wout cls d σ H)
section
variable {X : Cx} {x n : Str} {c : Value} {i : Nat} {body suite : List Stmt} {b₀ : Stmt} {np pos pos' : Pos} {tb : WX → TS} {ts : TS} {Wout : WX}
theorem ps_try_keep (hs : X.stack = X.env :: X.outer) (hf : X.env.frame = some X.env.locals) (hex : X.ex = []) (hN : X.N.Nodup) (hi : X.N[i]? = some n) (hln : X.env.kindOf n = some .local) (hc : Names X x c) (tk : Takes X Wout)
    (hb : ∀ (W : WX) (pn : List (Addr × Obj)) (xe : Value → Shared → Prop), Takes (X.tr pn xe) W → PassesOwn (model X.prog X.w) X.A X.env xe → PSs (X.tr pn xe) body (tb W))
    (hsu : ∀ (a : Addr) (pn : List (Addr × Obj)), PSs (X.suite a pn) (b₀ :: suite) ts) :
    PS X (.Try body [.ExceptHandler (some (.Name x np)) (some n) (b₀ :: suite) pos'] [] [] pos) (fun D σ H => tb (wKeep X.K c i ts Wout D) D σ H) := by
  refine ⟨fun pins s σ H D I h => ?_⟩
  have ok := I.ok
  have hfr : X.A.frames = some (X.env :: X.outer) := by rw [ok.frames, hs]
  have hloc : Loc X.env.scope n := .inl hln
  refine wpAny_Try_except (wpAny_mono ((hb (wKeep X.K c i ts Wout D) (X.pn ++ pins) (fun e s₁ => wpAny (model X.prog X.w) X.A (noteFrame e X.env) (fun _ s₂ => wpAny (model X.prog X.w) X.A (setFlight e none) (fun _ s₃ =>
    wpAny (model X.prog X.w) X.A (handleBy e X.env [.ExceptHandler (some (.Name x np)) (some n) (b₀ :: suite) pos']) (SP X pins D) X.xe s₃) X.xe s₂) X.xe s₁) (fun u s' xx => ?_) PassesOwn.looking).run [] s σ H D (I.toTry _) h) (fun f s1 hsp => ?_) (fun e s1 he => he))
  · obtain ⟨a, B, sI, pins', σ', H', cls, d, rfl, J', nb, up, sky, na, os, ag, b, hb1, hyes, hno⟩ := xx
    have J : Inv X pins σ' H' sI := J'.ofTry ok
    have sky' : Sky B (X.env :: X.outer) a (Zc cls d) X.env.locals s'.heap := by rw [← hs]; exact sky
    show wpAny (model X.prog X.w) X.A (noteFrame (.ref a) X.env) _ _ _
    refine Sky.land Zc.steady hfr hf sky' fun h3 fl3 up3 => ?_
    have J3 : Inv X pins σ' H' { s' with heap := h3 } := J.landed nb fl3.1 (up.trans up3) os ag
    obtain ⟨oe3, vs3, he3, hz3, hd3⟩ := fl3.there
    have nfr : a ∉ frs (X.env :: X.outer) := fun hm => by
      obtain ⟨_, o', e', hnf⟩ := fl3.2.2.1.mem hm
      rw [he3] at e'; cases e'
      exact hnf _ hd3
    have nL : a ≠ X.env.locals := fun z => nfr (List.mem_filterMap.mpr ⟨X.env, List.mem_cons_self, by rw [hf, z]⟩)
    have nF : a ∉ X.fs := fun hm => by
      obtain ⟨e, he, q⟩ := List.mem_filterMap.mp hm
      exact nfr (List.mem_filterMap.mpr ⟨e, List.mem_cons_of_mem _ he, q⟩)
    have nB : B.get? a = none := fl3.2.1
    -- it is none of what stood
    have nI : ∀ b o, sI.heap.get? b = some o → b ∉ frs X.stack → b ≠ a := fun b o e hb z => by
      have q := nb b o e hb
      rw [z, nB] at q; cases q
    have nS : a ∉ frs X.stack := by rw [hs]; exact nfr
    have n0 : X.s_0.heap.get? a = none := by
      cases e : X.s_0.heap.get? a with
      | none => rfl
      | some o =>
        obtain ⟨o2, e2⟩ := J.base.there a o e (by rw [hex]; exact fun z => nomatch z)
        exact absurd rfl (nI a o2 e2 nS)
    have nP : ∀ p ∈ X.pn ++ pins, p.1 ≠ a := fun p hp z => by
      obtain ⟨e, _, _, _, _⟩ := J.pin p hp
      exact nI _ _ e (by rw [z]; exact nS) z
    have nC : ∀ x c, X.env.cells.lookup x = some c → c ≠ a := fun x c e z => by
      obtain ⟨v, o, ho, hd⟩ := J3.cell x c e
      rw [z, he3] at ho
      rw [← Option.some.inj ho, hd3] at hd
      exact nomatch hd
    have S3 := J3.suite he3 hd3 na nL nF
    refine wpAny_handleBy_cons (codeAny_handlers_test ?_) (by intro q; cases q)
    have LT : PySem.W.Looks (model X.prog X.w) h3 (typeOf (.ref a)) cls := fun A Q E s k q => wpAny_typeOf_ref (k _ _ he3) (by rw [hz3.1]; exact q)
    have LM := PySem.W.exm_one (M := model X.prog X.w) (J3.kIn) LT hb1
    have test : ∀ {Q : Value → Shared → Prop} {E : Value → Shared → Prop}, Q c { s' with heap := h3 } → wpAny (model X.prog X.w) (X.A.mark (some (.ref a))) (eval (.Name x np) X.env) Q E { s' with heap := h3 } := fun {Q E} q => by
      obtain ⟨hg, hdbg, hm | ⟨hm, hv, hnn⟩⟩ := hc
      · exact ld_glob (X := X.suite a ((a, oe3) :: (X.pn ++ pins))) S3 hg hm q hdbg
      · exact ld_blt (X := X.suite a ((a, oe3) :: (X.pn ++ pins))) S3 hg hm hv q hnn hdbg
    refine test (LM.here ?_)
    cases b with
    | true =>
      refine codeAny_handlers_suite_as (HandSPX.lands_againZ fl3 fun h4 fl4 up4 => ?_)
      have J4 : Inv X pins σ' H' { s' with heap := h4 } := J.landed nb fl4.1 ((up.trans up3).trans up4) os ag
      obtain ⟨oe4, vs4, he4, hz4, hd4⟩ := fl4.there
      have J5 := track (o := ExV cls d a) J4 na n0 nL nC nP (exV_ok he4 hz4 hd4)
      refine store_ok (X := X.suite a (X.pn ++ pins)) (v := .ref a) (to_suite J5 a) hN hi hloc rfl (fun s5 S5 => ?_) (.inr hln)
      refine wpAny_mono ((hsu a (X.pn ++ pins)).run [] s5 _ _ _ S5 (hyes rfl a na)) (fun f s6 hsp => ?_) (fun _ _ z => False.elim z)
      have leave : ∀ {σ6 : L2.St} {H6 : Hp} {Q : Shared → Prop}, Inv (X.suite a (X.pn ++ pins)) [] σ6 H6 s6 → (∀ s7, Inv X pins (σ6.set i none) H6 s7 → Q s7) →
          wpAny (model X.prog X.w) X.A (do bindName X.env n .none; unbindBehindTheSuite X.env n pos') (fun _ s7 => Q s7) X.xe s6 := fun {σ6 H6 Q} S6 hq => gone_ok (of_suite S6 ok) hN hi hln hq
      cases f with
      | next =>
        obtain ⟨σ6, H6, S6, q6⟩ := hsp
        exact leave S6 fun s7 J7 => ⟨_, _, J7, q6⟩
      | brk =>
        obtain ⟨σ6, H6, S6, q6⟩ := hsp
        exact leave S6 fun s7 J7 => ⟨_, _, J7, q6⟩
      | cont =>
        obtain ⟨σ6, H6, S6, q6⟩ := hsp
        exact leave S6 fun s7 J7 => ⟨_, _, J7, q6⟩
      | ret u =>
        obtain ⟨v6, σ6, H6, S6, r6, q6⟩ := hsp
        exact leave S6 fun s7 J7 => ⟨_, _, _, J7, r6, q6⟩
    | false =>
      show wpAny _ X.A (handleBy (.ref a) X.env []) _ _ _
      refine wpAny_handleBy_nil ?_
      obtain ⟨k1, k2, k3, oe, vs, T, oT, ts', he, hz, hd, h1, hr⟩ := id fl3
      unfold PySem.passOn
      refine wpAny_bind (wpAny_field he hd h1 ?_)
      rw [if_neg (show ¬ ((Value.ref T == Value.none) = true) from by simp)]
      have fin : wpAny (model X.prog X.w) X.A (setFlight (.ref a) X.env.frame) (fun _ s4 => wpAny (model X.prog X.w) X.A (throw (.ref a) : Sem Flow) (SP X pins D) X.xe s4) X.xe { s' with heap := h3 } := by
        rw [hf]
        refine HandSPX.setFlight_upZ fl3 fun h4 hh4 up4 => wpAny_throw (tk _ _ ⟨a, B, sI, pins, σ', H', cls, d, rfl, J, nb, (up.trans up3).trans up4, .inr (.inr (by rw [hs]; exact hh4)), na, os, ag, hno rfl⟩)
      first
        | exact wpAny_bind (wpAny_pure (wpAny_bind fin))
        | exact wpAny_bind fin
  · cases f with
    | next =>
      obtain ⟨σ', H', J', q⟩ := hsp
      exact wpAny_execs_nil ⟨σ', H', J'.ofTry ok, q⟩
    | brk =>
      obtain ⟨σ', H', J', q⟩ := hsp
      exact ⟨σ', H', J'.ofTry ok, q⟩
    | cont =>
      obtain ⟨σ', H', J', q⟩ := hsp
      exact ⟨σ', H', J'.ofTry ok, q⟩
    | ret u =>
      obtain ⟨v, σ', H', J', r, q⟩ := hsp
      exact ⟨v, σ', H', J'.ofTry ok, r, q⟩
end
/-- what an own error class's instances are asked -/
structure ExF (K : PySem.W.Frag) (C : Addr) : Prop where
  ga : PySem.W.findIn K (.ref C) "__getattribute__" = some (some (.builtin "BaseException.__getattribute__"))
  gg : PySem.W.findIn K (.ref C) "__getattr__" = some none
  exC : PySem.W.subIn K (.ref C) (.type "BaseException") = some true
  hdC : PySem.W.hasDictIn K C = true
  ha : PySem.W.findIn K (.ref C) "__class__" = some (some (.builtin "object.__class__"))
  hn : PySem.W.specialIn K (.builtin "object.__class__") "__get__" = some (some (.builtin "getset_descriptor.__get__"))
  htk : PySem.W.takesIn K (.builtin "object.__class__") = some true
  hm : PySem.W.mroIn K C (.type "object") = some true
  what : PySem.W.findIn K (.ref C) "what" = some none
section
variable {X : Cx} {K : PySem.W.Frag}
theorem ExF.cl {K : PySem.W.Frag} {C : Addr} (F : ExF K C) : (PySem.W.clsIn K C).isSome = true := by
  have h := F.hdC
  unfold PySem.W.hasDictIn at h
  cases e : PySem.W.clsIn K C with
  | none => rw [e] at h; cases h
  | some _ => rfl
/-- an error held at a, of the class at C, its fields fs -/
def Held (K : PySem.W.Frag) (H : Hp) (a C : Addr) (fs : List (Str × V)) : Prop := ∃ dd, H a = some (ExV (.ref C) (some dd) a) ∧ H dd = some (.xd fs) ∧ ExF K C
theorem Held.same {K : PySem.W.Frag} {H H' : Hp} {a C : Addr} {fs : List (Str × V)} (h : Held K H a C fs) (S : Same H H') : Held K H' a C fs := by
  obtain ⟨dd, h1, h2, h3⟩ := h
  exact ⟨dd, S _ _ h1, S _ _ h2, h3⟩
theorem Held.at {pins : List (Addr × Obj)} {σ : L2.St} {H : Hp} {s : Shared} {a C : Addr} {fs : List (Str × V)} (h : Held X.K H a C fs) (I : Inv X pins σ H s) :
    ∃ oe od, PySem.W.InstAt s.heap a oe C (some od) ∧ ∀ f v, fs.lookup f = some v → ∃ u, PySem.W.lookIn f od = some (some u) ∧ RelV v u := by
  obtain ⟨dd, h1, h2, F⟩ := h
  obtain ⟨oe, vs, e, z, dt⟩ : ∃ (oe : Obj) (vs : Array Value), s.heap.get? a = some oe ∧ Zc (.ref C) (some dd) oe ∧ oe.data = .fields vs := (I.hok a _ h1).1
  have hx : ObjOk X.prog X.w H s.heap dd (.xd fs) := I.hok dd _ h2
  obtain ⟨mA, hns, hr⟩ := hx
  obtain ⟨od, ho, hl⟩ := lookIn_ns hns
  refine ⟨oe, od, ⟨e, z.1, by unfold PySem.W.notCls; rw [dt] <;> rfl, by rw [z.2]; exact ho⟩, fun f v l => ?_⟩
  obtain ⟨u, hu, ru⟩ := RelO.some_of (v := v) (o := mA f) (by rw [← l]; exact hr f)
  exact ⟨u, by rw [hl, hu], ru⟩
/-- isinstance(an error, a class) -/
def rIsiE (K : PySem.W.Frag) : List V → Hp → VK → Prop := fun xs H Q => ∃ (a C : Addr) (fs : List (Str × V)) (c : V) (u : Value) (b : Bool), xs = [.ref a, c] ∧ Held K H a C fs ∧ ClsV c u ∧ PySem.W.kitOne K (.ref C) u = some b ∧ Q (.bl b) H
/-- isinstance(an error, a tuple of classes that was just laid) -/
def rIsiET (K : PySem.W.Frag) : List V → Hp → VK → Prop := fun xs H Q => ∃ (a C : Addr) (fs : List (Str × V)) (tp : Addr) (cs : List V) (us : List Value) (b : Bool), xs = [.ref a, .ref tp] ∧ Held K H a C fs ∧ H tp = some (.tup cs) ∧ Paired ClsV cs us ∧ PySem.W.kitAny K (.ref C) us = some b ∧ Q (.bl b) H
theorem call_isiE (h : X.K = K := by rfl) : CallR X (.builtin "isinstance") (rIsiE K) := by
  subst h
  intro pins s σ H xs us Q I r h
  obtain ⟨a, C, fs, c, u, b, rfl, hh, k, e, q⟩ := h
  obtain ⟨u1, u2, rfl, r1, r2⟩ := vals2 r
  cases (show u1 = Value.ref a from r1)
  have e2 := k.eq r2
  subst e2
  obtain ⟨oe, od, J, _⟩ := hh.at I
  obtain ⟨_, _, _, F⟩ := hh
  exact PySem.W.kia_one (PySem.W.kitx_exc F.cl F.ga F.gg F.exC F.ha F.hn F.htk F.hm) I.kIn J e (fun z => nomatch z) fun tk => ⟨.bl b, H, I.tok tk, rfl, q⟩
theorem call_isiET (h : X.K = K := by rfl) : CallR X (.builtin "isinstance") (rIsiET K) := by
  subst h
  intro pins s σ H xs us Q I r h
  obtain ⟨a, C, fs, tp, cs, ws, b, rfl, hh, hT, k, e, q⟩ := h
  obtain ⟨u1, u2, rfl, r1, r2⟩ := vals2 r
  cases (show u1 = Value.ref a from r1)
  cases (show u2 = Value.ref tp from r2)
  obtain ⟨oe, od, J, _⟩ := hh.at I
  obtain ⟨_, _, _, F⟩ := hh
  obtain ⟨_, its, rv, o, h1, h2, n, h3⟩ := (show ObjOk X.prog X.w H s.heap tp (.tup cs) from I.hok tp _ hT)
  have e3 := ClsV.all k rv
  subst e3
  obtain ⟨oc, od2, dt, sl⟩ := o
  simp only at h2 h3
  subst h2 h3
  exact PySem.W.kia_tup (PySem.W.kitx_exc F.cl F.ga F.gg F.exC F.ha F.hn F.htk F.hm) I.kIn J h1 e (fun z => nomatch z) fun tk => ⟨.bl b, H, I.tok tk, rfl, q⟩
/-- e.f of an error that is held -/
def tExF (K : PySem.W.Frag) (f : Str) (te : TE) : TE := fun σ H Q => te σ H fun x H1 => ∃ (a C : Addr) (fs : List (Str × V)) (v : V), x = .ref a ∧ Held K H1 a C fs ∧ PySem.W.findIn K (.ref C) f = some none ∧ fs.lookup f = some v ∧ Q v H1
theorem pe_exf {e : Expr} {te : TE} {pos : Pos} {n : Str} (he : PE X e te) (hb : attributeBase e n X.env (eval e X.env) = eval e X.env := by rfl) (h : X.K = K := by rfl) : PE X (.Attribute e n pos) (tExF K n te) := by
  subst h
  refine ⟨fun pins s σ H Q I h => attr_of hb (thn (he.run pins s σ H _ I h) fun u s1 hh => ?_)⟩
  obtain ⟨x, H1, I1, rx, a, C, fs, v, ex, hd, hno, l, q⟩ := hh
  subst ex
  obtain rfl : u = Value.ref a := rx
  obtain ⟨oe, od, J, hl⟩ := hd.at I1
  obtain ⟨_, _, _, F⟩ := hd
  obtain ⟨u, hu, ru⟩ := hl _ _ l
  exact HandSPX.exc_get I1.kIn J F.ga F.gg F.exC (PySem.W.findObj_own F.hdC hno rfl hu) (handed_of ru) ⟨v, H1, I1.tok _, ru, q⟩
end
end EK
/-! What an own error is, asked by classes above it, beside it, and built in. -/
namespace ERR
open PySem PySem.W PyProof.Rows L2
theorem exm_of {K : Frag} {E S : Addr} (h1 : subIn K (.ref S) (.type "BaseException") = some true) (h2 : isClsIn K S = true) (h3 : typeIn K (.ref S) = some (.type "type")) (h4 : subIn K (.ref E) (.ref S) = some true) :
    exmOne K (.ref E) (.ref S) = some true := by
  have e1 : (subIn K (.ref S) (.type "BaseException") == some true) = true := by rw [h1] <;> rfl
  have e2 : ((clsIn K S).isSome && typeIn K (.ref S) == some (.type "type")) = true := by
    have h2' : (clsIn K S).isSome = true := h2
    rw [h2', h3] <;> rfl
  show (if (subIn K (.ref S) (.type "BaseException") == some true) = true then (if ((clsIn K S).isSome && typeIn K (.ref S) == some (.type "type")) = true then subIn K (.ref E) (.ref S) else none) else none) = some true
  rw [if_pos e1, if_pos e2]
  exact h4
theorem kit_blt {K : Frag} {E : Addr} {T : String} {b : Bool} (hm : kitMeta T = true) (h : subIn K (.ref E) (.type T) = some b) : kitOne K (.ref E) (.type T) = some b := by
  show (if ((Value.ref E) == .type T) = true then some true else (if kitMeta T = true then subIn K (.ref E) (.type T) else none)) = some b
  rw [if_neg (show ¬ ((Value.ref E) == .type T) = true from Bool.false_ne_true), if_pos hm]
  exact h
end ERR
/-! Calls by keywords, in any order, with defaults: functions, methods, classes. -/
namespace KW
open PySem PySem.Spec PyProof.Rows L2 DP
/-- those of a list that stand at these places -/
def pick {α : Type} (is : List Nat) (l : List α) : List α := is.filterMap fun i => l[i]?
theorem vals_at : ∀ {vs : List V} {us : List Value} (r : Vals vs us) (i : Nat), (vs[i]? = none ∧ us[i]? = none) ∨ ∃ v u, vs[i]? = some v ∧ us[i]? = some u ∧ RelV v u
  | _, _, .nil, i => .inl ⟨by simp, by simp⟩
  | _, _, .cons h t, 0 => .inr ⟨_, _, rfl, rfl, h⟩
  | _, _, .cons h t, i + 1 => by simpa using vals_at t i
theorem pick_rel {vs : List V} {us : List Value} (r : Vals vs us) : ∀ is : List Nat, Vals (pick is vs) (pick is us)
  | [] => .nil
  | i :: is => by
    unfold pick
    rw [List.filterMap_cons, List.filterMap_cons]
    rcases vals_at r i with ⟨e1, e2⟩ | ⟨v, u, e1, e2, h⟩
    · rw [e1, e2]; exact pick_rel r is
    · rw [e1, e2]; exact .cons h (pick_rel r is)
/-- positional values, then the rest out of the keywords' values and the defaults -/
def gk {α : Type} (is : List Nat) (ds us ws : List α) : List α := us ++ pick is (ws ++ ds)
theorem gk_rel {is : List Nat} {dv vs zs : List V} {ds us ws : List Value} (rd : Vals dv ds) (r : Vals vs us) (rz : Vals zs ws) : Vals (gk is dv vs zs) (gk is ds us ws) := r.append (pick_rel (rz.append rd) is)
/-- all parameters are given -/
theorem kbn0 {K : PySem.W.Frag} {fd : FuncData} {ps ks : List Str} {n : Nat} (is : List Nat) (h : ∀ us ws : List Value, us.length = n → ws.length = ks.length → bindArgs fd ⟨us, ks.zip ws⟩ = pure (ps.zip (gk is [] us ws))) : KBn K fd ps n ks (gk is []) (gk is []) :=
  ⟨fun s us ws _ h1 h2 => .of_eq (h us ws h1 h2), fun r rz => gk_rel .nil r rz⟩
section
variable {K : PySem.W.Frag} {x qual : Str} {params : Arguments} {body : List Stmt} {scope : Scope} {dvs : List V} {f : Addr} {fd : FuncData} {ps : List Str}
/-- the lacking ones stand among the defaults -/
theorem kbnD (F : FunD K x qual params body scope dvs [] f fd) (n : Nat) (ks : List Str) (is : List Nat) (hd : dvs ≠ [])
    (h : ∀ (T : Addr) (kV doc pm : Value) (an : Option Addr) (cdv ct : Value) (us its ws : List Value), us.length = n → its.length = dvs.length → ws.length = ks.length →
      ∃ k, bindArgs (PySem.W.fnOf x qual params body scope (.ref T) kV doc pm an cdv ct) ⟨us, ks.zip ws⟩ = seqItems? (.ref T) >>= k ∧ k (some its.toArray) = pure (ps.zip (gk is its us ws))) : ∃ its : List Value, KBn K fd ps n ks (gk is its) (gk is dvs) := by
  obtain ⟨oc, od, dV, kV, doc, pm, an, cdv, ct, osl, rfl, lk, hcd, hD, hK⟩ := F.ex
  rcases hD with ⟨e, _⟩ | ⟨_, T, o, its, m, rfl, lT, oT, rT⟩
  · exact absurd e hd
  · refine ⟨its, fun s us ws X l1 l2 => ?_, fun r rz => gk_rel rT r rz⟩
    obtain ⟨k, e1, e2⟩ := h T kV doc pm an cdv ct us its ws l1 rT.length.symm l2
    refine BindsTo.of_looks fun M => ?_
    rw [e1]
    exact looks_items X lT oT (.of_pure e2)
end
section
variable {X : Cx} {CX : CXT} {k : Nat} {f C : Addr} {fd : FuncData} {ps ks : List Str} {sp : Sp} {E : XK} {x m : Str} {p pos apos : Pos} {o : Expr} {kws : List Keyword} {ta : TE} {tk : TA} {g : List Value → List Value → List Value} {gV : List V → List V → List V}
def tCallN0 (c : Nat) (sp : Sp) (gV : List V → List V → List V) (E : XK) (tk : TA) : TE := fun σ H Q => tk σ H fun zs H2 => zs.length = c ∧ sp (gV [] zs) H2 Q E
/-- f(k = v, ..) -/
theorem pe_callN0 (F : FnOk X.prog X.w X.K X.mg X.base CX k f fd ps sp) (hr : Room k X.A) (hg : Gl X x) (hm : X.mg x = some (.ref f)) (hk : PySem.W.keepIn X.K (.ref f) = true) (hb : KBn X.K fd ps 0 ks g gV) (hx : Passes CX X E) (hkw : PK X kws tk)
    (hall : (backToKw pos (keywordEach kws X.env)).all (·.1.isSome) = true := by rfl) (hks : (backToKw pos (keywordEach kws X.env)).filterMap (·.1) = ks := by rfl) (hdb : (x == ("__debug__" : Str)) = false := by decide)
    (hpl : ((backTo pos (starEach [] X.env)).any (·.1) || (backToKw pos (keywordEach kws X.env)).any (·.1.isNone)) = false := by rfl) :
    PE X (.Call (.Name x p) [] kws pos) (tCallN0 ks.length sp gV E tk) := by
  refine ⟨fun pins s σ H Q I h => ?_⟩
  refine wpAny_Call_Name_kw (ld_glob I hg hm ?_ hdb)
  refine PySem.W.callWith_KW0 (h₀ := X.base) I.ok.mod.kin hk hall ?_ hpl
  refine thn (hkw.run pos pins s σ H _ I h) fun ws s2 ⟨zs, H2, I2, rz, l2, q2⟩ => ⟨I2.kIn, ?_⟩
  rw [hks]
  exact run_fnN (us := []) (vs := []) F hr hb hx I2 .nil rz rfl l2 q2
def tMethN (C : Addr) (m : Str) (c : Nat) (sp : Sp) (gV : List V → List V → List V) (E : XK) (ta : TE) (tk : TA) : TE := fun σ H Q => ta σ H fun x H1 => ∃ a dx fs, x = .ref a ∧ H1 a = some (.ins C dx fs) ∧ fs.lookup m = none ∧ tk σ H1 fun zs H2 => zs.length = c ∧ sp (gV [.ref a] zs) H2 Q E
/-- o.m(k = v, ..) -/
theorem pe_methN {pl : Sem Bool} (he : PE X o ta) (c : Cls X.K C) (hm : Meth X.K C m f) (F : FnOk X.prog X.w X.K X.mg X.base CX k f fd ps sp) (hr : Room k X.A) (hb : KBn X.K fd ps 1 ks g gV) (hx : Passes CX X E) (hkw : PK X kws tk)
    (hall : (backToKw pos (keywordEach kws X.env)).all (·.1.isSome) = true := by rfl) (hks : (backToKw pos (keywordEach kws X.env)).filterMap (·.1) = ks := by rfl)
    (hpl : ((backTo pos (starEach [] X.env)).any (·.1) || (backToKw pos (keywordEach kws X.env)).any (·.1.isNone)) = false := by rfl)
    (ht : eval (.Call (.Attribute o m apos) [] kws pos) X.env = (do
      let ov ← eval o X.env
      standAt apos.atName
      let (f, first) ← holding [ov] (getMethod ov m pl)
      callWith pos f first (backTo pos (starEach [] X.env)) (backToKw pos (keywordEach kws X.env))) := by rfl) :
    PE X (.Call (.Attribute o m apos) [] kws pos) (tMethN C m ks.length sp gV E ta tk) := by
  refine ⟨fun pins s σ H Q I h => ?_⟩
  refine PySem.W.methodCall_KW (pl := pl) (thn (he.run pins s σ H _ I h) fun u s1 ⟨x, H1, I1, rx, a, dx, fs, ex, ea, l, q⟩ => ?_) ht
  subst ex
  obtain rfl : u = Value.ref a := rx
  refine getmeth_ok I1 ea c hm l ?_
  refine PySem.W.callWith_KW0 (first := [.ref a]) (h₀ := X.base) I.ok.mod.kin hm.kp hall ?_ hpl
  refine thn (hkw.run pos pins s1 σ H1 _ I1 q) fun ws s2 ⟨zs, H2, I2, rz, l2, q2⟩ => ⟨I2.kIn, ?_⟩
  rw [hks]
  exact run_fnN (us := [.ref a]) (vs := [.ref a]) F hr hb hx I2 (.cons rfl .nil) rz rfl l2 q2
end
section
variable {P : Program} {w : World} {K : PySem.W.Frag} {mg : Str → Option Value} {base : Heap} {x qual : Str} {st : Stmt} {dvs : List V} {f : Addr} {fd : FuncData}
/-- a def with defaults, by its body -/
theorem FunD.okN {N ps : List Str} {k : Nat} {sp : Sp} (F : FunD K x qual (defArgs st) (defBody st) (defScope st) dvs [] f fd) (S : FnScope N ps (defScope st)) (len : ∀ vs H Q E, sp vs H Q E → vs.length = ps.length)
    (hbody : ∀ (cdv : Value) (A : Around) (outer : List Env) (s : Shared) (H : Hp) (vs : List V) (Q : VK) (E : XK), Room k (A.deeper (envOfC qual (defScope st) s.heap.objs.size f cdv)) → sp vs H Q E →
      ∃ t, PSs (cxOf CX0 P w K mg base N qual (defScope st) f cdv A outer s H E).nox (defBody st) t ∧ t { nx := fun _ H' => Q .non H', rt := Q } (start N vs) H) : FnOk P w K mg base CX0 (k + 1) f fd ps sp :=
  F.ok S len fun cdv A outer s H vs Q E hr hsp => by
    obtain ⟨t, h, q⟩ := hbody cdv A outer s H vs Q E hr hsp
    exact ⟨t, h.nox, q⟩
end
end KW
/-! Calls in a try's body: methods and classes, by place and by keywords; what they let out is asked at the slots of the call. -/
namespace KW
open PySem PySem.Spec PyProof.Rows L2 DP
section
variable {P : Program} {w : World} {K : PySem.W.Frag} {mg : Str → Option Value} {base : Heap} {CX : CXT} {k : Nat} {f : Addr} {fd : FuncData} {ps : List Str} {sp sq : Sp}
/-- a def that lets out nothing keeps its promise where others may let out something -/
theorem ok_may (F : FnOk P w K mg base CX0 k f fd ps sp) : FnOk P w K mg base CX k f fd ps sp := by
  refine ⟨F.len, fun A outer s H args us vs Q E hr he hb hv hs => ?_⟩
  have h := F.run A outer s H args us vs Q E hr he hb hv hs
  refine codeAny_mono h fun r s' q => ?_
  cases r with
  | error e => exact False.elim q
  | ok fl => cases fl <;> exact q
/-- either of two promises -/
theorem ok_or (F : FnOk P w K mg base CX k f fd ps sp) (G : FnOk P w K mg base CX k f fd ps sq) : FnOk P w K mg base CX k f fd ps (fun vs H Q E => sp vs H Q E ∨ sq vs H Q E) :=
  ⟨fun vs H Q E h => h.elim (F.len vs H Q E) (G.len vs H Q E), fun A outer s H args us vs Q E hr he hb hv h => h.elim (F.run A outer s H args us vs Q E hr he hb hv) (G.run A outer s H args us vs Q E hr he hb hv)⟩
end
section
variable {X : Cx} {CX : CXT} {k : Nat} {f C : Addr} {fd : FuncData} {ps ks : List Str} {sp : Sp} {E : L2.St → XK} {x m : Str} {p pos apos : Pos} {e o : Expr} {es : List Expr} {kws : List Keyword} {ta : TE} {t tk : TA} {g : List Value → List Value → List Value} {gV : List V → List V → List V}
/-- o.m(e, ..) -/
def tMethX (C : Addr) (m : Str) (sp : Sp) (E : L2.St → XK) (ta : TE) (t : TA) : TE := fun σ H Q => ta σ H fun x H1 => ∃ a dx fs, x = .ref a ∧ H1 a = some (.ins C dx fs) ∧ fs.lookup m = none ∧ t σ H1 fun vs H2 => sp (.ref a :: vs) H2 Q (E σ)
theorem pe_methX {pl : Sem Bool} (he : PE X o ta) (c : Cls X.K C) (hm : Meth X.K C m f) (F : FnOk X.prog X.w X.K X.mg X.base CX k f fd ps sp) (hr : Room k X.A) (hb : Binds X.K fd ps []) (hx : ∀ σ, PassesAt CX X σ (E σ)) (ha : PA X (e :: es) t)
    (hst : starEach (e :: es) X.env = (false, eval e X.env) :: starEach es X.env := by rfl) (hpl : (backTo pos (starEach es X.env)).any (·.1) = false := by rfl)
    (ht : eval (.Call (.Attribute o m apos) (e :: es) [] pos) X.env = (do let ov ← eval o X.env; standAt apos.atName; let (f, first) ← holding [ov] (getMethod ov m pl); callWith pos f first (backTo pos (starEach (e :: es) X.env)) (backToKw pos (keywordEach [] X.env))) := by rfl) :
    PE X (.Call (.Attribute o m apos) (e :: es) [] pos) (tMethX C m sp E ta t) := ⟨fun pins s σ H Q I h => by
  refine PySem.W.methodCall_KW (pl := pl) (thn (he.run pins s σ H _ I h) fun u s1 hh => ?_) ht
  obtain ⟨x, H1, I1, rx, a, dx, fs, ex, ea, l, q⟩ := hh
  subst ex
  obtain rfl : u = Value.ref a := rx
  refine getmeth_ok I1 ea c hm l (PySem.W.callWith_K (first := [.ref a]) (h₀ := X.base) I.ok.mod.kin hm.kp (thn (ha.run pos pins s1 σ H1 _ I1 q) fun us s2 hh => ?_) hst hpl)
  obtain ⟨vs, H2, I2, r, q2⟩ := hh
  exact ⟨I2.kIn, run_fnS (us := .ref a :: us) (vs := .ref a :: vs) F hr hb (hx σ) I2 (.cons rfl r) q2⟩⟩
/-- the callee runs, with keywords -/
theorem run_kwX {n : Nat} {pins : List (Addr × Obj)} {σ : L2.St} {H : Hp} {s : Shared} {Q : VK} {us ws : List Value} {vs zs : List V} (F : FnOk X.prog X.w X.K X.mg X.base CX k f fd ps sp) (hr : Room k X.A) (hb : KBn X.K fd ps n ks g gV) (hx : PassesAt CX X σ (E σ))
    (I : Inv X pins σ H s) (r : Vals vs us) (rz : Vals zs ws) (l1 : vs.length = n) (l2 : zs.length = ks.length) (h : sp (gV vs zs) H Q (E σ)) : wpAny (model X.prog X.w) X.A (call (.ref f) us (ks.zip ws)) (EP X pins σ Q) X.xe s := by
  have n1 : us.length = n := by rw [← r.length, l1]
  refine wpAny_call (codeAny_mono (F.run X.A X.stack s H ⟨us, ks.zip ws⟩ (g us ws) (gV vs zs) Q (E σ) hr I.env0 (hb.to s us ws I.kIn n1 (rz.length.symm.trans l2)) (hb.rel r rz) h) fun r s' hq => ?_)
  cases r with
  | error e => exact hx pins H s e s' I hq
  | ok fl =>
    cases fl with
    | ret u => exact I.after hq
    | next => exact False.elim hq
    | brk => exact False.elim hq
    | cont => exact False.elim hq
def tCallNX (c : Nat) (sp : Sp) (gV : List V → List V → List V) (E : L2.St → XK) (tk : TA) : TE := fun σ H Q => tk σ H fun zs H2 => zs.length = c ∧ sp (gV [] zs) H2 Q (E σ)
/-- f(k = v, ..) -/
theorem pe_callNX (F : FnOk X.prog X.w X.K X.mg X.base CX k f fd ps sp) (hr : Room k X.A) (hg : Gl X x) (hm : X.mg x = some (.ref f)) (hk : PySem.W.keepIn X.K (.ref f) = true) (hb : KBn X.K fd ps 0 ks g gV) (hx : ∀ σ, PassesAt CX X σ (E σ)) (hkw : PK X kws tk)
    (hall : (backToKw pos (keywordEach kws X.env)).all (·.1.isSome) = true := by rfl) (hks : (backToKw pos (keywordEach kws X.env)).filterMap (·.1) = ks := by rfl) (hdb : (x == ("__debug__" : Str)) = false := by decide)
    (hpl : ((backTo pos (starEach [] X.env)).any (·.1) || (backToKw pos (keywordEach kws X.env)).any (·.1.isNone)) = false := by rfl) :
    PE X (.Call (.Name x p) [] kws pos) (tCallNX ks.length sp gV E tk) := ⟨fun pins s σ H Q I h => by
  refine wpAny_Call_Name_kw (ld_glob I hg hm ?_ hdb)
  refine PySem.W.callWith_KW0 (h₀ := X.base) I.ok.mod.kin hk hall ?_ hpl
  refine thn (hkw.run pos pins s σ H _ I h) fun ws s2 hh => ?_
  obtain ⟨zs, H2, I2, rz, l2, q2⟩ := hh
  refine ⟨I2.kIn, ?_⟩
  rw [hks]
  exact run_kwX (us := []) (vs := []) F hr hb (hx σ) I2 .nil rz rfl l2 q2⟩
def tMethNX (C : Addr) (m : Str) (c : Nat) (sp : Sp) (gV : List V → List V → List V) (E : L2.St → XK) (ta : TE) (tk : TA) : TE := fun σ H Q => ta σ H fun x H1 => ∃ a dx fs, x = .ref a ∧ H1 a = some (.ins C dx fs) ∧ fs.lookup m = none ∧ tk σ H1 fun zs H2 => zs.length = c ∧ sp (gV [.ref a] zs) H2 Q (E σ)
/-- o.m(k = v, ..) -/
theorem pe_methNX {pl : Sem Bool} (he : PE X o ta) (c : Cls X.K C) (hm : Meth X.K C m f) (F : FnOk X.prog X.w X.K X.mg X.base CX k f fd ps sp) (hr : Room k X.A) (hb : KBn X.K fd ps 1 ks g gV) (hx : ∀ σ, PassesAt CX X σ (E σ)) (hkw : PK X kws tk)
    (hall : (backToKw pos (keywordEach kws X.env)).all (·.1.isSome) = true := by rfl) (hks : (backToKw pos (keywordEach kws X.env)).filterMap (·.1) = ks := by rfl)
    (hpl : ((backTo pos (starEach [] X.env)).any (·.1) || (backToKw pos (keywordEach kws X.env)).any (·.1.isNone)) = false := by rfl)
    (ht : eval (.Call (.Attribute o m apos) [] kws pos) X.env = (do let ov ← eval o X.env; standAt apos.atName; let (f, first) ← holding [ov] (getMethod ov m pl); callWith pos f first (backTo pos (starEach [] X.env)) (backToKw pos (keywordEach kws X.env))) := by rfl) :
    PE X (.Call (.Attribute o m apos) [] kws pos) (tMethNX C m ks.length sp gV E ta tk) := ⟨fun pins s σ H Q I h => by
  refine PySem.W.methodCall_KW (pl := pl) (thn (he.run pins s σ H _ I h) fun u s1 hh => ?_) ht
  obtain ⟨x, H1, I1, rx, a, dx, fs, ex, ea, l, q⟩ := hh
  subst ex
  obtain rfl : u = Value.ref a := rx
  refine getmeth_ok I1 ea c hm l (PySem.W.callWith_KW0 (first := [.ref a]) (h₀ := X.base) I.ok.mod.kin hm.kp hall ?_ hpl)
  refine thn (hkw.run pos pins s1 σ H1 _ I1 q) fun ws s2 hh => ?_
  obtain ⟨zs, H2, I2, rz, l2, q2⟩ := hh
  refine ⟨I2.kIn, ?_⟩
  rw [hks]
  exact run_kwX (us := [.ref a]) (vs := [.ref a]) F hr hb (hx σ) I2 (.cons rfl .nil) rz rfl l2 q2⟩
/-- C(e, ..), C(k = v, ..) -/
def tMakeX (C : Addr) (sp : Sp) (E : L2.St → XK) (t : TA) : TE := fun σ H Q => t σ H fun vs H1 => ∀ x dx, H1 x = none → H1 dx = none → dx ≠ x →
  sp (.ref x :: vs) (upd (upd H1 dx (.own x)) x (.ins C dx [])) (fun v H2 => v = .non ∧ Q (.ref x) H2) (E σ)
def tMakeNX (C : Addr) (c : Nat) (sp : Sp) (gV : List V → List V → List V) (E : L2.St → XK) (tk : TA) : TE := fun σ H Q => tk σ H fun zs H1 => zs.length = c ∧ ∀ x dx, H1 x = none → H1 dx = none → dx ≠ x →
  sp (gV [.ref x] zs) (upd (upd H1 dx (.own x)) x (.ins C dx [])) (fun v H2 => v = .non ∧ Q (.ref x) H2) (E σ)
theorem pe_makeX (M : Mk X.K C f) (F : FnOk X.prog X.w X.K X.mg X.base CX k f fd ps sp) (hr : Room (k + 1) X.A) (hg : Gl X x) (hm : X.mg x = some (.ref C)) (hb : Binds X.K fd ps []) (hx : ∀ σ, PassesAt CX X σ (E σ)) (ha : PA X (e :: es) t)
    (hdb : (x == ("__debug__" : Str)) = false := by decide) (he : starEach (e :: es) X.env = (false, eval e X.env) :: starEach es X.env := by rfl) (hpl : (backTo pos (starEach es X.env)).any (·.1) = false := by rfl) :
    PE X (.Call (.Name x p) (e :: es) [] pos) (tMakeX C sp E t) := ⟨fun pins s σ H Q I h => by
  refine wpAny_Call_Name_kw (ld_glob I hg hm ?_ hdb)
  refine PySem.W.callWith_K (h₀ := X.base) I.ok.mod.kin M.kp (thn (ha.run pos pins s σ H _ I h) fun us s1 hh => ?_) he hpl
  obtain ⟨vs, H1, I1, r, q⟩ := hh
  refine ⟨I1.kIn, ?_⟩
  have hq := q (s1.heap.objs.size + 1) s1.heap.objs.size (I1.hok.fresh (Nat.le_succ _)) (I1.hok.fresh (Nat.le_refl _)) (Nat.ne_of_lt (Nat.lt_succ_self _))
  have I2 := Inv.made (C := C) I1
  have r2 : Vals (V.ref (s1.heap.objs.size + 1) :: vs) (Value.ref (s1.heap.objs.size + 1) :: us) := .cons rfl r
  have hl : (Value.ref (s1.heap.objs.size + 1) :: us).length = ps.length := by rw [← r2.length]; exact F.len _ _ _ _ hq
  have hb2 := hb _ (Value.ref (s1.heap.objs.size + 1) :: us) I2.kIn (by simpa using hl)
  rw [List.append_nil] at hb2
  refine wpAny_call (make_map (f := f) I1.kIn M.makes M.init (beq_iff_eq.mp M.fn) (codeAny_mono (F.run _ X.stack _ _ ⟨Value.ref (s1.heap.objs.size + 1) :: us, []⟩ (Value.ref (s1.heap.objs.size + 1) :: us) _ _ (E σ) (hr.make C us []) (I2.env0.make C us []) hb2 r2 hq) fun z s' hq' => ?_))
  cases z with
  | error e => exact hx σ pins _ _ e s' I2 hq'
  | ok fl =>
    cases fl with
    | ret u =>
      obtain ⟨v, H', I3, rv, ev, q3⟩ := I2.after hq'
      subst ev
      exact ⟨rv, ⟨V.ref (s1.heap.objs.size + 1), H', I3, rfl, q3⟩⟩
    | next => exact False.elim hq'
    | brk => exact False.elim hq'
    | cont => exact False.elim hq'⟩
theorem pe_makeNX (M : Mk X.K C f) (F : FnOk X.prog X.w X.K X.mg X.base CX k f fd ps sp) (hr : Room (k + 1) X.A) (hg : Gl X x) (hm : X.mg x = some (.ref C)) (hb : KBn X.K fd ps 1 ks g gV) (hx : ∀ σ, PassesAt CX X σ (E σ)) (hkw : PK X kws tk)
    (hall : (backToKw pos (keywordEach kws X.env)).all (·.1.isSome) = true := by rfl) (hks : (backToKw pos (keywordEach kws X.env)).filterMap (·.1) = ks := by rfl) (hdb : (x == ("__debug__" : Str)) = false := by decide)
    (hpl : ((backTo pos (starEach [] X.env)).any (·.1) || (backToKw pos (keywordEach kws X.env)).any (·.1.isNone)) = false := by rfl) :
    PE X (.Call (.Name x p) [] kws pos) (tMakeNX C ks.length sp gV E tk) := ⟨fun pins s σ H Q I h => by
  refine wpAny_Call_Name_kw (ld_glob I hg hm ?_ hdb)
  refine PySem.W.callWith_KW0 (h₀ := X.base) I.ok.mod.kin M.kp hall ?_ hpl
  refine thn (hkw.run pos pins s σ H _ I h) fun ws s1 hh => ?_
  obtain ⟨zs, H1, I1, rz, l2, q⟩ := hh
  refine ⟨I1.kIn, ?_⟩
  rw [hks]
  have hq := q (s1.heap.objs.size + 1) s1.heap.objs.size (I1.hok.fresh (Nat.le_succ _)) (I1.hok.fresh (Nat.le_refl _)) (Nat.ne_of_lt (Nat.lt_succ_self _))
  have I2 := Inv.made (C := C) I1
  have r1 : Vals [V.ref (s1.heap.objs.size + 1)] [Value.ref (s1.heap.objs.size + 1)] := .cons rfl .nil
  have r2 := hb.rel r1 rz
  refine wpAny_call (make_map (f := f) I1.kIn M.makes M.init (beq_iff_eq.mp M.fn) (codeAny_mono (F.run _ X.stack _ _ ⟨[Value.ref (s1.heap.objs.size + 1)], ks.zip ws⟩ (g [Value.ref (s1.heap.objs.size + 1)] ws) _ _ (E σ) (hr.make C [] (ks.zip ws))
    (I2.env0.make C [] (ks.zip ws)) (hb.to _ [Value.ref (s1.heap.objs.size + 1)] ws I2.kIn rfl (rz.length.symm.trans l2)) r2 hq) fun z s' hq' => ?_))
  cases z with
  | error e => exact hx σ pins _ _ e s' I2 hq'
  | ok fl =>
    cases fl with
    | ret u =>
      obtain ⟨v, H', I3, rv, ev, q3⟩ := I2.after hq'
      subst ev
      exact ⟨rv, ⟨V.ref (s1.heap.objs.size + 1), H', I3, rfl, q3⟩⟩
    | next => exact False.elim hq'
    | brk => exact False.elim hq'
    | cont => exact False.elim hq'⟩
end
end KW
namespace StX2
open PySem PySem.Spec PyProof.Rows L2
/-- a text some times over -/
def timesT (z : Str) (k : Nat) : Str := ⟨(List.replicate k z.cps).foldl (· ++ ·) #[]⟩
theorem op_mulS {X : Cx} : OpR X (binaryOp .Mult) (fun x y H Q => ∃ (z : Str) (k : Nat), x = .str z ∧ y = .int (k : Int) ∧ 2 ≤ k ∧ k ≤ 1000 ∧ 0 < z.length ∧ z.length ≤ 1000 ∧ (timesT z k).length ≤ sizeLine ∧ Q (.str (timesT z k)) H) := by
  intro pins s σ H x y v u Q I rx ry h
  obtain ⟨z, k, rfl, rfl, h1, h2, h3, h4, hz, q⟩ := h
  obtain ⟨t, rfl⟩ := rx
  obtain ⟨t', rfl⟩ := ry
  have e1 : ¬ ((k : Int) < 1) := by omega
  have e2 : ((k : Int) == 1 || z.length == 0) = false := by
    rw [Bool.or_eq_false_iff]
    exact ⟨beq_eq_false_iff_ne.mpr (by omega), beq_eq_false_iff_ne.mpr (by omega)⟩
  refine PySem.P.mul_str (by rw [decide_eq_false (by omega), decide_eq_false (by omega)]; rfl) (fun _ _ => ?_) (fun _ _ => ?_) ?_
  · have h5 : (9223372036854775807 : Int) / 1000 ≤ 9223372036854775807 / (k : Int) := by
      refine Int.le_ediv_of_mul_le (by omega) ?_
      have : (9223372036854775807 : Int) / 1000 = 9223372036854775 := by decide
      rw [this]; omega
    show ¬ ((z.length : Int) > 9223372036854775807 / (k : Int))
    omega
  · have h6 : ((k : Int)).toNat = k := rfl
    rw [h6]
    unfold Builtin.Str.tooLong
    refine decide_eq_false ?_
    have h7 : z.length * k ≤ 1000 * 1000 := Nat.mul_le_mul h4 h2
    have h8 : (1000 * 1000 : Nat) ≤ sizeLine := by decide
    omega
  · rw [if_neg e1, if_neg (by rw [e2]; exact Bool.false_ne_true)]
    exact ⟨hz, ⟨.str (timesT z k), H, I.tok _, ⟨_, rfl⟩, q⟩⟩
end StX2
/-! sep.join(reversed(a list of texts)). -/
namespace DP
open PySem PySem.Spec PyProof.Rows L2
section
variable {prog : Program} {w : World} {A : Around} {E : Value → Shared → Prop} {s : Shared}
theorem join_rev {x : Str} {t : Tok} {it l : Addr} {items : Array Value} {ys : List Str} {Q : Value → Shared → Prop} (hh : A.handled = none) (hit : s.heap.IsRevIter it l ((items.size : Int) - 1)) (hl : s.heap.IsList l items) (hne : l ≠ it) (hn : items.size ≤ sizeLine)
    (hP : ∀ acc : Array Value, ItemsOf (fun i v => items[items.size - 1 - i]? = some v) acc items.size → StrsAre acc.toList ys) (hok : (ys.map (·.length)).sum + ys.length * x.length ≤ 16777216)
    (hq : ∀ h' k, (∀ b o, b ≠ it → s.heap.get? b = some o → h'.get? b = some o) → ∀ t', Q (.str (Txt.join x ys) t') { s with heap := h', toks := k }) :
    wpAny (model prog w) A (call (.builtin "str.join") [.str x t, .ref it]) Q E s := by
  refine wpAny_call (codeAny_call_builtin F.slot_str_join.plain F.entry_str_join (F.slot_str_join.check _ _ _ _ _ _ _ _ (typeIs_str _ _ _) (F.args_str_join_2 _ _) ?_))
  rw [join_tree_other]
  refine wpAny_bind (wpAny_typeOf hit.typeIs ?_)
  show wpAny _ A.in1 ((pyIter (.ref it)).tryCatch _ >>= fun it => collect it >>= fun items => joinTail x items) _ _ s
  refine wpAny_bind (wpAny_tryCatch (wpAny_pyIter_revIter hit ?_))
  refine wpAny_bind (RT.collect_rev (A := A.in1) hh hit hl hne hn fun h' tk acc hk hacc => ?_)
  obtain ⟨ps, hps, ht⟩ := strsAre_values (hP acc hacc)
  subst ht
  rw [hps]
  have hok' := joinOk_of hok
  unfold JoinOk at hok'
  rw [Bool.not_eq_true'] at hok'
  have g : Gives (joinTail x (strValues ps)) (joinMade x ps) := by
    have g0 := gives_joinTail x ps hok'
    cases ps with
    | nil => exact g0
    | cons p r => cases r with
      | nil => exact g0
      | cons q r' => exact g0
  exact g prog w A (wants Q E) { s with heap := h', toks := tk } (post_join ps ⟨joinFit_length hok', fun t' k => hq h' k hk t'⟩)
end
section
variable {X : Cx}
def tJoinRev (K : PySem.W.Frag) (to te : TE) : TE := fun σ H Q => to σ H fun x H1 => (∃ a, x = .str a) ∧ te σ H1 fun v H2 => ∃ (a : Str) (q : Addr) (ys : List Str),
  x = .str a ∧ v = .ref q ∧ SqL K H2 q (ys.map V.str) ∧ (ys.map (·.length)).sum + ys.length * a.length ≤ 16777216 ∧ Q (.str (Txt.join a ys.reverse)) H2
theorem pe_joinRev {K : PySem.W.Frag} {o e : Expr} {to te : TE} {apos pos p pos2 : Pos} (hc : X.calm = true) (ho : PE X o to) (hg : Gl X "reversed") (hm : X.mg "reversed" = none) (he : PE X e te) (hK : X.K = K := by rfl)
    (hs1 : starEach [.Call (.Name "reversed" p) [e] [] pos2] X.env = [(false, eval (.Call (.Name "reversed" p) [e] [] pos2) X.env)] := by rfl)
    (hs : starEach [e] X.env = (false, eval e X.env) :: starEach [] X.env := by rfl)
    (hbase : attributeBase o "join" X.env (eval o X.env) = eval o X.env := by rfl) (hline : (apos.endLine == pos.line) = true := by rfl) :
    PE X (.Call (.Attribute o "join" apos) [.Call (.Name "reversed" p) [e] [] pos2] [] pos) (tJoinRev K to te) := by
  subst hK
  refine ⟨fun pins s σ H Q I h => ?_⟩
  refine PySem.Call_method1 hbase hs1 hline (thn (ho.run pins s σ H _ I h) fun v s1 ⟨x, H1, I1, r1, q1⟩ => ?_)
  obtain ⟨⟨a, rfl⟩, q1⟩ := q1
  obtain ⟨t, rfl⟩ := _root_.id r1
  refine ⟨"str", _, F.plainAttrs_str, F.slot_str_join, F.type_str_join, typeIs_str _ _ _, (fun _ e => nomatch e), Calls.callWith_builtin rfl (Calls.evalArgs_plain (Calls.spliced_cons ?_))⟩
  refine Call_ (ld_blt I1 hg hm PyProof.Rows.boot_reversed (PyProof.Rows.callWith_type1 (args_cons (thn (he.run pins s1 σ H1 _ I1 q1) fun u s2 ⟨v, H2, I2, r2, q2⟩ => args_nil ?_) hs) hs rfl))
  obtain ⟨a', q, ys, ea, ev, hq, hz, q2⟩ := q2
  cases ea
  subst ev
  obtain rfl : u = Value.ref q := r2
  obtain ⟨its, rv, p', hsz⟩ := I2.list hq
  refine call_reversed_list p'.isList (Calls.spliced_nil ?_)
  have k0 : ∀ b o, s2.heap.get? b = some o → (s2.heap.push (revObj q ((its.toArray.size : Int) - 1))).get? b = some o := fun b o e => Heap.get?_push_of_some _ e
  have I3 : Inv X pins σ H2 { s2 with heap := s2.heap.push (revObj q ((its.toArray.size : Int) - 1)) } := I2.kept (t' := s2.toks) k0
  obtain ⟨f0, f1, f2, f3, f4, f5⟩ := I2.fpOk (H' := H2) (b := s2.heap.objs.size) (Nat.le_refl _) (I2.hok.fresh (Nat.le_refl _))
  have hl := p'.isList
  obtain ⟨ol, hol, _⟩ := id hl
  have hne : q ≠ s2.heap.objs.size := Nat.ne_of_lt (Heap.lt_size hol)
  have hn : its.toArray.size ≤ sizeLine := by rw [List.size_toArray, ← rv.length]; exact hsz
  refine join_rev (ys := ys.reverse) (s := { s2 with heap := s2.heap.push (revObj q ((its.toArray.size : Int) - 1)) }) (I2.ok.hd hc) ⟨_, Heap.get?_push_size _ rfl, rfl, rfl⟩ (hl.push _) hne hn (fun acc hacc => ?_) (by rw [List.map_reverse, List.sum_reverse, List.length_reverse]; exact hz) fun h' tk hk t' => ?_
  · have r := RT.vals_rev rv hacc
    rw [← List.map_reverse] at r
    exact L2.strs_of_vals r
  · exact ⟨.str _, H2, I3.turned (t' := tk) (fun b o hb e => hk b o hb e) f0 f1 f3 f4 f5, ⟨t', rfl⟩, q2⟩
end
end DP
namespace KA
open PySem PySem.Spec PyProof.Rows L2
/-! ### parts of a text between joints of a sign and a blank; how few there are -/
def sp (c : Nat) : List Nat → List (List Nat)
  | [] => [[]]
  | [x] => [[x]]
  | x :: y :: r => if x = c ∧ y = 32 then [] :: sp c r else (x :: (sp c (y :: r)).headD []) :: (sp c (y :: r)).tail
theorem sp_cons (c : Nat) : ∀ l, ∃ p ps, sp c l = p :: ps
  | [] => ⟨_, _, rfl⟩
  | [x] => ⟨_, _, rfl⟩
  | x :: y :: r => by
    unfold sp
    split <;> exact ⟨_, _, rfl⟩
theorem sp_hit (c : Nat) (r : List Nat) : sp c (c :: 32 :: r) = [] :: sp c r := by rw [sp]; simp
theorem sp_miss {c x y : Nat} {r : List Nat} (h : ¬ (x = c ∧ y = 32)) : sp c (x :: y :: r) = (x :: (sp c (y :: r)).headD []) :: (sp c (y :: r)).tail := by rw [sp, if_neg h]
theorem sp_step {c x : Nat} {l p : List Nat} {ps : List (List Nat)} (h : ¬ (x = c ∧ l.head? = some 32)) (e : sp c l = p :: ps) : sp c (x :: l) = (x :: p) :: ps := by
  cases l with
  | nil => simp [sp] at e ⊢; exact e
  | cons y r =>
    rw [sp_miss (by simpa using h), e]; rfl
theorem spl_sp (c : Nat) : ∀ (n : Nat) (l acc : List Nat), l.length ≤ n → TL.spl [c, 32] 0 acc l = (acc ++ (sp c l).headD []) :: (sp c l).tail
  | _, [], acc, _ => by rw [TL.spl_nil]; simp [sp]
  | _, [x], acc, _ => by
    rw [TL.spl_miss (by simp [TL.pre]), TL.spl_nil]; simp [sp]
  | 0, x :: y :: r, acc, h => by simp at h
  | n + 1, x :: y :: r, acc, h => by
    by_cases z : x = c ∧ y = 32
    · obtain ⟨rfl, rfl⟩ := z
      have e := spl_sp x n r [] (by simp at h; omega)
      obtain ⟨p, ps, e2⟩ := sp_cons x r
      rw [TL.spl_hit (by simp [TL.pre]), TL.spl_pass, sp_hit, show ([x, 32] : List Nat).length - 1 = 1 from rfl, List.drop_succ_cons, List.drop_zero, e, e2]
      simp
    · have e := spl_sp c n (y :: r) (acc ++ [x]) (by simp at h ⊢; omega)
      rw [TL.spl_miss, e, sp_miss z]
      · simp
      · cases hp : TL.pre [c, 32] (x :: y :: r) with
        | false => rfl
        | true =>
          have : x = c ∧ y = 32 := by simpa [TL.pre] using hp
          exact absurd this z
theorem sp_spl (c : Nat) (l : List Nat) : TL.spl [c, 32] 0 [] l = sp c l := by
  obtain ⟨p, ps, e⟩ := sp_cons c l
  rw [spl_sp c _ l [] (Nat.le_refl _), e]; simp
/-- two texts put together: at the seam at most two parts -/
theorem sp_app {c : Nat} (hc : c ≠ 32) (B b : List Nat) (bs : List (List Nat)) (hB : sp c B = b :: bs) : ∀ A : List Nat, ∃ as a mid, sp c A = as ++ [a] ∧ sp c (A ++ B) = as ++ mid ++ bs ∧ mid ≠ [] ∧ mid.length ≤ 2
  | [] => ⟨[], [], [b], rfl, by simpa using hB, by simp, by simp⟩
  | [x] => by
    by_cases z : x = c ∧ B.head? = some 32
    · obtain ⟨rfl, z⟩ := z
      cases B with
      | nil => cases z
      | cons y r =>
        obtain rfl : y = 32 := by simpa using z
        obtain ⟨p, ps, e⟩ := sp_cons x r
        have e2 : sp x (32 :: r) = (32 :: p) :: ps := sp_step (fun h => hc h.1.symm) e
        rw [e2] at hB
        injection hB with h1 h2
        refine ⟨[], [x], [[], p], rfl, ?_, by simp, by simp⟩
        show sp x (x :: 32 :: r) = _
        rw [sp_hit, e, ← h2]; rfl
    · refine ⟨[], [x], [x :: b], rfl, ?_, by simp, by simp⟩
      exact sp_step z hB
  | x :: y :: r => by
    by_cases z : x = c ∧ y = 32
    · obtain ⟨rfl, rfl⟩ := z
      obtain ⟨as, a, mid, h1, h2, h3, h4⟩ := sp_app hc B b bs hB r
      refine ⟨[] :: as, a, mid, ?_, ?_, h3, h4⟩
      · rw [sp_hit, h1]; rfl
      · show sp x (x :: 32 :: (r ++ B)) = _
        rw [sp_hit, h2]; rfl
    · obtain ⟨as, a, mid, h1, h2, h3, h4⟩ := sp_app hc B b bs hB (y :: r)
      cases as with
      | nil =>
        cases mid with
        | nil => exact absurd rfl h3
        | cons m ms =>
          refine ⟨[], x :: a, (x :: m) :: ms, ?_, ?_, by simp, by simpa using h4⟩
          · rw [sp_miss z, h1]; rfl
          · show sp c (x :: y :: (r ++ B)) = _
            rw [sp_miss z, show y :: (r ++ B) = (y :: r) ++ B from rfl, h2]; rfl
      | cons q qs =>
        refine ⟨(x :: q) :: qs, a, mid, ?_, ?_, h3, h4⟩
        · rw [sp_miss z, h1]; rfl
        · show sp c (x :: y :: (r ++ B)) = _
          rw [sp_miss z, show y :: (r ++ B) = (y :: r) ++ B from rfl, h2]; rfl
/-- the parts between the first and the last one -/
def inner (c : Nat) (l : List Nat) : List (List Nat) := (sp c l).tail.dropLast
/-- all but n of these are of S -/
def FrN (c : Nat) (S : List (List Nat)) (n : Nat) (l : List Nat) : Prop := ∃ T : List (List Nat), T.length ≤ n ∧ ∀ p ∈ inner c l, p ∈ S ∨ p ∈ T
theorem inner_app {c : Nat} (hc : c ≠ 32) (A B : List Nat) : ∃ mid : List (List Nat), mid.length ≤ 2 ∧ ∀ p ∈ inner c (A ++ B), p ∈ inner c A ∨ p ∈ inner c B ∨ p ∈ mid := by
  obtain ⟨b, bs, hB⟩ := sp_cons c B
  obtain ⟨as, a, mid, h1, h2, h3, h4⟩ := sp_app hc B b bs hB A
  refine ⟨mid, h4, fun p hp => ?_⟩
  unfold inner at hp ⊢
  rw [h2] at hp
  rw [h1, hB]
  have hm : p ∈ as.tail ∨ p ∈ mid ∨ p ∈ bs.dropLast := by
    cases as with
    | nil =>
      cases mid with
      | nil => exact absurd rfl h3
      | cons m ms =>
        simp only [List.nil_append, List.cons_append, List.tail_cons] at hp
        by_cases e : bs = []
        · subst e
          rw [List.append_nil] at hp
          exact .inr (.inl (List.mem_cons_of_mem _ (List.dropLast_subset _ hp)))
        · rw [List.dropLast_append_of_ne_nil e] at hp
          rcases List.mem_append.mp hp with h | h
          · exact .inr (.inl (List.mem_cons_of_mem _ h))
          · exact .inr (.inr h)
    | cons q qs =>
      simp only [List.cons_append, List.tail_cons] at hp ⊢
      by_cases e : bs = []
      · subst e
        rw [List.append_nil] at hp
        rcases List.mem_append.mp (List.dropLast_subset _ hp) with h | h
        · exact .inl h
        · exact .inr (.inl h)
      · rw [List.dropLast_append_of_ne_nil e] at hp
        rcases List.mem_append.mp hp with h | h
        · rcases List.mem_append.mp h with h | h
          · exact .inl h
          · exact .inr (.inl h)
        · exact .inr (.inr h)
  rcases hm with h | h | h
  · left
    cases as with
    | nil => cases h
    | cons q qs => simpa using h
  · exact .inr (.inr h)
  · exact .inr (.inl h)
theorem FrN.app {c : Nat} (hc : c ≠ 32) {S : List (List Nat)} {n m : Nat} {A B : List Nat} (hA : FrN c S n A) (hB : FrN c S m B) : FrN c S (n + m + 2) (A ++ B) := by
  obtain ⟨T1, l1, h1⟩ := hA
  obtain ⟨T2, l2, h2⟩ := hB
  obtain ⟨M, l3, h3⟩ := inner_app hc A B
  refine ⟨T1 ++ T2 ++ M, by simp; omega, fun p hp => ?_⟩
  rcases h3 p hp with h | h | h
  · rcases h1 p h with h | h
    · exact .inl h
    · exact .inr (by simp [h])
  · rcases h2 p h with h | h
    · exact .inl h
    · exact .inr (by simp [h])
  · exact .inr (by simp [h])
theorem FrN.up {c : Nat} {S : List (List Nat)} {n m : Nat} {A : List Nat} (h : FrN c S n A) (e : n ≤ m) : FrN c S m A := by
  obtain ⟨T, l, q⟩ := h
  exact ⟨T, by omega, q⟩
/-- a piece of a text has its inner parts -/
theorem FrN.piece {c : Nat} (hc : c ≠ 32) (U A V : List Nat) : FrN c (sp c (U ++ A ++ V)) 0 A := by
  refine ⟨[], Nat.le_refl _, fun p hp => .inl ?_⟩
  obtain ⟨b, bs, hB⟩ := sp_cons c A
  obtain ⟨as, a, mid, h1, h2, h3, h4⟩ := sp_app hc A b bs hB U
  obtain ⟨v, vs, hV⟩ := sp_cons c V
  obtain ⟨as', a', mid', g1, g2, g3, g4⟩ := sp_app hc V v vs hV (U ++ A)
  unfold inner at hp
  rw [hB, List.tail_cons] at hp
  rw [g2]
  have : p ∈ as' := by
    have e : as' = (as ++ mid ++ bs).dropLast := by
      rw [← h2, g1, List.dropLast_concat]
    rw [e]
    have hb : bs ≠ [] := by
      rintro rfl
      cases hp
    rw [List.dropLast_append_of_ne_nil hb]
    exact List.mem_append_right _ hp
  simp [this]
theorem FrN.thin {c : Nat} {S : List (List Nat)} {A : List Nat} (h : (sp c A).length ≤ 2) : FrN c S 0 A := by
  refine ⟨[], Nat.le_refl _, fun p hp => ?_⟩
  unfold inner at hp
  have : (sp c A).tail.dropLast.length = 0 := by rw [List.length_dropLast, List.length_tail]; omega
  rw [List.eq_nil_of_length_eq_zero this] at hp
  cases hp
/-- a joint ahead -/
theorem FrN.ahead {c : Nat} (hc : c ≠ 32) {S : List (List Nat)} {m : Nat} {J B : List Nat} (hJ : J = [32] ∨ ∃ x, x ≠ 32 ∧ J = [x, 32]) (h : FrN c S m B) : FrN c S (m + 1) (J ++ B) := by
  obtain ⟨T, l, q⟩ := h
  obtain ⟨b, bs, hB⟩ := sp_cons c B
  have e1 : sp c (32 :: B) = (32 :: b) :: bs := sp_step (fun h => hc h.1.symm) hB
  rcases hJ with rfl | ⟨x, hx, rfl⟩
  · refine ⟨T, by omega, fun p hp => q p ?_⟩
    unfold inner at hp ⊢
    rw [show [32] ++ B = 32 :: B from rfl, e1] at hp
    rw [hB]; exact hp
  · by_cases z : x = c
    · subst z
      refine ⟨b :: T, by simp; omega, fun p hp => ?_⟩
      unfold inner at hp
      rw [show [x, 32] ++ B = x :: 32 :: B from rfl, sp_hit, hB, List.tail_cons] at hp
      have hp2 : p = b ∨ p ∈ bs.dropLast := by
        cases bs with
        | nil => cases hp
        | cons y ys =>
          rw [List.dropLast_cons_of_ne_nil (by simp)] at hp
          exact List.mem_cons.mp hp
      rcases hp2 with rfl | hp2
      · exact .inr (by simp)
      · rcases q p (by unfold inner; rw [hB]; exact hp2) with h | h
        · exact .inl h
        · exact .inr (by simp [h])
    · refine ⟨T, by omega, fun p hp => q p ?_⟩
      unfold inner at hp ⊢
      rw [show [x, 32] ++ B = x :: 32 :: B from rfl, sp_step (fun h => z h.1) e1] at hp
      rw [hB]; exact hp
/-- parts of at most N kinds -/
def Few (c N : Nat) (l : List Nat) : Prop := ∃ S : List (List Nat), S.length ≤ N ∧ ∀ p ∈ sp c l, p ∈ S
theorem Few.up {c N M : Nat} {l : List Nat} (h : Few c N l) (e : N ≤ M) : Few c M l := by
  obtain ⟨S, a, b⟩ := h
  exact ⟨S, by omega, b⟩
theorem Few.of_fr {c n : Nat} {S : List (List Nat)} {l : List Nat} (h : FrN c S n l) : Few c (S.length + n + 2) l := by
  obtain ⟨T, a, q⟩ := h
  obtain ⟨p, ps, e⟩ := sp_cons c l
  refine ⟨S ++ T ++ [p] ++ (ps.getLast?).toList, by
    cases h : ps.getLast? <;> simp <;> omega, fun x hx => ?_⟩
  rw [e] at hx
  rcases List.mem_cons.mp hx with rfl | hx
  · simp
  · by_cases hn : ps = []
    · subst hn; cases hx
    · have hs := List.dropLast_concat_getLast hn
      rw [← hs] at hx
      rcases List.mem_append.mp hx with h | h
      · rcases q x (by unfold inner; rw [e]; exact h) with h | h <;> simp [h]
      · rw [List.getLast?_eq_some_getLast hn]
        simp at h ⊢
        exact .inr (.inr (.inr h))
/-- fewer of a list's kinds -/
theorem Few.sub {c N n : Nat} {x y : List Nat} (h : Few c N x) (k : ∀ S, (∀ p ∈ sp c x, p ∈ S) → FrN c S n y) : Few c (N + n + 2) y := by
  obtain ⟨S, a, b⟩ := h
  exact (Few.of_fr (k S b)).up (by omega)
theorem FrN.mono {c n : Nat} {S S' : List (List Nat)} {l : List Nat} (h : FrN c S n l) (e : ∀ p ∈ S, p ∈ S') : FrN c S' n l := by
  obtain ⟨T, a, q⟩ := h
  exact ⟨T, a, fun p hp => (q p hp).imp (e p) id⟩
/-! ### parts put together again -/
theorem joinL_app (J : List Nat) : ∀ {A B : List (List Nat)}, A ≠ [] → B ≠ [] → TL.joinL J (A ++ B) = TL.joinL J A ++ (J ++ TL.joinL J B)
  | [], _, h, _ => absurd rfl h
  | [a], B, _, h => by
    cases B with
    | nil => exact absurd rfl h
    | cons b bs => rfl
  | a :: b :: r, B, _, h => by
    have := joinL_app J (A := b :: r) (B := B) (by simp) h
    show a ++ (J ++ TL.joinL J ((b :: r) ++ B)) = (a ++ (J ++ TL.joinL J (b :: r))) ++ _
    rw [this]; simp
def FrJ (c : Nat) (J : List Nat) (S : List (List Nat)) (n : Nat) (ws : List (List Nat)) : Prop := FrN c S n (TL.joinL J ws)
theorem FrJ.app {c : Nat} (hc : c ≠ 32) {J : List Nat} (hJ : J = [32] ∨ ∃ x, x ≠ 32 ∧ J = [x, 32]) {S : List (List Nat)} {n m : Nat} {A B : List (List Nat)} (hA : FrJ c J S n A) (hB : FrJ c J S m B) : FrJ c J S (n + m + 3) (A ++ B) := by
  by_cases a : A = []
  · subst a; exact FrN.up hB (by omega)
  by_cases b : B = []
  · subst b; rw [List.append_nil]; exact FrN.up hA (by omega)
  unfold FrJ
  rw [joinL_app J a b]
  exact (FrN.app hc hA (FrN.ahead hc hJ hB)).up (by omega)
theorem FrJ.part {c : Nat} (hc : c ≠ 32) {J : List Nat} {S : List (List Nat)} {ws U A V : List (List Nat)} (e : ws = U ++ A ++ V) (h : ∀ p ∈ sp c (TL.joinL J ws), p ∈ S) : FrJ c J S 0 A := by
  have key : ∃ u v, TL.joinL J ws = u ++ TL.joinL J A ++ v := by
    by_cases a : A = []
    · exact ⟨[], TL.joinL J ws, by rw [a]; rfl⟩
    by_cases b : U = [] <;> by_cases d : V = []
    · exact ⟨[], [], by rw [e, b, d]; simp⟩
    · exact ⟨[], J ++ TL.joinL J V, by rw [e, b, List.nil_append, joinL_app J a d]; simp⟩
    · exact ⟨TL.joinL J U ++ J, [], by rw [e, d, List.append_nil, joinL_app J b a]; simp⟩
    · exact ⟨TL.joinL J U ++ J, J ++ TL.joinL J V, by rw [e, joinL_app J (by simp [a]) d, joinL_app J b a]; simp⟩
  obtain ⟨u, v, e2⟩ := key
  unfold FrJ
  have := FrN.piece hc u (TL.joinL J A) v
  rw [← e2] at this
  exact this.mono h
theorem FrJ.one {c : Nat} {J : List Nat} {S : List (List Nat)} {z : List Nat} (h : (sp c z).length ≤ 2) : FrJ c J S 0 [z] := FrN.thin h
section
variable {c : Nat} {J : List Nat} {S ws : List (List Nat)}
theorem set_cut {α : Type} (l : List α) {a : Nat} (h : a < l.length) (z : α) : l.set a z = l.take a ++ [z] ++ l.drop (a + 1) := by
  rw [List.set_eq_take_append_cons_drop, if_pos h]; simp
theorem few_out (hc : c ≠ 32) (hJ : J = [32] ∨ ∃ x, x ≠ 32 ∧ J = [x, 32]) (h : ∀ p ∈ sp c (TL.joinL J ws), p ∈ S) (a : Nat) : FrJ c J S 12 (ws.take a ++ ws.drop (a + 1)) := by
  have h1 : FrJ c J S 0 (ws.take a) := .part hc (U := []) (V := ws.drop a) (by simp) h
  have h2 : FrJ c J S 0 (ws.drop (a + 1)) := .part hc (U := ws.take (a + 1)) (V := []) (by simp) h
  exact (h1.app hc hJ h2).up (by omega)
theorem few_twice (hc : c ≠ 32) (hJ : J = [32] ∨ ∃ x, x ≠ 32 ∧ J = [x, 32]) (h : ∀ p ∈ sp c (TL.joinL J ws), p ∈ S) (a : Nat) : FrJ c J S 12 (ws.take a ++ (ws.drop a).take 1 ++ ws.drop a) := by
  have h1 : FrJ c J S 0 (ws.take a) := .part hc (U := []) (V := ws.drop a) (by simp) h
  have h2 : FrJ c J S 0 ((ws.drop a).take 1) := .part hc (U := ws.take a) (V := (ws.drop a).drop 1) (by rw [List.append_assoc, List.take_append_drop, List.take_append_drop]) h
  have h3 : FrJ c J S 0 (ws.drop a) := .part hc (U := ws.take a) (V := []) (by simp) h
  exact ((h1.app hc hJ h2).app hc hJ h3).up (by omega)
theorem few_odd (hc : c ≠ 32) (hJ : J = [32] ∨ ∃ x, x ≠ 32 ∧ J = [x, 32]) (h : ∀ p ∈ sp c (TL.joinL J ws), p ∈ S) {a : Nat} (ha : a < ws.length) {z : List Nat} (hz : (sp c z).length ≤ 2) : FrJ c J S 12 (ws.set a z) := by
  have h1 : FrJ c J S 0 (ws.take a) := .part hc (U := []) (V := ws.drop a) (by simp) h
  have h2 : FrJ c J S 0 (ws.drop (a + 1)) := .part hc (U := ws.take (a + 1)) (V := []) (by simp) h
  rw [set_cut ws ha]
  exact ((h1.app hc hJ (.one hz)).app hc hJ h2).up (by omega)
theorem few_swap (hc : c ≠ 32) (hJ : J = [32] ∨ ∃ x, x ≠ 32 ∧ J = [x, 32]) (h : ∀ p ∈ sp c (TL.joinL J ws), p ∈ S) {a b : Nat} (ha : a < ws.length) (hb : b < ws.length) : FrJ c J S 12 ((ws.set a ws[b]).set b ws[a]) := by
  have one : ∀ {i : Nat} (hi : i < ws.length), FrJ c J S 0 [ws[i]] := fun {i} hi => .part hc (U := ws.take i) (V := ws.drop (i + 1)) (by simp) h
  have to : ∀ i, FrJ c J S 0 (ws.take i) := fun i => .part hc (U := []) (V := ws.drop i) (by simp) h
  have fr : ∀ i, FrJ c J S 0 (ws.drop i) := fun i => .part hc (U := ws.take i) (V := []) (by simp) h
  have mid : ∀ i j, FrJ c J S 0 ((ws.take j).drop i) := fun i j => .part hc (U := (ws.take j).take i) (V := ws.drop j) (by rw [List.take_append_drop, List.take_append_drop]) h
  have mid2 : ∀ i j, FrJ c J S 0 ((ws.drop i).take j) := fun i j => .part hc (U := ws.take i) (V := (ws.drop i).drop j) (by rw [List.append_assoc, List.take_append_drop, List.take_append_drop]) h
  rw [set_cut (ws.set a ws[b]) (by rw [List.length_set]; exact hb)]
  rcases Nat.lt_trichotomy a b with z | z | z
  · rw [List.take_set, set_cut (ws.take b) (by rw [List.length_take]; omega), List.drop_set_of_lt (by omega), List.take_take, Nat.min_eq_left (by omega)]
    exact (((((to a).app hc hJ (one hb)).app hc hJ (mid (a + 1) b)).app hc hJ (one ha)).app hc hJ (fr (b + 1))).up (by omega)
  · subst z
    rw [List.take_set_of_le (Nat.le_refl _), List.drop_set_of_lt (by omega)]
    exact (((to a).app hc hJ (one ha)).app hc hJ (fr (a + 1))).up (by omega)
  · rw [List.take_set_of_le (by omega), List.drop_set, if_neg (by omega), set_cut (ws.drop (b + 1)) (by rw [List.length_drop]; omega), List.drop_drop]
    rw [← List.append_assoc, ← List.append_assoc]
    refine (((((to b).app hc hJ (one ha)).app hc hJ (mid2 (b + 1) (a - (b + 1)))).app hc hJ (one hb)).app hc hJ (fr _)).up (by omega)
end
/-! ### a sign more, or less -/
theorem few_sign {c : Nat} (hc : c ≠ 32) {S : List (List Nat)} {x : List Nat} (h : ∀ p ∈ sp c x, p ∈ S) (j k s : Nat) : FrN c S 12 (x.take j ++ [s] ++ x.drop k) := by
  have h1 : FrN c S 0 (x.take j) := (by
    have := FrN.piece hc [] (x.take j) (x.drop j)
    rw [List.nil_append, List.take_append_drop] at this
    exact this.mono h)
  have h2 : FrN c S 0 (x.drop k) := (by
    have := FrN.piece hc (x.take k) (x.drop k) []
    rw [List.append_nil, List.take_append_drop] at this
    exact this.mono h)
  exact ((h1.app hc (.thin (by simp [sp]))).app hc h2).up (by omega)
theorem few_less {c : Nat} (hc : c ≠ 32) {S : List (List Nat)} {x : List Nat} (h : ∀ p ∈ sp c x, p ∈ S) (j k : Nat) : FrN c S 12 (x.take j ++ x.drop k) := by
  have h1 : FrN c S 0 (x.take j) := (by
    have := FrN.piece hc [] (x.take j) (x.drop j)
    rw [List.nil_append, List.take_append_drop] at this
    exact this.mono h)
  have h2 : FrN c S 0 (x.drop k) := (by
    have := FrN.piece hc (x.take k) (x.drop k) []
    rw [List.append_nil, List.take_append_drop] at this
    exact this.mono h)
  exact (h1.app hc h2).up (by omega)
theorem few_cut {c : Nat} (hc : c ≠ 32) {N : Nat} {x : List Nat} (h : Few c N x) (k : Nat) : Few c (N + 2) (x.take k) := by
  refine Few.sub (n := 0) h fun S q => ?_
  have := FrN.piece hc [] (x.take k) (x.drop k)
  rw [List.nil_append, List.take_append_drop] at this
  exact this.mono q
end KA
namespace KA
open PySem PySem.Spec PyProof.Rows L2
/-! ### figures by blocks -/
def padL : Nat → Nat → List Nat
  | 0, _ => []
  | k + 1, b => padL k (b / 10) ++ [48 + b % 10]
theorem numL_pad : ∀ (k : Nat) {a b : Nat}, 0 < a → b < 10 ^ k → TL.numL (a * 10 ^ k + b) = TL.numL a ++ padL k b
  | 0, a, b, ha, hb => by
    obtain rfl : b = 0 := by simpa using hb
    simp [padL]
  | k + 1, a, b, ha, hb => by
    have h10 : 0 < 10 ^ k := Nat.pow_pos (by decide)
    rw [Nat.pow_succ] at hb ⊢
    obtain ⟨q, hq⟩ : ∃ q, q = a * 10 ^ k := ⟨_, rfl⟩
    have hq0 : 0 < q := by rw [hq]; exact Nat.mul_pos ha h10
    have e0 : a * (10 ^ k * 10) + b = q * 10 + b := by rw [hq, Nat.mul_assoc]
    rw [e0, TL.numL_step (by omega), show (q * 10 + b) / 10 = a * 10 ^ k + b / 10 by omega, numL_pad k ha (by omega), show (q * 10 + b) % 10 = b % 10 by omega, List.append_assoc]
    rfl
theorem padL_zero : ∀ k, padL k 0 = List.replicate k 48
  | 0 => rfl
  | k + 1 => by
    rw [padL, Nat.zero_div, padL_zero k]
    show List.replicate k 48 ++ [48] = _
    rw [← List.replicate_succ']
theorem padL_eq : ∀ (k : Nat) {b : Nat}, b < 10 ^ k → 0 < k → padL k b = List.replicate (k - (TL.numL b).length) 48 ++ TL.numL b ∧ (TL.numL b).length ≤ k
  | 0, b, _, h => absurd h (by decide)
  | k + 1, b, hb, _ => by
    by_cases c : b < 10
    · rw [padL, Nat.div_eq_of_lt c, padL_zero, TL.numL_lt c, Nat.mod_eq_of_lt c]
      simp
    · have hk : 0 < k := by
        cases k with
        | zero => simp at hb; omega
        | succ k => omega
      have h := padL_eq k (b := b / 10) (by rw [Nat.pow_succ] at hb; omega) hk
      rw [padL, h.1, TL.numL_step (by omega : 10 ≤ b), List.length_append, List.length_singleton, List.append_assoc]
      refine ⟨?_, by have := h.2; omega⟩
      congr 2
      omega
theorem zfill_num {b k : Nat} (hb : b < 10 ^ k) (hk : 0 < k) : TL.tl (Txt.zfill (Str.ofString (toString ((b : Nat) : Int))) (k : Int)) = padL k b := by
  obtain ⟨h1, h2⟩ := padL_eq k hb hk
  have ht := TL.tl_num b
  generalize Str.ofString (toString ((b : Nat) : Int)) = x at ht ⊢
  have hl : x.length = (TL.numL b).length := by rw [TL.len_tl, ht]
  rw [h1, ← ht]
  unfold Txt.zfill
  by_cases c : k ≤ x.length
  · have e : x.length = k := by omega
    rw [if_pos (by exact_mod_cast c), show k - (TL.tl x).length = 0 by rw [ht]; omega]; rfl
  · rw [if_neg (by omega)]
    unfold zfilled
    have hd : ∀ y, x.cps[0]? = some y → 48 ≤ y := fun y hy => by
      have : y ∈ TL.tl x := by
        show y ∈ x.cps.toList
        exact List.mem_of_getElem? (by rw [Array.getElem?_toList]; exact hy)
      rw [ht] at this
      exact (TL.numL_digits b y this).1
    have e : TL.tl (Builtin.Str.padded x ((k : Int).toNat - x.length) 0 48) = List.replicate (k - (TL.tl x).length) 48 ++ TL.tl x := by
      rw [← TL.len_tl]
      unfold Builtin.Str.padded
      rw [Int.toNat_natCast]
      show (Array.replicate (k - x.length) 48 ++ x.cps ++ Array.replicate 0 48).toList = List.replicate (k - x.length) 48 ++ x.cps.toList
      simp
    cases h : x.cps[0]? with
    | none => exact e
    | some y =>
      have := hd y h
      split
      · rename_i q; injection q with q; omega
      · rename_i q; injection q with q; omega
      · exact e
end KA
namespace KA
open PySem PySem.Spec PyProof.Rows L2 DP
def top (i : Nat) : Stmt := PySem.Challenge.pw_darkpace_k56_whole_one_writing.main.body.getD i (.Pass ⟨0, 0, 0, 0⟩)
abbrev slaw_tray : Stmt := top 41
abbrev N_law_tray : List Str := ["script", "fold", "great", "cell", "much"]
abbrev P_law_tray : List Str := ["script"]
theorem sclaw_tray : FnScope N_law_tray P_law_tray (defScope slaw_tray) := ⟨rfl, rfl, rfl, by decide +kernel, rfl, by decide +kernel, by decide +kernel⟩
abbrev slaw_draw : Stmt := top 42
abbrev N_law_draw : List Str := ["tray", "many", "found", "mixed"]
abbrev P_law_draw : List Str := ["tray", "many"]
theorem sclaw_draw : FnScope N_law_draw P_law_draw (defScope slaw_draw) := ⟨rfl, rfl, rfl, by decide +kernel, rfl, by decide +kernel, by decide +kernel⟩
abbrev slaw_great : Stmt := top 43
abbrev N_law_great : List Str := ["tray", "found", "k"]
abbrev P_law_great : List Str := ["tray"]
theorem sclaw_great : FnScope N_law_great P_law_great (defScope slaw_great) := ⟨rfl, rfl, rfl, by decide +kernel, rfl, by decide +kernel, by decide +kernel⟩
abbrev slaw_length : Stmt := top 44
abbrev N_law_length : List Str := ["tray", "lot"]
abbrev P_law_length : List Str := ["tray"]
theorem sclaw_length : FnScope N_law_length P_law_length (defScope slaw_length) := ⟨rfl, rfl, rfl, by decide +kernel, rfl, by decide +kernel, by decide +kernel⟩
abbrev slaw_lead : Stmt := top 45
abbrev N_law_lead : List Str := ["size", "steps", "spot", "here", "there"]
abbrev P_law_lead : List Str := ["size", "steps", "spot"]
theorem sclaw_lead : FnScope N_law_lead P_law_lead (defScope slaw_lead) := ⟨rfl, rfl, rfl, by decide +kernel, rfl, by decide +kernel, by decide +kernel⟩
abbrev slaw_secret : Stmt := top 46
abbrev N_law_secret : List Str := ["tray", "size", "spots", "k", "rises", "spot", "lot", "base"]
abbrev P_law_secret : List Str := ["tray", "size"]
theorem sclaw_secret : FnScope N_law_secret P_law_secret (defScope slaw_secret) := ⟨rfl, rfl, rfl, by decide +kernel, rfl, by decide +kernel, by decide +kernel⟩
abbrev slaw_true_look : Stmt := top 47
abbrev N_law_true_look : List Str := ["tray", "size", "steps", "spot", "off", "said", "sign", "turn"]
abbrev P_law_true_look : List Str := ["tray", "size", "steps"]
theorem sclaw_true_look : FnScope N_law_true_look P_law_true_look (defScope slaw_true_look) := ⟨rfl, rfl, rfl, by decide +kernel, rfl, by decide +kernel, by decide +kernel⟩
abbrev slaw_known : Stmt := top 48
abbrev N_law_known : List Str := ["tray", "size", "most", "steps", "many", "turn"]
abbrev P_law_known : List Str := ["tray", "size", "most"]
theorem sclaw_known : FnScope N_law_known P_law_known (defScope slaw_known) := ⟨rfl, rfl, rfl, by decide +kernel, rfl, by decide +kernel, by decide +kernel⟩
abbrev slaw_home : Stmt := top 49
abbrev N_law_home : List Str := ["size", "look", "back"]
abbrev P_law_home : List Str := ["size", "look"]
theorem sclaw_home : FnScope N_law_home P_law_home (defScope slaw_home) := ⟨rfl, rfl, rfl, by decide +kernel, rfl, by decide +kernel, by decide +kernel⟩
abbrev slaw_look_shown : Stmt := top 50
abbrev N_law_look_shown : List Str := ["look"]
abbrev P_law_look_shown : List Str := ["look"]
theorem sclaw_look_shown : FnScope N_law_look_shown P_law_look_shown (defScope slaw_look_shown) := ⟨rfl, rfl, rfl, by decide +kernel, rfl, by decide +kernel, by decide +kernel⟩
abbrev slaw_dark_shown : Stmt := top 51
abbrev N_law_dark_shown : List Str := ["size", "known", "look"]
abbrev P_law_dark_shown : List Str := ["size", "known"]
theorem sclaw_dark_shown : FnScope N_law_dark_shown P_law_dark_shown (defScope slaw_dark_shown) := ⟨rfl, rfl, rfl, by decide +kernel, rfl, by decide +kernel, by decide +kernel⟩
abbrev slaw_hand_shown : Stmt := top 52
abbrev N_law_hand_shown : List Str := ["size", "steps", "here", "there"]
abbrev P_law_hand_shown : List Str := ["size", "steps"]
theorem sclaw_hand_shown : FnScope N_law_hand_shown P_law_hand_shown (defScope slaw_hand_shown) := ⟨rfl, rfl, rfl, by decide +kernel, rfl, by decide +kernel, by decide +kernel⟩
abbrev slaw_sign : Stmt := top 53
abbrev N_law_sign : List Str := ["tray", "some"]
abbrev P_law_sign : List Str := ["tray"]
theorem sclaw_sign : FnScope N_law_sign P_law_sign (defScope slaw_sign) := ⟨rfl, rfl, rfl, by decide +kernel, rfl, by decide +kernel, by decide +kernel⟩
abbrev slaw_parts_spoilt : Stmt := top 54
abbrev N_law_parts_spoilt : List Str := ["tray", "line", "odd", "joint", "parts", "at", "spot", "lot"]
abbrev P_law_parts_spoilt : List Str := ["tray", "line", "odd"]
theorem sclaw_parts_spoilt : FnScope N_law_parts_spoilt P_law_parts_spoilt (defScope slaw_parts_spoilt) := ⟨rfl, rfl, rfl, by decide +kernel, rfl, by decide +kernel, by decide +kernel⟩
abbrev slaw_spoilt : Stmt := top 55
abbrev N_law_spoilt : List Str := ["tray", "line", "odd", "lot", "at"]
abbrev P_law_spoilt : List Str := ["tray", "line", "odd"]
theorem sclaw_spoilt : FnScope N_law_spoilt P_law_spoilt (defScope slaw_spoilt) := ⟨rfl, rfl, rfl, by decide +kernel, rfl, by decide +kernel, by decide +kernel⟩
abbrev slaw_odd : Stmt := top 56
abbrev N_law_odd : List Str := ["some"]
abbrev P_law_odd : List Str := []
theorem sclaw_odd : FnScope N_law_odd P_law_odd (defScope slaw_odd) := ⟨rfl, rfl, rfl, by decide +kernel, rfl, by decide +kernel, by decide +kernel⟩
abbrev slaw_read : Stmt := top 57
abbrev N_law_read : List Str := ["reader", "line", "found"]
abbrev P_law_read : List Str := ["reader", "line"]
theorem sclaw_read : FnScope N_law_read P_law_read (defScope slaw_read) := ⟨rfl, rfl, rfl, by decide +kernel, rfl, by decide +kernel, by decide +kernel⟩
abbrev slaw_kept : Stmt := top 58
abbrev N_law_kept : List Str := ["line", "many", "reader", "shower", "found"]
abbrev P_law_kept : List Str := ["line"]
theorem sclaw_kept : FnScope N_law_kept P_law_kept (defScope slaw_kept) := ⟨rfl, rfl, rfl, by decide +kernel, rfl, by decide +kernel, by decide +kernel⟩
abbrev slaw_dark_right : Stmt := top 59
abbrev N_law_dark_right : List Str := ["tray", "line", "some", "made", "other", "look", "spots", "turn", "spot"]
abbrev P_law_dark_right : List Str := ["tray", "line"]
theorem sclaw_dark_right : FnScope N_law_dark_right P_law_dark_right (defScope slaw_dark_right) := ⟨rfl, rfl, rfl, by decide +kernel, rfl, by decide +kernel, by decide +kernel⟩
abbrev sfigures : Stmt := top 23
abbrev N_figures : List Str := ["number", "blocks"]
abbrev P_figures : List Str := ["number"]
theorem scfigures : FnScope N_figures P_figures (defScope sfigures) := ⟨rfl, rfl, rfl, by decide +kernel, rfl, by decide +kernel, by decide +kernel⟩
abbrev sshow_step : Stmt := top 24
abbrev N_show_step : List Str := ["step", "x", "y"]
abbrev P_show_step : List Str := ["step"]
theorem scshow_step : FnScope N_show_step P_show_step (defScope sshow_step) := ⟨rfl, rfl, rfl, by decide +kernel, rfl, by decide +kernel, by decide +kernel⟩
abbrev sshow_look : Stmt := top 25
abbrev N_show_look : List Str := ["look", "word", "x", "y"]
abbrev P_show_look : List Str := ["look"]
theorem scshow_look : FnScope N_show_look P_show_look (defScope sshow_look) := ⟨rfl, rfl, rfl, by decide +kernel, rfl, by decide +kernel, by decide +kernel⟩
abbrev sshow_dark : Stmt := top 26
abbrev N_show_dark : List Str := ["dark", "look"]
abbrev P_show_dark : List Str := ["dark"]
theorem scshow_dark : FnScope N_show_dark P_show_dark (defScope sshow_dark) := ⟨rfl, rfl, rfl, by decide +kernel, rfl, by decide +kernel, by decide +kernel⟩
abbrev sshow_hand : Stmt := top 27
abbrev N_show_hand : List Str := ["hand", "steps", "step"]
abbrev P_show_hand : List Str := ["hand"]
theorem scshow_hand : FnScope N_show_hand P_show_hand (defScope sshow_hand) := ⟨rfl, rfl, rfl, by decide +kernel, rfl, by decide +kernel, by decide +kernel⟩
abbrev snumber_of : Stmt := top 31
abbrev N_number_of : List Str := ["word", "figures", "sign", "number"]
abbrev P_number_of : List Str := ["word"]
theorem scnumber_of : FnScope N_number_of P_number_of (defScope snumber_of) := ⟨rfl, rfl, rfl, by decide +kernel, rfl, by decide +kernel, by decide +kernel⟩
abbrev slength_of : Stmt := top 32
abbrev N_length_of : List Str := ["word", "number"]
abbrev P_length_of : List Str := ["word"]
theorem sclength_of : FnScope N_length_of P_length_of (defScope slength_of) := ⟨rfl, rfl, rfl, by decide +kernel, rfl, by decide +kernel, by decide +kernel⟩
abbrev sstep_of : Stmt := top 33
abbrev N_step_of : List Str := ["text", "numbers", "word"]
abbrev P_step_of : List Str := ["text"]
theorem scstep_of : FnScope N_step_of P_step_of (defScope sstep_of) := ⟨rfl, rfl, rfl, by decide +kernel, rfl, by decide +kernel, by decide +kernel⟩
abbrev slook_of : Stmt := top 34
abbrev N_look_of : List Str := ["text", "word", "_", "rest", "step"]
abbrev P_look_of : List Str := ["text"]
theorem sclook_of : FnScope N_look_of P_look_of (defScope slook_of) := ⟨rfl, rfl, rfl, by decide +kernel, rfl, by decide +kernel, by decide +kernel⟩
abbrev sdark_of : Stmt := top 35
abbrev N_dark_of : List Str := ["text", "parts", "length", "looks", "part", "dark", "word", "x", "y"]
abbrev P_dark_of : List Str := ["text"]
theorem scdark_of : FnScope N_dark_of P_dark_of (defScope sdark_of) := ⟨rfl, rfl, rfl, by decide +kernel, rfl, by decide +kernel, by decide +kernel⟩
abbrev shand_of : Stmt := top 36
abbrev N_hand_of : List Str := ["text", "first", "_", "rest", "length", "steps", "part"]
abbrev P_hand_of : List Str := ["text"]
theorem schand_of : FnScope N_hand_of P_hand_of (defScope shand_of) := ⟨rfl, rfl, rfl, by decide +kernel, rfl, by decide +kernel, by decide +kernel⟩
abbrev sread_look : Stmt := top 37
abbrev N_read_look : List Str := ["text", "look"]
abbrev P_read_look : List Str := ["text"]
theorem scread_look : FnScope N_read_look P_read_look (defScope sread_look) := ⟨rfl, rfl, rfl, by decide +kernel, rfl, by decide +kernel, by decide +kernel⟩
abbrev sread_dark : Stmt := top 38
abbrev N_read_dark : List Str := ["text", "dark"]
abbrev P_read_dark : List Str := ["text"]
theorem scread_dark : FnScope N_read_dark P_read_dark (defScope sread_dark) := ⟨rfl, rfl, rfl, by decide +kernel, rfl, by decide +kernel, by decide +kernel⟩
abbrev sread_hand : Stmt := top 39
abbrev N_read_hand : List Str := ["text", "hand"]
abbrev P_read_hand : List Str := ["text"]
theorem scread_hand : FnScope N_read_hand P_read_hand (defScope sread_hand) := ⟨rfl, rfl, rfl, by decide +kernel, rfl, by decide +kernel, by decide +kernel⟩
abbrev sside_looks : Stmt := top 12
abbrev N_side_looks : List Str := ["looks", "side", "words", "look"]
abbrev P_side_looks : List Str := ["looks", "side"]
theorem scside_looks : FnScope N_side_looks P_side_looks (defScope sside_looks) := ⟨rfl, rfl, rfl, by decide +kernel, rfl, by decide +kernel, by decide +kernel⟩
abbrev sbest_step : Stmt := top 14
abbrev N_best_step : List Str := ["looks", "side", "x", "length", "steps", "look"]
abbrev P_best_step : List Str := ["looks", "side", "x", "length"]
theorem scbest_step : FnScope N_best_step P_best_step (defScope sbest_step) := ⟨rfl, rfl, rfl, by decide +kernel, rfl, by decide +kernel, by decide +kernel⟩
abbrev stoo_far : Stmt := top 17
abbrev N_too_far : List Str := ["low", "high", "length"]
abbrev P_too_far : List Str := ["low", "high", "length"]
theorem sctoo_far : FnScope N_too_far P_too_far (defScope stoo_far) := ⟨rfl, rfl, rfl, by decide +kernel, rfl, by decide +kernel, by decide +kernel⟩
abbrev sclash : Stmt := top 18
abbrev N_clash : List Str := ["look", "other", "length"]
abbrev P_clash : List Str := ["look", "other", "length"]
theorem scclash : FnScope N_clash P_clash (defScope sclash) := ⟨rfl, rfl, rfl, by decide +kernel, rfl, by decide +kernel, by decide +kernel⟩
abbrev splace_by : Stmt := top 13
abbrev N_place_by : List Str := ["look", "side", "x", "length", "_", "start", "end"]
abbrev P_place_by : List Str := ["look", "side", "x", "length"]
theorem scplace_by : FnScope N_place_by P_place_by (defScope splace_by) := ⟨rfl, rfl, rfl, by decide +kernel, rfl, by decide +kernel, by decide +kernel⟩
abbrev sDark_init : Stmt := inClass (top 19) 0
abbrev N_Dark_init : List Str := ["self", "length"]
abbrev P_Dark_init : List Str := ["self", "length"]
theorem scDark_init : FnScope N_Dark_init P_Dark_init (defScope sDark_init) := ⟨rfl, rfl, rfl, by decide +kernel, rfl, by decide +kernel, by decide +kernel⟩
abbrev sDark_length : Stmt := inClass (top 19) 3
abbrev N_Dark_length : List Str := ["self"]
abbrev P_Dark_length : List Str := ["self"]
theorem scDark_length : FnScope N_Dark_length P_Dark_length (defScope sDark_length) := ⟨rfl, rfl, rfl, by decide +kernel, rfl, by decide +kernel, by decide +kernel⟩
abbrev sDark_hear : Stmt := inClass (top 19) 4
abbrev N_Dark_hear : List Str := ["self", "word", "x", "y", "look", "other"]
abbrev P_Dark_hear : List Str := ["self", "word", "x", "y"]
theorem scDark_hear : FnScope N_Dark_hear P_Dark_hear (defScope sDark_hear) := ⟨rfl, rfl, rfl, by decide +kernel, rfl, by decide +kernel, by decide +kernel⟩
abbrev sDark_looks : Stmt := inClass (top 19) 6
abbrev N_Dark_looks : List Str := ["self"]
abbrev P_Dark_looks : List Str := ["self"]
theorem scDark_looks : FnScope N_Dark_looks P_Dark_looks (defScope sDark_looks) := ⟨rfl, rfl, rfl, by decide +kernel, rfl, by decide +kernel, by decide +kernel⟩
abbrev sDark_least : Stmt := inClass (top 19) 7
abbrev N_Dark_least : List Str := ["self", "x"]
abbrev P_Dark_least : List Str := ["self", "x"]
theorem scDark_least : FnScope N_Dark_least P_Dark_least (defScope sDark_least) := ⟨rfl, rfl, rfl, by decide +kernel, rfl, by decide +kernel, by decide +kernel⟩
abbrev sDark_greatest : Stmt := inClass (top 19) 8
abbrev N_Dark_greatest : List Str := ["self", "x"]
abbrev P_Dark_greatest : List Str := ["self", "x"]
theorem scDark_greatest : FnScope N_Dark_greatest P_Dark_greatest (defScope sDark_greatest) := ⟨rfl, rfl, rfl, by decide +kernel, rfl, by decide +kernel, by decide +kernel⟩
abbrev sDark_led_back : Stmt := inClass (top 19) 11
abbrev N_Dark_led_back : List Str := ["self", "back", "word", "x", "y"]
abbrev P_Dark_led_back : List Str := ["self"]
theorem scDark_led_back : FnScope N_Dark_led_back P_Dark_led_back (defScope sDark_led_back) := ⟨rfl, rfl, rfl, by decide +kernel, rfl, by decide +kernel, by decide +kernel⟩
abbrev sDarkcheck_word : Stmt := inClass (top 19) 12
abbrev N_Darkcheck_word : List Str := ["self", "word"]
abbrev P_Darkcheck_word : List Str := ["self", "word"]
theorem scDarkcheck_word : FnScope N_Darkcheck_word P_Darkcheck_word (defScope sDarkcheck_word) := ⟨rfl, rfl, rfl, by decide +kernel, rfl, by decide +kernel, by decide +kernel⟩
abbrev sDarkhome : Stmt := inClass (top 19) 13
abbrev N_Darkhome : List Str := ["self", "word", "x", "y", "turns"]
abbrev P_Darkhome : List Str := ["self", "word", "x", "y"]
theorem scDarkhome : FnScope N_Darkhome P_Darkhome (defScope sDarkhome) := ⟨rfl, rfl, rfl, by decide +kernel, rfl, by decide +kernel, by decide +kernel⟩
abbrev sDarkclashing : Stmt := inClass (top 19) 14
abbrev N_Darkclashing : List Str := ["self", "look", "other"]
abbrev P_Darkclashing : List Str := ["self", "look"]
theorem scDarkclashing : FnScope N_Darkclashing P_Darkclashing (defScope sDarkclashing) := ⟨rfl, rfl, rfl, by decide +kernel, rfl, by decide +kernel, by decide +kernel⟩
abbrev sDarkbound : Stmt := inClass (top 19) 15
abbrev N_Darkbound : List Str := ["self", "side", "x", "step"]
abbrev P_Darkbound : List Str := ["self", "side", "x"]
theorem scDarkbound : FnScope N_Darkbound P_Darkbound (defScope sDarkbound) := ⟨rfl, rfl, rfl, by decide +kernel, rfl, by decide +kernel, by decide +kernel⟩
abbrev sHand_init : Stmt := inClass (top 21) 0
abbrev N_Hand_init : List Str := ["self", "length", "steps", "x", "y"]
abbrev P_Hand_init : List Str := ["self", "length", "steps"]
theorem scHand_init : FnScope N_Hand_init P_Hand_init (defScope sHand_init) := ⟨rfl, rfl, rfl, by decide +kernel, rfl, by decide +kernel, by decide +kernel⟩
abbrev sHand_length : Stmt := inClass (top 21) 3
abbrev N_Hand_length : List Str := ["self"]
abbrev P_Hand_length : List Str := ["self"]
theorem scHand_length : FnScope N_Hand_length P_Hand_length (defScope sHand_length) := ⟨rfl, rfl, rfl, by decide +kernel, rfl, by decide +kernel, by decide +kernel⟩
abbrev sHand_steps : Stmt := inClass (top 21) 4
abbrev N_Hand_steps : List Str := ["self", "_", "x", "y"]
abbrev P_Hand_steps : List Str := ["self"]
theorem scHand_steps : FnScope N_Hand_steps P_Hand_steps (defScope sHand_steps) := ⟨rfl, rfl, rfl, by decide +kernel, rfl, by decide +kernel, by decide +kernel⟩
abbrev slaw : Stmt := top 60
abbrev N_law : List Str := ["script", "tray", "odd", "k", "size", "steps", "known", "look", "some", "line", "turn"]
abbrev P_law : List Str := ["script"]
theorem sclaw : FnScope N_law P_law (defScope slaw) := ⟨rfl, rfl, rfl, by decide +kernel, rfl, by decide +kernel, by decide +kernel⟩
structure Ad where
  C : Addr
  C_Hand : Addr
  a_law_tray : Addr
  d_law_tray : FuncData
  a_law_draw : Addr
  d_law_draw : FuncData
  a_law_great : Addr
  d_law_great : FuncData
  a_law_length : Addr
  d_law_length : FuncData
  a_law_lead : Addr
  d_law_lead : FuncData
  a_law_secret : Addr
  d_law_secret : FuncData
  a_law_true_look : Addr
  d_law_true_look : FuncData
  a_law_known : Addr
  d_law_known : FuncData
  a_law_home : Addr
  d_law_home : FuncData
  a_law_look_shown : Addr
  d_law_look_shown : FuncData
  a_law_dark_shown : Addr
  d_law_dark_shown : FuncData
  a_law_hand_shown : Addr
  d_law_hand_shown : FuncData
  a_law_sign : Addr
  d_law_sign : FuncData
  a_law_parts_spoilt : Addr
  d_law_parts_spoilt : FuncData
  a_law_spoilt : Addr
  d_law_spoilt : FuncData
  a_law_odd : Addr
  d_law_odd : FuncData
  a_law_read : Addr
  d_law_read : FuncData
  a_law_kept : Addr
  d_law_kept : FuncData
  a_law_dark_right : Addr
  d_law_dark_right : FuncData
  a_figures : Addr
  d_figures : FuncData
  a_show_step : Addr
  d_show_step : FuncData
  a_show_look : Addr
  d_show_look : FuncData
  a_show_dark : Addr
  d_show_dark : FuncData
  a_show_hand : Addr
  d_show_hand : FuncData
  a_number_of : Addr
  d_number_of : FuncData
  a_length_of : Addr
  d_length_of : FuncData
  a_step_of : Addr
  d_step_of : FuncData
  a_look_of : Addr
  d_look_of : FuncData
  a_dark_of : Addr
  d_dark_of : FuncData
  a_hand_of : Addr
  d_hand_of : FuncData
  a_read_look : Addr
  d_read_look : FuncData
  a_read_dark : Addr
  d_read_dark : FuncData
  a_read_hand : Addr
  d_read_hand : FuncData
  a_side_looks : Addr
  d_side_looks : FuncData
  a_best_step : Addr
  d_best_step : FuncData
  a_too_far : Addr
  d_too_far : FuncData
  a_clash : Addr
  d_clash : FuncData
  a_place_by : Addr
  d_place_by : FuncData
  a_Dark_init : Addr
  d_Dark_init : FuncData
  a_Dark_length : Addr
  d_Dark_length : FuncData
  a_Dark_hear : Addr
  d_Dark_hear : FuncData
  a_Dark_looks : Addr
  d_Dark_looks : FuncData
  a_Dark_least : Addr
  d_Dark_least : FuncData
  a_Dark_greatest : Addr
  d_Dark_greatest : FuncData
  a_Dark_led_back : Addr
  d_Dark_led_back : FuncData
  a_Darkcheck_word : Addr
  d_Darkcheck_word : FuncData
  a_Darkhome : Addr
  d_Darkhome : FuncData
  a_Darkclashing : Addr
  d_Darkclashing : FuncData
  a_Darkbound : Addr
  d_Darkbound : FuncData
  a_Hand_init : Addr
  d_Hand_init : FuncData
  a_Hand_length : Addr
  d_Hand_length : FuncData
  a_Hand_steps : Addr
  d_Hand_steps : FuncData
  a_law : Addr
  d_law : FuncData
  v_FIGURES : Value
  v_MOST_FIGURES : Value
  v_SLOW : Value
  v_FAST : Value
  a_WORDS : Addr
  a_LW : Addr
  t_slow : Addr
  t_fast : Addr
structure Tx (K : PySem.W.Frag) (w : World) (mg : Str → Option Value) (Z : Ad) : Prop where
  F_law_tray : Fun K "_law_tray" "_law_tray" slaw_tray Z.a_law_tray Z.d_law_tray
  bb_law_tray : Binds K Z.d_law_tray P_law_tray []
  g_law_tray : mg "_law_tray" = some (.ref Z.a_law_tray)
  F_law_draw : Fun K "_law_draw" "_law_draw" slaw_draw Z.a_law_draw Z.d_law_draw
  bb_law_draw : Binds K Z.d_law_draw P_law_draw []
  g_law_draw : mg "_law_draw" = some (.ref Z.a_law_draw)
  F_law_great : Fun K "_law_great" "_law_great" slaw_great Z.a_law_great Z.d_law_great
  bb_law_great : Binds K Z.d_law_great P_law_great []
  g_law_great : mg "_law_great" = some (.ref Z.a_law_great)
  F_law_length : Fun K "_law_length" "_law_length" slaw_length Z.a_law_length Z.d_law_length
  bb_law_length : Binds K Z.d_law_length P_law_length []
  g_law_length : mg "_law_length" = some (.ref Z.a_law_length)
  F_law_lead : Fun K "_law_lead" "_law_lead" slaw_lead Z.a_law_lead Z.d_law_lead
  bb_law_lead : Binds K Z.d_law_lead P_law_lead []
  g_law_lead : mg "_law_lead" = some (.ref Z.a_law_lead)
  F_law_secret : Fun K "_law_secret" "_law_secret" slaw_secret Z.a_law_secret Z.d_law_secret
  bb_law_secret : Binds K Z.d_law_secret P_law_secret []
  g_law_secret : mg "_law_secret" = some (.ref Z.a_law_secret)
  F_law_true_look : Fun K "_law_true_look" "_law_true_look" slaw_true_look Z.a_law_true_look Z.d_law_true_look
  bb_law_true_look : Binds K Z.d_law_true_look P_law_true_look []
  g_law_true_look : mg "_law_true_look" = some (.ref Z.a_law_true_look)
  F_law_known : Fun K "_law_known" "_law_known" slaw_known Z.a_law_known Z.d_law_known
  bb_law_known : Binds K Z.d_law_known P_law_known []
  g_law_known : mg "_law_known" = some (.ref Z.a_law_known)
  F_law_home : Fun K "_law_home" "_law_home" slaw_home Z.a_law_home Z.d_law_home
  bb_law_home : Binds K Z.d_law_home P_law_home []
  g_law_home : mg "_law_home" = some (.ref Z.a_law_home)
  F_law_look_shown : Fun K "_law_look_shown" "_law_look_shown" slaw_look_shown Z.a_law_look_shown Z.d_law_look_shown
  bb_law_look_shown : Binds K Z.d_law_look_shown P_law_look_shown []
  g_law_look_shown : mg "_law_look_shown" = some (.ref Z.a_law_look_shown)
  F_law_dark_shown : Fun K "_law_dark_shown" "_law_dark_shown" slaw_dark_shown Z.a_law_dark_shown Z.d_law_dark_shown
  bb_law_dark_shown : Binds K Z.d_law_dark_shown P_law_dark_shown []
  g_law_dark_shown : mg "_law_dark_shown" = some (.ref Z.a_law_dark_shown)
  F_law_hand_shown : Fun K "_law_hand_shown" "_law_hand_shown" slaw_hand_shown Z.a_law_hand_shown Z.d_law_hand_shown
  bb_law_hand_shown : Binds K Z.d_law_hand_shown P_law_hand_shown []
  g_law_hand_shown : mg "_law_hand_shown" = some (.ref Z.a_law_hand_shown)
  F_law_sign : Fun K "_law_sign" "_law_sign" slaw_sign Z.a_law_sign Z.d_law_sign
  bb_law_sign : Binds K Z.d_law_sign P_law_sign []
  g_law_sign : mg "_law_sign" = some (.ref Z.a_law_sign)
  F_law_parts_spoilt : Fun K "_law_parts_spoilt" "_law_parts_spoilt" slaw_parts_spoilt Z.a_law_parts_spoilt Z.d_law_parts_spoilt
  bb_law_parts_spoilt : Binds K Z.d_law_parts_spoilt P_law_parts_spoilt []
  g_law_parts_spoilt : mg "_law_parts_spoilt" = some (.ref Z.a_law_parts_spoilt)
  F_law_spoilt : Fun K "_law_spoilt" "_law_spoilt" slaw_spoilt Z.a_law_spoilt Z.d_law_spoilt
  bb_law_spoilt : Binds K Z.d_law_spoilt P_law_spoilt []
  g_law_spoilt : mg "_law_spoilt" = some (.ref Z.a_law_spoilt)
  F_law_odd : Fun K "_law_odd" "_law_odd" slaw_odd Z.a_law_odd Z.d_law_odd
  bb_law_odd : Binds K Z.d_law_odd P_law_odd []
  g_law_odd : mg "_law_odd" = some (.ref Z.a_law_odd)
  F_law_read : Fun K "_law_read" "_law_read" slaw_read Z.a_law_read Z.d_law_read
  bb_law_read : Binds K Z.d_law_read P_law_read []
  g_law_read : mg "_law_read" = some (.ref Z.a_law_read)
  F_law_kept : Fun K "_law_kept" "_law_kept" slaw_kept Z.a_law_kept Z.d_law_kept
  bb_law_kept : Binds K Z.d_law_kept P_law_kept []
  g_law_kept : mg "_law_kept" = some (.ref Z.a_law_kept)
  F_law_dark_right : Fun K "_law_dark_right" "_law_dark_right" slaw_dark_right Z.a_law_dark_right Z.d_law_dark_right
  bb_law_dark_right : Binds K Z.d_law_dark_right P_law_dark_right []
  g_law_dark_right : mg "_law_dark_right" = some (.ref Z.a_law_dark_right)
  F_figures : Fun K "figures" "figures" sfigures Z.a_figures Z.d_figures
  bb_figures : Binds K Z.d_figures P_figures []
  g_figures : mg "figures" = some (.ref Z.a_figures)
  F_show_step : Fun K "show_step" "show_step" sshow_step Z.a_show_step Z.d_show_step
  bb_show_step : Binds K Z.d_show_step P_show_step []
  g_show_step : mg "show_step" = some (.ref Z.a_show_step)
  F_show_look : Fun K "show_look" "show_look" sshow_look Z.a_show_look Z.d_show_look
  bb_show_look : Binds K Z.d_show_look P_show_look []
  g_show_look : mg "show_look" = some (.ref Z.a_show_look)
  F_show_dark : Fun K "show_dark" "show_dark" sshow_dark Z.a_show_dark Z.d_show_dark
  bb_show_dark : Binds K Z.d_show_dark P_show_dark []
  g_show_dark : mg "show_dark" = some (.ref Z.a_show_dark)
  F_show_hand : Fun K "show_hand" "show_hand" sshow_hand Z.a_show_hand Z.d_show_hand
  bb_show_hand : Binds K Z.d_show_hand P_show_hand []
  g_show_hand : mg "show_hand" = some (.ref Z.a_show_hand)
  F_number_of : Fun K "number_of" "number_of" snumber_of Z.a_number_of Z.d_number_of
  bb_number_of : Binds K Z.d_number_of P_number_of []
  g_number_of : mg "number_of" = some (.ref Z.a_number_of)
  F_length_of : Fun K "length_of" "length_of" slength_of Z.a_length_of Z.d_length_of
  bb_length_of : Binds K Z.d_length_of P_length_of []
  g_length_of : mg "length_of" = some (.ref Z.a_length_of)
  F_step_of : Fun K "step_of" "step_of" sstep_of Z.a_step_of Z.d_step_of
  bb_step_of : Binds K Z.d_step_of P_step_of []
  g_step_of : mg "step_of" = some (.ref Z.a_step_of)
  F_look_of : Fun K "look_of" "look_of" slook_of Z.a_look_of Z.d_look_of
  bb_look_of : Binds K Z.d_look_of P_look_of []
  g_look_of : mg "look_of" = some (.ref Z.a_look_of)
  F_dark_of : Fun K "dark_of" "dark_of" sdark_of Z.a_dark_of Z.d_dark_of
  bb_dark_of : Binds K Z.d_dark_of P_dark_of []
  g_dark_of : mg "dark_of" = some (.ref Z.a_dark_of)
  F_hand_of : Fun K "hand_of" "hand_of" shand_of Z.a_hand_of Z.d_hand_of
  bb_hand_of : Binds K Z.d_hand_of P_hand_of []
  g_hand_of : mg "hand_of" = some (.ref Z.a_hand_of)
  F_read_look : Fun K "read_look" "read_look" sread_look Z.a_read_look Z.d_read_look
  bb_read_look : Binds K Z.d_read_look P_read_look []
  g_read_look : mg "read_look" = some (.ref Z.a_read_look)
  F_read_dark : Fun K "read_dark" "read_dark" sread_dark Z.a_read_dark Z.d_read_dark
  bb_read_dark : Binds K Z.d_read_dark P_read_dark []
  g_read_dark : mg "read_dark" = some (.ref Z.a_read_dark)
  F_read_hand : Fun K "read_hand" "read_hand" sread_hand Z.a_read_hand Z.d_read_hand
  bb_read_hand : Binds K Z.d_read_hand P_read_hand []
  g_read_hand : mg "read_hand" = some (.ref Z.a_read_hand)
  F_side_looks : Fun K "side_looks" "side_looks" sside_looks Z.a_side_looks Z.d_side_looks
  bb_side_looks : Binds K Z.d_side_looks P_side_looks []
  g_side_looks : mg "side_looks" = some (.ref Z.a_side_looks)
  F_best_step : Fun K "best_step" "best_step" sbest_step Z.a_best_step Z.d_best_step
  bb_best_step : Binds K Z.d_best_step P_best_step []
  g_best_step : mg "best_step" = some (.ref Z.a_best_step)
  F_too_far : Fun K "too_far" "too_far" stoo_far Z.a_too_far Z.d_too_far
  bb_too_far : Binds K Z.d_too_far P_too_far []
  g_too_far : mg "too_far" = some (.ref Z.a_too_far)
  F_clash : Fun K "clash" "clash" sclash Z.a_clash Z.d_clash
  bb_clash : Binds K Z.d_clash P_clash []
  g_clash : mg "clash" = some (.ref Z.a_clash)
  F_place_by : Fun K "place_by" "place_by" splace_by Z.a_place_by Z.d_place_by
  bb_place_by : Binds K Z.d_place_by P_place_by []
  g_place_by : mg "place_by" = some (.ref Z.a_place_by)
  F_Dark_init : Fun K "__init__" "Dark.__init__" sDark_init Z.a_Dark_init Z.d_Dark_init
  bb_Dark_init : Binds K Z.d_Dark_init P_Dark_init []
  F_Dark_length : Fun K "length" "Dark.length" sDark_length Z.a_Dark_length Z.d_Dark_length
  bb_Dark_length : Binds K Z.d_Dark_length P_Dark_length []
  m_Dark_length : Meth K Z.C "length" Z.a_Dark_length
  F_Dark_hear : Fun K "hear" "Dark.hear" sDark_hear Z.a_Dark_hear Z.d_Dark_hear
  bb_Dark_hear : Binds K Z.d_Dark_hear P_Dark_hear []
  m_Dark_hear : Meth K Z.C "hear" Z.a_Dark_hear
  F_Dark_looks : Fun K "looks" "Dark.looks" sDark_looks Z.a_Dark_looks Z.d_Dark_looks
  bb_Dark_looks : Binds K Z.d_Dark_looks P_Dark_looks []
  m_Dark_looks : Meth K Z.C "looks" Z.a_Dark_looks
  F_Dark_least : Fun K "least" "Dark.least" sDark_least Z.a_Dark_least Z.d_Dark_least
  bb_Dark_least : Binds K Z.d_Dark_least P_Dark_least []
  m_Dark_least : Meth K Z.C "least" Z.a_Dark_least
  F_Dark_greatest : Fun K "greatest" "Dark.greatest" sDark_greatest Z.a_Dark_greatest Z.d_Dark_greatest
  bb_Dark_greatest : Binds K Z.d_Dark_greatest P_Dark_greatest []
  m_Dark_greatest : Meth K Z.C "greatest" Z.a_Dark_greatest
  F_Dark_led_back : Fun K "led_back" "Dark.led_back" sDark_led_back Z.a_Dark_led_back Z.d_Dark_led_back
  bb_Dark_led_back : Binds K Z.d_Dark_led_back P_Dark_led_back []
  m_Dark_led_back : Meth K Z.C "led_back" Z.a_Dark_led_back
  F_Darkcheck_word : Fun K "_check_word" "Dark._check_word" sDarkcheck_word Z.a_Darkcheck_word Z.d_Darkcheck_word
  bb_Darkcheck_word : Binds K Z.d_Darkcheck_word P_Darkcheck_word []
  m_Darkcheck_word : Meth K Z.C "_check_word" Z.a_Darkcheck_word
  F_Darkhome : Fun K "_home" "Dark._home" sDarkhome Z.a_Darkhome Z.d_Darkhome
  bb_Darkhome : Binds K Z.d_Darkhome P_Darkhome []
  m_Darkhome : Meth K Z.C "_home" Z.a_Darkhome
  F_Darkclashing : Fun K "_clashing" "Dark._clashing" sDarkclashing Z.a_Darkclashing Z.d_Darkclashing
  bb_Darkclashing : Binds K Z.d_Darkclashing P_Darkclashing []
  m_Darkclashing : Meth K Z.C "_clashing" Z.a_Darkclashing
  F_Darkbound : Fun K "_bound" "Dark._bound" sDarkbound Z.a_Darkbound Z.d_Darkbound
  bb_Darkbound : Binds K Z.d_Darkbound P_Darkbound []
  m_Darkbound : Meth K Z.C "_bound" Z.a_Darkbound
  F_Hand_init : Fun K "__init__" "Hand.__init__" sHand_init Z.a_Hand_init Z.d_Hand_init
  bb_Hand_init : Binds K Z.d_Hand_init P_Hand_init []
  F_Hand_length : Fun K "length" "Hand.length" sHand_length Z.a_Hand_length Z.d_Hand_length
  bb_Hand_length : Binds K Z.d_Hand_length P_Hand_length []
  m_Hand_length : Meth K Z.C_Hand "length" Z.a_Hand_length
  F_Hand_steps : Fun K "steps" "Hand.steps" sHand_steps Z.a_Hand_steps Z.d_Hand_steps
  bb_Hand_steps : Binds K Z.d_Hand_steps P_Hand_steps []
  m_Hand_steps : Meth K Z.C_Hand "steps" Z.a_Hand_steps
  F_law : Fun K "law" "law" slaw Z.a_law Z.d_law
  bb_law : Binds K Z.d_law P_law []
  g_law : mg "law" = some (.ref Z.a_law)
  cl : Cls K Z.C
  g_Dark : mg "Dark" = some (.ref Z.C)
  cl_Hand : Cls K Z.C_Hand
  g_Hand : mg "Hand" = some (.ref Z.C_Hand)
  mk_Hand : Mk K Z.C_Hand Z.a_Hand_init
  nHand__dark : NoAttr K Z.C_Hand "_dark"
  nHand__back : NoAttr K Z.C_Hand "_back"
  mk_Dark : Mk K Z.C Z.a_Dark_init
  n_length : NoAttr K Z.C "_length"
  n_looks : NoAttr K Z.C "_looks"
  b_max : mg "max" = none
  b_min : mg "min" = none
  b_len : mg "len" = none
  b_range : mg "range" = none
  b_sorted : mg "sorted" = none
  b_set : mg "set" = none
  b_isinstance : mg "isinstance" = none
  b_list : mg "list" = none
  b_tuple : mg "tuple" = none
  b_bool : mg "bool" = none
  b_int : mg "int" = none
  b_str : mg "str" = none
  b_all : mg "all" = none
  b_reversed : mg "reversed" = none
  b_super : mg "super" = none
  b_ValueError : mg "ValueError" = none
  g_FIGURES : mg "FIGURES" = some Z.v_FIGURES
  r_FIGURES : RelV (.str "0123456789") Z.v_FIGURES
  g_MOST_FIGURES : mg "MOST_FIGURES" = some Z.v_MOST_FIGURES
  r_MOST_FIGURES : RelV (.int 60) Z.v_MOST_FIGURES
  g_SLOW : mg "SLOW" = some Z.v_SLOW
  r_SLOW : RelV (.str "slow") Z.v_SLOW
  g_FAST : mg "FAST" = some Z.v_FAST
  r_FAST : RelV (.str "fast") Z.v_FAST
  g_WORDS : mg "WORDS" = some (.ref Z.a_WORDS)
  kd_WORDS : ∃ es n, KDict K w Z.a_WORDS es n
  w_slow : PySem.W.nsIn K Z.a_WORDS "slow" = some (some (.ref Z.t_slow))
  w_fast : PySem.W.nsIn K Z.a_WORDS "fast" = some (some (.ref Z.t_fast))
  q_slow : ∀ H, SqT K H Z.t_slow [.str "at", .str "from"]
  q_fast : ∀ H, SqT K H Z.t_fast [.str "at", .str "upto"]
  g_LOOK_WORDS : mg "LOOK_WORDS" = some (.ref Z.a_LW)
  q_LW : ∀ H, SqT K H Z.a_LW [.str "at", .str "from", .str "upto"]
structure AdX where
  c_NoText : Addr
  i_NoText : Addr
  c_Clash : Addr
  i_Clash : Addr
structure Ex (P : Program) (K : PySem.W.Frag) (mg : Str → Option Value) (Y : AdX) : Prop where
  NoText : ERR.ErrT P K Y.c_NoText Y.i_NoText
  g_NoText : mg "NoText" = some (.ref Y.c_NoText)
  m_NoText : PySem.W.exmOne K (.ref Y.c_NoText) (.ref Y.c_NoText) = some true
  Clash : ERR.ErrT P K Y.c_Clash Y.i_Clash
  g_Clash : mg "Clash" = some (.ref Y.c_Clash)
  m_Clash : PySem.W.exmOne K (.ref Y.c_Clash) (.ref Y.c_Clash) = some true
end KA
/-! Looks in plain Lean. -/
namespace KA
open PySem PySem.Spec PyProof.Rows L2 DP
/-- a look: word, x, y -/
abbrev Lk := Str × Int × Int
def encL (l : Lk) : PyData := .tuple [.str l.1, .int l.2.1, .int l.2.2]
def WordOk (x : Str) : Prop := x = "at" ∨ x = "from" ∨ x = "upto"
def SideOk (x : Str) : Prop := x = "slow" ∨ x = "fast"
/-- the words of a side, by truth -/
def onSide (sd x : Str) : Bool := if sd = "slow" then (decide (x = "at") || decide (x = "from")) else (decide (x = "at") || decide (x = "upto"))
/-- where a look alone tells that x is led -/
def plc (sd : Str) (l : Lk) (x L : Int) : Int := if sd = "slow" then l.2.2 + (x - l.2.1) / L * L else l.2.2 - (l.2.1 - x) / L * L
def Sized (n : Nat) (l : Lk) : Prop := l.2.1.natAbs < 2 ^ n ∧ l.2.2.natAbs < 2 ^ n
theorem slow_ne : ¬ (("fast" : Str) = "slow") := by decide +kernel
theorem plc_slow (l : Lk) (x L : Int) : plc "slow" l x L = l.2.2 + (x - l.2.1) / L * L := if_pos rfl
theorem plc_fast (l : Lk) (x L : Int) : plc "fast" l x L = l.2.2 - (l.2.1 - x) / L * L := if_neg slow_ne
def tooFar (a b : Lk) (L : Int) : Bool := onSide "slow" a.1 && onSide "fast" b.1 && decide (b.2.2 < plc "slow" a b.2.1 L)
def clashB (a b : Lk) (L : Int) : Bool := tooFar a b L || tooFar b a L
/-- brought home -/
def home (L : Int) (l : Lk) : Lk := (l.1, l.2.1 - l.2.1 / L * L, l.2.2 - l.2.1 / L * L)
theorem nat_div {a L : Int} (h : 0 < L) : (a / L).natAbs ≤ a.natAbs + 1 := Nat.le_succ_of_le (Int.natAbs_ediv_le_natAbs a L)
theorem sub_lt {a b : Int} {n : Nat} (ha : a.natAbs < 2 ^ n) (hb : b.natAbs < 2 ^ n) : (a - b).natAbs < 2 ^ (n + 1) := by
  rw [Nat.pow_succ]; omega
theorem add_lt {a b : Int} {n : Nat} (ha : a.natAbs < 2 ^ n) (hb : b.natAbs < 2 ^ n) : (a + b).natAbs < 2 ^ (n + 1) := by
  rw [Nat.pow_succ]; omega
theorem div_lt {a L : Int} {n : Nat} (h : 0 < L) (ha : a.natAbs < 2 ^ n) : (a / L).natAbs < 2 ^ (n + 1) := by
  have := nat_div (a := a) h
  have h1 : 1 ≤ 2 ^ n := Nat.one_le_two_pow
  rw [Nat.pow_succ]; omega
theorem lt_up {a : Int} {m n : Nat} (ha : a.natAbs < 2 ^ m) (h : m ≤ n) : a.natAbs < 2 ^ n := Nat.lt_of_lt_of_le ha (Nat.pow_le_pow_right (by decide) h)
section
variable {K : PySem.W.Frag} {H : Hp}
theorem dp_look {v : V} {l : Lk} (h : Dp K H v (encL l)) : ∃ a, v = .ref a ∧ SqT K H a [.str l.1, .int l.2.1, .int l.2.2] := by
  have h' : Dp K H v (.tuple [.str l.1, .int l.2.1, .int l.2.2]) := h
  cases h' with
  | tup s a =>
    cases a with
    | cons a1 a =>
      cases a with
      | cons a2 a =>
        cases a with
        | cons a3 a =>
          cases a; cases a1; cases a2; cases a3
          exact ⟨_, rfl, s⟩
theorem dp_list {v : V} {ds : List PyData} (h : Dp K H v (.list ds)) : ∃ a xs, v = .ref a ∧ SqL K H a xs ∧ DpAll K H xs ds := by
  cases h with
  | lst s a => exact ⟨_, _, rfl, s, a⟩
end
theorem decl_words {x : Str} (h : WordOk x) : inV (.str x) [.str "at", .str "from"] = onSide "slow" x ∧ inV (.str x) [.str "at", .str "upto"] = onSide "fast" x ∧ inV (.str x) [.str "at", .str "from", .str "upto"] = true := by
  rcases h with e | e | e <;> subst e <;> decide +kernel
theorem yes_ite {σ : L2.St} {H : Hp} {A B : Hp → Prop} (h : A H) : tYes σ H (fun b H3 => if b = true then A H3 else B H3) := by
  show (if true = true then A H else B H)
  rw [if_pos rfl]
  exact h
/-- data without lists: tuples, numbers, texts -/
def noL : PyData → Bool
  | .list _ => false
  | .dict _ => false
  | .tuple xs => noLs xs
  | _ => true
where noLs : List PyData → Bool
  | [] => true
  | x :: xs => noL x && noLs xs
/-- tuples stand -/
def Tups (H H' : Hp) : Prop := ∀ b xs, Rd H b (.tup xs) → Rd H' b (.tup xs)
theorem Tups.of_same {H H' : Hp} (S : Same H H') : Tups H H' := fun _ _ h => DP.Same.rd S h
theorem Tups.upd_lst {H : Hp} {D : Addr} {ys : List V} {o : HO} (h : H D = some (.lst ys)) : Tups H (upd H D o) := fun b xs hb => by
  have hn : b ≠ D := by
    rintro rfl
    rcases hb with e | ⟨q, e⟩ <;> rw [h] at e <;> cases e
  rcases hb with e | ⟨q, e⟩
  · exact .inl ((upd_ne hn).trans e)
  · exact .inr ⟨q, (upd_ne hn).trans e⟩
theorem Tups.upd_ins {H : Hp} {D C dx : Addr} {fs : List (Str × V)} {o : HO} (h : H D = some (.ins C dx fs)) : Tups H (upd H D o) := fun b xs hb => by
  have hn : b ≠ D := by
    rintro rfl
    rcases hb with e | ⟨q, e⟩ <;> rw [h] at e <;> cases e
  rcases hb with e | ⟨q, e⟩
  · exact .inl ((upd_ne hn).trans e)
  · exact .inr ⟨q, (upd_ne hn).trans e⟩
theorem Tups.trans {H H1 H2 : Hp} (a : Tups H H1) (b : Tups H1 H2) : Tups H H2 := fun c xs h => b c xs (a c xs h)
section
variable {K : PySem.W.Frag} {H H' : Hp}
mutual
theorem dp_tups (S : Tups H H') : ∀ (d : PyData) (v : V), noL d = true → Dp K H v d → Dp K H' v d
  | .none, _, _, h => by cases h; exact .non
  | .bool _, _, _, h => by cases h; exact .bl _
  | .int _, _, _, h => by cases h; exact .int _
  | .str _, _, _, h => by cases h; exact .str _
  | .list _, _, n, _ => by simp [noL] at n
  | .dict _, _, n, _ => by simp [noL] at n
  | .tuple ds, _, n, h => by
    cases h with
    | tup s a =>
      refine .tup ?_ (dpAll_tups S ds _ (by simpa [noL] using n) a)
      rcases s with s | s
      · exact .inl (S _ _ s)
      · exact .inr s
theorem dpAll_tups (S : Tups H H') : ∀ (ds : List PyData) (vs : List V), noL.noLs ds = true → DpAll K H vs ds → DpAll K H' vs ds
  | [], _, _, h => by cases h; exact .nil
  | d :: ds, _, n, h => by
    rw [noL.noLs, Bool.and_eq_true] at n
    cases h with
    | cons a b => exact .cons (dp_tups S d _ n.1 a) (dpAll_tups S ds _ n.2 b)
end
theorem noLs_map {β : Type} {enc : β → PyData} (h : ∀ b, noL (enc b) = true) : ∀ bs : List β, noL.noLs (bs.map enc) = true
  | [] => rfl
  | b :: bs => by
    show noL.noLs (enc b :: bs.map enc) = true
    rw [noL.noLs, h b, noLs_map h bs]; rfl
theorem noL_encL (l : Lk) : noL (encL l) = true := rfl
/-- one more at the list that a comprehension makes -/
theorem acc_step {D : Addr} {ys : List V} {ds : List PyData} {y : V} {d : PyData} (hD : H D = some (.lst ys)) (hn : noL.noLs ds = true) (hd : noL d = true) (h : DpAll K H ys ds) (hy : Dp K H y d) :
    DpAll K (upd H D (.lst (ys ++ [y]))) (ys ++ [y]) (ds ++ [d]) :=
  dpAll_snoc (dpAll_tups (Tups.upd_lst hD) _ _ hn h) (dp_tups (Tups.upd_lst hD) _ _ hd hy)
end
theorem same_set {H : Hp} {p : Addr} {o : HO} {H1 : Hp} (S : Same H H1) (hn : H p = none) : Same H (upd H1 p o) := fun b u e => by rw [upd_ne (ne_of_none e hn)]; exact S b u e
theorem take_snoc {α : Type} : ∀ {l : List α} {i : Nat} {x : α}, l[i]? = some x → l.take (i + 1) = l.take i ++ [x]
  | [], i, x, h => by simp at h
  | a :: l, 0, x, h => by
    have e : a = x := Option.some.inj h
    subst e
    rfl
  | a :: l, i + 1, x, h => by
    have ih := take_snoc (l := l) (i := i) (x := x) h
    show a :: l.take (i + 1) = a :: l.take i ++ [x]
    rw [ih]; rfl
theorem map_at {α β : Type} {f : α → β} {l : List α} {i : Nat} {y : β} (h : (l.map f)[i]? = some y) : ∃ x, l[i]? = some x ∧ y = f x := by
  rw [List.getElem?_map] at h
  cases e : l[i]? with
  | none => rw [e] at h; cases h
  | some x => rw [e] at h; exact ⟨x, rfl, (Option.some.inj h).symm⟩
end KA
namespace KA
open PySem PySem.Spec PyProof.Rows L2 DP
/-! ### numbers in figures -/
def numT (n : Int) : Str := Str.ofString (toString n)
theorem numT_neg {n : Int} (h : n < 0) : TL.tl (numT n) = 45 :: TL.numL n.natAbs := by
  unfold numT
  rw [PyProof.Rows.toString_neg h, TL.tl_ofString, String.toList_append, List.map_append]
  have e : (0 - n : Int) = ((n.natAbs : Nat) : Int) := by omega
  rw [e, ← TL.tl_ofString (toString ((n.natAbs : Nat) : Int)), TL.tl_num]; rfl
theorem numT_pos {n : Int} (h : 0 ≤ n) : TL.tl (numT n) = TL.numL n.natAbs := by
  have e : n = ((n.natAbs : Nat) : Int) := by omega
  unfold numT
  rw [← TL.tl_num, ← e]
theorem numT_len {n : Int} (h : n.natAbs < 10 ^ 60) : (numT n).length ≤ 61 := by
  have h1 := TL.numL_len (n := n.natAbs) (k := 60) (by decide) h
  rw [TL.len_tl]
  by_cases c : n < 0
  · rw [numT_neg c, List.length_cons]; omega
  · rw [numT_pos (by omega)]; omega
theorem numT_free {n : Int} : (32 : Nat) ∉ TL.tl (numT n) := fun hm => by
  have h1 : (32 : Nat) ∉ TL.numL n.natAbs := TL.numL_free (.inl (by decide))
  by_cases c : n < 0
  · rw [numT_neg c] at hm
    rcases List.mem_cons.mp hm with e | e
    · exact absurd e (by decide)
    · exact h1 e
  · rw [numT_pos (by omega)] at hm
    exact h1 hm
theorem minus_tl : TL.tl ("-" : Str) = [45] := by rfl
theorem minus_len : ("-" : Str).length = 1 := by rfl
theorem numT_rm (n : Int) : TL.tl (Txt.removeprefix (numT n) "-") = TL.numL n.natAbs := by
  rw [PySem.StrLaws.removeprefix_eq]
  have hs : Builtin.Str.subAt (numT n) ("-" : Str) 0 = ((TL.tl (numT n)).take 1 == [45]) := by
    rw [PySem.StrLaws.subAt_eq, List.drop_zero]; rfl
  by_cases c : n < 0
  · have h0 := numT_neg c
    have hl : (numT n).length = (TL.numL n.natAbs).length + 1 := by rw [TL.len_tl, h0, List.length_cons]
    rw [if_pos (by rw [hs, h0, minus_len, hl]; simp)]
    show ((TL.tl (numT n)).drop ("-" : Str).length).take ((numT n).length - ("-" : Str).length) = _
    rw [h0, minus_len, hl, List.drop_succ_cons, List.drop_zero, Nat.add_sub_cancel, List.take_length]
  · have h0 := numT_pos (n := n) (by omega)
    rw [if_neg, h0]
    rw [hs, h0]
    obtain ⟨x, xs, e⟩ : ∃ x xs, TL.numL n.natAbs = x :: xs := by
      cases h : TL.numL n.natAbs with
      | nil => exact absurd h (TL.numL_ne _)
      | cons x xs => exact ⟨x, xs, rfl⟩
    have hx := TL.numL_digits n.natAbs x (by rw [e]; exact List.mem_cons_self)
    rw [e]
    have : x ≠ 45 := by omega
    simp [this]
theorem numT_int {n : Int} (h : n.natAbs < 10 ^ 60) : intText? (numT n) = some n := by
  have h1 := TL.numL_len (n := n.natAbs) (k := 60) (by decide) h
  by_cases c : n < 0
  · have e := intText_neg (x := numT n) (cs := TL.numL n.natAbs) (numT_neg c) (TL.numL_digits _) (TL.numL_ne _) (by have := numT_len h; omega)
    rw [e, TL.numL_val]
    congr 1
    omega
  · have e : n = ((n.natAbs : Nat) : Int) := by omega
    have e2 : numT n = Str.ofString (toString ((n.natAbs : Nat) : Int)) := by unfold numT; rw [← e]
    rw [e2, TL.int_num (by omega), ← e]
theorem log_small {n : Int} (h : n.natAbs < 10 ^ 60) : n.natAbs.log2 < 1920 := by
  by_cases c : n.natAbs = 0
  · rw [c]; decide
  · exact (Nat.log2_lt c).mpr (Nat.lt_trans h (by decide))
theorem str_assoc (a b c : Str) : a ++ b ++ c = a ++ (b ++ c) := TL.ext_tl (by rw [TL.tl_append, TL.tl_append, TL.tl_append, TL.tl_append, List.append_assoc])
theorem empty_app (a : Str) : Str.empty ++ a = a := TL.ext_tl (by rw [TL.tl_append]; rfl)
theorem neg_text {n : Int} (h : n < 0) : ("-" : Str) ++ numT (-n) = numT n := TL.ext_tl (by
  rw [TL.tl_append, minus_tl, numT_neg h, numT_pos (n := -n) (by omega), Int.natAbs_neg]; rfl)
theorem len_app (a b : Str) : (a ++ b).length = a.length + b.length := by
  rw [TL.len_tl, TL.tl_append, List.length_append, ← TL.len_tl, ← TL.len_tl]
theorem blank_tl : TL.tl (" " : Str) = 32 :: [] := by rfl
theorem blank_len : (" " : Str).length = 1 := by rfl
/-- a step, a look -/
def stepT (x y : Int) : Str := numT x ++ " " ++ numT y
def lookT (l : Lk) : Str := l.1 ++ " " ++ numT l.2.1 ++ " " ++ numT l.2.2
theorem lookT_eq (l : Lk) : lookT l = l.1 ++ " " ++ stepT l.2.1 l.2.2 := by
  unfold lookT stepT
  rw [str_assoc, str_assoc (l.1 ++ " ") (numT l.2.1), str_assoc (numT l.2.1)]
theorem step_split (x y : Int) : Txt.split (stepT x y) " " = [numT x, numT y] := by
  have h := TL.split_join (y := " ") (s := 32) (S := []) blank_tl (by decide +kernel) (parts := [numT x, numT y]) (by simp) (fun p hp => by
    rcases List.mem_cons.mp hp with e | e
    · rw [e]; exact numT_free
    · rw [List.mem_singleton.mp e]; exact numT_free)
  rw [TL.join_eq] at h
  exact h
theorem word_free {w : Str} (h : WordOk w) : (32 : Nat) ∉ TL.tl w := by
  rcases h with rfl | rfl | rfl <;> decide +kernel
theorem word_len {w : Str} (h : WordOk w) : w.length ≤ 4 := by
  rcases h with rfl | rfl | rfl <;> decide +kernel
theorem look_part {l : Lk} (h : WordOk l.1) : Txt.partition (lookT l) " " = (l.1, (" " : Str), stepT l.2.1 l.2.2) := by
  rw [lookT_eq]
  exact TL.partition_app blank_tl (word_free h)
def Small (l : Lk) : Prop := l.2.1.natAbs < 10 ^ 60 ∧ l.2.2.natAbs < 10 ^ 60
theorem stepT_len {x y : Int} (hx : x.natAbs < 10 ^ 60) (hy : y.natAbs < 10 ^ 60) : (stepT x y).length ≤ 123 := by
  unfold stepT
  rw [len_app, len_app, blank_len]
  have := numT_len hx
  have := numT_len hy
  omega
theorem lookT_len {l : Lk} (h : WordOk l.1) (hs : Small l) : (lookT l).length ≤ 128 := by
  rw [lookT_eq, len_app, len_app, blank_len]
  have := word_len h
  have := stepT_len hs.1 hs.2
  omega
theorem words_in {w : Str} (h : WordOk w) : inV (V.str w) [V.str "at", .str "from", .str "upto"] = true := by
  rcases h with rfl | rfl | rfl <;> decide +kernel
end KA
namespace KA
open PySem PySem.Spec PyProof.Rows L2 DP
/-- what stood stands, but at t and g -/
def Keep (t g : Addr) (H H' : Hp) : Prop := ∀ b o, H b = some o → b ≠ t → b ≠ g → H' b = some o
theorem Keep.refl (t g : Addr) (H : Hp) : Keep t g H H := fun _ _ h _ _ => h
theorem Keep.trans {t g : Addr} {H H1 H2 : Hp} (a : Keep t g H H1) (b : Keep t g H1 H2) : Keep t g H H2 := fun c o h x y => b c o (a c o h x y) x y
/-- the tray: at t, its great numbers at g; no more than n draws so far went by the fold -/
structure Tray (H : Hp) (t g : Addr) (n : Nat) : Prop where
  ex : ∃ (gs : List Int) (l f c : Int), H t = some (.lst [.ref g, .int l, .int f, .int c]) ∧ H g = some (.lst (gs.map V.int)) ∧ gs.length ≤ 63 ∧ (∀ x ∈ gs, 0 ≤ x) ∧ 0 ≤ l ∧ 0 ≤ f ∧ f < 2 ^ 61 ∧ 0 ≤ c ∧ c ≤ (n : Int)
  ne : t ≠ g
theorem Tray.same {H H' : Hp} {t g : Addr} {n : Nat} (T : Tray H t g n) (S : Same H H') : Tray H' t g n := by
  obtain ⟨⟨gs, l, f, c, h1, h2, r⟩, hne⟩ := T
  exact ⟨⟨gs, l, f, c, S _ _ h1, S _ _ h2, r⟩, hne⟩
theorem Keep.of_same {t g : Addr} {H H' : Hp} (S : Same H H') : Keep t g H H' := fun b o e _ _ => S b o e
def spDraw : Sp := fun vs H Q _ => ∃ (t g : Addr) (n : Nat) (m : Int), vs = [.ref t, .int m] ∧ Tray H t g n ∧ 0 < m ∧ m.natAbs < 2 ^ 1000 ∧ n < 2 ^ 60 ∧
  ∀ (H' : Hp) (r : Int), 0 ≤ r → r < m → Tray H' t g (n + 1) → Keep t g H H' → Q (.int r) H'
/-- the length of the list at g -/
def lenAt (H : Hp) (g : Addr) : Nat := match H g with | some (.lst xs) => xs.length | _ => 0
theorem lenAt_of {H : Hp} {g : Addr} {xs : List V} (h : H g = some (.lst xs)) : lenAt H g = xs.length := by unfold lenAt; rw [h]
theorem shaped_ints (ns : List Int) : SeqAt.shaped (.list (ns.map .int)) = true := by
  have h1 : ∀ ns : List Int, PyData.canLayAll0 (ns.map .int) = true := by
    intro ns
    induction ns with
    | nil => rfl
    | cons a r ih => simp [PyData.canLayAll0, PyData.canLay0, ih]
  have h2 : ∀ ns : List Int, PyData.depthAll (ns.map .int) = 0 := PySem.W.depth_ints
  unfold SeqAt.shaped
  simp [PyData.canLay0, PyData.depth, h1, h2]
theorem pow_lt {i : Int} {a n : Nat} (h : i.natAbs < 2 ^ a) (h0 : n ≠ 0) : (i ^ n).natAbs < 2 ^ (a * n) := by
  rw [Int.natAbs_pow, Nat.pow_mul]
  exact Nat.pow_lt_pow_left h h0
theorem seqIx0 {n : Nat} (h : 0 < n) : seqIndex? 0 n = some 0 := by
  unfold seqIndex?
  simp
  omega
theorem while_post {c : TT} {tb : TS} {D : Ends} {σ : L2.St} {H : Hp} (Pv : L2.St → Hp → Prop) (μ : L2.St → Hp → Nat) (Po : L2.St → Hp → Prop) (h0 : Pv σ H)
    (hs : ∀ σ H, Pv σ H → c σ H fun b H1 => if b = true then tb { D with nx := fun σ' H' => Pv σ' H' ∧ μ σ' H' < μ σ H, ct := fun σ' H' => Pv σ' H' ∧ μ σ' H' < μ σ H, bk := D.nx } σ H1 else Po σ H1)
    (hd : ∀ σ H, Po σ H → D.nx σ H) (mono : ∀ σ H Q Q', (∀ b H1, Q b H1 → Q' b H1) → c σ H Q → c σ H Q') : tWhile c tb D σ H :=
  while_by Pv μ h0 (fun σ1 H1 p => mono σ1 H1 _ _ (fun b H2 q => by
    cases b with
    | true => exact q
    | false => exact hd _ _ q) (hs σ1 H1 p)) mono
section
variable {P : Program} {w : World} {K : PySem.W.Frag} {mg : Str → Option Value} {base : Heap} {Z : Ad}
theorem ok_law_draw (T : Tx K w mg Z) : FnOk P w K mg base CX0 1 Z.a_law_draw Z.d_law_draw P_law_draw (spDraw) := by
  refine T.F_law_draw.ok sclaw_draw (fun vs H Q E h => ?_) (fun cdv A outer s H vs Q E hr h => ?_)
  · obtain ⟨t, g, n, m, rfl, _⟩ := h
    rfl
  · obtain ⟨t, g, n, m, rfl, ⟨ht, hne⟩, hm, hmb, hn, k⟩ := h
    refine ⟨_, (C8.pss_cut (ps_while PassesOwn.never (PW.pt (pw_and (pt_cmpR op_lt (pe_ix (ixL (K := K)) (pv 0) pe_int (fun _ _ => rfl)) pe_int (nomark _)) (pw_and1 (pt_cmpR (neDK (K := K) hr.units) (pe_ix (ixL (K := K)) (pv 0) pe_int (fun _ _ => rfl)) (pe_lst pa_nil) (nomark _))))) (pss_one (ps_asg (pe_bm PySem.F.plainAttrs_list PySem.F.slot_list_pop PySem.F.type_list_pop mt_popAt (pe_ix (ixL (K := K)) (pv 0) pe_int (fun _ _ => rfl)) (pa_cons pe_int pa_nil)) (pg_sub (pv 0) pe_int set_list))))
      (C8.pss_cut (ps_if (pt_cmpR op_ge (pe_ix (ixL (K := K)) (pv 0) pe_int (fun _ _ => rfl)) pe_int (nomark _)) (pss_cons (ps_set (i := 2) sclaw_draw.nd rfl (Or.inl rfl) (pe_op op_mod (pe_ix (ixL (K := K)) (pv 0) pe_int (fun _ _ => rfl)) (pv 1)))
      (pss_cons (ps_asg (pe_op op_fdivW (pe_ix (ixL (K := K)) (pv 0) pe_int (fun _ _ => rfl)) (pv 1)) (pg_sub (pv 0) pe_int set_list))
      (pss_one (ps_ret (pv 2))))) pss_nil)
      (pss_cons (ps_asg (pe_op op_add (pe_ix (ixL (K := K)) (pv 0) pe_int (fun _ _ => rfl)) pe_int) (pg_sub (pv 0) pe_int set_list))
      (pss_cons (ps_set (i := 3) sclaw_draw.nd rfl (Or.inl rfl) (pe_op op_mod (pe_op op_add (pe_op op_mulW (pe_op op_add (pe_ix (ixL (K := K)) (pv 0) pe_int (fun _ _ => rfl)) pe_int) (pe_op op_pow (pe_op op_add (pe_ix (ixL (K := K)) (pv 0) pe_int (fun _ _ => rfl)) pe_int) pe_int)) (pe_op op_mulW pe_int (pe_ix (ixL (K := K)) (pv 0) pe_int (fun _ _ => rfl)))) (pe_op op_sub (pe_op op_pow pe_int pe_int) pe_int)))
      (pss_one (ps_ret (pe_op op_mod (pe_op op_fdivW (pe_op op_mod (pe_op op_pow (pv 3) pe_int) (pe_op op_add (pe_op op_pow pe_int pe_int) pe_int)) pe_int) (pv 1)))))))), ?_⟩
    -- while tray[1] < 2 and tray[0] != []
    refine ⟨fun σ' H' => σ' = [some (.ref t), some (.int m), none, none] ∧ Tray H' t g n ∧ Keep t g H H', ?_, ?_⟩
    · refine while_post (fun σ' H' => σ' = [some (.ref t), some (.int m), none, none] ∧ Tray H' t g n ∧ Keep t g H H') (fun _ H' => lenAt H' g) (fun σ' H' => σ' = [some (.ref t), some (.int m), none, none] ∧ Tray H' t g n ∧ Keep t g H H') ⟨rfl, ⟨ht, hne⟩, Keep.refl _ _ _⟩ ?_ (fun _ _ q => q) ?_
      · rintro σ1 H1 ⟨rfl, ⟨⟨gs, l, f, c, h1, h2, hl, hge, hl0, hf0, hf1, hc0, hc1⟩, _⟩, kp⟩
        refine ⟨_, rfl, _, _, _, _, rfl, rfl, SqL.of h1, rfl, _, _, rfl, rfl, _, rfl, ?_⟩
        refine ite2 (fun hlt => ?_) (fun hnl => ?_)
        · refine ⟨_, rfl, _, _, _, _, rfl, rfl, SqL.of h1, rfl, (by show 0 ≤ sizeLine; decide), fun p hp => ?_⟩
          have g2 : (upd H1 p (.lst [])) g = some (.lst (gs.map V.int)) := (upd_ne (ne_of_none h2 hp)).trans h2
          have g1 : (upd H1 p (.lst [])) t = some (.lst [.ref g, .int l, .int f, .int c]) := (upd_ne (ne_of_none h1 hp)).trans h1
          have kp1 : Keep t g H (upd H1 p (.lst [])) := fun b o e n1 n2 => (upd_ne (ne_of_none (kp b o e n1 n2) hp)).trans (kp b o e n1 n2)
          refine ⟨_, _, .lst (SqL.of g2) (dpAll_ints gs), .lst (SqL.of upd_same) .nil, shaped_ints gs, rfl, _, rfl, ?_⟩
          cases gs with
          | nil => exact iteF ⟨rfl, ⟨⟨[], l, f, c, g1, g2, hl, hge, hl0, hf0, hf1, hc0, hc1⟩, hne⟩, kp1⟩
          | cons y ys =>
            refine iteT ?_
            -- tray[1] = tray[0].pop(0)
            refine ⟨_, rfl, _, _, _, _, rfl, rfl, SqL.of g1, rfl, .inl ⟨rfl, _, SqL.of g2⟩, _, _, _, 0, _, rfl, rfl, g2, by decide, by decide, seqIx0 (by simp), rfl, ?_⟩
            refine ⟨_, rfl, _, _, _, 1, rfl, rfl, (upd_ne hne).trans g1, rfl, ?_⟩
            refine ⟨⟨rfl, ⟨⟨ys, y, f, c, upd_same, (upd_ne (Ne.symm hne)).trans upd_same, ?_, ?_, ?_, hf0, hf1, hc0, hc1⟩, hne⟩, ?_⟩, ?_⟩
            · simp at hl; omega
            · exact fun x hx => hge x (List.mem_cons_of_mem _ hx)
            · exact hge y List.mem_cons_self
            · exact fun b o e n1 n2 => (upd_ne n1).trans ((upd_ne n2).trans (kp1 b o e n1 n2))
            · rw [lenAt_of ((upd_ne (Ne.symm hne)).trans upd_same), lenAt_of h2]
              simp
        · exact iteF ⟨rfl, ⟨⟨gs, l, f, c, h1, h2, hl, hge, hl0, hf0, hf1, hc0, hc1⟩, hne⟩, kp⟩
      · intro σ1 H1 Q1 Q2 hQ hc
        obtain ⟨v, hv, p, xs, i, x, e1, e2, hs, ha, i1, j1, e3, e4, k1, ek, hif⟩ := hc
        refine ⟨v, hv, p, xs, i, x, e1, e2, hs, ha, i1, j1, e3, e4, k1, ek, ?_⟩
        cases k1 with
        | false => exact hQ _ _ hif
        | true =>
          obtain ⟨v, hv, p, xs, i, x, e1, e2, hs, ha, hz, hp⟩ := hif
          refine ⟨v, hv, p, xs, i, x, e1, e2, hs, ha, hz, fun p' np => ?_⟩
          obtain ⟨d, e, d1, d2, s1, s2, b, eb, q⟩ := hp p' np
          exact ⟨d, e, d1, d2, s1, s2, b, eb, hQ _ _ q⟩
    · rintro σ1 H1 ⟨rfl, ⟨⟨gs, l, f, c, h1, h2, hl, hge, hl0, hf0, hf1, hc0, hc1⟩, _⟩, kp⟩
      refine ⟨fun σ' H' => σ' = [some (.ref t), some (.int m), none, none] ∧ H' = H1, ?_, ?_⟩
      · refine ⟨_, rfl, _, _, _, _, rfl, rfl, SqL.of h1, rfl, _, _, rfl, rfl, _, rfl, ?_⟩
        refine ite2 (fun hge2 => ?_) (fun _ => ⟨rfl, rfl⟩)
        refine ⟨_, rfl, _, _, _, _, rfl, rfl, SqL.of h1, rfl, _, rfl, _, _, rfl, rfl, hm, ?_⟩
        refine ⟨_, rfl, _, _, _, _, rfl, rfl, SqL.of h1, rfl, _, rfl, _, _, rfl, rfl, wide_div hm hmb (by decide) (by decide), _, rfl, _, _, _, 1, rfl, rfl, h1, rfl, _, rfl, ?_⟩
        refine k _ _ (Int.emod_nonneg _ (by omega)) (Int.emod_lt_of_pos _ hm) ⟨⟨gs, l / m, f, c, upd_same, (upd_ne (Ne.symm hne)).trans h2, hl, hge, Int.ediv_nonneg hl0 (by omega), hf0, hf1, hc0, by push_cast; omega⟩, hne⟩ fun b o e n1 n2 => (upd_ne n1).trans (kp b o e n1 n2)
      · rintro σ2 H2 ⟨rfl, rfl⟩
        refine ⟨_, rfl, _, _, _, _, rfl, rfl, SqL.of h1, rfl, _, _, rfl, rfl, _, rfl, _, _, _, 3, rfl, rfl, h1, rfl, ?_⟩
        have g1 : (upd H2 t (.lst (List.set [.ref g, .int l, .int f, .int c] 3 (.int (c + 1))))) t = some (.lst [.ref g, .int l, .int f, .int (c + 1)]) := upd_same
        have bf : (f + 5).natAbs < 2 ^ 63 := by omega
        have bc : (c + 1 + 2).natAbs < 2 ^ 61 := by omega
        have b3 : ((c + 1 + 2) ^ (3 : Int).toNat).natAbs < 2 ^ (61 * 3) := pow_lt bc (by decide)
        refine ⟨_, rfl, _, _, _, _, rfl, rfl, SqL.of g1, rfl, _, _, rfl, rfl, _, rfl, _, _, _, _, rfl, rfl, SqL.of g1, rfl, _, _, rfl, rfl, _, _, rfl, rfl, ⟨by decide, by decide, Nat.lt_trans bc (by decide)⟩, _, _, rfl, rfl, wide_mul bf b3 (by decide) (by decide) (by decide), ?_⟩
        refine ⟨_, rfl, _, _, _, _, rfl, rfl, SqL.of g1, rfl, _, _, rfl, rfl, wide_mul (a := 30) (b := 61) (by decide) (by omega) (by decide) (by decide) (by decide), _, _, rfl, rfl, ?_⟩
        refine ⟨_, _, rfl, rfl, ⟨by decide, by decide, by decide⟩, _, _, rfl, rfl, _, _, rfl, rfl, (by show (0 : Int) < _; decide), ?_⟩
        have hx0 := Int.emod_nonneg ((f + 5) * (c + 1 + 2) ^ (3 : Int).toNat + 1000003 * (c + 1)) (show (2 : Int) ^ (61 : Int).toNat - 1 ≠ 0 by decide)
        have hx1 := Int.emod_lt_of_pos ((f + 5) * (c + 1 + 2) ^ (3 : Int).toNat + 1000003 * (c + 1)) (show (0 : Int) < (2 : Int) ^ (61 : Int).toNat - 1 by decide)
        have e61 : (2 : Int) ^ (61 : Int).toNat - 1 = 2305843009213693951 := by decide
        rw [e61] at hx0 hx1
        refine ⟨_, rfl, _, _, rfl, rfl, ⟨by decide, by decide, ?_⟩, _, _, rfl, rfl, ⟨by decide, by decide, by decide⟩, _, _, rfl, rfl, _, _, rfl, rfl, (by show (0 : Int) < _; decide), _, _, rfl, rfl, wide_div (b := 10) (by decide) (by decide) (by decide) (by decide), _, rfl, _, _, rfl, rfl, hm, ?_⟩
        · show (((f + 5) * (c + 1 + 2) ^ (3 : Int).toNat + 1000003 * (c + 1)) % ((2 : Int) ^ (61 : Int).toNat - 1)).natAbs < 2 ^ 64
          rw [e61]
          omega
        · refine k _ _ (Int.emod_nonneg _ (by omega)) (Int.emod_lt_of_pos _ hm) ⟨⟨gs, l, f, c + 1, g1, (upd_ne (Ne.symm hne)).trans h2, hl, hge, hl0, hf0, hf1, by omega, by push_cast; omega⟩, hne⟩ fun b o e n1 n2 => (upd_ne n1).trans (kp b o e n1 n2)
end
end KA
namespace KA
open PySem PySem.Spec PyProof.Rows L2 DP
def spPlace (K : PySem.W.Frag) : Sp := fun vs H Q _ => ∃ (v : V) (l : Lk) (sd : Str) (x L : Int), vs = [v, .str sd, .int x, .int L] ∧ Dp K H v (encL l) ∧ SideOk sd ∧ 0 < L ∧ L.natAbs < 2 ^ 200 ∧ x.natAbs < 2 ^ 400 ∧ Sized 400 l ∧ Q (.int (plc sd l x L)) H
def spFar (K : PySem.W.Frag) (f : Lk → Lk → Int → Bool) : Sp := fun vs H Q _ => ∃ (v u : V) (a b : Lk) (L : Int), vs = [v, u, .int L] ∧ Dp K H v (encL a) ∧ Dp K H u (encL b) ∧ WordOk a.1 ∧ WordOk b.1 ∧ 0 < L ∧ L.natAbs < 2 ^ 200 ∧ Sized 400 a ∧ Sized 400 b ∧ Q (.bl (f a b L)) H
section
variable {P : Program} {w : World} {K : PySem.W.Frag} {mg : Str → Option Value} {base : Heap} {Z : Ad}
theorem ok_place_by (T : Tx K w mg Z) : FnOk P w K mg base CX0 1 Z.a_place_by Z.d_place_by P_place_by (spPlace K) := by
  refine T.F_place_by.ok scplace_by (fun vs H Q E h => ?_) (fun cdv A outer s H vs Q E hr h => ?_)
  · obtain ⟨v, l, sd, x, L, rfl, _⟩ := h
    rfl
  · obtain ⟨v, l, sd, x, L, rfl, hv, hsd, hL, hLb, hx, hl, k⟩ := h
    obtain ⟨a, rfl, ha⟩ := dp_look hv
    refine ⟨_, (pss_cons (ps_asg (pv 0) (tupK (K := K) (by rfl) (pgs_cons (pg_name (i := 4) scplace_by.nd rfl (Or.inl rfl)) (pgs_cons (pg_name (i := 5) scplace_by.nd rfl (Or.inl rfl)) (pgs_cons (pg_name (i := 6) scplace_by.nd rfl (Or.inl rfl)) pgs_nil)))))
      (C8.pss_cut (ps_if (pt_cmpR op_eq (pv 1) (pe_glob rfl T.g_SLOW T.r_SLOW) (nomark _)) (pss_one (ps_ret (pe_op op_add (pv 6) (pe_op op_mulW (pe_op op_fdivW (pe_op op_sub (pv 2) (pv 5)) (pv 3)) (pv 3))))) pss_nil)
      (pss_one (ps_ret (pe_op op_sub (pv 6) (pe_op op_mulW (pe_op op_fdivW (pe_op op_sub (pv 5) (pv 2)) (pv 3)) (pv 3))))))), ?_⟩
    refine ⟨_, rfl, _, _, rfl, ha, rfl, _, _, rfl, _, _, rfl, _, _, rfl, rfl, ?_⟩
    have e1 : (x - l.2.1).natAbs < 2 ^ 401 := sub_lt hx hl.1
    have e2 : (l.2.1 - x).natAbs < 2 ^ 401 := sub_lt hl.1 hx
    rcases hsd with e | e
    · subst e
      rw [plc_slow] at k
      refine ⟨fun _ _ => False, ⟨_, rfl, rfl, _, rfl, iteT ⟨_, rfl, _, rfl, _, rfl, _, _, rfl, rfl, _, rfl, _, _, rfl, rfl, wide_div hL hLb (by decide) (by decide), _, rfl, _, _, rfl, rfl, wide_mul (div_lt hL e1) hLb (by decide) (by decide) (by decide), _, _, rfl, rfl, k⟩⟩, fun _ _ z => z.elim⟩
    · subst e
      rw [plc_fast] at k
      refine ⟨fun σ' H' => σ' = [some (.ref a), some (.str "fast"), some (.int x), some (.int L), some (.str l.1), some (.int l.2.1), some (.int l.2.2)] ∧ H' = H, ⟨_, rfl, rfl, _, rfl, ?_⟩, ?_⟩
      · have e3 : decide (V.str "fast" = V.str "slow") = false := by decide +kernel
        rw [e3]
        exact iteF ⟨rfl, rfl⟩
      · rintro σ1 H1 ⟨rfl, rfl⟩
        exact ⟨_, rfl, _, rfl, _, rfl, _, _, rfl, rfl, _, rfl, _, _, rfl, rfl, wide_div hL hLb (by decide) (by decide), _, rfl, _, _, rfl, rfl, wide_mul (div_lt hL e2) hLb (by decide) (by decide) (by decide), _, _, rfl, rfl, k⟩
theorem ok_too_far (T : Tx K w mg Z) : FnOk P w K mg base CX0 2 Z.a_too_far Z.d_too_far P_too_far (spFar K tooFar) := by
  refine T.F_too_far.ok sctoo_far (fun vs H Q E h => ?_) (fun cdv A outer s H vs Q E hr h => ?_)
  · obtain ⟨v, u, a, b, L, rfl, _⟩ := h
    rfl
  · obtain ⟨v, u, a, b, L, rfl, hv, hu, wa, wb, hL, hLb, sa, sb, k⟩ := h
    obtain ⟨p, rfl, hp⟩ := dp_look hv
    obtain ⟨q, rfl, hq⟩ := dp_look hu
    obtain ⟨es, n, DW⟩ := T.kd_WORDS
    obtain ⟨da1, da2, _⟩ := decl_words wa
    obtain ⟨db1, db2, _⟩ := decl_words wb
    refine ⟨_, (C8.pss_cut (ps_if (PW.pt (pw_or (pt_cmpR (notInS (K := K)) (pe_ix (ixT (K := K)) (pv 0) pe_int (fun _ _ => rfl)) (pe_ix (ix_kd DW) (pe_glob (v := .ref Z.a_WORDS) rfl T.g_WORDS rfl) (pe_glob rfl T.g_SLOW T.r_SLOW) (fun _ _ => rfl)) (by rfl)) (pw_or1 (pt_cmpR (notInS (K := K)) (pe_ix (ixT (K := K)) (pv 1) pe_int (fun _ _ => rfl)) (pe_ix (ix_kd DW) (pe_glob (v := .ref Z.a_WORDS) rfl T.g_WORDS rfl) (pe_glob rfl T.g_FAST T.r_FAST) (fun _ _ => rfl)) (by rfl))))) (pss_one (ps_ret pe_bl)) pss_nil)
      (pss_one (ps_ret (pe_cmpR op_gt (pe_call (ok_place_by T) (hr.mono (by decide)) (by rfl) T.g_place_by T.F_place_by.kp T.bb_place_by .nil pass0 (pa_cons (pv 0) (pa_cons (pe_glob rfl T.g_SLOW T.r_SLOW) (pa_cons (pe_ix (ixT (K := K)) (pv 1) pe_int (fun _ _ => rfl)) (pa_cons (pv 2) pa_nil))))) (pe_ix (ixT (K := K)) (pv 1) pe_int (fun _ _ => rfl)) (nomark _))))), ?_⟩
    unfold tooFar at k
    refine ⟨fun σ' H' => σ' = [some (.ref p), some (.ref q), some (.int L)] ∧ H' = H ∧ onSide "slow" a.1 = true ∧ onSide "fast" b.1 = true, ?_, ?_⟩
    · refine ⟨_, rfl, _, _, _, _, rfl, rfl, hp, rfl, _, _, .ref Z.t_slow, rfl, rfl, T.w_slow, rfl, _, _, rfl, .inr (T.q_slow _), rfl, rfl, _, rfl, ?_⟩
      cases c1 : onSide "slow" a.1 with
      | false =>
        rw [c1] at da1 k
        have : (if true = true then !inV (V.str a.1) [V.str "at", V.str "from"] else inV (V.str a.1) [V.str "at", V.str "from"]) = true := by rw [if_pos rfl, da1]; rfl
        rw [this]
        exact iteT (iteT k)
      | true =>
        rw [c1] at da1
        have : (if true = true then !inV (V.str a.1) [V.str "at", V.str "from"] else inV (V.str a.1) [V.str "at", V.str "from"]) = false := by rw [if_pos rfl, da1]; rfl
        rw [this]
        refine iteF ⟨_, rfl, _, _, _, _, rfl, rfl, hq, rfl, _, _, .ref Z.t_fast, rfl, rfl, T.w_fast, rfl, _, _, rfl, .inr (T.q_fast _), rfl, rfl, _, rfl, ?_⟩
        cases c2 : onSide "fast" b.1 with
        | false =>
          rw [c2] at db2
          rw [c1, c2] at k
          have : (if true = true then !inV (V.str b.1) [V.str "at", V.str "upto"] else inV (V.str b.1) [V.str "at", V.str "upto"]) = true := by rw [if_pos rfl, db2]; rfl
          rw [this]
          exact iteT k
        | true =>
          rw [c2] at db2
          have : (if true = true then !inV (V.str b.1) [V.str "at", V.str "upto"] else inV (V.str b.1) [V.str "at", V.str "upto"]) = false := by rw [if_pos rfl, db2]; rfl
          rw [this]
          exact iteF ⟨rfl, rfl, rfl, rfl⟩
    · rintro σ1 H1 ⟨rfl, rfl, c1, c2⟩
      rw [c1, c2] at k
      refine ⟨_, rfl, _, rfl, _, _, _, _, rfl, rfl, hq, rfl, _, rfl, ?_⟩
      exact ⟨_, a, "slow", b.2.1, L, rfl, hv, .inl rfl, hL, hLb, sb.1, sa, _, rfl, _, _, _, _, rfl, rfl, hq, rfl, _, _, rfl, rfl, k⟩
theorem ok_clash (T : Tx K w mg Z) : FnOk P w K mg base CX0 3 Z.a_clash Z.d_clash P_clash (spFar K clashB) := by
  refine T.F_clash.ok scclash (fun vs H Q E h => ?_) (fun cdv A outer s H vs Q E hr h => ?_)
  · obtain ⟨v, u, a, b, L, rfl, _⟩ := h
    rfl
  · obtain ⟨v, u, a, b, L, rfl, hv, hu, wa, wb, hL, hLb, sa, sb, k⟩ := h
    refine ⟨_, (pss_one (ps_ret (pe_or (pe_call (ok_too_far T) (hr.mono (by decide)) (by rfl) T.g_too_far T.F_too_far.kp T.bb_too_far .nil pass0 (pa_cons (pv 0) (pa_cons (pv 1) (pa_cons (pv 2) pa_nil)))) (pe_one (pe_call (ok_too_far T) (hr.mono (by decide)) (by rfl) T.g_too_far T.F_too_far.kp T.bb_too_far .nil pass0 (pa_cons (pv 1) (pa_cons (pv 0) (pa_cons (pv 2) pa_nil)))))))), ?_⟩
    unfold clashB at k
    refine ⟨_, rfl, _, rfl, _, rfl, v, u, a, b, L, rfl, hv, hu, wa, wb, hL, hLb, sa, sb, _, rfl, ?_⟩
    cases c : tooFar a b L with
    | true => rw [c] at k; exact iteT k
    | false =>
      rw [c] at k
      exact iteF ⟨_, rfl, _, rfl, _, rfl, u, v, b, a, L, rfl, hu, hv, wb, wa, hL, hLb, sb, sa, k⟩
end
end KA
namespace KA
open PySem PySem.Spec PyProof.Rows L2 DP
def sideOf (sd : Str) (ls : List Lk) : List Lk := ls.filter fun l => onSide sd l.1
def spSide (K : PySem.W.Frag) : Sp := fun vs H Q _ => ∃ (v : V) (ls : List Lk) (sd : Str), vs = [v, .str sd] ∧ Dp K H v (.list (ls.map encL)) ∧ SideOk sd ∧ (∀ l ∈ ls, WordOk l.1) ∧ ls.length ≤ 1000 ∧
  ∀ H' r, Same H H' → Dp K H' r (.list ((sideOf sd ls).map encL)) → Q r H'
/-- a step: where, by which look -/
def encS (sd : Str) (x L : Int) (l : Lk) : PyData := .tuple [.int (plc sd l x L), encL l]
/-- the best step's place -/
def IsBest (sd : Str) (ls : List Lk) (x L m : Int) : Prop := (∃ l ∈ ls, plc sd l x L = m) ∧ ∀ l ∈ ls, if sd = "slow" then plc sd l x L ≤ m else m ≤ plc sd l x L
def spBest (K : PySem.W.Frag) : Sp := fun vs H Q _ => ∃ (v : V) (ls : List Lk) (sd : Str) (x L : Int), vs = [v, .str sd, .int x, .int L] ∧ Dp K H v (.list (ls.map encL)) ∧ SideOk sd ∧ (∀ l ∈ ls, WordOk l.1 ∧ Sized 400 l) ∧ ls.length ≤ 1000 ∧ 0 < L ∧ L.natAbs < 2 ^ 200 ∧ x.natAbs < 2 ^ 400 ∧
  (ls = [] → Q .non H) ∧ ∀ H' r l, l ∈ ls → Same H H' → IsBest sd ls x L (plc sd l x L) → Dp K H' r (encS sd x L l) → Q r H'
/-! ### the best step -/
theorem alike_step (sd : Str) (x L : Int) (a b : Lk) : PySem.W.alike (encS sd x L a) (encS sd x L b) = true := by simp [encS, encL, PySem.W.alike, PySem.W.alikeAll]
theorem steps_alike (sd : Str) (x L : Int) (ls : List Lk) : PySem.W.AlikeAll (ls.map (encS sd x L)) := by
  refine ⟨fun a ha b hb => ?_, fun a ha => ?_⟩
  · obtain ⟨p, _, rfl⟩ := List.mem_map.mp ha
    obtain ⟨q, _, rfl⟩ := List.mem_map.mp hb
    exact alike_step _ _ _ _ _
  · obtain ⟨p, _, rfl⟩ := List.mem_map.mp ha
    exact fun e => by cases e
theorem lay_look {l : Lk} (h : WordOk l.1) : (encL l).canLay0 = true := by
  obtain ⟨a, b, c⟩ := l
  have h : WordOk a := h
  rcases h with e | e | e <;> subst e <;> simp [encL, PyData.canLay0, PyData.canLayAll0] <;> decide +kernel
theorem steps_lay (sd : Str) (x L : Int) : ∀ ls : List Lk, (∀ l ∈ ls, WordOk l.1) → PyData.canLayAll0 (ls.map (encS sd x L)) = true
  | [], _ => rfl
  | l :: ls, h => by
    have h1 := lay_look (h l List.mem_cons_self)
    have h2 := steps_lay sd x L ls fun q hq => h q (List.mem_cons_of_mem _ hq)
    show PyData.canLayAll0 (encS sd x L l :: ls.map (encS sd x L)) = true
    simp [PyData.canLayAll0, h2, encS, PyData.canLay0, h1]
theorem steps_depth (sd : Str) (x L : Int) : ∀ ls : List Lk, PyData.depthAll (ls.map (encS sd x L)) ≤ 60
  | [] => by simp [PyData.depthAll]
  | l :: ls => by
    have h2 := steps_depth sd x L ls
    show PyData.depthAll (encS sd x L l :: ls.map (encS sd x L)) ≤ 60
    have h3 : (encS sd x L l).depth = 2 := by simp [encS, encL, PyData.depth, PyData.depthAll]
    rw [PyData.depthAll, h3]
    omega
/-- a greater place is a greater step -/
theorem lt_step {sd : Str} {x L : Int} {a b : Lk} (h : plc sd a x L < plc sd b x L) : PySem.W.dataLt (encS sd x L a) (encS sd x L b) = true := by
  unfold encS
  rw [PySem.W.dataLt_tuple, PySem.W.dataLt_cons (by simp [PySem.W.alike])]
  have e : PyData.eqv (.int (plc sd a x L)) (.int (plc sd b x L)) = false := by simp [PyData.eqv]; omega
  rw [e, if_neg Bool.false_ne_true, PySem.W.dataLt_int]
  exact decide_eq_true h
theorem le_step {sd : Str} {x L : Int} {a b : Lk} (h : PySem.W.dataLt (encS sd x L a) (encS sd x L b) = true) : plc sd a x L ≤ plc sd b x L := by
  unfold encS at h
  rw [PySem.W.dataLt_tuple, PySem.W.dataLt_cons (by simp [PySem.W.alike])] at h
  by_cases e : plc sd a x L = plc sd b x L
  · omega
  · have e' : PyData.eqv (.int (plc sd a x L)) (.int (plc sd b x L)) = false := by simp [PyData.eqv]; omega
    rw [e', if_neg Bool.false_ne_true, PySem.W.dataLt_int] at h
    have := of_decide_eq_true h
    omega
theorem max_go (x L : Int) : ∀ (ls : List Lk) (l : Lk), ∃ q, (q = l ∨ q ∈ ls) ∧ (ls.map (encS "slow" x L)).foldl (fun a y => if PySem.W.dataLt a y then y else a) (encS "slow" x L l) = encS "slow" x L q ∧ plc "slow" l x L ≤ plc "slow" q x L ∧ ∀ p ∈ ls, plc "slow" p x L ≤ plc "slow" q x L
  | [], l => ⟨l, .inl rfl, rfl, Int.le_refl _, fun _ h => by cases h⟩
  | y :: ls, l => by
    rw [List.map_cons, List.foldl_cons]
    cases c : PySem.W.dataLt (encS "slow" x L l) (encS "slow" x L y) with
    | true =>
      rw [if_pos rfl]
      obtain ⟨q, hq, e, h1, h2⟩ := max_go x L ls y
      have := le_step c
      refine ⟨q, ?_, e, by omega, fun p hp => ?_⟩
      · rcases hq with e | e
        · subst e; exact .inr List.mem_cons_self
        · exact .inr (List.mem_cons_of_mem _ e)
      · rcases List.mem_cons.mp hp with e | e
        · subst e; exact h1
        · exact h2 p e
    | false =>
      rw [if_neg Bool.false_ne_true]
      obtain ⟨q, hq, e, h1, h2⟩ := max_go x L ls l
      refine ⟨q, ?_, e, h1, fun p hp => ?_⟩
      · rcases hq with e | e
        · exact .inl e
        · exact .inr (List.mem_cons_of_mem _ e)
      · rcases List.mem_cons.mp hp with e | e
        · subst e
          by_cases hlt : plc "slow" l x L < plc "slow" p x L
          · rw [lt_step hlt] at c; cases c
          · omega
        · exact h2 p e
theorem max_step (x L : Int) (l : Lk) (ls : List Lk) : ∃ q, q ∈ l :: ls ∧ PySem.W.maxD (encS "slow" x L l) (ls.map (encS "slow" x L)) = encS "slow" x L q ∧ IsBest "slow" (l :: ls) x L (plc "slow" q x L) := by
  obtain ⟨q, hq, e, h1, h2⟩ := max_go x L ls l
  have hm : q ∈ l :: ls := by
    rcases hq with e | e
    · subst e; exact List.mem_cons_self
    · exact List.mem_cons_of_mem _ e
  refine ⟨q, hm, e, ⟨q, hm, rfl⟩, fun p hp => ?_⟩
  rw [if_pos rfl]
  rcases List.mem_cons.mp hp with e | e
  · subst e; exact h1
  · exact h2 p e
theorem min_go (x L : Int) : ∀ (ls : List Lk) (l : Lk), ∃ q, (q = l ∨ q ∈ ls) ∧ (ls.map (encS "fast" x L)).foldl (fun a y => if PySem.W.dataLt y a then y else a) (encS "fast" x L l) = encS "fast" x L q ∧ plc "fast" q x L ≤ plc "fast" l x L ∧ ∀ p ∈ ls, plc "fast" q x L ≤ plc "fast" p x L
  | [], l => ⟨l, .inl rfl, rfl, Int.le_refl _, fun _ h => by cases h⟩
  | y :: ls, l => by
    rw [List.map_cons, List.foldl_cons]
    cases c : PySem.W.dataLt (encS "fast" x L y) (encS "fast" x L l) with
    | true =>
      rw [if_pos rfl]
      obtain ⟨q, hq, e, h1, h2⟩ := min_go x L ls y
      have := le_step c
      refine ⟨q, ?_, e, by omega, fun p hp => ?_⟩
      · rcases hq with e | e
        · subst e; exact .inr List.mem_cons_self
        · exact .inr (List.mem_cons_of_mem _ e)
      · rcases List.mem_cons.mp hp with e | e
        · subst e; exact h1
        · exact h2 p e
    | false =>
      rw [if_neg Bool.false_ne_true]
      obtain ⟨q, hq, e, h1, h2⟩ := min_go x L ls l
      refine ⟨q, ?_, e, h1, fun p hp => ?_⟩
      · rcases hq with e | e
        · exact .inl e
        · exact .inr (List.mem_cons_of_mem _ e)
      · rcases List.mem_cons.mp hp with e | e
        · subst e
          by_cases hlt : plc "fast" p x L < plc "fast" l x L
          · rw [lt_step hlt] at c; cases c
          · omega
        · exact h2 p e
theorem min_step (x L : Int) (l : Lk) (ls : List Lk) : ∃ q, q ∈ l :: ls ∧ PySem.W.minD (encS "fast" x L l) (ls.map (encS "fast" x L)) = encS "fast" x L q ∧ IsBest "fast" (l :: ls) x L (plc "fast" q x L) := by
  obtain ⟨q, hq, e, h1, h2⟩ := min_go x L ls l
  have hm : q ∈ l :: ls := by
    rcases hq with e | e
    · subst e; exact List.mem_cons_self
    · exact List.mem_cons_of_mem _ e
  refine ⟨q, hm, e, ⟨q, hm, rfl⟩, fun p hp => ?_⟩
  rw [if_neg slow_ne]
  rcases List.mem_cons.mp hp with e | e
  · subst e; exact h1
  · exact h2 p e
section
variable {P : Program} {w : World} {K : PySem.W.Frag} {mg : Str → Option Value} {base : Heap} {Z : Ad}
theorem words_side {sd x : Str} (hs : SideOk sd) (hx : WordOk x) : inV (.str x) (if sd = "slow" then [.str "at", .str "from"] else [.str "at", .str "upto"]) = onSide sd x := by
  obtain ⟨h1, h2, _⟩ := decl_words hx
  rcases hs with e | e
  · subst e; rw [if_pos rfl]; exact h1
  · subst e; rw [if_neg slow_ne]; exact h2
theorem ok_side_looks (T : Tx K w mg Z) : FnOk P w K mg base CX0 1 Z.a_side_looks Z.d_side_looks P_side_looks (spSide K) := by
  refine T.F_side_looks.ok scside_looks (fun vs H Q E h => ?_) (fun cdv A outer s H vs Q E hr h => ?_)
  · obtain ⟨v, ls, sd, rfl, _⟩ := h
    rfl
  · obtain ⟨v, ls, sd, rfl, hv, hsd, hw, hlen, k⟩ := h
    obtain ⟨a, xs, rfl, ha, hd⟩ := dp_list hv
    obtain ⟨es, n, DW⟩ := T.kd_WORDS
    have hxl : xs.length = ls.length := by rw [dpAll_len hd, List.length_map]
    obtain ⟨tw, htw, hqw⟩ : ∃ tw, PySem.W.nsIn K Z.a_WORDS sd = some (some (.ref tw)) ∧ ∀ H, SqT K H tw (if sd = "slow" then [.str "at", .str "from"] else [.str "at", .str "upto"]) := by
      rcases hsd with e | e
      · subst e; exact ⟨_, T.w_slow, fun H => by rw [if_pos rfl]; exact T.q_slow H⟩
      · subst e; exact ⟨_, T.w_fast, fun H => by rw [if_neg slow_ne]; exact T.q_fast H⟩
    refine ⟨_, (pss_cons (ps_set (i := 2) scside_looks.nd rfl (Or.inr rfl) (pe_ix (ix_kd DW) (pe_glob (v := .ref Z.a_WORDS) rfl T.g_WORDS rfl) (pv 1) (fun _ _ => rfl)))
      (pss_one (ps_ret (pe_lc (own := [("look", 3)]) (g := gName 3) (tt := _) rfl scside_looks.nd (pi_list (pv 0)) (blkOk_by (own := [("look", 3)]) (N := N_side_looks) (sc := defScope sside_looks) (by decide +kernel)) (fun _ _ _ _ _ => (pg_name (i := 3) scside_looks.nd rfl (Or.inl rfl))) (fun _ _ _ _ _ => (pts_one (pt_cmpR (inS (K := K)) (pe_ix (ixT (K := K)) (pv 3) pe_int (fun _ _ => rfl)) (pv 2) (by rfl)))) (fun _ _ _ _ _ => (pv 3)))))), ?_⟩
    refine ⟨_, rfl, sd, _, .ref tw, rfl, rfl, htw, rfl, _, rfl, a, rfl, ⟨_, ha⟩, fun D hD => ?_⟩
    refine lc_list (K := K) (a := a) (xs := xs) (fun i H' => Same H H' ∧ ∃ ys, H' D = some (.lst ys) ∧ ys.length ≤ i ∧ DpAll K H' ys ((sideOf sd (ls.take i)).map encL)) ⟨same_upd hD, [], upd_same, Nat.le_refl _, .nil⟩ (fun i H' _ ⟨S, _⟩ => Same.sqL S ha) ?_ ?_
    · rintro i y H' hi ⟨S, ys, hD', hyl, hds⟩
      obtain ⟨d, hdi, hdy⟩ := dpAll_get hd hi
      obtain ⟨l, hl, rfl⟩ := map_at hdi
      have hwl := hw l (List.mem_of_getElem? hl)
      have hdy' := dp_mono S _ _ hdy
      obtain ⟨p, rfl, hp⟩ := dp_look hdy'
      refine ⟨rfl, _, rfl, _, _, _, _, rfl, rfl, hp, rfl, _, rfl, _, _, rfl, .inr (hqw _), rfl, ?_, _, rfl, ?_⟩
      · split <;> rfl
      · have e1 : (if false = true then !inV (V.str l.1) (if sd = "slow" then [V.str "at", V.str "from"] else [V.str "at", V.str "upto"]) else inV (V.str l.1) (if sd = "slow" then [V.str "at", V.str "from"] else [V.str "at", V.str "upto"])) = onSide sd l.1 := by
          rw [if_neg Bool.false_ne_true]; exact words_side hsd hwl
        rw [e1]
        have e2 : sideOf sd (ls.take (i + 1)) = sideOf sd (ls.take i) ++ (if onSide sd l.1 = true then [l] else []) := by
          rw [take_snoc hl]; unfold sideOf; rw [List.filter_append]
          cases c : onSide sd l.1 <;> simp [c]
        cases c : onSide sd l.1 with
        | false =>
          refine iteF ⟨S, ys, hD', by omega, ?_⟩
          rw [e2, c]
          simpa using hds
        | true =>
          refine iteT ⟨_, rfl, ys, hD', ?_, ?_, _, upd_same, by simp; omega, ?_⟩
          · have : ys.length ≤ 1000 := by
              have := (List.getElem?_eq_some_iff.mp hl).1
              omega
            exact small1000 this
          · exact same_set S hD
          · rw [e2, c, if_pos rfl, List.map_append]
            exact acc_step hD' (noLs_map noL_encL _) rfl hds hdy'
    · rintro H' ⟨S, ys, hD', hyl, hds⟩
      refine k H' _ S ?_
      rw [List.take_of_length_le (by rw [hxl]; exact Nat.le_refl _)] at hds
      exact .lst (SqL.of hD') hds
theorem ok_best_step (T : Tx K w mg Z) : FnOk P w K mg base CX0 2 Z.a_best_step Z.d_best_step P_best_step (spBest K) := by
  refine T.F_best_step.ok scbest_step (fun vs H Q E h => ?_) (fun cdv A outer s H vs Q E hr h => ?_)
  · obtain ⟨v, ls, sd, x, L, rfl, _⟩ := h
    rfl
  · obtain ⟨v, ls, sd, x, L, rfl, hv, hsd, hw, hlen, hL, hLb, hx, k0, k⟩ := h
    obtain ⟨a, xs, rfl, ha, hd⟩ := dp_list hv
    have hxl : xs.length = ls.length := by rw [dpAll_len hd, List.length_map]
    refine ⟨_, (C8.pss_cut (ps_if (pt_not (pt_truth (pv 0) (by intro _; rfl))) (pss_one (ps_ret pe_non)) pss_nil)
      (pss_cons (ps_setLc (i := 4) (own := [("look", 5)]) (g := gName 5) (tt := tYes) rfl scbest_step.nd rfl rfl (sw_true rfl rfl rfl (by decide +kernel)) (pi_list (pv 0)) (blkOk_by (own := [("look", 5)]) (N := N_best_step) (sc := defScope sbest_step) (by decide +kernel)) (fun _ _ _ _ _ => (pg_name (i := 5) scbest_step.nd rfl (Or.inl rfl))) (fun _ _ _ _ _ => pts_nil) (fun _ _ _ _ _ => (pe_tup (pa_cons (pe_call (ok_place_by T) (hr.mono (by decide)) (by rfl) T.g_place_by T.F_place_by.kp T.bb_place_by .nil pass0 (pa_cons (pv 5) (pa_cons (pv 1) (pa_cons (pv 2) (pa_cons (pv 3) pa_nil))))) (pa_cons (pv 5) pa_nil)))))
      (pss_one (ps_ret (pe_ifExp (pt_cmpR op_eq (pv 1) (pe_glob rfl T.g_SLOW T.r_SLOW) (nomark _)) (pe_callB (maxDK (K := K) rfl (rooms hr)) (by rfl) T.b_max (by decide +kernel) (pa_cons (pv 4) pa_nil)) (pe_callB (minDK (K := K) rfl (rooms hr)) (by rfl) T.b_min (by decide +kernel) (pa_cons (pv 4) pa_nil))))))), ?_⟩
    refine ⟨fun σ' H' => σ' = [some (.ref a), some (.str sd), some (.int x), some (.int L), none, none] ∧ H' = H ∧ ls ≠ [], ?_, ?_⟩
    · refine ⟨_, rfl, _, .inl ⟨xs, ha, rfl⟩, ?_⟩
      cases ls with
      | nil =>
        have e : xs = [] := List.eq_nil_of_length_eq_zero hxl
        subst e
        exact iteT (k0 rfl)
      | cons l ls =>
        cases xs with
        | nil => simp at hxl
        | cons y ys => exact iteF ⟨rfl, rfl, by simp⟩
    · rintro σ1 H1 ⟨rfl, rfl, hne⟩
      refine ⟨_, rfl, a, rfl, ⟨_, ha⟩, fun D hD => ?_⟩
      refine lc_list (K := K) (a := a) (xs := xs) (fun i H' => Same H1 H' ∧ ∃ ys, H' D = some (.lst ys) ∧ ys.length ≤ i ∧ DpAll K H' ys ((ls.take i).map (encS sd x L))) ⟨same_upd hD, [], upd_same, Nat.le_refl _, .nil⟩ (fun i H' _ ⟨S, _⟩ => Same.sqL S ha) ?_ ?_
      · rintro i y H' hi ⟨S, ys, hD', hyl, hds⟩
        obtain ⟨d, hdi, hdy⟩ := dpAll_get hd hi
        obtain ⟨l, hl, rfl⟩ := map_at hdi
        have hwl := hw l (List.mem_of_getElem? hl)
        have hdy' := dp_mono S _ _ hdy
        refine ⟨rfl, yes_ite ?_⟩
        refine ⟨_, rfl, _, rfl, _, rfl, _, rfl, y, l, sd, x, L, rfl, hdy', hsd, hL, hLb, hx, hwl.2, _, rfl, (by show 2 ≤ sizeLine; decide), fun p hp => ?_⟩
        have hD2 : (upd H' p (.tup [.int (plc sd l x L), y])) D = some (.lst ys) := (upd_ne (ne_of_none hD' hp)).trans hD'
        have S2 := same_upd (o := HO.tup [.int (plc sd l x L), y]) hp
        refine ⟨ys, hD2, ?_, same_set (S.trans S2) hD, _, upd_same, by simp; omega, ?_⟩
        · have := (List.getElem?_eq_some_iff.mp hl).1
          exact small1000 (by omega)
        · rw [take_snoc hl, List.map_append]
          exact acc_step hD2 (noLs_map (fun _ => rfl) _) rfl (dpAll_mono S2 _ _ hds) (.tup (SqT.of upd_same) (.cons (.int _) (.cons (dp_mono S2 _ _ hdy') .nil)))
      · rintro H' ⟨S, ys, hD', hyl, hds⟩
        rw [List.take_of_length_le (by rw [hxl]; exact Nat.le_refl _)] at hds
        refine ⟨_, rfl, rfl, _, rfl, ?_⟩
        have hd0 : ∃ l ls', ls = l :: ls' := by
          cases ls with
          | nil => exact absurd rfl hne
          | cons l ls' => exact ⟨l, ls', rfl⟩
        obtain ⟨l, ls', rfl⟩ := hd0
        have hal := steps_alike sd x L (l :: ls')
        have hlay := steps_lay sd x L (l :: ls') (fun q hq => (hw q hq).1)
        have hdep := steps_depth sd x L (l :: ls')
        rcases hsd with e | e
        · subst e
          refine iteT ⟨_, rfl, D, ys, _, _, rfl, SqL.of hD', hds, hal, hlay, hdep, fun r hr => ?_⟩
          obtain ⟨q, hq, e, hb⟩ := max_step x L l ls'
          rw [e] at hr
          exact k H' r q hq S hb hr
        · subst e
          have e3 : decide (V.str "fast" = V.str "slow") = false := by decide +kernel
          rw [e3]
          refine iteF ⟨_, rfl, D, ys, _, _, rfl, SqL.of hD', hds, hal, hlay, hdep, fun r hr => ?_⟩
          obtain ⟨q, hq, e, hb⟩ := min_step x L l ls'
          rw [e] at hr
          exact k H' r q hq S hb hr
end
end KA
namespace KA
open PySem PySem.Spec PyProof.Rows L2 DP
/-- a Dark's fields -/
def df (L : Int) (la : Addr) : List (Str × V) := [("_length", .int L), ("_looks", .ref la)]
theorem ne_ll : ¬ (("_looks" : Str) = "_length") := by decide +kernel
theorem ne_ll' : ¬ (("_length" : Str) = "_looks") := by decide +kernel
theorem df_length (L : Int) (la : Addr) : (df L la).lookup ("_length" : Str) = some (.int L) := by simp [df, List.lookup]
theorem df_looks (L : Int) (la : Addr) : (df L la).lookup ("_looks" : Str) = some (.ref la) := by
  have h : (("_looks" : Str) == ("_length" : Str)) = false := by decide +kernel
  simp [df, List.lookup, h]
theorem df_no (L : Int) (la : Addr) {m : Str} (h1 : (m == ("_length" : Str)) = false) (h2 : (m == ("_looks" : Str)) = false) : (df L la).lookup m = none := by simp [df, List.lookup, h1, h2]
theorem df_put1 (v : V) : putF "_length" v [] = [(("_length" : Str), v)] := rfl
theorem df_put2 (L : Int) (la : Addr) : putF "_looks" (.ref la) [("_length", .int L)] = df L la := by
  show (if ("_length" : Str) = "_looks" then _ else _) = _
  rw [if_neg ne_ll']; rfl
theorem df_put3 (L : Int) (la lb : Addr) : putF "_looks" (.ref lb) (df L la) = df L lb := by
  show (if ("_length" : Str) = "_looks" then _ else (("_length" : Str), V.int L) :: putF "_looks" (.ref lb) [("_looks", .ref la)]) = _
  rw [if_neg ne_ll']
  show (("_length" : Str), V.int L) :: (if ("_looks" : Str) = "_looks" then _ else _) = _
  rw [if_pos rfl]; rfl
/-- what is free there was free before -/
structure FreeIn (H H' : Hp) : Prop where
  free : ∀ {b : Addr}, H' b = none → H b = none
structure DarkAt (Z : Ad) (K : PySem.W.Frag) (H : Hp) (d : Addr) (L : Int) (ls : List Lk) : Prop where
  ex : ∃ dx la vs, H d = some (.ins Z.C dx (df L la)) ∧ H la = some (.lst vs) ∧ DpAll K H vs (ls.map encL)
  pos : 0 < L
  big : L.natAbs < 2 ^ 200
  ok : ∀ l ∈ ls, WordOk l.1 ∧ Sized 302 l
  len : ls.length ≤ 60
theorem DarkAt.same {Z : Ad} {K : PySem.W.Frag} {H H' : Hp} {d : Addr} {L : Int} {ls : List Lk} (D : DarkAt Z K H d L ls) (S : Same H H') : DarkAt Z K H' d L ls := by
  obtain ⟨dx, la, vs, h1, h2, h3⟩ := D.ex
  exact ⟨⟨dx, la, vs, S _ _ h1, S _ _ h2, dpAll_mono S _ _ h3⟩, D.pos, D.big, D.ok, D.len⟩
theorem Sized.up {m n : Nat} {l : Lk} (h : Sized m l) (hm : m ≤ n) : Sized n l := ⟨lt_up h.1 hm, lt_up h.2 hm⟩
theorem df_inj {C C' dx dx' : Addr} {L L' : Int} {la la' : Addr} (h : some (HO.ins C dx (df L la)) = some (HO.ins C' dx' (df L' la'))) : la = la' := by
  have h1 : df L la = df L' la' := by injection h with h; injection h
  simp [df] at h1
  exact h1.2
def spInit (Z : Ad) (K : PySem.W.Frag) : Sp := fun vs H Q _ => ∃ (d dx : Addr) (L : Int), vs = [.ref d, .int L] ∧ H d = some (.ins Z.C dx []) ∧ 0 < L ∧ L.natAbs < 2 ^ 200 ∧ ∀ H' : Hp, DarkAt Z K H' d L [] → (∀ la dx, H' d = some (.ins Z.C dx (df L la)) → H la = none) → (∀ b o, H b = some o → b ≠ d → H' b = some o) → Q .non H'
def spLooks (Z : Ad) (K : PySem.W.Frag) : Sp := fun vs H Q _ => ∃ (d : Addr) (L : Int) (ls : List Lk), vs = [.ref d] ∧ DarkAt Z K H d L ls ∧ ∀ (p : Addr) (xs : List V) (H' : Hp), H p = none → Same H H' → H' p = some (.lst xs) → DpAll K H' xs (ls.map encL) → Q (.ref p) H'
def spWord : Sp := fun vs H Q _ => ∃ (d : V) (x : Str), vs = [d, .str x] ∧ WordOk x ∧ Q .non H
def spHome (Z : Ad) (K : PySem.W.Frag) : Sp := fun vs H Q _ => ∃ (d : Addr) (L : Int) (ls : List Lk) (l : Lk), vs = [.ref d, .str l.1, .int l.2.1, .int l.2.2] ∧ DarkAt Z K H d L ls ∧ WordOk l.1 ∧ Sized 300 l ∧ ∀ H' r, Same H H' → Dp K H' r (encL (home L l)) → Q r H'
def spClashing (Z : Ad) (K : PySem.W.Frag) : Sp := fun vs H Q _ => ∃ (d : Addr) (v : V) (L : Int) (ls : List Lk) (l : Lk), vs = [.ref d, v] ∧ DarkAt Z K H d L ls ∧ Dp K H v (encL l) ∧ WordOk l.1 ∧ Sized 302 l ∧
  (ls.find? (fun o => clashB l o L) = none → Q .non H) ∧ ∀ o r, ls.find? (fun o => clashB l o L) = some o → Dp K H r (encL o) → Q r H
/-- what is heard -/
def heard (L : Int) (ls : List Lk) (l : Lk) : List Lk := if home L l ∈ ls then ls else (ls ++ [home L l]).mergeSort (PySem.W.dataLe false encL)
def spHear (Z : Ad) (K : PySem.W.Frag) : Sp := fun vs H Q _ => ∃ (d : Addr) (L : Int) (ls : List Lk) (l : Lk), vs = [.ref d, .str l.1, .int l.2.1, .int l.2.2] ∧ DarkAt Z K H d L ls ∧ WordOk l.1 ∧ Sized 300 l ∧ ls.length < 60 ∧ (∀ o ∈ ls, clashB (home L l) o L = false) ∧
  ∀ H', DarkAt Z K H' d L (heard L ls l) → (∀ la dx, H' d = some (.ins Z.C dx (df L la)) → (∃ dx', H d = some (.ins Z.C dx' (df L la))) ∨ H la = none) → (∀ b o, H b = some o → b ≠ d → H' b = some o) → Q .non H'
def spBound (Z : Ad) (K : PySem.W.Frag) : Sp := fun vs H Q _ => ∃ (d : Addr) (L : Int) (ls : List Lk) (sd : Str) (x : Int), vs = [.ref d, .str sd, .int x] ∧ DarkAt Z K H d L ls ∧ SideOk sd ∧ x.natAbs < 2 ^ 400 ∧
  (sideOf sd ls = [] → ∀ H', Same H H' → Q .non H') ∧ ∀ m H', Same H H' → IsBest sd (sideOf sd ls) x L m → Q (.int m) H'
/-- what a side tells of x: None, or the best place -/
def Tells (sd : Str) (ls : List Lk) (x L : Int) (v : V) : Prop := (sideOf sd ls = [] ∧ v = .non) ∨ ∃ m, v = .int m ∧ IsBest sd (sideOf sd ls) x L m
def spSideOf (Z : Ad) (K : PySem.W.Frag) (sd : Str) : Sp := fun vs H Q _ => ∃ (d : Addr) (L : Int) (ls : List Lk) (x : Int), vs = [.ref d, .int x] ∧ DarkAt Z K H d L ls ∧ x.natAbs < 2 ^ 400 ∧
  ∀ v H', Same H H' → Tells sd ls x L v → Q v H'
theorem same_put {H : Hp} {d C dx : Addr} {fs fs' : List (Str × V)} (h : H d = some (.ins C dx fs)) : FreeIn H (upd H d (.ins C dx fs')) := ⟨fun {b} hb => by
  by_cases e : b = d
  · subst e; rw [upd_same] at hb; cases hb
  · rw [upd_ne e] at hb; exact hb⟩
theorem emod_small {x L : Int} (h : 0 < L) (hb : L.natAbs < 2 ^ 200) : (x - x / L * L).natAbs < 2 ^ 200 := by
  have e : x - x / L * L = x % L := by
    have := Int.mul_ediv_add_emod x L
    rw [Int.mul_comm (x / L) L]; omega
  rw [e]
  have h1 := Int.emod_nonneg x (show L ≠ 0 by omega)
  have h2 := Int.emod_lt_of_pos x h
  have h3 : (x % L).natAbs ≤ L.natAbs := by clear hb; omega
  exact Nat.lt_of_le_of_lt h3 hb
theorem home_sized {L : Int} {l : Lk} (h : 0 < L) (hb : L.natAbs < 2 ^ 200) (hl : Sized 300 l) : Sized 302 (home L l) := by
  have h0 := emod_small (x := l.2.1) h hb
  refine ⟨lt_up h0 (by decide), ?_⟩
  show (l.2.2 - l.2.1 / L * L).natAbs < 2 ^ 302
  have e : l.2.2 - l.2.1 / L * L = l.2.2 + ((l.2.1 - l.2.1 / L * L) - l.2.1) := by omega
  rw [e]
  have h1 : ((l.2.1 - l.2.1 / L * L) - l.2.1).natAbs < 2 ^ 301 := sub_lt (lt_up h0 (by decide)) hl.1
  exact add_lt (lt_up hl.2 (by decide)) h1
section
variable {P : Program} {w : World} {K : PySem.W.Frag} {mg : Str → Option Value} {base : Heap} {Z : Ad}
theorem ok_Dark_init (T : Tx K w mg Z) : FnOk P w K mg base CX0 1 Z.a_Dark_init Z.d_Dark_init P_Dark_init (spInit Z K) := by
  refine T.F_Dark_init.ok scDark_init (fun vs H Q E h => ?_) (fun cdv A outer s H vs Q E hr h => ?_)
  · obtain ⟨d, dx, L, rfl, _⟩ := h
    rfl
  · obtain ⟨d, dx, L, rfl, hd, hL, hLb, k⟩ := h
    refine ⟨_, (C8.pss_cut (ps_if (pt_cmpR op_lt (pv 1) pe_int (nomark _)) (pss_one ps_never) pss_nil)
      (pss_cons (ps_fld (pv 0) (pv 1) rfl)
      (pss_one (ps_fld (pv 0) (pe_lst pa_nil) rfl)))), ?_⟩
    refine ⟨fun σ' H' => σ' = [some (.ref d), some (.int L)] ∧ H' = H, ?_, ?_⟩
    · refine ⟨_, rfl, _, _, rfl, rfl, _, rfl, ?_⟩
      exact ite2 (fun c => (by have c' := of_decide_eq_true c; omega : False)) (fun _ => ⟨rfl, rfl⟩)
    · rintro σ1 H1 ⟨rfl, rfl⟩
      refine ⟨_, rfl, _, rfl, d, Z.C, dx, [], rfl, hd, T.cl, T.n_length, (by show 0 < 1000; decide), ?_⟩
      refine ⟨(by show 0 ≤ sizeLine; decide), fun p hp => ?_⟩
      have h1 : (upd H1 d (.ins Z.C dx (putF "_length" (.int L) []))) d = some (.ins Z.C dx [("_length", .int L)]) := upd_same
      have hdp : d ≠ p := ne_of_none h1 hp
      refine ⟨_, rfl, d, Z.C, dx, [("_length", .int L)], rfl, (upd_ne hdp).trans h1, T.cl, T.n_looks, (by show 1 < 1000; decide), ?_⟩
      refine k _ ⟨⟨dx, p, [], Eq.trans upd_same (congrArg (fun q => some (HO.ins Z.C dx q)) (df_put2 L p)), (upd_ne (Ne.symm hdp)).trans upd_same, .nil⟩, hL, hLb, (fun _ z => absurd z (by simp)), Nat.zero_le _⟩ (fun la' dx' e => ?_) fun b o e hb => ?_
      · rw [upd_same, df_put2] at e
        rw [← df_inj e]
        exact (same_put hd).free hp
      have e1 : (upd H1 d (.ins Z.C dx (putF "_length" (.int L) []))) b = some o := (upd_ne hb).trans e
      exact (upd_ne hb).trans ((upd_ne (ne_of_none e1 hp)).trans e1)
theorem ok_Dark_looks (T : Tx K w mg Z) : FnOk P w K mg base CX0 1 Z.a_Dark_looks Z.d_Dark_looks P_Dark_looks (spLooks Z K) := by
  refine T.F_Dark_looks.ok scDark_looks (fun vs H Q E h => ?_) (fun cdv A outer s H vs Q E hr h => ?_)
  · obtain ⟨d, L, ls, rfl, _⟩ := h
    rfl
  · obtain ⟨d, L, ls, rfl, D, k⟩ := h
    obtain ⟨dx, la, xs, h1, h2, h3⟩ := D.ex
    refine ⟨_, (pss_one (ps_ret (pe_callTy (listK (K := K)) (by rfl) T.b_list (by decide +kernel) (pa_cons (fldK (K := K) (pv 0) rfl) pa_nil)))), ?_⟩
    refine ⟨_, rfl, d, Z.C, dx, _, _, rfl, h1, T.cl, T.n_looks, df_looks _ _, la, xs, rfl, .inl (SqL.of h2), fun p hp => ?_⟩
    exact k p xs _ hp (same_upd hp) upd_same (dpAll_mono (same_upd hp) _ _ h3)
theorem ok_Darkcheck_word (T : Tx K w mg Z) : FnOk P w K mg base CX0 1 Z.a_Darkcheck_word Z.d_Darkcheck_word P_Darkcheck_word (spWord) := by
  refine T.F_Darkcheck_word.ok scDarkcheck_word (fun vs H Q E h => ?_) (fun cdv A outer s H vs Q E hr h => ?_)
  · obtain ⟨d, x, rfl, _⟩ := h
    rfl
  · obtain ⟨d, x, rfl, hx, k⟩ := h
    refine ⟨_, (pss_one (ps_if (pt_cmpR (notInS (K := K)) (pv 1) (pe_glob (v := .ref Z.a_LW) rfl T.g_LOOK_WORDS rfl) (by rfl)) (pss_one ps_never) pss_nil)), ?_⟩
    obtain ⟨_, _, e⟩ := decl_words hx
    refine ⟨_, rfl, _, _, rfl, .inr (T.q_LW _), rfl, rfl, _, rfl, ?_⟩
    have e2 : (if true = true then !inV (V.str x) [V.str "at", V.str "from", V.str "upto"] else inV (V.str x) [V.str "at", V.str "from", V.str "upto"]) = false := by rw [if_pos rfl, e]; rfl
    rw [e2]
    exact iteF k
theorem ok_Darkhome (T : Tx K w mg Z) : FnOk P w K mg base CX0 2 Z.a_Darkhome Z.d_Darkhome P_Darkhome (spHome Z K) := by
  refine T.F_Darkhome.ok scDarkhome (fun vs H Q E h => ?_) (fun cdv A outer s H vs Q E hr h => ?_)
  · obtain ⟨d, L, ls, l, rfl, _⟩ := h
    rfl
  · obtain ⟨d, L, ls, l, rfl, D, hw, hl, k⟩ := h
    obtain ⟨dx, la, xs, h1, h2, h3⟩ := D.ex
    refine ⟨_, (pss_cons (ps_expr (pe_meth (pv 0) T.cl T.m_Darkcheck_word (ok_Darkcheck_word T) (hr.mono (by decide)) T.bb_Darkcheck_word .nil pass0 (pa_cons (pv 1) pa_nil)))
      (pss_cons (ps_set (i := 4) scDarkhome.nd rfl (Or.inl rfl) (pe_op op_fdivW (pv 2) (fldK (K := K) (pv 0) rfl)))
      (pss_one (ps_ret (pe_tup (pa_cons (pv 1) (pa_cons (pe_op op_sub (pv 2) (pe_op op_mulW (pv 4) (fldK (K := K) (pv 0) rfl))) (pa_cons (pe_op op_sub (pv 3) (pe_op op_mulW (pv 4) (fldK (K := K) (pv 0) rfl))) pa_nil)))))))), ?_⟩
    refine ⟨_, rfl, d, dx, _, rfl, h1, df_no _ _ (by decide +kernel) (by decide +kernel), _, rfl, _, _, rfl, hw, ?_⟩
    refine ⟨_, rfl, _, rfl, d, Z.C, dx, _, _, rfl, h1, T.cl, T.n_length, df_length _ _, _, _, rfl, rfl, wide_div D.pos D.big (by decide) (by decide), ?_⟩
    have b1 : (l.2.1 / L).natAbs < 2 ^ 301 := div_lt D.pos hl.1
    refine ⟨_, rfl, _, rfl, _, rfl, _, rfl, d, Z.C, dx, _, _, rfl, h1, T.cl, T.n_length, df_length _ _, _, _, rfl, rfl, wide_mul b1 D.big (by decide) (by decide) (by decide), _, _, rfl, rfl, ?_⟩
    refine ⟨_, rfl, _, rfl, _, rfl, d, Z.C, dx, _, _, rfl, h1, T.cl, T.n_length, df_length _ _, _, _, rfl, rfl, wide_mul b1 D.big (by decide) (by decide) (by decide), _, _, rfl, rfl, (by show 3 ≤ sizeLine; decide), fun p hp => ?_⟩
    exact k _ _ (same_upd hp) (.tup (SqT.of upd_same) (.cons (.str _) (.cons (.int _) (.cons (.int _) .nil))))
theorem ok_Darkclashing (T : Tx K w mg Z) : FnOk P w K mg base CX0 4 Z.a_Darkclashing Z.d_Darkclashing P_Darkclashing (spClashing Z K) := by
  refine T.F_Darkclashing.ok scDarkclashing (fun vs H Q E h => ?_) (fun cdv A outer s H vs Q E hr h => ?_)
  · obtain ⟨d, v, L, ls, l, rfl, _⟩ := h
    rfl
  · obtain ⟨d, v, L, ls, l, rfl, D, hv, hw, hl, k0, k⟩ := h
    obtain ⟨dx, la, xs, h1, h2, h3⟩ := D.ex
    have hxl : xs.length = ls.length := by rw [dpAll_len h3, List.length_map]
    refine ⟨_, (pss_cons (ps_for PassesOwn.never rfl (pi_list (fldK (K := K) (pv 0) rfl)) (pg_name (i := 2) scDarkclashing.nd rfl (Or.inl rfl)) (pss_one (ps_if (pt_val (pe_call (ok_clash T) (hr.mono (by decide)) (by rfl) T.g_clash T.F_clash.kp T.bb_clash .nil pass0 (pa_cons (pv 1) (pa_cons (pv 2) (pa_cons (fldK (K := K) (pv 0) rfl) pa_nil))))) (pss_one (ps_ret (pv 2))) pss_nil)))
      (pss_one (ps_ret pe_non))), ?_⟩
    refine ⟨_, rfl, d, Z.C, dx, _, _, rfl, h1, T.cl, T.n_looks, df_looks _ _, la, rfl, ⟨_, SqL.of h2⟩, ?_⟩
    refine for_list (K := K) (a := la) (xs := xs) (fun i σ' H' => ∃ u, σ' = [some (.ref d), some v, u] ∧ H' = H ∧ (ls.take i).find? (fun o => clashB l o L) = none) ⟨none, rfl, rfl, rfl⟩ (fun i σ' H' _ ⟨_, _, e, _⟩ => by rw [e]; exact SqL.of h2) ?_ ?_
    · rintro i y σ' H' hi ⟨u, rfl, rfl, hno⟩
      obtain ⟨e, hdi, hdy⟩ := dpAll_get h3 hi
      obtain ⟨o, ho, rfl⟩ := map_at hdi
      have hok := D.ok o (List.mem_of_getElem? ho)
      refine ⟨_, rfl, _, rfl, _, rfl, d, Z.C, dx, _, _, rfl, h1, T.cl, T.n_length, df_length _ _, v, y, l, o, L, rfl, hv, hdy, hw, hok.1, D.pos, D.big, hl.up (by decide), hok.2.up (by decide), _, rfl, ?_⟩
      have hsp : ls = ls.take i ++ o :: ls.drop (i + 1) := by
        have h4 := List.getElem?_eq_some_iff.mp ho
        obtain ⟨h5, h6⟩ := h4
        rw [← h6, List.getElem_cons_drop, List.take_append_drop]
      cases c : clashB l o L with
      | true =>
        refine iteT ⟨_, rfl, k o y ?_ hdy⟩
        rw [hsp, List.find?_append, hno, List.find?_cons, c]
        rfl
      | false =>
        refine iteF ⟨_, rfl, rfl, ?_⟩
        rw [take_snoc ho, List.find?_append, hno, List.find?_cons, c]
        rfl
    · rintro σ' H' ⟨u, rfl, rfl, hno⟩
      rw [List.take_of_length_le (by rw [hxl]; exact Nat.le_refl _)] at hno
      exact k0 hno
theorem alike_looks (ls : List Lk) : PySem.W.AllAlike (ls.map encL) := PySem.W.AllAlike.of fun _ _ => by simp [encL, PySem.W.alike, PySem.W.alikeAll]
theorem depth_look (l : Lk) : (encL l).depth = 1 := by simp [encL, PyData.depth, PyData.depthAll]
theorem shaped_look {l : Lk} (h : WordOk l.1) : SeqAt.shaped (encL l) = true := by
  unfold SeqAt.shaped
  rw [lay_look h, depth_look]; rfl
theorem lay_looks : ∀ ls : List Lk, (∀ l ∈ ls, WordOk l.1) → PyData.canLayAll0 (ls.map encL) = true
  | [], _ => rfl
  | l :: ls, h => by
    show PyData.canLayAll0 (encL l :: ls.map encL) = true
    rw [PyData.canLayAll0, lay_look (h l List.mem_cons_self), lay_looks ls fun q hq => h q (List.mem_cons_of_mem _ hq)]; rfl
theorem depth_looks : ∀ ls : List Lk, PyData.depthAll (ls.map encL) ≤ 1
  | [] => by simp [PyData.depthAll]
  | l :: ls => by
    show PyData.depthAll (encL l :: ls.map encL) ≤ 1
    rw [PyData.depthAll, depth_look]
    have := depth_looks ls
    omega
theorem shaped_looks {ls : List Lk} (h : ∀ l ∈ ls, WordOk l.1) : SeqAt.shaped (.list (ls.map encL)) = true := by
  unfold SeqAt.shaped
  rw [PyData.canLay0, lay_looks ls h, PyData.depth]
  have := depth_looks ls
  simp; omega
theorem eqv_look (a b : Lk) : PyData.eqv (encL a) (encL b) = decide (a = b) := by
  obtain ⟨a1, a2, a3⟩ := a
  obtain ⟨b1, b2, b3⟩ := b
  simp [encL, PyData.eqv, PyData.eqvAll]
  by_cases h1 : a1 = b1 <;> by_cases h2 : a2 = b2 <;> by_cases h3 : a3 = b3 <;> simp [h1, h2, h3]
theorem any_look (ls : List Lk) (l : Lk) : ((ls.map encL).any fun z => PyData.eqv z (encL l)) = decide (l ∈ ls) := by
  rw [List.any_map]
  rw [Bool.eq_iff_iff, List.any_eq_true, decide_eq_true_eq]
  constructor
  · rintro ⟨o, ho, e⟩
    have e' : decide (o = l) = true := by rw [← eqv_look]; exact e
    rw [← of_decide_eq_true e']; exact ho
  · intro h
    exact ⟨l, h, by show PyData.eqv (encL l) (encL l) = true; rw [eqv_look]; simp⟩
theorem heard_mem {L : Int} {ls : List Lk} {l o : Lk} : o ∈ heard L ls l ↔ o ∈ ls ∨ o = home L l := by
  unfold heard
  by_cases c : home L l ∈ ls
  · rw [if_pos c]
    exact ⟨.inl, fun h => h.elim id fun e => e ▸ c⟩
  · rw [if_neg c, (List.mergeSort_perm _ _).mem_iff, List.mem_append, List.mem_singleton]
theorem heard_len (L : Int) (ls : List Lk) (l : Lk) : (heard L ls l).length ≤ ls.length + 1 := by
  unfold heard
  split
  · omega
  · rw [(List.mergeSort_perm _ _).length_eq, List.length_append]; simp
theorem ok_Dark_hear (T : Tx K w mg Z) : FnOk P w K mg base CX0 5 Z.a_Dark_hear Z.d_Dark_hear P_Dark_hear (spHear Z K) := by
  refine T.F_Dark_hear.ok scDark_hear (fun vs H Q E h => ?_) (fun cdv A outer s H vs Q E hr h => ?_)
  · obtain ⟨d, L, ls, l, rfl, _⟩ := h
    rfl
  · obtain ⟨d, L, ls, l, rfl, D, hw, hl, hlen, hno, k⟩ := h
    obtain ⟨dx, la, xs, h1, h2, h3⟩ := D.ex
    have hfind : ls.find? (fun o => clashB (home L l) o L) = none := List.find?_eq_none.mpr fun o ho => by rw [hno o ho]; exact Bool.false_ne_true
    have hsz := home_sized D.pos D.big hl
    refine ⟨_, (pss_cons (ps_set (i := 4) scDark_hear.nd rfl (Or.inl rfl) (pe_meth (pv 0) T.cl T.m_Darkhome (ok_Darkhome T) (hr.mono (by decide)) T.bb_Darkhome .nil pass0 (pa_cons (pv 1) (pa_cons (pv 2) (pa_cons (pv 3) pa_nil)))))
      (pss_cons (ps_set (i := 5) scDark_hear.nd rfl (Or.inl rfl) (pe_meth (pv 0) T.cl T.m_Darkclashing (ok_Darkclashing T) (hr.mono (by decide)) T.bb_Darkclashing .nil pass0 (pa_cons (pv 4) pa_nil)))
      (C8.pss_cut (ps_if (pt_cmpR op_notN (pv 5) pe_non (nomark _)) (pss_one ps_never) pss_nil)
      (pss_one (ps_if (pt_cmpR (notInDK (K := K) (rooms hr)) (pv 4) (fldK (K := K) (pv 0) rfl) (by rfl)) (pss_one (ps_fld (pv 0) (pe_callB (sortDK (K := K) encL (rooms hr)) (by rfl) T.b_sorted (by decide +kernel) (pa_cons (pe_op op_cat (fldK (K := K) (pv 0) rfl) (pe_lst (pa_cons (pv 4) pa_nil))) pa_nil)) rfl)) pss_nil))))), ?_⟩
    refine ⟨_, rfl, d, dx, _, rfl, h1, df_no _ _ (by decide +kernel) (by decide +kernel), _, rfl, _, rfl, _, rfl, d, L, ls, l, rfl, D, hw, hl, fun H1 r S hr => ?_⟩
    have D1 := D.same S
    refine ⟨_, rfl, d, dx, _, rfl, S _ _ h1, df_no _ _ (by decide +kernel) (by decide +kernel), _, rfl, d, r, L, ls, home L l, rfl, D1, hr, hw, hsz, fun _ => ?_, fun o r ho => ?_⟩
    · refine ⟨fun σ' H' => σ' = [some (.ref d), some (.str l.1), some (.int l.2.1), some (.int l.2.2), some r, some .non] ∧ H' = H1, ?_, ?_⟩
      · exact ⟨_, rfl, rfl, _, rfl, iteF ⟨rfl, rfl⟩⟩
      · rintro σ2 H2 ⟨rfl, rfl⟩
        have hwords : ∀ o ∈ ls, WordOk o.1 := fun o ho => (D.ok o ho).1
        have hds := dpAll_mono S _ _ h3
        refine ⟨_, rfl, _, rfl, d, Z.C, dx, _, _, rfl, S _ _ h1, T.cl, T.n_looks, df_looks _ _, encL (home L l), ls.map encL, hr, .lst (SqL.of (S _ _ h2)) hds, shaped_look hw, shaped_looks hwords, _, rfl, ?_⟩
        rw [any_look]
        have fin : ∀ H', DarkAt Z K H' d L (heard L ls l) → (∀ la dx, H' d = some (.ins Z.C dx (df L la)) → (∃ dx', H d = some (.ins Z.C dx' (df L la))) ∨ H la = none) → (∀ b o, H2 b = some o → b ≠ d → H' b = some o) → Q .non H' := fun H' DD ff kk => k H' DD ff fun b o e hb => kk b o (S b o e) hb
        have okH : ∀ o ∈ heard L ls l, WordOk o.1 ∧ Sized 302 o := fun o ho => by
          rcases heard_mem.mp ho with h | h
          · exact D.ok o h
          · subst h; exact ⟨hw, hsz⟩
        have lenH : (heard L ls l).length ≤ 60 := Nat.le_trans (heard_len L ls l) hlen
        by_cases c : home L l ∈ ls
        · have e : (!decide (home L l ∈ ls)) = false := by simp [c]
          rw [e]
          refine iteF (fin H2 ?_ (fun la' dx' e => ?_) fun _ _ e _ => e)
          · have eh : heard L ls l = ls := if_pos c
            rw [eh]; exact D1
          · have e2 := e.symm.trans (S _ _ h1)
            rw [df_inj e2]
            exact .inl ⟨dx, h1⟩
        · have e : (!decide (home L l ∈ ls)) = true := by simp [c]
          rw [e]
          refine iteT ⟨_, rfl, d, Z.C, dx, _, _, rfl, S _ _ h1, T.cl, T.n_looks, df_looks _ _, _, rfl, (by show 1 ≤ sizeLine; decide), fun p hp => ?_⟩
          have S2 := same_upd (o := HO.lst [r]) hp
          have h2' := S2 _ _ (S _ _ h2)
          refine ⟨la, p, xs, [r], rfl, rfl, h2', upd_same, ?_, fun p2 hp2 => ?_⟩
          · have : xs.length = ls.length := by rw [dpAll_len h3, List.length_map]
            exact Nat.le_of_lt (small1000 (by simp; omega))
          have S3 := S2.trans (same_upd (o := HO.lst (xs ++ [r])) hp2)
          have hall : DpAll K (upd (upd H2 p (.lst [r])) p2 (.lst (xs ++ [r]))) (xs ++ [r]) ((ls ++ [home L l]).map encL) := by
            rw [List.map_append]
            exact dpAll_snoc (dpAll_mono S3 _ _ hds) (dp_mono S3 _ _ hr)
          refine ⟨p2, xs ++ [r], ls ++ [home L l], rfl, SqL.of upd_same, hall, alike_looks _, PySem.W.Sortable.tuples fun _ => ⟨_, _, rfl⟩, fun b _ => by rw [depth_look]; decide, fun p3 ys H3 hp3 S4 hy hys => ?_⟩
          have S5 := S3.trans S4
          have h1' := S5 _ _ (S _ _ h1)
          have hd3 : d ≠ p3 := fun e => by
            subst e
            rw [(S3 _ _ (S _ _ h1))] at hp3
            cases hp3
          refine ⟨_, rfl, d, Z.C, dx, df L la, rfl, h1', T.cl, T.n_looks, (by show 2 < 1000; decide), ?_⟩
          refine fin _ ⟨⟨dx, p3, ys, Eq.trans upd_same (congrArg (fun q => some (HO.ins Z.C dx q)) (df_put3 L la p3)), (upd_ne (Ne.symm hd3)).trans hy, ?_⟩, D.pos, D.big, okH, lenH⟩ (fun la' dx' e => ?_) fun b o e hb => (upd_ne hb).trans (S5 _ _ e)
          rotate_left
          · rw [upd_same, df_put3] at e
            rw [← df_inj e]
            exact .inr (S.free (S3.free hp3))
          have eh : heard L ls l = (ls ++ [home L l]).mergeSort (PySem.W.dataLe false encL) := if_neg c
          rw [eh]
          exact dpAll_tups (Tups.upd_ins h1') _ _ (noLs_map noL_encL _) hys
    · rw [hfind] at ho; cases ho
theorem ok_Darkbound (T : Tx K w mg Z) : FnOk P w K mg base CX0 3 Z.a_Darkbound Z.d_Darkbound P_Darkbound (spBound Z K) := by
  refine T.F_Darkbound.ok scDarkbound (fun vs H Q E h => ?_) (fun cdv A outer s H vs Q E hr h => ?_)
  · obtain ⟨d, L, ls, sd, x, rfl, _⟩ := h
    rfl
  · obtain ⟨d, L, ls, sd, x, rfl, D, hsd, hx, k0, k⟩ := h
    obtain ⟨dx, la, xs, h1, h2, h3⟩ := D.ex
    refine ⟨_, (pss_cons (ps_set (i := 3) scDarkbound.nd rfl (Or.inl rfl) (pe_call (ok_best_step T) (hr.mono (by decide)) (by rfl) T.g_best_step T.F_best_step.kp T.bb_best_step .nil pass0 (pa_cons (pe_call (ok_side_looks T) (hr.mono (by decide)) (by rfl) T.g_side_looks T.F_side_looks.kp T.bb_side_looks .nil pass0 (pa_cons (fldK (K := K) (pv 0) rfl) (pa_cons (pv 1) pa_nil))) (pa_cons (pv 1) (pa_cons (pv 2) (pa_cons (fldK (K := K) (pv 0) rfl) pa_nil))))))
      (pss_one (ps_ret (pe_ifExp (pt_cmpR op_isN (pv 3) pe_non (nomark _)) pe_non (pe_ix (ixT (K := K)) (pv 3) pe_int (fun _ _ => rfl)))))), ?_⟩
    refine ⟨_, rfl, d, Z.C, dx, _, _, rfl, h1, T.cl, T.n_looks, df_looks _ _, _, rfl, .ref la, ls, sd, rfl, .lst (SqL.of h2) h3, hsd, fun l hl => (D.ok l hl).1, Nat.le_trans D.len (by decide), fun H1 r S hr => ?_⟩
    refine ⟨_, rfl, _, rfl, _, rfl, d, Z.C, dx, _, _, rfl, S _ _ h1, T.cl, T.n_length, df_length _ _, ?_⟩
    refine ⟨r, sideOf sd ls, sd, x, L, rfl, hr, hsd, fun l hl => ⟨(D.ok l (List.mem_filter.mp hl).1).1, (D.ok l (List.mem_filter.mp hl).1).2.up (by decide)⟩, Nat.le_trans (List.length_filter_le _ _) (Nat.le_trans D.len (by decide)), D.pos, D.big, hx, fun e => ?_, fun H2 r2 l hl S2 hb hr2 => ?_⟩
    · exact ⟨_, rfl, rfl, _, rfl, iteT (k0 e _ S)⟩
    · have hr2' : Dp K H2 r2 (.tuple [.int (plc sd l x L), encL l]) := hr2
      cases hr2' with
      | tup s a =>
        cases a with
        | cons a1 a =>
          cases a1
          cases a with
          | cons a2 a =>
          cases a
          refine ⟨_, rfl, rfl, _, rfl, ?_⟩
          refine iteF ⟨_, rfl, _, _, _, _, rfl, rfl, s, rfl, ?_⟩
          exact k _ _ (S.trans S2) hb
theorem ok_Dark_least (T : Tx K w mg Z) : FnOk P w K mg base CX0 4 Z.a_Dark_least Z.d_Dark_least P_Dark_least (spSideOf Z K "slow") := by
  refine T.F_Dark_least.ok scDark_least (fun vs H Q E h => ?_) (fun cdv A outer s H vs Q E hr h => ?_)
  · obtain ⟨d, L, ls, x, rfl, _⟩ := h
    rfl
  · obtain ⟨d, L, ls, x, rfl, D, hx, k⟩ := h
    obtain ⟨dx, la, xs, h1, h2, h3⟩ := D.ex
    refine ⟨_, (pss_one (ps_ret (pe_meth (pv 0) T.cl T.m_Darkbound (ok_Darkbound T) (hr.mono (by decide)) T.bb_Darkbound .nil pass0 (pa_cons (pe_glob rfl T.g_SLOW T.r_SLOW) (pa_cons (pv 1) pa_nil))))), ?_⟩
    exact ⟨_, rfl, d, dx, _, rfl, h1, df_no _ _ (by decide +kernel) (by decide +kernel), _, rfl, d, L, ls, "slow", x, rfl, D, .inl rfl, hx, fun e H1 S => k _ H1 S (.inl ⟨e, rfl⟩), fun m H1 S hb => k _ H1 S (.inr ⟨m, rfl, hb⟩)⟩
theorem ok_Dark_greatest (T : Tx K w mg Z) : FnOk P w K mg base CX0 4 Z.a_Dark_greatest Z.d_Dark_greatest P_Dark_greatest (spSideOf Z K "fast") := by
  refine T.F_Dark_greatest.ok scDark_greatest (fun vs H Q E h => ?_) (fun cdv A outer s H vs Q E hr h => ?_)
  · obtain ⟨d, L, ls, x, rfl, _⟩ := h
    rfl
  · obtain ⟨d, L, ls, x, rfl, D, hx, k⟩ := h
    obtain ⟨dx, la, xs, h1, h2, h3⟩ := D.ex
    refine ⟨_, (pss_one (ps_ret (pe_meth (pv 0) T.cl T.m_Darkbound (ok_Darkbound T) (hr.mono (by decide)) T.bb_Darkbound .nil pass0 (pa_cons (pe_glob rfl T.g_FAST T.r_FAST) (pa_cons (pv 1) pa_nil))))), ?_⟩
    exact ⟨_, rfl, d, dx, _, rfl, h1, df_no _ _ (by decide +kernel) (by decide +kernel), _, rfl, d, L, ls, "fast", x, rfl, D, .inr rfl, hx, fun e H1 S => k _ H1 S (.inl ⟨e, rfl⟩), fun m H1 S hb => k _ H1 S (.inr ⟨m, rfl, hb⟩)⟩
end
end KA
namespace KA
open PySem PySem.Spec PyProof.Rows L2 DP
def spHearX (Z : Ad) (K : PySem.W.Frag) (CL : Addr) : Sp := fun vs H Q E => ∃ (d : Addr) (L : Int) (ls : List Lk) (l : Lk), vs = [.ref d, .str l.1, .int l.2.1, .int l.2.2] ∧ DarkAt Z K H d L ls ∧ WordOk l.1 ∧ Sized 300 l ∧ ls.length < 60 ∧
  ((∀ o ∈ ls, clashB (home L l) o L = false) → ∀ H', DarkAt Z K H' d L (heard L ls l) → (∀ la dx, H' d = some (.ins Z.C dx (df L la)) → (∃ dx', H d = some (.ins Z.C dx' (df L la))) ∨ H la = none) → (∀ b o, H b = some o → b ≠ d → H' b = some o) → Q .non H') ∧
  ∀ o, ls.find? (fun o => clashB (home L l) o L) = some o → ∀ (dd : Addr) (v : V) (H' : Hp), Same H H' → H' dd = some (.xd [(("what" : Str), v)]) → Dp K H' v (.tuple [encL (home L l), encL o]) → H dd = none → E (.ref CL) (some dd) H'
section
variable {P : Program} {w : World} {K : PySem.W.Frag} {mg : Str → Option Value} {base : Heap} {Z : Ad} {Y : AdX}
theorem ok_Dark_hearX (T : Tx K w mg Z) (X : Ex P K mg Y) : FnOk P w K mg base (L2.CX P w) 5 Z.a_Dark_hear Z.d_Dark_hear P_Dark_hear (spHearX Z K Y.c_Clash) := by
  refine T.F_Dark_hear.okX scDark_hear (fun vs H Q E h => ?_) (fun cdv A outer s H vs Q E hr h => ?_)
  · obtain ⟨d, L, ls, l, rfl, _⟩ := h
    rfl
  · obtain ⟨d, L, ls, l, rfl, D, hw, hl, hlen, kno, kx⟩ := h
    obtain ⟨dx, la, xs, h1, h2, h3⟩ := D.ex
    have hsz := home_sized D.pos D.big hl
    refine ⟨_, (pss_cons (ps_set (i := 4) scDark_hear.nd rfl (Or.inl rfl) (pe_meth (pv 0) T.cl T.m_Darkhome (ok_Darkhome T) (hr.mono (by decide)) T.bb_Darkhome .nil pass0 (pa_cons (pv 1) (pa_cons (pv 2) (pa_cons (pv 3) pa_nil)))))
      (pss_cons (ps_set (i := 5) scDark_hear.nd rfl (Or.inl rfl) (pe_meth (pv 0) T.cl T.m_Darkclashing (ok_Darkclashing T) (hr.mono (by decide)) T.bb_Darkclashing .nil pass0 (pa_cons (pv 4) pa_nil)))
      (C8.pss_cut (ps_if (pt_cmpR op_notN (pv 5) pe_non (nomark _)) (pss_one (ps_raise rfl (takes_of rfl rfl rfl rfl) (pmk_err X.Clash X.g_Clash T.b_super hr (pa_cons (pe_tup (pa_cons (pv 4) (pa_cons (pv 5) pa_nil))) pa_nil)))) pss_nil)
      (pss_one (ps_if (pt_cmpR (notInDK (K := K) (rooms hr)) (pv 4) (fldK (K := K) (pv 0) rfl) (by rfl)) (pss_one (ps_fld (pv 0) (pe_callB (sortDK (K := K) encL (rooms hr)) (by rfl) T.b_sorted (by decide +kernel) (pa_cons (pe_op op_cat (fldK (K := K) (pv 0) rfl) (pe_lst (pa_cons (pv 4) pa_nil))) pa_nil)) rfl)) pss_nil))))), ?_⟩
    refine ⟨_, rfl, d, dx, _, rfl, h1, df_no _ _ (by decide +kernel) (by decide +kernel), _, rfl, _, rfl, _, rfl, d, L, ls, l, rfl, D, hw, hl, fun H1 r S hr => ?_⟩
    have D1 := D.same S
    refine ⟨_, rfl, d, dx, _, rfl, S _ _ h1, df_no _ _ (by decide +kernel) (by decide +kernel), _, rfl, d, r, L, ls, home L l, rfl, D1, hr, hw, hsz, fun hfind => ?_, fun o r2 ho hr2 => ?_⟩
    · have k := kno fun o ho => by simpa using List.find?_eq_none.mp hfind o ho
      refine ⟨fun σ' H' => σ' = [some (.ref d), some (.str l.1), some (.int l.2.1), some (.int l.2.2), some r, some .non] ∧ H' = H1, ?_, ?_⟩
      · exact ⟨_, rfl, rfl, _, rfl, iteF ⟨rfl, rfl⟩⟩
      · rintro σ2 H2 ⟨rfl, rfl⟩
        have hwords : ∀ o ∈ ls, WordOk o.1 := fun o ho => (D.ok o ho).1
        have hds := dpAll_mono S _ _ h3
        refine ⟨_, rfl, _, rfl, d, Z.C, dx, _, _, rfl, S _ _ h1, T.cl, T.n_looks, df_looks _ _, encL (home L l), ls.map encL, hr, .lst (SqL.of (S _ _ h2)) hds, shaped_look hw, shaped_looks hwords, _, rfl, ?_⟩
        rw [any_look]
        have fin : ∀ H', DarkAt Z K H' d L (heard L ls l) → (∀ la dx, H' d = some (.ins Z.C dx (df L la)) → (∃ dx', H d = some (.ins Z.C dx' (df L la))) ∨ H la = none) → (∀ b o, H2 b = some o → b ≠ d → H' b = some o) → Q .non H' := fun H' DD ff kk => k H' DD ff fun b o e hb => kk b o (S b o e) hb
        have okH : ∀ o ∈ heard L ls l, WordOk o.1 ∧ Sized 302 o := fun o ho => by
          rcases heard_mem.mp ho with h | h
          · exact D.ok o h
          · subst h; exact ⟨hw, hsz⟩
        have lenH : (heard L ls l).length ≤ 60 := Nat.le_trans (heard_len L ls l) hlen
        by_cases c : home L l ∈ ls
        · have e : (!decide (home L l ∈ ls)) = false := by simp [c]
          rw [e]
          refine iteF (fin H2 ?_ (fun la' dx' e => ?_) fun _ _ e _ => e)
          · have eh : heard L ls l = ls := if_pos c
            rw [eh]; exact D1
          · have e2 := e.symm.trans (S _ _ h1)
            rw [df_inj e2]
            exact .inl ⟨dx, h1⟩
        · have e : (!decide (home L l ∈ ls)) = true := by simp [c]
          rw [e]
          refine iteT ⟨_, rfl, d, Z.C, dx, _, _, rfl, S _ _ h1, T.cl, T.n_looks, df_looks _ _, _, rfl, (by show 1 ≤ sizeLine; decide), fun p hp => ?_⟩
          have S2 := same_upd (o := HO.lst [r]) hp
          have h2' := S2 _ _ (S _ _ h2)
          refine ⟨la, p, xs, [r], rfl, rfl, h2', upd_same, ?_, fun p2 hp2 => ?_⟩
          · have : xs.length = ls.length := by rw [dpAll_len h3, List.length_map]
            exact Nat.le_of_lt (small1000 (by simp; omega))
          have S3 := S2.trans (same_upd (o := HO.lst (xs ++ [r])) hp2)
          have hall : DpAll K (upd (upd H2 p (.lst [r])) p2 (.lst (xs ++ [r]))) (xs ++ [r]) ((ls ++ [home L l]).map encL) := by
            rw [List.map_append]
            exact dpAll_snoc (dpAll_mono S3 _ _ hds) (dp_mono S3 _ _ hr)
          refine ⟨p2, xs ++ [r], ls ++ [home L l], rfl, SqL.of upd_same, hall, alike_looks _, PySem.W.Sortable.tuples fun _ => ⟨_, _, rfl⟩, fun b _ => by rw [depth_look]; decide, fun p3 ys H3 hp3 S4 hy hys => ?_⟩
          have S5 := S3.trans S4
          have h1' := S5 _ _ (S _ _ h1)
          have hd3 : d ≠ p3 := fun e => by
            subst e
            rw [(S3 _ _ (S _ _ h1))] at hp3
            cases hp3
          refine ⟨_, rfl, d, Z.C, dx, df L la, rfl, h1', T.cl, T.n_looks, (by show 2 < 1000; decide), ?_⟩
          refine fin _ ⟨⟨dx, p3, ys, Eq.trans upd_same (congrArg (fun q => some (HO.ins Z.C dx q)) (df_put3 L la p3)), (upd_ne (Ne.symm hd3)).trans hy, ?_⟩, D.pos, D.big, okH, lenH⟩ (fun la' dx' e => ?_) fun b o e hb => (upd_ne hb).trans (S5 _ _ e)
          rotate_left
          · rw [upd_same, df_put3] at e
            rw [← df_inj e]
            exact .inr (S.free (S3.free hp3))
          have eh : heard L ls l = (ls ++ [home L l]).mergeSort (PySem.W.dataLe false encL) := if_neg c
          rw [eh]
          exact dpAll_tups (Tups.upd_ins h1') _ _ (noLs_map noL_encL _) hys
    · refine ⟨fun _ _ => False, ?_, fun _ _ z => z.elim⟩
      obtain ⟨pr, rfl, _⟩ := dp_look hr2
      refine ⟨_, rfl, rfl, _, rfl, iteT ?_⟩
      refine ⟨_, rfl, _, rfl, (by show 2 ≤ sizeLine; decide), fun q hq => ⟨_, rfl, fun dd hdd => ?_⟩⟩
      have S2 := same_upd (o := HO.tup [r, .ref pr]) hq
      have S3 := same_upd (o := HO.xd [(("what" : Str), V.ref q)]) hdd
      exact kx o ho dd (.ref q) _ (S.trans (S2.trans S3)) upd_same (.tup (SqT.of (S3 _ _ upd_same)) (.cons (dp_mono (S2.trans S3) _ _ hr) (.cons (dp_mono (S2.trans S3) _ _ hr2) .nil))) ((S.trans S2).free hdd)
end
end KA
namespace KA
open PySem PySem.Spec PyProof.Rows L2 DP
def spTray (K : PySem.W.Frag) : Sp := fun vs H Q _ => ∃ (a : Addr) (ns : List Int), vs = [.ref a] ∧ SqL K H a (ns.map V.int) ∧ ns.length ≤ 63 ∧ ∀ (H' : Hp) (t g : Addr), Tray H' t g 0 → Same H H' → H t = none → H g = none → Q (.ref t) H'
def spGreat : Sp := fun vs H Q _ => ∃ (t g : Addr) (n : Nat), vs = [.ref t] ∧ Tray H t g n ∧ n < 2 ^ 50 ∧ ∀ (H' : Hp) (r : Int), 0 ≤ r → r < 10 ^ 59 → Tray H' t g (n + 4) → Keep t g H H' → Q (.int r) H'
def spLength : Sp := fun vs H Q _ => ∃ (t g : Addr) (n : Nat), vs = [.ref t] ∧ Tray H t g n ∧ n < 2 ^ 49 ∧ ∀ (H' : Hp) (r : Int), 0 < r → r ≤ 10 ^ 30 → Tray H' t g (n + 10) → Keep t g H H' → Q (.int r) H'
theorem Tray.up {H : Hp} {t g : Addr} {m n : Nat} (T : Tray H t g m) (h : m ≤ n) : Tray H t g n := by
  obtain ⟨⟨gs, l, f, c, h1, h2, hl, hge, hl0, hf0, hf1, hc0, hc1⟩, hne⟩ := T
  exact ⟨⟨gs, l, f, c, h1, h2, hl, hge, hl0, hf0, hf1, hc0, by omega⟩, hne⟩
theorem pow_ten : (10 : Int) ^ (14 : Int).toNat = 10 ^ 14 ∧ (10 : Int) ^ (15 : Int).toNat = 10 ^ 15 ∧ (10 : Int) ^ (29 : Int).toNat = 10 ^ 29 ∧ (10 : Int) ^ (31 : Int).toNat = 10 ^ 31 ∧ (10 : Int) ^ (57 : Int).toNat = 10 ^ 57 := ⟨rfl, rfl, rfl, rfl, rfl⟩
section
variable {P : Program} {w : World} {K : PySem.W.Frag} {mg : Str → Option Value} {base : Heap} {Z : Ad}
theorem ok_law_tray (T : Tx K w mg Z) : FnOk P w K mg base CX0 1 Z.a_law_tray Z.d_law_tray P_law_tray (spTray K) := by
  refine T.F_law_tray.ok sclaw_tray (fun vs H Q E h => ?_) (fun cdv A outer s H vs Q E hr h => ?_)
  · obtain ⟨a, ns, rfl, _⟩ := h
    rfl
  · obtain ⟨a, ns, rfl, hS, hlen, k⟩ := h
    refine ⟨_, (pss_cons (ps_set (i := 1) sclaw_tray.nd rfl (Or.inl rfl) pe_int)
      (pss_cons (ps_set (i := 2) sclaw_tray.nd rfl (Or.inl rfl) (pe_lst pa_nil))
      (pss_cons (ps_for PassesOwn.never rfl (pi_list (pv 0)) (pg_name (i := 3) sclaw_tray.nd rfl (Or.inl rfl)) (pss_cons (ps_set (i := 1) sclaw_tray.nd rfl (Or.inl rfl) (pe_op op_mod (pe_op op_add (pe_op op_mulW (pv 1) pe_int) (pv 3)) (pe_op op_sub (pe_op op_pow pe_int pe_int) pe_int)))
      (pss_cons (ps_set (i := 4) sclaw_tray.nd rfl (Or.inl rfl) (pe_callB (call_max2 rfl) (by rfl) T.b_max (by decide +kernel) (pa_cons (pv 3) (pa_cons (pe_op op_sub pe_int (pv 3)) pa_nil))))
      (pss_one (ps_if (pt_cmpR op_ge (pv 4) (pe_op op_pow pe_int pe_int) (nomark _)) (pss_one (ps_expr (pe_bm PySem.F.plainAttrs_list PySem.F.slot_list_append PySem.F.type_list_append mt_append (pv 2) (pa_cons (pe_op op_sub (pv 4) (pe_op op_pow pe_int pe_int)) pa_nil)))) pss_nil)))))
      (pss_one (ps_ret (pe_lst (pa_cons (pv 2) (pa_cons pe_int (pa_cons (pv 1) (pa_cons pe_int pa_nil)))))))))), ?_⟩
    refine ⟨(by show 0 ≤ sizeLine; decide), fun G hG => ?_⟩
    refine ⟨_, rfl, a, rfl, ⟨_, Same.sqL (same_upd hG) hS⟩, ?_⟩
    refine for_list (K := K) (a := a) (xs := ns.map V.int) (fun i σ' H' => ∃ (gs : List Int) (f : Int) (u v : Option V), σ' = [some (.ref a), some (.int f), some (.ref G), u, v] ∧ Same H H' ∧ H' G = some (.lst (gs.map V.int)) ∧ gs.length ≤ i ∧ (∀ x ∈ gs, 0 ≤ x) ∧ 0 ≤ f ∧ f < 2 ^ 61)
      ⟨[], 314159265358979, none, none, rfl, same_upd hG, upd_same, Nat.le_refl _, (fun _ z => absurd z (by simp)), by decide, by decide⟩ (fun i σ' H' _ ⟨_, _, _, _, _, S, _⟩ => Same.sqL S hS) ?_ ?_
    · rintro i y σ' H' hi ⟨gs, f, u, v, rfl, S, hg, hgl, hge, hf0, hf1⟩
      obtain ⟨z, hz, rfl⟩ := map_at hi
      have hi63 : i < 63 := by
        have := (List.getElem?_eq_some_iff.mp hz).1
        omega
      have bf : f.natAbs < 2 ^ 61 := by omega
      refine ⟨_, rfl, _, _, rfl, rfl, wide_mul (b := 30) bf (by decide) (by decide) (by decide) (by decide), _, rfl, _, _, rfl, rfl, ?_⟩
      refine ⟨_, _, rfl, rfl, ⟨by decide, by decide, by decide⟩, _, _, rfl, rfl, _, _, rfl, rfl, (by show (0 : Int) < _; decide), ?_⟩
      have hx0 := Int.emod_nonneg (f * 1000003 + z) (show (2 : Int) ^ (61 : Int).toNat - 1 ≠ 0 by decide)
      have hx1 := Int.emod_lt_of_pos (f * 1000003 + z) (show (0 : Int) < (2 : Int) ^ (61 : Int).toNat - 1 by decide)
      have e61 : (2 : Int) ^ (61 : Int).toNat - 1 = 2305843009213693951 := by decide
      refine ⟨_, rfl, _, rfl, _, _, rfl, rfl, _, _, rfl, _, rfl, _, _, rfl, rfl, ⟨by decide, by decide, by decide⟩, _, _, rfl, rfl, _, rfl, ?_⟩
      refine ite2 (fun c => ?_) (fun _ => ?_)
      · refine ⟨_, rfl, .inl ⟨rfl, _, SqL.of hg⟩, _, rfl, _, _, rfl, rfl, ⟨by decide, by decide, by decide⟩, _, _, rfl, rfl, G, _, _, rfl, rfl, hg, ?_, ?_⟩
        · exact small1000 (by simp; omega)
        · have c' := of_decide_eq_true c
          refine ⟨gs ++ [(if 0 - z > z then 0 - z else z) - 10 ^ (18 : Int).toNat], _, _, _, rfl, same_set S hG, ?_, ?_, ?_, hx0, by rw [e61] at hx1; rw [e61]; omega⟩
          · rw [List.map_append]; exact upd_same
          · simp; omega
          · intro x hx
            rcases List.mem_append.mp hx with h | h
            · exact hge x h
            · rw [List.mem_singleton] at h
              subst h
              omega
      · exact ⟨gs, _, _, _, rfl, S, hg, by omega, hge, hx0, by rw [e61] at hx1; rw [e61]; omega⟩
    · rintro σ' H' ⟨gs, f, u, v, rfl, S, hg, hgl, hge, hf0, hf1⟩
      refine ⟨_, rfl, _, rfl, (by show 4 ≤ sizeLine; decide), fun t ht => ?_⟩
      have hgt : G ≠ t := ne_of_none hg ht
      refine k _ t G ⟨⟨gs, 0, f, 0, upd_same, (upd_ne hgt).trans hg, ?_, hge, Int.le_refl _, hf0, hf1, Int.le_refl _, Int.le_refl _⟩, Ne.symm hgt⟩ (same_set S (S.free ht)) (S.free ht) hG
      rw [List.length_map] at hgl
      omega
theorem ok_law_great (T : Tx K w mg Z) : FnOk P w K mg base CX0 2 Z.a_law_great Z.d_law_great P_law_great (spGreat) := by
  refine T.F_law_great.ok sclaw_great (fun vs H Q E h => ?_) (fun cdv A outer s H vs Q E hr h => ?_)
  · obtain ⟨t, g, n, rfl, _⟩ := h
    rfl
  · obtain ⟨t, g, n, rfl, hT, hn, k⟩ := h
    refine ⟨_, (pss_cons (ps_set (i := 1) sclaw_great.nd rfl (Or.inl rfl) (pe_call (ok_law_draw T) (hr.mono (by decide)) (by rfl) T.g_law_draw T.F_law_draw.kp T.bb_law_draw .nil pass0 (pa_cons (pv 0) (pa_cons (pe_op op_pow pe_int pe_int) pa_nil))))
      (pss_cons (ps_for PassesOwn.never rfl (pi_range1 (by rfl) T.b_range (pa_cons pe_int pa_nil)) (pg_name (i := 2) sclaw_great.nd rfl (Or.inl rfl)) (pss_one (ps_set (i := 1) sclaw_great.nd rfl (Or.inl rfl) (pe_op op_add (pe_op op_mulW (pv 1) (pe_op op_pow pe_int pe_int)) (pe_call (ok_law_draw T) (hr.mono (by decide)) (by rfl) T.g_law_draw T.F_law_draw.kp T.bb_law_draw .nil pass0 (pa_cons (pv 0) (pa_cons (pe_op op_pow pe_int pe_int) pa_nil)))))))
      (pss_one (ps_ret (pv 1))))), ?_⟩
    refine ⟨_, rfl, _, _, rfl, rfl, ⟨by decide, by decide, by decide⟩, t, g, n, _, rfl, hT, by decide, by decide, Nat.lt_trans hn (by decide), fun H1 r h0 h1 T1 k1 => ?_⟩
    refine ⟨3, rfl, by decide, by decide, ?_⟩
    refine for_range (n := 3) (fun i σ' H' => ∃ (r : Int) (u : Option V), σ' = [some (.ref t), some (.int r), u] ∧ 0 ≤ r ∧ r < 10 ^ 14 * (10 ^ 15) ^ i ∧ Tray H' t g (n + 1 + i) ∧ Keep t g H H') ⟨r, none, rfl, h0, by simpa using h1, T1, k1⟩ ?_ ?_
    · rintro i σ' H' hi ⟨r, u, rfl, r0, r1, T2, k2⟩
      have hb : (10 : Int) ^ 14 * (10 ^ 15) ^ i ≤ 10 ^ 14 * (10 ^ 15) ^ 2 := by
        have : i = 0 ∨ i = 1 ∨ i = 2 := by omega
        rcases this with e | e | e <;> subst e <;> decide
      have rb : r.natAbs < 2 ^ 200 := by
        have : r < 10 ^ 14 * (10 ^ 15) ^ 2 := Int.lt_of_lt_of_le r1 hb
        have e : (10 : Int) ^ 14 * (10 ^ 15) ^ 2 = 100000000000000000000000000000000000000000000 := by decide
        rw [e] at this
        have e2 : (2 : Nat) ^ 200 = 1606938044258990275541962092341162602522202993782792835301376 := by decide
        rw [e2]; omega
      refine ⟨_, rfl, _, _, rfl, rfl, ⟨by decide, by decide, by decide⟩, _, _, rfl, rfl, wide_mul (b := 60) rb (by decide) (by decide) (by decide) (by decide), ?_⟩
      refine ⟨_, rfl, _, _, rfl, rfl, ⟨by decide, by decide, by decide⟩, t, g, n + 1 + i, _, rfl, T2, by decide, by decide, (by omega), fun H3 q q0 q1 T3 k3 => ?_⟩
      refine ⟨_, _, rfl, rfl, ?_⟩
      have e15 : (10 : Int) ^ (15 : Int).toNat = 1000000000000000 := by decide
      rw [e15] at q1
      refine ⟨_, _, rfl, ?_, ?_, T3, k2.trans k3⟩
      · rw [e15]; omega
      · rw [e15, Int.pow_succ (10 ^ 15) i, ← Int.mul_assoc]
        generalize (10 : Int) ^ 14 * (10 ^ 15) ^ i = B at r1 ⊢
        have e : (10 : Int) ^ 15 = 1000000000000000 := by decide
        rw [e]; omega
    · rintro σ' H' ⟨r, u, rfl, r0, r1, T2, k2⟩
      refine ⟨_, rfl, k _ _ r0 ?_ (T2.up (by omega)) k2⟩
      exact Int.lt_of_lt_of_le r1 (by decide)
theorem ok_law_length (T : Tx K w mg Z) : FnOk P w K mg base CX0 3 Z.a_law_length Z.d_law_length P_law_length (spLength) := by
  refine T.F_law_length.ok sclaw_length (fun vs H Q E h => ?_) (fun cdv A outer s H vs Q E hr h => ?_)
  · obtain ⟨t, g, n, rfl, _⟩ := h
    rfl
  · obtain ⟨t, g, n, rfl, hT, hn, k⟩ := h
    refine ⟨_, (pss_cons (ps_set (i := 1) sclaw_length.nd rfl (Or.inl rfl) (pe_call (ok_law_draw T) (hr.mono (by decide)) (by rfl) T.g_law_draw T.F_law_draw.kp T.bb_law_draw .nil pass0 (pa_cons (pv 0) (pa_cons pe_int pa_nil))))
      (C8.pss_cut (ps_if (pt_cmpR op_eq (pv 1) pe_int (nomark _)) (pss_one (ps_ret (pe_callB (call_max2 rfl) (by rfl) T.b_max (by decide +kernel) (pa_cons pe_int (pa_cons (pe_op op_fdivW (pe_call (ok_law_great T) (hr.mono (by decide)) (by rfl) T.g_law_great T.F_law_great.kp T.bb_law_great .nil pass0 (pa_cons (pv 0) pa_nil)) (pe_op op_pow pe_int pe_int)) pa_nil))))) pss_nil)
      (pss_one (ps_ret (pe_op op_add pe_int (pe_call (ok_law_draw T) (hr.mono (by decide)) (by rfl) T.g_law_draw T.F_law_draw.kp T.bb_law_draw .nil pass0 (pa_cons (pv 0) (pa_cons (pe_ix (ixL (K := K)) (pe_lst (pa_cons pe_int (pa_cons pe_int (pa_cons pe_int (pa_cons pe_int (pa_cons pe_int pa_nil)))))) (pv 1) (fun _ _ => rfl)) pa_nil)))))))), ?_⟩
    have hn2 : n < 2 ^ 60 := Nat.lt_trans hn (by decide)
    have hn3 : n + 1 < 2 ^ 50 := Nat.lt_of_lt_of_le (Nat.add_lt_add_right hn 1) (by decide)
    refine ⟨_, rfl, t, g, n, _, rfl, hT, by decide, by decide, hn2, fun H1 lot l0 l1 T1 k1 => ?_⟩
    refine ⟨fun σ' H' => σ' = [some (.ref t), some (.int lot)] ∧ H' = H1 ∧ lot ≠ 5, ?_, ?_⟩
    · refine ⟨_, rfl, rfl, _, rfl, ?_⟩
      refine ite2 (fun c => ?_) (fun c => ⟨rfl, rfl, fun e => c (by rw [e]; decide)⟩)
      refine ⟨_, rfl, t, g, n + 1, rfl, T1, hn3, fun H2 r r0 r1 T2 k2 => ?_⟩
      refine ⟨_, _, rfl, rfl, ⟨by decide, by decide, by decide⟩, _, _, rfl, rfl, wide_div (b := 100) (by decide) (by decide) (by decide) (by decide), _, _, rfl, ?_⟩
      have e29 : (10 : Int) ^ (29 : Int).toNat = 100000000000000000000000000000 := by decide
      have e59 : (10 : Int) ^ 59 = 100000000000000000000000000000000000000000000000000000000000 := by decide
      have e30 : (10 : Int) ^ 30 = 1000000000000000000000000000000 := by decide
      rw [e59] at r1
      refine k _ _ ?_ ?_ (T2.up (by omega)) (k1.trans k2)
      · split <;> omega
      · rw [e29, e30]; split <;> omega
    · rintro σ' H' ⟨rfl, rfl, h5⟩
      have hc : ∃ m : Int, atI [V.int 3, .int 5, .int 12, .int 12, .int 400] lot = some (.int m) ∧ 0 < m ∧ m ≤ 400 := by
        have : lot = 0 ∨ lot = 1 ∨ lot = 2 ∨ lot = 3 ∨ lot = 4 := by omega
        rcases this with e | e | e | e | e <;> subst e
        · exact ⟨3, rfl, by decide, by decide⟩
        · exact ⟨5, rfl, by decide, by decide⟩
        · exact ⟨12, rfl, by decide, by decide⟩
        · exact ⟨12, rfl, by decide, by decide⟩
        · exact ⟨400, rfl, by decide, by decide⟩
      obtain ⟨m, hm, m0, m1⟩ := hc
      have hmb : m.natAbs < 2 ^ 1000 := Nat.lt_of_le_of_lt (by omega : m.natAbs ≤ 400) (by decide)
      refine ⟨_, rfl, (by show 5 ≤ sizeLine; decide), fun p hp => ?_⟩
      refine ⟨_, rfl, p, _, _, _, rfl, rfl, SqL.of upd_same, hm, ?_⟩
      have T2 : Tray (upd H' p (.lst [V.int 3, .int 5, .int 12, .int 12, .int 400])) t g (n + 1) := T1.same (same_upd hp)
      refine ⟨t, g, n + 1, m, rfl, T2, m0, hmb, Nat.lt_trans hn3 (by decide), fun H3 r r0 r1 T3 k3 => ?_⟩
      refine ⟨_, _, rfl, rfl, k _ _ (by omega) ?_ (T3.up (by omega)) (k1.trans ((Keep.of_same (same_upd hp)).trans k3))⟩
      have e30 : (10 : Int) ^ 30 = 1000000000000000000000000000000 := by decide
      rw [e30]; omega
end
end KA
namespace KA
open PySem PySem.Spec PyProof.Rows L2 DP
abbrev Pr := Int × Int
def encP (p : Pr) : PyData := .tuple [.int p.1, .int p.2]
theorem noL_encP (p : Pr) : noL (encP p) = true := rfl
/-- where each step leads x -/
def leads (L : Int) (steps : List Pr) (x : Int) : List Int := steps.map fun s => s.2 + (x - s.1) / L * L
def IsMaxL (l : List Int) (m : Int) : Prop := m ∈ l ∧ ∀ y ∈ l, y ≤ m
def StepsOk (L : Int) (steps : List Pr) : Prop := steps ≠ [] ∧ steps.length ≤ 6 ∧ ∀ s ∈ steps, 0 ≤ s.1 ∧ s.1 < L ∧ s.2.natAbs < 2 ^ 196
/-- a list of data at p, tracked -/
def LAt (K : PySem.W.Frag) (H : Hp) (p : Addr) (ds : List PyData) : Prop := ∃ vs, H p = some (.lst vs) ∧ DpAll K H vs ds
theorem LAt.dp {K : PySem.W.Frag} {H : Hp} {p : Addr} {ds : List PyData} (h : LAt K H p ds) : Dp K H (.ref p) (.list ds) := by
  obtain ⟨vs, h1, h2⟩ := h
  exact .lst (SqL.of h1) h2
theorem LAt.same {K : PySem.W.Frag} {H H' : Hp} {p : Addr} {ds : List PyData} (h : LAt K H p ds) (S : Same H H') : LAt K H' p ds := by
  obtain ⟨vs, h1, h2⟩ := h
  exact ⟨vs, S _ _ h1, dpAll_mono S _ _ h2⟩
theorem Keep.tups {H H' : Hp} {t g : Addr} {n : Nat} (T : Tray H t g n) (k : Keep t g H H') : Tups H H' := fun b xs hb => by
  obtain ⟨⟨gs, l, f, c, h1, h2, r⟩, hne⟩ := T
  rcases hb with e | ⟨q, e⟩
  · refine .inl (k b _ e ?_ ?_) <;> rintro rfl
    · rw [h1] at e; cases e
    · rw [h2] at e; cases e
  · refine .inr ⟨q, k b _ e ?_ ?_⟩ <;> rintro rfl
    · rw [h1] at e; cases e
    · rw [h2] at e; cases e
theorem LAt.keep {K : PySem.W.Frag} {H H' : Hp} {t g p : Addr} {n : Nat} {ds : List PyData} (h : LAt K H p ds) (T : Tray H t g n) (k : Keep t g H H') (h1 : p ≠ t) (h2 : p ≠ g) (hn : noL.noLs ds = true) : LAt K H' p ds := by
  obtain ⟨vs, a, b⟩ := h
  exact ⟨vs, k _ _ a h1 h2, dpAll_tups (Keep.tups T k) _ _ hn b⟩
theorem Tray.at_ne {H : Hp} {t g p : Addr} {n : Nat} (T : Tray H t g n) (hp : H p = none) : p ≠ t ∧ p ≠ g := by
  obtain ⟨⟨gs, l, f, c, h1, h2, r⟩, hne⟩ := T
  exact ⟨Ne.symm (ne_of_none h1 hp), Ne.symm (ne_of_none h2 hp)⟩
theorem Keep.free {H H' : Hp} {t g p : Addr} {n : Nat} (T : Tray H t g n) (k : Keep t g H H') (hp : H' p = none) (T' : ∃ m, Tray H' t g m) : H p = none := by
  obtain ⟨m, T'⟩ := T'
  obtain ⟨h1, h2⟩ := T'.at_ne hp
  cases e : H p with
  | none => rfl
  | some o =>
    rw [k p o e h1 h2] at hp
    cases hp
def spLead (K : PySem.W.Frag) : Sp := fun vs H Q _ => ∃ (v : V) (L x : Int) (steps : List Pr), vs = [.int L, v, .int x] ∧ Dp K H v (.list (steps.map encP)) ∧ 0 < L ∧ L.natAbs < 2 ^ 200 ∧ x.natAbs < 2 ^ 300 ∧ StepsOk L steps ∧ ∀ m H', Same H H' → IsMaxL (leads L steps x) m → Q (.int m) H'
def spSecret (K : PySem.W.Frag) : Sp := fun vs H Q _ => ∃ (t g : Addr) (n : Nat) (L : Int), vs = [.ref t, .int L] ∧ Tray H t g n ∧ n < 2 ^ 45 ∧ 0 < L ∧ L ≤ 10 ^ 30 ∧
  ∀ (H' : Hp) (p : Addr) (steps : List Pr), H p = none → Tray H' t g (n + 30) → Keep t g H H' → LAt K H' p (steps.map encP) → StepsOk L steps → Q (.ref p) H'
theorem dp_pair {K : PySem.W.Frag} {H : Hp} {v : V} {p : Pr} (h : Dp K H v (encP p)) : ∃ a, v = .ref a ∧ SqT K H a [.int p.1, .int p.2] := by
  have h' : Dp K H v (.tuple [.int p.1, .int p.2]) := h
  cases h' with
  | tup s a =>
    cases a with
    | cons a1 a =>
      cases a with
      | cons a2 a =>
        cases a; cases a1; cases a2
        exact ⟨_, rfl, s⟩
section
variable {P : Program} {w : World} {K : PySem.W.Frag} {mg : Str → Option Value} {base : Heap} {Z : Ad}
theorem ok_law_lead (T : Tx K w mg Z) : FnOk P w K mg base CX0 1 Z.a_law_lead Z.d_law_lead P_law_lead (spLead K) := by
  refine T.F_law_lead.ok sclaw_lead (fun vs H Q E h => ?_) (fun cdv A outer s H vs Q E hr h => ?_)
  · obtain ⟨v, L, x, steps, rfl, _⟩ := h
    rfl
  · obtain ⟨v, L, x, steps, rfl, hv, hL, hLb, hx, ⟨hne, hlen, hst⟩, k⟩ := h
    obtain ⟨a, xs, rfl, ha, hd⟩ := dp_list hv
    have hxl : xs.length = steps.length := by rw [dpAll_len hd, List.length_map]
    refine ⟨_, (pss_one (ps_ret (pe_callB (maxK (K := K) rfl) (by rfl) T.b_max (by decide +kernel) (pa_cons (pe_lc (own := [("here", 3), ("there", 4)]) (g := gTup K 2 (gCons (gName 3) (gCons (gName 4) gNil))) (tt := tYes) rfl sclaw_lead.nd (pi_list (pv 1)) (blkOk_by (own := [("here", 3), ("there", 4)]) (N := N_law_lead) (sc := defScope slaw_lead) (by decide +kernel)) (fun _ _ _ _ _ => (tupK (K := K) (by rfl) (pgs_cons (pg_name (i := 3) sclaw_lead.nd rfl (Or.inl rfl)) (pgs_cons (pg_name (i := 4) sclaw_lead.nd rfl (Or.inl rfl)) pgs_nil)))) (fun _ _ _ _ _ => pts_nil) (fun _ _ _ _ _ => (pe_op op_add (pv 4) (pe_op op_mulW (pe_op op_fdivW (pe_op op_sub (pv 2) (pv 3)) (pv 0)) (pv 0))))) pa_nil)))), ?_⟩
    refine ⟨_, rfl, a, rfl, ⟨_, ha⟩, fun D hD => ?_⟩
    refine lc_list (K := K) (a := a) (xs := xs) (fun i H' => Same H H' ∧ H' D = some (.lst ((leads L (steps.take i) x).map V.int))) ⟨same_upd hD, upd_same⟩ (fun i H' _ ⟨S, _⟩ => Same.sqL S ha) ?_ ?_
    · rintro i y H' hi ⟨S, hD'⟩
      obtain ⟨d, hdi, hdy⟩ := dpAll_get hd hi
      obtain ⟨l, hl, rfl⟩ := map_at hdi
      obtain ⟨s0, s1, s2⟩ := hst l (List.mem_of_getElem? hl)
      obtain ⟨p, rfl, hp⟩ := dp_pair (dp_mono S _ _ hdy)
      have b1 : l.1.natAbs < 2 ^ 300 := Nat.lt_of_le_of_lt (by clear hLb; omega : l.1.natAbs ≤ L.natAbs) (Nat.lt_trans hLb (by decide))
      refine ⟨_, _, rfl, hp, rfl, _, _, rfl, _, _, rfl, rfl, rfl, yes_ite ?_⟩
      refine ⟨_, rfl, _, rfl, _, rfl, _, _, rfl, rfl, _, rfl, _, _, rfl, rfl, wide_div hL hLb (by decide) (by decide), _, rfl, _, _, rfl, rfl, wide_mul (div_lt hL (sub_lt hx b1)) hLb (by decide) (by decide) (by decide), _, _, rfl, rfl, ?_⟩
      refine ⟨_, hD', ?_, same_set S hD, ?_⟩
      · have : i < steps.length := (List.getElem?_eq_some_iff.mp hl).1
        exact small1000 (by simp [leads]; omega)
      · have e : leads L (steps.take (i + 1)) x = leads L (steps.take i) x ++ [l.2 + (x - l.1) / L * L] := by
          unfold leads; rw [take_snoc hl, List.map_append]; rfl
        rw [e, List.map_append]
        exact upd_same
    · rintro H' ⟨S, hD'⟩
      rw [List.take_of_length_le (by rw [hxl]; exact Nat.le_refl _)] at hD'
      refine ⟨D, leads L steps x, rfl, SqL.of hD', ?_, fun m h1 h2 => k m H' S ⟨h1, h2⟩⟩
      have : 0 < steps.length := List.length_pos_iff.mpr hne
      simpa [leads] using this
end
end KA
namespace KA
open PySem PySem.Spec PyProof.Rows L2 DP
theorem small_nat {L : Int} {a : Int} {n : Nat} (h0 : 0 ≤ a) (h1 : a ≤ L) (hL : L.natAbs < 2 ^ n) : a.natAbs < 2 ^ n := Nat.lt_of_le_of_lt (by omega : a.natAbs ≤ L.natAbs) hL
theorem bigL {L : Int} (h0 : 0 < L) (h : L ≤ 10 ^ 30) : L.natAbs < 2 ^ 100 := by
  have e : (10 : Int) ^ 30 = 1000000000000000000000000000000 := by decide
  have e2 : (2 : Nat) ^ 100 = 1267650600228229401496703205376 := by decide
  rw [e] at h; rw [e2]; omega
/-- what the tray's calls keep of the frame: the tray, all else, so far m draws -/
structure At (H Hc : Hp) (t g : Addr) (m : Nat) : Prop where
  T : Tray Hc t g m
  k : Keep t g H Hc
theorem At.step {H H1 H2 : Hp} {t g : Addr} {m m' : Nat} (a : At H H1 t g m) (T : Tray H2 t g m') (k : Keep t g H1 H2) : At H H2 t g m' := ⟨T, a.k.trans k⟩
theorem At.up {H Hc : Hp} {t g : Addr} {m m' : Nat} (a : At H Hc t g m) (h : m ≤ m') : At H Hc t g m' := ⟨a.T.up h, a.k⟩
theorem At.new {H H1 : Hp} {t g p : Addr} {m : Nat} {o : HO} (a : At H H1 t g m) (hp : H1 p = none) : At H (upd H1 p o) t g m := ⟨a.T.same (same_upd hp), a.k.trans (Keep.of_same (same_upd hp))⟩
theorem At.free {H H1 : Hp} {t g p : Addr} {m : Nat} (a : At H H1 t g m) (hp : H1 p = none) : H p = none := by
  obtain ⟨h1, h2⟩ := a.T.at_ne hp
  cases e : H p with
  | none => rfl
  | some o =>
    rw [a.k p o e h1 h2] at hp
    cases hp
/-- a list that a comprehension makes is changed: it is new -/
theorem At.acc {H H1 : Hp} {t g D : Addr} {m : Nat} {o : HO} (a : At H H1 t g m) (hD : H D = none) (h1 : D ≠ t) (h2 : D ≠ g) : At H (upd H1 D o) t g m := by
  obtain ⟨⟨⟨gs, l, f, c, e1, e2, r⟩, hne⟩, k⟩ := a
  exact ⟨⟨⟨gs, l, f, c, (upd_ne (Ne.symm h1)).trans e1, (upd_ne (Ne.symm h2)).trans e2, r⟩, hne⟩, fun b o e n1 n2 => (upd_ne (ne_of_none e hD)).trans (k b o e n1 n2)⟩
section
variable {P : Program} {w : World} {K : PySem.W.Frag} {mg : Str → Option Value} {base : Heap} {Z : Ad}
theorem ok_law_secret (T : Tx K w mg Z) : FnOk P w K mg base CX0 3 Z.a_law_secret Z.d_law_secret P_law_secret (spSecret K) := by
  refine T.F_law_secret.ok sclaw_secret (fun vs H Q E h => ?_) (fun cdv A outer s H vs Q E hr h => ?_)
  · obtain ⟨t, g, n, L, rfl, _⟩ := h
    rfl
  · obtain ⟨t, g, n, L, rfl, hT, hn, hL, hL30, k⟩ := h
    have hLb := bigL hL hL30
    have hb : ∀ m, m ≤ n + 30 → m < 2 ^ 49 := fun m hm => Nat.lt_of_le_of_lt hm (Nat.lt_of_lt_of_le (Nat.add_lt_add_right hn 30) (by decide))
    have hb' : ∀ m, m ≤ n + 30 → m < 2 ^ 60 := fun m hm => Nat.lt_trans (hb m hm) (by decide)
    refine ⟨_, (pss_cons (ps_set (i := 2) sclaw_secret.nd rfl (Or.inr rfl) (pe_callB (sortedSetK (w := w) rfl) (by rfl) T.b_sorted (by decide +kernel) (pa_cons (pe_callTy (setIK (K := K) (w := w) rfl) (by rfl) T.b_set (by decide +kernel) (pa_cons (pe_lc (own := [("k", 3)]) (g := gName 3) (tt := tYes) rfl sclaw_secret.nd (pi_range1 (by rfl) T.b_range (pa_cons (pe_op op_add pe_int (pe_call (ok_law_draw T) (hr.mono (by decide)) (by rfl) T.g_law_draw T.F_law_draw.kp T.bb_law_draw .nil pass0 (pa_cons (pv 0) (pa_cons pe_int pa_nil)))) pa_nil)) (blkOk_by (own := [("k", 3)]) (N := N_law_secret) (sc := defScope slaw_secret) (by decide +kernel)) (fun _ _ _ _ _ => (pg_name (i := 3) sclaw_secret.nd rfl (Or.inl rfl))) (fun _ _ _ _ _ => pts_nil) (fun _ _ _ _ _ => (pe_call (ok_law_draw T) (hr.mono (by decide)) (by rfl) T.g_law_draw T.F_law_draw.kp T.bb_law_draw .nil pass0 (pa_cons (pv 0) (pa_cons (pv 1) pa_nil))))) pa_nil)) pa_nil)))
      (pss_cons (ps_set (i := 4) sclaw_secret.nd rfl (Or.inr rfl) (pe_callB (sortK (K := K)) (by rfl) T.b_sorted (by decide +kernel) (pa_cons (pe_lc (own := [("spot", 5)]) (g := gName 5) (tt := tYes) rfl sclaw_secret.nd (pi_list (pv 2)) (blkOk_by (own := [("spot", 5)]) (N := N_law_secret) (sc := defScope slaw_secret) (by decide +kernel)) (fun _ _ _ _ _ => (pg_name (i := 5) sclaw_secret.nd rfl (Or.inl rfl))) (fun _ _ _ _ _ => pts_nil) (fun _ _ _ _ _ => (pe_call (ok_law_draw T) (hr.mono (by decide)) (by rfl) T.g_law_draw T.F_law_draw.kp T.bb_law_draw .nil pass0 (pa_cons (pv 0) (pa_cons (pe_op op_add (pv 1) pe_int) pa_nil))))) pa_nil)))
      (pss_cons (ps_set (i := 6) sclaw_secret.nd rfl (Or.inl rfl) (pe_call (ok_law_draw T) (hr.mono (by decide)) (by rfl) T.g_law_draw T.F_law_draw.kp T.bb_law_draw .nil pass0 (pa_cons (pv 0) (pa_cons pe_int pa_nil))))
      (pss_cons (ps_set (i := 7) sclaw_secret.nd rfl (Or.inr rfl) (pe_ix (ixL (K := K)) (pe_lst (pa_cons pe_int (pa_cons (pe_call (ok_law_draw T) (hr.mono (by decide)) (by rfl) T.g_law_draw T.F_law_draw.kp T.bb_law_draw .nil pass0 (pa_cons (pv 0) (pa_cons (pe_op op_add (pv 1) pe_int) pa_nil))) (pa_cons (pe_op op_sub (pe_call (ok_law_draw T) (hr.mono (by decide)) (by rfl) T.g_law_draw T.F_law_draw.kp T.bb_law_draw .nil pass0 (pa_cons (pv 0) (pa_cons (pe_op op_add (pe_op op_mulW pe_int (pv 1)) pe_int) pa_nil))) (pe_op op_mulW pe_int (pv 1))) pa_nil)))) (pe_op op_mod (pv 6) pe_int) (fun _ _ => rfl)))
      (C8.pss_cut (ps_if (pt_cmpR op_eq (pv 6) pe_int (nomark _)) (pss_one (ps_set (i := 7) sclaw_secret.nd rfl (Or.inr rfl) (pe_op op_sub (pe_op op_fdivW (pe_call (ok_law_great T) (hr.mono (by decide)) (by rfl) T.g_law_great T.F_law_great.kp T.bb_law_great .nil pass0 (pa_cons (pv 0) pa_nil)) pe_int) (pe_op op_pow pe_int pe_int)))) pss_nil)
      (pss_one (ps_ret (pe_lc (own := [("k", 3)]) (g := gName 3) (tt := tYes) rfl sclaw_secret.nd (pi_range1 (by rfl) T.b_range (pa_cons (pe_callB (lenK (K := K)) (by rfl) T.b_len (by decide +kernel) (pa_cons (pv 2) pa_nil)) pa_nil)) (blkOk_by (own := [("k", 3)]) (N := N_law_secret) (sc := defScope slaw_secret) (by decide +kernel)) (fun _ _ _ _ _ => (pg_name (i := 3) sclaw_secret.nd rfl (Or.inl rfl))) (fun _ _ _ _ _ => pts_nil) (fun _ _ _ _ _ => (pe_tup (pa_cons (pe_ix (ixL (K := K)) (pv 2) (pv 3) (fun _ _ => rfl)) (pa_cons (pe_op op_add (pv 7) (pe_ix (ixL (K := K)) (pv 4) (pv 3) (fun _ _ => rfl))) pa_nil)))))))))))), ?_⟩
    -- spots = sorted(set([_law_draw(tray, size) for k in range(1 + _law_draw(tray, 6))]))
    refine ⟨_, rfl, t, g, n, 6, rfl, hT, by decide, by decide, hb' _ (by omega), fun H1 d0 d1 d2 T1 k1 => ?_⟩
    have A1 : At H H1 t g (n + 1) := ⟨T1, k1⟩
    refine ⟨_, _, rfl, rfl, 1 + d0, rfl, by omega, by omega, fun D hD => ?_⟩
    obtain ⟨Dt, Dg⟩ := T1.at_ne hD
    have hDH := A1.free hD
    refine lc_range (lo := 0) (n := (1 + d0).toNat) (fun i H' => At H H' t g (n + 1 + i) ∧ ∃ ns : List Int, H' D = some (.lst (ns.map V.int)) ∧ ns.length = i ∧ ∀ x ∈ ns, 0 ≤ x ∧ x < L) ⟨A1.new hD, [], upd_same, rfl, fun _ z => absurd z (by simp)⟩ ?_ ?_
    · rintro i H' hi ⟨A, ns, hd, hl, hx⟩
      have hi6 : i < 6 := by omega
      refine ⟨rfl, yes_ite ?_⟩
      refine ⟨_, rfl, _, rfl, t, g, n + 1 + i, L, rfl, A.T, hL, lt_up hLb (by decide), hb' _ (by omega), fun H2 r r0 r1 T2 k2 => ?_⟩
      have hd2 := k2 _ _ hd Dt Dg
      refine ⟨_, hd2, small1000 (by simp; omega), (A.step T2 k2).acc hDH Dt Dg, ns ++ [r], ?_, by simp [hl], fun x hx' => ?_⟩
      · rw [List.map_append]; exact upd_same
      · rcases List.mem_append.mp hx' with h | h
        · exact hx x h
        · rw [List.mem_singleton] at h; subst h; exact ⟨r0, r1⟩
    rintro H2 ⟨A2, ns, hd, hnl, hx⟩
    refine ⟨D, ns, rfl, SqL.of hd, by omega, fun q c hc hq => ?_⟩
    refine ⟨q, _, c, rfl, upd_same, by omega, fun ss p hpw hmem hsl hp => ?_⟩
    have A3 := (A2.new (o := SetO w q (fun j => decide (j ∈ ns)) c) hq).new (o := HO.lst (ss.map V.int)) hp
    generalize eH3 : upd (upd H2 q (SetO w q (fun j => decide (j ∈ ns)) c)) p (.lst (ss.map V.int)) = H3 at A3 ⊢
    have hp3 : H3 p = some (.lst (ss.map V.int)) := by rw [← eH3]; exact upd_same
    have hpH : H p = none := (A2.new (o := SetO w q (fun j => decide (j ∈ ns)) c) hq).free hp
    obtain ⟨pt, pg⟩ := (A2.new (o := SetO w q (fun j => decide (j ∈ ns)) c) hq).T.at_ne hp
    have hss : ∀ x ∈ ss, 0 ≤ x ∧ x < L := fun x hx' => hx x (of_decide_eq_true ((hmem x).mp hx'))
    have hss6 : ss.length ≤ 6 := by rw [hsl]; omega
    have hssne : ss ≠ [] := by
      cases ns with
      | nil => simp at hnl; omega
      | cons y r =>
        intro e
        have : y ∈ ss := (hmem y).mpr (by simp)
        rw [e] at this; cases this
    have A3' : At H H3 t g (n + 7) := A3.up (by omega)
    -- rises = sorted([_law_draw(tray, size + 1) for spot in spots])
    refine ⟨_, rfl, p, rfl, ⟨_, SqL.of hp3⟩, fun D2 hD2 => ?_⟩
    obtain ⟨D2t, D2g⟩ := A3'.T.at_ne hD2
    have hD2H := A3'.free hD2
    have hD2p : p ≠ D2 := ne_of_none hp3 hD2
    refine lc_list (K := K) (a := p) (xs := ss.map V.int) (fun i H' => At H H' t g (n + 7 + i) ∧ H' p = some (.lst (ss.map V.int)) ∧ ∃ ns : List Int, H' D2 = some (.lst (ns.map V.int)) ∧ ns.length = i ∧ ∀ x ∈ ns, 0 ≤ x ∧ x ≤ L)
      ⟨A3'.new hD2, (upd_ne hD2p).trans hp3, [], upd_same, rfl, fun _ z => absurd z (by simp)⟩ (fun i H' _ ⟨_, h, _⟩ => SqL.of h) ?_ ?_
    · rintro i y H' hi ⟨A, hpk, ns2, hd, hl, hx2⟩
      have hi6 : i < 6 := by
        have := (List.getElem?_eq_some_iff.mp hi).1
        rw [List.length_map] at this; omega
      refine ⟨rfl, yes_ite ?_⟩
      refine ⟨_, rfl, _, rfl, _, _, rfl, rfl, t, g, n + 7 + i, L + 1, rfl, A.T, by omega, lt_up (add_lt hLb (show (1 : Int).natAbs < 2 ^ 100 by decide)) (by decide), hb' _ (by omega), fun H4 r r0 r1 T4 k4 => ?_⟩
      have hd2 := k4 _ _ hd D2t D2g
      refine ⟨_, hd2, small1000 (by simp; omega), (A.step T4 k4).acc hD2H D2t D2g, (upd_ne hD2p).trans (k4 _ _ hpk pt pg), ns2 ++ [r], ?_, by simp [hl], fun x hx' => ?_⟩
      · rw [List.map_append]; exact upd_same
      · rcases List.mem_append.mp hx' with h | h
        · exact hx2 x h
        · rw [List.mem_singleton] at h; subst h; exact ⟨r0, by omega⟩
    rintro H4 ⟨A4, hp4, ns2, hd2, hnl2, hx2⟩
    rw [List.length_map] at A4 hnl2
    refine ⟨D2, ns2, rfl, SqL.of hd2, by omega, fun rs p2 hperm hsrt hp2 => ?_⟩
    have hrl : rs.length = ss.length := by rw [hperm.length_eq, hnl2]
    have hrs : ∀ x ∈ rs, 0 ≤ x ∧ x ≤ L := fun x hx' => hx2 x (hperm.mem_iff.mp hx')
    obtain ⟨p2t, p2g⟩ := A4.T.at_ne hp2
    have hp2p : p ≠ p2 := ne_of_none hp4 hp2
    have A5 : At H (upd H4 p2 (.lst (rs.map V.int))) t g (n + 13) := (A4.new hp2).up (by omega)
    have hp5 : (upd H4 p2 (.lst (rs.map V.int))) p = some (.lst (ss.map V.int)) := (upd_ne hp2p).trans hp4
    have hq5 : (upd H4 p2 (.lst (rs.map V.int))) p2 = some (.lst (rs.map V.int)) := upd_same
    generalize upd H4 p2 (.lst (rs.map V.int)) = H5 at A5 hp5 hq5 ⊢
    -- lot = _law_draw(tray, 6)
    refine ⟨_, rfl, t, g, n + 13, 6, rfl, A5.T, by decide, by decide, hb' _ (by omega), fun H6 lot l0 l1 T6 k6 => ?_⟩
    have A6 := A5.step T6 k6
    have hp6 := k6 _ _ hp5 pt pg
    have hq6 := k6 _ _ hq5 p2t p2g
    -- base = [0, _law_draw(tray, size + 1), _law_draw(tray, 4 * size + 1) - 2 * size][lot % 3]
    refine ⟨_, rfl, _, rfl, _, _, rfl, rfl, t, g, n + 14, L + 1, rfl, A6.T, by omega, lt_up (add_lt hLb (show (1 : Int).natAbs < 2 ^ 100 by decide)) (by decide), hb' _ (by omega), fun H7 b1 c0 c1 T7 k7 => ?_⟩
    have A7 := A6.step T7 k7
    have b4 : (4 * L).natAbs < 2 ^ 103 := by rw [Int.natAbs_mul]; exact Nat.lt_of_lt_of_le (Nat.mul_lt_mul_of_le_of_lt (Nat.le_refl 4) hLb (by decide)) (by decide)
    refine ⟨_, rfl, _, rfl, _, _, rfl, rfl, wide_mul (a := 10) (by decide) hLb (by decide) (by decide) (by decide), _, _, rfl, rfl, t, g, n + 15, 4 * L + 1, rfl, A7.T, by omega, lt_up (add_lt b4 (show (1 : Int).natAbs < 2 ^ 103 by decide)) (by decide), hb' _ (by omega), fun H8 b2 f0 f1 T8 k8 => ?_⟩
    have A8 := A7.step T8 k8
    refine ⟨_, rfl, _, _, rfl, rfl, wide_mul (a := 10) (by decide) hLb (by decide) (by decide) (by decide), _, _, rfl, rfl, (by show 3 ≤ sizeLine; decide), fun p3 hp3 => ?_⟩
    have hp8 := k8 _ _ (k7 _ _ hp6 pt pg) pt pg
    have hq8 := k8 _ _ (k7 _ _ hq6 p2t p2g) p2t p2g
    have hbase : ∃ b : Int, atI [V.int 0, .int b1, .int (b2 - 2 * L)] (lot % 3) = some (.int b) ∧ b.natAbs < 2 ^ 193 := by
      have e1 : b1.natAbs < 2 ^ 193 := by
        have : b1.natAbs < 2 ^ 101 := small_nat c0 (by omega : b1 ≤ L) (lt_up hLb (by decide))
        exact lt_up this (by decide)
      have e2 : (b2 - 2 * L).natAbs < 2 ^ 193 := by
        have : (b2 - 2 * L).natAbs ≤ (4 * L).natAbs := by clear hLb b4; omega
        exact Nat.lt_of_le_of_lt this (lt_up b4 (by decide))
      have : lot % 3 = 0 ∨ lot % 3 = 1 ∨ lot % 3 = 2 := by omega
      rcases this with e | e | e <;> rw [e]
      · exact ⟨0, rfl, by decide⟩
      · exact ⟨b1, rfl, e1⟩
      · exact ⟨b2 - 2 * L, rfl, e2⟩
    obtain ⟨b, hbi, hbb⟩ := hbase
    refine ⟨_, rfl, _, _, rfl, rfl, (by show (0 : Int) < 3; decide), p3, _, _, _, rfl, rfl, SqL.of upd_same, hbi, ?_⟩
    have A9 : At H _ t g (n + 16) := A8.new (o := HO.lst [V.int 0, .int b1, .int (b2 - 2 * L)]) hp3
    have hp9 := (same_upd (o := HO.lst [V.int 0, .int b1, .int (b2 - 2 * L)]) hp3) _ _ hp8
    have hq9 := (same_upd (o := HO.lst [V.int 0, .int b1, .int (b2 - 2 * L)]) hp3) _ _ hq8
    generalize upd H8 p3 (.lst [V.int 0, .int b1, .int (b2 - 2 * L)]) = H9 at A9 hp9 hq9 ⊢
    -- if lot == 5: base = _law_great(tray) // 10 - 10 ** 57
    refine ⟨fun σ' H' => ∃ b : Int, σ' = [some (.ref t), some (.int L), some (.ref p), none, some (.ref p2), none, some (.int lot), some (.int b)] ∧ b.natAbs < 2 ^ 194 ∧ At H H' t g (n + 20) ∧ H' p = some (.lst (ss.map V.int)) ∧ H' p2 = some (.lst (rs.map V.int)), ?_, ?_⟩
    · refine ⟨_, rfl, rfl, _, rfl, ?_⟩
      refine ite2 (fun _ => ?_) (fun _ => ⟨b, rfl, lt_up hbb (by decide), A9.up (by omega), hp9, hq9⟩)
      refine ⟨_, rfl, t, g, n + 16, rfl, A9.T, Nat.lt_trans (hb _ (by omega)) (by decide), fun H10 r r0 r1 T10 k10 => ?_⟩
      refine ⟨_, _, rfl, rfl, wide_div (b := 10) (by decide) (by decide) (by decide) (by decide), _, _, rfl, rfl, ⟨by decide, by decide, by decide⟩, _, _, rfl, rfl, ?_⟩
      refine ⟨_, rfl, ?_, (A9.step T10 k10).up (by omega), k10 _ _ hp9 pt pg, k10 _ _ hq9 p2t p2g⟩
      have e57 : (10 : Int) ^ (57 : Int).toNat = 10 ^ 57 := rfl
      show (r / 10 - (10 : Int) ^ (57 : Int).toNat).natAbs < 2 ^ 194
      rw [e57]
      exact Nat.lt_of_le_of_lt (by omega : _ ≤ 10 ^ 58) (by decide)
    rintro σ' H10 ⟨b, rfl, hbb, A10, hp10, hq10⟩
    -- return [(spots[k], base + rises[k]) for k in range(len(spots))]
    refine ⟨_, rfl, p, _, rfl, .inl (SqL.of hp10), _, rfl, ?_, ?_, fun D3 hD3 => ?_⟩
    · exact Int.le_trans (by decide) (Int.natCast_nonneg _)
    · have : ((ss.map V.int).length : Int) ≤ 6 := by rw [List.length_map]; omega
      exact Int.lt_of_le_of_lt this (by decide)
    obtain ⟨D3t, D3g⟩ := A10.T.at_ne hD3
    have hD3H := A10.free hD3
    have hD3p : p ≠ D3 := ne_of_none hp10 hD3
    have hD3q : p2 ≠ D3 := ne_of_none hq10 hD3
    have hzl : (List.zipWith (fun s r => ((s, b + r) : Pr)) ss rs).length = ss.length := by rw [List.length_zipWith, hrl]; omega
    refine lc_range (lo := 0) (n := ((ss.map V.int).length : Int).toNat) (fun i H' => At H H' t g (n + 20) ∧ H' p = some (.lst (ss.map V.int)) ∧ H' p2 = some (.lst (rs.map V.int)) ∧ ∃ vs, H' D3 = some (.lst vs) ∧ vs.length = i ∧ DpAll K H' vs (((List.zipWith (fun s r => ((s, b + r) : Pr)) ss rs).take i).map encP))
      ⟨A10.new hD3, (upd_ne hD3p).trans hp10, (upd_ne hD3q).trans hq10, [], upd_same, rfl, .nil⟩ ?_ ?_
    · rintro i H' hi ⟨A, hpk, hqk, vs, hd, hvl, hds⟩
      have hi' : i < ss.length := by simpa using hi
      have hss' : ss[i]? = some ss[i] := List.getElem?_eq_getElem hi'
      have hrs' : rs[i]? = some (rs[i]'(by omega)) := List.getElem?_eq_getElem (by omega)
      refine ⟨rfl, yes_ite ?_⟩
      refine ⟨_, rfl, _, rfl, p, _, _, .int ss[i], rfl, rfl, SqL.of hpk, at_of (j := i) (by simp) (by rw [List.getElem?_map, hss']; rfl), _, rfl, _, rfl, _, rfl, p2, _, _, .int (rs[i]'(by omega)), rfl, rfl, SqL.of hqk, at_of (j := i) (by simp) (by rw [List.getElem?_map, hrs']; rfl), _, _, rfl, rfl, (by show 2 ≤ sizeLine; decide), fun p4 hp4 => ?_⟩
      have S4 := same_upd (o := HO.tup [V.int ss[i], .int (b + rs[i]'(by omega))]) hp4
      have hd4 := S4 _ _ hd
      refine ⟨vs, hd4, small1000 (by omega), (A.new hp4).acc hD3H D3t D3g, (upd_ne hD3p).trans (S4 _ _ hpk), (upd_ne hD3q).trans (S4 _ _ hqk), _, upd_same, by simp [hvl], ?_⟩
      have hz : (List.zipWith (fun s r => ((s, b + r) : Pr)) ss rs)[i]? = some (ss[i], b + rs[i]'(by omega)) := by
        simp [List.getElem?_zipWith, hss', hrs']
      rw [take_snoc hz, List.map_append]
      exact acc_step hd4 (noLs_map noL_encP _) rfl (dpAll_mono S4 _ _ hds) (.tup (SqT.of upd_same) (.cons (.int _) (.cons (.int _) .nil)))
    · rintro H' ⟨A, hpk, hqk, vs, hd, hvl, hds⟩
      have e : ((ss.map V.int).length : Int).toNat = ss.length := by simp
      rw [e, List.take_of_length_le (by rw [hzl]; exact Nat.le_refl _)] at hds
      refine k H' D3 _ hD3H (A.T.up (by omega)) A.k ⟨vs, hd, hds⟩ ⟨fun e => ?_, by rw [hzl]; omega, fun s hs => ?_⟩
      · have := congrArg List.length e
        rw [hzl] at this
        exact hssne (List.eq_nil_of_length_eq_zero this)
      · obtain ⟨i, hi, e⟩ := List.getElem_of_mem hs
        rw [List.getElem_zipWith] at e
        rw [hzl] at hi
        have h1 := hss _ (List.getElem_mem hi)
        have h2 := hrs (rs[i]'(by omega)) (List.getElem_mem _)
        rw [← e]
        refine ⟨h1.1, h1.2, ?_⟩
        exact lt_up (add_lt hbb (small_nat h2.1 h2.2 (lt_up hLb (by decide)))) (by decide)
end
end KA
namespace KA
open PySem PySem.Spec PyProof.Rows L2 DP
/-- a look that the hidden hand is as -/
structure TrueLk (L : Int) (steps : List Pr) (l : Lk) : Prop where
  word : WordOk l.1
  sz : Sized 270 l
  nr : (l.2.2 - l.2.1).natAbs < 2 ^ 199
  ex : ∃ x k m, l.2.1 = x + k * L ∧ IsMaxL (leads L steps x) m ∧ (l.1 = "at" → l.2.2 = m + k * L) ∧ (l.1 = "from" → l.2.2 ≤ m + k * L) ∧ (l.1 = "upto" → m + k * L ≤ l.2.2)
def spTrue (K : PySem.W.Frag) : Sp := fun vs H Q _ => ∃ (t g p : Addr) (n : Nat) (L : Int) (steps : List Pr), vs = [.ref t, .int L, .ref p] ∧ Tray H t g n ∧ n < 2 ^ 46 ∧ 0 < L ∧ L ≤ 10 ^ 30 ∧ LAt K H p (steps.map encP) ∧ StepsOk L steps ∧ p ≠ t ∧ p ≠ g ∧
  ∀ (H' : Hp) (r : V) (l : Lk), At H H' t g (n + 30) → Dp K H' r (encL l) → TrueLk L steps l → Q r H'
theorem lead_bound {L x m : Int} {steps : List Pr} (hL : 0 < L) (hLb : L.natAbs < 2 ^ 100) (hx0 : 0 ≤ x) (hx1 : x < L) (hs : StepsOk L steps) (hm : IsMaxL (leads L steps x) m) : m.natAbs < 2 ^ 197 := by
  obtain ⟨s, hs', e⟩ := List.mem_map.mp hm.1
  obtain ⟨s0, s1, s2⟩ := hs.2.2 s hs'
  have h1 := Int.mul_ediv_add_emod (x - s.1) L
  have h2 := Int.emod_nonneg (x - s.1) (show L ≠ 0 by omega)
  have h3 := Int.emod_lt_of_pos (x - s.1) hL
  rw [Int.mul_comm] at h1
  have h4 : ((x - s.1) / L * L).natAbs < 2 ^ 102 := by
    have e2 : (2 : Nat) ^ 102 = 2 ^ 100 * 4 := by decide
    rw [e2]
    generalize (2 : Nat) ^ 100 = B at hLb ⊢
    generalize (x - s.1) / L * L = d at h1 ⊢
    clear s2 e hm hs
    omega
  rw [← e]
  exact add_lt s2 (lt_up h4 (by decide))
section
variable {P : Program} {w : World} {K : PySem.W.Frag} {mg : Str → Option Value} {base : Heap} {Z : Ad}
theorem ok_law_true_look (T : Tx K w mg Z) : FnOk P w K mg base CX0 3 Z.a_law_true_look Z.d_law_true_look P_law_true_look (spTrue K) := by
  refine T.F_law_true_look.ok sclaw_true_look (fun vs H Q E h => ?_) (fun cdv A outer s H vs Q E hr h => ?_)
  · obtain ⟨t, g, p, n, L, steps, rfl, _⟩ := h
    rfl
  · obtain ⟨t, g, p, n, L, steps, rfl, hT, hn, hL, hL30, hp, hst, hpt, hpg, k⟩ := h
    have hLb := bigL hL hL30
    have hb : ∀ m, m ≤ n + 30 → m < 2 ^ 49 := fun m hm => Nat.lt_of_le_of_lt hm (Nat.lt_of_lt_of_le (Nat.add_lt_add_right hn 30) (by decide))
    have hb' : ∀ m, m ≤ n + 30 → m < 2 ^ 60 := fun m hm => Nat.lt_trans (hb m hm) (by decide)
    have A0 : At H H t g n := ⟨hT, Keep.refl _ _ _⟩
    have hsl : 0 < steps.length := List.length_pos_iff.mpr hst.1
    have nl := noLs_map noL_encP steps
    refine ⟨_, (pss_cons (ps_set (i := 3) sclaw_true_look.nd rfl (Or.inl rfl) (pe_ix (ixL (K := K)) (pe_lst (pa_cons (pe_ix (ixT (K := K)) (pe_ix (ixL (K := K)) (pv 2) (pe_call (ok_law_draw T) (hr.mono (by decide)) (by rfl) T.g_law_draw T.F_law_draw.kp T.bb_law_draw .nil pass0 (pa_cons (pv 0) (pa_cons (pe_callB (lenK (K := K)) (by rfl) T.b_len (by decide +kernel) (pa_cons (pv 2) pa_nil)) pa_nil))) (fun _ _ => rfl)) pe_int (fun _ _ => rfl)) (pa_cons (pe_call (ok_law_draw T) (hr.mono (by decide)) (by rfl) T.g_law_draw T.F_law_draw.kp T.bb_law_draw .nil pass0 (pa_cons (pv 0) (pa_cons (pv 1) pa_nil))) pa_nil))) (pe_call (ok_law_draw T) (hr.mono (by decide)) (by rfl) T.g_law_draw T.F_law_draw.kp T.bb_law_draw .nil pass0 (pa_cons (pv 0) (pa_cons pe_int pa_nil))) (fun _ _ => rfl)))
      (pss_cons (ps_set (i := 4) sclaw_true_look.nd rfl (Or.inl rfl) (pe_ix (ixL (K := K)) (pe_lst (pa_cons pe_int (pa_cons (pe_call (ok_law_draw T) (hr.mono (by decide)) (by rfl) T.g_law_draw T.F_law_draw.kp T.bb_law_draw .nil pass0 (pa_cons (pv 0) (pa_cons pe_int pa_nil))) (pa_cons (pe_call (ok_law_draw T) (hr.mono (by decide)) (by rfl) T.g_law_draw T.F_law_draw.kp T.bb_law_draw .nil pass0 (pa_cons (pv 0) (pa_cons (pe_op op_add (pv 1) pe_int) pa_nil))) pa_nil)))) (pe_call (ok_law_draw T) (hr.mono (by decide)) (by rfl) T.g_law_draw T.F_law_draw.kp T.bb_law_draw .nil pass0 (pa_cons (pv 0) (pa_cons pe_int pa_nil))) (fun _ _ => rfl)))
      (pss_cons (ps_asg (pe_ix (ixL (K := K)) (pe_lst (pa_cons (pe_tup (pa_cons pe_str (pa_cons pe_int pa_nil))) (pa_cons (pe_tup (pa_cons pe_str (pa_cons (pe_un un_neg pe_int) pa_nil))) (pa_cons (pe_tup (pa_cons pe_str (pa_cons pe_int pa_nil))) pa_nil)))) (pe_call (ok_law_draw T) (hr.mono (by decide)) (by rfl) T.g_law_draw T.F_law_draw.kp T.bb_law_draw .nil pass0 (pa_cons (pv 0) (pa_cons pe_int pa_nil))) (fun _ _ => rfl)) (tupK (K := K) (by rfl) (pgs_cons (pg_name (i := 5) sclaw_true_look.nd rfl (Or.inl rfl)) (pgs_cons (pg_name (i := 6) sclaw_true_look.nd rfl (Or.inl rfl)) pgs_nil))))
      (pss_cons (ps_set (i := 7) sclaw_true_look.nd rfl (Or.inl rfl) (pe_lst (pa_cons pe_int (pa_cons (pe_op op_sub (pe_call (ok_law_draw T) (hr.mono (by decide)) (by rfl) T.g_law_draw T.F_law_draw.kp T.bb_law_draw .nil pass0 (pa_cons (pv 0) (pa_cons pe_int pa_nil))) pe_int) (pa_cons (pe_op op_fdivW (pe_call (ok_law_great T) (hr.mono (by decide)) (by rfl) T.g_law_great T.F_law_great.kp T.bb_law_great .nil pass0 (pa_cons (pv 0) pa_nil)) (pe_op op_pow pe_int pe_int)) pa_nil)))))
      (pss_cons (ps_set (i := 7) sclaw_true_look.nd rfl (Or.inl rfl) (pe_op op_mulW (pe_ix (ixL (K := K)) (pv 7) (pe_ix (ixL (K := K)) (pe_lst (pa_cons pe_int (pa_cons pe_int (pa_cons pe_int (pa_cons pe_int (pa_cons pe_int pa_nil)))))) (pe_call (ok_law_draw T) (hr.mono (by decide)) (by rfl) T.g_law_draw T.F_law_draw.kp T.bb_law_draw .nil pass0 (pa_cons (pv 0) (pa_cons pe_int pa_nil))) (fun _ _ => rfl)) (fun _ _ => rfl)) (pv 1)))
      (pss_one (ps_ret (pe_tup (pa_cons (pv 5) (pa_cons (pe_op op_add (pv 3) (pv 7)) (pa_cons (pe_op op_add (pe_op op_add (pe_call (ok_law_lead T) (hr.mono (by decide)) (by rfl) T.g_law_lead T.F_law_lead.kp T.bb_law_lead .nil pass0 (pa_cons (pv 1) (pa_cons (pv 2) (pa_cons (pv 3) pa_nil)))) (pe_op op_mulW (pv 6) (pv 4))) (pv 7)) pa_nil))))))))))), ?_⟩
    -- spot
    obtain ⟨vs, hv1, hv2⟩ := hp
    have hvl : vs.length = steps.length := by rw [dpAll_len hv2, List.length_map]
    have hvb : (vs.length : Int).natAbs < 2 ^ 1000 := Nat.lt_of_le_of_lt (by rw [hvl]; exact (Nat.le_trans hst.2.1 (by decide)) : vs.length ≤ 20) (by decide)
    refine ⟨_, rfl, _, rfl, _, rfl, p, vs, rfl, .inl (SqL.of hv1), t, g, n, (vs.length : Int), rfl, hT, by omega, hvb, hb' _ (by omega), fun H1 i0 i1 i2 T1 k1 => ?_⟩
    have A1 := A0.step T1 k1
    have hp1 := (show LAt K H p (steps.map encP) from ⟨vs, hv1, hv2⟩).keep hT k1 hpt hpg nl
    obtain ⟨vs1, hw1, hw2⟩ := hp1
    have hwl : vs1.length = steps.length := by rw [dpAll_len hw2, List.length_map]
    have hi : i0.toNat < steps.length := by omega
    obtain ⟨s0, hs0⟩ : ∃ s0, steps[i0.toNat]? = some s0 := ⟨steps[i0.toNat], List.getElem?_eq_getElem hi⟩
    obtain ⟨v0, hv0, hd0⟩ := dpAll_get' hw2 (show (steps.map encP)[i0.toNat]? = some (encP s0) by rw [List.getElem?_map, hs0]; rfl)
    obtain ⟨a0, rfl, hq0⟩ := dp_pair hd0
    obtain ⟨sx0, sx1, sx2⟩ := hst.2.2 s0 (List.mem_of_getElem? hs0)
    refine ⟨p, vs1, _, _, rfl, rfl, SqL.of hw1, at_of (j := i0.toNat) (by omega) hv0, a0, _, _, _, rfl, rfl, hq0, rfl, ?_⟩
    refine ⟨_, rfl, _, rfl, t, g, n + 1, L, rfl, T1, hL, lt_up hLb (by decide), hb' _ (by omega), fun H2 x1 x2 x3 T2 k2 => ?_⟩
    have A2 := A1.step T2 k2
    refine ⟨(by show 2 ≤ sizeLine; decide), fun q hq => ?_⟩
    obtain ⟨qt, qg⟩ := T2.at_ne hq
    have A3 := A2.new (o := HO.lst [V.int s0.1, .int x1]) hq
    refine ⟨_, rfl, t, g, n + 2, 2, rfl, A3.T, by decide, by decide, hb' _ (by omega), fun H3 c0 c1 c2 T3 k3 => ?_⟩
    have A4 := A3.step T3 k3
    have hspot : ∃ x : Int, atI [V.int s0.1, .int x1] c0 = some (.int x) ∧ 0 ≤ x ∧ x < L := by
      have : c0 = 0 ∨ c0 = 1 := by omega
      rcases this with e | e <;> subst e
      · exact ⟨s0.1, rfl, sx0, sx1⟩
      · exact ⟨x1, rfl, x2, x3⟩
    obtain ⟨x, hxi, hx0, hx1⟩ := hspot
    refine ⟨q, _, _, _, rfl, rfl, SqL.of (k3 _ _ upd_same qt qg), hxi, ?_⟩
    have hp4 : LAt K H3 p (steps.map encP) := by
      have h1 : LAt K H1 p (steps.map encP) := ⟨vs1, hw1, hw2⟩
      exact ((h1.keep T1 k2 hpt hpg nl).same (same_upd hq)).keep A3.T k3 hpt hpg nl
    clear hv0 hd0 hq0 hw1 hw2 hv1 hv2
    -- off
    refine ⟨_, rfl, t, g, n + 3, 3, rfl, A4.T, by decide, by decide, hb' _ (by omega), fun H4 o1 o2 o3 T4 k4 => ?_⟩
    have A5 := A4.step T4 k4
    refine ⟨_, rfl, _, rfl, _, _, rfl, rfl, t, g, n + 4, L + 1, rfl, T4, by omega, lt_up (add_lt hLb (show (1 : Int).natAbs < 2 ^ 100 by decide)) (by decide), hb' _ (by omega), fun H5 r1 r2 r3 T5 k5 => ?_⟩
    have A6 := A5.step T5 k5
    refine ⟨(by show 3 ≤ sizeLine; decide), fun q2 hq2 => ?_⟩
    obtain ⟨q2t, q2g⟩ := T5.at_ne hq2
    have A7 := A6.new (o := HO.lst [V.int 0, .int o1, .int r1]) hq2
    refine ⟨_, rfl, t, g, n + 5, 3, rfl, A7.T, by decide, by decide, hb' _ (by omega), fun H6 d0 d1 d2 T6 k6 => ?_⟩
    have A8 := A7.step T6 k6
    have hoff : ∃ x : Int, atI [V.int 0, .int o1, .int r1] d0 = some (.int x) ∧ 0 ≤ x ∧ x.natAbs < 2 ^ 101 := by
      have : d0 = 0 ∨ d0 = 1 ∨ d0 = 2 := by omega
      rcases this with e | e | e <;> subst e
      · exact ⟨0, rfl, by decide, by decide⟩
      · exact ⟨o1, rfl, o2, Nat.lt_of_le_of_lt (by omega : o1.natAbs ≤ 3) (by decide)⟩
      · exact ⟨r1, rfl, r2, small_nat r2 (by omega : r1 ≤ L) (lt_up hLb (by decide))⟩
    obtain ⟨off, hoi, hoff0, hoffb⟩ := hoff
    refine ⟨q2, _, _, _, rfl, rfl, SqL.of (k6 _ _ upd_same q2t q2g), hoi, ?_⟩
    have hp8 : LAt K H6 p (steps.map encP) := (((hp4.keep A4.T k4 hpt hpg nl).keep T4 k5 hpt hpg nl).same (same_upd hq2)).keep A7.T k6 hpt hpg nl
    -- said, sign
    refine ⟨(by show 2 ≤ sizeLine; decide), fun p1 hp1 => ?_⟩
    have B1 := A8.new (o := HO.tup [V.str "at", .int 0]) hp1
    refine ⟨_, rfl, (by show 2 ≤ sizeLine; decide), fun p2 hp2 => ?_⟩
    have B2 := B1.new (o := HO.tup [V.str "from", .int (-1)]) hp2
    refine ⟨(by show 2 ≤ sizeLine; decide), fun p3 hp3 => ?_⟩
    have B3 := B2.new (o := HO.tup [V.str "upto", .int 1]) hp3
    have w3 : (upd (upd (upd H6 p1 (.tup [V.str "at", .int 0])) p2 (.tup [V.str "from", .int (-1)])) p3 (.tup [V.str "upto", .int 1])) p3 = some (.tup [V.str "upto", .int 1]) := upd_same
    have w2 := (same_upd (o := HO.tup [V.str "upto", .int 1]) hp3) p2 _ (upd_same (H := upd H6 p1 (.tup [V.str "at", .int 0])) (o := HO.tup [V.str "from", .int (-1)]))
    have w1 := (same_upd (o := HO.tup [V.str "upto", .int 1]) hp3) p1 _ ((same_upd (o := HO.tup [V.str "from", .int (-1)]) hp2) p1 _ (upd_same (H := H6) (o := HO.tup [V.str "at", .int 0])))
    have hp9 := ((hp8.same (same_upd (o := HO.tup [V.str "at", .int 0]) hp1)).same (same_upd (o := HO.tup [V.str "from", .int (-1)]) hp2)).same (same_upd (o := HO.tup [V.str "upto", .int 1]) hp3)
    refine ⟨(by show 3 ≤ sizeLine; decide), fun q3 hq3 => ?_⟩
    obtain ⟨q3t, q3g⟩ := B3.T.at_ne hq3
    have hp10 := hp9.same (same_upd (o := HO.lst [V.ref p1, .ref p2, .ref p3]) hq3)
    have S10 := same_upd (o := HO.lst [V.ref p1, .ref p2, .ref p3]) hq3
    have B4 := B3.new (o := HO.lst [V.ref p1, .ref p2, .ref p3]) hq3
    refine ⟨_, rfl, t, g, n + 6, 3, rfl, B4.T, by decide, by decide, hb' _ (by omega), fun H7 e0 e1 e2 T7 k7 => ?_⟩
    have B5 := B4.step T7 k7
    have hp11 := hp10.keep B4.T k7 hpt hpg nl
    have tp := Keep.tups B4.T k7
    have hsaid : ∃ (pp : Addr) (wd : Str) (sg : Int), atI [V.ref p1, .ref p2, .ref p3] e0 = some (.ref pp) ∧ SqT K H7 pp [.str wd, .int sg] ∧ (wd = "at" ∧ sg = 0 ∨ wd = "from" ∧ sg = -1 ∨ wd = "upto" ∧ sg = 1) := by
      have : e0 = 0 ∨ e0 = 1 ∨ e0 = 2 := by omega
      rcases this with e | e | e <;> subst e
      · exact ⟨p1, "at", 0, rfl, .inl (tp _ _ (.inl (S10 _ _ w1))), .inl ⟨rfl, rfl⟩⟩
      · exact ⟨p2, "from", -1, rfl, .inl (tp _ _ (.inl (S10 _ _ w2))), .inr (.inl ⟨rfl, rfl⟩)⟩
      · exact ⟨p3, "upto", 1, rfl, .inl (tp _ _ (.inl (S10 _ _ w3))), .inr (.inr ⟨rfl, rfl⟩)⟩
    obtain ⟨pp, wd, sg, hpi, hpp, hws⟩ := hsaid
    refine ⟨q3, _, _, _, rfl, rfl, SqL.of (k7 _ _ upd_same q3t q3g), hpi, ?_⟩
    refine ⟨pp, _, rfl, hpp, rfl, _, _, rfl, _, _, rfl, rfl, ?_⟩
    -- turn
    refine ⟨_, rfl, t, g, n + 7, 5, rfl, T7, by decide, by decide, hb' _ (by omega), fun H8 f0 f1 f2 T8 k8 => ?_⟩
    have B6 := B5.step T8 k8
    refine ⟨_, _, rfl, rfl, _, rfl, t, g, n + 8, rfl, T8, Nat.lt_trans (hb _ (by omega)) (by decide), fun H9 g0 g1 g2 T9 k9 => ?_⟩
    have B7 := B6.step T9 k9
    refine ⟨_, _, rfl, rfl, ⟨by decide, by decide, by decide⟩, _, _, rfl, rfl, wide_div (b := 110) (by decide) (by decide) (by decide) (by decide), (by show 3 ≤ sizeLine; decide), fun q4 hq4 => ?_⟩
    obtain ⟨q4t, q4g⟩ := T9.at_ne hq4
    have B8 := B7.new (o := HO.lst [V.int 0, .int (f0 - 2), .int (g0 / 10 ^ (31 : Int).toNat)]) hq4
    have hp12 := ((hp11.keep T7 k8 hpt hpg nl).keep T8 k9 hpt hpg nl).same (same_upd (o := HO.lst [V.int 0, .int (f0 - 2), .int (g0 / 10 ^ (31 : Int).toNat)]) hq4)
    -- turn = turn[..] * size
    refine ⟨_, rfl, (by show 5 ≤ sizeLine; decide), fun q5 hq5 => ?_⟩
    obtain ⟨q5t, q5g⟩ := B8.T.at_ne hq5
    have B9 := B8.new (o := HO.lst [V.int 0, .int 0, .int 1, .int 1, .int 2]) hq5
    have hp13 := hp12.same (same_upd (o := HO.lst [V.int 0, .int 0, .int 1, .int 1, .int 2]) hq5)
    have hq4' := (same_upd (o := HO.lst [V.int 0, .int 0, .int 1, .int 1, .int 2]) hq5) q4 _ (upd_same (H := H9) (o := HO.lst [V.int 0, .int (f0 - 2), .int (g0 / 10 ^ (31 : Int).toNat)]))
    refine ⟨_, rfl, t, g, n + 12, 5, rfl, B9.T, by decide, by decide, hb' _ (by omega), fun H10 h0 h1 h2 T10 k10 => ?_⟩
    have B10 := B9.step T10 k10
    have hp14 := hp13.keep B9.T k10 hpt hpg nl
    have hturn : ∃ (j kk : Int), atI [V.int 0, .int 0, .int 1, .int 1, .int 2] h0 = some (.int j) ∧ atI [V.int 0, .int (f0 - 2), .int (g0 / 10 ^ (31 : Int).toNat)] j = some (.int kk) ∧ kk.natAbs < 2 ^ 169 := by
      have c1 : (f0 - 2).natAbs < 2 ^ 169 := Nat.lt_of_le_of_lt (by omega : (f0 - 2).natAbs ≤ 7) (by decide)
      have c2 : (g0 / 10 ^ (31 : Int).toNat).natAbs < 2 ^ 169 := by
        have h1 : g0 / 10 ^ (31 : Int).toNat ≤ 10 ^ 59 / 10 ^ (31 : Int).toNat := Int.ediv_le_ediv (by decide) (Int.le_of_lt g2)
        have h0 : 0 ≤ g0 / 10 ^ (31 : Int).toNat := Int.ediv_nonneg g1 (by decide)
        exact small_nat h0 h1 (by decide)
      have : h0 = 0 ∨ h0 = 1 ∨ h0 = 2 ∨ h0 = 3 ∨ h0 = 4 := by omega
      rcases this with e | e | e | e | e <;> subst e
      · exact ⟨0, 0, rfl, rfl, by decide⟩
      · exact ⟨0, 0, rfl, rfl, by decide⟩
      · exact ⟨1, _, rfl, rfl, c1⟩
      · exact ⟨1, _, rfl, rfl, c1⟩
      · exact ⟨2, _, rfl, rfl, c2⟩
    obtain ⟨j, kk, hj, hkk, hkb⟩ := hturn
    refine ⟨q5, _, _, _, rfl, rfl, SqL.of (k10 _ _ upd_same q5t q5g), hj, q4, _, _, _, rfl, rfl, SqL.of (k10 _ _ hq4' q4t q4g), hkk, ?_⟩
    refine ⟨_, rfl, _, _, rfl, rfl, wide_mul hkb hLb (by decide) (by decide) (by decide), ?_⟩
    have hkL : (kk * L).natAbs < 2 ^ 269 := wide_lt hkb hLb
    -- the look
    have hxb : x.natAbs < 2 ^ 100 := small_nat hx0 (Int.le_of_lt hx1) hLb
    refine ⟨_, rfl, _, rfl, _, rfl, _, _, rfl, rfl, _, rfl, _, rfl, _, rfl, .ref p, L, x, steps, rfl, hp14.dp, hL, lt_up hLb (by decide), lt_up hxb (by decide), hst, fun m H11 S11 hm => ?_⟩
    have hmb := lead_bound hL hLb hx0 hx1 hst hm
    have hsgb : sg.natAbs < 2 ^ 2 := by rcases hws with ⟨_, e⟩ | ⟨_, e⟩ | ⟨_, e⟩ <;> rw [e] <;> decide
    have hso : (sg * off).natAbs < 2 ^ (2 + 101) := wide_lt hsgb hoffb
    refine ⟨_, rfl, _, rfl, _, _, rfl, rfl, wide_mul hsgb hoffb (by decide) (by decide) (by decide), _, _, rfl, rfl, _, rfl, _, _, rfl, rfl, (by show 3 ≤ sizeLine; decide), fun q6 hq6 => ?_⟩
    have B11 : At H H11 t g (n + 13) := ⟨B10.T.same S11, B10.k.trans (Keep.of_same S11)⟩
    refine k _ _ (wd, x + kk * L, m + sg * off + kk * L) ((B11.new hq6).up (by omega)) (.tup (SqT.of upd_same) (.cons (.str _) (.cons (.int _) (.cons (.int _) .nil)))) ⟨?_, ⟨?_, ?_⟩, ?_, x, kk, m, rfl, hm, fun e => ?_, fun e => ?_, fun e => ?_⟩
    · rcases hws with ⟨e, _⟩ | ⟨e, _⟩ | ⟨e, _⟩
      · exact .inl e
      · exact .inr (.inl e)
      · exact .inr (.inr e)
    · exact add_lt (lt_up hxb (by decide)) hkL
    · exact add_lt (lt_up (add_lt hmb (lt_up hso (by decide))) (by decide)) hkL
    · show (m + sg * off + kk * L - (x + kk * L)).natAbs < 2 ^ 199
      have e0 : m + sg * off + kk * L - (x + kk * L) = m + sg * off - x := by omega
      rw [e0]
      exact sub_lt (add_lt hmb (lt_up hso (by decide))) (lt_up hxb (by decide))
    · have e' : wd = "at" := e
      show m + sg * off + kk * L = m + kk * L
      rcases hws with ⟨_, es⟩ | ⟨ew, _⟩ | ⟨ew, _⟩
      · rw [es]; omega
      · rw [e'] at ew; exact absurd ew (by decide +kernel)
      · rw [e'] at ew; exact absurd ew (by decide +kernel)
    · have e' : wd = "from" := e
      show m + sg * off + kk * L ≤ m + kk * L
      rcases hws with ⟨ew, _⟩ | ⟨_, es⟩ | ⟨ew, _⟩
      · rw [e'] at ew; exact absurd ew (by decide +kernel)
      · rw [es]; omega
      · rw [e'] at ew; exact absurd ew (by decide +kernel)
    · have e' : wd = "upto" := e
      show m + kk * L ≤ m + sg * off + kk * L
      rcases hws with ⟨ew, _⟩ | ⟨ew, _⟩ | ⟨_, es⟩
      · rw [e'] at ew; exact absurd ew (by decide +kernel)
      · rw [e'] at ew; exact absurd ew (by decide +kernel)
      · rw [es]; omega
end
end KA
namespace KA
open PySem PySem.Spec PyProof.Rows L2 DP
def spKnown (K : PySem.W.Frag) : Sp := fun vs H Q _ => ∃ (t g : Addr) (n : Nat) (L most : Int), vs = [.ref t, .int L, .int most] ∧ Tray H t g n ∧ n < 2 ^ 44 ∧ 0 < L ∧ L ≤ 10 ^ 30 ∧ 0 ≤ most ∧ most ≤ 40 ∧
  ∀ (H' : Hp) (p : Addr) (ls : List Lk) (steps : List Pr), H p = none → At H H' t g (n + 2000) → LAt K H' p (ls.map encL) → (∀ l ∈ ls, TrueLk L steps l) → StepsOk L steps → (ls.length : Int) ≤ most → Q (.ref p) H'
def spLawSide (K : PySem.W.Frag) (sd : Str) : Sp := fun vs H Q _ => ∃ (v : V) (L x : Int) (ls : List Lk), vs = [.int L, v, .int x] ∧ Dp K H v (.list (ls.map encL)) ∧ 0 < L ∧ L.natAbs < 2 ^ 200 ∧ x.natAbs < 2 ^ 400 ∧ (∀ l ∈ ls, WordOk l.1 ∧ Sized 400 l) ∧ ls.length ≤ 100 ∧
  ∀ v H', Same H H' → Tells sd ls x L v → Q v H'
section
variable {P : Program} {w : World} {K : PySem.W.Frag} {mg : Str → Option Value} {base : Heap} {Z : Ad}
theorem ok_law_known (T : Tx K w mg Z) : FnOk P w K mg base CX0 4 Z.a_law_known Z.d_law_known P_law_known (spKnown K) := by
  refine T.F_law_known.ok sclaw_known (fun vs H Q E h => ?_) (fun cdv A outer s H vs Q E hr h => ?_)
  · obtain ⟨t, g, n, L, most, rfl, _⟩ := h
    rfl
  · obtain ⟨t, g, n, L, most, rfl, hT, hn, hL, hL30, hm0, hm1, k⟩ := h
    have hb : ∀ m, m ≤ n + 2000 → m < 2 ^ 46 := fun m hm => Nat.lt_of_le_of_lt hm (Nat.lt_of_lt_of_le (Nat.add_lt_add_right hn 2000) (by decide))
    have hb' : ∀ m, m ≤ n + 2000 → m < 2 ^ 60 := fun m hm => Nat.lt_trans (hb m hm) (by decide)
    have A0 : At H H t g n := ⟨hT, Keep.refl _ _ _⟩
    refine ⟨_, (pss_cons (ps_set (i := 3) sclaw_known.nd rfl (Or.inr rfl) (pe_call (ok_law_secret T) (hr.mono (by decide)) (by rfl) T.g_law_secret T.F_law_secret.kp T.bb_law_secret .nil pass0 (pa_cons (pv 0) (pa_cons (pv 1) pa_nil))))
      (pss_cons (ps_set (i := 4) sclaw_known.nd rfl (Or.inl rfl) (pe_call (ok_law_draw T) (hr.mono (by decide)) (by rfl) T.g_law_draw T.F_law_draw.kp T.bb_law_draw .nil pass0 (pa_cons (pv 0) (pa_cons (pe_ix (ixL (K := K)) (pe_lst (pa_cons pe_int (pa_cons pe_int (pa_cons (pe_op op_add (pv 2) pe_int) pa_nil)))) (pe_call (ok_law_draw T) (hr.mono (by decide)) (by rfl) T.g_law_draw T.F_law_draw.kp T.bb_law_draw .nil pass0 (pa_cons (pv 0) (pa_cons pe_int pa_nil))) (fun _ _ => rfl)) pa_nil))))
      (pss_one (ps_ret (pe_lc (own := [("turn", 5)]) (g := gName 5) (tt := tYes) rfl sclaw_known.nd (pi_range1 (by rfl) T.b_range (pa_cons (pe_callB (call_min2 rfl) (by rfl) T.b_min (by decide +kernel) (pa_cons (pv 2) (pa_cons (pv 4) pa_nil))) pa_nil)) (blkOk_by (own := [("turn", 5)]) (N := N_law_known) (sc := defScope slaw_known) (by decide +kernel)) (fun _ _ _ _ _ => (pg_name (i := 5) sclaw_known.nd rfl (Or.inl rfl))) (fun _ _ _ _ _ => pts_nil) (fun _ _ _ _ _ => (pe_call (ok_law_true_look T) (hr.mono (by decide)) (by rfl) T.g_law_true_look T.F_law_true_look.kp T.bb_law_true_look .nil pass0 (pa_cons (pv 0) (pa_cons (pv 1) (pa_cons (pv 3) pa_nil)))))))))), ?_⟩
    refine ⟨_, rfl, _, rfl, t, g, n, L, rfl, hT, Nat.lt_trans hn (by decide), hL, hL30, fun H1 p steps hp T1 k1 l1 hst => ?_⟩
    have A1 := A0.step T1 k1
    obtain ⟨hpt, hpg⟩ := hT.at_ne hp
    have nl := noLs_map noL_encP steps
    refine ⟨_, rfl, _, rfl, _, _, rfl, rfl, (by show 3 ≤ sizeLine; decide), fun q hq => ?_⟩
    obtain ⟨qt, qg⟩ := T1.at_ne hq
    have A2 := A1.new (o := HO.lst [V.int 4, .int 9, .int (most + 1)]) hq
    refine ⟨_, rfl, t, g, n + 30, 3, rfl, A2.T, by decide, by decide, hb' _ (by omega), fun H2 c0 c1 c2 T2 k2 => ?_⟩
    have A3 := A2.step T2 k2
    have l3 := (l1.same (same_upd (o := HO.lst [V.int 4, .int 9, .int (most + 1)]) hq)).keep A2.T k2 hpt hpg nl
    have hmany : ∃ j : Int, atI [V.int 4, .int 9, .int (most + 1)] c0 = some (.int j) ∧ 0 < j ∧ j ≤ 41 := by
      have : c0 = 0 ∨ c0 = 1 ∨ c0 = 2 := by omega
      rcases this with e | e | e <;> subst e
      · exact ⟨4, rfl, by decide, by decide⟩
      · exact ⟨9, rfl, by decide, by decide⟩
      · exact ⟨most + 1, rfl, by omega, by omega⟩
    obtain ⟨j, hj, hj0, hj1⟩ := hmany
    refine ⟨q, _, _, _, rfl, rfl, SqL.of (k2 _ _ upd_same qt qg), hj, t, g, n + 31, j, rfl, A3.T, hj0, Nat.lt_of_le_of_lt (by omega : j.natAbs ≤ 41) (by decide), hb' _ (by omega), fun H3 m m0 m1 T3 k3 => ?_⟩
    have A4 := A3.step T3 k3
    have l4 := l3.keep A3.T k3 hpt hpg nl
    have hmin : 0 ≤ (if m < most then m else most) ∧ (if m < most then m else most) ≤ most := by split <;> omega
    refine ⟨_, rfl, _, rfl, _, _, rfl, _, rfl, Int.le_trans (by decide) hmin.1, Int.lt_of_le_of_lt hmin.2 (Int.lt_of_le_of_lt hm1 (by decide)), fun D hD => ?_⟩
    obtain ⟨Dt, Dg⟩ := T3.at_ne hD
    have hDH := A4.free hD
    obtain ⟨vs4, hp4, _⟩ := id l4
    have hDp : p ≠ D := ne_of_none hp4 hD
    refine lc_range (lo := 0) (n := (if m < most then m else most).toNat) (fun i H' => At H H' t g (n + 40 + 30 * i) ∧ LAt K H' p (steps.map encP) ∧ ∃ (vs : List V) (ls : List Lk), H' D = some (.lst vs) ∧ DpAll K H' vs (ls.map encL) ∧ ls.length = i ∧ ∀ l ∈ ls, TrueLk L steps l)
      ⟨(A4.new hD).up (by omega), l4.same (same_upd hD), [], [], upd_same, .nil, rfl, fun _ z => absurd z (by simp)⟩ ?_ ?_
    · rintro i H' hi ⟨A, lp, vs, ls, hd, hds, hl, htr⟩
      have hi40 : i < 40 := by omega
      refine ⟨rfl, yes_ite ?_⟩
      refine ⟨_, rfl, _, rfl, _, rfl, t, g, p, n + 40 + 30 * i, L, steps, rfl, A.T, hb _ (by omega), hL, hL30, lp, hst, hpt, hpg, fun H5 r l A5 hr hl5 => ?_⟩
      have hd5 := A5.k _ _ hd Dt Dg
      have hds5 := dpAll_tups (Keep.tups A.T A5.k) _ _ (noLs_map noL_encL ls) hds
      obtain ⟨vp, hvp, hvq⟩ := lp.keep A.T A5.k hpt hpg nl
      have hvl : vs.length = ls.length := by rw [dpAll_len hds, List.length_map]
      refine ⟨vs, hd5, small1000 (by omega), ((A.step A5.T A5.k).acc hDH Dt Dg).up (by omega), ⟨vp, (upd_ne hDp).trans hvp, dpAll_tups (Tups.upd_lst hd5) _ _ nl hvq⟩, _, ls ++ [l], upd_same, ?_, by simp [hl], fun o ho => ?_⟩
      · rw [List.map_append]
        exact acc_step hd5 (noLs_map noL_encL _) rfl hds5 hr
      · rcases List.mem_append.mp ho with h | h
        · exact htr o h
        · rw [List.mem_singleton] at h; subst h; exact hl5
    · rintro H' ⟨A, lp, vs, ls, hd, hds, hl, htr⟩
      refine k H' D ls steps hDH (A.up (by omega)) ⟨vs, hd, hds⟩ htr hst (by omega)
end
end KA
namespace KA
open PySem PySem.Spec PyProof.Rows L2 DP
/-- no list of it is long -/
def fewD : PyData → Bool
  | .list xs => decide (xs.length ≤ 1000) && fewDs xs
  | .tuple xs => decide (xs.length ≤ 1000) && fewDs xs
  | _ => true
where fewDs : List PyData → Bool
  | [] => true
  | x :: xs => fewD x && fewDs xs
def tyName : PyData → String
  | .none => "NoneType"
  | .bool _ => "bool"
  | .int _ => "int"
  | .str _ => "str"
  | .list _ => "list"
  | .tuple _ => "tuple"
  | .dict _ => "dict"
theorem ty_of {K : PySem.W.Frag} {H : Hp} {v : V} {d : PyData} (h : Dp K H v d) : TyX K H v (.type (tyName d)) := by
  cases h with
  | non => exact .base .non
  | bl b => exact .base (.bl b)
  | int i => exact .base (.int i)
  | str x => exact .base (.str x)
  | lst s a =>
    rcases s with (s | ⟨o, s⟩) | ⟨o, its, n, e, c, _⟩
    · exact .base (.lst s)
    · exact .base (.frz s)
    · exact .kList e c
  | tup s a =>
    rcases s with (s | ⟨o, s⟩) | ⟨o, its, n, e, c, _⟩
    · exact .base (.tup s)
    · exact .fTuple s
    · exact .kTuple e c
theorem isi {K : PySem.W.Frag} {H : Hp} {v : V} {d : PyData} {C : String} {b : Bool} {Q : VK} (h : Dp K H v d) (hk : kitB (tyName d) C = some b) (q : Q (.bl b) H) : rIsi K [v, .ty C] H Q :=
  ⟨v, .ty C, _, .type C, b, rfl, ClsV.ty C, ty_of h, kit_ty hk, q⟩
def spAlike (K : PySem.W.Frag) (n : Nat) : Sp := fun vs H Q _ => ∃ (v u : V) (d : PyData), vs = [v, u] ∧ Dp K H v d ∧ Dp K H u d ∧ fewD d = true ∧ d.depth < n ∧ Q (.bl true) H
theorem few_at : ∀ {ds : List PyData} {i : Nat} {d : PyData}, fewD.fewDs ds = true → ds[i]? = some d → fewD d = true
  | [], _, _, _, h => by simp at h
  | a :: r, 0, d, n, h => by
    rw [fewD.fewDs, Bool.and_eq_true] at n
    have e : a = d := Option.some.inj h
    subst e; exact n.1
  | a :: r, i + 1, d, n, h => by
    rw [fewD.fewDs, Bool.and_eq_true] at n
    exact few_at n.2 (by simpa using h)
theorem depth_at : ∀ {ds : List PyData} {i : Nat} {d : PyData}, ds[i]? = some d → d.depth ≤ PyData.depthAll ds
  | [], _, _, h => by simp at h
  | a :: r, 0, d, h => by
    have e : a = d := Option.some.inj h
    subst e; rw [PyData.depthAll]; omega
  | a :: r, i + 1, d, h => by
    have := depth_at (ds := r) (i := i) (d := d) (by simpa using h)
    rw [PyData.depthAll]; omega
theorem ix_any {K : PySem.W.Frag} {H : Hp} {p : Addr} {xs : List V} {i : Int} {x : V} {Q : VK} (s : SqL K H p xs ∨ SqT K H p xs) (h : atI xs i = some x) (q : Q x H) : rIx K (.ref p) (.int i) H Q := by
  rcases s with s | s
  · exact .inl ⟨p, xs, i, x, rfl, rfl, s, h, q⟩
  · exact .inr (.inl ⟨p, xs, i, x, rfl, rfl, s, h, q⟩)
end KA
namespace KA
open PySem PySem.Spec PyProof.Rows L2 DP
/-! ### the hidden hand -/
theorem leads_shift {L x k : Int} (hL : 0 < L) (steps : List Pr) : leads L steps (x + k * L) = (leads L steps x).map (· + k * L) := by
  unfold leads
  rw [List.map_map]
  refine List.map_congr_left fun s _ => ?_
  show s.2 + (x + k * L - s.1) / L * L = s.2 + (x - s.1) / L * L + k * L
  have e : x + k * L - s.1 = (x - s.1) + k * L := by omega
  rw [e, Int.add_mul_ediv_right _ _ (by omega), Int.add_mul]
  omega
theorem max_shift {L x k m : Int} (hL : 0 < L) {steps : List Pr} (h : IsMaxL (leads L steps x) m) : IsMaxL (leads L steps (x + k * L)) (m + k * L) := by
  rw [leads_shift hL]
  refine ⟨List.mem_map.mpr ⟨m, h.1, rfl⟩, fun y hy => ?_⟩
  obtain ⟨z, hz, e⟩ := List.mem_map.mp hy
  have := h.2 z hz
  have e' : z + k * L = y := e
  omega
theorem max_mono {L x x' m m' : Int} (hL : 0 < L) {steps : List Pr} (hx : x ≤ x') (h : IsMaxL (leads L steps x) m) (h' : IsMaxL (leads L steps x') m') : m ≤ m' := by
  obtain ⟨s, hs, e⟩ := List.mem_map.mp h.1
  have h1 := h'.2 _ (List.mem_map.mpr ⟨s, hs, rfl⟩)
  have h2 : (x - s.1) / L ≤ (x' - s.1) / L := Int.ediv_le_ediv hL (by omega)
  have h3 := Int.mul_le_mul_of_nonneg_right h2 (Int.le_of_lt hL)
  omega
theorem max_one {l : List Int} {m m' : Int} (h : IsMaxL l m) (h' : IsMaxL l m') : m = m' := by
  have := h.2 _ h'.1
  have := h'.2 _ h.1
  omega
/-- what a true look says, wherever it stands -/
def Says (L : Int) (steps : List Pr) (l : Lk) : Prop := ∃ x k m, l.2.1 = x + k * L ∧ IsMaxL (leads L steps x) m ∧ (l.1 = "at" → l.2.2 = m + k * L) ∧ (l.1 = "from" → l.2.2 ≤ m + k * L) ∧ (l.1 = "upto" → m + k * L ≤ l.2.2)
theorem says_home {L : Int} {steps : List Pr} {l : Lk} (h : Says L steps l) : Says L steps (home L l) := by
  obtain ⟨x, k, m, h1, h2, h3, h4, h5⟩ := h
  refine ⟨x, k - l.2.1 / L, m, ?_, h2, fun e => ?_, fun e => ?_, fun e => ?_⟩
  · show l.2.1 - l.2.1 / L * L = x + (k - l.2.1 / L) * L
    rw [Int.sub_mul]; omega
  · have := h3 e
    show l.2.2 - l.2.1 / L * L = m + (k - l.2.1 / L) * L
    rw [Int.sub_mul]; omega
  · have := h4 e
    show l.2.2 - l.2.1 / L * L ≤ m + (k - l.2.1 / L) * L
    rw [Int.sub_mul]; omega
  · have := h5 e
    show m + (k - l.2.1 / L) * L ≤ l.2.2 - l.2.1 / L * L
    rw [Int.sub_mul]; omega
theorem side_low {x : Str} (h : onSide "slow" x = true) : x = "at" ∨ x = "from" := by
  unfold onSide at h
  rw [if_pos rfl, Bool.or_eq_true, decide_eq_true_eq, decide_eq_true_eq] at h
  exact h
theorem side_high {x : Str} (h : onSide "fast" x = true) : x = "at" ∨ x = "upto" := by
  unfold onSide at h
  rw [if_neg slow_ne, Bool.or_eq_true, decide_eq_true_eq, decide_eq_true_eq] at h
  exact h
theorem no_far {L : Int} (hL : 0 < L) {steps : List Pr} {a b : Lk} (ha : Says L steps a) (hb : Says L steps b) : tooFar a b L = false := by
  unfold tooFar
  cases c1 : onSide "slow" a.1 with
  | false => rfl
  | true =>
    cases c2 : onSide "fast" b.1 with
    | false => rfl
    | true =>
      rw [Bool.true_and, Bool.true_and, decide_eq_false_iff_not, plc_slow]
      obtain ⟨x, k, m, h1, h2, h3, h4, h5⟩ := ha
      obtain ⟨x', k', m', h1', h2', h3', h4', h5'⟩ := hb
      have low : a.2.2 ≤ m + k * L := by
        rcases side_low c1 with e | e
        · exact Int.le_of_eq (h3 e)
        · exact h4 e
      have high : m' + k' * L ≤ b.2.2 := by
        rcases side_high c2 with e | e
        · exact Int.le_of_eq (h3' e).symm
        · exact h5' e
      have hj : (b.2.1 - a.2.1) / L * L ≤ b.2.1 - a.2.1 := by
        have := Int.mul_ediv_add_emod (b.2.1 - a.2.1) L
        have h0 := Int.emod_nonneg (b.2.1 - a.2.1) (show L ≠ 0 by omega)
        rw [Int.mul_comm] at this
        omega
      generalize (b.2.1 - a.2.1) / L = j at hj ⊢
      have hx : x + (k + j - k') * L ≤ x' := by
        rw [Int.sub_mul, Int.add_mul]; omega
      have := max_mono hL hx (max_shift hL h2) h2'
      rw [Int.sub_mul, Int.add_mul] at this
      omega
theorem no_clash {L : Int} (hL : 0 < L) {steps : List Pr} {a b : Lk} (ha : Says L steps a) (hb : Says L steps b) : clashB a b L = false := by
  unfold clashB
  rw [no_far hL ha hb, no_far hL hb ha]; rfl
theorem TrueLk.says {L : Int} {steps : List Pr} {l : Lk} (h : TrueLk L steps l) : Says L steps l := h.ex
/-! ### what a Dark tells and what the looks tell -/
theorem plc_home {L : Int} (hL : 0 < L) (sd : Str) (l : Lk) (x : Int) : plc sd (home L l) x L = plc sd l x L := by
  unfold plc home
  split
  · show l.2.2 - l.2.1 / L * L + (x - (l.2.1 - l.2.1 / L * L)) / L * L = l.2.2 + (x - l.2.1) / L * L
    have e : x - (l.2.1 - l.2.1 / L * L) = (x - l.2.1) + l.2.1 / L * L := by omega
    rw [e, Int.add_mul_ediv_right _ _ (by omega), Int.add_mul]; omega
  · show l.2.2 - l.2.1 / L * L - (l.2.1 - l.2.1 / L * L - x) / L * L = l.2.2 - (l.2.1 - x) / L * L
    have e : l.2.1 - l.2.1 / L * L - x = (l.2.1 - x) + (-(l.2.1 / L)) * L := by rw [Int.neg_mul]; omega
    rw [e, Int.add_mul_ediv_right _ _ (by omega), Int.add_mul, Int.neg_mul]; omega
theorem fold_mem {L : Int} : ∀ (ls acc : List Lk) (o : Lk), o ∈ ls.foldl (heard L) acc ↔ o ∈ acc ∨ ∃ l ∈ ls, o = home L l
  | [], acc, o => by simp
  | l :: ls, acc, o => by
    rw [List.foldl_cons, fold_mem ls, heard_mem]
    constructor
    · rintro ((h | h) | ⟨q, hq, e⟩)
      · exact .inl h
      · exact .inr ⟨l, List.mem_cons_self, h⟩
      · exact .inr ⟨q, List.mem_cons_of_mem _ hq, e⟩
    · rintro (h | ⟨q, hq, e⟩)
      · exact .inl (.inl h)
      · rcases List.mem_cons.mp hq with h | h
        · subst h; exact .inl (.inr e)
        · exact .inr ⟨q, h, e⟩
theorem fold_len {L : Int} : ∀ (ls acc : List Lk), (ls.foldl (heard L) acc).length ≤ acc.length + ls.length
  | [], acc => by simp
  | l :: ls, acc => by
    have h1 := fold_len (L := L) ls (heard L acc l)
    have h2 := heard_len L acc l
    rw [List.foldl_cons, List.length_cons]; omega
theorem mem_side {sd : Str} {ls : List Lk} {l : Lk} : l ∈ sideOf sd ls ↔ l ∈ ls ∧ onSide sd l.1 = true := by
  unfold sideOf; rw [List.mem_filter]
/-- the best of the looks is the best of them brought home -/
theorem best_home {L : Int} (hL : 0 < L) {sd : Str} {ls hs : List Lk} {x m : Int} (hh : ∀ o, o ∈ hs ↔ ∃ l ∈ ls, o = home L l) (h : IsBest sd (sideOf sd hs) x L m) : IsBest sd (sideOf sd ls) x L m := by
  obtain ⟨⟨o, ho, e⟩, h2⟩ := h
  obtain ⟨ho1, ho2⟩ := mem_side.mp ho
  obtain ⟨l, hl, rfl⟩ := (hh o).mp ho1
  rw [plc_home hL] at e
  refine ⟨⟨l, mem_side.mpr ⟨hl, ho2⟩, e⟩, fun q hq => ?_⟩
  obtain ⟨hq1, hq2⟩ := mem_side.mp hq
  have := h2 (home L q) (mem_side.mpr ⟨(hh _).mpr ⟨q, hq1, rfl⟩, hq2⟩)
  rw [plc_home hL] at this
  exact this
theorem best_one {sd : Str} {ls : List Lk} {x L m m' : Int} (h : IsBest sd ls x L m) (h' : IsBest sd ls x L m') : m = m' := by
  obtain ⟨⟨a, ha, ea⟩, h2⟩ := h
  obtain ⟨⟨b, hb, eb⟩, h2'⟩ := h'
  have q1 := h2 b hb
  have q2 := h2' a ha
  rw [eb] at q1
  rw [ea] at q2
  split at q1 <;> split at q2 <;> first | omega | (exfalso; simp_all)
theorem side_nil {L : Int} {sd : Str} {ls hs : List Lk} (hh : ∀ o, o ∈ hs ↔ ∃ l ∈ ls, o = home L l) : sideOf sd hs = [] ↔ sideOf sd ls = [] := by
  constructor
  · intro h
    refine List.eq_nil_iff_forall_not_mem.mpr fun l hl => ?_
    obtain ⟨h1, h2⟩ := mem_side.mp hl
    have : home L l ∈ sideOf sd hs := mem_side.mpr ⟨(hh _).mpr ⟨l, h1, rfl⟩, h2⟩
    rw [h] at this; cases this
  · intro h
    refine List.eq_nil_iff_forall_not_mem.mpr fun o ho => ?_
    obtain ⟨h1, h2⟩ := mem_side.mp ho
    obtain ⟨l, hl, rfl⟩ := (hh o).mp h1
    have : l ∈ sideOf sd ls := mem_side.mpr ⟨hl, h2⟩
    rw [h] at this; cases this
def spMade (Z : Ad) (K : PySem.W.Frag) : Sp := fun vs H Q _ => ∃ (v : V) (L : Int) (ls : List Lk), vs = [.int L, v] ∧ Dp K H v (.list (ls.map encL)) ∧ 0 < L ∧ L.natAbs < 2 ^ 200 ∧ (∀ l ∈ ls, WordOk l.1 ∧ Sized 300 l) ∧ (∀ a ∈ ls, ∀ b ∈ ls, clashB a b L = false) ∧ ls.length ≤ 58 ∧
  ∀ (H' : Hp) (d : Addr), H d = none → Same H H' → DarkAt Z K H' d L (ls.foldl (heard L) []) → (∀ la dx, H' d = some (.ins Z.C dx (df L la)) → H la = none) → Q (.ref d) H'
theorem plc_shift {L : Int} (hL : 0 < L) (sd : Str) (l : Lk) (x k : Int) : plc sd l (x + k * L) L = plc sd l x L + k * L := by
  unfold plc
  split
  · have e : x + k * L - l.2.1 = (x - l.2.1) + k * L := by omega
    rw [e, Int.add_mul_ediv_right _ _ (by omega), Int.add_mul]; omega
  · have e : l.2.1 - (x + k * L) = (l.2.1 - x) + (-k) * L := by rw [Int.neg_mul]; omega
    rw [e, Int.add_mul_ediv_right _ _ (by omega), Int.add_mul, Int.neg_mul]; omega
theorem far_home {L : Int} (hL : 0 < L) (a b : Lk) : tooFar (home L a) (home L b) L = tooFar a b L := by
  unfold tooFar
  have e1 : (home L b).2.2 = b.2.2 - b.2.1 / L * L := rfl
  have e2 : (home L b).2.1 = b.2.1 + (-(b.2.1 / L)) * L := by show b.2.1 - b.2.1 / L * L = _; rw [Int.neg_mul]; omega
  rw [e1, e2, plc_home hL, plc_shift hL, Int.neg_mul]
  congr 1
  rw [decide_eq_decide]
  constructor <;> intro h <;> omega
theorem clash_home {L : Int} (hL : 0 < L) (a b : Lk) : clashB (home L a) (home L b) L = clashB a b L := by
  unfold clashB
  rw [far_home hL, far_home hL]
def spSpot (K : PySem.W.Frag) : Sp := fun vs H Q _ => ∃ (t g p : Addr) (n : Nat) (L : Int) (ls : List Lk), vs = [.ref t, .int L, .ref p] ∧ Tray H t g n ∧ n < 2 ^ 44 ∧ 0 < L ∧ L ≤ 10 ^ 30 ∧ LAt K H p (ls.map encL) ∧ p ≠ t ∧ p ≠ g ∧ (∀ l ∈ ls, WordOk l.1 ∧ Sized 270 l) ∧ ls.length ≤ 100 ∧
  ∀ (H' : Hp) (r : Int), At H H' t g (n + 20) → r.natAbs < 2 ^ 280 → Q (.int r) H'
section
variable {P : Program} {w : World} {K : PySem.W.Frag} {mg : Str → Option Value} {base : Heap} {Z : Ad}
end
end KA
namespace KA
open PySem PySem.Spec PyProof.Rows L2 DP
theorem tells_home {L : Int} (hL : 0 < L) {sd : Str} {ls hs : List Lk} {x : Int} {v u : V} (hh : ∀ o, o ∈ hs ↔ ∃ l ∈ ls, o = home L l) (h : Tells sd ls x L v) (h' : Tells sd hs x L u) : u = v := by
  rcases h with ⟨e, rfl⟩ | ⟨m, rfl, b⟩
  · rcases h' with ⟨_, rfl⟩ | ⟨m, rfl, b⟩
    · rfl
    · obtain ⟨⟨l, hl, _⟩, _⟩ := b
      rw [(side_nil hh).mpr e] at hl; cases hl
  · rcases h' with ⟨e, rfl⟩ | ⟨m', rfl, b'⟩
    · obtain ⟨⟨l, hl, _⟩, _⟩ := b
      rw [(side_nil hh).mp e] at hl; cases hl
    · rw [best_one b (best_home hL hh b')]
theorem DarkAt.keep {Z : Ad} {K : PySem.W.Frag} {H H' : Hp} {t g d : Addr} {n : Nat} {L : Int} {ls : List Lk} (D : DarkAt Z K H d L ls) (T : Tray H t g n) (k : Keep t g H H') (hla : ∀ la dx, H d = some (.ins Z.C dx (df L la)) → la ≠ t ∧ la ≠ g) :
    DarkAt Z K H' d L ls ∧ ∀ la dx, H' d = some (.ins Z.C dx (df L la)) → la ≠ t ∧ la ≠ g := by
  obtain ⟨dx, la, vs, h1, h2, h3⟩ := D.ex
  obtain ⟨a1, a2⟩ := hla la dx h1
  have hd : d ≠ t ∧ d ≠ g := by
    obtain ⟨⟨gs, l, f, c, e1, e2, r⟩, hne⟩ := T
    refine ⟨?_, ?_⟩ <;> rintro rfl
    · rw [h1] at e1; cases e1
    · rw [h1] at e2; cases e2
  have h1' := k _ _ h1 hd.1 hd.2
  refine ⟨⟨⟨dx, la, vs, h1', k _ _ h2 a1 a2, dpAll_tups (Keep.tups T k) _ _ (noLs_map noL_encL ls) h3⟩, D.pos, D.big, D.ok, D.len⟩, fun la' dx' e => ?_⟩
  rw [h1'] at e
  rw [← df_inj e]
  exact ⟨a1, a2⟩
/-- what a Dark tells, told by the looks that it heard -/
theorem tells_ls {L : Int} (hL : 0 < L) {sd : Str} {ls hs : List Lk} {x : Int} {v : V} (hh : ∀ o, o ∈ hs ↔ ∃ l ∈ ls, o = home L l) (h : Tells sd hs x L v) : Tells sd ls x L v := by
  rcases h with ⟨e, rfl⟩ | ⟨m, rfl, b⟩
  · exact .inl ⟨(side_nil hh).mp e, rfl⟩
  · exact .inr ⟨m, rfl, best_home hL hh b⟩
def vmap (φ : Int → Int) : V → V | .int m => .int (φ m) | _ => .non
def Flat (v : V) : Prop := v = .non ∨ ∃ m, v = .int m
theorem tells_flat' {sd : Str} {ls : List Lk} {x L : Int} {v : V} (h : Tells sd ls x L v) : Flat v := by
  rcases h with ⟨_, rfl⟩ | ⟨m, rfl, _⟩
  · exact .inl rfl
  · exact .inr ⟨m, rfl⟩
theorem flat_map {v : V} (h : Flat v) (φ : Int → Int) : Flat (vmap φ v) := by
  rcases h with rfl | ⟨m, rfl⟩
  · exact .inl rfl
  · exact .inr ⟨_, rfl⟩
theorem flat_dp {v : V} (h : Flat v) : ∃ d, fewD d = true ∧ d.depth = 0 ∧ ∀ (K : PySem.W.Frag) (H : Hp), Dp K H v d := by
  rcases h with rfl | ⟨m, rfl⟩
  · exact ⟨.none, rfl, rfl, fun K H => .non⟩
  · exact ⟨.int m, rfl, rfl, fun K H => .int m⟩
/-- looks changed, places changed: what is told is changed -/
theorem tells_map {sd sd' : Str} {f : Lk → Lk} {φ : Int → Int} {ls : List Lk} {x x' L L' : Int} {v : V} (hside : ∀ l ∈ ls, onSide sd' (f l).1 = onSide sd l.1) (hplc : ∀ l ∈ ls, plc sd' (f l) x' L' = φ (plc sd l x L))
    (hmono : ∀ a b, (if sd = "slow" then a ≤ b else b ≤ a) → if sd' = "slow" then φ a ≤ φ b else φ b ≤ φ a) (h : Tells sd ls x L v) : Tells sd' (ls.map f) x' L' (vmap φ v) := by
  rcases h with ⟨e, rfl⟩ | ⟨m, rfl, ⟨l, hl, em⟩, hb⟩
  · refine .inl ⟨List.eq_nil_iff_forall_not_mem.mpr fun o ho => ?_, rfl⟩
    obtain ⟨h1, h2⟩ := mem_side.mp ho
    obtain ⟨l, hl, rfl⟩ := List.mem_map.mp h1
    rw [hside l hl] at h2
    have : l ∈ sideOf sd ls := mem_side.mpr ⟨hl, h2⟩
    rw [e] at this; cases this
  · obtain ⟨h1, h2⟩ := mem_side.mp hl
    refine .inr ⟨φ m, rfl, ⟨f l, mem_side.mpr ⟨List.mem_map.mpr ⟨l, h1, rfl⟩, by rw [hside l h1]; exact h2⟩, by rw [hplc l h1, em]⟩, fun o ho => ?_⟩
    obtain ⟨g1, g2⟩ := mem_side.mp ho
    obtain ⟨q, hq, rfl⟩ := List.mem_map.mp g1
    rw [hside q hq] at g2
    have h3 := hb q (mem_side.mpr ⟨hq, g2⟩)
    rw [hplc q hq]
    refine hmono _ _ ?_
    split at h3
    · rw [if_pos (by assumption)]; exact h3
    · rw [if_neg (by assumption)]; exact h3
theorem far_map {f : Lk → Lk} {L L' : Int} {a b : Lk} (h1 : onSide "slow" (f a).1 = onSide "slow" a.1) (h2 : onSide "fast" (f b).1 = onSide "fast" b.1) (h3 : (f b).2.2 < plc "slow" (f a) (f b).2.1 L' ↔ b.2.2 < plc "slow" a b.2.1 L) : tooFar (f a) (f b) L' = tooFar a b L := by
  unfold tooFar
  rw [h1, h2]
  congr 1
  rw [decide_eq_decide]
  exact h3
/-- moved -/
def mv (off : Int) (l : Lk) : Lk := (l.1, l.2.1 + off, l.2.2 + off)
theorem plc_mv (sd : Str) (off : Int) (l : Lk) (x L : Int) : plc sd (mv off l) (x + off) L = plc sd l x L + off := by
  unfold plc
  split
  · show l.2.2 + off + (x + off - (l.2.1 + off)) / L * L = l.2.2 + (x - l.2.1) / L * L + off
    have e : x + off - (l.2.1 + off) = x - l.2.1 := by omega
    rw [e]; omega
  · show l.2.2 + off - (l.2.1 + off - (x + off)) / L * L = l.2.2 - (l.2.1 - x) / L * L + off
    have e : l.2.1 + off - (x + off) = l.2.1 - x := by omega
    rw [e]; omega
theorem far_mv (off : Int) (a b : Lk) (L : Int) : tooFar (mv off a) (mv off b) L = tooFar a b L := by
  refine far_map rfl rfl ?_
  show b.2.2 + off < plc "slow" (mv off a) (b.2.1 + off) L ↔ _
  rw [plc_mv]; omega
theorem clash_mv (off : Int) (a b : Lk) (L : Int) : clashB (mv off a) (mv off b) L = clashB a b L := by
  unfold clashB
  rw [far_mv, far_mv]
/-- so many times -/
def gr (m : Int) (l : Lk) : Lk := (l.1, l.2.1 * m, l.2.2 * m)
theorem div_gr {a m r L : Int} (hm : 0 < m) (hL : 0 < L) (h0 : 0 ≤ r) (h1 : r < m) : (a * m + r) / (L * m) = a / L := by
  have e : (a * m + r) / m = a := by
    rw [Int.add_comm, Int.add_mul_ediv_right _ _ (by omega), Int.ediv_eq_zero_of_lt h0 h1, Int.zero_add]
  have e2 : (a * m + r) / (m * L) = (a * m + r) / m / L := (Int.ediv_ediv_of_nonneg (Int.le_of_lt hm)).symm
  rw [Int.mul_comm L m, e2, e]
theorem plc_gr_slow {m r L : Int} (hm : 0 < m) (hL : 0 < L) (h0 : 0 ≤ r) (h1 : r < m) (l : Lk) (x : Int) : plc "slow" (gr m l) (x * m + r) (L * m) = plc "slow" l x L * m := by
  rw [plc_slow, plc_slow]
  show l.2.2 * m + (x * m + r - l.2.1 * m) / (L * m) * (L * m) = (l.2.2 + (x - l.2.1) / L * L) * m
  have e : x * m + r - l.2.1 * m = (x - l.2.1) * m + r := by rw [Int.sub_mul]; omega
  rw [e, div_gr hm hL h0 h1, Int.add_mul, Int.mul_assoc]
theorem plc_gr_fast {m r L : Int} (hm : 0 < m) (hL : 0 < L) (h0 : 0 ≤ r) (h1 : r < m) (l : Lk) (x : Int) : plc "fast" (gr m l) (x * m - r) (L * m) = plc "fast" l x L * m := by
  rw [plc_fast, plc_fast]
  show l.2.2 * m - (l.2.1 * m - (x * m - r)) / (L * m) * (L * m) = (l.2.2 - (l.2.1 - x) / L * L) * m
  have e : l.2.1 * m - (x * m - r) = (l.2.1 - x) * m + r := by rw [Int.sub_mul]; omega
  rw [e, div_gr hm hL h0 h1, Int.sub_mul, Int.mul_assoc]
theorem far_gr {m L : Int} (hm : 0 < m) (hL : 0 < L) (a b : Lk) : tooFar (gr m a) (gr m b) (L * m) = tooFar a b L := by
  refine far_map rfl rfl ?_
  show b.2.2 * m < plc "slow" (gr m a) (b.2.1 * m) (L * m) ↔ _
  have e := plc_gr_slow hm hL (Int.le_refl 0) hm a b.2.1
  rw [Int.add_zero] at e
  rw [e]
  exact Int.mul_lt_mul_right hm
theorem clash_gr {m L : Int} (hm : 0 < m) (hL : 0 < L) (a b : Lk) : clashB (gr m a) (gr m b) (L * m) = clashB a b L := by
  unfold clashB
  rw [far_gr hm hL, far_gr hm hL]
/-- the other way about -/
def sw (x : Str) : Str := if x = "from" then "upto" else if x = "upto" then "from" else "at"
def ot (l : Lk) : Lk := (sw l.1, 0 - l.2.1, 0 - l.2.2)
theorem sw_ok {x : Str} (h : WordOk x) : WordOk (sw x) ∧ onSide "slow" (sw x) = onSide "fast" x ∧ onSide "fast" (sw x) = onSide "slow" x := by
  rcases h with rfl | rfl | rfl <;> exact ⟨by unfold WordOk; decide +kernel, by decide +kernel, by decide +kernel⟩
theorem plc_ot_slow (l : Lk) (x L : Int) : plc "slow" (ot l) (0 - x) L = 0 - plc "fast" l x L := by
  rw [plc_slow, plc_fast]
  show 0 - l.2.2 + (0 - x - (0 - l.2.1)) / L * L = 0 - (l.2.2 - (l.2.1 - x) / L * L)
  have e : 0 - x - (0 - l.2.1) = l.2.1 - x := by omega
  rw [e]; omega
theorem plc_ot_fast (l : Lk) (x L : Int) : plc "fast" (ot l) (0 - x) L = 0 - plc "slow" l x L := by
  rw [plc_slow, plc_fast]
  show 0 - l.2.2 - (0 - l.2.1 - (0 - x)) / L * L = 0 - (l.2.2 + (x - l.2.1) / L * L)
  have e : 0 - l.2.1 - (0 - x) = x - l.2.1 := by omega
  rw [e]; omega
theorem far_ot {a b : Lk} (ha : WordOk a.1) (hb : WordOk b.1) (L : Int) : tooFar (ot a) (ot b) L = tooFar b a L := by
  unfold tooFar
  have e1 : onSide "slow" (ot a).1 = onSide "fast" a.1 := (sw_ok ha).2.1
  have e2 : onSide "fast" (ot b).1 = onSide "slow" b.1 := (sw_ok hb).2.2
  rw [e1, e2, Bool.and_comm (onSide "fast" a.1)]
  congr 1
  rw [decide_eq_decide]
  show 0 - b.2.2 < plc "slow" (ot a) (0 - b.2.1) L ↔ a.2.2 < plc "slow" b a.2.1 L
  rw [plc_ot_slow, plc_fast, plc_slow]
  omega
theorem clash_ot {a b : Lk} (ha : WordOk a.1) (hb : WordOk b.1) (L : Int) : clashB (ot a) (ot b) L = clashB a b L := by
  unfold clashB
  rw [far_ot ha hb, far_ot hb ha, Bool.or_comm]
/-- may -/
def mayB (L : Int) (hs : List Lk) (l : Lk) : Bool := !hs.any fun o => clashB (home L l) o L
theorem may_ls {L : Int} (hL : 0 < L) {ls hs : List Lk} (hh : ∀ o, o ∈ hs ↔ ∃ l ∈ ls, o = home L l) (l : Lk) : mayB L hs l = !ls.any fun q => clashB l q L := by
  unfold mayB
  congr 1
  rw [Bool.eq_iff_iff, List.any_eq_true, List.any_eq_true]
  constructor
  · rintro ⟨o, ho, e⟩
    obtain ⟨q, hq, rfl⟩ := (hh o).mp ho
    rw [clash_home hL] at e
    exact ⟨q, hq, e⟩
  · rintro ⟨q, hq, e⟩
    exact ⟨_, (hh _).mpr ⟨q, hq, rfl⟩, by rw [clash_home hL]; exact e⟩
theorem any_map {f : Lk → Lk} {L L' : Int} {ls : List Lk} {l : Lk} (h : ∀ q ∈ ls, clashB (f l) (f q) L' = clashB l q L) : ((ls.map f).any fun q => clashB (f l) q L') = ls.any fun q => clashB l q L := by
  rw [List.any_map, Bool.eq_iff_iff, List.any_eq_true, List.any_eq_true]
  constructor
  · rintro ⟨q, hq, e⟩
    exact ⟨q, hq, by rw [← h q hq]; exact e⟩
  · rintro ⟨q, hq, e⟩
    exact ⟨q, hq, by show clashB (f l) (f q) L' = true; rw [h q hq]; exact e⟩
end KA
namespace KA
open PySem PySem.Spec PyProof.Rows L2 DP
def spLHome (K : PySem.W.Frag) : Sp := fun vs H Q _ => ∃ (v : V) (L : Int) (l : Lk), vs = [.int L, v] ∧ Dp K H v (encL l) ∧ 0 < L ∧ L.natAbs < 2 ^ 200 ∧ Sized 300 l ∧ ∀ r H', Same H H' → Dp K H' r (encL (home L l)) → Q r H'
section
variable {P : Program} {w : World} {K : PySem.W.Frag} {mg : Str → Option Value} {base : Heap} {Z : Ad}
theorem ok_law_home (T : Tx K w mg Z) : FnOk P w K mg base CX0 1 Z.a_law_home Z.d_law_home P_law_home (spLHome K) := by
  refine T.F_law_home.ok sclaw_home (fun vs H Q E h => ?_) (fun cdv A outer s H vs Q E hr h => ?_)
  · obtain ⟨v, L, l, rfl, _⟩ := h
    rfl
  · obtain ⟨v, L, l, rfl, hv, hL, hLb, hl, k⟩ := h
    obtain ⟨p, rfl, hp⟩ := dp_look hv
    refine ⟨_, (pss_cons (ps_set (i := 2) sclaw_home.nd rfl (Or.inl rfl) (pe_op op_mulW (pe_op op_fdivW (pe_ix (ixT (K := K)) (pv 1) pe_int (fun _ _ => rfl)) (pv 0)) (pv 0)))
      (pss_one (ps_ret (pe_tup (pa_cons (pe_ix (ixT (K := K)) (pv 1) pe_int (fun _ _ => rfl)) (pa_cons (pe_op op_sub (pe_ix (ixT (K := K)) (pv 1) pe_int (fun _ _ => rfl)) (pv 2)) (pa_cons (pe_op op_sub (pe_ix (ixT (K := K)) (pv 1) pe_int (fun _ _ => rfl)) (pv 2)) pa_nil))))))), ?_⟩
    have b1 : (l.2.1 / L).natAbs < 2 ^ 301 := div_lt hL hl.1
    refine ⟨_, rfl, _, _, _, _, rfl, rfl, hp, rfl, _, rfl, _, _, rfl, rfl, wide_div hL hLb (by decide) (by decide), _, rfl, _, _, rfl, rfl, wide_mul b1 hLb (by decide) (by decide) (by decide), ?_⟩
    refine ⟨_, rfl, _, _, _, _, rfl, rfl, hp, rfl, ?_⟩
    refine ⟨_, rfl, _, _, _, _, rfl, rfl, hp, rfl, _, rfl, _, _, rfl, rfl, ?_⟩
    refine ⟨_, rfl, _, _, _, _, rfl, rfl, hp, rfl, _, rfl, _, _, rfl, rfl, (by show 3 ≤ sizeLine; decide), fun q hq => ?_⟩
    exact k _ _ (same_upd hq) (.tup (SqT.of upd_same) (.cons (.str _) (.cons (.int _) (.cons (.int _) .nil))))
end
end KA
namespace KA
open PySem PySem.Spec PyProof.Rows L2 DP
/-! ### looks in order, each once -/
def leL (a b : Lk) : Bool := PySem.W.dataLe false encL a b
theorem leL_iff {a b : Lk} : leL a b = true ↔ (listOrd itemOrd).kle (PySem.W.keyToks (encL a)) (PySem.W.keyToks (encL b)) := by
  show (!PyProof.Rows.lexLt itemOrd (PySem.W.keyToks (encL b)) (PySem.W.keyToks (encL a))) = true ↔ PyProof.Rows.lexLt itemOrd (PySem.W.keyToks (encL b)) (PySem.W.keyToks (encL a)) = false
  cases PyProof.Rows.lexLt itemOrd (PySem.W.keyToks (encL b)) (PySem.W.keyToks (encL a)) <;> simp
theorem leL_trans (a b c : Lk) (h1 : leL a b = true) (h2 : leL b c = true) : leL a c = true := leL_iff.mpr (KeyOrd.kle_trans (leL_iff.mp h1) (leL_iff.mp h2))
theorem leL_total (a b : Lk) : (leL a b || leL b a) = true := by
  rw [Bool.or_eq_true]
  cases e : (listOrd itemOrd).blt (PySem.W.keyToks (encL b)) (PySem.W.keyToks (encL a)) with
  | false => exact .inl (leL_iff.mpr e)
  | true => exact .inr (leL_iff.mpr (KeyOrd.kle_of_klt (O := listOrd itemOrd) e))
theorem toks_inj {a b : Lk} (h : PySem.W.keyToks (encL a) = PySem.W.keyToks (encL b)) : a = b := by
  obtain ⟨⟨a1⟩, a2, a3⟩ := a
  obtain ⟨⟨b1⟩, b2, b3⟩ := b
  simp [encL, PySem.W.keyToks, PySem.W.keyToksAll] at h
  obtain ⟨h1, h2, h3⟩ := h
  rw [h1, h2, h3]
theorem leL_anti (a b : Lk) (h1 : leL a b = true) (h2 : leL b a = true) : a = b := toks_inj (KeyOrd.kle_antisymm (leL_iff.mp h1) (leL_iff.mp h2))
structure Canon (ms : List Lk) (S : Lk → Prop) : Prop where
  nd : ms.Nodup
  srt : ms.Pairwise (fun a b => leL a b = true)
  mem : ∀ o, o ∈ ms ↔ S o
theorem Canon.eq {ms ns : List Lk} {S S' : Lk → Prop} (a : Canon ms S) (b : Canon ns S') (h : ∀ o, S o ↔ S' o) : ms = ns :=
  List.Perm.eq_of_pairwise (fun x y _ _ h1 h2 => leL_anti x y h1 h2) a.srt b.srt ((List.perm_ext_iff_of_nodup a.nd b.nd).mpr fun o => (a.mem o).trans ((h o).trans (b.mem o).symm))
theorem Canon.iff {ms : List Lk} {S S' : Lk → Prop} (a : Canon ms S) (h : ∀ o, S o ↔ S' o) : Canon ms S' := ⟨a.nd, a.srt, fun o => (a.mem o).trans (h o)⟩
theorem canon_nil : Canon [] (fun _ => False) := ⟨.nil, .nil, fun o => by simp⟩
theorem canon_sort {ms : List Lk} (nd : ms.Nodup) : Canon (ms.mergeSort leL) (fun o => o ∈ ms) := ⟨(List.mergeSort_perm _ _).nodup_iff.mpr nd, List.pairwise_mergeSort leL_trans leL_total _, fun o => (List.mergeSort_perm _ _).mem_iff⟩
theorem heard_canon {L : Int} {hs : List Lk} {S : Lk → Prop} (c : Canon hs S) (l : Lk) : Canon (heard L hs l) (fun o => S o ∨ o = home L l) := by
  refine ⟨?_, ?_, fun o => ?_⟩
  · unfold heard
    split
    · exact c.nd
    · rename_i h
      exact (List.mergeSort_perm _ _).nodup_iff.mpr (List.nodup_append.mpr ⟨c.nd, List.pairwise_singleton _ _, fun a ha b hb e => h (by rw [List.mem_singleton] at hb; rw [← hb, ← e]; exact ha)⟩)
  · unfold heard
    split
    · exact c.srt
    · exact List.pairwise_mergeSort leL_trans leL_total _
  · rw [heard_mem, c.mem]
theorem fold_canon {L : Int} : ∀ (ls hs : List Lk) {S : Lk → Prop}, Canon hs S → Canon (ls.foldl (heard L) hs) (fun o => S o ∨ ∃ l ∈ ls, o = home L l)
  | [], hs, S, c => c.iff fun o => by simp
  | l :: ls, hs, S, c => (fold_canon ls _ (heard_canon c l)).iff fun o => by
    constructor
    · rintro ((h | h) | ⟨q, hq, h⟩)
      · exact .inl h
      · exact .inr ⟨l, List.mem_cons_self, h⟩
      · exact .inr ⟨q, List.mem_cons_of_mem _ hq, h⟩
    · rintro (h | ⟨q, hq, h⟩)
      · exact .inl (.inl h)
      · rcases List.mem_cons.mp hq with e | e
        · exact .inl (.inr (e ▸ h))
        · exact .inr ⟨q, e, h⟩
theorem fold0_canon (L : Int) (ls : List Lk) : Canon (ls.foldl (heard L) []) (fun o => ∃ l ∈ ls, o = home L l) := (fold_canon ls [] canon_nil).iff fun o => by simp
theorem filter_canon {hs : List Lk} {S : Lk → Prop} (c : Canon hs S) (q : Lk → Bool) : Canon (hs.filter q) (fun o => S o ∧ q o = true) := ⟨c.nd.filter _, c.srt.filter _, fun o => by rw [List.mem_filter, c.mem]⟩
/-! ### a set of looks, sorted -/
def keyL (l : Lk) : List Key := [.inr l.1, .inl l.2.1, .inl l.2.2]
theorem keyL_inj {a b : Lk} (h : keyL a = keyL b) : a = b := by
  obtain ⟨a1, a2, a3⟩ := a
  obtain ⟨b1, b2, b3⟩ := b
  simp [keyL] at h
  obtain ⟨h1, h2, h3⟩ := h
  rw [h1, h2, h3]
section
variable {K : PySem.W.Frag} {H : Hp}
theorem look_rows : ∀ {ls : List Lk} {xs : List V}, DpAll K H xs (ls.map encL) → ∃ ks : List (Addr × List Key), xs = ks.map (fun p => V.ref p.1) ∧ ks.map Prod.snd = ls.map keyL ∧ SD.Stand K H ks
  | [], xs, h => by
    have h' : DpAll K H xs [] := h
    cases h'
    exact ⟨[], rfl, rfl, fun p hp => by cases hp⟩
  | l :: ls, xs, h => by
    have h' : DpAll K H xs (encL l :: ls.map encL) := h
    cases h' with
    | cons h1 h2 =>
      obtain ⟨ks, e1, e2, st⟩ := look_rows h2
      obtain ⟨a, rfl, ha⟩ := dp_look h1
      refine ⟨(a, keyL l) :: ks, by rw [e1]; rfl, by rw [List.map_cons, e2]; rfl, fun p hp => ?_⟩
      rcases List.mem_cons.mp hp with e | e
      · rw [e]; exact ha
      · exact st p e
theorem rows_look : ∀ {ms : List Lk} {M : List (Addr × List Key)}, M.map Prod.snd = ms.map keyL → SD.Stand K H M → DpAll K H (M.map fun p => V.ref p.1) (ms.map encL)
  | [], [], _, _ => .nil
  | [], _ :: _, e, _ => by cases e
  | _ :: _, [], e, _ => by cases e
  | l :: ms, p :: M, e, st => by
    injection e with e1 e2
    have h1 := st p List.mem_cons_self
    rw [e1] at h1
    exact .cons (.tup h1 (.cons (.str _) (.cons (.int _) (.cons (.int _) .nil)))) (rows_look e2 fun q hq => st q (List.mem_cons_of_mem _ hq))
theorem keys_back : ∀ {ks : List (List Key)} {ls : List Lk}, (∀ k ∈ ks, ∃ l ∈ ls, k = keyL l) → ∃ ms : List Lk, ks = ms.map keyL ∧ ∀ m ∈ ms, m ∈ ls
  | [], _, _ => ⟨[], rfl, fun _ h => by cases h⟩
  | k :: ks, ls, h => by
    obtain ⟨l, hl, e⟩ := h k List.mem_cons_self
    obtain ⟨ms, e2, h2⟩ := keys_back (ks := ks) (ls := ls) fun q hq => h q (List.mem_cons_of_mem _ hq)
    refine ⟨l :: ms, by rw [e, e2]; rfl, fun m hm => ?_⟩
    rcases List.mem_cons.mp hm with z | z
    · rw [z]; exact hl
    · exact h2 m z
/-- looks of few kinds -/
def FewL (ls : List Lk) : Prop := ∃ S : List Lk, S.length < 64 ∧ ∀ l ∈ ls, l ∈ S
/-- sorted(set(looks)) -/
theorem set_sortedF {P : Program} {w : World} {l : Addr} {xs : List V} {ls : List Lk} (hl : SqL K H l xs) (hd : DpAll K H xs (ls.map encL)) (few : FewL ls) {Q : VK}
    (q : ∀ p ys H' ms, Same H H' → H p = none → H' p = some (.lst ys) → DpAll K H' ys (ms.map encL) → Canon ms (fun o => o ∈ ls) → Q (.ref p) H') :
    SD.rSetD K P w [.ref l] H (fun v H' => SD.rSortSetD K P w [v] H' Q) := by
  obtain ⟨ks, e1, e2, st⟩ := look_rows hd
  have hkl : ks.length = ls.length := by rw [← List.length_map (f := Prod.snd), e2, List.length_map]
  subst e1
  refine ⟨l, ks, rfl, hl, st, (by
    obtain ⟨S, hS, q⟩ := few
    refine ⟨S.map keyL, by rw [List.length_map]; exact hS, fun p hp => ?_⟩
    have h1 : p.2 ∈ ks.map Prod.snd := List.mem_map.mpr ⟨p, hp, rfl⟩
    rw [e2] at h1
    obtain ⟨l, hl, e⟩ := List.mem_map.mp h1
    exact List.mem_map.mpr ⟨l, q l hl, e⟩), fun a M ha hM hall hone => ?_⟩
  have S1 := same_upd (o := SD.SetDO P w a M) ha
  have stM : SD.Stand K (upd H a (SD.SetDO P w a M)) M := SD.Stand.same (fun p hp => st p (hM p hp)) S1
  have inl : ∀ p ∈ M, ∃ l ∈ ls, p.2 = keyL l := fun p hp => by
    have h1 : p.2 ∈ ks.map Prod.snd := List.mem_map.mpr ⟨p, hM p hp, rfl⟩
    rw [e2] at h1
    obtain ⟨l, hl, e⟩ := List.mem_map.mp h1
    exact ⟨l, hl, e.symm⟩
  refine ⟨a, M, rfl, upd_same, stM, ⟨fun p hp p2 hp2 => ?_, fun p hp => ?_⟩, fun N p pm hp => ?_⟩
  · obtain ⟨l1, _, e1⟩ := inl p hp
    obtain ⟨l2, _, e2⟩ := inl p2 hp2
    unfold SD.encK
    rw [e1, e2]
    simp [keyL, SD.kD, PySem.W.alike, PySem.W.alikeAll]
  · obtain ⟨l1, _, e1⟩ := inl p hp
    rw [e1]; simp [keyL]
  · obtain ⟨ms, em, hms⟩ := keys_back (ks := N.map Prod.snd) (ls := ls) fun k hk => by
      obtain ⟨p, hp, e⟩ := List.mem_map.mp hk
      obtain ⟨l, hl, e2⟩ := inl p (pm.mem_iff.mp hp)
      exact ⟨l, hl, by rw [← e, e2]⟩
    have ndk : (ms.map keyL).Nodup := by rw [← em]; exact (pm.map Prod.snd).nodup_iff.mpr hone
    have nd : ms.Nodup := List.Pairwise.of_map keyL (fun _ _ hne e => hne (congrArg keyL e)) ndk
    have hsort : (N.mergeSort (PySem.W.dataLe false SD.encK)).map Prod.snd = (ms.mergeSort leL).map keyL := by
      rw [List.map_mergeSort (f := Prod.snd) (r := PySem.W.dataLe false SD.encK) (s := fun a b => PySem.W.dataLe false SD.encK (0, a) (0, b)) (fun a _ b _ => rfl), em]
      rw [List.map_mergeSort (f := keyL) (r := leL) (s := fun a b => PySem.W.dataLe false SD.encK (0, a) (0, b)) (fun a _ b _ => rfl)]
    have S2 := same_upd (o := HO.lst ((N.mergeSort (PySem.W.dataLe false SD.encK)).map fun q => V.ref q.1)) hp
    refine q p _ _ (ms.mergeSort leL) (S1.trans S2) (S1.free hp) upd_same (rows_look hsort (SD.Stand.same (fun r hr => stM r (pm.mem_iff.mp ((List.mergeSort_perm _ _).mem_iff.mp hr))) S2)) ((canon_sort nd).iff fun o => ⟨hms o, fun ho => ?_⟩)
    have h1 : keyL o ∈ ks.map Prod.snd := by rw [e2]; exact List.mem_map.mpr ⟨o, ho, rfl⟩
    obtain ⟨p2, hp2, e3⟩ := List.mem_map.mp h1
    have h2 := hall p2 hp2
    rw [e3, ← (pm.map Prod.snd).mem_iff, em] at h2
    obtain ⟨m, hm, e4⟩ := List.mem_map.mp h2
    rw [← keyL_inj e4]; exact hm
theorem set_sorted {P : Program} {w : World} {l : Addr} {xs : List V} {ls : List Lk} (hl : SqL K H l xs) (hd : DpAll K H xs (ls.map encL)) (hlen : ls.length < 64) {Q : VK}
    (q : ∀ p ys H' ms, Same H H' → H p = none → H' p = some (.lst ys) → DpAll K H' ys (ms.map encL) → Canon ms (fun o => o ∈ ls) → Q (.ref p) H') :
    SD.rSetD K P w [.ref l] H (fun v H' => SD.rSortSetD K P w [v] H' Q) := set_sortedF hl hd ⟨ls, hlen, fun _ h => h⟩ q
end
end KA
namespace KA
open PySem PySem.Spec PyProof.Rows L2 DP
def spLen (Z : Ad) (K : PySem.W.Frag) : Sp := fun vs H Q _ => ∃ (d : Addr) (L : Int) (ls : List Lk), vs = [.ref d] ∧ DarkAt Z K H d L ls ∧ Q (.int L) H
theorem eqv_looks : ∀ a b : List Lk, PyData.eqvAll (a.map encL) (b.map encL) = decide (a = b)
  | [], [] => rfl
  | [], y :: b => by simp [PyData.eqvAll]
  | x :: a, [] => by simp [PyData.eqvAll]
  | x :: a, y :: b => by
    rw [List.map_cons, List.map_cons, PyData.eqvAll, eqv_look, eqv_looks a b]
    by_cases h1 : x = y <;> by_cases h2 : a = b <;> simp [h1, h2]
def spDEq (Z : Ad) (K : PySem.W.Frag) : Sp := fun vs H Q _ => ∃ (a : Addr) (L : Int) (ls : List Lk) (y : V), vs = [.ref a, y] ∧ DarkAt Z K H a L ls ∧
  ((∃ b L2 ls2, y = .ref b ∧ DarkAt Z K H b L2 ls2 ∧ Q (.bl (decide (L = L2) && decide (ls = ls2))) H) ∨ (((∃ i, y = .int i) ∨ ∃ p xs, y = .ref p ∧ H p = some (.lst xs)) ∧ Q (.bl false) H))
def spDrop (Z : Ad) (K : PySem.W.Frag) : Sp := fun vs H Q _ => ∃ (d : Addr) (L : Int) (ls : List Lk) (l : Lk), vs = [.ref d, .str l.1, .int l.2.1, .int l.2.2] ∧ DarkAt Z K H d L ls ∧ WordOk l.1 ∧ Sized 300 l ∧ home L l ∈ ls ∧
  ∀ H', DarkAt Z K H' d L (ls.filter fun o => !decide (o = home L l)) → (∀ la dx, H' d = some (.ins Z.C dx (df L la)) → H la = none) → (∀ b o, H b = some o → b ≠ d → H' b = some o) → Q .non H'
section
variable {P : Program} {w : World} {K : PySem.W.Frag} {mg : Str → Option Value} {base : Heap} {Z : Ad}
theorem ok_Dark_length (T : Tx K w mg Z) : FnOk P w K mg base CX0 1 Z.a_Dark_length Z.d_Dark_length P_Dark_length (spLen Z K) := by
  refine T.F_Dark_length.ok scDark_length (fun vs H Q E h => ?_) (fun cdv A outer s H vs Q E hr h => ?_)
  · obtain ⟨d, L, ls, rfl, _⟩ := h
    rfl
  · obtain ⟨d, L, ls, rfl, D, k⟩ := h
    obtain ⟨dx, la, xs, h1, h2, h3⟩ := id D.ex
    refine ⟨_, (pss_one (ps_ret (fldK (K := K) (pv 0) rfl))), ?_⟩
    exact ⟨_, rfl, d, Z.C, dx, _, _, rfl, h1, T.cl, T.n_length, df_length _ _, k⟩
end
end KA
namespace KA
open PySem PySem.Spec PyProof.Rows L2 DP
theorem home_home {L : Int} (hL : 0 < L) (l : Lk) : home L (home L l) = home L l := by
  have e : (home L l).2.1 / L = 0 := by
    show (l.2.1 - l.2.1 / L * L) / L = 0
    rw [Int.sub_mul_ediv_right _ _ (by omega : L ≠ 0), Int.sub_self]
  show ((home L l).1, (home L l).2.1 - (home L l).2.1 / L * L, (home L l).2.2 - (home L l).2.1 / L * L) = home L l
  rw [e, Int.zero_mul, Int.sub_zero, Int.sub_zero]
/-- the law's own reckoning -/
def apB (L : Int) (u o : Lk) : Bool := decide (u.1 ≠ "upto") && (decide (o.1 ≠ "from") && decide (u.2.2 + (o.2.1 - u.2.1) / L * L > o.2.2))
theorem apB_far {L : Int} {u o : Lk} (hu : WordOk u.1) (ho : WordOk o.1) : apB L u o = tooFar u o L := by
  have n1 : ¬ (("at" : Str) = "upto") := by decide +kernel
  have n2 : ¬ (("from" : Str) = "upto") := by decide +kernel
  have n3 : ¬ (("upto" : Str) = "at") := by decide +kernel
  have n4 : ¬ (("upto" : Str) = "from") := by decide +kernel
  have n5 : ¬ (("at" : Str) = "from") := by decide +kernel
  have n6 : ¬ (("from" : Str) = "at") := by decide +kernel
  unfold apB tooFar onSide
  rw [plc_slow, if_pos rfl, if_neg slow_ne]
  rcases hu with e | e | e <;> rcases ho with e2 | e2 | e2 <;> rw [e, e2] <;> simp [n1, n2, n3, n4, n5, n6]
def spApart (K : PySem.W.Frag) : Sp := fun vs H Q _ => ∃ (v u : V) (L : Int) (l o : Lk), vs = [.int L, v, u] ∧ Dp K H v (encL l) ∧ Dp K H u (encL o) ∧ 0 < L ∧ L.natAbs < 2 ^ 200 ∧ WordOk l.1 ∧ WordOk o.1 ∧ Sized 302 l ∧ Sized 302 o ∧ ∀ H', Same H H' → Q (.bl (clashB l o L)) H'
section
variable {P : Program} {w : World} {K : PySem.W.Frag} {mg : Str → Option Value} {base : Heap} {Z : Ad} {Y : AdX}
end
end KA
namespace KA
open PySem PySem.Spec PyProof.Rows L2 DP
/-! ### looks led back -/
def upL (l : Lk) : Lk := ("upto", l.2.2, l.2.1)
def frL (l : Lk) : Lk := ("from", l.2.2 + 1, l.2.1 + 1)
def bkA (l : Lk) : List Lk := if l.1 = "upto" then [] else [upL l]
def bkB (l : Lk) : List Lk := if l.1 = "from" then [] else [frL l]
def bk1 (l : Lk) : List Lk := bkA l ++ bkB l
def bk (ls : List Lk) : List Lk := ls.flatMap bk1
theorem mem_bk {ls : List Lk} {q : Lk} : q ∈ bk ls ↔ ∃ l ∈ ls, (l.1 ≠ "upto" ∧ q = upL l) ∨ (l.1 ≠ "from" ∧ q = frL l) := by
  unfold bk
  rw [List.mem_flatMap]
  refine exists_congr fun l => and_congr_right fun _ => ?_
  unfold bk1 bkA bkB
  rw [List.mem_append]
  by_cases c1 : l.1 = "upto" <;> by_cases c2 : l.1 = "from" <;> simp [c1, c2]
theorem bk_word {ls : List Lk} {q : Lk} (h : q ∈ bk ls) : WordOk q.1 := by
  obtain ⟨l, _, ⟨_, rfl⟩ | ⟨_, rfl⟩⟩ := mem_bk.mp h
  · exact .inr (.inr rfl)
  · exact .inr (.inl rfl)
theorem bk_sized {ls : List Lk} {q : Lk} {n : Nat} (h : q ∈ bk ls) (hs : ∀ l ∈ ls, Sized n l) : Sized (n + 1) q := by
  obtain ⟨l, hl, ⟨_, rfl⟩ | ⟨_, rfl⟩⟩ := mem_bk.mp h
  · exact ⟨lt_up (hs l hl).2 (Nat.le_succ n), lt_up (hs l hl).1 (Nat.le_succ n)⟩
  · have one : ∀ a : Int, a.natAbs < 2 ^ n → (a + 1).natAbs < 2 ^ (n + 1) := fun a ha => by
      have h1 : 1 ≤ 2 ^ n := Nat.one_le_two_pow
      rw [Nat.pow_succ]; omega
    exact ⟨one _ (hs l hl).2, one _ (hs l hl).1⟩
theorem not_upto {x : Str} (h : WordOk x) (n : x ≠ "upto") : onSide "slow" x = true := by
  rcases h with rfl | rfl | rfl
  · decide +kernel
  · decide +kernel
  · exact absurd rfl n
theorem not_from {x : Str} (h : WordOk x) (n : x ≠ "from") : onSide "fast" x = true := by
  rcases h with rfl | rfl | rfl
  · decide +kernel
  · exact absurd rfl n
  · decide +kernel
theorem slow_from {x : Str} (h : onSide "slow" x = true) : x ≠ "upto" := by
  rintro rfl
  exact absurd h (by decide +kernel)
theorem fast_upto {x : Str} (h : onSide "fast" x = true) : x ≠ "from" := by
  rintro rfl
  exact absurd h (by decide +kernel)
theorem bk_slow {ls : List Lk} {q : Lk} (h : q ∈ bk ls) (s : onSide "slow" q.1 = true) : ∃ l ∈ ls, l.1 ≠ "from" ∧ q = frL l := by
  obtain ⟨l, hl, ⟨_, rfl⟩ | ⟨n, rfl⟩⟩ := mem_bk.mp h
  · exact absurd rfl (slow_from s)
  · exact ⟨l, hl, n, rfl⟩
theorem bk_fast {ls : List Lk} {q : Lk} (h : q ∈ bk ls) (s : onSide "fast" q.1 = true) : ∃ l ∈ ls, l.1 ≠ "upto" ∧ q = upL l := by
  obtain ⟨l, hl, ⟨n, rfl⟩ | ⟨_, rfl⟩⟩ := mem_bk.mp h
  · exact ⟨l, hl, n, rfl⟩
  · exact absurd rfl (fast_upto s)
theorem div_le {a L : Int} (hL : 0 < L) : a / L * L ≤ a := by
  have h1 := Int.mul_ediv_add_emod a L
  have h2 := Int.emod_nonneg a (show L ≠ 0 by omega)
  rw [Int.mul_comm] at h1
  omega
theorem le_div {a k L : Int} (hL : 0 < L) (h : k * L ≤ a) : k * L ≤ a / L * L := Int.mul_le_mul_of_nonneg_right ((Int.le_ediv_iff_mul_le hL).mpr h) (Int.le_of_lt hL)
theorem bk_far {L : Int} (hL : 0 < L) {ls : List Lk} (hw : ∀ l ∈ ls, WordOk l.1) (nc : ∀ a ∈ ls, ∀ b ∈ ls, clashB a b L = false) {p q : Lk} (hp : p ∈ bk ls) (hq : q ∈ bk ls) : tooFar p q L = false := by
  cases c : tooFar p q L with
  | false => rfl
  | true =>
    exfalso
    unfold tooFar at c
    rw [Bool.and_eq_true, Bool.and_eq_true, decide_eq_true_eq] at c
    obtain ⟨⟨c1, c2⟩, c3⟩ := c
    obtain ⟨b, hb, nb, rfl⟩ := bk_slow hp c1
    obtain ⟨a, ha, na, rfl⟩ := bk_fast hq c2
    rw [plc_slow] at c3
    have c3' : a.2.1 < b.2.1 + 1 + (a.2.2 - (b.2.2 + 1)) / L * L := c3
    have h1 := div_le (a := a.2.2 - (b.2.2 + 1)) hL
    generalize (a.2.2 - (b.2.2 + 1)) / L = k at c3' h1
    have h2 : (-k) * L ≤ b.2.1 - a.2.1 := by rw [Int.neg_mul]; omega
    have h3 := le_div hL h2
    rw [Int.neg_mul] at h3
    have h4 := nc a ha b hb
    unfold clashB tooFar at h4
    rw [not_upto (hw a ha) na, not_from (hw b hb) nb, Bool.true_and, Bool.true_and, plc_slow, Bool.or_eq_false_iff, decide_eq_false_iff_not] at h4
    exact h4.1 (by omega)
theorem bk_nc {L : Int} (hL : 0 < L) {ls : List Lk} (hw : ∀ l ∈ ls, WordOk l.1) (nc : ∀ a ∈ ls, ∀ b ∈ ls, clashB a b L = false) : ∀ p ∈ bk ls, ∀ q ∈ bk ls, clashB p q L = false := fun p hp q hq => by
  unfold clashB
  rw [bk_far hL hw nc hp hq, bk_far hL hw nc hq hp]; rfl
/-- where the least lands, the greatest of the hand led back comes from -/
theorem bk_in_fast {ls : List Lk} {x L m : Int} (h : IsBest "slow" (sideOf "slow" ls) x L m) : ∃ l ∈ ls, plc "slow" l x L = m ∧ upL l ∈ sideOf "fast" (bk ls) := by
  obtain ⟨⟨l, hl, em⟩, hb⟩ := h
  obtain ⟨hl1, hl2⟩ := mem_side.mp hl
  exact ⟨l, hl1, em, mem_side.mpr ⟨mem_bk.mpr ⟨l, hl1, .inl ⟨slow_from hl2, rfl⟩⟩, show onSide "fast" "upto" = true by decide +kernel⟩⟩
theorem bk_in_slow {ls : List Lk} {x L m : Int} (h : IsBest "fast" (sideOf "fast" ls) x L m) : ∃ l ∈ ls, plc "fast" l x L = m ∧ frL l ∈ sideOf "slow" (bk ls) := by
  obtain ⟨⟨l, hl, em⟩, hb⟩ := h
  obtain ⟨hl1, hl2⟩ := mem_side.mp hl
  exact ⟨l, hl1, em, mem_side.mpr ⟨mem_bk.mpr ⟨l, hl1, .inr ⟨fast_upto hl2, rfl⟩⟩, show onSide "slow" "from" = true by decide +kernel⟩⟩
theorem back_least1 {L : Int} (hL : 0 < L) {ls : List Lk} {x m : Int} (h : IsBest "slow" (sideOf "slow" ls) x L m) {u : V} (tu : Tells "fast" (bk ls) m L u) : ∃ a, u = .int a ∧ a ≤ x := by
  obtain ⟨l, _, em, hin⟩ := bk_in_fast h
  rcases tu with ⟨e, _⟩ | ⟨a, rfl, ba⟩
  · rw [e] at hin; cases hin
  refine ⟨a, rfl, ?_⟩
  have h1 := ba.2 _ hin
  rw [if_neg slow_ne, plc_fast] at h1
  have h1' : a ≤ l.2.1 - (l.2.2 - m) / L * L := h1
  rw [plc_slow] at em
  have e2 : l.2.2 - m = (-((x - l.2.1) / L)) * L := by rw [Int.neg_mul]; omega
  rw [e2, Int.mul_ediv_cancel _ (by omega : L ≠ 0), Int.neg_mul] at h1'
  have := div_le (a := x - l.2.1) hL
  omega
theorem back_least2 {L : Int} (hL : 0 < L) {ls : List Lk} (hw : ∀ l ∈ ls, WordOk l.1) {x m : Int} (h : IsBest "slow" (sideOf "slow" ls) x L m) {v : V} (tv : Tells "fast" (bk ls) (m + 1) L v) : ∃ b, v = .int b ∧ x < b := by
  obtain ⟨l, _, em, hin⟩ := bk_in_fast h
  rcases tv with ⟨e, _⟩ | ⟨b, rfl, bb⟩
  · rw [e] at hin; cases hin
  refine ⟨b, rfl, ?_⟩
  obtain ⟨⟨q, hq, eq⟩, _⟩ := bb
  obtain ⟨hq1, hq2⟩ := mem_side.mp hq
  obtain ⟨l', hl', n', rfl⟩ := bk_fast hq1 hq2
  rw [plc_fast] at eq
  have eq' : l'.2.1 - (l'.2.2 - (m + 1)) / L * L = b := eq
  have h1 := div_le (a := l'.2.2 - (m + 1)) hL
  generalize (l'.2.2 - (m + 1)) / L = k at eq' h1
  rcases Int.lt_or_le x b with z | z
  · exact z
  · exfalso
    have h2 := h.2 l' (mem_side.mpr ⟨hl', not_upto (hw l' hl') n'⟩)
    rw [if_pos rfl, plc_slow] at h2
    have h3 : (-k) * L ≤ x - l'.2.1 := by rw [Int.neg_mul]; omega
    have h4 := le_div hL h3
    rw [Int.neg_mul] at h4
    omega
theorem back_greatest1 {L : Int} (hL : 0 < L) {ls : List Lk} (hw : ∀ l ∈ ls, WordOk l.1) {x m : Int} (h : IsBest "fast" (sideOf "fast" ls) x L m) {u : V} (tu : Tells "slow" (bk ls) m L u) : ∃ a, u = .int a ∧ a ≤ x := by
  obtain ⟨l, _, em, hin⟩ := bk_in_slow h
  rcases tu with ⟨e, _⟩ | ⟨a, rfl, ba⟩
  · rw [e] at hin; cases hin
  refine ⟨a, rfl, ?_⟩
  obtain ⟨⟨q, hq, eq⟩, _⟩ := ba
  obtain ⟨hq1, hq2⟩ := mem_side.mp hq
  obtain ⟨l', hl', n', rfl⟩ := bk_slow hq1 hq2
  rw [plc_slow] at eq
  have eq' : l'.2.1 + 1 + (m - (l'.2.2 + 1)) / L * L = a := eq
  have h1 := div_le (a := m - (l'.2.2 + 1)) hL
  generalize (m - (l'.2.2 + 1)) / L = k at eq' h1
  rcases Int.lt_or_le x a with z | z
  · exfalso
    have h2 := h.2 l' (mem_side.mpr ⟨hl', not_from (hw l' hl') n'⟩)
    rw [if_neg slow_ne, plc_fast] at h2
    have h3 : (-k) * L ≤ l'.2.1 - x := by rw [Int.neg_mul]; omega
    have h4 := le_div hL h3
    rw [Int.neg_mul] at h4
    omega
  · exact z
theorem back_greatest2 {L : Int} (hL : 0 < L) {ls : List Lk} {x m : Int} (h : IsBest "fast" (sideOf "fast" ls) x L m) {v : V} (tv : Tells "slow" (bk ls) (m + 1) L v) : ∃ b, v = .int b ∧ x < b := by
  obtain ⟨l, _, em, hin⟩ := bk_in_slow h
  rcases tv with ⟨e, _⟩ | ⟨b, rfl, bb⟩
  · rw [e] at hin; cases hin
  refine ⟨b, rfl, ?_⟩
  have h1 := bb.2 _ hin
  rw [if_pos rfl, plc_slow] at h1
  have h1' : l.2.1 + 1 + (m + 1 - (l.2.2 + 1)) / L * L ≤ b := h1
  rw [plc_fast] at em
  have e2 : m + 1 - (l.2.2 + 1) = (-((l.2.1 - x) / L)) * L := by rw [Int.neg_mul]; omega
  rw [e2, Int.mul_ediv_cancel _ (by omega : L ≠ 0), Int.neg_mul] at h1'
  have := div_le (a := l.2.1 - x) hL
  omega
def spBack (Z : Ad) (K : PySem.W.Frag) : Sp := fun vs H Q _ => ∃ (d : Addr) (L : Int) (hs : List Lk), vs = [.ref d] ∧ DarkAt Z K H d L hs ∧ (∀ l ∈ hs, Sized 290 l) ∧ (∀ a ∈ hs, ∀ b ∈ hs, clashB a b L = false) ∧ (bk hs).length ≤ 58 ∧
  ∀ (H' : Hp) (b : Addr), H b = none → Same H H' → DarkAt Z K H' b L ((bk hs).foldl (heard L) []) → (∀ la dx, H' b = some (.ins Z.C dx (df L la)) → H la = none) → Q (.ref b) H'
theorem bk_take {ls : List Lk} {i : Nat} {l : Lk} (h : ls[i]? = some l) : bk (ls.take (i + 1)) = bk (ls.take i) ++ bk1 l := by
  rw [take_snoc h]; unfold bk; rw [List.flatMap_append]; simp
theorem bk_pre {ls : List Lk} (i : Nat) : ∃ r, bk ls = bk (ls.take i) ++ r := ⟨bk (ls.drop i), by unfold bk; rw [← List.flatMap_append, List.take_append_drop]⟩
section
variable {P : Program} {w : World} {K : PySem.W.Frag} {mg : Str → Option Value} {base : Heap} {Z : Ad}
theorem ok_Dark_led_back (T : Tx K w mg Z) : FnOk P w K mg base CX0 6 Z.a_Dark_led_back Z.d_Dark_led_back P_Dark_led_back (spBack Z K) := by
  refine T.F_Dark_led_back.ok scDark_led_back (fun vs H Q E h => ?_) (fun cdv A outer s H vs Q E hr h => ?_)
  · obtain ⟨d, L, hs, rfl, _⟩ := h
    rfl
  · obtain ⟨d, L, hs, rfl, D, hsz, hnc, hlen, k⟩ := h
    obtain ⟨dx, la, xs, h1, h2, h3⟩ := id D.ex
    have hL := D.pos
    have hwd : ∀ l ∈ hs, WordOk l.1 := fun l hl => (D.ok l hl).1
    have nc := bk_nc hL hwd hnc
    refine ⟨_, (pss_cons (ps_set (i := 1) scDark_led_back.nd rfl (Or.inl rfl) (pe_make T.mk_Dark (ok_Dark_init T) (hr.mono (by decide)) (by rfl) T.g_Dark T.bb_Dark_init .nil pass0 (pa_cons (fldK (K := K) (pv 0) rfl) pa_nil)))
      (pss_cons (ps_for PassesOwn.never rfl (pi_list (pe_meth0 (pv 0) T.cl T.m_Dark_looks (ok_Dark_looks T) (hr.mono (by decide)) T.bb_Dark_looks .nil pass0)) (tupK (K := K) (by rfl) (pgs_cons (pg_name (i := 2) scDark_led_back.nd rfl (Or.inl rfl)) (pgs_cons (pg_name (i := 3) scDark_led_back.nd rfl (Or.inl rfl)) (pgs_cons (pg_name (i := 4) scDark_led_back.nd rfl (Or.inl rfl)) pgs_nil)))) (C8.pss_cut (ps_if (pt_cmpR op_ne (pv 2) pe_str (nomark _)) (pss_one (ps_expr (pe_meth (pv 1) T.cl T.m_Dark_hear (ok_Dark_hear T) (hr.mono (by decide)) T.bb_Dark_hear .nil pass0 (pa_cons pe_str (pa_cons (pv 4) (pa_cons (pv 3) pa_nil)))))) pss_nil)
      (pss_one (ps_if (pt_cmpR op_ne (pv 2) pe_str (nomark _)) (pss_one (ps_expr (pe_meth (pv 1) T.cl T.m_Dark_hear (ok_Dark_hear T) (hr.mono (by decide)) T.bb_Dark_hear .nil pass0 (pa_cons pe_str (pa_cons (pe_op op_add (pv 4) pe_int) (pa_cons (pe_op op_add (pv 3) pe_int) pa_nil)))))) pss_nil))))
      (pss_one (ps_ret (pv 1))))), ?_⟩
    refine ⟨_, rfl, d, Z.C, dx, _, _, rfl, h1, T.cl, T.n_length, df_length _ _, fun b dxb hbn hbx hne => ?_⟩
    have S0 : Same H (upd (upd H dxb (.own b)) b (.ins Z.C dxb [])) := fun c o e => by
      rw [upd_ne (ne_of_none e hbn), upd_ne (ne_of_none e hbx)]; exact e
    refine ⟨b, dxb, L, rfl, upd_same, hL, D.big, fun H1 D1 f1 k1 => ⟨rfl, ?_⟩⟩
    have S1 : Same H H1 := fun c o e => k1 c o (S0 c o e) (ne_of_none e hbn)
    refine ⟨_, rfl, d, dx, _, rfl, S1 _ _ h1, df_no _ _ (by decide +kernel) (by decide +kernel), d, L, hs, rfl, D.same S1, fun p ys H2 hp S2 hp1 hp2 => ?_⟩
    have hpb : p ≠ b := by
      rintro rfl
      obtain ⟨dx1, la1, vs1, g1, _⟩ := D1.ex
      rw [hp] at g1; cases g1
    have hyl : ys.length = hs.length := by rw [dpAll_len hp2, List.length_map]
    have F2 : ∀ la dx, H2 b = some (.ins Z.C dx (df L la)) → H la = none := fun la2 dx2 e => by
      obtain ⟨dx1, la1, vs1, g1, _⟩ := D1.ex
      have e2 := S2 _ _ g1
      rw [e] at e2
      rw [df_inj e2]
      exact S0.free (f1 la1 dx1 g1)
    obtain ⟨dx1, la1, vs1, g1, _⟩ := id (D1.same S2).ex
    have tups : ∀ {H'}, (∀ c o, H2 c = some o → c ≠ b → H' c = some o) → Tups H2 H' := fun kb c zs hc => by
      have hcb : c ≠ b := by
        rintro rfl
        rcases hc with e | ⟨q, e⟩ <;> rw [g1] at e <;> cases e
      rcases hc with e | ⟨q, e⟩
      · exact .inl (kb _ _ e hcb)
      · exact .inr ⟨q, kb _ _ e hcb⟩
    -- one more is heard
    have one : ∀ {H' : Hp} {pr : List Lk} {q : Lk}, (∀ o ∈ pr, o ∈ bk hs) → q ∈ bk hs → pr.length < 58 → (∀ c o, H2 c = some o → c ≠ b → H' c = some o) → (∀ la dx, H' b = some (.ins Z.C dx (df L la)) → H la = none) →
        (pr.foldl (heard L) []).length < 60 ∧ (∀ o ∈ pr.foldl (heard L) [], clashB (home L q) o L = false) ∧
        ∀ H'', DarkAt Z K H'' b L (heard L (pr.foldl (heard L) []) q) → (∀ la dx, H'' b = some (.ins Z.C dx (df L la)) → (∃ dx', H' b = some (.ins Z.C dx' (df L la))) ∨ H' la = none) → (∀ c o, H' c = some o → c ≠ b → H'' c = some o) →
          (∀ c o, H2 c = some o → c ≠ b → H'' c = some o) ∧ DarkAt Z K H'' b L ((pr ++ [q]).foldl (heard L) []) ∧ ∀ la dx, H'' b = some (.ins Z.C dx (df L la)) → H la = none := by
      intro H' pr q hpr hq hl kb F
      have hfl := fold_len (L := L) pr []
      have S : Same H H' := fun c o e => kb c o ((S1.trans S2) _ _ e) (ne_of_none e hbn)
      refine ⟨by simp at hfl; omega, fun o ho => ?_, fun H'' D'' f'' k'' => ⟨fun c o e hc => k'' c o (kb c o e hc) hc, ?_, fun la dx e => ?_⟩⟩
      · obtain h | ⟨r, hr, e⟩ := (fold_mem _ _ _).mp ho
        · cases h
        · rw [e, clash_home hL]
          exact nc q hq r (hpr r hr)
      · rw [List.foldl_append]; exact D''
      · rcases f'' la dx e with ⟨dx', h⟩ | h
        · exact F la dx' h
        · exact S.free h
    refine ⟨p, rfl, ⟨_, SqL.of hp1⟩, ?_⟩
    refine for_list (K := K) (a := p) (xs := ys) (fun i σ' H' => ∃ u2 u3 u4, σ' = [some (.ref d), some (.ref b), u2, u3, u4] ∧ (∀ c o, H2 c = some o → c ≠ b → H' c = some o) ∧ DarkAt Z K H' b L ((bk (hs.take i)).foldl (heard L) []) ∧ ∀ la dx, H' b = some (.ins Z.C dx (df L la)) → H la = none) ⟨none, none, none, rfl, fun _ _ e _ => e, D1.same S2, F2⟩ (fun i σ' H' _ ⟨_, _, _, _, kb, _⟩ => SqL.of (kb _ _ hp1 hpb)) ?_ ?_
    · rintro i y σ' H' hi ⟨u2, u3, u4, rfl, kb, DD, F⟩
      obtain ⟨e, hdi, hdy⟩ := dpAll_get hp2 hi
      obtain ⟨l, hl, rfl⟩ := map_at hdi
      have hlm := List.mem_of_getElem? hl
      obtain ⟨pp, rfl, hpp⟩ := dp_look (dp_tups (tups kb) _ _ rfl hdy)
      obtain ⟨r, er⟩ := bk_pre (ls := hs) (i + 1)
      have tk := bk_take hl
      rw [tk] at er
      have inA : ∀ o ∈ bk (hs.take i) ++ bkA l, o ∈ bk hs := fun o ho => by
        rw [er]
        unfold bk1
        simp only [List.mem_append] at ho ⊢
        rcases ho with h | h
        · exact .inl (.inl h)
        · exact .inl (.inr (.inl h))
      have lenA : (bk (hs.take i)).length + (bkA l).length + (bkB l).length ≤ 58 := by
        rw [er] at hlen
        unfold bk1 at hlen
        simp only [List.length_append] at hlen
        omega
      refine ⟨_, _, rfl, hpp, rfl, _, _, rfl, _, _, rfl, _, _, rfl, rfl, ?_⟩
      refine ⟨fun σ' H' => σ' = [some (.ref d), some (.ref b), some (.str l.1), some (.int l.2.1), some (.int l.2.2)] ∧ (∀ c o, H2 c = some o → c ≠ b → H' c = some o) ∧ DarkAt Z K H' b L ((bk (hs.take i) ++ bkA l).foldl (heard L) []) ∧ ∀ la dx, H' b = some (.ins Z.C dx (df L la)) → H la = none, ?_, ?_⟩
      · refine ⟨_, rfl, rfl, _, rfl, ?_⟩
        by_cases c : l.1 = "upto"
        · have e1 : bkA l = [] := if_pos c
          rw [e1, List.append_nil]
          have e2 : (!decide (V.str l.1 = V.str "upto")) = false := by rw [c]; simp
          rw [e2]
          exact iteF ⟨rfl, kb, DD, F⟩
        · have e1 : bkA l = [upL l] := if_neg c
          rw [e1]
          rw [e1] at inA lenA
          have e2 : (!decide (V.str l.1 = V.str "upto")) = true := by
            rw [Bool.not_eq_true', decide_eq_false_iff_not]
            exact fun e => c (V.str.inj e)
          rw [e2]
          obtain ⟨dxq, laq, vsq, gq, _⟩ := id DD.ex
          refine iteT ⟨_, rfl, b, dxq, _, rfl, gq, df_no _ _ (by decide +kernel) (by decide +kernel), _, rfl, _, rfl, ?_⟩
          have hq : upL l ∈ bk hs := inA _ (by simp)
          obtain ⟨o1, o2, o3⟩ := one (q := upL l) (fun o ho => inA o (List.mem_append_left _ ho)) hq (by simp at lenA; omega) kb F
          refine ⟨b, L, _, upL l, rfl, DD, bk_word hq, (bk_sized hq hsz).up (by decide), o1, o2, fun H'' D'' f'' k'' => ?_⟩
          obtain ⟨x1, x2, x3⟩ := o3 H'' D'' f'' k''
          exact ⟨rfl, x1, x2, x3⟩
      · rintro σ' H3 ⟨rfl, kb3, D3, F3⟩
        refine ⟨_, rfl, rfl, _, rfl, ?_⟩
        by_cases c : l.1 = "from"
        · have e1 : bkB l = [] := if_pos c
          have e2 : (!decide (V.str l.1 = V.str "from")) = false := by rw [c]; simp
          rw [e2]
          refine iteF ⟨_, _, _, rfl, kb3, ?_, F3⟩
          rw [tk]
          unfold bk1
          rw [e1, List.append_nil]; exact D3
        · have e1 : bkB l = [frL l] := if_neg c
          rw [e1] at lenA
          have e2 : (!decide (V.str l.1 = V.str "from")) = true := by
            rw [Bool.not_eq_true', decide_eq_false_iff_not]
            exact fun e => c (V.str.inj e)
          rw [e2]
          obtain ⟨dxq, laq, vsq, gq, _⟩ := id D3.ex
          refine iteT ⟨_, rfl, b, dxq, _, rfl, gq, df_no _ _ (by decide +kernel) (by decide +kernel), _, rfl, _, _, rfl, rfl, _, rfl, _, _, rfl, rfl, ?_⟩
          have hq : frL l ∈ bk hs := mem_bk.mpr ⟨l, hlm, .inr ⟨c, rfl⟩⟩
          obtain ⟨o1, o2, o3⟩ := one (q := frL l) inA hq (by simp at lenA ⊢; omega) kb3 F3
          refine ⟨b, L, _, frL l, rfl, D3, bk_word hq, (bk_sized hq hsz).up (by decide), o1, o2, fun H'' D'' f'' k'' => ?_⟩
          obtain ⟨x1, x2, x3⟩ := o3 H'' D'' f'' k''
          refine ⟨_, _, _, rfl, x1, ?_, x3⟩
          rw [tk]
          unfold bk1
          rw [e1, ← List.append_assoc]; exact x2
    · rintro σ' H' ⟨u2, u3, u4, rfl, kb, DD, F⟩
      rw [List.take_of_length_le (by rw [hyl]; exact Nat.le_refl _)] at DD
      exact ⟨_, rfl, k H' b hbn (fun c o e => kb c o ((S1.trans S2) _ _ e) (ne_of_none e hbn)) DD F⟩
end
end KA
namespace KA
open PySem PySem.Spec PyProof.Rows L2 DP
def spNo : Sp := fun _ _ _ _ => False
def spFig0 : Sp := fun vs H Q _ => ∃ n : Int, vs = [.int n] ∧ 0 ≤ n ∧ n.natAbs < 10 ^ 100 ∧ ∀ H', Same H H' → Q (.str (numT n)) H'
def spFig : Sp := fun vs H Q _ => ∃ n : Int, vs = [.int n] ∧ n.natAbs < 10 ^ 100 ∧ ∀ H', Same H H' → Q (.str (numT n)) H'
theorem join_one (a : Str) : Txt.join ("" : Str) [a].reverse = a := by
  show Txt.join ("" : Str) [a] = a
  rw [TL.join_eq]; rfl
theorem log_wide {n : Int} (h : n.natAbs < 10 ^ 100) : n.natAbs.log2 < 1920 := by
  by_cases c : n.natAbs = 0
  · rw [c]; decide
  · exact (Nat.log2_lt c).mpr (Nat.lt_trans h (by decide))
theorem numT_lenW {n : Int} (h : n.natAbs < 10 ^ 100) : (numT n).length ≤ 101 := by
  have h1 := TL.numL_len (n := n.natAbs) (k := 100) (by decide) h
  rw [TL.len_tl]
  by_cases c : n < 0
  · rw [numT_neg c, List.length_cons]; omega
  · rw [numT_pos (by omega)]; omega
theorem numT_split {n : Int} (h : (10 : Int) ^ 60 ≤ n) : numT (n / 10 ^ 60) ++ Txt.zfill (numT (n % 10 ^ 60)) 60 = numT n := by
  have h1 : 0 ≤ n / 10 ^ 60 := by omega
  have h2 : 0 ≤ n % 10 ^ 60 := by omega
  have h3 : n % 10 ^ 60 < 10 ^ 60 := by omega
  have h4 : 0 < n / 10 ^ 60 := by omega
  refine TL.ext_tl ?_
  have z : TL.tl (Txt.zfill (numT (n % 10 ^ 60)) 60) = padL 60 (n % 10 ^ 60).natAbs := by
    have := zfill_num (b := (n % 10 ^ 60).natAbs) (k := 60) (by omega) (by decide)
    rw [Int.natAbs_of_nonneg h2] at this
    exact this
  rw [TL.tl_append, z, numT_pos h1, numT_pos (by omega : 0 ≤ n), ← numL_pad 60 (by omega) (by omega)]
  congr 1
  omega
theorem numT_inj {m n : Int} (h : numT m = numT n) : m = n := by
  have h' : TL.tl (numT m) = TL.tl (numT n) := by rw [h]
  by_cases c : m < 0 <;> by_cases d : n < 0
  · rw [numT_neg c, numT_neg d] at h'
    injection h' with _ e
    have := TL.numL_inj e
    omega
  · rw [numT_neg c, numT_pos (by omega)] at h'
    have := TL.numL_digits n.natAbs 45 (by rw [← h']; exact List.mem_cons_self)
    exact absurd this.1 (by decide)
  · rw [numT_pos (by omega), numT_neg d] at h'
    have := TL.numL_digits m.natAbs 45 (by rw [h']; exact List.mem_cons_self)
    exact absurd this.1 (by decide)
  · rw [numT_pos (by omega), numT_pos (by omega)] at h'
    have := TL.numL_inj h'
    omega
theorem join_two (a b : Str) : Txt.join ("" : Str) [b, a].reverse = a ++ b := by
  show Txt.join ("" : Str) [a, b] = a ++ b
  rw [TL.join_eq]
  refine TL.ext_tl ?_
  rw [TL.tl_join, TL.tl_append]
  show TL.tl a ++ (TL.tl ("" : Str) ++ TL.tl b) = _
  rfl
def figM : L2.St → Hp → Nat := fun σ _ => match σ with | some (.int m) :: _ => m.toNat | _ => 0
section
variable {P : Program} {w : World} {K : PySem.W.Frag} {mg : Str → Option Value} {base : Heap} {Z : Ad}
theorem ok_figuresN (T : Tx K w mg Z) : FnOk P w K mg base CX0 1 Z.a_figures Z.d_figures P_figures spNo := by
  refine T.F_figures.ok scfigures (fun vs H Q E h => ?_) (fun cdv A outer s H vs Q E hr h => ?_)
  · exact False.elim h
  · exact False.elim h
theorem ok_figures0 (T : Tx K w mg Z) : FnOk P w K mg base CX0 2 Z.a_figures Z.d_figures P_figures spFig0 := by
  have ih := ok_figuresN (P := P) (base := base) T
  refine T.F_figures.ok scfigures (fun vs H Q E h => ?_) (fun cdv A outer s H vs Q E hr h => ?_)
  · obtain ⟨n, rfl, _⟩ := h
    rfl
  · obtain ⟨n, rfl, h0, hn, k⟩ := h
    refine ⟨_, (C8.pss_cut (ps_if (pt_cmpR op_lt (pv 0) pe_int (nomark _)) (pss_one (ps_ret (pe_op op_add_str pe_str (pe_call ih hr (by rfl) T.g_figures T.F_figures.kp T.bb_figures .nil pass0 (pa_cons (pe_un un_neg (pv 0)) pa_nil))))) pss_nil)
      (pss_cons (ps_set (i := 1) scfigures.nd rfl (Or.inl rfl) (pe_lst pa_nil))
      (C8.pss_cut (ps_while PassesOwn.never (pt_cmpR op_ge (pv 0) (pe_op op_pow pe_int pe_int) (nomark _)) (pss_cons (ps_expr (pe_bm PySem.F.plainAttrs_list PySem.F.slot_list_append PySem.F.type_list_append mt_append (pv 1) (pa_cons (pe_m1 PySem.F.slot_str_zfill PySem.F.type_str_zfill mt_zfill (pe_callTy call_str_int (by rfl) T.b_str (by decide +kernel) (pa_cons (pe_op op_mod (pv 0) (pe_op op_pow pe_int pe_int)) pa_nil)) pe_int) pa_nil)))
      (pss_one (ps_set (i := 0) scfigures.nd rfl (Or.inl rfl) (pe_op op_fdivW (pv 0) (pe_op op_pow pe_int pe_int))))))
      (pss_cons (ps_expr (pe_bm PySem.F.plainAttrs_list PySem.F.slot_list_append PySem.F.type_list_append mt_append (pv 1) (pa_cons (pe_callTy call_str_int (by rfl) T.b_str (by decide +kernel) (pa_cons (pv 0) pa_nil)) pa_nil)))
      (pss_one (ps_ret (pe_joinRev (K := K) rfl pe_str (by rfl) T.b_reversed (pv 1)))))))), ?_⟩
    refine ⟨fun σ' H' => σ' = [some (.int n), none] ∧ H' = H, ?_, ?_⟩
    · refine ⟨_, rfl, _, _, rfl, rfl, _, rfl, ite2 (fun c => ?_) (fun _ => ⟨rfl, rfl⟩)⟩
      exact absurd (of_decide_eq_true c) (by omega)
    rintro σ1 H1 ⟨rfl, rfl⟩
    refine ⟨(by show 0 ≤ sizeLine; decide), fun B hB => ?_⟩
    have SB := same_upd (o := HO.lst []) hB
    have gB : (upd H1 B (.lst [])) B = some (.lst []) := upd_same
    generalize upd H1 B (.lst []) = H2 at SB gB ⊢
    refine ⟨fun σ' H' => ∃ (m : Int) (bl : List Str), σ' = [some (.int m), some (.ref B)] ∧ H' B = some (.lst (bl.map V.str)) ∧ Same H1 H' ∧ m.natAbs < 10 ^ 100 ∧ ((m = n ∧ bl = []) ∨ ((10 : Int) ^ 60 ≤ n ∧ m = n / 10 ^ 60 ∧ bl = [Txt.zfill (numT (n % 10 ^ 60)) 60])), ?_, ?_⟩
    · refine while_post (fun σ' H' => ∃ (m : Int) (bl : List Str), σ' = [some (.int m), some (.ref B)] ∧ H' B = some (.lst (bl.map V.str)) ∧ Same H1 H' ∧ ((m = n ∧ bl = []) ∨ ((10 : Int) ^ 60 ≤ n ∧ m = n / 10 ^ 60 ∧ bl = [Txt.zfill (numT (n % 10 ^ 60)) 60]))) figM (fun σ' H' => ∃ (m : Int) (bl : List Str), σ' = [some (.int m), some (.ref B)] ∧ H' B = some (.lst (bl.map V.str)) ∧ Same H1 H' ∧ m.natAbs < 10 ^ 100 ∧ ((m = n ∧ bl = []) ∨ ((10 : Int) ^ 60 ≤ n ∧ m = n / 10 ^ 60 ∧ bl = [Txt.zfill (numT (n % 10 ^ 60)) 60]))) ⟨n, [], rfl, gB, SB, .inl ⟨rfl, rfl⟩⟩ ?_ (fun _ _ q => q) ?_
      · rintro σ' H' ⟨m, bl, rfl, gb, Sb, hm⟩
        refine ⟨_, rfl, _, _, rfl, rfl, ⟨by decide, by decide, by decide⟩, _, _, rfl, rfl, _, rfl, ?_⟩
        refine ite2 (fun c => ?_) (fun c => ⟨m, bl, rfl, gb, Sb, ?_, hm⟩)
        · have c1 : (10 : Int) ^ 60 ≤ m := of_decide_eq_true c
          obtain ⟨rfl, rfl⟩ : m = n ∧ bl = [] := by
            rcases hm with h | ⟨h1, h2, _⟩
            · exact h
            · exfalso; omega
          have hr : (m % 10 ^ 60).natAbs < 10 ^ 60 := by omega
          refine ⟨_, rfl, .inl ⟨rfl, _, SqL.of gb⟩, _, rfl, _, _, rfl, rfl, ⟨by decide, by decide, by decide⟩, _, _, rfl, rfl, (by show (0 : Int) < _; decide), _, rfl, log_small hr, ⟨_, rfl⟩, _, _, rfl, rfl, (by decide), B, [], _, rfl, rfl, gb, small1000 (by simp), ?_⟩
          refine ⟨_, rfl, _, _, rfl, rfl, ⟨by decide, by decide, by decide⟩, _, _, rfl, rfl, wide_div (by decide) (by decide : ((10 : Int) ^ (60 : Int).toNat).natAbs < 2 ^ 200) (by decide) (by decide), ?_⟩
          refine ⟨⟨m / 10 ^ 60, [Txt.zfill (numT (m % 10 ^ 60)) 60], rfl, upd_same, same_set Sb hB, .inr ⟨c1, rfl, rfl⟩⟩, ?_⟩
          show (m / 10 ^ 60).toNat < m.toNat
          omega
        · rcases hm with ⟨rfl, _⟩ | ⟨_, h, _⟩
          · exact hn
          · rw [h]; omega
      · rintro σ' H' Q1 Q2 hQ ⟨v, hv, i, j, e1, e2, hp, a, b, e3, e4, k1, ek, q⟩
        exact ⟨v, hv, i, j, e1, e2, hp, a, b, e3, e4, k1, ek, hQ _ _ q⟩
    rintro σ2 H3 ⟨m, bl, rfl, gb, Sb, hmn, hm⟩
    refine ⟨_, rfl, .inl ⟨rfl, _, SqL.of gb⟩, _, rfl, m, rfl, log_wide hmn, B, _, _, rfl, rfl, gb, small1000 (by rcases hm with ⟨_, rfl⟩ | ⟨_, _, rfl⟩ <;> simp), ?_⟩
    have hlm := numT_lenW hmn
    have e0 : (Str.ofString "").length = 0 := rfl
    refine ⟨⟨_, rfl⟩, _, rfl, ("" : Str), B, bl ++ [numT m], rfl, rfl, SqL.of (by rw [upd_same, List.map_append]; rfl), ?_, ?_⟩
    · rcases hm with ⟨_, rfl⟩ | ⟨h1, _, rfl⟩
      · simp; omega
      · have hz : (Txt.zfill (numT (n % 10 ^ 60)) 60).length ≤ 101 := by
          have := congrArg Str.length (numT_split h1)
          rw [len_app] at this
          have := numT_lenW hn
          omega
        generalize Txt.zfill (numT (n % 10 ^ 60)) 60 = zt at hz ⊢
        simp; omega
    have ej : Txt.join ("" : Str) (bl ++ [numT m]).reverse = numT n := by
      rcases hm with ⟨rfl, rfl⟩ | ⟨h1, rfl, rfl⟩
      · exact join_one _
      · rw [← numT_split h1]; exact join_two _ _
    rw [ej]
    exact k _ (same_set Sb hB)
theorem ok_figures (T : Tx K w mg Z) : FnOk P w K mg base CX0 3 Z.a_figures Z.d_figures P_figures spFig := by
  have ih := ok_figures0 (P := P) (base := base) T
  refine T.F_figures.ok scfigures (fun vs H Q E h => ?_) (fun cdv A outer s H vs Q E hr h => ?_)
  · obtain ⟨n, rfl, _⟩ := h
    rfl
  · obtain ⟨n, rfl, hn, k⟩ := h
    refine ⟨_, (C8.pss_cut (ps_if (pt_cmpR op_lt (pv 0) pe_int (nomark _)) (pss_one (ps_ret (pe_op op_add_str pe_str (pe_call ih hr (by rfl) T.g_figures T.F_figures.kp T.bb_figures .nil pass0 (pa_cons (pe_un un_neg (pv 0)) pa_nil))))) pss_nil)
      (pss_cons (ps_set (i := 1) scfigures.nd rfl (Or.inl rfl) (pe_lst pa_nil))
      (C8.pss_cut (ps_while PassesOwn.never (pt_cmpR op_ge (pv 0) (pe_op op_pow pe_int pe_int) (nomark _)) (pss_cons (ps_expr (pe_bm PySem.F.plainAttrs_list PySem.F.slot_list_append PySem.F.type_list_append mt_append (pv 1) (pa_cons (pe_m1 PySem.F.slot_str_zfill PySem.F.type_str_zfill mt_zfill (pe_callTy call_str_int (by rfl) T.b_str (by decide +kernel) (pa_cons (pe_op op_mod (pv 0) (pe_op op_pow pe_int pe_int)) pa_nil)) pe_int) pa_nil)))
      (pss_one (ps_set (i := 0) scfigures.nd rfl (Or.inl rfl) (pe_op op_fdivW (pv 0) (pe_op op_pow pe_int pe_int))))))
      (pss_cons (ps_expr (pe_bm PySem.F.plainAttrs_list PySem.F.slot_list_append PySem.F.type_list_append mt_append (pv 1) (pa_cons (pe_callTy call_str_int (by rfl) T.b_str (by decide +kernel) (pa_cons (pv 0) pa_nil)) pa_nil)))
      (pss_one (ps_ret (pe_joinRev (K := K) rfl pe_str (by rfl) T.b_reversed (pv 1)))))))), ?_⟩
    refine ⟨fun σ' H' => σ' = [some (.int n), none] ∧ H' = H ∧ 0 ≤ n, ?_, ?_⟩
    · refine ⟨_, rfl, _, _, rfl, rfl, _, rfl, ite2 (fun c => ?_) (fun c => ⟨rfl, rfl, ?_⟩)⟩
      · have c1 : n < 0 := of_decide_eq_true c
        refine ⟨_, rfl, _, rfl, -n, rfl, by omega, by rw [Int.natAbs_neg]; exact hn, fun H' S => ⟨_, _, rfl, rfl, ?_, ?_⟩⟩
        · have h1 := numT_lenW (n := -n) (by rw [Int.natAbs_neg]; exact hn)
          have h2 := minus_len
          rw [h2]
          exact Nat.le_trans (by omega : _ ≤ 200) (by decide)
        · rw [neg_text c1]
          exact k _ S
      · have : ¬ n < 0 := fun e => c (decide_eq_true e)
        omega
    rintro σ1 H1 ⟨rfl, rfl, h0⟩
    refine ⟨(by show 0 ≤ sizeLine; decide), fun B hB => ?_⟩
    have SB := same_upd (o := HO.lst []) hB
    have gB : (upd H1 B (.lst [])) B = some (.lst []) := upd_same
    generalize upd H1 B (.lst []) = H2 at SB gB ⊢
    refine ⟨fun σ' H' => ∃ (m : Int) (bl : List Str), σ' = [some (.int m), some (.ref B)] ∧ H' B = some (.lst (bl.map V.str)) ∧ Same H1 H' ∧ m.natAbs < 10 ^ 100 ∧ ((m = n ∧ bl = []) ∨ ((10 : Int) ^ 60 ≤ n ∧ m = n / 10 ^ 60 ∧ bl = [Txt.zfill (numT (n % 10 ^ 60)) 60])), ?_, ?_⟩
    · refine while_post (fun σ' H' => ∃ (m : Int) (bl : List Str), σ' = [some (.int m), some (.ref B)] ∧ H' B = some (.lst (bl.map V.str)) ∧ Same H1 H' ∧ ((m = n ∧ bl = []) ∨ ((10 : Int) ^ 60 ≤ n ∧ m = n / 10 ^ 60 ∧ bl = [Txt.zfill (numT (n % 10 ^ 60)) 60]))) figM (fun σ' H' => ∃ (m : Int) (bl : List Str), σ' = [some (.int m), some (.ref B)] ∧ H' B = some (.lst (bl.map V.str)) ∧ Same H1 H' ∧ m.natAbs < 10 ^ 100 ∧ ((m = n ∧ bl = []) ∨ ((10 : Int) ^ 60 ≤ n ∧ m = n / 10 ^ 60 ∧ bl = [Txt.zfill (numT (n % 10 ^ 60)) 60]))) ⟨n, [], rfl, gB, SB, .inl ⟨rfl, rfl⟩⟩ ?_ (fun _ _ q => q) ?_
      · rintro σ' H' ⟨m, bl, rfl, gb, Sb, hm⟩
        refine ⟨_, rfl, _, _, rfl, rfl, ⟨by decide, by decide, by decide⟩, _, _, rfl, rfl, _, rfl, ?_⟩
        refine ite2 (fun c => ?_) (fun c => ⟨m, bl, rfl, gb, Sb, ?_, hm⟩)
        · have c1 : (10 : Int) ^ 60 ≤ m := of_decide_eq_true c
          obtain ⟨rfl, rfl⟩ : m = n ∧ bl = [] := by
            rcases hm with h | ⟨h1, h2, _⟩
            · exact h
            · exfalso; omega
          have hr : (m % 10 ^ 60).natAbs < 10 ^ 60 := by omega
          refine ⟨_, rfl, .inl ⟨rfl, _, SqL.of gb⟩, _, rfl, _, _, rfl, rfl, ⟨by decide, by decide, by decide⟩, _, _, rfl, rfl, (by show (0 : Int) < _; decide), _, rfl, log_small hr, ⟨_, rfl⟩, _, _, rfl, rfl, (by decide), B, [], _, rfl, rfl, gb, small1000 (by simp), ?_⟩
          refine ⟨_, rfl, _, _, rfl, rfl, ⟨by decide, by decide, by decide⟩, _, _, rfl, rfl, wide_div (by decide) (by decide : ((10 : Int) ^ (60 : Int).toNat).natAbs < 2 ^ 200) (by decide) (by decide), ?_⟩
          refine ⟨⟨m / 10 ^ 60, [Txt.zfill (numT (m % 10 ^ 60)) 60], rfl, upd_same, same_set Sb hB, .inr ⟨c1, rfl, rfl⟩⟩, ?_⟩
          show (m / 10 ^ 60).toNat < m.toNat
          omega
        · rcases hm with ⟨rfl, _⟩ | ⟨_, h, _⟩
          · exact hn
          · rw [h]; omega
      · rintro σ' H' Q1 Q2 hQ ⟨v, hv, i, j, e1, e2, hp, a, b, e3, e4, k1, ek, q⟩
        exact ⟨v, hv, i, j, e1, e2, hp, a, b, e3, e4, k1, ek, hQ _ _ q⟩
    rintro σ2 H3 ⟨m, bl, rfl, gb, Sb, hmn, hm⟩
    refine ⟨_, rfl, .inl ⟨rfl, _, SqL.of gb⟩, _, rfl, m, rfl, log_wide hmn, B, _, _, rfl, rfl, gb, small1000 (by rcases hm with ⟨_, rfl⟩ | ⟨_, _, rfl⟩ <;> simp), ?_⟩
    have hlm := numT_lenW hmn
    have e0 : (Str.ofString "").length = 0 := rfl
    refine ⟨⟨_, rfl⟩, _, rfl, ("" : Str), B, bl ++ [numT m], rfl, rfl, SqL.of (by rw [upd_same, List.map_append]; rfl), ?_, ?_⟩
    · rcases hm with ⟨_, rfl⟩ | ⟨h1, _, rfl⟩
      · simp; omega
      · have hz : (Txt.zfill (numT (n % 10 ^ 60)) 60).length ≤ 101 := by
          have := congrArg Str.length (numT_split h1)
          rw [len_app] at this
          have := numT_lenW hn
          omega
        generalize Txt.zfill (numT (n % 10 ^ 60)) 60 = zt at hz ⊢
        simp; omega
    have ej : Txt.join ("" : Str) (bl ++ [numT m]).reverse = numT n := by
      rcases hm with ⟨rfl, rfl⟩ | ⟨h1, rfl, rfl⟩
      · exact join_one _
      · rw [← numT_split h1]; exact join_two _ _
    rw [ej]
    exact k _ (same_set Sb hB)
end
end KA
namespace KA
open PySem PySem.Spec PyProof.Rows L2 DP
/-! ### any word: whether it writes a number -/
theorem allK {X : Cx} {K : PySem.W.Frag} (hc : X.calm = true) (h : X.K = K := by rfl) : CallR X (.builtin "all") (rAll K) := by subst h; exact cr_all hc
def digB (c : Nat) : Bool := decide (c ∈ ("0123456789" : Str).cps.toList)
theorem digB_iff {c : Nat} : digB c = true ↔ 48 ≤ c ∧ c ≤ 57 := by
  unfold digB
  rw [decide_eq_true_iff, show ("0123456789" : Str).cps.toList = [48, 49, 50, 51, 52, 53, 54, 55, 56, 57] from rfl]
  simp only [List.mem_cons, List.not_mem_nil, or_false]
  omega
theorem rm_tl (x : Str) : (∃ r, TL.tl x = 45 :: r ∧ TL.tl (Txt.removeprefix x "-") = r) ∨ ((∀ r, TL.tl x ≠ 45 :: r) ∧ Txt.removeprefix x "-" = x) := by
  rw [PySem.StrLaws.removeprefix_eq]
  have hs : Builtin.Str.subAt x ("-" : Str) 0 = ((TL.tl x).take 1 == [45]) := by
    rw [PySem.StrLaws.subAt_eq, List.drop_zero]; rfl
  cases e : TL.tl x with
  | nil =>
    refine .inr ⟨fun r z => (by cases z), if_neg ?_⟩
    rw [hs, e]; simp
  | cons c r =>
    have hl : x.length = r.length + 1 := by rw [TL.len_tl, e, List.length_cons]
    by_cases hc : c = 45
    · subst hc
      refine .inl ⟨r, rfl, ?_⟩
      rw [if_pos (by rw [hs, e, minus_len, hl]; simp)]
      show ((TL.tl x).drop ("-" : Str).length).take (x.length - ("-" : Str).length) = _
      rw [e, minus_len, hl, List.drop_succ_cons, List.drop_zero, Nat.add_sub_cancel, List.take_length]
    · refine .inr ⟨fun r' z => hc (List.cons.inj z).1, if_neg ?_⟩
      rw [hs, e]
      simp [hc]
theorem val_lt : ∀ (cs : List Nat) (a : Nat), NumText.AllDigits cs → cs.foldl (fun acc c => acc * 10 + (c - 48)) a < (a + 1) * 10 ^ cs.length
  | [], a, _ => by simp
  | c :: cs, a, h => by
    have h1 := val_lt cs (a * 10 + (c - 48)) h.tail
    have h2 := h.head
    rw [List.foldl_cons, List.length_cons]
    refine Nat.lt_of_lt_of_le h1 ?_
    rw [Nat.pow_succ, Nat.mul_comm (10 ^ cs.length) 10, ← Nat.mul_assoc]
    exact Nat.mul_le_mul_right _ (by omega)
theorem word_val {x : Str} {cs : List Nat} (e : TL.tl (Txt.removeprefix x "-") = cs) (h : NumText.AllDigits cs) (h1 : 1 ≤ cs.length) (h2 : cs.length ≤ 60) : ∃ n : Int, intText? x = some n ∧ n.natAbs < 10 ^ 60 ∧ x.length ≤ 61 := by
  have hv : NumText.digitsVal cs < 10 ^ 60 := by
    have := val_lt cs 0 h
    have h3 : 10 ^ cs.length ≤ 10 ^ 60 := Nat.pow_le_pow_right (by decide) h2
    unfold NumText.digitsVal
    omega
  have hne : cs ≠ [] := fun z => by rw [z] at h1; simp at h1
  rcases rm_tl x with ⟨r, e1, e2⟩ | ⟨_, e2⟩
  · rw [e2] at e
    subst e
    have hl : x.length ≤ 61 := by rw [TL.len_tl, e1, List.length_cons]; omega
    exact ⟨_, intText_neg e1 h hne (by omega), by rw [Int.natAbs_neg]; exact hv, hl⟩
  · rw [e2] at e
    subst e
    have hl : x.length ≤ 61 := by rw [TL.len_tl]; omega
    exact ⟨_, intText_digits h hne (by omega), hv, hl⟩
theorem numT_shape {n : Int} (h : n.natAbs < 10 ^ 60) : NumText.AllDigits (TL.tl (Txt.removeprefix (numT n) "-")) ∧ 1 ≤ (TL.tl (Txt.removeprefix (numT n) "-")).length ∧ (TL.tl (Txt.removeprefix (numT n) "-")).length ≤ 60 := by
  rw [numT_rm]
  exact ⟨TL.numL_digits _, List.length_pos_iff.mpr (TL.numL_ne _), TL.numL_len (by decide) h⟩
def spNumAny : Sp := fun vs H Q _ => ∃ x : Str, vs = [.str x] ∧ x.length ≤ 5000 ∧ (∀ n : Int, n.natAbs < 10 ^ 60 → numT n = x → ∀ H', Same H H' → Q (.int n) H') ∧ ((∀ n : Int, n.natAbs < 10 ^ 60 → numT n ≠ x) → ∀ H', Same H H' → Q .non H')
section
variable {P : Program} {w : World} {K : PySem.W.Frag} {mg : Str → Option Value} {base : Heap} {Z : Ad}
theorem ok_number_of (T : Tx K w mg Z) : FnOk P w K mg base CX0 1 Z.a_number_of Z.d_number_of P_number_of (spNumAny) := by
  refine T.F_number_of.ok scnumber_of (fun vs H Q E h => ?_) (fun cdv A outer s H vs Q E hr h => ?_)
  · obtain ⟨x, rfl, _⟩ := h
    rfl
  · obtain ⟨x, rfl, hx, k1, k0⟩ := h
    refine ⟨_, (pss_cons (ps_set (i := 1) scnumber_of.nd rfl (Or.inl rfl) (pe_m1 PySem.F.slot_str_removeprefix PySem.F.type_str_removeprefix mt_removeprefix (pv 0) pe_str))
      (C8.pss_cut (ps_if (PW.pt (pw_or (pt_not (pt_chain op_le op_le pe_int (pe_callB call_len_str (by rfl) T.b_len (by decide +kernel) (pa_cons (pv 1) pa_nil)) (pe_glob rfl T.g_MOST_FIGURES T.r_MOST_FIGURES))) (pw_or1 (pt_not (pt_val (pe_callB (allK (K := K) rfl) (by rfl) T.b_all (by decide +kernel) (pa_cons (pe_lc (own := [("sign", 2)]) (g := gName 2) (tt := tYes) rfl scnumber_of.nd (pi_str (pv 1)) (blkOk_by (own := [("sign", 2)]) (N := N_number_of) (sc := defScope snumber_of) (by decide +kernel)) (fun _ _ _ _ _ => (pg_name (i := 2) scnumber_of.nd rfl (Or.inl rfl))) (fun _ _ _ _ _ => pts_nil) (fun _ _ _ _ _ => (pe_cmpR op_in_sign (pv 2) (pe_glob rfl T.g_FIGURES T.r_FIGURES) (by rfl)))) pa_nil))))))) (pss_one (ps_ret pe_non)) pss_nil)
      (pss_cons (ps_set (i := 3) scnumber_of.nd rfl (Or.inl rfl) (pe_callTy call_int_str (by rfl) T.b_int (by decide +kernel) (pa_cons (pv 0) pa_nil)))
      (pss_one (ps_ret (pe_ifExp (pt_cmpR op_eq (pe_callTy call_str_int (by rfl) T.b_str (by decide +kernel) (pa_cons (pv 3) pa_nil)) (pv 0) (nomark _)) (pv 3) pe_non)))))), ?_⟩
    have big : ∀ {m : Nat}, m ≤ 10000 → m ≤ sizeLine := fun {m} h => Nat.le_trans h (by decide)
    refine ⟨_, rfl, ⟨_, rfl⟩, _, _, rfl, rfl, big (by omega), ?_⟩
    obtain ⟨f, ef⟩ : ∃ f, f = Txt.removeprefix x "-" := ⟨_, rfl⟩
    have hfl : f.length ≤ x.length := by
      rw [ef]
      rcases rm_tl x with ⟨r, e1, e2⟩ | ⟨_, e2⟩
      · rw [TL.len_tl, TL.len_tl x, e1, e2, List.length_cons]; omega
      · rw [e2]; exact Nat.le_refl _
    have none_if : ¬ (NumText.AllDigits (TL.tl f) ∧ 1 ≤ f.length ∧ f.length ≤ 60) → ∀ n : Int, n.natAbs < 10 ^ 60 → numT n ≠ x := fun hno n hn e => by
      apply hno
      have := numT_shape hn
      rw [e, ← ef, ← TL.len_tl] at this
      exact this
    refine ⟨fun σ' H' => σ' = [some (.str x), some (.str f), none, none] ∧ Same H H' ∧ NumText.AllDigits (TL.tl f) ∧ 1 ≤ f.length ∧ f.length ≤ 60, ?_, ?_⟩
    · rw [← ef]
      refine ⟨_, rfl, f, rfl, big (by omega), _, _, rfl, rfl, _, rfl, ?_⟩
      by_cases c1 : (1 : Int) ≤ (f.length : Int)
      · rw [decide_eq_true c1]
        refine iteT ⟨_, _, rfl, rfl, _, rfl, ?_⟩
        by_cases c2 : (f.length : Int) ≤ 60
        · rw [decide_eq_true c2]
          refine iteF ⟨_, rfl, f, rfl, fun D hD => ?_⟩
          refine lc_it (walk_str (z := f)) (fun i H' => Same H H' ∧ H' D = some (.lst (((f.cps.toList.take i).map digB).map V.bl))) ⟨same_upd hD, upd_same⟩ (fun _ _ _ _ => trivial) ?_ ?_
          · rintro i y H1 H1' hi ⟨S1, gD⟩ ⟨rfl, c, hc, rfl⟩
            have hi2 : i < f.length := hi
            refine ⟨rfl, yes_ite ?_⟩
            refine ⟨_, rfl, c, _, rfl, rfl, ?_⟩
            refine ⟨_, gD, small1000 (by simp; omega), same_set S1 hD, ?_⟩
            rw [take_snoc (show f.cps.toList[i]? = some c by rw [Array.getElem?_toList]; exact hc), List.map_append, List.map_append]
            exact upd_same
          rintro H1 ⟨S1, gD⟩
          rw [List.take_of_length_le (by simp)] at gD
          refine ⟨D, _, rfl, SqL.of gD, ?_⟩
          by_cases c3 : NumText.AllDigits (TL.tl f)
          · rw [show (f.cps.toList.map digB).all id = true by
              rw [List.all_map, List.all_eq_true]
              intro c hc
              exact digB_iff.mpr (c3 c hc)]
            exact ⟨_, rfl, iteF ⟨rfl, S1, c3, by omega, by omega⟩⟩
          · rw [show (f.cps.toList.map digB).all id = false by
              rw [Bool.eq_false_iff, ne_eq, List.all_map, List.all_eq_true]
              intro hall
              exact c3 fun c hc => digB_iff.mp (hall c hc)]
            exact ⟨_, rfl, iteT (k0 (none_if fun z => c3 z.1) _ S1)⟩
        · rw [decide_eq_false c2]
          exact iteT (k0 (none_if fun z => c2 (by omega)) _ fun _ _ e => e)
      · rw [decide_eq_false c1]
        exact iteF ⟨_, rfl, iteT (k0 (none_if fun z => c1 (by omega)) _ fun _ _ e => e)⟩
    rintro σ1 H1 ⟨rfl, S1, hd, h1, h2⟩
    obtain ⟨n, hn1, hn2, hl⟩ := word_val (cs := TL.tl f) (by rw [← ef]) hd (by rw [← TL.len_tl]; exact h1) (by rw [← TL.len_tl]; exact h2)
    refine ⟨_, rfl, x, n, rfl, hn1, by omega, ?_⟩
    refine ⟨_, rfl, n, rfl, log_small hn2, _, rfl, rfl, _, rfl, ite2 (fun c => ?_) (fun c => ?_)⟩
    · have e : numT n = x := V.str.inj (of_decide_eq_true c)
      exact ⟨_, rfl, k1 n hn2 e _ S1⟩
    · refine k0 (fun m hm e => c ?_) _ S1
      have := numT_int hm
      rw [e, hn1] at this
      have e2 : n = m := Option.some.inj this
      rw [e2]
      exact decide_eq_true (congrArg V.str e)
end
end KA
namespace KA
open PySem PySem.Spec PyProof.Rows L2 DP
/-! ### a text cut and put together again -/
theorem joinL_cons {S p : List Nat} {ps : List (List Nat)} (h : ps ≠ []) : TL.joinL S (p :: ps) = p ++ (S ++ TL.joinL S ps) := by
  cases ps with
  | nil => exact absurd rfl h
  | cons q r => rfl
theorem spl_ne (S : List Nat) : ∀ (l : List Nat) (k : Nat) (acc : List Nat), TL.spl S k acc l ≠ []
  | [], k, acc => by rw [TL.spl_nil]; simp
  | c :: r, 0, acc => by
    cases h : TL.pre S (c :: r) with
    | true => rw [TL.spl_hit h]; simp
    | false => rw [TL.spl_miss h]; exact spl_ne S r 0 _
  | c :: r, k + 1, acc => spl_ne S r k acc
theorem joinL_spl {S : List Nat} (hS : S ≠ []) : ∀ (n : Nat) (l acc : List Nat), l.length ≤ n → TL.joinL S (TL.spl S 0 acc l) = acc ++ l
  | _, [], acc, _ => by rw [TL.spl_nil, List.append_nil]; rfl
  | 0, c :: r, _, h => by simp at h
  | n + 1, c :: r, acc, h => by
    have hl : r.length ≤ n := by simpa using h
    cases hp : TL.pre S (c :: r) with
    | false =>
      rw [TL.spl_miss hp, joinL_spl hS n r _ hl, List.append_assoc]; rfl
    | true =>
      rw [TL.spl_hit hp, joinL_cons (spl_ne _ _ _ _), TL.spl_pass, joinL_spl hS n _ _ (by rw [List.length_drop]; omega), List.nil_append]
      have e1 : (c :: r).take S.length = S := by simpa [TL.pre] using hp
      have e2 : (c :: r).drop S.length = r.drop (S.length - 1) := by
        cases S with
        | nil => exact absurd rfl hS
        | cons s S => rfl
      congr 1
      rw [← e2]
      calc S ++ (c :: r).drop S.length = (c :: r).take S.length ++ (c :: r).drop S.length := by rw [e1]
        _ = c :: r := List.take_append_drop _ _
theorem join_split {x y : Str} (hy : TL.tl y ≠ []) (hk : y.cps.all (· < 256) = true) : Txt.join y (Txt.split x y) = x := by
  refine TL.ext_tl ?_
  rw [TL.join_eq, TL.tl_join, TL.split_spl x y hy (TL.kind_ok hk), joinL_spl hy _ _ _ (Nat.le_refl _), List.nil_append]
theorem split_len {x y : Str} (hy : TL.tl y ≠ []) (hk : y.cps.all (· < 256) = true) : (Txt.split x y).length ≤ x.length + 1 ∧ ∀ p ∈ Txt.split x y, p.length ≤ x.length := by
  have key : ∀ (n : Nat) (l acc : List Nat), l.length ≤ n → (TL.spl (TL.tl y) 0 acc l).length ≤ l.length + 1 ∧ ∀ p ∈ TL.spl (TL.tl y) 0 acc l, p.length ≤ acc.length + l.length := by
    intro n
    induction n with
    | zero =>
      intro l acc h
      obtain rfl := List.eq_nil_of_length_eq_zero (Nat.le_zero.mp h)
      rw [TL.spl_nil]
      exact ⟨by simp, fun p hp => by rw [List.mem_singleton.mp hp]; simp⟩
    | succ n ih =>
      intro l acc h
      cases l with
      | nil =>
        rw [TL.spl_nil]
        exact ⟨by simp, fun p hp => by rw [List.mem_singleton.mp hp]; simp⟩
      | cons c r =>
        have hl : r.length ≤ n := by simpa using h
        cases hp : TL.pre (TL.tl y) (c :: r) with
        | false =>
          rw [TL.spl_miss hp]
          obtain ⟨h1, h2⟩ := ih r (acc ++ [c]) hl
          refine ⟨by rw [List.length_cons]; omega, fun p hp => ?_⟩
          have := h2 p hp
          rw [List.length_append, List.length_singleton] at this
          rw [List.length_cons]; omega
        | true =>
          rw [TL.spl_hit hp, TL.spl_pass]
          obtain ⟨h1, h2⟩ := ih (r.drop ((TL.tl y).length - 1)) [] (by rw [List.length_drop]; omega)
          rw [List.length_drop] at h1
          refine ⟨by rw [List.length_cons, List.length_cons]; omega, fun p hp => ?_⟩
          rcases List.mem_cons.mp hp with e | e
          · rw [e]; omega
          · have := h2 p e
            rw [List.length_drop, List.length_nil] at this
            rw [List.length_cons]; omega
  have hm := TL.split_spl x y hy (TL.kind_ok hk)
  obtain ⟨h1, h2⟩ := key _ (TL.tl x) [] (Nat.le_refl _)
  constructor
  · have := congrArg List.length hm
    rw [List.length_map] at this
    rw [this, TL.len_tl]; exact h1
  · intro p hp
    have := h2 (TL.tl p) (by rw [← hm]; exact List.mem_map.mpr ⟨p, hp, rfl⟩)
    rw [TL.len_tl, TL.len_tl]; simpa using this
/-- a word and what is told of it -/
def NumIs (x : Str) (v : V) : Prop := (∃ n : Int, n.natAbs < 10 ^ 60 ∧ numT n = x ∧ v = .int n) ∨ ((∀ n : Int, n.natAbs < 10 ^ 60 → numT n ≠ x) ∧ v = .non)
def spStepAny : Sp := fun vs H Q _ => ∃ x : Str, vs = [.str x] ∧ x.length ≤ 5000 ∧ (∀ a b : Int, a.natAbs < 10 ^ 60 → b.natAbs < 10 ^ 60 → stepT a b = x → ∀ (H' : Hp) (q : Addr), Same H H' → H q = none → H' q = some (.tup [.int a, .int b]) → Q (.ref q) H') ∧
  ((∀ a b : Int, a.natAbs < 10 ^ 60 → b.natAbs < 10 ^ 60 → stepT a b ≠ x) → ∀ H', Same H H' → Q .non H')
section
variable {P : Program} {w : World} {K : PySem.W.Frag} {mg : Str → Option Value} {base : Heap} {Z : Ad}
theorem ok_step_of (T : Tx K w mg Z) : FnOk P w K mg base CX0 2 Z.a_step_of Z.d_step_of P_step_of (spStepAny) := by
  refine T.F_step_of.ok scstep_of (fun vs H Q E h => ?_) (fun cdv A outer s H vs Q E hr h => ?_)
  · obtain ⟨x, rfl, _⟩ := h
    rfl
  · obtain ⟨x, rfl, hx, k1, k0⟩ := h
    refine ⟨_, (pss_cons (ps_setLc (i := 1) (own := [("word", 2)]) (g := gName 2) (tt := tYes) rfl scstep_of.nd rfl rfl (sw_true rfl rfl rfl (by decide +kernel)) (pi_list (pe_m1 PySem.F.slot_str_split PySem.F.type_str_split mt_split (pv 0) pe_str)) (blkOk_by (own := [("word", 2)]) (N := N_step_of) (sc := defScope sstep_of) (by decide +kernel)) (fun _ _ _ _ _ => (pg_name (i := 2) scstep_of.nd rfl (Or.inl rfl))) (fun _ _ _ _ _ => pts_nil) (fun _ _ _ _ _ => (pe_call (ok_number_of T) (hr.mono (by decide)) (by rfl) T.g_number_of T.F_number_of.kp T.bb_number_of .nil pass0 (pa_cons (pv 2) pa_nil))))
      (pss_one (ps_ret (pe_ifExp (PW.pt (pw_or (pt_cmpR op_ne (pe_callB (lenK (K := K)) (by rfl) T.b_len (by decide +kernel) (pa_cons (pv 1) pa_nil)) pe_int (nomark _)) (pw_or1 (pt_cmpR (inS (K := K)) pe_non (pv 1) (by rfl))))) pe_non (pe_callTy call_tuple_of (by rfl) T.b_tuple (by decide +kernel) (pa_cons (pv 1) pa_nil)))))), ?_⟩
    have big : ∀ {m : Nat}, m ≤ 10000 → m ≤ sizeLine := fun {m} h => Nat.le_trans h (by decide)
    obtain ⟨sl, sw⟩ := split_len (x := x) (y := " ") (by rw [blank_tl]; simp) (by decide +kernel)
    have sj := join_split (x := x) (y := " ") (by rw [blank_tl]; simp) (by decide +kernel)
    have sn : ∀ a b : Int, stepT a b = x → Txt.split x " " = [numT a, numT b] := fun a b e => by rw [← e]; exact step_split a b
    refine ⟨_, rfl, ⟨_, rfl⟩, _, _, rfl, rfl, by decide +kernel, big (by omega), fun p hp => ?_⟩
    generalize Txt.split x " " = ws at sl sw sj sn ⊢
    have Sp := same_upd (o := HO.lst (ws.map V.str)) hp
    have gp : (upd H p (.lst (ws.map V.str))) p = some (.lst (ws.map V.str)) := upd_same
    generalize upd H p (.lst (ws.map V.str)) = H1 at Sp gp ⊢
    refine ⟨p, rfl, ⟨_, SqL.of gp⟩, fun D hD => ?_⟩
    refine lc_list (K := K) (a := p) (xs := ws.map V.str) (fun i H' => Same H1 H' ∧ ∃ ys : List V, H' D = some (.lst ys) ∧ ys.length = i ∧ ∀ (j : Nat) (u : Str) (v : V), j < i → ws[j]? = some u → ys[j]? = some v → NumIs u v) ⟨same_upd hD, [], upd_same, rfl, fun j u v h => absurd h (Nat.not_lt_zero _)⟩ (fun i H' _ ⟨S, _⟩ => SqL.of (S _ _ gp)) ?_ ?_
    · rintro i v H2 hi ⟨S2, ys, gD, yl, yn⟩
      obtain ⟨u, hu, rfl⟩ := map_at hi
      have hi2 : i < ws.length := (List.getElem?_eq_some_iff.mp hu).1
      have step : ∀ (v : V), NumIs u v → ∀ (j : Nat) (u' : Str) (v' : V), j < i + 1 → ws[j]? = some u' → (ys ++ [v])[j]? = some v' → NumIs u' v' := fun v hv j u' v' hj h1 h2 => by
        by_cases c : j < i
        · rw [List.getElem?_append_left (by omega)] at h2
          exact yn j u' v' c h1 h2
        · obtain rfl : j = i := by omega
          rw [List.getElem?_append_right (by omega), yl, Nat.sub_self] at h2
          rw [hu] at h1
          obtain rfl := Option.some.inj h1
          obtain rfl : v = v' := by simpa using h2
          exact hv
      refine ⟨rfl, yes_ite ?_⟩
      refine ⟨_, rfl, u, rfl, Nat.le_trans (sw u (List.mem_of_getElem? hu)) hx, fun n hn e H3 S3 => ⟨ys, S3 _ _ gD, Nat.lt_of_le_of_lt (by omega : ys.length ≤ 6000) (by decide), same_set (S2.trans S3) hD, _, upd_same, by simp [yl], step _ (.inl ⟨n, hn, e, rfl⟩)⟩, fun hno H3 S3 => ⟨ys, S3 _ _ gD, Nat.lt_of_le_of_lt (by omega : ys.length ≤ 6000) (by decide), same_set (S2.trans S3) hD, _, upd_same, by simp [yl], step _ (.inr ⟨hno, rfl⟩)⟩⟩
    rintro H2 ⟨S2, ys, gD, yl, yn⟩
    rw [List.length_map] at yl
    have S02 := Sp.trans S2
    refine ⟨_, rfl, D, _, rfl, .inl (SqL.of gD), rfl, _, rfl, ite2 (fun c => ?_) (fun c => ?_)⟩
    · refine k0 (fun a b ha hb e => ?_) _ S02
      have := sn a b e
      have h2 : ys.length = 2 := by rw [yl, this]; rfl
      rw [h2] at c
      simp at c
    · have c2 : ys.length = 2 := by
        have : ((ys.length : Nat) : Int) = 2 := by simpa using c
        exact_mod_cast this
      obtain ⟨y0, y1, rfl⟩ : ∃ y0 y1, ys = [y0, y1] := by
        match ys, c2 with
        | [a, b], _ => exact ⟨a, b, rfl⟩
      obtain ⟨w0, w1, rfl⟩ : ∃ w0 w1, ws = [w0, w1] := by
        match ws, yl with
        | [a, b], _ => exact ⟨a, b, rfl⟩
      have n0 := yn 0 w0 y0 (by simp) rfl rfl
      have n1 := yn 1 w1 y1 (by simp) rfl rfl
      have bad : (y0 = .non ∨ y1 = .non) → ∀ a b : Int, a.natAbs < 10 ^ 60 → b.natAbs < 10 ^ 60 → stepT a b ≠ x := fun hb a b h1 h2 e => by
        have e2 := sn a b e
        injection e2 with e3 e4
        injection e4 with e4 _
        rcases hb with rfl | rfl
        · rcases n0 with ⟨n, _, _, z⟩ | ⟨z, _⟩
          · cases z
          · exact z a h1 e3.symm
        · rcases n1 with ⟨n, _, _, z⟩ | ⟨z, _⟩
          · cases z
          · exact z b h2 e4.symm
      rcases n0 with ⟨a, ha, ea, rfl⟩ | ⟨_, rfl⟩
      · rcases n1 with ⟨b, hb, eb, rfl⟩ | ⟨_, rfl⟩
        · refine ⟨_, rfl, D, _, rfl, .inl (SqL.of gD), rfl, rfl, _, rfl, iteF ⟨_, rfl, D, _, rfl, .inl ⟨SqL.of gD, fun q hq => ?_⟩⟩⟩
          refine k1 a b ha hb ?_ _ q (S02.trans (same_upd hq)) (S02.free hq) upd_same
          rw [← sj, ← ea, ← eb]; rfl
        · exact ⟨_, rfl, D, _, rfl, .inl (SqL.of gD), rfl, rfl, _, rfl, iteT (k0 (bad (.inr rfl)) _ S02)⟩
      · rcases n1 with ⟨b, hb, eb, rfl⟩ | ⟨_, rfl⟩
        · exact ⟨_, rfl, D, _, rfl, .inl (SqL.of gD), rfl, rfl, _, rfl, iteT (k0 (bad (.inl rfl)) _ S02)⟩
        · exact ⟨_, rfl, D, _, rfl, .inl (SqL.of gD), rfl, rfl, _, rfl, iteT (k0 (bad (.inl rfl)) _ S02)⟩
end
end KA
namespace KA
open PySem PySem.Spec PyProof.Rows L2 DP
/-! ### any text: whether it writes a look -/
theorem part_any (x : Str) : (∃ a b : Str, x = a ++ " " ++ b ∧ Txt.partition x " " = (a, (" " : Str), b)) ∨ ((32 : Nat) ∉ TL.tl x ∧ Txt.partition x " " = (x, Str.empty, Str.empty)) := by
  by_cases h : (32 : Nat) ∈ TL.tl x
  · obtain ⟨as, bs, e, hn⟩ := List.eq_append_cons_of_mem h
    refine .inl ⟨⟨as.toArray⟩, ⟨bs.toArray⟩, ?_, ?_⟩
    · refine TL.ext_tl ?_
      rw [TL.tl_append, TL.tl_append, blank_tl, e, TL.tl_mk, TL.tl_mk]
      simp
    · have e2 : x = (⟨as.toArray⟩ : Str) ++ " " ++ (⟨bs.toArray⟩ : Str) := TL.ext_tl (by rw [TL.tl_append, TL.tl_append, blank_tl, e, TL.tl_mk, TL.tl_mk]; simp)
      rw [e2]
      exact TL.partition_app blank_tl hn
  · exact .inr ⟨h, TL.partition_none blank_tl h⟩
theorem blank_in (a b : Str) : (32 : Nat) ∈ TL.tl (a ++ " " ++ b) := by
  rw [TL.tl_append, TL.tl_append, blank_tl]; simp
theorem step_blank (a b : Int) : (32 : Nat) ∈ TL.tl (stepT a b) := blank_in _ _
theorem look_blank (l : Lk) : (32 : Nat) ∈ TL.tl (lookT l) := by rw [lookT_eq]; exact blank_in _ _
theorem no_word {x : Str} (h : ¬ WordOk x) : inV (V.str x) [V.str "at", .str "from", .str "upto"] = false := by
  cases e : inV (V.str x) [V.str "at", .str "from", .str "upto"] with
  | false => rfl
  | true =>
    exfalso
    apply h
    simp [inV] at e
    rcases e with e | e | e
    · exact .inl (beq_iff_eq.mp (show (("at" : Str) == x) = true from e)).symm
    · exact .inr (.inl (beq_iff_eq.mp (show (("from" : Str) == x) = true from e)).symm)
    · exact .inr (.inr (beq_iff_eq.mp (show (("upto" : Str) == x) = true from e)).symm)
def spLookAny : Sp := fun vs H Q _ => ∃ x : Str, vs = [.str x] ∧ x.length ≤ 5000 ∧ (∀ l : Lk, WordOk l.1 → Small l → lookT l = x → ∀ (H' : Hp) (q : Addr), Same H H' → H q = none → H' q = some (.tup [.str l.1, .int l.2.1, .int l.2.2]) → Q (.ref q) H') ∧
  ((∀ l : Lk, WordOk l.1 → Small l → lookT l ≠ x) → ∀ H', Same H H' → Q .non H')
section
variable {P : Program} {w : World} {K : PySem.W.Frag} {mg : Str → Option Value} {base : Heap} {Z : Ad}
theorem ok_look_of (T : Tx K w mg Z) : FnOk P w K mg base CX0 3 Z.a_look_of Z.d_look_of P_look_of (spLookAny) := by
  refine T.F_look_of.ok sclook_of (fun vs H Q E h => ?_) (fun cdv A outer s H vs Q E hr h => ?_)
  · obtain ⟨x, rfl, _⟩ := h
    rfl
  · obtain ⟨x, rfl, hx, k1, k0⟩ := h
    refine ⟨_, (pss_cons (ps_asg (pe_m1 PySem.F.slot_str_partition PySem.F.type_str_partition mt_partition (pv 0) pe_str) (tupK (K := K) (by rfl) (pgs_cons (pg_name (i := 1) sclook_of.nd rfl (Or.inl rfl)) (pgs_cons (pg_name (i := 2) sclook_of.nd rfl (Or.inl rfl)) (pgs_cons (pg_name (i := 3) sclook_of.nd rfl (Or.inl rfl)) pgs_nil)))))
      (pss_cons (ps_set (i := 4) sclook_of.nd rfl (Or.inl rfl) (pe_call (ok_step_of T) (hr.mono (by decide)) (by rfl) T.g_step_of T.F_step_of.kp T.bb_step_of .nil pass0 (pa_cons (pv 3) pa_nil)))
      (pss_one (ps_ret (pe_ifExp (PW.pt (pw_or (pt_cmpR (notInS (K := K)) (pv 1) (pe_glob (v := .ref Z.a_LW) rfl T.g_LOOK_WORDS rfl) (by rfl)) (pw_or1 (pt_cmpR op_isN (pv 4) pe_non (nomark _))))) pe_non (pe_tup (pa_cons (pv 1) (StX.pa_star (pv 4) pa_nil)))))))), ?_⟩
    have big : ∀ {m : Nat}, m ≤ 10000 → m ≤ sizeLine := fun {m} h => Nat.le_trans h (by decide)
    obtain ⟨wd, md, rest, ep, hcase⟩ : ∃ wd md rest : Str, Txt.partition x " " = (wd, md, rest) ∧ ((x = wd ++ " " ++ rest) ∨ ((32 : Nat) ∉ TL.tl x ∧ rest = Str.empty)) := by
      rcases part_any x with ⟨a, b, e1, e2⟩ | ⟨e1, e2⟩
      · exact ⟨a, _, b, e2, .inl e1⟩
      · exact ⟨x, _, _, e2, .inr ⟨e1, rfl⟩⟩
    have hrl : rest.length ≤ 5000 := by
      rcases hcase with e | ⟨_, e⟩
      · rw [e, len_app, len_app] at hx; omega
      · rw [e]; exact Nat.zero_le _
    -- a look that is written so has these parts
    have parts : ∀ l : Lk, WordOk l.1 → lookT l = x → wd = l.1 ∧ rest = stepT l.2.1 l.2.2 := fun l hw e => by
      have h1 := look_part hw
      rw [e, ep] at h1
      injection h1 with h2 h3
      injection h3 with h3 h4
      exact ⟨h2, h4⟩
    refine ⟨_, rfl, ⟨_, rfl⟩, _, _, rfl, rfl, by decide +kernel, big (by omega), fun p hp => ?_⟩
    rw [ep]
    have Sp := same_upd (o := HO.tup [V.str wd, .str md, .str rest]) hp
    have gp : (upd H p (.tup [V.str wd, .str md, .str rest])) p = some (.tup [V.str wd, .str md, .str rest]) := upd_same
    generalize upd H p (.tup [V.str wd, .str md, .str rest]) = H1 at Sp gp ⊢
    refine ⟨_, _, rfl, SqT.of gp, rfl, _, _, rfl, _, _, rfl, _, _, rfl, rfl, ?_⟩
    refine ⟨_, rfl, rest, rfl, hrl, fun a b ha hb es H2 q S2 hq gq => ?_, fun hno H2 S2 => ?_⟩
    · have S02 := Sp.trans S2
      refine ⟨_, rfl, Z.a_LW, _, rfl, .inr (T.q_LW _), rfl, rfl, _, rfl, ?_⟩
      by_cases hw : WordOk wd
      · rw [words_in hw]
        refine iteF ⟨_, rfl, rfl, _, rfl, iteF ?_⟩
        refine ⟨_, rfl, _, rfl, q, _, rfl, .inl (SqT.of gq), (by show 3 ≤ sizeLine; decide), fun r hr => ?_⟩
        refine k1 (wd, a, b) hw ⟨ha, hb⟩ ?_ _ r (S02.trans (same_upd hr)) (S02.free hr) upd_same
        rcases hcase with e | ⟨_, e⟩
        · rw [lookT_eq]
          show wd ++ " " ++ stepT a b = x
          rw [es, e]
        · have := step_blank a b
          rw [es, e] at this
          exact absurd this (by decide)
      · rw [no_word hw]
        refine iteT (k0 (fun l h1 h2 e => hw ?_) _ S02)
        rw [(parts l h1 e).1]; exact h1
    · have S02 := Sp.trans S2
      have nol : ∀ l : Lk, WordOk l.1 → Small l → lookT l ≠ x := fun l h1 h2 e => hno l.2.1 l.2.2 h2.1 h2.2 (parts l h1 e).2.symm
      refine ⟨_, rfl, Z.a_LW, _, rfl, .inr (T.q_LW _), rfl, rfl, _, rfl, ?_⟩
      by_cases hw : WordOk wd
      · rw [words_in hw]
        exact iteF ⟨_, rfl, rfl, _, rfl, iteT (k0 nol _ S02)⟩
      · rw [no_word hw]
        exact iteT (k0 nol _ S02)
end
end KA
namespace KA
open PySem PySem.Spec PyProof.Rows L2
theorem val_snoc (ds : List Nat) (d : Nat) : NumText.digitsVal (ds ++ [d]) = NumText.digitsVal ds * 10 + (d - 48) := by
  unfold NumText.digitsVal
  rw [List.foldl_append]; rfl
theorem numL_back : ∀ (n : Nat) (cs : List Nat), cs.length = n → NumText.AllDigits cs → cs ≠ [] → (cs.head? ≠ some 48 ∨ cs = [48]) → TL.numL (NumText.digitsVal cs) = cs := by
  intro n
  induction n with
  | zero => intro cs h _ hne _; exact absurd (List.eq_nil_of_length_eq_zero h) hne
  | succ n ih =>
    intro cs h hd hne hh
    obtain ⟨ds, d, rfl⟩ : ∃ ds d, cs = ds ++ [d] := ⟨cs.dropLast, cs.getLast hne, (List.dropLast_concat_getLast hne).symm⟩
    have hdd := hd d (List.mem_append_right _ List.mem_cons_self)
    rw [val_snoc]
    cases ds with
    | nil =>
      have e : NumText.digitsVal [] = 0 := rfl
      rw [e, Nat.zero_mul, Nat.zero_add, TL.numL_lt (by omega)]
      show [48 + (d - 48)] = [d]
      congr 1
      omega
    | cons c r =>
      have hc : (c :: r).head? ≠ some 48 := by
        rcases hh with q | q
        · intro z; exact q (by rw [List.head?_cons] at z; rw [List.cons_append, List.head?_cons]; exact z)
        · have := congrArg List.length q
          simp at this
      have hl : (c :: r).length = n := by rw [List.length_append] at h; simpa using h
      have e := ih (c :: r) hl (fun x hx => hd x (List.mem_append_left _ hx)) (by simp) (.inl hc)
      have hpos : NumText.digitsVal (c :: r) ≠ 0 := fun z => by
        rw [z] at e
        have e0 : TL.numL 0 = [48] := TL.numL_lt (by decide)
        rw [e0] at e
        exact hc (by rw [← e]; rfl)
      rw [TL.numL_step (by omega)]
      have e1 : (NumText.digitsVal (c :: r) * 10 + (d - 48)) / 10 = NumText.digitsVal (c :: r) := by omega
      have e2 : (NumText.digitsVal (c :: r) * 10 + (d - 48)) % 10 = d - 48 := by omega
      rw [e1, e2, e]
      congr 2
      omega
/-- and the other way: no numeral begins with a nought, but that of nought -/
theorem numL_head (m : Nat) : (TL.numL m).head? ≠ some 48 ∨ m = 0 := by
  induction m using Nat.strongRecOn with
  | _ m ih =>
    by_cases c : m < 10
    · rw [TL.numL_lt c]
      by_cases z : m = 0
      · exact .inr z
      · refine .inl ?_
        rw [List.head?_cons]
        intro e
        have := Option.some.inj e
        omega
    · rw [TL.numL_step (by omega)]
      rcases ih (m / 10) (by omega) with h | h
      · refine .inl ?_
        have hne := TL.numL_ne (m / 10)
        cases e : TL.numL (m / 10) with
        | nil => exact absurd e hne
        | cons x xs =>
          rw [e] at h
          rw [List.cons_append, List.head?_cons]
          rw [List.head?_cons] at h
          exact h
      · omega
end KA
namespace KA
open PySem PySem.Spec PyProof.Rows L2 DP
theorem cutS_from {z : Str} {k : Nat} : TL.tl (cutS z (some (k : Int)) none) = (TL.tl z).drop k := by
  unfold cutS
  rw [HT.sIx_none, HT.sIx_nat]
  show ((TL.tl z).drop (min k z.length)).take (z.length - min k z.length) = _
  have hl := TL.len_tl z
  by_cases h : k ≤ z.length
  · rw [Nat.min_eq_left h, List.take_of_length_le (by rw [List.length_drop, hl]; exact Nat.le_refl _)]
  · rw [Nat.min_eq_right (by omega), Nat.sub_self, List.take_zero, List.drop_eq_nil_of_le (by omega)]
theorem cutS_to {z : Str} {k : Nat} : TL.tl (cutS z none (some (k : Int))) = (TL.tl z).take k := by
  unfold cutS
  rw [HT.sIx_none, HT.sIx_nat]
  show ((TL.tl z).drop 0).take (min k z.length - 0) = _
  have hl := TL.len_tl z
  rw [List.drop_zero, Nat.sub_zero]
  by_cases h : k ≤ z.length
  · rw [Nat.min_eq_left h]
  · rw [Nat.min_eq_right (by omega), List.take_of_length_le (by omega), List.take_of_length_le (by omega)]
theorem num_of {x : Str} (hd : NumText.AllDigits (TL.tl (Txt.removeprefix x "-"))) (h1 : 1 ≤ (TL.tl (Txt.removeprefix x "-")).length) (h2 : (TL.tl (Txt.removeprefix x "-")).length ≤ 60) (hz : (TL.tl (Txt.removeprefix x "-")).head? ≠ some 48 ∨ x = "0") :
    ∃ n : Int, n.natAbs < 10 ^ 60 ∧ numT n = x ∧ intText? x = some n ∧ x.length ≤ 61 := by
  rcases rm_tl x with ⟨r, e1, e2⟩ | ⟨_, e2⟩
  · rw [e2] at hd h1 h2 hz
    have hne : r ≠ [] := fun z => by rw [z] at h1; simp at h1
    have hh : r.head? ≠ some 48 := by
      rcases hz with z | z
      · exact z
      · rw [z] at e1
        have : TL.tl ("0" : Str) = [48] := rfl
        rw [this] at e1
        injection e1 with e1 _
        exact absurd e1 (by decide)
    have hb := numL_back _ r rfl hd hne (.inl hh)
    have hv : NumText.digitsVal r < 10 ^ 60 := by
      have := val_lt r 0 hd
      have h3 : 10 ^ r.length ≤ 10 ^ 60 := Nat.pow_le_pow_right (by decide) h2
      unfold NumText.digitsVal
      omega
    have hp : NumText.digitsVal r ≠ 0 := fun z => by
      rw [z, TL.numL_lt (by decide)] at hb
      exact hh (by rw [← hb]; rfl)
    have hl : x.length ≤ 61 := by rw [TL.len_tl, e1, List.length_cons]; omega
    refine ⟨-((NumText.digitsVal r : Nat) : Int), by rw [Int.natAbs_neg]; exact hv, TL.ext_tl ?_, intText_neg e1 hd hne (by omega), hl⟩
    rw [numT_neg (by omega), Int.natAbs_neg, e1]
    exact congrArg _ hb
  · rw [e2] at hd h1 h2 hz
    have hne : TL.tl x ≠ [] := fun z => by rw [z] at h1; simp at h1
    have hb := numL_back _ (TL.tl x) rfl hd hne (hz.imp id fun z => by rw [z]; rfl)
    have hv : NumText.digitsVal (TL.tl x) < 10 ^ 60 := by
      have := val_lt (TL.tl x) 0 hd
      have h3 : 10 ^ (TL.tl x).length ≤ 10 ^ 60 := Nat.pow_le_pow_right (by decide) h2
      unfold NumText.digitsVal
      omega
    have hl : x.length ≤ 61 := by rw [TL.len_tl]; omega
    refine ⟨((NumText.digitsVal (TL.tl x) : Nat) : Int), hv, TL.ext_tl ?_, intText_digits hd hne (by omega), hl⟩
    rw [numT_pos (by omega)]
    exact hb
theorem num_conv {n : Int} (h : n.natAbs < 10 ^ 60) : (TL.tl (Txt.removeprefix (numT n) "-")).head? ≠ some 48 ∨ numT n = "0" := by
  rw [numT_rm]
  rcases numL_head n.natAbs with z | z
  · exact .inl z
  · refine .inr ?_
    have : n = 0 := by omega
    rw [this]; rfl
def Okc (x : Str) : Prop := ∀ c ∈ TL.tl x, c < 0x110000
def odds (f : Str) (i : Nat) : List Nat := (f.cps.toList.take i).filter fun c => !digB c
def chD (c : Nat) : PyData := .str ⟨#[c]⟩
theorem lay_ch : ∀ cs : List Nat, (∀ c ∈ cs, c < 0x110000) → PyData.canLayAll0 (cs.map chD) = true
  | [], _ => rfl
  | c :: cs, h => by
    rw [List.map_cons, PyData.canLayAll0, lay_ch cs fun d hd => h d (List.mem_cons_of_mem _ hd)]
    have : PyData.strOk (⟨#[c]⟩ : Str) = true := by
      unfold PyData.strOk
      simp
      exact h c List.mem_cons_self
    show (PyData.canLay0 (.str ⟨#[c]⟩) && true) = true
    rw [PyData.canLay0, this]; rfl
theorem depth_ch : ∀ cs : List Nat, PyData.depthAll (cs.map chD) ≤ 1
  | [] => by simp [PyData.depthAll]
  | c :: cs => by
    have := depth_ch cs
    rw [List.map_cons, PyData.depthAll]
    show max (PyData.depth (.str ⟨#[c]⟩)) _ ≤ 1
    rw [PyData.depth]
    omega
theorem shaped_ch {cs : List Nat} (h : ∀ c ∈ cs, c < 0x110000) : SeqAt.shaped (.list (cs.map chD)) = true := by
  unfold SeqAt.shaped
  rw [PyData.canLay0, lay_ch cs h, PyData.depth]
  have := depth_ch cs
  simp; omega
theorem dp_ch {K : PySem.W.Frag} {H : Hp} : ∀ cs : List Nat, DpAll K H (cs.map fun c => V.str ⟨#[c]⟩) (cs.map chD)
  | [] => .nil
  | c :: cs => .cons (.str _) (dp_ch cs)
def spLawNum : Sp := fun vs H Q _ => ∃ x : Str, vs = [.str x] ∧ x.length ≤ 5000 ∧ Okc x ∧ (∀ n : Int, n.natAbs < 10 ^ 60 → numT n = x → ∀ H', Same H H' → Q (.int n) H') ∧ ((∀ n : Int, n.natAbs < 10 ^ 60 → numT n ≠ x) → ∀ H', Same H H' → Q .non H')
section
variable {P : Program} {w : World} {K : PySem.W.Frag} {mg : Str → Option Value} {base : Heap} {Z : Ad}
end
end KA
namespace KA
open PySem PySem.Spec PyProof.Rows L2 DP
theorem mem_joinL {S p : List Nat} {c : Nat} (hc : c ∈ p) : ∀ {parts : List (List Nat)}, p ∈ parts → c ∈ TL.joinL S parts
  | [], h => by cases h
  | [q], h => by
    rw [List.mem_singleton.mp h] at hc
    exact hc
  | q :: r :: t, h => by
    show c ∈ q ++ (S ++ TL.joinL S (r :: t))
    rcases List.mem_cons.mp h with e | e
    · rw [← e]; exact List.mem_append_left _ hc
    · exact List.mem_append_right _ (List.mem_append_right _ (mem_joinL hc e))
theorem look_words {l : Lk} (h : WordOk l.1) : Txt.split (lookT l) " " = [l.1, numT l.2.1, numT l.2.2] := by
  have h1 := TL.split_join (y := " ") (s := 32) (S := []) blank_tl (by decide +kernel) (parts := [l.1, numT l.2.1, numT l.2.2]) (by simp) (fun p hp => by
    rcases List.mem_cons.mp hp with e | hp
    · rw [e]; exact word_free h
    · rcases List.mem_cons.mp hp with e | e
      · rw [e]; exact numT_free
      · rw [List.mem_singleton.mp e]; exact numT_free)
  rw [TL.join_eq] at h1
  rw [lookT_eq]
  exact h1
def spLawLook : Sp := fun vs H Q _ => ∃ x : Str, vs = [.str x] ∧ x.length ≤ 5000 ∧ Okc x ∧ (∀ l : Lk, WordOk l.1 → Small l → lookT l = x → ∀ (H' : Hp) (q : Addr), Same H H' → H q = none → H' q = some (.tup [.str l.1, .int l.2.1, .int l.2.2]) → Q (.ref q) H') ∧
  ((∀ l : Lk, WordOk l.1 → Small l → lookT l ≠ x) → ∀ H', Same H H' → Q .non H')
section
variable {P : Program} {w : World} {K : PySem.W.Frag} {mg : Str → Option Value} {base : Heap} {Z : Ad}
end
end KA
namespace KA
open PySem PySem.Spec PyProof.Rows L2 DP
theorem tray_ne {H : Hp} {t g p : Addr} {n : Nat} (T : Tray H t g n) (hp : H p = none) : p ≠ t ∧ p ≠ g := by
  obtain ⟨⟨gs, l, f, c, h1, h2, r⟩, hne⟩ := T
  exact ⟨Ne.symm (ne_of_none h1 hp), Ne.symm (ne_of_none h2 hp)⟩
theorem dp_lk {K : PySem.W.Frag} {H : Hp} {q : Addr} {l : Lk} (g : H q = some (.tup [.str l.1, .int l.2.1, .int l.2.2])) : Dp K H (.ref q) (encL l) := .tup (SqT.of g) (.cons (.str _) (.cons (.int _) (.cons (.int _) .nil)))
end KA
namespace KA
open PySem PySem.Spec PyProof.Rows L2 DP
def spLenAny : Sp := fun vs H Q _ => ∃ x : Str, vs = [.str x] ∧ x.length ≤ 5000 ∧ (∀ L : Int, L.natAbs < 10 ^ 60 → 0 < L → numT L = x → ∀ H', Same H H' → Q (.int L) H') ∧ ((∀ L : Int, L.natAbs < 10 ^ 60 → 0 < L → numT L ≠ x) → ∀ H', Same H H' → Q .non H')
section
variable {P : Program} {w : World} {K : PySem.W.Frag} {mg : Str → Option Value} {base : Heap} {Z : Ad} {Y : AdX}
theorem ok_length_of (T : Tx K w mg Z) : FnOk P w K mg base CX0 2 Z.a_length_of Z.d_length_of P_length_of (spLenAny) := by
  refine T.F_length_of.ok sclength_of (fun vs H Q E h => ?_) (fun cdv A outer s H vs Q E hr h => ?_)
  · obtain ⟨x, rfl, _⟩ := h
    rfl
  · obtain ⟨x, rfl, hx, k1, k0⟩ := h
    refine ⟨_, (pss_cons (ps_set (i := 1) sclength_of.nd rfl (Or.inl rfl) (pe_call (ok_number_of T) (hr.mono (by decide)) (by rfl) T.g_number_of T.F_number_of.kp T.bb_number_of .nil pass0 (pa_cons (pv 0) pa_nil)))
      (pss_one (ps_ret (pe_ifExp (PW.pt (pw_or (pt_cmpR op_isN (pv 1) pe_non (nomark _)) (pw_or1 (pt_cmpR op_lt (pv 1) pe_int (nomark _))))) pe_non (pv 1))))), ?_⟩
    refine ⟨_, rfl, x, rfl, hx, fun n hn e H1 S1 => ?_, fun hno H1 S1 => ?_⟩
    · refine ⟨_, rfl, rfl, _, rfl, iteF ⟨_, rfl, _, _, rfl, rfl, _, rfl, ite2 (fun c => ?_) (fun c => ?_)⟩⟩
      · have c' : n < 1 := of_decide_eq_true c
        exact k0 (fun M hM h0 e2 => by
          have := numT_inj (e.trans e2.symm)
          omega) _ S1
      · have c' : ¬ n < 1 := fun h => c (decide_eq_true h)
        exact ⟨_, rfl, k1 n hn (by omega) e _ S1⟩
    · exact ⟨_, rfl, rfl, _, rfl, iteT (k0 (fun M hM _ => hno M hM) _ S1)⟩
end
end KA
namespace KA
open PySem PySem.Spec PyProof.Rows L2 DP
/-! ### a Dark's writing -/
def darkT (L : Int) (hs : List Lk) : Str := Txt.join "; " (numT L :: hs.map lookT)
theorem semi_tl : TL.tl ("; " : Str) = 59 :: [32] := by rfl
theorem semi_len : ("; " : Str).length = 2 := by rfl
theorem numT_semi {n : Int} : (59 : Nat) ∉ TL.tl (numT n) := fun hm => by
  have h1 : (59 : Nat) ∉ TL.numL n.natAbs := TL.numL_free (.inr (by decide))
  by_cases c : n < 0
  · rw [numT_neg c] at hm
    rcases List.mem_cons.mp hm with e | e
    · exact absurd e (by decide)
    · exact h1 e
  · rw [numT_pos (by omega)] at hm
    exact h1 hm
theorem word_semi {w : Str} (h : WordOk w) : (59 : Nat) ∉ TL.tl w := by
  rcases h with rfl | rfl | rfl <;> decide +kernel
theorem lookT_semi {l : Lk} (h : WordOk l.1) : (59 : Nat) ∉ TL.tl (lookT l) := fun hm => by
  have hb : (59 : Nat) ∉ TL.tl (" " : Str) := by rw [blank_tl]; decide
  unfold lookT at hm
  rw [TL.tl_append, TL.tl_append, TL.tl_append, TL.tl_append] at hm
  rcases List.mem_append.mp hm with hm | hm
  · rcases List.mem_append.mp hm with hm | hm
    · rcases List.mem_append.mp hm with hm | hm
      · rcases List.mem_append.mp hm with hm | hm
        · exact word_semi h hm
        · exact hb hm
      · exact numT_semi hm
    · exact hb hm
  · exact numT_semi hm
theorem dark_split {L : Int} {hs : List Lk} (hw : ∀ l ∈ hs, WordOk l.1) : Txt.split (darkT L hs) "; " = numT L :: hs.map lookT :=
  TL.split_join (y := "; ") (s := 59) (S := [32]) semi_tl (by decide +kernel) (parts := numT L :: hs.map lookT) (by simp) fun p hp => by
    rcases List.mem_cons.mp hp with e | e
    · rw [e]; exact numT_semi
    · obtain ⟨l, hl, rfl⟩ := List.mem_map.mp e
      exact lookT_semi (hw l hl)
theorem looks_sum : ∀ {hs : List Lk}, (∀ l ∈ hs, WordOk l.1 ∧ Small l) → ((hs.map lookT).map (·.length)).sum ≤ 128 * hs.length
  | [], _ => by simp
  | l :: hs, h => by
    have h1 := looks_sum (hs := hs) fun o ho => h o (List.mem_cons_of_mem _ ho)
    have h2 := lookT_len (h l List.mem_cons_self).1 (h l List.mem_cons_self).2
    simp only [List.map_cons, List.sum_cons, List.length_cons]
    omega
theorem parts_sum {L : Int} {hs : List Lk} (hL : L.natAbs < 10 ^ 60) (h : ∀ l ∈ hs, WordOk l.1 ∧ Small l) (hn : hs.length ≤ 60) :
    ((numT L :: hs.map lookT).map (·.length)).sum + (numT L :: hs.map lookT).length * ("; " : Str).length ≤ 10000 := by
  have h1 := looks_sum h
  have h2 := numT_len hL
  rw [semi_len, List.map_cons, List.sum_cons, List.length_cons, List.length_map]
  omega
theorem join_len (y : Str) : ∀ parts : List Str, (Str.join y parts).length ≤ (parts.map (·.length)).sum + parts.length * y.length
  | [] => by show (0 : Nat) ≤ _; omega
  | [x] => by show x.length ≤ _; simp
  | x :: z :: r => by
    have h := join_len y (z :: r)
    show (x ++ y ++ Str.join y (z :: r)).length ≤ _
    rw [len_app, len_app, List.map_cons, List.sum_cons, List.length_cons, Nat.add_mul]
    omega
theorem darkT_len {L : Int} {hs : List Lk} (hL : L.natAbs < 10 ^ 60) (h : ∀ l ∈ hs, WordOk l.1 ∧ Small l) (hn : hs.length ≤ 60) : (darkT L hs).length ≤ 10000 := by
  unfold darkT
  rw [TL.join_eq]
  exact Nat.le_trans (join_len _ _) (parts_sum hL h hn)
theorem canon_fold {L : Int} {hs : List Lk} (c : Canon hs (fun o => o ∈ hs)) (hh : ∀ l ∈ hs, home L l = l) : hs.foldl (heard L) [] = hs :=
  (fold0_canon L hs).eq c fun o => by
    constructor
    · rintro ⟨l, hl, rfl⟩
      rw [hh l hl]; exact hl
    · intro ho
      exact ⟨o, ho, (hh o ho).symm⟩
theorem atI_head {α : Type} {x : α} {xs : List α} : atI (x :: xs) 0 = some x := atI_nat (j := 0) rfl
theorem cut_from {xs : List V} {k : Nat} : cutV xs (some (k : Int)) none = xs.drop k := by
  unfold cutV
  rw [HT.sIx_none, HT.sIx_nat]
  by_cases h : k ≤ xs.length
  · rw [show min k xs.length = k by omega, List.take_of_length_le (by rw [List.length_drop]; exact Nat.le_refl _)]
  · rw [show min k xs.length = xs.length by omega, Nat.sub_self, List.take_zero, List.drop_eq_nil_of_le (by omega)]
theorem cut_tail {x : V} {xs : List V} : cutV (x :: xs) (some 1) none = xs := cut_from (k := 1)
theorem no_none : ∀ hs : List Lk, ((hs.map encL).any fun z => PyData.eqv z .none) = false
  | [] => rfl
  | l :: hs => by rw [List.map_cons, List.any_cons, no_none hs]; rfl
/-- figures to a hundred -/
def Wide (l : Lk) : Prop := l.2.1.natAbs < 10 ^ 100 ∧ l.2.2.natAbs < 10 ^ 100
def spShown (K : PySem.W.Frag) : Sp := fun vs H Q _ => ∃ (v : V) (l : Lk), vs = [v] ∧ Dp K H v (encL l) ∧ WordOk l.1 ∧ Wide l ∧ Q (.str (lookT l)) H
def spShowLook (K : PySem.W.Frag) : Sp := fun vs H Q _ => ∃ (p : Addr) (l : Lk), vs = [.ref p] ∧ SqT K H p [.str l.1, .int l.2.1, .int l.2.2] ∧ WordOk l.1 ∧ Wide l ∧ ∀ H', Same H H' → Q (.str (lookT l)) H'
theorem small_wide {l : Lk} (h : Small l) : Wide l := ⟨Nat.lt_trans h.1 (by decide), Nat.lt_trans h.2 (by decide)⟩
theorem lookT_lenW {l : Lk} (h : WordOk l.1) (hs : Wide l) : (lookT l).length ≤ 210 := by
  unfold lookT
  have b1 := word_len h
  have b2 := numT_lenW hs.1
  have b3 := numT_lenW hs.2
  rw [len_app, len_app, len_app, len_app, blank_len]
  omega
theorem looks_sumW : ∀ {hs : List Lk}, (∀ l ∈ hs, WordOk l.1 ∧ Wide l) → ((hs.map lookT).map (·.length)).sum ≤ 210 * hs.length
  | [], _ => by simp
  | l :: hs, h => by
    have h1 := looks_sumW (hs := hs) fun o ho => h o (List.mem_cons_of_mem _ ho)
    have h2 := lookT_lenW (h l List.mem_cons_self).1 (h l List.mem_cons_self).2
    simp only [List.map_cons, List.sum_cons, List.length_cons]
    omega
theorem parts_sumW {L : Int} {hs : List Lk} (hL : L.natAbs < 10 ^ 60) (h : ∀ l ∈ hs, WordOk l.1 ∧ Wide l) (hn : hs.length ≤ 60) :
    ((numT L :: hs.map lookT).map (·.length)).sum + (numT L :: hs.map lookT).length * ("; " : Str).length ≤ 20000 := by
  have h1 := looks_sumW h
  have h2 := numT_len hL
  rw [semi_len, List.map_cons, List.sum_cons, List.length_cons, List.length_map]
  omega
def spDarkShown (K : PySem.W.Frag) : Sp := fun vs H Q _ => ∃ (L : Int) (p : Addr) (hs : List Lk), vs = [.int L, .ref p] ∧ LAt K H p (hs.map encL) ∧ L.natAbs < 10 ^ 60 ∧ (∀ l ∈ hs, WordOk l.1 ∧ Small l) ∧ hs.length ≤ 60 ∧ ∀ H', Same H H' → Q (.str (darkT L hs)) H'
def spShowDark (Z : Ad) (K : PySem.W.Frag) : Sp := fun vs H Q _ => ∃ (d : Addr) (L : Int) (hs : List Lk), vs = [.ref d] ∧ DarkAt Z K H d L hs ∧ L.natAbs < 10 ^ 60 ∧ (∀ l ∈ hs, Wide l) ∧ ∀ H', Same H H' → Q (.str (darkT L hs)) H'
section
variable {P : Program} {w : World} {K : PySem.W.Frag} {mg : Str → Option Value} {base : Heap} {Z : Ad}
theorem ok_law_look_shown (T : Tx K w mg Z) : FnOk P w K mg base CX0 1 Z.a_law_look_shown Z.d_law_look_shown P_law_look_shown (spShown K) := by
  refine T.F_law_look_shown.ok sclaw_look_shown (fun vs H Q E h => ?_) (fun cdv A outer s H vs Q E hr h => ?_)
  · obtain ⟨v, l, rfl, _⟩ := h
    rfl
  · obtain ⟨v, l, rfl, hv, hw, hs, k⟩ := h
    obtain ⟨p, rfl, hp⟩ := dp_look hv
    refine ⟨_, (pss_one (ps_ret (pe_op op_add_str (pe_op op_add_str (pe_op op_add_str (pe_op op_add_str (pe_ix (ixT (K := K)) (pv 0) pe_int (fun _ _ => rfl)) pe_str) (pe_callTy call_str_int (by rfl) T.b_str (by decide +kernel) (pa_cons (pe_ix (ixT (K := K)) (pv 0) pe_int (fun _ _ => rfl)) pa_nil))) pe_str) (pe_callTy call_str_int (by rfl) T.b_str (by decide +kernel) (pa_cons (pe_ix (ixT (K := K)) (pv 0) pe_int (fun _ _ => rfl)) pa_nil))))), ?_⟩
    have b1 := word_len hw
    have b2 := numT_lenW hs.1
    have b3 := numT_lenW hs.2
    have b4 := blank_len
    have big : ∀ {m : Nat}, m ≤ 1000 → m ≤ sizeLine := fun {m} h => Nat.le_of_lt (small1000 h)
    refine ⟨_, rfl, p, _, _, _, rfl, rfl, hp, rfl, _, _, rfl, rfl, big (by omega), ?_⟩
    refine ⟨_, rfl, p, _, _, _, rfl, rfl, hp, rfl, l.2.1, rfl, log_wide hs.1, _, _, rfl, rfl, ?_, ?_⟩
    · show (l.1 ++ (" " : Str)).length + (numT l.2.1).length ≤ sizeLine
      rw [len_app]; exact big (by omega)
    refine ⟨_, _, rfl, rfl, ?_, ?_⟩
    · show (l.1 ++ (" " : Str) ++ numT l.2.1).length + (" " : Str).length ≤ sizeLine
      rw [len_app, len_app]; exact big (by omega)
    refine ⟨_, rfl, p, _, _, _, rfl, rfl, hp, rfl, l.2.2, rfl, log_wide hs.2, _, _, rfl, rfl, ?_, ?_⟩
    · show (l.1 ++ (" " : Str) ++ numT l.2.1 ++ (" " : Str)).length + (numT l.2.2).length ≤ sizeLine
      rw [len_app, len_app, len_app]; exact big (by omega)
    exact k
theorem ok_law_dark_shown (T : Tx K w mg Z) : FnOk P w K mg base CX0 2 Z.a_law_dark_shown Z.d_law_dark_shown P_law_dark_shown (spDarkShown K) := by
  refine T.F_law_dark_shown.ok sclaw_dark_shown (fun vs H Q E h => ?_) (fun cdv A outer s H vs Q E hr h => ?_)
  · obtain ⟨L, p, hs, rfl, _⟩ := h
    rfl
  · obtain ⟨L, p, hs, rfl, hp, hL, hok, hlen, k⟩ := h
    obtain ⟨xs, h1, h2⟩ := id hp
    have hxl : xs.length = hs.length := by rw [dpAll_len h2, List.length_map]
    refine ⟨_, (pss_one (ps_ret (pe_m1 PySem.F.slot_str_join PySem.F.type_str_join mt_join pe_str (pe_op op_cat (pe_lst (pa_cons (pe_callTy call_str_int (by rfl) T.b_str (by decide +kernel) (pa_cons (pv 0) pa_nil)) pa_nil)) (pe_lc (own := [("look", 2)]) (g := gName 2) (tt := tYes) rfl sclaw_dark_shown.nd (pi_list (pv 1)) (blkOk_by (own := [("look", 2)]) (N := N_law_dark_shown) (sc := defScope slaw_dark_shown) (by decide +kernel)) (fun _ _ _ _ _ => (pg_name (i := 2) sclaw_dark_shown.nd rfl (Or.inl rfl))) (fun _ _ _ _ _ => pts_nil) (fun _ _ _ _ _ => (pe_call (ok_law_look_shown T) (hr.mono (by decide)) (by rfl) T.g_law_look_shown T.F_law_look_shown.kp T.bb_law_look_shown .nil pass0 (pa_cons (pv 2) pa_nil)))))))), ?_⟩
    refine ⟨⟨_, rfl⟩, _, rfl, L, rfl, log_small hL, (by show 1 ≤ sizeLine; decide), fun q hq => ?_⟩
    have Sq := same_upd (o := HO.lst [V.str (numT L)]) hq
    have gq : (upd H q (.lst [V.str (numT L)])) q = some (.lst [V.str (numT L)]) := upd_same
    have h1' := Sq _ _ h1
    have h2' := dpAll_mono Sq _ _ h2
    refine ⟨_, rfl, p, rfl, ⟨_, SqL.of h1'⟩, fun D hD => ?_⟩
    refine lc_list (K := K) (a := p) (xs := xs) (fun i H2 => Same (upd H q (.lst [V.str (numT L)])) H2 ∧ H2 D = some (.lst (((hs.take i).map lookT).map V.str))) ⟨same_upd hD, upd_same⟩ (fun i H2 _ ⟨S2, _⟩ => SqL.of (S2 _ _ h1')) ?_ ?_
    · rintro i y H2 hi ⟨S2, hd⟩
      obtain ⟨e, hdi, hdy⟩ := dpAll_get h2' hi
      obtain ⟨o, ho, rfl⟩ := map_at hdi
      have hok1 := hok o (List.mem_of_getElem? ho)
      have hi' : i < hs.length := (List.getElem?_eq_some_iff.mp ho).1
      refine ⟨rfl, yes_ite ?_⟩
      refine ⟨_, rfl, y, o, rfl, dp_mono S2 _ _ hdy, hok1.1, small_wide hok1.2, _, hd, small1000 (by simp; omega), same_set S2 hD, ?_⟩
      rw [take_snoc ho, List.map_append, List.map_append]
      exact upd_same
    rintro H2 ⟨S2, hd⟩
    rw [List.take_of_length_le (by rw [hxl]; exact Nat.le_refl _)] at hd
    refine ⟨q, D, _, _, rfl, rfl, S2 _ _ gq, hd, ?_, fun r hr => ?_⟩
    · simp only [List.length_cons, List.length_nil, List.length_map]
      exact Nat.le_of_lt (small1000 (by omega))
    refine ⟨_, r, numT L :: hs.map lookT, rfl, rfl, .inl (SqL.of upd_same), Nat.le_trans (parts_sum hL hok hlen) (by decide), ?_⟩
    exact k _ ((Sq.trans S2).trans (same_upd hr))
theorem ok_show_look (T : Tx K w mg Z) : FnOk P w K mg base CX0 4 Z.a_show_look Z.d_show_look P_show_look (spShowLook K) := by
  refine T.F_show_look.ok scshow_look (fun vs H Q E h => ?_) (fun cdv A outer s H vs Q E hr h => ?_)
  · obtain ⟨p, l, rfl, _⟩ := h
    rfl
  · obtain ⟨p, l, rfl, hp, hw, hs, k⟩ := h
    refine ⟨_, (pss_cons (ps_asg (pv 0) (tupK (K := K) (by rfl) (pgs_cons (pg_name (i := 1) scshow_look.nd rfl (Or.inl rfl)) (pgs_cons (pg_name (i := 2) scshow_look.nd rfl (Or.inl rfl)) (pgs_cons (pg_name (i := 3) scshow_look.nd rfl (Or.inl rfl)) pgs_nil)))))
      (pss_one (ps_ret (pe_joined (PJ.cons (pe_fmt (pv 1)) (PJ.cons pe_str (PJ.cons (pe_fmt (pe_call (ok_figures T) (hr.mono (by decide)) (by rfl) T.g_figures T.F_figures.kp T.bb_figures .nil pass0 (pa_cons (pv 2) pa_nil))) (PJ.cons pe_str (PJ.cons (pe_fmt (pe_call (ok_figures T) (hr.mono (by decide)) (by rfl) T.g_figures T.F_figures.kp T.bb_figures .nil pass0 (pa_cons (pv 3) pa_nil))) PJ.nil))))))))), ?_⟩
    have b1 := word_len hw
    have b2 := numT_lenW hs.1
    have b3 := numT_lenW hs.2
    have b4 := blank_len
    have big : ∀ {m : Nat}, m ≤ 1000 → m ≤ sizeLine := fun {m} h => Nat.le_of_lt (small1000 h)
    refine ⟨_, rfl, _, _, rfl, hp, rfl, _, _, rfl, _, _, rfl, _, _, rfl, rfl, ?_⟩
    refine ⟨_, rfl, .inl ⟨l.1, rfl, big (by omega), l.1, rfl, ?_, ?_⟩⟩
    · rw [empty_app]; exact big (by omega)
    rw [empty_app]
    refine ⟨_, rfl, ?_, ?_⟩
    · rw [len_app]; exact big (by omega)
    refine ⟨_, rfl, l.2.1, rfl, hs.1, fun H1 S1 => .inl ⟨_, rfl, big (by omega), _, rfl, ?_, ?_⟩⟩
    · rw [len_app, len_app]; exact big (by omega)
    refine ⟨_, rfl, ?_, ?_⟩
    · rw [len_app, len_app, len_app]; exact big (by omega)
    refine ⟨_, rfl, l.2.2, rfl, hs.2, fun H2 S2 => .inl ⟨_, rfl, big (by omega), _, rfl, ?_, ?_⟩⟩
    · rw [len_app, len_app, len_app, len_app]; exact big (by omega)
    exact k _ (S1.trans S2)
theorem ok_show_dark (T : Tx K w mg Z) : FnOk P w K mg base CX0 5 Z.a_show_dark Z.d_show_dark P_show_dark (spShowDark Z K) := by
  refine T.F_show_dark.ok scshow_dark (fun vs H Q E h => ?_) (fun cdv A outer s H vs Q E hr h => ?_)
  · obtain ⟨d, L, hs, rfl, _⟩ := h
    rfl
  · obtain ⟨d, L, hs, rfl, D, hL, hsm, k⟩ := h
    obtain ⟨dx, la, vs, g1, g2, g3⟩ := id D.ex
    have hlen := D.len
    have hok : ∀ l ∈ hs, WordOk l.1 ∧ Wide l := fun l hl => ⟨(D.ok l hl).1, hsm l hl⟩
    refine ⟨_, (pss_one (ps_ret (pe_m1 PySem.F.slot_str_join PySem.F.type_str_join mt_join pe_str (pe_op op_cat (pe_lst (pa_cons (pe_call (ok_figures T) (hr.mono (by decide)) (by rfl) T.g_figures T.F_figures.kp T.bb_figures .nil pass0 (pa_cons (pe_meth0 (pv 0) T.cl T.m_Dark_length (ok_Dark_length T) (hr.mono (by decide)) T.bb_Dark_length .nil pass0) pa_nil)) pa_nil)) (pe_lc (own := [("look", 1)]) (g := gName 1) (tt := tYes) rfl scshow_dark.nd (pi_list (pe_meth0 (pv 0) T.cl T.m_Dark_looks (ok_Dark_looks T) (hr.mono (by decide)) T.bb_Dark_looks .nil pass0)) (blkOk_by (own := [("look", 1)]) (N := N_show_dark) (sc := defScope sshow_dark) (by decide +kernel)) (fun _ _ _ _ _ => (pg_name (i := 1) scshow_dark.nd rfl (Or.inl rfl))) (fun _ _ _ _ _ => pts_nil) (fun _ _ _ _ _ => (pe_call (ok_show_look T) (hr.mono (by decide)) (by rfl) T.g_show_look T.F_show_look.kp T.bb_show_look .nil pass0 (pa_cons (pv 1) pa_nil)))))))), ?_⟩
    refine ⟨⟨_, rfl⟩, _, rfl, d, dx, _, rfl, g1, df_no _ _ (by decide +kernel) (by decide +kernel), d, L, hs, rfl, D, L, rfl, Nat.lt_trans hL (by decide), fun H1 S1 => ⟨(by show 1 ≤ sizeLine; decide), fun q hq => ?_⟩⟩
    have Sq := same_upd (o := HO.lst [V.str (numT L)]) hq
    have gq : (upd H1 q (.lst [V.str (numT L)])) q = some (.lst [V.str (numT L)]) := upd_same
    have D1 := (D.same S1).same Sq
    refine ⟨_, rfl, d, dx, _, rfl, Sq _ _ (S1 _ _ g1), df_no _ _ (by decide +kernel) (by decide +kernel), d, L, hs, rfl, D1, fun pl xs H2 hpl S2 l1 l2 => ?_⟩
    have hxl : xs.length = hs.length := by rw [dpAll_len l2, List.length_map]
    refine ⟨pl, rfl, ⟨_, SqL.of l1⟩, fun D0 hD => ?_⟩
    refine lc_list (K := K) (a := pl) (xs := xs) (fun i H3 => Same H2 H3 ∧ H3 D0 = some (.lst (((hs.take i).map lookT).map V.str))) ⟨same_upd hD, upd_same⟩ (fun i H3 _ ⟨S3, _⟩ => SqL.of (S3 _ _ l1)) ?_ ?_
    · rintro i y H3 hi ⟨S3, hd⟩
      obtain ⟨e, hdi, hdy⟩ := dpAll_get l2 hi
      obtain ⟨o, ho, rfl⟩ := map_at hdi
      have hok1 := hok o (List.mem_of_getElem? ho)
      have hi' : i < hs.length := (List.getElem?_eq_some_iff.mp ho).1
      obtain ⟨p, rfl, hp⟩ := dp_look (dp_mono S3 _ _ hdy)
      refine ⟨rfl, yes_ite ?_⟩
      refine ⟨_, rfl, p, o, rfl, hp, hok1.1, hok1.2, fun H4 S4 => ⟨_, S4 _ _ hd, small1000 (by simp; omega), same_set (S3.trans S4) hD, ?_⟩⟩
      rw [take_snoc ho, List.map_append, List.map_append]
      exact upd_same
    rintro H3 ⟨S3, hd⟩
    rw [List.take_of_length_le (by rw [hxl]; exact Nat.le_refl _)] at hd
    refine ⟨q, D0, _, _, rfl, rfl, S3 _ _ (S2 _ _ gq), hd, ?_, fun r hr => ?_⟩
    · simp only [List.length_cons, List.length_nil, List.length_map]
      exact Nat.le_of_lt (small1000 (by omega))
    refine ⟨_, r, numT L :: hs.map lookT, rfl, rfl, .inl (SqL.of upd_same), Nat.le_trans (parts_sumW hL hok hlen) (by decide), ?_⟩
    exact k _ ((((S1.trans Sq).trans S2).trans S3).trans (same_upd hr))
end
end KA
namespace KA
open PySem PySem.Spec PyProof.Rows L2 DP
/-! ### any text: whether it names a Dark -/
theorem lookT_inj {l m : Lk} (hl : WordOk l.1) (hm : WordOk m.1) (e : lookT l = lookT m) : l = m := by
  have h1 := look_words hl
  rw [e, look_words hm] at h1
  injection h1 with e1 h2
  injection h2 with e2 h3
  injection h3 with e3 _
  have n1 := numT_inj e2
  have n2 := numT_inj e3
  obtain ⟨a, b, c⟩ := l
  obtain ⟨a', b', c'⟩ := m
  simp at e1 n1 n2
  rw [e1, n1, n2]
theorem looks_inj : ∀ {hs ms : List Lk}, (∀ l ∈ hs, WordOk l.1) → (∀ l ∈ ms, WordOk l.1) → hs.map lookT = ms.map lookT → hs = ms
  | [], [], _, _, _ => rfl
  | [], _ :: _, _, _, e => by cases e
  | _ :: _, [], _, _, e => by cases e
  | a :: hs, b :: ms, h1, h2, e => by
    rw [List.map_cons, List.map_cons] at e
    injection e with e1 e2
    rw [lookT_inj (h1 a List.mem_cons_self) (h2 b List.mem_cons_self) e1, looks_inj (fun l hl => h1 l (List.mem_cons_of_mem _ hl)) (fun l hl => h2 l (List.mem_cons_of_mem _ hl)) e2]
theorem darkT_inj {L M : Int} {hs ms : List Lk} (h1 : ∀ l ∈ hs, WordOk l.1) (h2 : ∀ l ∈ ms, WordOk l.1) (e : darkT L hs = darkT M ms) : L = M ∧ hs = ms := by
  have h := dark_split (L := L) h1
  rw [e, dark_split h2] at h
  injection h with a b
  exact ⟨(numT_inj a).symm, looks_inj h1 h2 b.symm⟩
/-- the look that a text writes -/
noncomputable def lkO (x : Str) : Option Lk := open Classical in if h : ∃ l : Lk, WordOk l.1 ∧ Small l ∧ lookT l = x then some h.choose else none
theorem lkO_of {l : Lk} (hw : WordOk l.1) (hs : Small l) : lkO (lookT l) = some l := by
  have h : ∃ m : Lk, WordOk m.1 ∧ Small m ∧ lookT m = lookT l := ⟨l, hw, hs, rfl⟩
  unfold lkO
  rw [dif_pos h]
  have := h.choose_spec
  rw [lookT_inj this.1 hw this.2.2]
theorem lkO_is {x : Str} {l : Lk} (h : lkO x = some l) : WordOk l.1 ∧ Small l ∧ lookT l = x := by
  unfold lkO at h
  split at h
  · rename_i q
    rw [← Option.some.inj h]
    exact q.choose_spec
  · cases h
theorem lkO_no {x : Str} (h : ∀ l : Lk, WordOk l.1 → Small l → lookT l ≠ x) : lkO x = none := by
  cases e : lkO x with
  | none => rfl
  | some l =>
    have := lkO_is e
    exact absurd this.2.2 (h l this.1 this.2.1)
def encO : Option Lk → PyData
  | none => .none
  | some l => encL l
theorem noL_encO (o : Option Lk) : noL (encO o) = true := by cases o <;> rfl
theorem lay_opts : ∀ (os : List (Option Lk)), (∀ l, some l ∈ os → WordOk l.1) → PyData.canLayAll0 (os.map encO) = true
  | [], _ => rfl
  | o :: os, h => by
    rw [List.map_cons, PyData.canLayAll0, lay_opts os fun l hl => h l (List.mem_cons_of_mem _ hl)]
    cases o with
    | none => rfl
    | some l =>
      have := lay_looks [l] (fun m hm => by rw [List.mem_singleton.mp hm]; exact h l List.mem_cons_self)
      rw [List.map_cons, PyData.canLayAll0] at this
      rw [Bool.and_eq_true] at this
      show (PyData.canLay0 (encL l) && true) = true
      rw [this.1]; rfl
theorem depth_opts : ∀ os : List (Option Lk), PyData.depthAll (os.map encO) ≤ 1
  | [] => by simp [PyData.depthAll]
  | o :: os => by
    have := depth_opts os
    rw [List.map_cons, PyData.depthAll]
    have h1 : (encO o).depth ≤ 1 := by
      cases o with
      | none => simp [encO, PyData.depth]
      | some l => rw [encO, depth_look]; exact Nat.le_refl _
    omega
theorem shaped_opts {os : List (Option Lk)} (h : ∀ l, some l ∈ os → WordOk l.1) : SeqAt.shaped (.list (os.map encO)) = true := by
  unfold SeqAt.shaped
  rw [PyData.canLay0, lay_opts os h, PyData.depth]
  have := depth_opts os
  simp; omega
theorem any_none : ∀ os : List (Option Lk), ((os.map encO).any fun z => PyData.eqv z .none) = os.any Option.isNone
  | [] => rfl
  | o :: os => by
    rw [List.map_cons, List.any_cons, any_none os, List.any_cons]
    cases o <;> rfl
/-- all are looks, or one is none -/
theorem opts_all : ∀ ws : List Str, (∃ hs : List Lk, (∀ l ∈ hs, WordOk l.1 ∧ Small l) ∧ ws = hs.map lookT ∧ ws.map lkO = hs.map some) ∨ ((ws.map lkO).any Option.isNone = true ∧ ∀ hs : List Lk, (∀ l ∈ hs, WordOk l.1 ∧ Small l) → hs.map lookT ≠ ws)
  | [] => .inl ⟨[], (fun _ h => by cases h), rfl, rfl⟩
  | x :: ws => by
    cases e : lkO x with
    | none =>
      refine .inr ⟨by simp [e], fun hs h q => ?_⟩
      cases hs with
      | nil => cases q
      | cons l hs =>
        rw [List.map_cons] at q
        injection q with q _
        have := h l List.mem_cons_self
        rw [← q, lkO_of this.1 this.2] at e
        cases e
    | some l =>
      obtain ⟨a, b, c⟩ := lkO_is e
      rcases opts_all ws with ⟨hs, h1, h2, h3⟩ | ⟨h1, h2⟩
      · refine .inl ⟨l :: hs, fun m hm => ?_, by rw [h2, ← c]; rfl, by rw [List.map_cons, e, h3]; rfl⟩
        rcases List.mem_cons.mp hm with rfl | hm
        · exact ⟨a, b⟩
        · exact h1 m hm
      · refine .inr ⟨by rw [List.map_cons, List.any_cons, h1, Bool.or_true], fun hs h q => ?_⟩
        cases hs with
        | nil => cases q
        | cons m hs =>
          rw [List.map_cons] at q
          injection q with _ q
          exact h2 hs (fun o ho => h o (List.mem_cons_of_mem _ ho)) q
theorem none_some (hs : List Lk) : (hs.map some).any Option.isNone = false := by
  induction hs with
  | nil => rfl
  | cons l hs ih => rw [List.map_cons, List.any_cons, ih]; rfl
theorem encO_some (hs : List Lk) : (hs.map some).map encO = hs.map encL := by rw [List.map_map]; rfl
/-- a text that names a length and looks -/
structure DkOk (L : Int) (hs : List Lk) (x : Str) : Prop where
  pos : 0 < L
  sm : L.natAbs < 10 ^ 60
  ok : ∀ l ∈ hs, WordOk l.1 ∧ Small l
  eq : darkT L hs = x
theorem DkOk.uniq {L M : Int} {hs ms : List Lk} {x : Str} (a : DkOk L hs x) (b : DkOk M ms x) : L = M ∧ hs = ms :=
  darkT_inj (fun l hl => (a.ok l hl).1) (fun l hl => (b.ok l hl).1) (a.eq.trans b.eq.symm)
/-- a Dark's writing -/
structure DkIs (L : Int) (hs : List Lk) (x : Str) : Prop extends DkOk L hs x where
  cn : Canon hs (fun o => o ∈ hs)
  hm : ∀ l ∈ hs, home L l = l
  nc : ∀ a ∈ hs, ∀ b ∈ hs, clashB a b L = false
theorem semi_split (x : Str) : (Txt.split x "; ").map TL.tl = sp 59 (TL.tl x) := by
  rw [TL.split_spl x "; " (by rw [semi_tl]; simp) (TL.kind_ok (by decide +kernel)), semi_tl]
  exact sp_spl 59 _
/-- so few looks are named -/
theorem few_named {L : Int} {hs : List Lk} {x : Str} {N : Nat} (D : DkOk L hs x) (h : Few 59 N (TL.tl x)) : ∃ S : List Lk, S.length ≤ N ∧ ∀ l ∈ hs, l ∈ S := by
  obtain ⟨S, hS, q⟩ := h
  refine ⟨S.filterMap fun p => lkO ⟨p.toArray⟩, Nat.le_trans (List.length_filterMap_le _ _) hS, fun l hl => ?_⟩
  have hs1 := semi_split x
  rw [← D.eq, dark_split fun l hl => (D.ok l hl).1] at hs1
  have hm : TL.tl (lookT l) ∈ sp 59 (TL.tl x) := by
    rw [← D.eq, ← hs1]
    exact List.mem_map.mpr ⟨_, List.mem_cons_of_mem _ (List.mem_map.mpr ⟨l, hl, rfl⟩), rfl⟩
  refine List.mem_filterMap.mpr ⟨_, q _ hm, ?_⟩
  have e : (⟨(TL.tl (lookT l)).toArray⟩ : Str) = lookT l := TL.ext_tl (by rw [TL.tl_mk])
  rw [e]
  exact lkO_of (D.ok l hl).1 (D.ok l hl).2
theorem heard_few {L : Int} {hs S : List Lk} {N : Nat} (hS : S.length ≤ N) (h : ∀ l ∈ hs, l ∈ S) : (hs.foldl (heard L) []).length ≤ N := by
  have c := fold0_canon L hs
  refine Nat.le_trans (SD.nodup_le (S := S.map (home L)) c.nd fun o ho => ?_) (by rw [List.length_map]; exact hS)
  obtain ⟨l, hl, rfl⟩ := (c.mem o).mp ho
  exact List.mem_map.mpr ⟨l, h l hl, rfl⟩
theorem small_sized {l : Lk} (h : Small l) : Sized 300 l := ⟨Nat.lt_trans h.1 (by decide), Nat.lt_trans h.2 (by decide)⟩
theorem home_wide {L : Int} {l : Lk} (hL : 0 < L) (hb : L.natAbs < 10 ^ 60) (h : Small l) : Wide (home L l) := by
  have h1 := Int.mul_ediv_add_emod l.2.1 L
  have h2 := Int.emod_nonneg l.2.1 (show L ≠ 0 by omega)
  have h3 := Int.emod_lt_of_pos l.2.1 hL
  have ha := h.1
  have hc := h.2
  rw [Int.mul_comm] at h1
  constructor
  · show (l.2.1 - l.2.1 / L * L).natAbs < 10 ^ 100
    omega
  · show (l.2.2 - l.2.1 / L * L).natAbs < 10 ^ 100
    omega
theorem far_no {L : Int} {a b : Lk} (h : onSide "slow" a.1 = true → onSide "fast" b.1 = true → plc "slow" a b.2.1 L ≤ b.2.2) : tooFar a b L = false := by
  unfold tooFar
  cases c1 : onSide "slow" a.1 with
  | false => rfl
  | true =>
    cases c2 : onSide "fast" b.1 with
    | false => rfl
    | true =>
      rw [Bool.true_and, Bool.true_and, decide_eq_false_iff_not]
      have := h c1 c2
      omega
theorem clash_comm (a b : Lk) (L : Int) : clashB a b L = clashB b a L := by unfold clashB; rw [Bool.or_comm]
theorem clash_self (l : Lk) (L : Int) : clashB l l L = false := by
  have f : tooFar l l L = false := far_no fun _ _ => by rw [plc_slow, Int.sub_self, Int.zero_ediv, Int.zero_mul]; omega
  unfold clashB; rw [f]; rfl
def spDarkAny (Z : Ad) (K : PySem.W.Frag) : Sp := fun vs H Q _ => ∃ x : Str, vs = [.str x] ∧ x.length ≤ 5000 ∧ Few 59 55 (TL.tl x) ∧
  (∀ L hs, DkOk L hs x → (∀ a ∈ hs, ∀ b ∈ hs, clashB a b L = false) → ∀ (H' : Hp) (d : Addr), H d = none → Same H H' → DarkAt Z K H' d L (hs.foldl (heard L) []) → (∀ la dx, H' d = some (.ins Z.C dx (df L la)) → H la = none) → Q (.ref d) H') ∧
  (∀ L hs, DkOk L hs x → (∃ a ∈ hs, ∃ b ∈ hs, clashB a b L = true) → ∀ H', Same H H' → Q .non H') ∧
  ((∀ L hs, ¬ DkOk L hs x) → ∀ H', Same H H' → Q .non H')
section
variable {P : Program} {w : World} {K : PySem.W.Frag} {mg : Str → Option Value} {base : Heap} {Z : Ad} {Y : AdX}
theorem okX_Dark_hear (T : Tx K w mg Z) (X : Ex P K mg Y) : FnOk P w K mg base (L2.CX P w) 5 Z.a_Dark_hear Z.d_Dark_hear P_Dark_hear (spHearX Z K Y.c_Clash) := ok_Dark_hearX T X
theorem ok_dark_of (T : Tx K w mg Z) (X : Ex P K mg Y) : FnOk P w K mg base CX0 7 Z.a_dark_of Z.d_dark_of P_dark_of (spDarkAny Z K) := by
  refine T.F_dark_of.ok scdark_of (fun vs H Q E h => ?_) (fun cdv A outer s H vs Q E hr h => ?_)
  · obtain ⟨x, rfl, _⟩ := h
    rfl
  · obtain ⟨x, rfl, hx, hfew, k1, kc, k0⟩ := h
    refine ⟨_, (C8.pss_cut (ps_set (i := 1) scdark_of.nd rfl (Or.inl rfl) (pe_m1 PySem.F.slot_str_split PySem.F.type_str_split mt_split (pv 0) pe_str))
      (C8.pss_cut (ps_set (i := 2) scdark_of.nd rfl (Or.inl rfl) (pe_call (ok_length_of T) (hr.mono (by decide)) (by rfl) T.g_length_of T.F_length_of.kp T.bb_length_of .nil pass0 (pa_cons (pe_ix (ixL (K := K)) (pv 1) pe_int (fun _ _ => rfl)) pa_nil)))
      (C8.pss_cut (ps_setLc (i := 3) (own := [("part", 4)]) (g := gName 4) (tt := tYes) rfl scdark_of.nd rfl rfl (sw_true rfl rfl rfl (by decide +kernel)) (pi_list (pe_slice (slL (K := K)) (pv 1) (po_some pe_int) po_none)) (blkOk_by (own := [("part", 4)]) (N := N_dark_of) (sc := defScope sdark_of) (by decide +kernel)) (fun _ _ _ _ _ => (pg_name (i := 4) scdark_of.nd rfl (Or.inl rfl))) (fun _ _ _ _ _ => pts_nil) (fun _ _ _ _ _ => (pe_call (ok_look_of T) (hr.mono (by decide)) (by rfl) T.g_look_of T.F_look_of.kp T.bb_look_of .nil pass0 (pa_cons (pv 4) pa_nil))))
      (C8.pss_cut (ps_if (PW.pt (pw_or (pt_cmpR op_isN (pv 2) pe_non (nomark _)) (pw_or1 (pt_cmpR (inDK (K := K) (rooms hr)) pe_non (pv 3) (by rfl))))) (pss_one (ps_ret pe_non)) pss_nil)
      (pss_cons (ps_set (i := 5) scdark_of.nd rfl (Or.inl rfl) (pe_make T.mk_Dark (ok_Dark_init T) (hr.mono (by decide)) (by rfl) T.g_Dark T.bb_Dark_init .nil pass0 (pa_cons (pv 2) pa_nil)))
      (pss_cons (ps_try_only (tb := fun W => tFor (iList K (tVar 3)) (gTup K 3 (gCons (gName 6) (gCons (gName 7) (gCons (gName 8) gNil)))) (tDrop (KW.tMethX Z.C "hear" (spHearX Z K Y.c_Clash) (WE W) (tVar 5) (tCons (tVar 6) (tCons (tVar 7) (tCons (tVar 8) tNil)))))) (Wout := fun _ _ _ _ => False) rfl rfl ⟨rfl, by decide, Or.inl X.g_Clash⟩ takes0
        (fun W pn xe tk po => (pss_one (ps_for po rfl (pi_list (pv 3)) (tupK (K := K) (by rfl) (pgs_cons (pg_name (i := 6) scdark_of.nd rfl (Or.inl rfl)) (pgs_cons (pg_name (i := 7) scdark_of.nd rfl (Or.inl rfl)) (pgs_cons (pg_name (i := 8) scdark_of.nd rfl (Or.inl rfl)) pgs_nil)))) (pss_one (ps_expr (KW.pe_methX (pv 5) T.cl T.m_Dark_hear (okX_Dark_hear T X) (hr.mono (by decide)) T.bb_Dark_hear (fun σ => passAt tk σ) (pa_cons (pv 6) (pa_cons (pv 7) (pa_cons (pv 8) pa_nil)))))))))
        (fun _ _ _ _ _ _ _ => (pss_one (ps_ret pe_non))))
      (pss_one (ps_ret (pv 5))))))))), ?_⟩
    have big : ∀ {m : Nat}, m ≤ 10000 → m ≤ sizeLine := fun {m} h => Nat.le_trans h (by decide)
    obtain ⟨sl, sw⟩ := split_len (x := x) (y := "; ") (by rw [semi_tl]; simp) (by decide +kernel)
    have sj := join_split (x := x) (y := "; ") (by rw [semi_tl]; simp) (by decide +kernel)
    have sn : ∀ L hs, DkOk L hs x → Txt.split x "; " = numT L :: hs.map lookT := fun L hs D => by rw [← D.eq]; exact dark_split fun l hl => (D.ok l hl).1
    have hne : Txt.split x "; " ≠ [] := fun z => by
      have h1 := semi_split x
      obtain ⟨p, ps, e⟩ := sp_cons 59 (TL.tl x)
      rw [z, e] at h1
      cases h1
    refine ⟨fun σ' H' => ∃ (p : Addr) (w0 : Str) (wr : List Str), σ' = [some (.str x), some (.ref p), none, none, none, none, none, none, none] ∧ Same H H' ∧ H' p = some (.lst ((w0 :: wr).map V.str)) ∧ Txt.split x "; " = w0 :: wr, ?_, ?_⟩
    · refine ⟨_, rfl, ⟨_, rfl⟩, _, _, rfl, rfl, by decide +kernel, big (by omega), fun p hp => ?_⟩
      obtain ⟨w0, wr, e⟩ : ∃ w0 wr, Txt.split x "; " = w0 :: wr := by
        cases e : Txt.split x "; " with
        | nil => exact absurd e hne
        | cons a b => exact ⟨a, b, rfl⟩
      rw [e]
      exact ⟨p, w0, wr, rfl, same_upd hp, upd_same, rfl⟩
    rintro σ1 H1 ⟨p, w0, wr, rfl, S1, gp, es⟩
    rw [es] at sl sw sj sn
    have lw : wr.length ≤ 5001 := by rw [List.length_cons] at sl; omega
    -- length
    refine ⟨fun σ' H' => ∃ u : V, σ' = [some (.str x), some (.ref p), some u, none, none, none, none, none, none] ∧ Same H1 H' ∧ ((∃ L : Int, u = .int L ∧ 0 < L ∧ L.natAbs < 10 ^ 60 ∧ numT L = w0) ∨ (u = .non ∧ ∀ L hs, ¬ DkOk L hs x)), ?_, ?_⟩
    · refine ⟨_, rfl, p, _, _, _, rfl, rfl, SqL.of gp, atI_head, w0, rfl, Nat.le_trans (sw w0 List.mem_cons_self) hx, fun L hL h0 e H' S' => ⟨_, rfl, S', .inl ⟨L, rfl, h0, hL, e⟩⟩, fun hno H' S' => ⟨_, rfl, S', .inr ⟨rfl, fun L hs D => ?_⟩⟩⟩
      have := sn L hs D
      injection this with e _
      exact hno L D.sm D.pos e.symm
    rintro σ2 H2 ⟨u, rfl, S2, hu⟩
    have gp2 := S2 _ _ gp
    -- looks
    refine ⟨fun σ' H' => ∃ q : Addr, σ' = [some (.str x), some (.ref p), some u, some (.ref q), none, none, none, none, none] ∧ Same H2 H' ∧ ∃ vs, H' q = some (.lst vs) ∧ DpAll K H' vs ((wr.map lkO).map encO), ?_, ?_⟩
    · refine ⟨_, rfl, _, rfl, p, _, rfl, SqL.of gp2, fun r hr => ?_⟩
      have er : cutV ((w0 :: wr).map V.str) (some 1) none = wr.map V.str := cut_tail
      rw [er]
      have Sr := same_upd (o := HO.lst (wr.map V.str)) hr
      have gr : (upd H2 r (.lst (wr.map V.str))) r = some (.lst (wr.map V.str)) := upd_same
      generalize upd H2 r (.lst (wr.map V.str)) = H2' at Sr gr ⊢
      refine ⟨r, rfl, ⟨_, SqL.of gr⟩, fun D hD => ?_⟩
      refine lc_list (K := K) (a := r) (xs := wr.map V.str) (fun i H3 => Same H2' H3 ∧ ∃ vs, H3 D = some (.lst vs) ∧ DpAll K H3 vs (((wr.take i).map lkO).map encO)) ⟨same_upd hD, [], upd_same, .nil⟩ (fun i H3 _ ⟨S3, _⟩ => SqL.of (S3 _ _ gr)) ?_ ?_
      · rintro i y H3 hi ⟨S3, vs, hd, hds⟩
        obtain ⟨y1, hy1, rfl⟩ := map_at hi
        have hi' : i < wr.length := (List.getElem?_eq_some_iff.mp hy1).1
        have hvl : vs.length ≤ i := by rw [dpAll_len hds, List.length_map, List.length_map, List.length_take]; omega
        have hlt : vs.length < sizeLine := Nat.lt_of_le_of_lt (by omega : vs.length ≤ 6000) (by decide)
        have fin : ∀ (v : V) (H4 : Hp), Same H3 H4 → Dp K H4 v (encO (lkO y1)) → ∃ vs, H4 D = some (.lst vs) ∧ vs.length < sizeLine ∧ (Same H2' (upd H4 D (.lst (vs ++ [v]))) ∧ ∃ us, (upd H4 D (.lst (vs ++ [v]))) D = some (.lst us) ∧ DpAll K (upd H4 D (.lst (vs ++ [v]))) us (((wr.take (i + 1)).map lkO).map encO)) := fun v H4 S4 dv => by
          have hds4 := dpAll_mono S4 _ _ hds
          refine ⟨vs, S4 _ _ hd, hlt, same_set (S3.trans S4) hD, _, upd_same, ?_⟩
          rw [take_snoc hy1, List.map_append, List.map_append]
          exact acc_step (S4 _ _ hd) (noLs_map noL_encO _) (noL_encO _) hds4 dv
        refine ⟨rfl, yes_ite ?_⟩
        refine ⟨_, rfl, y1, rfl, Nat.le_trans (sw y1 (List.mem_cons_of_mem _ (List.mem_of_getElem? hy1))) hx, fun l hl1 hl2 e H4 q4 S4 hq4 g4 => fin _ H4 S4 ?_, fun hno H4 S4 => fin _ H4 S4 ?_⟩
        · rw [← e, lkO_of hl1 hl2]
          exact dp_lk g4
        · rw [lkO_no hno]
          exact .non
      rintro H3 ⟨S3, vs, hd, hds⟩
      rw [List.take_of_length_le (by rw [List.length_map]; exact Nat.le_refl _)] at hds
      exact ⟨D, rfl, Sr.trans S3, vs, hd, hds⟩
    rintro σ3 H3 ⟨q, rfl, S3, vs, gq, gd⟩
    have hwo : ∀ l, some l ∈ wr.map lkO → WordOk l.1 := fun l hl => by
      obtain ⟨y, _, e⟩ := List.mem_map.mp hl
      exact (lkO_is e).1
    have S03 := (S1.trans S2).trans S3
    refine ⟨fun σ' H' => σ' = [some (.str x), some (.ref p), some u, some (.ref q), none, none, none, none, none] ∧ H' = H3 ∧ ∃ L hs, u = .int L ∧ DkOk L hs x ∧ wr.map lkO = hs.map some, ?_, ?_⟩
    · rcases hu with ⟨L, rfl, h0, hL, e0⟩ | ⟨rfl, hno⟩
      · refine ⟨_, rfl, rfl, _, rfl, iteF ⟨_, rfl, .none, (wr.map lkO).map encO, .non, .lst (SqL.of gq) gd, rfl, shaped_opts hwo, _, rfl, ?_⟩⟩
        rw [any_none]
        rcases opts_all wr with ⟨hs, a, b, c⟩ | ⟨a, b⟩
        · rw [c, none_some]
          refine iteF ⟨rfl, rfl, L, hs, rfl, ⟨h0, hL, a, ?_⟩, rfl⟩
          unfold darkT
          rw [e0, ← b]; exact sj
        · rw [a]
          refine iteT (k0 (fun M ms D => ?_) _ S03)
          have := sn M ms D
          injection this with _ e
          exact b ms D.ok e.symm
      · exact ⟨_, rfl, rfl, _, rfl, iteT (k0 hno _ S03)⟩
    rintro σ4 H4 ⟨rfl, rfl, L, hs, rfl, D0, eo⟩
    rw [eo, encO_some] at gd
    have hxl : vs.length = hs.length := by rw [dpAll_len gd, List.length_map]
    have hl2 : L.natAbs < 2 ^ 200 := Nat.lt_trans D0.sm (by decide)
    obtain ⟨FS, hFS, hFm⟩ := few_named D0 hfew
    refine ⟨_, rfl, fun d dx hdn hdx hned => ?_⟩
    have Sn : Same H4 (upd (upd H4 dx (.own d)) d (.ins Z.C dx [])) := fun b o e => by
      rw [upd_ne (ne_of_none e hdn), upd_ne (ne_of_none e hdx)]; exact e
    refine ⟨d, dx, L, rfl, upd_same, D0.pos, hl2, fun H5 D5 f5 k5 => ⟨rfl, ?_⟩⟩
    have S5 : Same H4 H5 := fun b o e => k5 b o (Sn b o e) (ne_of_none e hdn)
    refine ⟨_, rfl, q, rfl, ⟨_, SqL.of (S5 _ _ gq)⟩, ?_⟩
    refine for_list (K := K) (a := q) (xs := vs) (fun i σ' H' => ∃ u6 u7 u8, σ' = [some (.str x), some (.ref p), some (.int L), some (.ref q), none, some (.ref d), u6, u7, u8] ∧ Same H4 H' ∧ DarkAt Z K H' d L ((hs.take i).foldl (heard L) []) ∧ (∀ a ∈ hs.take i, ∀ b ∈ hs.take i, clashB a b L = false) ∧ ∀ la dx, H' d = some (.ins Z.C dx (df L la)) → H4 la = none) ⟨none, none, none, rfl, S5, D5, (fun a ha => by simp at ha), fun la dx e => Sn.free (f5 la dx e)⟩ (fun i σ' H' _ ⟨_, _, _, _, S, _⟩ => SqL.of (S _ _ gq)) ?_ ?_
    · rintro i y σ' H' hi ⟨u6, u7, u8, rfl, S, D, N, F⟩
      obtain ⟨e, hdi, hdy⟩ := dpAll_get gd hi
      obtain ⟨l, hl, rfl⟩ := map_at hdi
      have hlm := List.mem_of_getElem? hl
      obtain ⟨p1, rfl, hp1⟩ := dp_look (dp_mono S _ _ hdy)
      obtain ⟨dx', la, ws, g1, g2, g3⟩ := id D.ex
      have hfl : ((hs.take i).foldl (heard L) []).length ≤ 55 := heard_few hFS fun l hl => hFm l (List.mem_of_mem_take hl)
      refine ⟨_, _, rfl, hp1, rfl, _, _, rfl, _, _, rfl, _, _, rfl, rfl, ?_⟩
      refine ⟨_, rfl, d, dx', _, rfl, g1, df_no _ _ (by decide +kernel) (by decide +kernel), _, rfl, _, rfl, _, rfl, ?_⟩
      refine ⟨d, L, _, l, rfl, D, (D0.ok l hlm).1, small_sized (D0.ok l hlm).2, by omega, fun hno H2 D2 f2 k2 => ?_, fun o ho dd v H2 S2 hdd hv hn => ?_⟩
      · refine ⟨_, _, _, rfl, fun b o e => k2 b o (S b o e) (ne_of_none e hdn), ?_⟩
        rw [take_snoc hl, List.foldl_append]
        refine ⟨D2, fun a ha b hb => ?_, fun la dx e => ?_⟩
        rotate_left
        · rcases f2 la dx e with ⟨dx', h⟩ | h
          · exact F la dx' h
          · exact S.free h
        have mem : ∀ a, a ∈ hs.take i → clashB l a L = false := fun a ha => by
          have := hno (home L a) ((fold_mem _ _ _).mpr (.inr ⟨a, ha, rfl⟩))
          rw [clash_home D0.pos] at this
          exact this
        have self : clashB l l L = false := clash_self l L
        rcases List.mem_append.mp ha with h | h <;> rcases List.mem_append.mp hb with h' | h'
        · exact N a h b h'
        · rw [List.mem_singleton.mp h', clash_comm]; exact mem a h
        · rw [List.mem_singleton.mp h]; exact mem b h'
        · rw [List.mem_singleton.mp h, List.mem_singleton.mp h']; exact self
      · refine ⟨true, X.m_Clash, fun _ a ha => ?_, fun q => Bool.noConfusion q⟩
        have hm := List.mem_of_find?_eq_some ho
        have hc := List.find?_some ho
        obtain h | ⟨z, hz, e⟩ := (fold_mem _ _ _).mp hm
        · cases h
        · rw [e, clash_home D0.pos] at hc
          exact kc L hs D0 ⟨l, hlm, z, List.mem_of_mem_take hz, hc⟩ _ (S03.trans (S.trans S2))
    · rintro σ' H' ⟨u6, u7, u8, rfl, S, D, N, F⟩
      rw [List.take_of_length_le (by rw [hxl]; exact Nat.le_refl _)] at D N
      exact ⟨_, rfl, k1 L hs D0 N H' d (S03.free hdn) (S03.trans S) D fun la dx e => S03.free (F la dx e)⟩
end
end KA
namespace KA
open PySem PySem.Spec PyProof.Rows L2 DP
def spReadDark (Z : Ad) (K : PySem.W.Frag) (CL : Addr) : Sp := fun vs H Q E => ∃ x : Str, vs = [.str x] ∧ x.length ≤ 5000 ∧ Few 59 55 (TL.tl x) ∧
  (∀ L hs, DkIs L hs x → ∀ (H' : Hp) (d : Addr), H d = none → Same H H' → DarkAt Z K H' d L hs → (∀ la dx, H' d = some (.ins Z.C dx (df L la)) → H la = none) → Q (.ref d) H') ∧
  ((∀ L hs, ¬ DkIs L hs x) → ∀ (dd : Addr) (H' : Hp), Same H H' → H' dd = some (.xd [(("what" : Str), .str x)]) → H dd = none → E (.ref CL) (some dd) H')
section
variable {P : Program} {w : World} {K : PySem.W.Frag} {mg : Str → Option Value} {base : Heap} {Z : Ad} {Y : AdX}
theorem ok_read_darkX (T : Tx K w mg Z) (X : Ex P K mg Y) : FnOk P w K mg base (L2.CX P w) 8 Z.a_read_dark Z.d_read_dark P_read_dark (spReadDark Z K Y.c_NoText) := by
  refine T.F_read_dark.okX scread_dark (fun vs H Q E h => ?_) (fun cdv A outer s H vs Q E hr h => ?_)
  · obtain ⟨x, rfl, _⟩ := h
    rfl
  · obtain ⟨x, rfl, hx, hfew, k1, k0⟩ := h
    refine ⟨_, (pss_cons (ps_set (i := 1) scread_dark.nd rfl (Or.inl rfl) (pe_call (ok_dark_of T X) (hr.mono (by decide)) (by rfl) T.g_dark_of T.F_dark_of.kp T.bb_dark_of .nil pass0 (pa_cons (pv 0) pa_nil)))
      (C8.pss_cut (ps_if (PW.pt (pw_or (pt_cmpR op_isN (pv 1) pe_non (nomark _)) (pw_or1 (pt_cmpR op_ne (pe_call (ok_show_dark T) (hr.mono (by decide)) (by rfl) T.g_show_dark T.F_show_dark.kp T.bb_show_dark .nil pass0 (pa_cons (pv 1) pa_nil)) (pv 0) (nomark _))))) (pss_one (ps_raise rfl (takes_of rfl rfl rfl rfl) (pmk_err X.NoText X.g_NoText T.b_super hr (pa_cons (pv 0) pa_nil)))) pss_nil)
      (pss_one (ps_ret (pv 1))))), ?_⟩
    have refuse : (∀ L hs, ¬ DkIs L hs x) → ∀ H1, Same H H1 → ∀ dd, H1 dd = none → E (.ref Y.c_NoText) (some dd) (upd H1 dd (.xd [(("what" : Str), .str x)])) := fun hno H1 S1 dd hdd => k0 hno dd _ (S1.trans (same_upd hdd)) upd_same (S1.free hdd)
    refine ⟨_, rfl, x, rfl, hx, hfew, fun L hs D N H1 d hd S1 D1 F1 => ?_, fun L hs D hcl H1 S1 => ?_, fun hno H1 S1 => ?_⟩
    · have hw : ∀ l ∈ hs.foldl (heard L) [], Wide l := fun o ho => by
        obtain ⟨l, hl, rfl⟩ := ((fold0_canon L hs).mem o).mp ho
        exact home_wide D.pos D.sm (D.ok l hl).2
      have hwk : ∀ l ∈ hs.foldl (heard L) [], WordOk l.1 := fun o ho => by
        obtain ⟨l, hl, rfl⟩ := ((fold0_canon L hs).mem o).mp ho
        exact (D.ok l hl).1
      by_cases e : darkT L (hs.foldl (heard L) []) = x
      · have eh : hs.foldl (heard L) [] = hs := (darkT_inj hwk (fun l hl => (D.ok l hl).1) (e.trans D.eq.symm)).2
        have c := fold0_canon L hs
        rw [eh] at c D1 hw
        have hm : ∀ l ∈ hs, home L l = l := fun l hl => by
          obtain ⟨m, hm, e2⟩ := (c.mem l).mp hl
          rw [e2]; exact home_home D.pos m
        have I : DkIs L hs x := ⟨D, ⟨c.nd, c.srt, fun _ => Iff.rfl⟩, hm, N⟩
        refine ⟨fun σ' H' => σ' = [some (.str x), some (.ref d)] ∧ Same H1 H', ?_, ?_⟩
        · refine ⟨_, rfl, rfl, _, rfl, iteF ⟨_, rfl, d, L, hs, rfl, D1, D.sm, hw, fun H2 S2 => ?_⟩⟩
          rw [D.eq]
          exact ⟨_, rfl, rfl, _, rfl, ite2 (fun c => absurd c (by simp)) (fun _ => ⟨rfl, S2⟩)⟩
        rintro σ2 H2 ⟨rfl, S2⟩
        refine ⟨_, rfl, k1 L hs I _ d hd (S1.trans S2) (D1.same S2) fun la dx e => ?_⟩
        obtain ⟨dx', la', vs, g1, g2, g3⟩ := id D1.ex
        have h2 := S2 _ _ g1
        rw [e] at h2
        rw [df_inj h2]
        exact F1 _ _ g1
      · refine ⟨fun _ _ => False, ?_, fun _ _ z => z.elim⟩
        refine ⟨_, rfl, rfl, _, rfl, iteF ⟨_, rfl, d, L, _, rfl, D1, D.sm, hw, fun H2 S2 => ?_⟩⟩
        refine ⟨_, rfl, rfl, _, rfl, ite2 (fun _ => ?_) (fun c => absurd ?_ e)⟩
        · refine ⟨_, rfl, _, rfl, fun dd hdd => refuse (fun M ms I => e ?_) _ (S1.trans S2) dd hdd⟩
          obtain ⟨rfl, rfl⟩ := I.toDkOk.uniq D
          rw [canon_fold I.cn I.hm]; exact D.eq
        · exact Classical.byContradiction fun h => c (by rw [decide_eq_false fun q => h (V.str.inj q)]; rfl)
    · refine ⟨fun _ _ => False, ?_, fun _ _ z => z.elim⟩
      refine ⟨_, rfl, rfl, _, rfl, iteT ?_⟩
      refine ⟨_, rfl, _, rfl, fun dd hdd => refuse (fun M ms I => ?_) _ S1 dd hdd⟩
      obtain ⟨rfl, rfl⟩ := I.toDkOk.uniq D
      obtain ⟨a, ha, b, hb, hc⟩ := hcl
      rw [I.nc a ha b hb] at hc
      cases hc
    · refine ⟨fun _ _ => False, ?_, fun _ _ z => z.elim⟩
      refine ⟨_, rfl, rfl, _, rfl, iteT ?_⟩
      exact ⟨_, rfl, _, rfl, fun dd hdd => refuse (fun M ms I => hno M ms I.toDkOk) _ S1 dd hdd⟩
end
end KA
namespace KA
open PySem PySem.Spec PyProof.Rows L2 DP
/-! ### a hand that is told -/
def heardAll (L : Int) (ls : List Lk) : List Lk := ls.foldl (heard L) []
theorem heardAll_mem {L : Int} {ls : List Lk} (o : Lk) : o ∈ heardAll L ls ↔ ∃ l ∈ ls, o = home L l := by
  unfold heardAll
  exact (fold_mem ls [] o).trans (by simp)
theorem same_made {H : Hp} {d dx : Addr} {o : HO} (hdn : H d = none) (hdx : H dx = none) : Same H (upd (upd H dx (.own d)) d o) := fun b o e => by
  rw [upd_ne (ne_of_none e hdn), upd_ne (ne_of_none e hdx)]; exact e
/-- all stands but one object -/
def Out (d : Addr) (H H' : Hp) : Prop := ∀ c o, H c = some o → c ≠ d → H' c = some o
theorem Out.tups {d C dx : Addr} {fs : List (Str × V)} {H H' : Hp} (k : Out d H H') (h : H d = some (.ins C dx fs)) : Tups H H' := fun c zs hc => by
  have hcb : c ≠ d := by
    rintro rfl
    rcases hc with e | ⟨q, e⟩ <;> rw [h] at e <;> cases e
  rcases hc with e | ⟨q, e⟩
  · exact .inl (k _ _ e hcb)
  · exact .inr ⟨q, k _ _ e hcb⟩
theorem Out.dark {Z : Ad} {K : PySem.W.Frag} {H H' : Hp} {d e C dx : Addr} {fs : List (Str × V)} {L : Int} {ls : List Lk} (k : Out d H H') (D : DarkAt Z K H e L ls) (h : H d = some (.ins C dx fs)) (hne : e ≠ d) : DarkAt Z K H' e L ls := by
  obtain ⟨dx2, la, vs, h1, h2, h3⟩ := D.ex
  exact ⟨⟨dx2, la, vs, k _ _ h1 hne, k _ _ h2 (fun q => by rw [q, h] at h2; cases h2), dpAll_tups (k.tups h) _ _ (noLs_map noL_encL ls) h3⟩, D.pos, D.big, D.ok, D.len⟩
theorem Out.sqL {K : PySem.W.Frag} {H H' : Hp} {d C dx p : Addr} {fs : List (Str × V)} {xs : List V} (k : Out d H H') (h : H d = some (.ins C dx fs)) (q : SqL K H p xs) : SqL K H' p xs := by
  rcases q with q | q
  · have hp : p ≠ d := by
      rintro rfl
      rcases q with e | ⟨z, e⟩ <;> rw [h] at e <;> cases e
    rcases q with e | ⟨z, e⟩
    · exact .inl (.inl (k _ _ e hp))
    · exact .inl (.inr ⟨z, k _ _ e hp⟩)
  · exact .inr q
def SzP (n : Nat) (s : Pr) : Prop := s.1.natAbs < 2 ^ n ∧ s.2.natAbs < 2 ^ n
/-- the steps as looks; led back -/
def fr1 (s : Pr) : Lk := ("from", s.1, s.2)
def up1 (s : Pr) : Lk := ("upto", s.2, s.1)
def frs (ss : List Pr) : List Lk := ss.map fr1
def ups (ss : List Pr) : List Lk := ss.map up1
theorem clash_from {L : Int} {a b : Lk} (ha : a.1 = "from") (hb : b.1 = "from") : clashB a b L = false := by
  have h : onSide "fast" "from" = false := by decide +kernel
  unfold clashB tooFar
  rw [ha, hb, h]; simp
theorem bk_len (ls : List Lk) : (bk ls).length ≤ 2 * ls.length := by
  induction ls with
  | nil => simp [bk]
  | cons l ls ih =>
    have e : bk (l :: ls) = bk1 l ++ bk ls := by simp [bk]
    have h1 : (bk1 l).length ≤ 2 := by
      unfold bk1 bkA bkB
      split <;> split <;> simp
    rw [e, List.length_append, List.length_cons]
    omega
theorem home_sz {n : Nat} {L : Int} {l : Lk} (h : 0 < L) (hb : L.natAbs < 2 ^ 200) (hn : 200 ≤ n) (hl : Sized n l) : Sized (n + 2) (home L l) := by
  have h0 := emod_small (x := l.2.1) h hb
  refine ⟨lt_up h0 (by omega), ?_⟩
  show (l.2.2 - l.2.1 / L * L).natAbs < 2 ^ (n + 2)
  have e : l.2.2 - l.2.1 / L * L = l.2.2 + ((l.2.1 - l.2.1 / L * L) - l.2.1) := by omega
  rw [e]
  have h1 : ((l.2.1 - l.2.1 / L * L) - l.2.1).natAbs < 2 ^ (n + 1) := sub_lt (lt_up h0 hn) hl.1
  exact add_lt (lt_up hl.2 (by omega)) h1
theorem frs_few {L : Int} {ss tt FS : List Pr} (hF : FS.length ≤ 55) (h : ∀ s ∈ ss, s ∈ FS) (ht : ∀ s ∈ tt, s ∈ ss) : ((frs tt).foldl (heard L) []).length ≤ 55 := by
  have c := fold0_canon L (frs tt)
  refine Nat.le_trans (SD.nodup_le (S := FS.map fun s => home L (fr1 s)) c.nd fun o ho => ?_) (by rw [List.length_map]; exact hF)
  obtain ⟨l, hl, rfl⟩ := (c.mem o).mp ho
  obtain ⟨s, hs, rfl⟩ := List.mem_map.mp hl
  exact List.mem_map.mpr ⟨s, h s (ht s hs), rfl⟩
theorem bk_from : ∀ (ls : List Lk), (∀ l ∈ ls, l.1 = "from") → (bk ls).length = ls.length
  | [], _ => rfl
  | l :: ls, h => by
    have e : bk (l :: ls) = bk1 l ++ bk ls := by simp [bk]
    have h0 := h l List.mem_cons_self
    have n1 : ¬ (("from" : Str) = "upto") := by decide +kernel
    have h1 : (bk1 l).length = 1 := by
      unfold bk1 bkA bkB
      rw [h0, if_neg n1, if_pos rfl]; rfl
    rw [e, List.length_append, h1, bk_from ls fun o ho => h o (List.mem_cons_of_mem _ ho), List.length_cons]
    omega
/-- a hand's fields -/
def hf (d b : Addr) : List (Str × V) := [("_dark", .ref d), ("_back", .ref b)]
theorem hf_dark (d b : Addr) : (hf d b).lookup ("_dark" : Str) = some (.ref d) := by simp [hf, List.lookup]
theorem hf_back (d b : Addr) : (hf d b).lookup ("_back" : Str) = some (.ref b) := by
  have h : (("_back" : Str) == ("_dark" : Str)) = false := by decide +kernel
  simp [hf, List.lookup, h]
theorem hf_no (d b : Addr) {m : Str} (h1 : (m == ("_dark" : Str)) = false) (h2 : (m == ("_back" : Str)) = false) : (hf d b).lookup m = none := by simp [hf, List.lookup, h1, h2]
theorem hf_put1 (d : Addr) : putF "_dark" (.ref d) [] = [(("_dark" : Str), V.ref d)] := rfl
theorem hf_put2 (d b : Addr) : putF "_back" (.ref b) [(("_dark" : Str), V.ref d)] = hf d b := by
  show (if ("_dark" : Str) = "_back" then _ else _) = _
  rw [if_neg (by decide +kernel)]; rfl
theorem hf1_dark (d : Addr) : [(("_dark" : Str), V.ref d)].lookup ("_dark" : Str) = some (.ref d) := by simp [List.lookup]
structure HandAt (Z : Ad) (K : PySem.W.Frag) (H : Hp) (h d b : Addr) (L : Int) (ss : List Pr) : Prop where
  ex : ∃ dx, H h = some (.ins Z.C_Hand dx (hf d b))
  dark : DarkAt Z K H d L (heardAll L (frs ss))
  back : DarkAt Z K H b L (heardAll L (bk (heardAll L (frs ss))))
theorem HandAt.same {Z : Ad} {K : PySem.W.Frag} {H H' : Hp} {h d b : Addr} {L : Int} {ss : List Pr} (A : HandAt Z K H h d b L ss) (S : Same H H') : HandAt Z K H' h d b L ss := by
  obtain ⟨dx, e⟩ := A.ex
  exact ⟨⟨dx, S _ _ e⟩, A.dark.same S, A.back.same S⟩
def spHand (Z : Ad) (K : PySem.W.Frag) : Sp := fun vs H Q _ => ∃ (h dx : Addr) (v : V) (L : Int) (ss : List Pr), vs = [.ref h, .int L, v] ∧ H h = some (.ins Z.C_Hand dx []) ∧ Dp K H v (.list (ss.map encP)) ∧ 0 < ss.length ∧ (∃ FS : List Pr, FS.length ≤ 55 ∧ ∀ s ∈ ss, s ∈ FS) ∧ 0 < L ∧ L.natAbs < 2 ^ 200 ∧ (∀ s ∈ ss, SzP 280 s) ∧
  ∀ H' d b, HandAt Z K H' h d b L ss → (∀ la dx, H' d = some (.ins Z.C dx (df L la)) → H la = none) → (∀ la dx, H' b = some (.ins Z.C dx (df L la)) → H la = none) → Out h H H' → Q .non H'
section
variable {P : Program} {w : World} {K : PySem.W.Frag} {mg : Str → Option Value} {base : Heap} {Z : Ad}
theorem ok_Hand_init (T : Tx K w mg Z) : FnOk P w K mg base CX0 7 Z.a_Hand_init Z.d_Hand_init P_Hand_init (spHand Z K) := by
  refine T.F_Hand_init.ok scHand_init (fun vs H Q E h => ?_) (fun cdv A outer s H vs Q E hr h => ?_)
  · obtain ⟨h, dx, v, L, ss, rfl, _⟩ := h
    rfl
  · obtain ⟨h, dx, v, L, ss, rfl, hh, hv, h0, ⟨FS, hFS, hFm⟩, hL, hLb, hsz, k⟩ := h
    obtain ⟨a, xs, rfl, ha, hd⟩ := dp_list hv
    have hxl : xs.length = ss.length := by rw [dpAll_len hd, List.length_map]
    refine ⟨_, (pss_cons (ps_fld (pv 0) (pe_make T.mk_Dark (ok_Dark_init T) (hr.mono (by decide)) (by rfl) T.g_Dark T.bb_Dark_init .nil pass0 (pa_cons (pv 1) pa_nil)) rfl)
      (C8.pss_cut (ps_if (pt_not (pt_truth (pv 2) (by intro _; rfl))) (pss_one ps_never) pss_nil)
      (pss_cons (ps_for PassesOwn.never rfl (pi_list (pv 2)) (tupK (K := K) (by rfl) (pgs_cons (pg_name (i := 3) scHand_init.nd rfl (Or.inl rfl)) (pgs_cons (pg_name (i := 4) scHand_init.nd rfl (Or.inl rfl)) pgs_nil))) (pss_one (ps_expr (pe_meth (fldK (K := K) (pv 0) rfl) T.cl T.m_Dark_hear (ok_Dark_hear T) (hr.mono (by decide)) T.bb_Dark_hear .nil pass0 (pa_cons pe_str (pa_cons (pv 3) (pa_cons (pv 4) pa_nil)))))))
      (pss_one (ps_fld (pv 0) (pe_meth0 (fldK (K := K) (pv 0) rfl) T.cl T.m_Dark_led_back (ok_Dark_led_back T) (hr.mono (by decide)) T.bb_Dark_led_back .nil pass0) rfl))))), ?_⟩
    refine ⟨_, rfl, fun d dxd hdn hdx hne => ?_⟩
    have S0 : Same H (upd (upd H dxd (.own d)) d (.ins Z.C dxd [])) := same_made hdn hdx
    refine ⟨d, dxd, L, rfl, upd_same, hL, hLb, fun H1 D1 f1 k1 => ⟨rfl, ?_⟩⟩
    have S1 : Same H H1 := fun b o e => k1 b o (S0 b o e) (ne_of_none e hdn)
    have hdh : d ≠ h := Ne.symm (ne_of_none hh hdn)
    have gh1 := S1 _ _ hh
    refine ⟨_, rfl, h, Z.C_Hand, dx, [], rfl, gh1, T.cl_Hand, T.nHand__dark, (by show 0 < 1000; decide), ?_⟩
    rw [hf_put1]
    have O2 : Out h H1 (upd H1 h (.ins Z.C_Hand dx [(("_dark" : Str), V.ref d)])) := fun b o e n => (upd_ne n).trans e
    have gh2 : (upd H1 h (.ins Z.C_Hand dx [(("_dark" : Str), V.ref d)])) h = some (.ins Z.C_Hand dx [(("_dark" : Str), V.ref d)]) := upd_same
    have D2 := O2.dark D1 gh1 hdh
    have F2 : ∀ la dx', (upd H1 h (.ins Z.C_Hand dx [(("_dark" : Str), V.ref d)])) d = some (.ins Z.C dx' (df L la)) → H la = none := fun la dx' e => by
      rw [upd_ne hdh] at e
      exact S0.free (f1 la dx' e)
    generalize upd H1 h (.ins Z.C_Hand dx [(("_dark" : Str), V.ref d)]) = H2 at O2 gh2 D2 F2 ⊢
    have O : Out h H H2 := fun b o e n => O2 b o (S1 b o e) n
    have ha2 := O.sqL hh ha
    refine ⟨fun σ' H' => σ' = [some (.ref h), some (.int L), some (.ref a), none, none] ∧ H' = H2, ?_, ?_⟩
    · refine ⟨_, rfl, _, .inl ⟨xs, ha2, rfl⟩, ?_⟩
      cases xs with
      | nil => simp at hxl; omega
      | cons y ys => exact iteF ⟨rfl, rfl⟩
    · rintro σ1 H3 ⟨rfl, rfl⟩
      refine ⟨_, rfl, a, rfl, ⟨_, ha2⟩, ?_⟩
      refine for_list (K := K) (a := a) (xs := xs) (fun i σ' H' => ∃ u3 u4, σ' = [some (.ref h), some (.int L), some (.ref a), u3, u4] ∧ (∀ b o, H3 b = some o → b ≠ d → H' b = some o) ∧ DarkAt Z K H' d L ((frs (ss.take i)).foldl (heard L) []) ∧ ∀ la dx', H' d = some (.ins Z.C dx' (df L la)) → H la = none)
        ⟨_, _, rfl, fun _ _ e _ => e, D2, F2⟩ (fun i σ' H' _ ⟨_, _, _, kd, _⟩ => ?_) ?_ ?_
      · obtain ⟨dx', la', vs', q1, _⟩ := D2.ex
        exact Out.sqL (d := d) kd q1 ha2
      · rintro i y σ' H' hi ⟨u3, u4, rfl, kd, D, F⟩
        obtain ⟨e, hdi, hdy⟩ := dpAll_get hd hi
        obtain ⟨s, hs, rfl⟩ := map_at hdi
        have hss := hsz s (List.mem_of_getElem? hs)
        have hi28 : i < ss.length := (List.getElem?_eq_some_iff.mp hs).1
        obtain ⟨dx2, la2, vs2, q1, q2, q3⟩ := id D2.ex
        have tt : Tups H H' := (O.tups hh).trans (Out.tups (d := d) kd q1)
        obtain ⟨p, rfl, hp⟩ := dp_pair (dp_tups tt _ _ (noL_encP s) hdy)
        refine ⟨_, _, rfl, hp, rfl, _, _, rfl, _, _, rfl, rfl, ?_⟩
        have gh' := kd _ _ gh2 (Ne.symm hdh)
        obtain ⟨dx3, la3, vs3, r1, r2, r3⟩ := id D.ex
        refine ⟨_, rfl, h, Z.C_Hand, dx, _, _, rfl, gh', T.cl_Hand, T.nHand__dark, hf1_dark d, d, dx3, _, rfl, r1, df_no _ _ (by decide +kernel) (by decide +kernel), _, rfl, _, rfl, d, L, (frs (ss.take i)).foldl (heard L) [], fr1 s, rfl, D, .inr (.inl rfl), ⟨lt_up hss.1 (by decide), lt_up hss.2 (by decide)⟩, ?_, fun o ho => ?_, fun H4 D4 f4 k4 => ?_⟩
        · exact Nat.lt_of_le_of_lt (frs_few hFS hFm fun s hs => List.mem_of_mem_take hs) (by decide)
        · rcases (fold_mem _ _ _).mp ho with h | ⟨q, hq, rfl⟩
          · cases h
          · obtain ⟨s', _, rfl⟩ := List.mem_map.mp hq
            exact clash_from rfl rfl
        · refine ⟨_, _, rfl, fun b o e n => k4 b o (kd b o e n) n, ?_, fun la dx' e => ?_⟩
          · have e : frs (ss.take (i + 1)) = frs (ss.take i) ++ [fr1 s] := by
              unfold frs; rw [take_snoc hs, List.map_append]; rfl
            rw [e, List.foldl_append]; exact D4
          · rcases f4 la dx' e with ⟨dx'', e'⟩ | e'
            · exact F la dx'' e'
            · cases hc : H la with
              | none => rfl
              | some o =>
                have hlh : la ≠ d := fun q => by rw [q, hdn] at hc; cases hc
                by_cases hh2 : la = h
                · rw [hh2, gh'] at e'; cases e'
                · rw [kd _ _ (O _ _ hc hh2) hlh] at e'; cases e'
      · rintro σ' H' ⟨u3, u4, rfl, kd, D, F⟩
        rw [List.take_of_length_le (by rw [hxl]; exact Nat.le_refl _)] at D
        replace D : DarkAt Z K H' d L (heardAll L (frs ss)) := D
        have gh' := kd _ _ gh2 (Ne.symm hdh)
        obtain ⟨dx3, la3, vs3, r1, r2, r3⟩ := id D.ex
        have hfl : (heardAll L (frs ss)).length ≤ 55 := frs_few hFS hFm fun s hs => hs
        have hfr : ∀ l ∈ heardAll L (frs ss), l.1 = "from" := fun l hl => by
          obtain ⟨q, hq, rfl⟩ := (heardAll_mem _).mp hl
          obtain ⟨s, hs, rfl⟩ := List.mem_map.mp hq
          rfl
        have hsz2 : ∀ l ∈ heardAll L (frs ss), Sized 290 l := fun l hl => by
          obtain ⟨q, hq, rfl⟩ := (heardAll_mem _).mp hl
          obtain ⟨s, hs, rfl⟩ := List.mem_map.mp hq
          have hs2 := hsz s hs
          exact (home_sz (n := 280) hL hLb (by decide) (⟨hs2.1, hs2.2⟩ : Sized 280 (fr1 s))).up (by decide)
        have hnc : ∀ x ∈ heardAll L (frs ss), ∀ y ∈ heardAll L (frs ss), clashB x y L = false := fun x hx y hy => by
          obtain ⟨q, hq, rfl⟩ := (heardAll_mem _).mp hx
          obtain ⟨q2, hq2, rfl⟩ := (heardAll_mem _).mp hy
          obtain ⟨s, _, rfl⟩ := List.mem_map.mp hq
          obtain ⟨s2, _, rfl⟩ := List.mem_map.mp hq2
          exact clash_from rfl rfl
        refine ⟨_, rfl, h, Z.C_Hand, dx, _, _, rfl, gh', T.cl_Hand, T.nHand__dark, hf1_dark d, d, dx3, _, rfl, r1, df_no _ _ (by decide +kernel) (by decide +kernel), d, L, heardAll L (frs ss), rfl, D, hsz2, hnc, Nat.le_trans (Nat.le_of_eq (bk_from _ hfr)) (by omega), fun H4 b hb S4 B4 f4 => ?_⟩
        have gh4 := S4 _ _ gh'
        have hbh : b ≠ h := Ne.symm (ne_of_none gh' hb)
        refine ⟨_, rfl, h, Z.C_Hand, dx, _, rfl, gh4, T.cl_Hand, T.nHand__back, (by show 1 < 1000; decide), ?_⟩
        rw [hf_put2]
        have O5 : Out h H4 (upd H4 h (.ins Z.C_Hand dx (hf d b))) := fun b o e n => (upd_ne n).trans e
        have fre : ∀ la, H' la = none → H la = none := fun la e' => by
          cases hc : H la with
          | none => rfl
          | some o =>
            have hlh : la ≠ d := fun q => by rw [q, hdn] at hc; cases hc
            by_cases hh2 : la = h
            · rw [hh2, gh'] at e'; cases e'
            · rw [kd _ _ (O _ _ hc hh2) hlh] at e'; cases e'
        refine k _ d b ⟨⟨dx, upd_same⟩, O5.dark (D.same S4) gh4 hdh, O5.dark B4 gh4 hbh⟩ (fun la dx' e => ?_) (fun la dx' e => ?_) fun c o e n => (upd_ne n).trans (S4 _ _ (kd c o (O c o e n) (fun q => by rw [q, hdn] at e; cases e)))
        · rw [upd_ne hdh] at e
          obtain ⟨dx5, la5, vs5, z1, _⟩ := D.ex
          have z2 := S4 _ _ z1
          rw [e] at z2
          rw [df_inj z2]
          exact F la5 dx5 z1
        · rw [upd_ne hbh] at e
          exact fre _ (f4 la dx' e)
end
end KA
namespace KA
open PySem PySem.Spec PyProof.Rows L2 DP
/-! ### pairs in order, each once -/
def leP (a b : Pr) : Bool := PySem.W.dataLe false encP a b
theorem leP_iff {a b : Pr} : leP a b = true ↔ (listOrd itemOrd).kle (PySem.W.keyToks (encP a)) (PySem.W.keyToks (encP b)) := by
  show (!PyProof.Rows.lexLt itemOrd (PySem.W.keyToks (encP b)) (PySem.W.keyToks (encP a))) = true ↔ PyProof.Rows.lexLt itemOrd (PySem.W.keyToks (encP b)) (PySem.W.keyToks (encP a)) = false
  cases PyProof.Rows.lexLt itemOrd (PySem.W.keyToks (encP b)) (PySem.W.keyToks (encP a)) <;> simp
theorem leP_trans (a b c : Pr) (h1 : leP a b = true) (h2 : leP b c = true) : leP a c = true := leP_iff.mpr (KeyOrd.kle_trans (leP_iff.mp h1) (leP_iff.mp h2))
theorem leP_total (a b : Pr) : (leP a b || leP b a) = true := by
  rw [Bool.or_eq_true]
  cases e : (listOrd itemOrd).blt (PySem.W.keyToks (encP b)) (PySem.W.keyToks (encP a)) with
  | false => exact .inl (leP_iff.mpr e)
  | true => exact .inr (leP_iff.mpr (KeyOrd.kle_of_klt (O := listOrd itemOrd) e))
theorem toksP_inj {a b : Pr} (h : PySem.W.keyToks (encP a) = PySem.W.keyToks (encP b)) : a = b := by
  obtain ⟨a2, a3⟩ := a
  obtain ⟨b2, b3⟩ := b
  simp [encP, PySem.W.keyToks, PySem.W.keyToksAll] at h
  obtain ⟨h2, h3⟩ := h
  rw [h2, h3]
theorem leP_anti (a b : Pr) (h1 : leP a b = true) (h2 : leP b a = true) : a = b := toksP_inj (KeyOrd.kle_antisymm (leP_iff.mp h1) (leP_iff.mp h2))
structure CanonP (ms : List Pr) (S : Pr → Prop) : Prop where
  nd : ms.Nodup
  srt : ms.Pairwise (fun a b => leP a b = true)
  mem : ∀ o, o ∈ ms ↔ S o
theorem CanonP.eq {ms ns : List Pr} {S S' : Pr → Prop} (a : CanonP ms S) (b : CanonP ns S') (h : ∀ o, S o ↔ S' o) : ms = ns :=
  List.Perm.eq_of_pairwise (fun x y _ _ h1 h2 => leP_anti x y h1 h2) a.srt b.srt ((List.perm_ext_iff_of_nodup a.nd b.nd).mpr fun o => (a.mem o).trans ((h o).trans (b.mem o).symm))
theorem CanonP.iff {ms : List Pr} {S S' : Pr → Prop} (a : CanonP ms S) (h : ∀ o, S o ↔ S' o) : CanonP ms S' := ⟨a.nd, a.srt, fun o => (a.mem o).trans (h o)⟩
theorem canonP_sort {ms : List Pr} (nd : ms.Nodup) : CanonP (ms.mergeSort leP) (fun o => o ∈ ms) := ⟨(List.mergeSort_perm _ _).nodup_iff.mpr nd, List.pairwise_mergeSort leP_trans leP_total _, fun o => (List.mergeSort_perm _ _).mem_iff⟩
def keyP (l : Pr) : List Key := [.inl l.1, .inl l.2]
theorem keyP_inj {a b : Pr} (h : keyP a = keyP b) : a = b := by
  obtain ⟨a2, a3⟩ := a
  obtain ⟨b2, b3⟩ := b
  simp [keyP] at h
  obtain ⟨h2, h3⟩ := h
  rw [h2, h3]
section
variable {K : PySem.W.Frag} {H : Hp}
theorem pair_rows : ∀ {ls : List Pr} {xs : List V}, DpAll K H xs (ls.map encP) → ∃ ks : List (Addr × List Key), xs = ks.map (fun p => V.ref p.1) ∧ ks.map Prod.snd = ls.map keyP ∧ SD.Stand K H ks
  | [], xs, h => by
    have h' : DpAll K H xs [] := h
    cases h'
    exact ⟨[], rfl, rfl, fun p hp => by cases hp⟩
  | l :: ls, xs, h => by
    have h' : DpAll K H xs (encP l :: ls.map encP) := h
    cases h' with
    | cons h1 h2 =>
      obtain ⟨ks, e1, e2, st⟩ := pair_rows h2
      obtain ⟨a, rfl, ha⟩ := dp_pair h1
      refine ⟨(a, keyP l) :: ks, by rw [e1]; rfl, by rw [List.map_cons, e2]; rfl, fun p hp => ?_⟩
      rcases List.mem_cons.mp hp with e | e
      · rw [e]; exact ha
      · exact st p e
theorem rows_pair : ∀ {ms : List Pr} {M : List (Addr × List Key)}, M.map Prod.snd = ms.map keyP → SD.Stand K H M → DpAll K H (M.map fun p => V.ref p.1) (ms.map encP)
  | [], [], _, _ => .nil
  | [], _ :: _, e, _ => by cases e
  | _ :: _, [], e, _ => by cases e
  | l :: ms, p :: M, e, st => by
    injection e with e1 e2
    have h1 := st p List.mem_cons_self
    rw [e1] at h1
    exact .cons (.tup h1 (.cons (.int _) (.cons (.int _) .nil))) (rows_pair e2 fun q hq => st q (List.mem_cons_of_mem _ hq))
theorem keysP_back : ∀ {ks : List (List Key)} {ls : List Pr}, (∀ k ∈ ks, ∃ l ∈ ls, k = keyP l) → ∃ ms : List Pr, ks = ms.map keyP ∧ ∀ m ∈ ms, m ∈ ls
  | [], _, _ => ⟨[], rfl, fun _ h => by cases h⟩
  | k :: ks, ls, h => by
    obtain ⟨l, hl, e⟩ := h k List.mem_cons_self
    obtain ⟨ms, e2, h2⟩ := keysP_back (ks := ks) (ls := ls) fun q hq => h q (List.mem_cons_of_mem _ hq)
    refine ⟨l :: ms, by rw [e, e2]; rfl, fun m hm => ?_⟩
    rcases List.mem_cons.mp hm with z | z
    · rw [z]; exact hl
    · exact h2 m z
/-- pairs of few kinds -/
def FewPr (ls : List Pr) : Prop := ∃ S : List Pr, S.length < 64 ∧ ∀ l ∈ ls, l ∈ S
theorem set_sortedPF {P : Program} {w : World} {l : Addr} {xs : List V} {ls : List Pr} (hl : SqL K H l xs) (hd : DpAll K H xs (ls.map encP)) (few : FewPr ls) {Q : VK}
    (q : ∀ p ys H' ms, Same H H' → H p = none → H' p = some (.lst ys) → DpAll K H' ys (ms.map encP) → CanonP ms (fun o => o ∈ ls) → Q (.ref p) H') :
    SD.rSetD K P w [.ref l] H (fun v H' => SD.rSortSetD K P w [v] H' Q) := by
  obtain ⟨ks, e1, e2, st⟩ := pair_rows hd
  have hkl : ks.length = ls.length := by rw [← List.length_map (f := Prod.snd), e2, List.length_map]
  subst e1
  refine ⟨l, ks, rfl, hl, st, (by
    obtain ⟨S, hS, q⟩ := few
    refine ⟨S.map keyP, by rw [List.length_map]; exact hS, fun p hp => ?_⟩
    have h1 : p.2 ∈ ks.map Prod.snd := List.mem_map.mpr ⟨p, hp, rfl⟩
    rw [e2] at h1
    obtain ⟨l, hl, e⟩ := List.mem_map.mp h1
    exact List.mem_map.mpr ⟨l, q l hl, e⟩), fun a M ha hM hall hone => ?_⟩
  have S1 := same_upd (o := SD.SetDO P w a M) ha
  have stM : SD.Stand K (upd H a (SD.SetDO P w a M)) M := SD.Stand.same (fun p hp => st p (hM p hp)) S1
  have inl : ∀ p ∈ M, ∃ l ∈ ls, p.2 = keyP l := fun p hp => by
    have h1 : p.2 ∈ ks.map Prod.snd := List.mem_map.mpr ⟨p, hM p hp, rfl⟩
    rw [e2] at h1
    obtain ⟨l, hl, e⟩ := List.mem_map.mp h1
    exact ⟨l, hl, e.symm⟩
  refine ⟨a, M, rfl, upd_same, stM, ⟨fun p hp p2 hp2 => ?_, fun p hp => ?_⟩, fun N p pm hp => ?_⟩
  · obtain ⟨l1, _, e1⟩ := inl p hp
    obtain ⟨l2, _, e2⟩ := inl p2 hp2
    unfold SD.encK
    rw [e1, e2]
    simp [keyP, SD.kD, PySem.W.alike, PySem.W.alikeAll]
  · obtain ⟨l1, _, e1⟩ := inl p hp
    rw [e1]; simp [keyP]
  · obtain ⟨ms, em, hms⟩ := keysP_back (ks := N.map Prod.snd) (ls := ls) fun k hk => by
      obtain ⟨p, hp, e⟩ := List.mem_map.mp hk
      obtain ⟨l, hl, e2⟩ := inl p (pm.mem_iff.mp hp)
      exact ⟨l, hl, by rw [← e, e2]⟩
    have ndk : (ms.map keyP).Nodup := by rw [← em]; exact (pm.map Prod.snd).nodup_iff.mpr hone
    have nd : ms.Nodup := List.Pairwise.of_map keyP (fun _ _ hne e => hne (congrArg keyP e)) ndk
    have hsort : (N.mergeSort (PySem.W.dataLe false SD.encK)).map Prod.snd = (ms.mergeSort leP).map keyP := by
      rw [List.map_mergeSort (f := Prod.snd) (r := PySem.W.dataLe false SD.encK) (s := fun a b => PySem.W.dataLe false SD.encK (0, a) (0, b)) (fun a _ b _ => rfl), em]
      rw [List.map_mergeSort (f := keyP) (r := leP) (s := fun a b => PySem.W.dataLe false SD.encK (0, a) (0, b)) (fun a _ b _ => rfl)]
    have S2 := same_upd (o := HO.lst ((N.mergeSort (PySem.W.dataLe false SD.encK)).map fun q => V.ref q.1)) hp
    refine q p _ _ (ms.mergeSort leP) (S1.trans S2) (S1.free hp) upd_same (rows_pair hsort (SD.Stand.same (fun r hr => stM r (pm.mem_iff.mp ((List.mergeSort_perm _ _).mem_iff.mp hr))) S2)) ((canonP_sort nd).iff fun o => ⟨hms o, fun ho => ?_⟩)
    have h1 : keyP o ∈ ks.map Prod.snd := by rw [e2]; exact List.mem_map.mpr ⟨o, ho, rfl⟩
    obtain ⟨p2, hp2, e3⟩ := List.mem_map.mp h1
    have h2 := hall p2 hp2
    rw [e3, ← (pm.map Prod.snd).mem_iff, em] at h2
    obtain ⟨m, hm, e4⟩ := List.mem_map.mp h2
    rw [← keyP_inj e4]; exact hm
end

/-! ### the steps of a hand, in order -/
theorem lexLt_same (O : KeyOrd) (x : O.α) (as bs : List O.α) : PyProof.Rows.lexLt O (x :: as) (x :: bs) = PyProof.Rows.lexLt O as bs := by
  simp [PyProof.Rows.lexLt, O.irrefl]
theorem toks_fr (p : Pr) : PySem.W.keyToks (encL (fr1 p)) = .inl 1 :: .inr ("from" : Str).cps.toList :: PySem.W.keyToks (encP p) := by
  show PySem.W.keyToks (.tuple [.str "from", .int p.1, .int p.2]) = _ :: _ :: PySem.W.keyToks (.tuple [.int p.1, .int p.2])
  rw [PySem.W.keyToks, PySem.W.keyToks, PySem.W.keyToksAll, PySem.W.keyToks]; rfl
theorem le_fr (a b : Pr) : leL (fr1 a) (fr1 b) = leP a b := by
  have h : leL (fr1 a) (fr1 b) = true ↔ leP a b = true := by
    rw [leL_iff, leP_iff]
    show PyProof.Rows.lexLt itemOrd (PySem.W.keyToks (encL (fr1 b))) (PySem.W.keyToks (encL (fr1 a))) = false ↔ PyProof.Rows.lexLt itemOrd (PySem.W.keyToks (encP b)) (PySem.W.keyToks (encP a)) = false
    rw [toks_fr, toks_fr, lexLt_same, lexLt_same]
  cases h1 : leL (fr1 a) (fr1 b) <;> cases h2 : leP a b <;> simp_all
def homeP (L : Int) (s : Pr) : Pr := (s.1 % L, s.2 - s.1 / L * L)
theorem home_fr1 (L : Int) (s : Pr) : home L (fr1 s) = fr1 (homeP L s) := by
  have e : s.1 - s.1 / L * L = s.1 % L := by rw [Int.emod_def, Int.mul_comm]
  show ((("from" : Str), s.1 - s.1 / L * L, s.2 - s.1 / L * L) : Lk) = (("from" : Str), s.1 % L, s.2 - s.1 / L * L)
  rw [e]
theorem fr1_inj {a b : Pr} (h : fr1 a = fr1 b) : a = b := by
  have := congrArg Prod.snd h
  exact this
theorem heard_frs {L : Int} {ss ps : List Pr} (c : CanonP ps (fun o => ∃ s ∈ ss, o = homeP L s)) : heardAll L (frs ss) = ps.map fr1 := by
  refine (fold0_canon L (frs ss)).eq (S' := fun o => o ∈ ps.map fr1) ⟨?_, ?_, fun o => Iff.rfl⟩ fun o => ?_
  · exact List.Pairwise.map fr1 (fun a b h e => h (fr1_inj e)) c.nd
  · rw [List.pairwise_map]
    exact c.srt.imp fun h => by rw [le_fr]; exact h
  · rw [List.mem_map]
    constructor
    · rintro ⟨l, hl, rfl⟩
      obtain ⟨s, hs, rfl⟩ := List.mem_map.mp hl
      exact ⟨homeP L s, (c.mem _).mpr ⟨s, hs, rfl⟩, (home_fr1 L s).symm⟩
    · rintro ⟨p, hp, rfl⟩
      obtain ⟨s, hs, rfl⟩ := (c.mem _).mp hp
      exact ⟨fr1 s, List.mem_map.mpr ⟨s, hs, rfl⟩, (home_fr1 L s).symm⟩
theorem frs_inj {a b : List Pr} (h : a.map fr1 = b.map fr1) : a = b := by
  have := congrArg (List.map Prod.snd) h
  rw [List.map_map, List.map_map] at this
  have e : ∀ l : List Pr, l.map (Prod.snd ∘ fr1) = l := fun l => by
    induction l with
    | nil => rfl
    | cons x l ih => rw [List.map_cons, ih]; rfl
  rw [e, e] at this
  exact this
end KA
namespace KA
open PySem PySem.Spec PyProof.Rows L2 DP
theorem eqv_pair (a b : Pr) : PyData.eqv (encP a) (encP b) = decide (a = b) := by
  obtain ⟨a1, a2⟩ := a
  obtain ⟨b1, b2⟩ := b
  simp [encP, PyData.eqv, PyData.eqvAll]
  by_cases h1 : a1 = b1 <;> by_cases h2 : a2 = b2 <;> simp [h1, h2]
theorem eqv_pairs : ∀ a b : List Pr, PyData.eqvAll (a.map encP) (b.map encP) = decide (a = b)
  | [], [] => rfl
  | [], y :: b => by simp [PyData.eqvAll]
  | x :: a, [] => by simp [PyData.eqvAll]
  | x :: a, y :: b => by
    rw [List.map_cons, List.map_cons, PyData.eqvAll, eqv_pair, eqv_pairs a b]
    by_cases h1 : x = y <;> by_cases h2 : a = b <;> simp [h1, h2]
theorem lay_pairs : ∀ ps : List Pr, PyData.canLayAll0 (ps.map encP) = true
  | [] => rfl
  | p :: ps => by
    show PyData.canLayAll0 (encP p :: ps.map encP) = true
    rw [PyData.canLayAll0, lay_pairs ps]; rfl
theorem depth_pr : ∀ ps : List Pr, PyData.depthAll (ps.map encP) ≤ 1
  | [] => by simp [PyData.depthAll]
  | p :: ps => by
    show PyData.depthAll (encP p :: ps.map encP) ≤ 1
    have := depth_pr ps
    rw [PyData.depthAll]
    simp [encP, PyData.depth, PyData.depthAll]
    omega
theorem shaped_prs (ps : List Pr) : SeqAt.shaped (.list (ps.map encP)) = true := by
  unfold SeqAt.shaped
  rw [PyData.canLay0, lay_pairs ps, PyData.depth]
  have := depth_pr ps
  simp; omega
theorem few_prs {ps : List Pr} (h : ps.length ≤ 1000) : fewD (.list (ps.map encP)) = true := by
  have z : ∀ ps : List Pr, fewD.fewDs (ps.map encP) = true := by
    intro ps
    induction ps with
    | nil => rfl
    | cons l ls ih =>
      show fewD.fewDs (encP l :: ls.map encP) = true
      rw [fewD.fewDs, ih]; rfl
  rw [fewD, z, List.length_map, Bool.and_true, decide_eq_true_eq]
  exact h
theorem depth_prs (ps : List Pr) : (PyData.list (ps.map encP)).depth ≤ 2 := by
  rw [PyData.depth]
  have := depth_pr ps
  omega
def spHLen (Z : Ad) (K : PySem.W.Frag) : Sp := fun vs H Q _ => ∃ (h d b : Addr) (L : Int) (ss : List Pr), vs = [.ref h] ∧ HandAt Z K H h d b L ss ∧ Q (.int L) H
def spHSteps (Z : Ad) (K : PySem.W.Frag) : Sp := fun vs H Q _ => ∃ (h d b : Addr) (L : Int) (ss ps : List Pr), vs = [.ref h] ∧ HandAt Z K H h d b L ss ∧ heardAll L (frs ss) = ps.map fr1 ∧
  ∀ p H', Same H H' → H p = none → LAt K H' p (ps.map encP) → Q (.ref p) H'
/-- what else may stand on the right of == -/
def Foe (Z : Ad) (K : PySem.W.Frag) (H : Hp) (y : V) : Prop := ∃ t, TyX K H y (.type t) ∧ PySem.W.kitOne K (.type t) (.ref Z.C_Hand) = some false ∧ PySem.W.notFirst K Z.C_Hand (.type t) = true
def spHEq (Z : Ad) (K : PySem.W.Frag) : Sp := fun vs H Q _ => ∃ (h d b : Addr) (L : Int) (ss : List Pr) (y : V), vs = [.ref h, y] ∧ HandAt Z K H h d b L ss ∧
  ((∃ h2 d2 b2 L2 ss2, y = .ref h2 ∧ HandAt Z K H h2 d2 b2 L2 ss2 ∧ Q (.bl (decide (L = L2) && decide (heardAll L (frs ss) = heardAll L2 (frs ss2)))) H) ∨ (Foe Z K H y ∧ Q (.bl false) H))
section
variable {P : Program} {w : World} {K : PySem.W.Frag} {mg : Str → Option Value} {base : Heap} {Z : Ad}
theorem ok_Hand_length (T : Tx K w mg Z) : FnOk P w K mg base CX0 3 Z.a_Hand_length Z.d_Hand_length P_Hand_length (spHLen Z K) := by
  refine T.F_Hand_length.ok scHand_length (fun vs H Q E h => ?_) (fun cdv A outer s H vs Q E hr h => ?_)
  · obtain ⟨h, d, b, L, ss, rfl, _⟩ := h
    rfl
  · obtain ⟨h, d, b, L, ss, rfl, A1, k⟩ := h
    obtain ⟨hx, h1⟩ := A1.ex
    obtain ⟨dx, la, xs, d1, _, _⟩ := id A1.dark.ex
    refine ⟨_, (pss_one (ps_ret (pe_meth0 (fldK (K := K) (pv 0) rfl) T.cl T.m_Dark_length (ok_Dark_length T) (hr.mono (by decide)) T.bb_Dark_length .nil pass0))), ?_⟩
    refine ⟨_, rfl, h, Z.C_Hand, hx, _, _, rfl, h1, T.cl_Hand, T.nHand__dark, hf_dark _ _, d, dx, _, rfl, d1, df_no _ _ (by decide +kernel) (by decide +kernel), d, L, _, rfl, A1.dark, k⟩
theorem ok_Hand_steps (T : Tx K w mg Z) : FnOk P w K mg base CX0 3 Z.a_Hand_steps Z.d_Hand_steps P_Hand_steps (spHSteps Z K) := by
  refine T.F_Hand_steps.ok scHand_steps (fun vs H Q E h => ?_) (fun cdv A outer s H vs Q E hr h => ?_)
  · obtain ⟨h, d, b, L, ss, ps, rfl, _⟩ := h
    rfl
  · obtain ⟨h, d, b, L, ss, ps, rfl, A1, eps, k⟩ := h
    obtain ⟨hx, h1⟩ := A1.ex
    obtain ⟨dx, la, xs, d1, _, _⟩ := id A1.dark.ex
    have D := A1.dark
    have hpl : ps.length ≤ 60 := by
      have := D.len
      rw [eps, List.length_map] at this
      exact this
    refine ⟨_, (pss_one (ps_ret (pe_lc (own := [("_", 1), ("x", 2), ("y", 3)]) (g := gTup K 3 (gCons (gName 1) (gCons (gName 2) (gCons (gName 3) gNil)))) (tt := tYes) rfl scHand_steps.nd (pi_list (pe_meth0 (fldK (K := K) (pv 0) rfl) T.cl T.m_Dark_looks (ok_Dark_looks T) (hr.mono (by decide)) T.bb_Dark_looks .nil pass0)) (blkOk_by (own := [("_", 1), ("x", 2), ("y", 3)]) (N := N_Hand_steps) (sc := defScope sHand_steps) (by decide +kernel)) (fun _ _ _ _ _ => (tupK (K := K) (by rfl) (pgs_cons (pg_name (i := 1) scHand_steps.nd rfl (Or.inl rfl)) (pgs_cons (pg_name (i := 2) scHand_steps.nd rfl (Or.inl rfl)) (pgs_cons (pg_name (i := 3) scHand_steps.nd rfl (Or.inl rfl)) pgs_nil))))) (fun _ _ _ _ _ => pts_nil) (fun _ _ _ _ _ => (pe_tup (pa_cons (pv 2) (pa_cons (pv 3) pa_nil))))))), ?_⟩
    refine ⟨_, rfl, h, Z.C_Hand, hx, _, _, rfl, h1, T.cl_Hand, T.nHand__dark, hf_dark _ _, d, dx, _, rfl, d1, df_no _ _ (by decide +kernel) (by decide +kernel), d, L, _, rfl, D, fun p ys H1 hp S1 p1 p2 => ?_⟩
    rw [eps] at p2
    have hyl : ys.length = ps.length := by rw [dpAll_len p2, List.length_map, List.length_map]
    refine ⟨p, rfl, ⟨_, SqL.of p1⟩, fun Dd hDd => ?_⟩
    refine lc_list (K := K) (a := p) (xs := ys) (fun j H' => Same H1 H' ∧ LAt K H' Dd ((ps.take j).map encP)) ⟨same_upd hDd, [], upd_same, .nil⟩ (fun j H' _ ⟨S, _⟩ => SqL.of (S _ _ p1)) ?_ ?_
    · rintro j y H' hj ⟨S, vs2, hd2, hds2⟩
      obtain ⟨e, hdi, hdy⟩ := dpAll_get p2 hj
      obtain ⟨l, hl, rfl⟩ := map_at hdi
      obtain ⟨s, hs, rfl⟩ := map_at hl
      obtain ⟨pp, rfl, hpp⟩ := dp_look (dp_mono S _ _ hdy)
      have hv2 : vs2.length ≤ 60 := by rw [dpAll_len hds2, List.length_map, List.length_take]; omega
      refine ⟨_, _, rfl, hpp, rfl, _, _, rfl, _, _, rfl, _, _, rfl, rfl, rfl, yes_ite ?_⟩
      refine ⟨_, rfl, _, rfl, (by show 2 ≤ sizeLine; decide), fun q2 hq2 => ?_⟩
      have S2 := same_upd (o := HO.tup [V.int s.1, .int s.2]) hq2
      have hd5 := S2 _ _ hd2
      refine ⟨vs2, hd5, small1000 (by omega), same_set (S.trans S2) hDd, _, upd_same, ?_⟩
      rw [take_snoc hs, List.map_append]
      exact acc_step hd5 (noLs_map noL_encP _) rfl (dpAll_mono S2 _ _ hds2) (show Dp K _ (.ref q2) (encP s) from .tup (SqT.of upd_same) (.cons (.int _) (.cons (.int _) .nil)))
    · rintro H2 ⟨S2, l2⟩
      rw [List.take_of_length_le (by rw [hyl]; exact Nat.le_refl _)] at l2
      exact k Dd H2 (S1.trans S2) (S1.free hDd) l2
end
end KA
namespace KA
open PySem PySem.Spec PyProof.Rows L2 DP
/-! ### a hand's writing -/
def stT (s : Pr) : Str := stepT s.1 s.2
def handT (L : Int) (ps : List Pr) : Str := numT L ++ ": " ++ Txt.join ", " (ps.map stT)
theorem colon_tl : TL.tl (": " : Str) = 58 :: [32] := by rfl
theorem colon_len : (": " : Str).length = 2 := by rfl
theorem comma_tl : TL.tl (", " : Str) = 44 :: [32] := by rfl
theorem comma_len : (", " : Str).length = 2 := by rfl
theorem numT_off {n : Int} {c : Nat} (h1 : c < 45 ∨ 57 < c) : c ∉ TL.tl (numT n) := fun hm => by
  have h2 : c ∉ TL.numL n.natAbs := TL.numL_free (by omega)
  by_cases e : n < 0
  · rw [numT_neg e] at hm
    rcases List.mem_cons.mp hm with e | e
    · omega
    · exact h2 e
  · rw [numT_pos (by omega)] at hm
    exact h2 hm
theorem stT_comma {s : Pr} : (44 : Nat) ∉ TL.tl (stT s) := fun hm => by
  unfold stT stepT at hm
  rw [TL.tl_append, TL.tl_append] at hm
  rcases List.mem_append.mp hm with hm | hm
  · rcases List.mem_append.mp hm with hm | hm
    · exact numT_off (.inl (by decide)) hm
    · rw [blank_tl] at hm
      exact absurd hm (by decide)
  · exact numT_off (.inl (by decide)) hm
theorem steps_split {ps : List Pr} (hne : 0 < ps.length) : Txt.split (Txt.join ", " (ps.map stT)) ", " = ps.map stT :=
  TL.split_join (y := ", ") (s := 44) (S := [32]) comma_tl (by decide +kernel) (parts := ps.map stT) (fun e => by rw [List.map_eq_nil_iff] at e; rw [e] at hne; cases hne) fun p hp => by
    obtain ⟨s, _, rfl⟩ := List.mem_map.mp hp
    exact stT_comma
theorem hand_part (L : Int) (ps : List Pr) : Txt.partition (handT L ps) ": " = (numT L, (": " : Str), Txt.join ", " (ps.map stT)) :=
  TL.partition_app colon_tl (numT_off (.inr (by decide)))
def SmP (s : Pr) : Prop := s.1.natAbs < 10 ^ 60 ∧ s.2.natAbs < 10 ^ 60
theorem steps_sum : ∀ {ps : List Pr}, (∀ s ∈ ps, SmP s) → ((ps.map stT).map (·.length)).sum ≤ 123 * ps.length
  | [], _ => by simp
  | s :: ps, h => by
    have h1 := steps_sum (ps := ps) fun o ho => h o (List.mem_cons_of_mem _ ho)
    have h2 := stepT_len (h s List.mem_cons_self).1 (h s List.mem_cons_self).2
    have h3 : (stT s).length ≤ 123 := h2
    simp only [List.map_cons, List.sum_cons, List.length_cons]
    omega
theorem psum {ps : List Pr} (h : ∀ s ∈ ps, SmP s) (hn : ps.length ≤ 30) : ((ps.map stT).map (·.length)).sum + (ps.map stT).length * (", " : Str).length ≤ 5000 := by
  have h1 := steps_sum h
  rw [comma_len, List.length_map]
  omega
theorem joined_len {ps : List Pr} (h : ∀ s ∈ ps, SmP s) (hn : ps.length ≤ 30) : (Txt.join ", " (ps.map stT)).length ≤ 5000 := by
  rw [TL.join_eq]
  exact Nat.le_trans (join_len _ _) (psum h hn)
theorem handT_len {L : Int} {ps : List Pr} (hL : L.natAbs < 10 ^ 60) (h : ∀ s ∈ ps, SmP s) (hn : ps.length ≤ 30) : (handT L ps).length ≤ 5100 := by
  unfold handT
  rw [len_app, len_app, colon_len]
  have := numT_len hL
  have := joined_len h hn
  omega
theorem no_noneP : ∀ ps : List Pr, ((ps.map encP).any fun z => PyData.eqv z .none) = false
  | [] => rfl
  | l :: hs => by rw [List.map_cons, List.any_cons, no_noneP hs]; rfl
theorem smP_sz {s : Pr} (h : SmP s) : SzP 280 s := ⟨Nat.lt_trans h.1 (by decide), Nat.lt_trans h.2 (by decide)⟩
def WdP (s : Pr) : Prop := s.1.natAbs < 10 ^ 100 ∧ s.2.natAbs < 10 ^ 100
theorem stT_lenW {s : Pr} (h : WdP s) : (stT s).length ≤ 203 := by
  unfold stT stepT
  rw [len_app, len_app, blank_len]
  have := numT_lenW h.1
  have := numT_lenW h.2
  omega
theorem steps_sumW : ∀ {ps : List Pr}, (∀ s ∈ ps, WdP s) → ((ps.map stT).map (·.length)).sum ≤ 203 * ps.length
  | [], _ => by simp
  | s :: ps, h => by
    have h1 := steps_sumW (ps := ps) fun o ho => h o (List.mem_cons_of_mem _ ho)
    have h3 := stT_lenW (h s List.mem_cons_self)
    simp only [List.map_cons, List.sum_cons, List.length_cons]
    omega
theorem psumW {ps : List Pr} (h : ∀ s ∈ ps, WdP s) (hn : ps.length ≤ 60) : ((ps.map stT).map (·.length)).sum + (ps.map stT).length * (", " : Str).length ≤ 13000 := by
  have h1 := steps_sumW h
  rw [comma_len, List.length_map]
  omega
theorem joined_lenW {ps : List Pr} (h : ∀ s ∈ ps, WdP s) (hn : ps.length ≤ 60) : (Txt.join ", " (ps.map stT)).length ≤ 13000 := by
  rw [TL.join_eq]
  exact Nat.le_trans (join_len _ _) (psumW h hn)
def spHandShown (K : PySem.W.Frag) : Sp := fun vs H Q _ => ∃ (L : Int) (p : Addr) (ps : List Pr), vs = [.int L, .ref p] ∧ LAt K H p (ps.map encP) ∧ L.natAbs < 10 ^ 60 ∧ (∀ s ∈ ps, SmP s) ∧ ps.length ≤ 30 ∧ ∀ H', Same H H' → Q (.str (handT L ps)) H'
def spShowStep (K : PySem.W.Frag) : Sp := fun vs H Q _ => ∃ (p : Addr) (s : Pr), vs = [.ref p] ∧ SqT K H p [.int s.1, .int s.2] ∧ WdP s ∧ ∀ H', Same H H' → Q (.str (stT s)) H'
def spShowHand (Z : Ad) (K : PySem.W.Frag) : Sp := fun vs H Q _ => ∃ (h d b : Addr) (L : Int) (ss ps : List Pr), vs = [.ref h] ∧ HandAt Z K H h d b L ss ∧ heardAll L (frs ss) = ps.map fr1 ∧ L.natAbs < 10 ^ 60 ∧ (∀ s ∈ ps, WdP s) ∧ ps.length ≤ 60 ∧ ∀ H', Same H H' → Q (.str (handT L ps)) H'
section
variable {P : Program} {w : World} {K : PySem.W.Frag} {mg : Str → Option Value} {base : Heap} {Z : Ad}
theorem ok_law_hand_shown (T : Tx K w mg Z) : FnOk P w K mg base CX0 1 Z.a_law_hand_shown Z.d_law_hand_shown P_law_hand_shown (spHandShown K) := by
  refine T.F_law_hand_shown.ok sclaw_hand_shown (fun vs H Q E h => ?_) (fun cdv A outer s H vs Q E hr h => ?_)
  · obtain ⟨L, p, ps, rfl, _⟩ := h
    rfl
  · obtain ⟨L, p, ps, rfl, hp, hL, hok, hlen, k⟩ := h
    obtain ⟨xs, h1, h2⟩ := id hp
    have hxl : xs.length = ps.length := by rw [dpAll_len h2, List.length_map]
    have big : ∀ {m : Nat}, m ≤ 10000 → m ≤ sizeLine := fun {m} h => Nat.le_trans h (by decide)
    have b1 := numT_len hL
    have b4 := blank_len
    have b5 := colon_len
    refine ⟨_, (pss_one (ps_ret (pe_op op_add_str (pe_op op_add_str (pe_callTy call_str_int (by rfl) T.b_str (by decide +kernel) (pa_cons (pv 0) pa_nil)) pe_str) (pe_m1 PySem.F.slot_str_join PySem.F.type_str_join mt_join pe_str (pe_lc (own := [("here", 2), ("there", 3)]) (g := gTup K 2 (gCons (gName 2) (gCons (gName 3) gNil))) (tt := tYes) rfl sclaw_hand_shown.nd (pi_list (pv 1)) (blkOk_by (own := [("here", 2), ("there", 3)]) (N := N_law_hand_shown) (sc := defScope slaw_hand_shown) (by decide +kernel)) (fun _ _ _ _ _ => (tupK (K := K) (by rfl) (pgs_cons (pg_name (i := 2) sclaw_hand_shown.nd rfl (Or.inl rfl)) (pgs_cons (pg_name (i := 3) sclaw_hand_shown.nd rfl (Or.inl rfl)) pgs_nil)))) (fun _ _ _ _ _ => pts_nil) (fun _ _ _ _ _ => (pe_op op_add_str (pe_op op_add_str (pe_callTy call_str_int (by rfl) T.b_str (by decide +kernel) (pa_cons (pv 2) pa_nil)) pe_str) (pe_callTy call_str_int (by rfl) T.b_str (by decide +kernel) (pa_cons (pv 3) pa_nil))))))))), ?_⟩
    refine ⟨_, rfl, L, rfl, log_small hL, _, _, rfl, rfl, (by show (numT L).length + (": " : Str).length ≤ sizeLine; exact big (by omega)), ?_⟩
    refine ⟨⟨_, rfl⟩, _, rfl, p, rfl, ⟨_, SqL.of h1⟩, fun D hD => ?_⟩
    refine lc_list (K := K) (a := p) (xs := xs) (fun i H2 => Same H H2 ∧ H2 D = some (.lst (((ps.take i).map stT).map V.str))) ⟨same_upd hD, upd_same⟩ (fun i H2 _ ⟨S2, _⟩ => SqL.of (S2 _ _ h1)) ?_ ?_
    · rintro i y H2 hi ⟨S2, hd⟩
      obtain ⟨e, hdi, hdy⟩ := dpAll_get h2 hi
      obtain ⟨s, hs, rfl⟩ := map_at hdi
      have hok1 := hok s (List.mem_of_getElem? hs)
      have c1 := numT_len hok1.1
      have c2 := numT_len hok1.2
      have hi' : i < ps.length := (List.getElem?_eq_some_iff.mp hs).1
      obtain ⟨pp, rfl, hpp⟩ := dp_pair (dp_mono S2 _ _ hdy)
      refine ⟨_, _, rfl, hpp, rfl, _, _, rfl, _, _, rfl, rfl, rfl, yes_ite ?_⟩
      refine ⟨_, rfl, s.1, rfl, log_small hok1.1, _, _, rfl, rfl, (by show (numT s.1).length + (" " : Str).length ≤ sizeLine; exact big (by omega)), _, rfl, s.2, rfl, log_small hok1.2, _, _, rfl, rfl, ?_, ?_⟩
      · show (numT s.1 ++ (" " : Str)).length + (numT s.2).length ≤ sizeLine
        rw [len_app]; exact big (by omega)
      refine ⟨_, hd, small1000 (by simp; omega), same_set S2 hD, ?_⟩
      rw [take_snoc hs, List.map_append, List.map_append]
      exact upd_same
    rintro H2 ⟨S2, hd⟩
    rw [List.take_of_length_le (by rw [hxl]; exact Nat.le_refl _)] at hd
    have j1 := joined_len hok hlen
    refine ⟨_, D, ps.map stT, rfl, rfl, .inl (SqL.of hd), Nat.le_trans (psum hok hlen) (by decide), ?_⟩
    refine ⟨_, _, rfl, rfl, ?_, k _ S2⟩
    show (numT L ++ (": " : Str)).length + (Txt.join ", " (ps.map stT)).length ≤ sizeLine
    rw [len_app]; exact big (by omega)
theorem ok_show_step (T : Tx K w mg Z) : FnOk P w K mg base CX0 4 Z.a_show_step Z.d_show_step P_show_step (spShowStep K) := by
  refine T.F_show_step.ok scshow_step (fun vs H Q E h => ?_) (fun cdv A outer s H vs Q E hr h => ?_)
  · obtain ⟨p, s, rfl, _⟩ := h
    rfl
  · obtain ⟨p, s, rfl, hp, hs, k⟩ := h
    refine ⟨_, (pss_cons (ps_asg (pv 0) (tupK (K := K) (by rfl) (pgs_cons (pg_name (i := 1) scshow_step.nd rfl (Or.inl rfl)) (pgs_cons (pg_name (i := 2) scshow_step.nd rfl (Or.inl rfl)) pgs_nil))))
      (pss_one (ps_ret (pe_joined (PJ.cons (pe_fmt (pe_call (ok_figures T) (hr.mono (by decide)) (by rfl) T.g_figures T.F_figures.kp T.bb_figures .nil pass0 (pa_cons (pv 1) pa_nil))) (PJ.cons pe_str (PJ.cons (pe_fmt (pe_call (ok_figures T) (hr.mono (by decide)) (by rfl) T.g_figures T.F_figures.kp T.bb_figures .nil pass0 (pa_cons (pv 2) pa_nil))) PJ.nil))))))), ?_⟩
    have b2 := numT_lenW hs.1
    have b3 := numT_lenW hs.2
    have b4 := blank_len
    have big : ∀ {m : Nat}, m ≤ 1000 → m ≤ sizeLine := fun {m} h => Nat.le_of_lt (small1000 h)
    refine ⟨_, rfl, _, _, rfl, hp, rfl, _, _, rfl, _, _, rfl, rfl, ?_⟩
    refine ⟨_, rfl, s.1, rfl, hs.1, fun H1 S1 => .inl ⟨_, rfl, big (by omega), _, rfl, ?_, ?_⟩⟩
    · rw [empty_app]; exact big (by omega)
    rw [empty_app]
    refine ⟨_, rfl, ?_, ?_⟩
    · rw [len_app]; exact big (by omega)
    refine ⟨_, rfl, s.2, rfl, hs.2, fun H2 S2 => .inl ⟨_, rfl, big (by omega), _, rfl, ?_, ?_⟩⟩
    · rw [len_app, len_app]; exact big (by omega)
    exact k _ (S1.trans S2)
theorem ok_show_hand (T : Tx K w mg Z) : FnOk P w K mg base CX0 5 Z.a_show_hand Z.d_show_hand P_show_hand (spShowHand Z K) := by
  refine T.F_show_hand.ok scshow_hand (fun vs H Q E h => ?_) (fun cdv A outer s H vs Q E hr h => ?_)
  · obtain ⟨h, d, b, L, ss, ps, rfl, _⟩ := h
    rfl
  · obtain ⟨h, d, b, L, ss, ps, rfl, A, eps, hL, hok, hlen, k⟩ := h
    obtain ⟨hx, h1⟩ := id A.ex
    have big : ∀ {m : Nat}, m ≤ 30000 → m ≤ sizeLine := fun {m} h => Nat.le_trans h (by decide)
    have b1 := numT_len hL
    have b5 := colon_len
    have j1 := joined_lenW hok hlen
    refine ⟨_, (pss_cons (ps_set (i := 1) scshow_hand.nd rfl (Or.inl rfl) (pe_m1 PySem.F.slot_str_join PySem.F.type_str_join mt_join pe_str (pe_lc (own := [("step", 2)]) (g := gName 2) (tt := tYes) rfl scshow_hand.nd (pi_list (pe_meth0 (pv 0) T.cl_Hand T.m_Hand_steps (ok_Hand_steps T) (hr.mono (by decide)) T.bb_Hand_steps .nil pass0)) (blkOk_by (own := [("step", 2)]) (N := N_show_hand) (sc := defScope sshow_hand) (by decide +kernel)) (fun _ _ _ _ _ => (pg_name (i := 2) scshow_hand.nd rfl (Or.inl rfl))) (fun _ _ _ _ _ => pts_nil) (fun _ _ _ _ _ => (pe_call (ok_show_step T) (hr.mono (by decide)) (by rfl) T.g_show_step T.F_show_step.kp T.bb_show_step .nil pass0 (pa_cons (pv 2) pa_nil))))))
      (pss_one (ps_ret (pe_joined (PJ.cons (pe_fmt (pe_call (ok_figures T) (hr.mono (by decide)) (by rfl) T.g_figures T.F_figures.kp T.bb_figures .nil pass0 (pa_cons (pe_meth0 (pv 0) T.cl_Hand T.m_Hand_length (ok_Hand_length T) (hr.mono (by decide)) T.bb_Hand_length .nil pass0) pa_nil))) (PJ.cons pe_str (PJ.cons (pe_fmt (pv 1)) PJ.nil))))))), ?_⟩
    refine ⟨⟨_, rfl⟩, _, rfl, h, hx, _, rfl, h1, hf_no _ _ (by decide +kernel) (by decide +kernel), h, d, b, L, ss, ps, rfl, A, eps, fun p H1 S1 hp lp => ?_⟩
    obtain ⟨xs, g1, g2⟩ := id lp
    have hxl : xs.length = ps.length := by rw [dpAll_len g2, List.length_map]
    refine ⟨p, rfl, ⟨_, SqL.of g1⟩, fun D hD => ?_⟩
    refine lc_list (K := K) (a := p) (xs := xs) (fun i H2 => Same H1 H2 ∧ H2 D = some (.lst (((ps.take i).map stT).map V.str))) ⟨same_upd hD, upd_same⟩ (fun i H2 _ ⟨S2, _⟩ => SqL.of (S2 _ _ g1)) ?_ ?_
    · rintro i y H2 hi ⟨S2, hd⟩
      obtain ⟨e, hdi, hdy⟩ := dpAll_get g2 hi
      obtain ⟨s, hs, rfl⟩ := map_at hdi
      have hok1 := hok s (List.mem_of_getElem? hs)
      have hi' : i < ps.length := (List.getElem?_eq_some_iff.mp hs).1
      obtain ⟨pp, rfl, hpp⟩ := dp_pair (dp_mono S2 _ _ hdy)
      refine ⟨rfl, yes_ite ?_⟩
      refine ⟨_, rfl, pp, s, rfl, hpp, hok1, fun H4 S4 => ⟨_, S4 _ _ hd, small1000 (by simp; omega), same_set (S2.trans S4) hD, ?_⟩⟩
      rw [take_snoc hs, List.map_append, List.map_append]
      exact upd_same
    rintro H2 ⟨S2, hd⟩
    rw [List.take_of_length_le (by rw [hxl]; exact Nat.le_refl _)] at hd
    have S12 := S1.trans S2
    refine ⟨_, D, ps.map stT, rfl, rfl, .inl (SqL.of hd), Nat.le_trans (psumW hok hlen) (by decide), ?_⟩
    refine ⟨_, rfl, h, hx, _, rfl, S12 _ _ h1, hf_no _ _ (by decide +kernel) (by decide +kernel), h, d, b, L, ss, rfl, A.same S12, L, rfl, Nat.lt_trans hL (by decide), fun H3 S3 => .inl ⟨_, rfl, big (by omega), _, rfl, ?_, ?_⟩⟩
    · rw [empty_app]; exact big (by omega)
    rw [empty_app]
    refine ⟨_, rfl, ?_, ?_⟩
    · rw [len_app]; exact big (by omega)
    refine ⟨_, rfl, .inl ⟨_, rfl, big (by omega), _, rfl, ?_, ?_⟩⟩
    · rw [len_app, len_app]; exact big (by omega)
    exact k _ (S12.trans S3)
end
end KA
namespace KA
open PySem PySem.Spec PyProof.Rows L2 DP
/-! ### any text: whether it names a Hand -/
theorem par_is {S : List Nat} (hS : S ≠ []) : ∀ (l acc : List Nat) {a b : List Nat}, TL.par S acc l = some (a, b) → a ++ (S ++ b) = acc ++ l
  | [], acc, a, b, h => by cases h
  | c :: r, acc, a, b, h => by
    cases hp : TL.pre S (c :: r) with
    | true =>
      rw [TL.par_hit hp] at h
      injection h with h
      injection h with h1 h2
      have e1 : (c :: r).take S.length = S := by simpa [TL.pre] using hp
      rw [← h1, ← h2]
      conv => lhs; rw [← e1]
      rw [e1, ← e1]
      have := List.take_append_drop S.length (c :: r)
      rw [e1] at this ⊢
      rw [this]
    | false =>
      rw [TL.par_miss hp] at h
      rw [par_is hS r _ h]; simp
theorem part_is (x : Str) : ∃ a m b : Str, Txt.partition x ": " = (a, m, b) ∧ (x = a ++ ": " ++ b ∨ b = Str.empty) := by
  rw [TL.partition_par x ": " (by rw [colon_tl]; simp)]
  cases h : TL.par (TL.tl (": " : Str)) [] (TL.tl x) with
  | none => exact ⟨_, _, _, rfl, .inr rfl⟩
  | some p =>
    obtain ⟨a, b⟩ := p
    refine ⟨_, _, _, rfl, .inl (TL.ext_tl ?_)⟩
    have := par_is (by rw [colon_tl]; simp) _ _ h
    rw [TL.tl_append, TL.tl_append, TL.tl_mk, TL.tl_mk, List.append_assoc, this, List.nil_append]
theorem stT_inj {s u : Pr} (e : stT s = stT u) : s = u := by
  have h := step_split s.1 s.2
  have e' : stepT s.1 s.2 = stepT u.1 u.2 := e
  rw [e', step_split] at h
  injection h with a h
  injection h with b _
  have := numT_inj a
  have := numT_inj b
  obtain ⟨s1, s2⟩ := s
  obtain ⟨u1, u2⟩ := u
  simp_all
theorem stTs_inj : ∀ {a b : List Pr}, a.map stT = b.map stT → a = b
  | [], [], _ => rfl
  | [], _ :: _, e => by cases e
  | _ :: _, [], e => by cases e
  | x :: a, y :: b, e => by
    rw [List.map_cons, List.map_cons] at e
    injection e with e1 e2
    rw [stT_inj e1, stTs_inj e2]
theorem handT_inj {L M : Int} {ps qs : List Pr} (h1 : 0 < ps.length) (h2 : 0 < qs.length) (e : handT L ps = handT M qs) : L = M ∧ ps = qs := by
  have h := hand_part L ps
  rw [e, hand_part] at h
  injection h with a h
  injection h with _ b
  refine ⟨(numT_inj a).symm, ?_⟩
  have := steps_split h1
  rw [← b, steps_split h2] at this
  exact stTs_inj this.symm
/-- the step that a text writes -/
noncomputable def stO (x : Str) : Option Pr := open Classical in if h : ∃ s : Pr, SmP s ∧ stT s = x then some h.choose else none
theorem stO_of {s : Pr} (hs : SmP s) : stO (stT s) = some s := by
  have h : ∃ m : Pr, SmP m ∧ stT m = stT s := ⟨s, hs, rfl⟩
  unfold stO
  rw [dif_pos h, stT_inj h.choose_spec.2]
theorem stO_is {x : Str} {s : Pr} (h : stO x = some s) : SmP s ∧ stT s = x := by
  unfold stO at h
  split at h
  · rename_i q
    rw [← Option.some.inj h]
    exact q.choose_spec
  · cases h
theorem stO_no {x : Str} (h : ∀ s : Pr, SmP s → stT s ≠ x) : stO x = none := by
  cases e : stO x with
  | none => rfl
  | some l =>
    have := stO_is e
    exact absurd this.2 (h l this.1)
def encQ : Option Pr → PyData
  | none => .none
  | some l => encP l
theorem noL_encQ (o : Option Pr) : noL (encQ o) = true := by cases o <;> rfl
theorem lay_optP : ∀ (os : List (Option Pr)), PyData.canLayAll0 (os.map encQ) = true
  | [] => rfl
  | o :: os => by
    rw [List.map_cons, PyData.canLayAll0, lay_optP os]
    cases o <;> rfl
theorem depth_optP : ∀ os : List (Option Pr), PyData.depthAll (os.map encQ) ≤ 1
  | [] => by simp [PyData.depthAll]
  | o :: os => by
    have := depth_optP os
    rw [List.map_cons, PyData.depthAll]
    have h1 : (encQ o).depth ≤ 1 := by
      cases o with
      | none => simp [encQ, PyData.depth]
      | some l => simp [encQ, encP, PyData.depth, PyData.depthAll]
    omega
theorem shaped_optP (os : List (Option Pr)) : SeqAt.shaped (.list (os.map encQ)) = true := by
  unfold SeqAt.shaped
  rw [PyData.canLay0, lay_optP os, PyData.depth]
  have := depth_optP os
  simp; omega
theorem any_noneQ : ∀ os : List (Option Pr), ((os.map encQ).any fun z => PyData.eqv z .none) = os.any Option.isNone
  | [] => rfl
  | o :: os => by
    rw [List.map_cons, List.any_cons, any_noneQ os, List.any_cons]
    cases o <;> rfl
/-- all are steps, or one is none -/
theorem optP_all : ∀ ws : List Str, (∃ ps : List Pr, (∀ s ∈ ps, SmP s) ∧ ws = ps.map stT ∧ ws.map stO = ps.map some) ∨ ((ws.map stO).any Option.isNone = true ∧ ∀ ps : List Pr, (∀ s ∈ ps, SmP s) → ps.map stT ≠ ws)
  | [] => .inl ⟨[], (fun _ h => by cases h), rfl, rfl⟩
  | x :: ws => by
    cases e : stO x with
    | none =>
      refine .inr ⟨by simp [e], fun hs h q => ?_⟩
      cases hs with
      | nil => cases q
      | cons l hs =>
        rw [List.map_cons] at q
        injection q with q _
        have := h l List.mem_cons_self
        rw [← q, stO_of this] at e
        cases e
    | some l =>
      obtain ⟨a, c⟩ := stO_is e
      rcases optP_all ws with ⟨hs, h1, h2, h3⟩ | ⟨h1, h2⟩
      · refine .inl ⟨l :: hs, fun m hm => ?_, by rw [h2, ← c]; rfl, by rw [List.map_cons, e, h3]; rfl⟩
        rcases List.mem_cons.mp hm with rfl | hm
        · exact a
        · exact h1 m hm
      · refine .inr ⟨by rw [List.map_cons, List.any_cons, h1, Bool.or_true], fun hs h q => ?_⟩
        cases hs with
        | nil => cases q
        | cons m hs =>
          rw [List.map_cons] at q
          injection q with _ q
          exact h2 hs (fun o ho => h o (List.mem_cons_of_mem _ ho)) q
theorem none_someP (hs : List Pr) : (hs.map some).any Option.isNone = false := by
  induction hs with
  | nil => rfl
  | cons l hs ih => rw [List.map_cons, List.any_cons, ih]; rfl
theorem encQ_some (hs : List Pr) : (hs.map some).map encQ = hs.map encP := by rw [List.map_map]; rfl
/-- a text that names a length and steps -/
structure HnOk (L : Int) (ps : List Pr) (x : Str) : Prop where
  pos : 0 < L
  sm : L.natAbs < 10 ^ 60
  ok : ∀ s ∈ ps, SmP s
  ne : 0 < ps.length
  eq : handT L ps = x
theorem HnOk.uniq {L M : Int} {hs ms : List Pr} {x : Str} (a : HnOk L hs x) (b : HnOk M ms x) : L = M ∧ hs = ms :=
  handT_inj a.ne b.ne (a.eq.trans b.eq.symm)
/-- a Hand's writing -/
structure HnIs (L : Int) (ps : List Pr) (x : Str) : Prop extends HnOk L ps x where
  cn : CanonP ps (fun o => o ∈ ps)
  hm : ∀ s ∈ ps, homeP L s = s
theorem comma_split (x : Str) : (Txt.split x ", ").map TL.tl = sp 44 (TL.tl x) := by
  rw [TL.split_spl x ", " (by rw [comma_tl]; simp) (TL.kind_ok (by decide +kernel)), comma_tl]
  exact sp_spl 44 _
theorem few_rest {N : Nat} {a b : Str} (h : Few 44 N (TL.tl (a ++ ": " ++ b))) : Few 44 (N + 2) (TL.tl b) := by
  refine Few.sub (n := 0) h fun S q => ?_
  have := FrN.piece (c := 44) (by decide) (TL.tl (a ++ ": ")) (TL.tl b) []
  rw [List.append_nil, ← TL.tl_append] at this
  exact this.mono q
/-- so few steps are named -/
theorem few_steps {ps : List Pr} {y : Str} {N : Nat} (hne : 0 < ps.length) (hy : Txt.join ", " (ps.map stT) = y) (ok : ∀ s ∈ ps, SmP s) (h : Few 44 N (TL.tl y)) : ∃ S : List Pr, S.length ≤ N ∧ ∀ s ∈ ps, s ∈ S := by
  obtain ⟨S, hS, q⟩ := h
  refine ⟨S.filterMap fun p => stO ⟨p.toArray⟩, Nat.le_trans (List.length_filterMap_le _ _) hS, fun l hl => ?_⟩
  have hs1 := comma_split y
  rw [← hy, steps_split hne] at hs1
  have hm : TL.tl (stT l) ∈ sp 44 (TL.tl y) := by
    rw [← hy, ← hs1]
    exact List.mem_map.mpr ⟨_, List.mem_map.mpr ⟨l, hl, rfl⟩, rfl⟩
  refine List.mem_filterMap.mpr ⟨_, q _ hm, ?_⟩
  have e : (⟨(TL.tl (stT l)).toArray⟩ : Str) = stT l := TL.ext_tl (by rw [TL.tl_mk])
  rw [e]
  exact stO_of (ok l hl)
theorem HnOk.few {L : Int} {ps : List Pr} {x : Str} (D : HnOk L ps x) (h : Few 44 53 (TL.tl x)) : ∃ S : List Pr, S.length ≤ 55 ∧ ∀ s ∈ ps, s ∈ S := by
  rw [← D.eq] at h
  exact few_steps D.ne rfl D.ok (few_rest h)
theorem homeP_wide {L : Int} {s : Pr} (hL : 0 < L) (hb : L.natAbs < 10 ^ 60) (h : SmP s) : WdP (homeP L s) := by
  have h1 := Int.mul_ediv_add_emod s.1 L
  have h2 := Int.emod_nonneg s.1 (show L ≠ 0 by omega)
  have h3 := Int.emod_lt_of_pos s.1 hL
  have ha := h.1
  have hc := h.2
  rw [Int.mul_comm] at h1
  constructor
  · show (s.1 % L).natAbs < 10 ^ 100
    omega
  · show (s.2 - s.1 / L * L).natAbs < 10 ^ 100
    omega
def spHandAny (Z : Ad) (K : PySem.W.Frag) : Sp := fun vs H Q _ => ∃ x : Str, vs = [.str x] ∧ x.length ≤ 5000 ∧ Few 44 53 (TL.tl x) ∧
  (∀ L ps, HnOk L ps x → ∀ (H' : Hp) (h d b : Addr), H h = none → Same H H' → HandAt Z K H' h d b L ps → Q (.ref h) H') ∧
  ((∀ L ps, ¬ HnOk L ps x) → ∀ H', Same H H' → Q .non H')
section
variable {P : Program} {w : World} {K : PySem.W.Frag} {mg : Str → Option Value} {base : Heap} {Z : Ad} {Y : AdX}
theorem ok_hand_of (T : Tx K w mg Z) : FnOk P w K mg base CX0 9 Z.a_hand_of Z.d_hand_of P_hand_of (spHandAny Z K) := by
  refine T.F_hand_of.ok schand_of (fun vs H Q E h => ?_) (fun cdv A outer s H vs Q E hr h => ?_)
  · obtain ⟨x, rfl, _⟩ := h
    rfl
  · obtain ⟨x, rfl, hx, hfew, k1, k0⟩ := h
    refine ⟨_, (pss_cons (ps_asg (pe_m1 PySem.F.slot_str_partition PySem.F.type_str_partition mt_partition (pv 0) pe_str) (tupK (K := K) (by rfl) (pgs_cons (pg_name (i := 1) schand_of.nd rfl (Or.inl rfl)) (pgs_cons (pg_name (i := 2) schand_of.nd rfl (Or.inl rfl)) (pgs_cons (pg_name (i := 3) schand_of.nd rfl (Or.inl rfl)) pgs_nil)))))
      (C8.pss_cut (ps_set (i := 4) schand_of.nd rfl (Or.inl rfl) (pe_call (ok_length_of T) (hr.mono (by decide)) (by rfl) T.g_length_of T.F_length_of.kp T.bb_length_of .nil pass0 (pa_cons (pv 1) pa_nil)))
      (C8.pss_cut (ps_setLc (i := 5) (own := [("part", 6)]) (g := gName 6) (tt := tYes) rfl schand_of.nd rfl rfl (sw_true rfl rfl rfl (by decide +kernel)) (pi_list (pe_m1 PySem.F.slot_str_split PySem.F.type_str_split mt_split (pv 3) pe_str)) (blkOk_by (own := [("part", 6)]) (N := N_hand_of) (sc := defScope shand_of) (by decide +kernel)) (fun _ _ _ _ _ => (pg_name (i := 6) schand_of.nd rfl (Or.inl rfl))) (fun _ _ _ _ _ => pts_nil) (fun _ _ _ _ _ => (pe_call (ok_step_of T) (hr.mono (by decide)) (by rfl) T.g_step_of T.F_step_of.kp T.bb_step_of .nil pass0 (pa_cons (pv 6) pa_nil))))
      (pss_one (ps_ret (pe_ifExp (PW.pt (pw_or (pt_cmpR op_isN (pv 4) pe_non (nomark _)) (pw_or1 (pt_cmpR (inDK (K := K) (rooms hr)) pe_non (pv 5) (by rfl))))) pe_non (pe_make T.mk_Hand (ok_Hand_init T) (hr.mono (by decide)) (by rfl) T.g_Hand T.bb_Hand_init .nil pass0 (pa_cons (pv 4) (pa_cons (pv 5) pa_nil))))))))), ?_⟩
    have big : ∀ {m : Nat}, m ≤ 10000 → m ≤ sizeLine := fun {m} h => Nat.le_trans h (by decide)
    obtain ⟨w0, wm, wr, ep, hcase⟩ := part_is x
    have hl0 : w0.length ≤ 5000 ∧ wr.length ≤ 5000 := by
      have : Txt.partition x ": " = (w0, wm, wr) := ep
      rcases hcase with e | e
      · rw [e, len_app, len_app] at hx; omega
      · refine ⟨?_, by rw [e]; exact Nat.zero_le _⟩
        rw [TL.partition_par x ": " (by rw [colon_tl]; simp)] at ep
        cases h : TL.par (TL.tl (": " : Str)) [] (TL.tl x) with
        | none =>
          rw [h] at ep
          injection ep with e1 _
          rw [← e1]; exact hx
        | some p =>
          obtain ⟨a, b⟩ := p
          rw [h] at ep
          injection ep with e1 _
          have := congrArg List.length (par_is (by rw [colon_tl]; simp) _ _ h)
          rw [List.nil_append, ← TL.len_tl, List.length_append] at this
          rw [← e1, TL.len_tl, TL.tl_mk]; omega
    have sn : ∀ L ps, HnOk L ps x → w0 = numT L ∧ wr = Txt.join ", " (ps.map stT) := fun L ps D => by
      have h1 := hand_part L ps
      rw [D.eq, ep] at h1
      injection h1 with h2 h3
      injection h3 with _ h4
      exact ⟨h2, h4⟩
    refine ⟨_, rfl, ⟨_, rfl⟩, _, _, rfl, rfl, by decide +kernel, big (by omega), fun p hp => ?_⟩
    rw [ep]
    have Sp := same_upd (o := HO.tup [V.str w0, .str wm, .str wr]) hp
    have gp : (upd H p (.tup [V.str w0, .str wm, .str wr])) p = some (.tup [V.str w0, .str wm, .str wr]) := upd_same
    generalize upd H p (.tup [V.str w0, .str wm, .str wr]) = H1 at Sp gp ⊢
    refine ⟨_, _, rfl, SqT.of gp, rfl, _, _, rfl, _, _, rfl, _, _, rfl, rfl, ?_⟩
    refine ⟨fun σ' H' => ∃ (u : V) (u2 u6 : Option V), σ' = [some (.str x), some (.str w0), u2, some (.str wr), some u, none, u6] ∧ Same H1 H' ∧ ((∃ L : Int, u = .int L ∧ 0 < L ∧ L.natAbs < 10 ^ 60 ∧ numT L = w0) ∨ (u = .non ∧ ∀ L ps, ¬ HnOk L ps x)), ?_, ?_⟩
    · exact ⟨_, rfl, w0, rfl, hl0.1, fun L hL h0 e H' S' => ⟨_, _, _, rfl, S', .inl ⟨L, rfl, h0, hL, e⟩⟩, fun hno H' S' => ⟨_, _, _, rfl, S', .inr ⟨rfl, fun L hs D => hno L D.sm D.pos (sn L hs D).1.symm⟩⟩⟩
    rintro σ2 H2 ⟨u, u2, u6, rfl, S2, hu⟩
    obtain ⟨sl, sw⟩ := split_len (x := wr) (y := ", ") (by rw [comma_tl]; simp) (by decide +kernel)
    have sj := join_split (x := wr) (y := ", ") (by rw [comma_tl]; simp) (by decide +kernel)
    have hne : Txt.split wr ", " ≠ [] := fun z => by
      have h1 := comma_split wr
      obtain ⟨p, ps, e⟩ := sp_cons 44 (TL.tl wr)
      rw [z, e] at h1
      cases h1
    refine ⟨fun σ' H' => ∃ q : Addr, σ' = [some (.str x), some (.str w0), u2, some (.str wr), some u, some (.ref q), u6] ∧ Same H2 H' ∧ LAt K H' q (((Txt.split wr ", ").map stO).map encQ), ?_, ?_⟩
    · refine ⟨_, rfl, ⟨_, rfl⟩, _, _, rfl, rfl, by decide +kernel, big (by omega), fun r hr => ?_⟩
      generalize Txt.split wr ", " = ws at sl sw sj hne ⊢
      have Sr := same_upd (o := HO.lst (ws.map V.str)) hr
      have gr : (upd H2 r (.lst (ws.map V.str))) r = some (.lst (ws.map V.str)) := upd_same
      generalize upd H2 r (.lst (ws.map V.str)) = H2' at Sr gr ⊢
      refine ⟨r, rfl, ⟨_, SqL.of gr⟩, fun D hD => ?_⟩
      refine lc_list (K := K) (a := r) (xs := ws.map V.str) (fun i H3 => Same H2' H3 ∧ LAt K H3 D (((ws.take i).map stO).map encQ)) ⟨same_upd hD, [], upd_same, .nil⟩ (fun i H3 _ ⟨S3, _⟩ => SqL.of (S3 _ _ gr)) ?_ ?_
      · rintro i y H3 hi ⟨S3, vs, hd, hds⟩
        obtain ⟨y1, hy1, rfl⟩ := map_at hi
        have hi' : i < ws.length := (List.getElem?_eq_some_iff.mp hy1).1
        have hvl : vs.length ≤ i := by rw [dpAll_len hds, List.length_map, List.length_map, List.length_take]; omega
        have hlt : vs.length < sizeLine := Nat.lt_of_le_of_lt (by omega : vs.length ≤ 6000) (by decide)
        have fin : ∀ (v : V) (H4 : Hp), Same H3 H4 → Dp K H4 v (encQ (stO y1)) → ∃ vs, H4 D = some (.lst vs) ∧ vs.length < sizeLine ∧ (Same H2' (upd H4 D (.lst (vs ++ [v]))) ∧ LAt K (upd H4 D (.lst (vs ++ [v]))) D (((ws.take (i + 1)).map stO).map encQ)) := fun v H4 S4 dv => by
          have hds4 := dpAll_mono S4 _ _ hds
          refine ⟨vs, S4 _ _ hd, hlt, same_set (S3.trans S4) hD, _, upd_same, ?_⟩
          rw [take_snoc hy1, List.map_append, List.map_append]
          exact acc_step (S4 _ _ hd) (noLs_map noL_encQ _) (noL_encQ _) hds4 dv
        refine ⟨rfl, yes_ite ?_⟩
        refine ⟨_, rfl, y1, rfl, Nat.le_trans (sw y1 (List.mem_of_getElem? hy1)) hl0.2, fun a b ha hb e H4 q4 S4 hq4 g4 => fin _ H4 S4 ?_, fun hno H4 S4 => fin _ H4 S4 ?_⟩
        · rw [← e, show stepT a b = stT (a, b) from rfl, stO_of (s := (a, b)) ⟨ha, hb⟩]
          exact show Dp K _ (.ref q4) (encP (a, b)) from .tup (SqT.of g4) (.cons (.int _) (.cons (.int _) .nil))
        · rw [stO_no fun s hs e => hno s.1 s.2 hs.1 hs.2 e]
          exact .non
      rintro H3 ⟨S3, ld⟩
      rw [List.take_of_length_le (by rw [List.length_map]; exact Nat.le_refl _)] at ld
      exact ⟨D, rfl, Sr.trans S3, ld⟩
    rintro σ3 H3 ⟨q, rfl, S3, lq⟩
    have S0 := (Sp.trans S2).trans S3
    rcases hu with ⟨L, rfl, h0, hL, e0⟩ | ⟨rfl, hno⟩
    · refine ⟨_, rfl, rfl, _, rfl, iteF ⟨_, rfl, .none, _, .non, lq.dp, rfl, shaped_optP _, _, rfl, ?_⟩⟩
      rw [any_noneQ]
      rcases optP_all (Txt.split wr ", ") with ⟨ps, a, b, c⟩ | ⟨a, b⟩
      · rw [c, none_someP]
        have hpl : 0 < ps.length := by
          cases ps with
          | nil => exact absurd b hne
          | cons x y => simp
        have ej : Txt.join ", " (ps.map stT) = wr := by rw [← b]; exact sj
        have D0 : HnOk L ps x := by
          refine ⟨h0, hL, a, hpl, ?_⟩
          unfold handT
          rw [ej, e0]
          rcases hcase with e | e
          · exact e.symm
          · exfalso
            rw [e] at b
            have : Txt.split Str.empty ", " = [Str.empty] := by decide +kernel
            rw [this] at b
            cases ps with
            | nil => cases b
            | cons s r =>
              rw [List.map_cons] at b
              injection b with b _
              have hl := congrArg Str.length b
              have : (stT s).length = (numT s.1).length + 1 + (numT s.2).length := by
                unfold stT stepT
                rw [len_app, len_app, blank_len]
              have hz : Str.empty.length = 0 := rfl
              omega
        obtain ⟨FS, hFS, hFm⟩ := D0.few hfew
        rw [c, encQ_some] at lq
        refine iteF ⟨_, rfl, _, rfl, fun h dx hhn hdx hne' => ?_⟩
        have Sm : Same H3 (upd (upd H3 dx (.own h)) h (.ins Z.C_Hand dx [])) := same_made hhn hdx
        refine ⟨h, dx, .ref q, L, ps, rfl, upd_same, (lq.same Sm).dp, hpl, ⟨FS, hFS, hFm⟩, h0, Nat.lt_trans hL (by decide), fun s hs => smP_sz (a s hs), fun H4 d b' A4 f1 f2 O4 => ⟨rfl, ?_⟩⟩
        exact k1 L ps D0 H4 h d b' (S0.free hhn) (S0.trans fun c o e => O4 c o (Sm c o e) (ne_of_none e hhn)) A4
      · rw [a]
        refine iteT (k0 (fun M ms D => ?_) _ S0)
        have h1 := (sn M ms D).2
        have h2 := steps_split D.ne
        rw [← h1] at h2
        exact b ms D.ok h2.symm
    · exact ⟨_, rfl, rfl, _, rfl, iteT (k0 hno _ S0)⟩
end
end KA
namespace KA
open PySem PySem.Spec PyProof.Rows L2 DP
def spReadHand (Z : Ad) (K : PySem.W.Frag) (CL : Addr) : Sp := fun vs H Q E => ∃ x : Str, vs = [.str x] ∧ x.length ≤ 5000 ∧ Few 44 53 (TL.tl x) ∧
  (∀ L ps, HnIs L ps x → ∀ (H' : Hp) (h d b : Addr), H h = none → Same H H' → HandAt Z K H' h d b L ps → Q (.ref h) H') ∧
  ((∀ L ps, ¬ HnIs L ps x) → ∀ (dd : Addr) (H' : Hp), Same H H' → H' dd = some (.xd [(("what" : Str), .str x)]) → H dd = none → E (.ref CL) (some dd) H')
/-- the steps brought home, in order -/
noncomputable def canonPs (L : Int) (ps : List Pr) : List Pr := ((heardAll L (frs ps)).map Prod.snd)
theorem canonPs_is {L : Int} {ps : List Pr} : CanonP (canonPs L ps) (fun o => ∃ s ∈ ps, o = homeP L s) := by
  have c := fold0_canon L (frs ps)
  have all : ∀ o ∈ heardAll L (frs ps), ∃ s ∈ ps, o = fr1 (homeP L s) := fun o ho => by
    obtain ⟨l, hl, rfl⟩ := (heardAll_mem o).mp ho
    obtain ⟨s, hs, rfl⟩ := List.mem_map.mp hl
    exact ⟨s, hs, home_fr1 L s⟩
  have frw : ∀ o ∈ heardAll L (frs ps), fr1 o.2 = o := fun o ho => by
    obtain ⟨s, _, rfl⟩ := all o ho; rfl
  refine ⟨?_, ?_, fun o => ?_⟩
  · unfold canonPs
    unfold List.Nodup
    rw [List.pairwise_map]
    exact List.Pairwise.imp_of_mem (fun {x y} hx hy h e => h (by rw [← frw x hx, ← frw y hy, e])) c.nd
  · unfold canonPs
    rw [List.pairwise_map]
    refine List.Pairwise.imp_of_mem (fun {x y} hx hy h => ?_) c.srt
    rw [← le_fr, frw x hx, frw y hy]; exact h
  · unfold canonPs
    rw [List.mem_map]
    constructor
    · rintro ⟨x, hx, rfl⟩
      obtain ⟨s, hs, rfl⟩ := all x hx
      exact ⟨s, hs, rfl⟩
    · rintro ⟨s, hs, rfl⟩
      exact ⟨fr1 (homeP L s), (heardAll_mem _).mpr ⟨fr1 s, List.mem_map.mpr ⟨s, hs, rfl⟩, (home_fr1 L s).symm⟩, rfl⟩
theorem HnIs.canon {L : Int} {ps : List Pr} {x : Str} (I : HnIs L ps x) : canonPs L ps = ps :=
  canonPs_is.eq I.cn fun o => by
    constructor
    · rintro ⟨s, hs, rfl⟩
      rw [I.hm s hs]; exact hs
    · intro ho
      exact ⟨o, ho, (I.hm o ho).symm⟩
theorem HnIs.heard {L : Int} {ps : List Pr} {x : Str} (I : HnIs L ps x) : heardAll L (frs ps) = ps.map fr1 := by
  have h := heard_frs (L := L) (ss := ps) canonPs_is
  rw [I.canon] at h
  exact h
theorem homeP_home {L : Int} (hL : 0 < L) (s : Pr) : homeP L (homeP L s) = homeP L s := by
  have h1 := home_home hL (fr1 s)
  rw [home_fr1, home_fr1] at h1
  exact fr1_inj h1
section
variable {P : Program} {w : World} {K : PySem.W.Frag} {mg : Str → Option Value} {base : Heap} {Z : Ad} {Y : AdX}
theorem ok_read_handX (T : Tx K w mg Z) (X : Ex P K mg Y) : FnOk P w K mg base (L2.CX P w) 10 Z.a_read_hand Z.d_read_hand P_read_hand (spReadHand Z K Y.c_NoText) := by
  refine T.F_read_hand.okX scread_hand (fun vs H Q E h => ?_) (fun cdv A outer s H vs Q E hr h => ?_)
  · obtain ⟨x, rfl, _⟩ := h
    rfl
  · obtain ⟨x, rfl, hx, hfew, k1, k0⟩ := h
    refine ⟨_, (pss_cons (ps_set (i := 1) scread_hand.nd rfl (Or.inl rfl) (pe_call (ok_hand_of T) (hr.mono (by decide)) (by rfl) T.g_hand_of T.F_hand_of.kp T.bb_hand_of .nil pass0 (pa_cons (pv 0) pa_nil)))
      (C8.pss_cut (ps_if (PW.pt (pw_or (pt_cmpR op_isN (pv 1) pe_non (nomark _)) (pw_or1 (pt_cmpR op_ne (pe_call (ok_show_hand T) (hr.mono (by decide)) (by rfl) T.g_show_hand T.F_show_hand.kp T.bb_show_hand .nil pass0 (pa_cons (pv 1) pa_nil)) (pv 0) (nomark _))))) (pss_one (ps_raise rfl (takes_of rfl rfl rfl rfl) (pmk_err X.NoText X.g_NoText T.b_super hr (pa_cons (pv 0) pa_nil)))) pss_nil)
      (pss_one (ps_ret (pv 1))))), ?_⟩
    have refuse : (∀ L hs, ¬ HnIs L hs x) → ∀ H1, Same H H1 → ∀ dd, H1 dd = none → E (.ref Y.c_NoText) (some dd) (upd H1 dd (.xd [(("what" : Str), .str x)])) := fun hno H1 S1 dd hdd => k0 hno dd _ (S1.trans (same_upd hdd)) upd_same (S1.free hdd)
    refine ⟨_, rfl, x, rfl, hx, hfew, fun L ps D H1 h d b hh S1 A1 => ?_, fun hno H1 S1 => ?_⟩
    · obtain ⟨FS, hFS, hFm⟩ := D.few hfew
      have ec : heardAll L (frs ps) = (canonPs L ps).map fr1 := heard_frs canonPs_is
      have hw : ∀ s ∈ canonPs L ps, WdP s := fun o ho => by
        obtain ⟨s, hs, rfl⟩ := (canonPs_is.mem o).mp ho
        exact homeP_wide D.pos D.sm (D.ok s hs)
      have hl : (canonPs L ps).length ≤ 60 := by
        unfold canonPs
        rw [List.length_map]
        exact Nat.le_trans (frs_few (L := L) hFS hFm fun s hs => hs) (by decide)
      have hpos : 0 < (canonPs L ps).length := by
        obtain ⟨s, hs⟩ := List.exists_mem_of_length_pos D.ne
        exact List.length_pos_of_mem ((canonPs_is.mem _).mpr ⟨s, hs, rfl⟩)
      by_cases e : handT L (canonPs L ps) = x
      · have eh : canonPs L ps = ps := (handT_inj hpos D.ne (e.trans D.eq.symm)).2
        have c : CanonP ps (fun o => ∃ s ∈ ps, o = homeP L s) := by
          have := canonPs_is (L := L) (ps := ps)
          rw [eh] at this; exact this
        have hm : ∀ s ∈ ps, homeP L s = s := fun s hs => by
          obtain ⟨u, hu, e2⟩ := (c.mem s).mp hs
          rw [e2]; exact homeP_home D.pos u
        have I : HnIs L ps x := ⟨D, ⟨c.nd, c.srt, fun _ => Iff.rfl⟩, hm⟩
        refine ⟨fun σ' H' => σ' = [some (.str x), some (.ref h)] ∧ Same H1 H', ?_, ?_⟩
        · refine ⟨_, rfl, rfl, _, rfl, iteF ⟨_, rfl, h, d, b, L, ps, _, rfl, A1, ec, D.sm, hw, hl, fun H2 S2 => ?_⟩⟩
          rw [e]
          exact ⟨_, rfl, rfl, _, rfl, ite2 (fun c => absurd c (by simp)) (fun _ => ⟨rfl, S2⟩)⟩
        rintro σ2 H2 ⟨rfl, S2⟩
        exact ⟨_, rfl, k1 L ps I _ h d b hh (S1.trans S2) (A1.same S2)⟩
      · refine ⟨fun _ _ => False, ?_, fun _ _ z => z.elim⟩
        refine ⟨_, rfl, rfl, _, rfl, iteF ⟨_, rfl, h, d, b, L, ps, _, rfl, A1, ec, D.sm, hw, hl, fun H2 S2 => ?_⟩⟩
        refine ⟨_, rfl, rfl, _, rfl, ite2 (fun _ => ?_) (fun c => absurd ?_ e)⟩
        · refine ⟨_, rfl, _, rfl, fun dd hdd => refuse (fun M ms I => e ?_) _ (S1.trans S2) dd hdd⟩
          obtain ⟨rfl, rfl⟩ := I.toHnOk.uniq D
          rw [I.canon]; exact D.eq
        · exact Classical.byContradiction fun h => c (by rw [decide_eq_false fun q => h (V.str.inj q)]; rfl)
    · refine ⟨fun _ _ => False, ?_, fun _ _ z => z.elim⟩
      refine ⟨_, rfl, rfl, _, rfl, iteT ?_⟩
      exact ⟨_, rfl, _, rfl, fun dd hdd => refuse (fun M ms I => hno M ms I.toHnOk) _ S1 dd hdd⟩
end
end KA
namespace KA
open PySem PySem.Spec PyProof.Rows L2 DP
def spReadAny (CL : Addr) : Sp := fun vs H Q E => ∃ x : Str, vs = [.str x] ∧ x.length ≤ 5000 ∧ (∀ l : Lk, WordOk l.1 → Small l → lookT l = x → ∀ (H' : Hp) (q : Addr), Same H H' → H q = none → H' q = some (.tup [.str l.1, .int l.2.1, .int l.2.2]) → Q (.ref q) H') ∧
  ((∀ l : Lk, WordOk l.1 → Small l → lookT l ≠ x) → ∀ (dd : Addr) (H' : Hp), Same H H' → H' dd = some (.xd [(("what" : Str), .str x)]) → H dd = none → E (.ref CL) (some dd) H')
section
variable {P : Program} {w : World} {K : PySem.W.Frag} {mg : Str → Option Value} {base : Heap} {Z : Ad} {Y : AdX}
theorem ok_read_lookX (T : Tx K w mg Z) (X : Ex P K mg Y) : FnOk P w K mg base (L2.CX P w) 5 Z.a_read_look Z.d_read_look P_read_look (spReadAny Y.c_NoText) := by
  refine T.F_read_look.okX scread_look (fun vs H Q E h => ?_) (fun cdv A outer s H vs Q E hr h => ?_)
  · obtain ⟨x, rfl, _⟩ := h
    rfl
  · obtain ⟨x, rfl, hx, k1, k0⟩ := h
    refine ⟨_, (pss_cons (ps_set (i := 1) scread_look.nd rfl (Or.inl rfl) (pe_call (ok_look_of T) (hr.mono (by decide)) (by rfl) T.g_look_of T.F_look_of.kp T.bb_look_of .nil pass0 (pa_cons (pv 0) pa_nil)))
      (C8.pss_cut (ps_if (pt_cmpR op_isN (pv 1) pe_non (nomark _)) (pss_one (ps_raise rfl (takes_of rfl rfl rfl rfl) (pmk_err X.NoText X.g_NoText T.b_super hr (pa_cons (pv 0) pa_nil)))) pss_nil)
      (pss_one (ps_ret (pv 1))))), ?_⟩
    refine ⟨_, rfl, x, rfl, hx, fun l hw hs e H1 q S1 hq gq => ?_, fun hno H1 S1 => ?_⟩
    · refine ⟨fun σ' H' => σ' = [some (.str x), some (.ref q)] ∧ H' = H1, ?_, ?_⟩
      · exact ⟨_, rfl, rfl, _, rfl, iteF ⟨rfl, rfl⟩⟩
      rintro σ2 H2 ⟨rfl, rfl⟩
      exact ⟨_, rfl, k1 l hw hs e _ q S1 hq gq⟩
    · refine ⟨fun _ _ => False, ?_, fun _ _ z => z.elim⟩
      refine ⟨_, rfl, rfl, _, rfl, iteT ?_⟩
      refine ⟨_, rfl, _, rfl, fun dd hdd => ?_⟩
      exact k0 hno dd _ (S1.trans (same_upd hdd)) upd_same (S1.free hdd)
end
end KA
namespace KA
open PySem PySem.Spec PyProof.Rows L2 DP
/-! ### a local name that holds one of several defs -/
def tCallR (i : Nat) (R : Addr → Sp → Prop) (t : TA) : TE := fun σ H Q => ∃ f sp, σ[i]? = some (some (.ref f)) ∧ R f sp ∧ t σ H fun vs H1 => sp vs H1 Q (fun _ _ _ => False)
def tCallRX (i : Nat) (R : Addr → Sp → Prop) (E : L2.St → XK) (t : TA) : TE := fun σ H Q => ∃ f sp, σ[i]? = some (some (.ref f)) ∧ R f sp ∧ t σ H fun vs H1 => sp vs H1 Q (E σ)
/-- it may raise -/
structure HeldX (P : Program) (w : World) (K : PySem.W.Frag) (mg : Str → Option Value) (base : Heap) (CX : CXT) (k : Nat) (f : Addr) (sp : Sp) : Prop where
  ex : ∃ (fd : FuncData) (ps : List Str), FnOk P w K mg base CX k f fd ps sp ∧ PySem.W.keepIn K (.ref f) = true ∧ Binds K fd ps []
section
variable {X : Cx} {CX : CXT} {k i : Nat} {x : Str} {p pos : Pos} {e : Expr} {es : List Expr} {t : TA} {E : L2.St → XK}
theorem pe_callR {R : Addr → Sp → Prop} (A : ∀ f sp, R f sp → Held X.prog X.w X.K X.mg X.base k f sp) (hr : Room k X.A) (hN : X.N[i]? = some x) (hv : Vis X.env.scope x) (ha : PA X (e :: es) t)
    (hdb : (x == ("__debug__" : Str)) = false := by decide) (hcd : (x == ("__classdict__" : Str)) = false := by decide)
    (he : starEach (e :: es) X.env = (false, eval e X.env) :: starEach es X.env := by rfl) (hpl : (backTo pos (starEach es X.env)).any (·.1) = false := by rfl) : PE X (.Call (.Name x p) (e :: es) [] pos) (tCallR i R t) := by
  refine ⟨fun pins s σ H Q I h => ?_⟩
  obtain ⟨f, sp, hs, hS, ht⟩ := h
  obtain ⟨fd, ps, F, hk, hb⟩ := (A f sp hS).ex
  refine (pe_callL (i := i) (f := f) (sp := sp) (dvs := []) (E := fun _ _ _ => False) F hr hN hv hk hb .nil (fun _ _ _ _ _ _ _ z => z.elim) ha hdb hcd he hpl).run pins s σ H Q I ⟨hs, ?_⟩
  have e0 : (fun (vs : List V) (H1 : Hp) => sp (vs ++ []) H1 Q (fun _ _ _ => False)) = fun vs H1 => sp vs H1 Q (fun _ _ _ => False) := by
    funext vs H1
    rw [List.append_nil]
  show t σ H (fun vs H1 => sp (vs ++ []) H1 Q (fun _ _ _ => False))
  rw [e0]
  exact ht
theorem pe_callRX {R : Addr → Sp → Prop} (A : ∀ f sp, R f sp → HeldX X.prog X.w X.K X.mg X.base CX k f sp) (hr : Room k X.A) (hN : X.N[i]? = some x) (hv : Vis X.env.scope x) (hx : ∀ σ, PassesAt CX X σ (E σ)) (ha : PA X (e :: es) t)
    (hdb : (x == ("__debug__" : Str)) = false := by decide) (hcd : (x == ("__classdict__" : Str)) = false := by decide)
    (he : starEach (e :: es) X.env = (false, eval e X.env) :: starEach es X.env := by rfl) (hpl : (backTo pos (starEach es X.env)).any (·.1) = false := by rfl) : PE X (.Call (.Name x p) (e :: es) [] pos) (tCallRX i R E t) := by
  refine ⟨fun pins s σ H Q I h => ?_⟩
  obtain ⟨f, sp, hs, hS, ht⟩ := h
  obtain ⟨fd, ps, F, hk, hb⟩ := (A f sp hS).ex
  refine wpAny_Call_Name_kw (thn ((pe_var (pos := p) hN hv hdb hcd).run pins s σ H (fun v H1 => v = .ref f ∧ H1 = H) I ⟨.ref f, hs, rfl, rfl⟩) fun u s1 ⟨v, H1, I1, r1, q1⟩ => ?_)
  obtain ⟨rfl, rfl⟩ := q1
  cases r1
  refine PySem.W.callWith_K (h₀ := X.base) I.ok.mod.kin hk (thn (ha.run pos pins s1 σ _ _ I1 ht) fun us s2 ⟨vs, H2, I2, r, q⟩ => ⟨I2.kIn, ?_⟩) he hpl
  exact run_fnS F hr hb (hx σ) I2 r q
end
/-! ### three readers and showers -/
def rdA (Z : Ad) : Nat → Addr
  | 0 => Z.a_read_look
  | 1 => Z.a_read_dark
  | _ => Z.a_read_hand
def shA (Z : Ad) : Nat → Addr
  | 0 => Z.a_show_look
  | 1 => Z.a_show_dark
  | _ => Z.a_show_hand
def RdR (Z : Ad) (K : PySem.W.Frag) (Y : AdX) : Addr → Sp → Prop := fun f sp =>
  (f = Z.a_read_look ∧ sp = spReadAny Y.c_NoText) ∨ (f = Z.a_read_dark ∧ sp = spReadDark Z K Y.c_NoText) ∨ (f = Z.a_read_hand ∧ sp = spReadHand Z K Y.c_NoText)
def ShR (Z : Ad) (K : PySem.W.Frag) : Addr → Sp → Prop := fun f sp =>
  (f = Z.a_show_look ∧ sp = spShowLook K) ∨ (f = Z.a_show_dark ∧ sp = spShowDark Z K) ∨ (f = Z.a_show_hand ∧ sp = spShowHand Z K)
/-- what a text is read as -/
def Rd : Nat → Str → Prop
  | 0, x => ∃ l : Lk, WordOk l.1 ∧ Small l ∧ lookT l = x
  | 1, x => ∃ L hs, DkIs L hs x
  | _, x => ∃ L ps, HnIs L ps x
def RdIs (Z : Ad) (K : PySem.W.Frag) (H0 H : Hp) : Nat → Str → V → Prop
  | 0, x, v => ∃ (l : Lk) (q : Addr), v = .ref q ∧ SqT K H q [.str l.1, .int l.2.1, .int l.2.2] ∧ WordOk l.1 ∧ Small l ∧ lookT l = x
  | 1, x, v => ∃ (L : Int) (hs : List Lk) (d : Addr), v = .ref d ∧ DarkAt Z K H d L hs ∧ DkIs L hs x ∧ H0 d = none ∧ ∀ la dx, H d = some (.ins Z.C dx (df L la)) → H0 la = none
  | _, x, v => ∃ (L : Int) (ps : List Pr) (h d b : Addr), v = .ref h ∧ HandAt Z K H h d b L ps ∧ HnIs L ps x
theorem RdIs.same {Z : Ad} {K : PySem.W.Frag} {H0 H H' : Hp} {x : Str} {v : V} (S : Same H H') : ∀ {j : Nat}, RdIs Z K H0 H j x v → RdIs Z K H0 H' j x v
  | 0, ⟨l, q, e, g, r⟩ => ⟨l, q, e, Same.sqT S g, r⟩
  | 1, ⟨L, hs, d, e, D, I, hd, F⟩ => ⟨L, hs, d, e, D.same S, I, hd, fun la dx e => by
    obtain ⟨dx', la', vs, g1, g2, g3⟩ := id D.ex
    have h2 := S _ _ g1
    rw [e] at h2
    rw [df_inj h2]
    exact F _ _ g1⟩
  | _ + 2, ⟨L, ps, h, d, b, e, A, r⟩ => ⟨L, ps, h, d, b, e, A.same S, r⟩
theorem RdIs.rd {Z : Ad} {K : PySem.W.Frag} {H0 H : Hp} {x : Str} {v : V} : ∀ {j : Nat}, RdIs Z K H0 H j x v → Rd j x
  | 0, ⟨l, q, e, g, a, b, c⟩ => ⟨l, a, b, c⟩
  | 1, ⟨L, hs, d, e, D, r, _⟩ => ⟨L, hs, r⟩
  | _ + 2, ⟨L, ps, h, d, b, e, A, r⟩ => ⟨L, ps, r⟩
def spLawRead (Z : Ad) (K : PySem.W.Frag) : Sp := fun vs H Q _ => ∃ (j : Nat) (x : Str), j < 3 ∧ vs = [.ref (rdA Z j), .str x] ∧ x.length ≤ 5000 ∧ Few 59 55 (TL.tl x) ∧ Few 44 53 (TL.tl x) ∧
  (∀ (H' : Hp) (p : Addr) (v : V), Same H H' → H' p = some (.lst [v]) → RdIs Z K H H' j x v → Q (.ref p) H') ∧ (¬ Rd j x → ∀ (H' : Hp) (p : Addr), Same H H' → H' p = some (.lst []) → Q (.ref p) H')
section
variable {P : Program} {w : World} {K : PySem.W.Frag} {mg : Str → Option Value} {base : Heap} {Z : Ad} {Y : AdX}
theorem held_read (T : Tx K w mg Z) (X : Ex P K mg Y) (f : Addr) (sp : Sp) (h : RdR Z K Y f sp) : HeldX P w K mg base (L2.CX P w) 10 f sp := by
  rcases h with ⟨rfl, rfl⟩ | ⟨rfl, rfl⟩ | ⟨rfl, rfl⟩
  · exact ⟨_, _, (ok_read_lookX T X).mono (by decide), T.F_read_look.kp, T.bb_read_look⟩
  · exact ⟨_, _, (ok_read_darkX T X).mono (by decide), T.F_read_dark.kp, T.bb_read_dark⟩
  · exact ⟨_, _, (ok_read_handX T X).mono (by decide), T.F_read_hand.kp, T.bb_read_hand⟩
theorem held_show (T : Tx K w mg Z) (f : Addr) (sp : Sp) (h : ShR Z K f sp) : Held P w K mg base 6 f sp := by
  rcases h with ⟨rfl, rfl⟩ | ⟨rfl, rfl⟩ | ⟨rfl, rfl⟩
  · exact ⟨_, _, (ok_show_look T).mono (by decide), T.F_show_look.kp, T.bb_show_look⟩
  · exact ⟨_, _, (ok_show_dark T).mono (by decide), T.F_show_dark.kp, T.bb_show_dark⟩
  · exact ⟨_, _, (ok_show_hand T).mono (by decide), T.F_show_hand.kp, T.bb_show_hand⟩
theorem ok_law_read (T : Tx K w mg Z) (X : Ex P K mg Y) : FnOk P w K mg base CX0 12 Z.a_law_read Z.d_law_read P_law_read (spLawRead Z K) := by
  refine T.F_law_read.ok sclaw_read (fun vs H Q E h => ?_) (fun cdv A outer s H vs Q E hr h => ?_)
  · obtain ⟨j, x, _, rfl, _⟩ := h
    rfl
  · obtain ⟨j, x, hj, rfl, hx, f59, f44, k1, k0⟩ := h
    refine ⟨_, (pss_cons (ps_set (i := 2) sclaw_read.nd rfl (Or.inl rfl) (pe_lst pa_nil))
      (pss_cons (ps_try_only (tb := fun W => tAsg (tLst (tCons (tCallRX 0 (RdR Z K Y) (WE W) (tCons (tVar 1) tNil)) tNil)) (gName 2)) (Wout := fun _ _ _ _ => False) rfl rfl ⟨rfl, by decide, Or.inl X.g_NoText⟩ takes0
        (fun W pn xe tk po => (pss_one (ps_set (i := 2) sclaw_read.nd rfl (Or.inl rfl) (pe_lst (pa_cons (pe_callRX (i := 0) (held_read T X) (hr.mono (by decide)) rfl (by first | exact Or.inl rfl | exact Or.inr (Or.inl rfl) | exact Or.inr (Or.inr rfl)) (fun σ => passAt tk σ) (pa_cons (pv 1) pa_nil)) pa_nil)))))
        (fun _ _ _ _ _ _ _ => (pss_one (ps_set (i := 2) sclaw_read.nd rfl (Or.inl rfl) (pe_lst pa_nil)))))
      (pss_one (ps_ret (pv 2))))), ?_⟩
    refine ⟨(by show 0 ≤ sizeLine; decide), fun p0 hp0 => ?_⟩
    have S1 := same_upd (o := HO.lst ([] : List V)) hp0
    generalize upd H p0 (HO.lst ([] : List V)) = H1 at S1 ⊢
    have yes : ∀ (v : V) (H2 : Hp), Same H1 H2 → RdIs Z K H H2 j x v → ∀ p, H2 p = none → Q (.ref p) (upd H2 p (.lst [v])) := fun v H2 S2 R p hp => k1 _ p v (S1.trans (S2.trans (same_upd hp))) upd_same (R.same (same_upd hp))
    have no : ¬ Rd j x → ∀ H2, Same H1 H2 → ∀ p, H2 p = none → Q (.ref p) (upd H2 p (.lst [])) := fun hno H2 S2 p hp => k0 hno _ p (S1.trans (S2.trans (same_upd hp))) upd_same
    have cases3 : j = 0 ∨ j = 1 ∨ j = 2 := by omega
    rcases cases3 with rfl | rfl | rfl
    · refine ⟨_, _, rfl, .inl ⟨rfl, rfl⟩, _, rfl, x, rfl, hx, fun l hw hs e H4 q S4 hq gq => ?_, fun hno dd H4 S4 hd hn => ⟨true, X.m_NoText, fun _ a ha => ?_, fun q => Bool.noConfusion q⟩⟩
      · exact ⟨(by show 1 ≤ sizeLine; decide), fun p hp => ⟨_, rfl, yes _ H4 S4 ⟨l, q, rfl, SqT.of gq, hw, hs, e⟩ p hp⟩⟩
      · exact ⟨(by show 0 ≤ sizeLine; decide), fun p hp => ⟨_, rfl, no (fun ⟨l, a, b, c⟩ => hno l a b c) H4 S4 p hp⟩⟩
    · refine ⟨_, _, rfl, .inr (.inl ⟨rfl, rfl⟩), _, rfl, x, rfl, hx, f59, fun L hs I H4 d hd S4 D4 F4 => ?_, fun hno dd H4 S4 hd hn => ⟨true, X.m_NoText, fun _ a ha => ?_, fun q => Bool.noConfusion q⟩⟩
      · exact ⟨(by show 1 ≤ sizeLine; decide), fun p hp => ⟨_, rfl, yes _ H4 S4 ⟨L, hs, d, rfl, D4, I, S1.free hd, fun la dx e => S1.free (F4 la dx e)⟩ p hp⟩⟩
      · exact ⟨(by show 0 ≤ sizeLine; decide), fun p hp => ⟨_, rfl, no (fun ⟨L, hs, I⟩ => hno L hs I) H4 S4 p hp⟩⟩
    · refine ⟨_, _, rfl, .inr (.inr ⟨rfl, rfl⟩), _, rfl, x, rfl, hx, f44, fun L ps I H4 h d b hh S4 A4 => ?_, fun hno dd H4 S4 hd hn => ⟨true, X.m_NoText, fun _ a ha => ?_, fun q => Bool.noConfusion q⟩⟩
      · exact ⟨(by show 1 ≤ sizeLine; decide), fun p hp => ⟨_, rfl, yes _ H4 S4 ⟨L, ps, h, d, b, rfl, A4, I⟩ p hp⟩⟩
      · exact ⟨(by show 0 ≤ sizeLine; decide), fun p hp => ⟨_, rfl, no (fun ⟨L, ps, I⟩ => hno L ps I) H4 S4 p hp⟩⟩
end
end KA
namespace KA
open PySem PySem.Spec PyProof.Rows L2 DP
theorem at_ex {α : Type} {l : List α} {d : Int} (h0 : 0 ≤ d) (h1 : d < (l.length : Int)) : ∃ c, atI l d = some c ∧ c ∈ l := by
  obtain ⟨j, rfl⟩ : ∃ j : Nat, d = (j : Int) := ⟨d.toNat, by omega⟩
  have hj : j < l.length := by omega
  exact ⟨l[j], atI_nat (List.getElem?_eq_getElem hj), List.getElem_mem hj⟩
theorem okc_cut {x : Str} (h : Okc x) (k : Nat) : Okc (cutS x none (some (k : Int))) ∧ Okc (cutS x (some (k : Int)) none) :=
  ⟨fun c hc => by rw [cutS_to] at hc; exact h c (List.mem_of_mem_take hc), fun c hc => by rw [cutS_from] at hc; exact h c (List.mem_of_mem_drop hc)⟩
theorem okc_app {x y : Str} (h : Okc x) (h' : Okc y) : Okc (x ++ y) := fun c hc => by
  rw [TL.tl_append] at hc
  exact (List.mem_append.mp hc).elim (h c) (h' c)
def signs1 : Str := "0123456789 -;:,atfromupx"
def signs2 : Str := (" !\"#$&'()*+,-./0123456789:;<=>?@ABCDEFGHIJKLMNOPQRSTUVWXYZ[\\]^_`" : Str) ++ "abcdefghijklmnopqrstuvwxyz{|}~"
theorem signs1_ok : ∀ c ∈ signs1.cps.toList, c < 0x110000 := by decide +kernel
theorem signs2_ok : ∀ c ∈ signs2.cps.toList, c < 0x110000 := by decide +kernel
def spSign : Sp := fun vs H Q _ => ∃ (t g : Addr) (n : Nat), vs = [.ref t] ∧ Tray H t g n ∧ n < 2 ^ 50 ∧ ∀ (H' : Hp) (c : Nat), c < 0x110000 → Tray H' t g (n + 2) → Keep t g H H' → Q (.str ⟨#[c]⟩) H'
def odds1 : List Str := ["", "at", "from", "upto", "At", "to", "0", "1", "-1", "-0", "01", "-01", "00", "+1", "1.0", "1_0", "--1"]
def odds2 : List Str := [StX2.timesT "9" 30, StX2.timesT "9" 60, ("-" : Str) ++ StX2.timesT "9" 60, StX2.timesT "9" 61, "at 0 0", "from 1 -3", "0 0", "3 3", "at 0", "x", "-"]
def odds3 : List Str := ["12", "12: 0 5", "3; at 0 1", " "]
def oddsL : List Str := odds1 ++ odds2 ++ odds3
theorem odds_ok : ∀ z ∈ oddsL, (∀ c ∈ z.cps.toList, c < 0x110000) ∧ z.length ≤ 61 := by decide +kernel
/-- two parts at most -/
def Thin (z : Str) : Prop := ∀ c, (c = 59 ∨ c = 44) → (sp c (TL.tl z)).length ≤ 2
theorem odds_thin : ∀ z ∈ oddsL, Thin z := fun z hz c hc => by
  have key : ∀ z ∈ oddsL, (sp 59 z.cps.toList).length ≤ 2 ∧ (sp 44 z.cps.toList).length ≤ 2 := by decide +kernel
  rcases hc with rfl | rfl
  · exact (key z hz).1
  · exact (key z hz).2
/-- no many parts more -/
def Ed (x y : Str) : Prop := ∀ c, (c = 59 ∨ c = 44) → ∀ N, Few c N (TL.tl x) → Few c (N + 14) (TL.tl y)
theorem sep_ne {c : Nat} (h : c = 59 ∨ c = 44) : c ≠ 32 := by omega
def spOdd : Sp := fun vs H Q _ => vs = [] ∧ ∀ (H' : Hp) (q : Addr), Same H H' → H q = none → H' q = some (.lst (oddsL.map V.str)) → Q (.ref q) H'
section
variable {P : Program} {w : World} {K : PySem.W.Frag} {mg : Str → Option Value} {base : Heap} {Z : Ad}
theorem ok_law_sign (T : Tx K w mg Z) : FnOk P w K mg base CX0 3 Z.a_law_sign Z.d_law_sign P_law_sign (spSign) := by
  refine T.F_law_sign.ok sclaw_sign (fun vs H Q E h => ?_) (fun cdv A outer s H vs Q E hr h => ?_)
  · obtain ⟨t, g, n, rfl, _⟩ := h
    rfl
  · obtain ⟨t, g, n, rfl, hT, hn, k⟩ := h
    have hb : ∀ m, m ≤ n + 10 → m < 2 ^ 60 := fun m hm => Nat.lt_of_le_of_lt hm (Nat.lt_of_lt_of_le (Nat.add_lt_add_right hn 10) (by decide))
    refine ⟨_, (C8.pss_cut (ps_if (pt_cmpR op_eq (pe_call (ok_law_draw T) (hr.mono (by decide)) (by rfl) T.g_law_draw T.F_law_draw.kp T.bb_law_draw .nil pass0 (pa_cons (pv 0) (pa_cons pe_int pa_nil))) pe_int (nomark _)) (pss_cons (ps_set (i := 1) sclaw_sign.nd rfl (Or.inl rfl) pe_str)
      (pss_one (ps_ret (pe_ix ix_str (pv 1) (pe_call (ok_law_draw T) (hr.mono (by decide)) (by rfl) T.g_law_draw T.F_law_draw.kp T.bb_law_draw .nil pass0 (pa_cons (pv 0) (pa_cons (pe_callB call_len_str (by rfl) T.b_len (by decide +kernel) (pa_cons (pv 1) pa_nil)) pa_nil))) (fun _ _ => rfl))))) pss_nil)
      (pss_cons (ps_set (i := 1) sclaw_sign.nd rfl (Or.inl rfl) pe_str)
      (pss_cons (ps_set (i := 1) sclaw_sign.nd rfl (Or.inl rfl) (pe_op op_add_str (pv 1) pe_str))
      (pss_one (ps_ret (pe_ix ix_str (pv 1) (pe_call (ok_law_draw T) (hr.mono (by decide)) (by rfl) T.g_law_draw T.F_law_draw.kp T.bb_law_draw .nil pass0 (pa_cons (pv 0) (pa_cons (pe_callB call_len_str (by rfl) T.b_len (by decide +kernel) (pa_cons (pv 1) pa_nil)) pa_nil))) (fun _ _ => rfl))))))), ?_⟩
    refine ⟨fun σ' H' => σ' = [some (.ref t), none] ∧ Tray H' t g (n + 1) ∧ Keep t g H H', ?_, ?_⟩
    · refine ⟨_, rfl, t, g, n, 2, rfl, hT, by decide, by decide, hb _ (by omega), fun H1 c c0 c1 T1 k1 => ⟨rfl, _, rfl, ite2 (fun _ => ?_) (fun _ => ⟨rfl, T1, k1⟩)⟩⟩
      refine ⟨_, rfl, _, rfl, _, rfl, signs1, rfl, (by decide +kernel), t, g, n + 1, (signs1.length : Int), rfl, T1, by decide, by decide, hb _ (by omega), fun H2 d d0 d1 T2 k2 => ?_⟩
      obtain ⟨e, he, hm⟩ := at_ex (l := signs1.cps.toList) d0 d1
      exact ⟨signs1, d, e, rfl, rfl, (by decide +kernel), he, k H2 e (signs1_ok e hm) T2 (k1.trans k2)⟩
    rintro σ1 H1 ⟨rfl, T1, k1⟩
    refine ⟨_, rfl, _, _, rfl, rfl, (by decide +kernel), ?_⟩
    refine ⟨_, rfl, _, rfl, _, rfl, signs2, rfl, (by decide +kernel), t, g, n + 1, (signs2.length : Int), rfl, T1, by decide, by decide, hb _ (by omega), fun H2 d d0 d1 T2 k2 => ?_⟩
    obtain ⟨e, he, hm⟩ := at_ex (l := signs2.cps.toList) d0 d1
    exact ⟨signs2, d, e, rfl, rfl, (by decide +kernel), he, k H2 e (signs2_ok e hm) T2 (k1.trans k2)⟩
theorem ok_law_odd (T : Tx K w mg Z) : FnOk P w K mg base CX0 1 Z.a_law_odd Z.d_law_odd P_law_odd (spOdd) := by
  refine T.F_law_odd.ok sclaw_odd (fun vs H Q E h => ?_) (fun cdv A outer s H vs Q E hr h => ?_)
  · obtain ⟨rfl, _⟩ := h
    rfl
  · obtain ⟨rfl, k⟩ := h
    refine ⟨_, (pss_cons (ps_set (i := 0) sclaw_odd.nd rfl (Or.inl rfl) (pe_lst (pa_cons pe_str (pa_cons pe_str (pa_cons pe_str (pa_cons pe_str (pa_cons pe_str (pa_cons pe_str (pa_cons pe_str (pa_cons pe_str (pa_cons pe_str (pa_cons pe_str (pa_cons pe_str (pa_cons pe_str (pa_cons pe_str (pa_cons pe_str (pa_cons pe_str (pa_cons pe_str (pa_cons pe_str pa_nil)))))))))))))))))))
      (pss_cons (ps_set (i := 0) sclaw_odd.nd rfl (Or.inl rfl) (pe_op op_cat (pv 0) (pe_lst (pa_cons (pe_op StX2.op_mulS pe_str pe_int) (pa_cons (pe_op StX2.op_mulS pe_str pe_int) (pa_cons (pe_op op_add_str pe_str (pe_op StX2.op_mulS pe_str pe_int)) (pa_cons (pe_op StX2.op_mulS pe_str pe_int) (pa_cons pe_str (pa_cons pe_str (pa_cons pe_str (pa_cons pe_str (pa_cons pe_str (pa_cons pe_str (pa_cons pe_str pa_nil))))))))))))))
      (pss_one (ps_ret (pe_op op_cat (pv 0) (pe_lst (pa_cons pe_str (pa_cons pe_str (pa_cons pe_str (pa_cons pe_str pa_nil)))))))))), ?_⟩
    refine ⟨(by decide +kernel), fun q0 h0 => ?_⟩
    have S0 := same_upd (o := HO.lst (odds1.map V.str)) h0
    have g0 : (upd H q0 (.lst (odds1.map V.str))) q0 = some (.lst (odds1.map V.str)) := upd_same
    refine ⟨_, rfl, "9", 30, rfl, rfl, by decide, by decide, by decide +kernel, by decide +kernel, by decide +kernel, "9", 60, rfl, rfl, by decide, by decide, by decide +kernel, by decide +kernel, by decide +kernel, "9", 60, rfl, rfl, by decide, by decide, by decide +kernel, by decide +kernel, by decide +kernel, _, _, rfl, rfl, by decide +kernel, "9", 61, rfl, rfl, by decide, by decide, by decide +kernel, by decide +kernel, by decide +kernel, (by decide +kernel), fun q1 h1 => ?_⟩
    have S1 := same_upd (o := HO.lst (odds2.map V.str)) h1
    refine ⟨q0, q1, odds1.map V.str, odds2.map V.str, rfl, rfl, S1 _ _ g0, upd_same, (by decide +kernel), fun q2 h2 => ?_⟩
    have S2 := same_upd (o := HO.lst (odds1.map V.str ++ odds2.map V.str)) h2
    refine ⟨_, rfl, (by decide +kernel), fun q3 h3 => ?_⟩
    have S3 := same_upd (o := HO.lst (odds3.map V.str)) h3
    refine ⟨q2, q3, odds1.map V.str ++ odds2.map V.str, odds3.map V.str, rfl, rfl, S3 _ _ upd_same, upd_same, (by decide +kernel), fun q4 h4 => ?_⟩
    have SA := ((S0.trans S1).trans S2).trans S3
    refine k _ q4 (SA.trans (same_upd h4)) (SA.free h4) ?_
    have e : oddsL.map V.str = odds1.map V.str ++ odds2.map V.str ++ odds3.map V.str := by unfold oddsL; rw [List.map_append, List.map_append]
    rw [e]
    exact upd_same
end
end KA
namespace KA
open PySem PySem.Spec PyProof.Rows L2
def Wt (j : Nat) (ws : List Str) : Nat := (ws.map fun w => w.length + j).sum
theorem Wt_app (j : Nat) (a b : List Str) : Wt j (a ++ b) = Wt j a + Wt j b := by unfold Wt; rw [List.map_append, List.sum_append]
theorem Wt_cut (j k : Nat) (ws : List Str) : Wt j (ws.take k) + Wt j (ws.drop k) = Wt j ws := by rw [← Wt_app, List.take_append_drop]
theorem Wt_drop (j : Nat) : ∀ (ws : List Str) (k : Nat), Wt j (ws.drop (k + 1)) ≤ Wt j (ws.drop k)
  | [], k => by simp
  | w :: ws, 0 => by
    rw [List.drop_zero, List.drop_succ_cons, List.drop_zero]
    unfold Wt
    rw [List.map_cons, List.sum_cons]; omega
  | w :: ws, k + 1 => by rw [List.drop_succ_cons, List.drop_succ_cons]; exact Wt_drop j ws k
theorem Wt_set (j : Nat) (u : Str) : ∀ (ws : List Str) (a : Nat), Wt j (ws.set a u) ≤ Wt j ws + (u.length + j)
  | [], a => by simp [Wt]
  | w :: ws, 0 => by
    rw [List.set_cons_zero]
    unfold Wt
    rw [List.map_cons, List.map_cons, List.sum_cons, List.sum_cons]; omega
  | w :: ws, a + 1 => by
    have h := Wt_set j u ws a
    rw [List.set_cons_succ]
    unfold Wt at h ⊢
    rw [List.map_cons, List.map_cons, List.sum_cons, List.sum_cons]; omega
theorem Wt_mem (j : Nat) {w : Str} : ∀ {ws : List Str}, w ∈ ws → w.length + j ≤ Wt j ws
  | v :: ws, h => by
    unfold Wt
    rw [List.map_cons, List.sum_cons]
    rcases List.mem_cons.mp h with rfl | h
    · omega
    · have := Wt_mem j h
      unfold Wt at this
      omega
theorem join_le (y : Str) : ∀ ws : List Str, (Str.join y ws).length ≤ Wt y.length ws
  | [] => Nat.zero_le _
  | [x] => by show x.length ≤ _; simp [Wt]
  | x :: z :: r => by
    have h := join_le y (z :: r)
    show (x ++ y ++ Str.join y (z :: r)).length ≤ _
    rw [TL.len_tl, TL.tl_append, TL.tl_append, List.length_append, List.length_append, ← TL.len_tl, ← TL.len_tl, ← TL.len_tl]
    unfold Wt at h ⊢
    rw [List.map_cons, List.sum_cons]; omega
theorem join_eqW (y : Str) : ∀ ws : List Str, ws ≠ [] → (Str.join y ws).length + y.length = Wt y.length ws
  | [], h => absurd rfl h
  | [x], _ => by show x.length + _ = _; simp [Wt]
  | x :: z :: r, _ => by
    have h := join_eqW y (z :: r) (by simp)
    show (x ++ y ++ Str.join y (z :: r)).length + _ = _
    rw [TL.len_tl, TL.tl_append, TL.tl_append, List.length_append, List.length_append, ← TL.len_tl, ← TL.len_tl, ← TL.len_tl]
    unfold Wt at h ⊢
    rw [List.map_cons, List.sum_cons]; omega
end KA
namespace KA
open PySem PySem.Spec PyProof.Rows L2 DP
/-- the tray is drawn from, some text comes back -/
def spParts (K : PySem.W.Frag) (m : Nat) : Sp := fun vs H Q _ => ∃ (t g q : Addr) (n : Nat) (x : Str) (zs : List Str), vs = [.ref t, .str x, .ref q] ∧ Tray H t g n ∧ n + m < 2 ^ 49 ∧ q ≠ t ∧ q ≠ g ∧ H q = some (.lst (zs.map V.str)) ∧ 0 < zs.length ∧ zs.length ≤ 100 ∧ (∀ z ∈ zs, Okc z ∧ z.length ≤ 100 ∧ Thin z) ∧ x.length ≤ 100000 ∧ Okc x ∧
  ∀ (H' : Hp) (y : Str), Okc y → y.length ≤ 4 * x.length + 300 → Ed x y → Tray H' t g (n + m) → Keep t g H H' → Q (.str y) H'
theorem cut_to {ws : List Str} {k : Nat} : cutV (ws.map V.str) none (some (k : Int)) = (ws.take k).map V.str := by
  unfold cutV
  rw [HT.sIx_none, HT.sIx_nat, List.drop_zero, Nat.sub_zero, List.length_map, ← List.map_take]
  by_cases h : k ≤ ws.length
  · rw [Nat.min_eq_left h]
  · rw [Nat.min_eq_right (by omega), List.take_of_length_le (by omega), List.take_of_length_le (by omega)]
theorem cut_fr {ws : List Str} {k : Nat} : cutV (ws.map V.str) (some (k : Int)) none = (ws.drop k).map V.str := by
  unfold cutV
  rw [HT.sIx_none, HT.sIx_nat, List.length_map, ← List.map_drop]
  by_cases h : k ≤ ws.length
  · rw [Nat.min_eq_left h, List.take_of_length_le (by rw [List.length_map, List.length_drop]; omega)]
  · rw [Nat.min_eq_right (by omega), Nat.sub_self, List.take_zero, show ws.drop k = [] from List.drop_eq_nil_of_le (by omega)]; rfl
theorem cut_mid {ws : List Str} {k : Nat} (h : k < ws.length) : cutV (ws.map V.str) (some (k : Int)) (some ((k : Int) + 1)) = ((ws.drop k).take 1).map V.str := by
  unfold cutV
  rw [show (k : Int) + 1 = ((k + 1 : Nat) : Int) from rfl, HT.sIx_nat, HT.sIx_nat, List.length_map, Nat.min_eq_left (by omega), Nat.min_eq_left (by omega), ← List.map_drop, ← List.map_take]
  congr 2
  omega
theorem Wt_eq (j : Nat) : ∀ ws : List Str, Wt j ws = (ws.map (·.length)).sum + ws.length * j
  | [] => by simp [Wt]
  | w :: ws => by
    have h := Wt_eq j ws
    unfold Wt at h ⊢
    rw [List.map_cons, List.sum_cons, h, List.map_cons, List.sum_cons, List.length_cons, Nat.succ_mul]
    omega
theorem in_joinL {S : List Nat} {c : Nat} : ∀ {parts : List (List Nat)}, c ∈ TL.joinL S parts → c ∈ S ∨ ∃ p ∈ parts, c ∈ p
  | [], h => by cases h
  | [q], h => .inr ⟨q, List.mem_cons_self, h⟩
  | q :: r :: t, h => by
    have h' : c ∈ q ++ (S ++ TL.joinL S (r :: t)) := h
    rcases List.mem_append.mp h' with e | e
    · exact .inr ⟨q, List.mem_cons_self, e⟩
    · rcases List.mem_append.mp e with e | e
      · exact .inl e
      · rcases in_joinL e with z | ⟨p, hp, hc⟩
        · exact .inl z
        · exact .inr ⟨p, List.mem_cons_of_mem _ hp, hc⟩
theorem okc_join {J : Str} {ws : List Str} (h : Okc J) (h' : ∀ w ∈ ws, Okc w) : Okc (Txt.join J ws) := fun c hc => by
  rw [TL.join_eq, TL.tl_join] at hc
  rcases in_joinL hc with z | ⟨p, hp, hcp⟩
  · exact h c z
  · obtain ⟨w, hw, rfl⟩ := List.mem_map.mp hp
    exact h' w hw c hcp
/-- four joints -/
def JointOk (J : Str) : Prop := J = " " ∨ J = "; " ∨ J = ", " ∨ J = ": "
theorem joint_facts {J : Str} (h : JointOk J) : (J.length == 0) = false ∧ J.length ≤ 2 ∧ TL.tl J ≠ [] ∧ J.cps.all (· < 256) = true ∧ Okc J := by
  rcases h with rfl | rfl | rfl | rfl <;> exact ⟨by decide +kernel, by decide +kernel, by decide +kernel, by decide +kernel, by unfold Okc; decide +kernel⟩
theorem ixN_nat {n k : Nat} (h : k < n) : ixN n (k : Int) = some k := by
  unfold ixN
  rw [if_pos (by omega), if_pos (by omega)]; rfl
theorem tray_upd {H : Hp} {t g p : Addr} {n : Nat} {o : HO} (T : Tray H t g n) (h1 : p ≠ t) (h2 : p ≠ g) : Tray (upd H p o) t g n := by
  obtain ⟨⟨gs, l, f, c, e1, e2, r⟩, hne⟩ := T
  exact ⟨⟨gs, l, f, c, (upd_ne (Ne.symm h1)).trans e1, (upd_ne (Ne.symm h2)).trans e2, r⟩, hne⟩
theorem joint_tl {J : Str} (h : JointOk J) : TL.tl J = [32] ∨ ∃ x, x ≠ 32 ∧ TL.tl J = [x, 32] := by
  rcases h with rfl | rfl | rfl | rfl
  · exact .inl rfl
  · exact .inr ⟨59, by decide, rfl⟩
  · exact .inr ⟨44, by decide, rfl⟩
  · exact .inr ⟨58, by decide, rfl⟩
/-- the parts put together have few that the text has not -/
def EdJ (x J : Str) (vs : List Str) : Prop := ∀ c, (c = 59 ∨ c = 44) → ∀ S : List (List Nat), (∀ p ∈ sp c (TL.tl x), p ∈ S) → FrJ c (TL.tl J) S 12 (vs.map TL.tl)
/-- parts that are all well -/
structure PartsOk (j B : Nat) (ws : List Str) : Prop where
  ok : ∀ w ∈ ws, Okc w
  wt : Wt j ws ≤ B
section
variable {P : Program} {w : World} {K : PySem.W.Frag} {mg : Str → Option Value} {base : Heap} {Z : Ad}
theorem ok_law_parts_spoilt (T : Tx K w mg Z) : FnOk P w K mg base CX0 3 Z.a_law_parts_spoilt Z.d_law_parts_spoilt P_law_parts_spoilt (spParts K 10) := by
  refine T.F_law_parts_spoilt.ok sclaw_parts_spoilt (fun vs H Q E h => ?_) (fun cdv A outer s H vs Q E hr h => ?_)
  · obtain ⟨t, g, q, n, x, zs, rfl, _⟩ := h
    rfl
  · obtain ⟨t, g, q, n, x, zs, rfl, hT, hn, qt, qg, hq, h0, h100, hz, hx, hox, k⟩ := h
    refine ⟨_, (C8.pss_cut (ps_set (i := 3) sclaw_parts_spoilt.nd rfl (Or.inl rfl) (pe_ix (ixL (K := K)) (pe_lst (pa_cons pe_str (pa_cons pe_str (pa_cons pe_str (pa_cons pe_str pa_nil))))) (pe_call (ok_law_draw T) (hr.mono (by decide)) (by rfl) T.g_law_draw T.F_law_draw.kp T.bb_law_draw .nil pass0 (pa_cons (pv 0) (pa_cons pe_int pa_nil))) (fun _ _ => rfl)))
      (C8.pss_cut (ps_set (i := 4) sclaw_parts_spoilt.nd rfl (Or.inl rfl) (pe_m1 PySem.F.slot_str_split PySem.F.type_str_split mt_split (pv 1) (pv 3)))
      (C8.pss_cut (ps_set (i := 5) sclaw_parts_spoilt.nd rfl (Or.inl rfl) (pe_call (ok_law_draw T) (hr.mono (by decide)) (by rfl) T.g_law_draw T.F_law_draw.kp T.bb_law_draw .nil pass0 (pa_cons (pv 0) (pa_cons (pe_callB (lenK (K := K)) (by rfl) T.b_len (by decide +kernel) (pa_cons (pv 4) pa_nil)) pa_nil))))
      (C8.pss_cut (ps_set (i := 6) sclaw_parts_spoilt.nd rfl (Or.inl rfl) (pe_call (ok_law_draw T) (hr.mono (by decide)) (by rfl) T.g_law_draw T.F_law_draw.kp T.bb_law_draw .nil pass0 (pa_cons (pv 0) (pa_cons (pe_callB (lenK (K := K)) (by rfl) T.b_len (by decide +kernel) (pa_cons (pv 4) pa_nil)) pa_nil))))
      (C8.pss_cut (ps_set (i := 7) sclaw_parts_spoilt.nd rfl (Or.inl rfl) (pe_call (ok_law_draw T) (hr.mono (by decide)) (by rfl) T.g_law_draw T.F_law_draw.kp T.bb_law_draw .nil pass0 (pa_cons (pv 0) (pa_cons pe_int pa_nil))))
      (C8.pss_cut (ps_if (pt_cmpR op_eq (pv 7) pe_int (nomark _)) (pss_one (ps_set (i := 4) sclaw_parts_spoilt.nd rfl (Or.inl rfl) (pe_op op_cat (pe_slice (slL (K := K)) (pv 4) po_none (po_some (pv 5))) (pe_slice (slL (K := K)) (pv 4) (po_some (pe_op op_add (pv 5) pe_int)) po_none)))) (pss_one (ps_if (pt_cmpR op_eq (pv 7) pe_int (nomark _)) (pss_one (ps_set (i := 4) sclaw_parts_spoilt.nd rfl (Or.inl rfl) (pe_op op_cat (pe_op op_cat (pe_slice (slL (K := K)) (pv 4) po_none (po_some (pv 5))) (pe_slice (slL (K := K)) (pv 4) (po_some (pv 5)) (po_some (pe_op op_add (pv 5) pe_int)))) (pe_slice (slL (K := K)) (pv 4) (po_some (pv 5)) po_none)))) (pss_one (ps_if (pt_cmpR op_eq (pv 7) pe_int (nomark _)) (pss_one (ps_asg (pe_tup (pa_cons (pe_ix (ixL (K := K)) (pv 4) (pv 6) (fun _ _ => rfl)) (pa_cons (pe_ix (ixL (K := K)) (pv 4) (pv 5) (fun _ _ => rfl)) pa_nil))) (tupK (K := K) (by rfl) (pgs_cons (pg_sub (pv 4) (pv 5) set_list) (pgs_cons (pg_sub (pv 4) (pv 6) set_list) pgs_nil))))) (pss_one (ps_asg (pe_ix (ixL (K := K)) (pv 2) (pe_call (ok_law_draw T) (hr.mono (by decide)) (by rfl) T.g_law_draw T.F_law_draw.kp T.bb_law_draw .nil pass0 (pa_cons (pv 0) (pa_cons (pe_callB (lenK (K := K)) (by rfl) T.b_len (by decide +kernel) (pa_cons (pv 2) pa_nil)) pa_nil))) (fun _ _ => rfl)) (pg_sub (pv 4) (pv 5) set_list))))))))
      (pss_one (ps_ret (pe_m1 PySem.F.slot_str_join PySem.F.type_str_join mt_join (pv 3) (pv 4)))))))))), ?_⟩
    have hb : ∀ m, m ≤ n + 10 → m < 2 ^ 60 := fun m hm => Nat.lt_of_le_of_lt hm (Nat.lt_trans hn (by decide))
    have big : ∀ {m : Nat}, m ≤ 1000000 → m ≤ sizeLine := fun {m} h => Nat.le_trans h (by decide)
    -- joint
    refine ⟨fun σ' H' => ∃ J : Str, σ' = [some (.ref t), some (.str x), some (.ref q), some (.str J), none, none, none, none] ∧ JointOk J ∧ Tray H' t g (n + 1) ∧ Keep t g H H', ?_, ?_⟩
    · refine ⟨(by show 4 ≤ sizeLine; decide), fun q1 hq1 => ?_⟩
      obtain ⟨q1t, q1g⟩ := tray_ne hT hq1
      have S1 := same_upd (o := HO.lst [V.str " ", .str "; ", .str ", ", .str ": "]) hq1
      refine ⟨_, rfl, t, g, n, 4, rfl, hT.same S1, by decide, by decide, hb _ (by omega), fun H1 c c0 c1 T1 k1 => ?_⟩
      obtain ⟨J, hJ, oJ⟩ : ∃ J : Str, atI [V.str " ", .str "; ", .str ", ", .str ": "] c = some (.str J) ∧ JointOk J := by
        have : c = 0 ∨ c = 1 ∨ c = 2 ∨ c = 3 := by omega
        rcases this with e | e | e | e <;> subst e
        · exact ⟨" ", rfl, .inl rfl⟩
        · exact ⟨"; ", rfl, .inr (.inl rfl)⟩
        · exact ⟨", ", rfl, .inr (.inr (.inl rfl))⟩
        · exact ⟨": ", rfl, .inr (.inr (.inr rfl))⟩
      exact ⟨q1, _, _, _, rfl, rfl, SqL.of (k1 _ _ upd_same q1t q1g), hJ, J, rfl, oJ, T1, (Keep.of_same S1).trans k1⟩
    rintro σ1 H1 ⟨J, rfl, oJ, T1, k1⟩
    obtain ⟨j1, j2, j3, j4, j5⟩ := joint_facts oJ
    obtain ⟨sl, sw⟩ := split_len (x := x) (y := J) j3 j4
    have sj := join_split (x := x) (y := J) j3 j4
    -- parts
    refine ⟨fun σ' H' => ∃ (p : Addr) (ws : List Str), σ' = [some (.ref t), some (.str x), some (.ref q), some (.str J), some (.ref p), none, none, none] ∧ p ≠ t ∧ p ≠ g ∧ H p = none ∧ H' p = some (.lst (ws.map V.str)) ∧ 0 < ws.length ∧ ws.length ≤ x.length + 1 ∧ (∀ w ∈ ws, Okc w ∧ w.length ≤ x.length) ∧ Wt J.length ws ≤ x.length + 2 ∧ TL.joinL (TL.tl J) (ws.map TL.tl) = TL.tl x ∧ Tray H' t g (n + 1) ∧ Keep t g H H', ?_, ?_⟩
    · refine ⟨_, rfl, ⟨_, rfl⟩, _, rfl, _, _, rfl, rfl, j1, big (by omega), fun p hp => ?_⟩
      obtain ⟨pt, pg⟩ := tray_ne T1 hp
      have Sp := same_upd (o := HO.lst ((Txt.split x J).map V.str)) hp
      have hne : Txt.split x J ≠ [] := fun z => by
        have := TL.split_spl x J j3 (TL.kind_ok j4)
        rw [z] at this
        exact spl_ne _ _ _ _ this.symm
      have hw := join_eqW J (Txt.split x J) hne
      rw [← TL.join_eq, sj] at hw
      refine ⟨p, Txt.split x J, rfl, pt, pg, ?_, upd_same, List.length_pos_iff.mpr hne, sl, fun w hw => ⟨fun c hc => hox c ?_, sw w hw⟩, by omega, by rw [← TL.tl_join, ← TL.join_eq, sj], T1.same Sp, k1.trans (Keep.of_same Sp)⟩
      · cases e : H p with
        | none => rfl
        | some o =>
          rw [k1 _ _ e pt pg] at hp
          cases hp
      · rw [← sj, TL.join_eq, TL.tl_join]
        exact mem_joinL hc (List.mem_map.mpr ⟨w, hw, rfl⟩)
    rintro σ2 H2 ⟨p, ws, rfl, pt, pg, hpn, gp, w0, wl, wok, wW, wj, T2, k2⟩
    -- at, spot, lot
    refine ⟨fun σ' H' => ∃ a : Nat, σ' = [some (.ref t), some (.str x), some (.ref q), some (.str J), some (.ref p), some (.int (a : Int)), none, none] ∧ a < ws.length ∧ H' p = some (.lst (ws.map V.str)) ∧ Tray H' t g (n + 2) ∧ Keep t g H H', ?_, ?_⟩
    · refine ⟨_, rfl, _, rfl, p, _, rfl, .inl (SqL.of gp), t, g, n + 1, ((ws.map V.str).length : Int), rfl, T2, by rw [List.length_map]; omega, ?_, hb _ (by omega), fun H3 c c0 c1 T3 k3 => ⟨c.toNat, ?_, ?_, k3 _ _ gp pt pg, T3, k2.trans k3⟩⟩
      · rw [List.length_map]
        exact Nat.lt_of_le_of_lt (by omega : (ws.length : Int).natAbs ≤ 100001) (by decide)
      · rw [Int.toNat_of_nonneg c0]; rfl
      · rw [List.length_map] at c1; omega
    rintro σ3 H3 ⟨a, rfl, ha, gp3, T3, k3⟩
    refine ⟨fun σ' H' => ∃ b : Nat, σ' = [some (.ref t), some (.str x), some (.ref q), some (.str J), some (.ref p), some (.int (a : Int)), some (.int (b : Int)), none] ∧ b < ws.length ∧ H' p = some (.lst (ws.map V.str)) ∧ Tray H' t g (n + 3) ∧ Keep t g H H', ?_, ?_⟩
    · refine ⟨_, rfl, _, rfl, p, _, rfl, .inl (SqL.of gp3), t, g, n + 2, ((ws.map V.str).length : Int), rfl, T3, by rw [List.length_map]; omega, ?_, hb _ (by omega), fun H4 c c0 c1 T4 k4 => ⟨c.toNat, ?_, ?_, k4 _ _ gp3 pt pg, T4, k3.trans k4⟩⟩
      · rw [List.length_map]
        exact Nat.lt_of_le_of_lt (by omega : (ws.length : Int).natAbs ≤ 100001) (by decide)
      · rw [Int.toNat_of_nonneg c0]; rfl
      · rw [List.length_map] at c1; omega
    rintro σ4 H4 ⟨b, rfl, hb', gp4, T4, k4⟩
    refine ⟨fun σ' H' => ∃ lot : Int, σ' = [some (.ref t), some (.str x), some (.ref q), some (.str J), some (.ref p), some (.int (a : Int)), some (.int (b : Int)), some (.int lot)] ∧ H' p = some (.lst (ws.map V.str)) ∧ Tray H' t g (n + 4) ∧ Keep t g H H', ?_, ?_⟩
    · exact ⟨_, rfl, t, g, n + 3, 5, rfl, T4, by decide, by decide, hb _ (by omega), fun H5 c c0 c1 T5 k5 => ⟨c, rfl, k5 _ _ gp4 pt pg, T5, k4.trans k5⟩⟩
    rintro σ5 H5 ⟨lot, rfl, gp5, T5, k5⟩
    -- the parts otherwise
    refine ⟨fun σ' H' => ∃ (p' : Addr) (vs : List Str), σ' = [some (.ref t), some (.str x), some (.ref q), some (.str J), some (.ref p'), some (.int (a : Int)), some (.int (b : Int)), some (.int lot)] ∧ H' p' = some (.lst (vs.map V.str)) ∧ (∀ w ∈ vs, Okc w) ∧ Wt J.length vs ≤ 4 * x.length + 300 ∧ EdJ x J vs ∧ Tray H' t g (n + 5) ∧ Keep t g H H', ?_, ?_⟩
    · have okt : ∀ w ∈ ws, Okc w := fun w h => (wok w h).1
      have jt := joint_tl oJ
      have sw' : ∀ {c : Nat} {S : List (List Nat)}, (∀ p ∈ sp c (TL.tl x), p ∈ S) → ∀ p ∈ sp c (TL.joinL (TL.tl J) (ws.map TL.tl)), p ∈ S := fun {c S} h => by rw [wj]; exact h
      have wc := Wt_cut J.length a ws
      have wd := Wt_drop J.length ws a
      have at' : ∀ {i : Nat} (h : i < ws.length), atI (ws.map V.str) (i : Int) = some (.str ws[i]) := fun {i} h => atI_nat (by rw [List.getElem?_map, List.getElem?_eq_getElem h]; rfl)
      refine ⟨_, rfl, rfl, _, rfl, ite2 (fun _ => ?_) (fun _ => ⟨_, rfl, rfl, _, rfl, ite2 (fun _ => ?_) (fun _ => ⟨_, rfl, rfl, _, rfl, ite2 (fun _ => ?_) (fun _ => ?_)⟩)⟩)⟩
      · refine ⟨_, rfl, _, rfl, _, rfl, p, _, rfl, SqL.of gp5, fun r1 h1 => ?_⟩
        rw [cut_to]
        have S1 := same_upd (o := HO.lst ((ws.take a).map V.str)) h1
        have g1 : (upd H5 r1 (.lst ((ws.take a).map V.str))) r1 = some (.lst ((ws.take a).map V.str)) := upd_same
        refine ⟨_, rfl, _, rfl, _, _, rfl, rfl, _, rfl, p, _, rfl, SqL.of (S1 _ _ gp5), fun r2 h2 => ?_⟩
        rw [show (a : Int) + 1 = ((a + 1 : Nat) : Int) from rfl, cut_fr]
        have S2 := same_upd (o := HO.lst ((ws.drop (a + 1)).map V.str)) h2
        refine ⟨r1, r2, _, _, rfl, rfl, S2 _ _ g1, upd_same, ?_, fun r3 h3 => ?_⟩
        · rw [List.length_map, List.length_map, List.length_take, List.length_drop]
          exact big (by omega)
        have SA := (S1.trans S2).trans (same_upd (o := HO.lst ((ws.take a).map V.str ++ (ws.drop (a + 1)).map V.str)) h3)
        refine ⟨r3, ws.take a ++ ws.drop (a + 1), rfl, by rw [List.map_append]; exact upd_same, fun w hw => ?_, by rw [Wt_app]; omega, fun c hc S hS => by rw [List.map_append, List.map_take, List.map_drop]; exact few_out (sep_ne hc) jt (sw' hS) a, (T5.same SA).up (by omega), k5.trans (Keep.of_same SA)⟩
        exact (List.mem_append.mp hw).elim (fun h => okt w (List.mem_of_mem_take h)) fun h => okt w (List.mem_of_mem_drop h)
      · refine ⟨_, rfl, _, rfl, _, rfl, p, _, rfl, SqL.of gp5, fun r1 h1 => ?_⟩
        rw [cut_to]
        have S1 := same_upd (o := HO.lst ((ws.take a).map V.str)) h1
        have g1 : (upd H5 r1 (.lst ((ws.take a).map V.str))) r1 = some (.lst ((ws.take a).map V.str)) := upd_same
        refine ⟨_, rfl, _, rfl, _, rfl, _, rfl, _, _, rfl, rfl, _, rfl, p, _, rfl, SqL.of (S1 _ _ gp5), fun r2 h2 => ?_⟩
        rw [cut_mid ha]
        have S2 := same_upd (o := HO.lst (((ws.drop a).take 1).map V.str)) h2
        refine ⟨r1, r2, _, _, rfl, rfl, S2 _ _ g1, upd_same, ?_, fun r3 h3 => ?_⟩
        · rw [List.length_map, List.length_map, List.length_take, List.length_take, List.length_drop]
          exact big (by omega)
        have S3 := (S1.trans S2).trans (same_upd (o := HO.lst ((ws.take a).map V.str ++ ((ws.drop a).take 1).map V.str)) h3)
        refine ⟨_, rfl, _, rfl, _, rfl, p, _, rfl, SqL.of (S3 _ _ gp5), fun r4 h4 => ?_⟩
        rw [cut_fr]
        have S4 := same_upd (o := HO.lst ((ws.drop a).map V.str)) h4
        refine ⟨r3, r4, _, _, rfl, rfl, S4 _ _ upd_same, upd_same, ?_, fun r5 h5 => ?_⟩
        · rw [List.length_append, List.length_map, List.length_map, List.length_map, List.length_take, List.length_take, List.length_drop]
          exact big (by omega)
        have SA := (S3.trans S4).trans (same_upd (o := HO.lst ((ws.take a).map V.str ++ ((ws.drop a).take 1).map V.str ++ (ws.drop a).map V.str)) h5)
        have wm : Wt J.length ((ws.drop a).take 1) ≤ Wt J.length ws := by
          have := Wt_cut J.length 1 (ws.drop a)
          omega
        refine ⟨r5, ws.take a ++ (ws.drop a).take 1 ++ ws.drop a, rfl, by rw [List.map_append, List.map_append]; exact upd_same, fun w hw => ?_, by rw [Wt_app, Wt_app]; omega, fun c hc S hS => by rw [List.map_append, List.map_append, List.map_take, List.map_take, List.map_drop]; exact few_twice (sep_ne hc) jt (sw' hS) a, (T5.same SA).up (by omega), k5.trans (Keep.of_same SA)⟩
        rcases List.mem_append.mp hw with h | h
        · exact (List.mem_append.mp h).elim (fun h => okt w (List.mem_of_mem_take h)) fun h => okt w (List.mem_of_mem_drop (List.mem_of_mem_take h))
        · exact okt w (List.mem_of_mem_drop h)
      · refine ⟨_, rfl, _, rfl, p, _, _, _, rfl, rfl, SqL.of gp5, at' hb', _, rfl, _, rfl, p, _, _, _, rfl, rfl, SqL.of gp5, at' ha, (by show 2 ≤ sizeLine; decide), fun tp htp => ?_⟩
        have St := same_upd (o := HO.tup [V.str ws[b], .str ws[a]]) htp
        have gt : (upd H5 tp (.tup [V.str ws[b], .str ws[a]])) tp = some (.tup [V.str ws[b], .str ws[a]]) := upd_same
        have gp6 := St _ _ gp5
        have T6 := T5.same St
        have k6 := k5.trans (Keep.of_same St)
        generalize upd H5 tp (.tup [V.str ws[b], .str ws[a]]) = H6 at gt gp6 T6 k6 ⊢
        have lset : ∀ {n : Nat} {v : V}, ((ws.map V.str).set n v).length = ws.length := fun {n v} => by rw [List.length_set, List.length_map]
        refine ⟨tp, _, rfl, SqT.of gt, rfl, _, _, rfl, _, rfl, _, rfl, p, _, _, a, rfl, rfl, gp6, ixN_nat (by rw [List.length_map]; exact ha), _, _, rfl, _, rfl, _, rfl, p, _, _, b, rfl, rfl, upd_same, ixN_nat (by rw [lset]; exact hb'), rfl, ?_⟩
        have la := (wok _ (List.getElem_mem ha)).2
        have lb := (wok _ (List.getElem_mem hb')).2
        have s1 := Wt_set J.length ws[b] ws a
        have s2 := Wt_set J.length ws[a] (ws.set a ws[b]) b
        refine ⟨p, (ws.set a ws[b]).set b ws[a], rfl, by rw [upd_same, List.map_set, List.map_set], fun w hw => ?_, by omega, fun c hc S hS => ?_, (tray_upd (tray_upd T6 pt pg) pt pg).up (by omega), fun c o e ct cg => ?_⟩
        · rcases List.mem_or_eq_of_mem_set hw with h | h
          · rcases List.mem_or_eq_of_mem_set h with h | h
            · exact okt w h
            · rw [h]; exact okt _ (List.getElem_mem hb')
          · rw [h]; exact okt _ (List.getElem_mem ha)
        · have := few_swap (sep_ne hc) jt (sw' hS) (a := a) (b := b) (by rw [List.length_map]; exact ha) (by rw [List.length_map]; exact hb')
          rw [List.getElem_map, List.getElem_map] at this
          rw [List.map_set, List.map_set]; exact this
        · have cp : c ≠ p := by
            rintro rfl
            rw [hpn] at e; cases e
          rw [upd_ne cp, upd_ne cp]
          exact k6 _ _ e ct cg
      · have hq5 := k5 _ _ hq qt qg
        refine ⟨_, rfl, _, rfl, _, rfl, q, _, rfl, .inl (SqL.of hq5), t, g, n + 4, ((zs.map V.str).length : Int), rfl, T5, by rw [List.length_map]; omega, ?_, hb _ (by omega), fun H6 c c0 c1 T6 k6 => ?_⟩
        · rw [List.length_map]
          exact Nat.lt_of_le_of_lt (by omega : (zs.length : Int).natAbs ≤ 100) (by decide)
        rw [List.length_map] at c1
        obtain ⟨j, rfl⟩ : ∃ j : Nat, c = (j : Int) := ⟨c.toNat, by omega⟩
        have hj : j < zs.length := by omega
        obtain ⟨z1, z2, z3⟩ := hz _ (List.getElem_mem hj)
        have gp6 := k6 _ _ gp5 pt pg
        refine ⟨q, _, _, _, rfl, rfl, SqL.of (k6 _ _ hq5 qt qg), atI_nat (by rw [List.getElem?_map, List.getElem?_eq_getElem hj]; rfl), _, rfl, _, rfl, p, _, _, a, rfl, rfl, gp6, ixN_nat (by rw [List.length_map]; exact ha), ?_⟩
        have s1 := Wt_set J.length zs[j] ws a
        refine ⟨p, ws.set a zs[j], rfl, by rw [upd_same, List.map_set], fun w hw => ?_, by omega, fun c hc S hS => ?_, (tray_upd T6 pt pg).up (by omega), fun c o e ct cg => ?_⟩
        · rcases List.mem_or_eq_of_mem_set hw with h | h
          · exact okt w h
          · rw [h]; exact z1
        · rw [List.map_set]
          exact few_odd (sep_ne hc) jt (sw' hS) (by rw [List.length_map]; exact ha) (z3 c hc)
        · have cp : c ≠ p := by
            rintro rfl
            rw [hpn] at e; cases e
          rw [upd_ne cp]
          exact k6 _ _ (k5 _ _ e ct cg) ct cg
    rintro σ6 H6 ⟨p', vs, rfl, gp6, vok, vW, vE, T6, k6⟩
    have hjl := join_le J vs
    refine ⟨_, rfl, ⟨_, rfl⟩, _, rfl, J, p', vs, rfl, rfl, .inl (SqL.of gp6), ?_, ?_⟩
    · rw [← Wt_eq]
      exact Nat.le_trans vW (by omega)
    · exact k H6 _ (okc_join j5 vok) (by rw [TL.join_eq]; omega) (fun c hc N hN => Few.sub hN fun S hS => by rw [TL.join_eq, TL.tl_join]; exact vE c hc S hS) (T6.up (by omega)) k6
end
end KA
namespace KA
open PySem PySem.Spec PyProof.Rows L2 DP
theorem okc_one {c : Nat} (h : c < 0x110000) : Okc ⟨#[c]⟩ := fun d hd => by
  have : d = c := by simpa using (show d ∈ [c] from hd)
  rw [this]; exact h
section
variable {P : Program} {w : World} {K : PySem.W.Frag} {mg : Str → Option Value} {base : Heap} {Z : Ad}
theorem ok_law_spoilt (T : Tx K w mg Z) : FnOk P w K mg base CX0 5 Z.a_law_spoilt Z.d_law_spoilt P_law_spoilt (spParts K 20) := by
  refine T.F_law_spoilt.ok sclaw_spoilt (fun vs H Q E h => ?_) (fun cdv A outer s H vs Q E hr h => ?_)
  · obtain ⟨t, g, q, n, x, zs, rfl, _⟩ := h
    rfl
  · obtain ⟨t, g, q, n, x, zs, rfl, hT, hn, qt, qg, hq, h0, h100, hz, hx, hox, k⟩ := h
    have hn0 : n < 2 ^ 49 := Nat.lt_of_le_of_lt (Nat.le_add_right n 20) hn
    have hn50 : ∀ m, m ≤ n + 10 → m < 2 ^ 50 := fun m hm => Nat.lt_of_le_of_lt hm (Nat.lt_of_lt_of_le (Nat.add_lt_add_right hn0 10) (by decide))
    have hb : ∀ m, m ≤ n + 10 → m < 2 ^ 60 := fun m hm => Nat.lt_of_le_of_lt hm (Nat.lt_of_lt_of_le (Nat.add_lt_add_right hn0 10) (by decide))
    have big : ∀ {m : Nat}, m ≤ 300000 → m ≤ sizeLine := fun {m} h => Nat.le_trans h (by decide)
    refine ⟨_, (C8.pss_cut (ps_set (i := 3) sclaw_spoilt.nd rfl (Or.inl rfl) (pe_call (ok_law_draw T) (hr.mono (by decide)) (by rfl) T.g_law_draw T.F_law_draw.kp T.bb_law_draw .nil pass0 (pa_cons (pv 0) (pa_cons pe_int pa_nil))))
      (C8.pss_cut (ps_set (i := 4) sclaw_spoilt.nd rfl (Or.inl rfl) (pe_call (ok_law_draw T) (hr.mono (by decide)) (by rfl) T.g_law_draw T.F_law_draw.kp T.bb_law_draw .nil pass0 (pa_cons (pv 0) (pa_cons (pe_op op_add (pe_callB call_len_str (by rfl) T.b_len (by decide +kernel) (pa_cons (pv 1) pa_nil)) pe_int) pa_nil))))
      (C8.pss_cut (ps_if (pt_cmpR op_eq (pv 3) pe_int (nomark _)) (pss_one (ps_ret (pe_op op_add_str (pe_op op_add_str (pe_slice sl_str (pv 1) po_none (po_some (pv 4))) (pe_call (ok_law_sign T) (hr.mono (by decide)) (by rfl) T.g_law_sign T.F_law_sign.kp T.bb_law_sign .nil pass0 (pa_cons (pv 0) pa_nil))) (pe_slice sl_str (pv 1) (po_some (pv 4)) po_none)))) pss_nil)
      (C8.pss_cut (ps_if (pt_cmpR op_eq (pv 3) pe_int (nomark _)) (pss_one (ps_ret (pe_op op_add_str (pe_slice sl_str (pv 1) po_none (po_some (pv 4))) (pe_slice sl_str (pv 1) (po_some (pe_op op_add (pv 4) pe_int)) po_none)))) pss_nil)
      (C8.pss_cut (ps_if (pt_cmpR op_eq (pv 3) pe_int (nomark _)) (pss_one (ps_ret (pe_op op_add_str (pe_op op_add_str (pe_slice sl_str (pv 1) po_none (po_some (pv 4))) (pe_call (ok_law_sign T) (hr.mono (by decide)) (by rfl) T.g_law_sign T.F_law_sign.kp T.bb_law_sign .nil pass0 (pa_cons (pv 0) pa_nil))) (pe_slice sl_str (pv 1) (po_some (pe_op op_add (pv 4) pe_int)) po_none)))) pss_nil)
      (pss_one (ps_ret (pe_call (ok_law_parts_spoilt T) (hr.mono (by decide)) (by rfl) T.g_law_parts_spoilt T.F_law_parts_spoilt.kp T.bb_law_parts_spoilt .nil pass0 (pa_cons (pv 0) (pa_cons (pv 1) (pa_cons (pv 2) pa_nil))))))))))), ?_⟩
    refine ⟨fun σ' H' => ∃ lot : Int, σ' = [some (.ref t), some (.str x), some (.ref q), some (.int lot), none] ∧ Tray H' t g (n + 1) ∧ Keep t g H H', ?_, ?_⟩
    · exact ⟨_, rfl, t, g, n, 6, rfl, hT, by decide, by decide, hb _ (by omega), fun H1 c c0 c1 T1 k1 => ⟨c, rfl, T1, k1⟩⟩
    rintro σ1 H1 ⟨lot, rfl, T1, k1⟩
    refine ⟨fun σ' H' => ∃ at' : Nat, σ' = [some (.ref t), some (.str x), some (.ref q), some (.int lot), some (.int (at' : Int))] ∧ at' ≤ x.length ∧ Tray H' t g (n + 2) ∧ Keep t g H H', ?_, ?_⟩
    · refine ⟨_, rfl, _, rfl, x, rfl, big (by omega), _, _, rfl, rfl, t, g, n + 1, (x.length : Int) + 1, rfl, T1, by omega, Nat.lt_of_le_of_lt (by omega : ((x.length : Int) + 1).natAbs ≤ 200000) (by decide), hb _ (by omega), fun H2 c c0 c1 T2 k2 => ⟨c.toNat, ?_, by omega, T2, k1.trans k2⟩⟩
      rw [Int.toNat_of_nonneg c0]; rfl
    rintro σ2 H2 ⟨j, rfl, hj, T2, k2⟩
    have c1 := cutS_length x none (some (j : Int))
    have c2 := cutS_length x (some (j : Int)) none
    have c3 := cutS_length x (some ((j : Int) + 1)) none
    have o1 := (okc_cut hox j).1
    have o2 := (okc_cut hox j).2
    have e1 : ∀ c : Nat, Ed x (cutS x none (some (j : Int)) ++ ⟨#[c]⟩ ++ cutS x (some (j : Int)) none) := fun c d hd N hN => Few.sub hN fun S hS => by rw [TL.tl_append, TL.tl_append, cutS_to, cutS_from]; exact few_sign (sep_ne hd) hS j j c
    have e2 : Ed x (cutS x none (some (j : Int)) ++ cutS x (some ((j : Int) + 1)) none) := fun d hd N hN => Few.sub hN fun S hS => by rw [TL.tl_append, cutS_to, show (j : Int) + 1 = ((j + 1 : Nat) : Int) from rfl, cutS_from]; exact few_less (sep_ne hd) hS j (j + 1)
    have e3 : ∀ c : Nat, Ed x (cutS x none (some (j : Int)) ++ ⟨#[c]⟩ ++ cutS x (some ((j : Int) + 1)) none) := fun c d hd N hN => Few.sub hN fun S hS => by rw [TL.tl_append, TL.tl_append, cutS_to, show (j : Int) + 1 = ((j + 1 : Nat) : Int) from rfl, cutS_from]; exact few_sign (sep_ne hd) hS j (j + 1) c
    have o3 : Okc (cutS x (some ((j : Int) + 1)) none) := (okc_cut hox (j + 1)).2
    have one : ∀ c : Nat, (⟨#[c]⟩ : Str).length = 1 := fun c => rfl
    refine ⟨fun σ' H' => σ' = [some (.ref t), some (.str x), some (.ref q), some (.int lot), some (.int (j : Int))] ∧ H' = H2, ?_, ?_⟩
    · refine ⟨_, rfl, rfl, _, rfl, ite2 (fun _ => ?_) (fun _ => ⟨rfl, rfl⟩)⟩
      refine ⟨_, rfl, _, rfl, _, rfl, x, rfl, big (by omega), _, rfl, t, g, n + 2, rfl, T2, hn50 _ (by omega), fun H3 c hc T3 k3 => ?_⟩
      refine ⟨_, _, rfl, rfl, big (by rw [one]; omega), _, rfl, _, rfl, _, rfl, x, rfl, big (by omega), _, _, rfl, rfl, big (by rw [len_app, one]; omega), ?_⟩
      exact k H3 _ (okc_app (okc_app o1 (okc_one hc)) o2) (by rw [len_app, len_app, one]; omega) (e1 c) (T3.up (by omega)) (k2.trans k3)
    rintro σ3 H3 ⟨rfl, rfl⟩
    refine ⟨fun σ' H' => σ' = [some (.ref t), some (.str x), some (.ref q), some (.int lot), some (.int (j : Int))] ∧ H' = H3, ?_, ?_⟩
    · refine ⟨_, rfl, rfl, _, rfl, ite2 (fun _ => ?_) (fun _ => ⟨rfl, rfl⟩)⟩
      refine ⟨_, rfl, _, rfl, _, rfl, x, rfl, big (by omega), _, rfl, _, rfl, _, _, rfl, rfl, _, rfl, x, rfl, big (by omega), _, _, rfl, rfl, big (by omega), ?_⟩
      exact k H3 _ (okc_app o1 o3) (by rw [len_app]; omega) e2 (T2.up (by omega)) k2
    rintro σ4 H4 ⟨rfl, rfl⟩
    refine ⟨fun σ' H' => σ' = [some (.ref t), some (.str x), some (.ref q), some (.int lot), some (.int (j : Int))] ∧ H' = H4, ?_, ?_⟩
    · refine ⟨_, rfl, rfl, _, rfl, ite2 (fun _ => ?_) (fun _ => ⟨rfl, rfl⟩)⟩
      refine ⟨_, rfl, _, rfl, _, rfl, x, rfl, big (by omega), _, rfl, t, g, n + 2, rfl, T2, hn50 _ (by omega), fun H5 c hc T3 k3 => ?_⟩
      refine ⟨_, _, rfl, rfl, big (by rw [one]; omega), _, rfl, _, rfl, _, _, rfl, rfl, _, rfl, x, rfl, big (by omega), _, _, rfl, rfl, big (by rw [len_app, one]; omega), ?_⟩
      exact k H5 _ (okc_app (okc_app o1 (okc_one hc)) o3) (by rw [len_app, len_app, one]; omega) (e3 c) (T3.up (by omega)) (k2.trans k3)
    rintro σ5 H5 ⟨rfl, rfl⟩
    exact ⟨_, rfl, _, rfl, _, rfl, t, g, q, n + 2, x, zs, rfl, T2, Nat.lt_of_le_of_lt (by omega : n + 2 + 10 ≤ n + 20) hn, qt, qg, k2 _ _ hq qt qg, h0, h100, hz, hx, hox, fun H6 y oy ly ey T6 k6 => k H6 y oy ly ey (T6.up (by omega)) (k2.trans k6)⟩
end
end KA
namespace KA
open PySem PySem.Spec PyProof.Rows L2 DP
theorem okc_numT (n : Int) : Okc (numT n) := fun c hm => Decidable.byContradiction fun hc => by
  have h1 : c ∉ TL.numL n.natAbs := TL.numL_free (.inr (by omega))
  by_cases z : n < 0
  · rw [numT_neg z] at hm
    rcases List.mem_cons.mp hm with e | e
    · omega
    · exact h1 e
  · rw [numT_pos (by omega)] at hm
    exact h1 hm
theorem okc_blank : Okc (" " : Str) := by unfold Okc; decide +kernel
theorem okc_lookT {l : Lk} (h : WordOk l.1) : Okc (lookT l) := by
  have hw : Okc l.1 := by rcases h with e | e | e <;> rw [e] <;> (unfold Okc; decide +kernel)
  exact okc_app (okc_app (okc_app (okc_app hw okc_blank) (okc_numT _)) okc_blank) (okc_numT _)
theorem home_small {L : Int} (hL : 0 < L) (hL30 : L ≤ 10 ^ 30) {l : Lk} (h : (l.2.2 - l.2.1).natAbs < 2 ^ 199) : Small (home L l) := by
  have h1 := Int.mul_ediv_add_emod l.2.1 L
  have h2 := Int.emod_nonneg l.2.1 (show L ≠ 0 by omega)
  have h3 := Int.emod_lt_of_pos l.2.1 hL
  rw [Int.mul_comm] at h1
  have e1 : (home L l).2.1 = l.2.1 % L := by show l.2.1 - l.2.1 / L * L = _; omega
  have e2 : (home L l).2.2 = (l.2.2 - l.2.1) + l.2.1 % L := by show l.2.2 - l.2.1 / L * L = _; omega
  constructor
  · rw [e1]; omega
  · rw [e2]; omega
theorem okc_dark {L : Int} {hs : List Lk} (h : ∀ l ∈ hs, WordOk l.1) : Okc (darkT L hs) := okc_join (by unfold Okc; decide +kernel) fun w hw => by
  rcases List.mem_cons.mp hw with rfl | hw
  · exact okc_numT L
  · obtain ⟨l, hl, rfl⟩ := List.mem_map.mp hw
    exact okc_lookT (h l hl)
theorem few_dark {L : Int} {hs : List Lk} (h : ∀ l ∈ hs, WordOk l.1) (hn : hs.length ≤ 8) : Few 59 9 (TL.tl (darkT L hs)) := by
  refine ⟨sp 59 (TL.tl (darkT L hs)), ?_, fun p hp => hp⟩
  rw [← semi_split, dark_split h]
  simp; omega
theorem dark_len {L : Int} {hs : List Lk} (hL : L.natAbs < 10 ^ 60) (h : ∀ l ∈ hs, WordOk l.1 ∧ Small l) (hn : hs.length ≤ 8) : (darkT L hs).length ≤ 1200 := by
  unfold darkT
  rw [TL.join_eq]
  refine Nat.le_trans (join_len _ _) ?_
  have h1 := looks_sum h
  have h2 := numT_len hL
  rw [semi_len, List.map_cons, List.sum_cons, List.length_cons, List.length_map]
  omega
theorem okc_st (s : Pr) : Okc (stT s) := okc_app (okc_app (okc_numT _) okc_blank) (okc_numT _)
theorem okc_hand (L : Int) (ps : List Pr) : Okc (handT L ps) := by
  refine okc_app (okc_app (okc_numT L) (by unfold Okc; decide +kernel)) (okc_join (by unfold Okc; decide +kernel) fun w hw => ?_)
  obtain ⟨s, _, rfl⟩ := List.mem_map.mp hw
  exact okc_st s
theorem sp_free {c : Nat} : ∀ {l : List Nat}, c ∉ l → sp c l = [l]
  | [], _ => rfl
  | [x], _ => rfl
  | x :: y :: r, h => by
    have hx : x ≠ c := fun e => h (by rw [e]; exact List.mem_cons_self)
    have := sp_free (c := c) (l := y :: r) fun z => h (List.mem_cons_of_mem _ z)
    rw [sp_miss (fun e => hx e.1), this]; rfl
theorem sp_len_app {c : Nat} (hc : c ≠ 32) (A B : List Nat) : (sp c (A ++ B)).length ≤ (sp c A).length + (sp c B).length := by
  obtain ⟨b, bs, hB⟩ := sp_cons c B
  obtain ⟨as, a, mid, h1, h2, h3, h4⟩ := sp_app hc B b bs hB A
  rw [h1, h2, hB]
  simp; omega
theorem few_hand {L : Int} {ps : List Pr} (h0 : 0 < ps.length) (hn : ps.length ≤ 6) : Few 44 9 (TL.tl (handT L ps)) := by
  refine ⟨sp 44 (TL.tl (handT L ps)), ?_, fun p hp => hp⟩
  unfold handT
  rw [TL.tl_append]
  have h1 : sp 44 (TL.tl (numT L ++ ": ")) = [TL.tl (numT L ++ ": ")] := sp_free (by
    rw [TL.tl_append, List.mem_append, colon_tl]
    rintro (h | h)
    · exact numT_off (.inl (by decide)) h
    · exact absurd h (by decide))
  have h2 : (sp 44 (TL.tl (Txt.join ", " (ps.map stT)))).length = ps.length := by
    rw [← comma_split, steps_split h0, List.length_map, List.length_map]
  refine Nat.le_trans (sp_len_app (by decide) _ _) ?_
  rw [h1, h2]
  simp; omega
theorem hand_len {L : Int} {ps : List Pr} (hL : L.natAbs < 10 ^ 60) (h : ∀ s ∈ ps, SmP s) (hn : ps.length ≤ 6) : (handT L ps).length ≤ 1200 := by
  unfold handT
  rw [len_app, len_app, colon_len, TL.join_eq]
  have h1 := join_len ", " (ps.map stT)
  have h2 := steps_sum h
  have h3 := numT_len hL
  rw [comma_len, List.length_map] at h1
  omega
theorem off_joinL {S : List Nat} {c : Nat} (hS : c ∉ S) : ∀ {parts : List (List Nat)}, (∀ p ∈ parts, c ∉ p) → c ∉ TL.joinL S parts
  | [], _ => by intro h; cases h
  | [q], h => h q List.mem_cons_self
  | q :: r :: t, h => by
    intro hm
    have hm' : c ∈ q ++ (S ++ TL.joinL S (r :: t)) := hm
    rcases List.mem_append.mp hm' with e | e
    · exact h q List.mem_cons_self e
    · rcases List.mem_append.mp e with e | e
      · exact hS e
      · exact off_joinL hS (fun p hp => h p (List.mem_cons_of_mem _ hp)) e
theorem stT_colon {s : Pr} : (58 : Nat) ∉ TL.tl (stT s) := fun hm => by
  unfold stT stepT at hm
  rw [TL.tl_append, TL.tl_append] at hm
  rcases List.mem_append.mp hm with hm | hm
  · rcases List.mem_append.mp hm with hm | hm
    · exact numT_off (.inr (by decide)) hm
    · rw [blank_tl] at hm
      exact absurd hm (by decide)
  · exact numT_off (.inr (by decide)) hm
theorem hand_split (L : Int) (ps : List Pr) : Txt.split (handT L ps) ": " = [numT L, Txt.join ", " (ps.map stT)] := by
  have h := TL.split_join (y := ": ") (s := 58) (S := [32]) colon_tl (by decide +kernel) (parts := [numT L, Txt.join ", " (ps.map stT)]) (by simp) fun p hp => by
    rcases List.mem_cons.mp hp with rfl | hp
    · exact numT_off (.inr (by decide))
    · rw [List.mem_singleton.mp hp, TL.join_eq, TL.tl_join]
      refine off_joinL (by rw [comma_tl]; decide) fun q hq => ?_
      obtain ⟨u, hu, rfl⟩ := List.mem_map.mp hq
      obtain ⟨s, _, rfl⟩ := List.mem_map.mp hu
      exact stT_colon
  rw [TL.join_eq] at h
  exact h
theorem word_off {w : Str} {c : Nat} (h : WordOk w) (hc : c = 44 ∨ c = 58 ∨ c = 59) : c ∉ TL.tl w := by
  rcases h with rfl | rfl | rfl <;> rcases hc with rfl | rfl | rfl <;> decide +kernel
theorem num_off {n : Int} {c : Nat} (hc : c = 44 ∨ c = 58 ∨ c = 59) : c ∉ TL.tl (numT n) := numT_off (by omega)
theorem look_off {l : Lk} {c : Nat} (h : WordOk l.1) (hc : c = 44 ∨ c = 58 ∨ c = 59) : c ∉ TL.tl (lookT l) := fun hm => by
  have hb : c ∉ TL.tl (" " : Str) := by rw [blank_tl, List.mem_singleton]; omega
  unfold lookT at hm
  rw [TL.tl_append, TL.tl_append, TL.tl_append, TL.tl_append] at hm
  rcases List.mem_append.mp hm with hm | hm
  · rcases List.mem_append.mp hm with hm | hm
    · rcases List.mem_append.mp hm with hm | hm
      · rcases List.mem_append.mp hm with hm | hm
        · exact word_off h hc hm
        · exact hb hm
      · exact num_off hc hm
    · exact hb hm
  · exact num_off hc hm
theorem dark_off {L : Int} {hs : List Lk} {c : Nat} (h : ∀ l ∈ hs, WordOk l.1) (hc : c = 44 ∨ c = 58) : c ∉ TL.tl (darkT L hs) := by
  unfold darkT
  rw [TL.join_eq, TL.tl_join]
  refine off_joinL (by rw [semi_tl]; simp; omega) fun p hp => ?_
  obtain ⟨u, hu, rfl⟩ := List.mem_map.mp hp
  rcases List.mem_cons.mp hu with rfl | hu
  · exact num_off (by omega)
  · obtain ⟨l, hl, rfl⟩ := List.mem_map.mp hu
    exact look_off (h l hl) (by omega)
theorem stT_off {s : Pr} {c : Nat} (hc : c = 44 ∨ c = 58 ∨ c = 59) : c ∉ TL.tl (stT s) := fun hm => by
  have hb : c ∉ TL.tl (" " : Str) := by rw [blank_tl, List.mem_singleton]; omega
  unfold stT stepT at hm
  rw [TL.tl_append, TL.tl_append] at hm
  rcases List.mem_append.mp hm with hm | hm
  · rcases List.mem_append.mp hm with hm | hm
    · exact num_off hc hm
    · exact hb hm
  · exact num_off hc hm
theorem hand_off {L : Int} {ps : List Pr} : (59 : Nat) ∉ TL.tl (handT L ps) := by
  unfold handT
  rw [TL.tl_append, TL.tl_append]
  intro hm
  rcases List.mem_append.mp hm with hm | hm
  · rcases List.mem_append.mp hm with hm | hm
    · exact num_off (by omega) hm
    · rw [colon_tl] at hm; exact absurd hm (by decide)
  · rw [TL.join_eq, TL.tl_join] at hm
    refine off_joinL (by rw [comma_tl]; decide) (fun p hp => ?_) hm
    obtain ⟨u, hu, rfl⟩ := List.mem_map.mp hp
    obtain ⟨s, _, rfl⟩ := List.mem_map.mp hu
    exact stT_off (by omega)
theorem hand_colon {L : Int} {ps : List Pr} : (58 : Nat) ∈ TL.tl (handT L ps) := by
  unfold handT
  rw [TL.tl_append, TL.tl_append, colon_tl]; simp
/-- a text is read by one of them alone -/
theorem look_dark {x : Str} (a : Rd 0 x) (b : Rd 1 x) : False := by
  obtain ⟨l, hw, _, e⟩ := a
  obtain ⟨L, hs, I⟩ := b
  have h := dark_split (L := L) fun l hl => (I.ok l hl).1
  rw [I.eq, ← e] at h
  have h2 : Txt.split (Txt.join "; " [lookT l]) "; " = [lookT l] := TL.split_join (y := "; ") (s := 59) (S := [32]) semi_tl (by decide +kernel) (parts := [lookT l]) (by simp) fun p hp => by
    rw [List.mem_singleton.mp hp]; exact lookT_semi hw
  have h3 : Txt.join "; " [lookT l] = lookT l := by rw [TL.join_eq]; rfl
  rw [h3, h] at h2
  injection h2 with h2 _
  have := look_blank l
  rw [← h2] at this
  exact numT_free this
theorem look_hand {x : Str} (a : Rd 0 x) (b : Rd 2 x) : False := by
  obtain ⟨l, hw, _, e⟩ := a
  obtain ⟨L, ps, I⟩ := b
  have := hand_colon (L := L) (ps := ps)
  rw [I.eq, ← e] at this
  exact look_off hw (by omega) this
theorem dark_hand {x : Str} (a : Rd 1 x) (b : Rd 2 x) : False := by
  obtain ⟨M, hs, D⟩ := a
  obtain ⟨L, ps, I⟩ := b
  have := hand_colon (L := L) (ps := ps)
  rw [I.eq, ← D.eq] at this
  exact dark_off (fun l hl => (D.ok l hl).1) (by omega) this
theorem Rd.one {x : Str} : ∀ {i j : Nat}, i < 3 → j < 3 → Rd i x → Rd j x → i = j := by
  intro i j hi hj a b
  have hi' : i = 0 ∨ i = 1 ∨ i = 2 := by omega
  have hj' : j = 0 ∨ j = 1 ∨ j = 2 := by omega
  rcases hi' with rfl | rfl | rfl <;> rcases hj' with rfl | rfl | rfl
  · rfl
  · exact (look_dark a b).elim
  · exact (look_hand a b).elim
  · exact (look_dark b a).elim
  · rfl
  · exact (dark_hand a b).elim
  · exact (look_hand b a).elim
  · exact (dark_hand b a).elim
  · rfl
/-- few parts of both kinds -/
def Few2 (N : Nat) (x : Str) : Prop := Few 59 N (TL.tl x) ∧ Few 44 N (TL.tl x)
theorem few_off {c : Nat} {l : List Nat} (h : c ∉ l) : Few c 9 l := ⟨[l], by simp, fun p hp => by rw [sp_free h] at hp; exact hp⟩
theorem few2_look {l : Lk} (h : WordOk l.1) : Few2 9 (lookT l) := ⟨few_off (look_off h (by omega)), few_off (look_off h (by omega))⟩
theorem few2_dark {L : Int} {hs : List Lk} (h : ∀ l ∈ hs, WordOk l.1) (hn : hs.length ≤ 8) : Few2 9 (darkT L hs) := ⟨few_dark h hn, few_off (dark_off h (by omega))⟩
theorem few2_hand {L : Int} {ps : List Pr} (h0 : 0 < ps.length) (hn : ps.length ≤ 6) : Few2 9 (handT L ps) := ⟨few_off hand_off, few_hand h0 hn⟩
theorem few2_thin {z : Str} (h : Thin z) : Few2 9 z := ⟨⟨sp 59 (TL.tl z), Nat.le_trans (h 59 (.inl rfl)) (by decide), fun p hp => hp⟩, ⟨sp 44 (TL.tl z), Nat.le_trans (h 44 (.inr rfl)) (by decide), fun p hp => hp⟩⟩
theorem Few2.ed {x y : Str} {N : Nat} (h : Few2 N x) (e : Ed x y) : Few2 (N + 14) y := ⟨e 59 (.inl rfl) N h.1, e 44 (.inr rfl) N h.2⟩
theorem Few2.up {x : Str} {N M : Nat} (h : Few2 N x) (e : N ≤ M) : Few2 M x := ⟨Few.up h.1 e, Few.up h.2 e⟩
def Bd : Nat → Nat
  | 0 => 1200
  | i + 1 => 4 * Bd i + 300
theorem Bd3 {i : Nat} (h : i ≤ 3) : Bd i ≤ 100000 := by
  have : i = 0 ∨ i = 1 ∨ i = 2 ∨ i = 3 := by omega
  rcases this with e | e | e | e <;> subst e <;> decide
theorem cut4000 (x : Str) : (cutS x none (some (4000 : Int))).length ≤ 5000 := by
  have : (cutS x none (some ((4000 : Nat) : Int))).length ≤ 4000 := by
    rw [TL.len_tl, cutS_to, List.length_take]
    exact Nat.min_le_left _ _
  exact Nat.le_trans this (by decide)
theorem few4000 {x : Str} (h : Few2 51 x) : Few2 53 (cutS x none (some (4000 : Int))) := by
  have e : TL.tl (cutS x none (some (4000 : Int))) = (TL.tl x).take 4000 := cutS_to (k := 4000)
  unfold Few2
  rw [e]
  exact ⟨few_cut (by decide) h.1 4000, few_cut (by decide) h.2 4000⟩
end KA
namespace KA
open PySem PySem.Spec PyProof.Rows L2 DP
def spKept : Sp := fun vs H Q _ => ∃ x : Str, vs = [.str x] ∧ x.length ≤ 5000 ∧ Few2 53 x ∧ ∀ H', Same H H' → Q (.bl true) H'
section
variable {P : Program} {w : World} {K : PySem.W.Frag} {mg : Str → Option Value} {base : Heap} {Z : Ad} {Y : AdX}
theorem ok_law_kept (T : Tx K w mg Z) (X : Ex P K mg Y) : FnOk P w K mg base CX0 14 Z.a_law_kept Z.d_law_kept P_law_kept spKept := by
  refine T.F_law_kept.ok sclaw_kept (fun vs H Q E h => ?_) (fun cdv A outer s H vs Q E hr h => ?_)
  · obtain ⟨x, rfl, _⟩ := h
    rfl
  · obtain ⟨x, rfl, hx, hfew, k⟩ := h
    have f59 := Few.up hfew.1 (show 53 ≤ 55 by decide)
    refine ⟨_, (C8.pss_cut (ps_set (i := 1) sclaw_kept.nd rfl (Or.inl rfl) pe_int)
      (pss_cons (ps_for PassesOwn.never rfl (pi_list (pe_lst (pa_cons (pe_tup (pa_cons (pe_glob (v := .ref Z.a_read_look) rfl T.g_read_look rfl) (pa_cons (pe_glob (v := .ref Z.a_show_look) rfl T.g_show_look rfl) pa_nil))) (pa_cons (pe_tup (pa_cons (pe_glob (v := .ref Z.a_read_dark) rfl T.g_read_dark rfl) (pa_cons (pe_glob (v := .ref Z.a_show_dark) rfl T.g_show_dark rfl) pa_nil))) (pa_cons (pe_tup (pa_cons (pe_glob (v := .ref Z.a_read_hand) rfl T.g_read_hand rfl) (pa_cons (pe_glob (v := .ref Z.a_show_hand) rfl T.g_show_hand rfl) pa_nil))) pa_nil))))) (tupK (K := K) (by rfl) (pgs_cons (pg_name (i := 2) sclaw_kept.nd rfl (Or.inl rfl)) (pgs_cons (pg_name (i := 3) sclaw_kept.nd rfl (Or.inl rfl)) pgs_nil))) (C8.pss_cut (ps_set (i := 4) sclaw_kept.nd rfl (Or.inl rfl) (pe_call (ok_law_read T X) (hr.mono (by decide)) (by rfl) T.g_law_read T.F_law_read.kp T.bb_law_read .nil pass0 (pa_cons (pv 2) (pa_cons (pv 0) pa_nil))))
      (C8.pss_cut (ps_if (PW.pt (pw_and (pt_cmpR (neEK (K := K) hr.units) (pv 4) (pe_lst pa_nil) (nomark _)) (pw_and1 (pt_cmpR op_ne (pe_callR (i := 3) (R := ShR Z K) (held_show T) (hr.mono (by decide)) rfl (by first | exact Or.inl rfl | exact Or.inr (Or.inl rfl) | exact Or.inr (Or.inr rfl)) (pa_cons (pe_ix (ixL (K := K)) (pv 4) pe_int (fun _ _ => rfl)) pa_nil)) (pv 0) (nomark _))))) (pss_one (ps_ret pe_bl)) pss_nil)
      (pss_one (ps_set (i := 1) sclaw_kept.nd rfl (Or.inl rfl) (pe_op op_add (pv 1) (pe_callB (lenK (K := K)) (by rfl) T.b_len (by decide +kernel) (pa_cons (pv 4) pa_nil))))))))
      (pss_one (ps_ret (pe_cmpR op_lt (pv 1) pe_int (nomark _)))))), ?_⟩
    refine ⟨fun σ' H' => σ' = [some (.str x), some (.int 0), none, none, none] ∧ H' = H, ⟨rfl, rfl⟩, ?_⟩
    rintro σ0 H0 ⟨rfl, rfl⟩
    refine ⟨(by show 2 ≤ sizeLine; decide), fun t0 h0 => ?_⟩
    have S0 := same_upd (o := HO.tup [V.ref Z.a_read_look, .ref Z.a_show_look]) h0
    have g0 : (upd H0 t0 (HO.tup [V.ref Z.a_read_look, .ref Z.a_show_look])) t0 = some (HO.tup [V.ref Z.a_read_look, .ref Z.a_show_look]) := upd_same
    generalize upd H0 t0 (HO.tup [V.ref Z.a_read_look, .ref Z.a_show_look]) = H1 at S0 g0 ⊢
    refine ⟨(by show 2 ≤ sizeLine; decide), fun t1 h1 => ?_⟩
    have S1 := same_upd (o := HO.tup [V.ref Z.a_read_dark, .ref Z.a_show_dark]) h1
    have g1 : (upd H1 t1 (HO.tup [V.ref Z.a_read_dark, .ref Z.a_show_dark])) t1 = some (HO.tup [V.ref Z.a_read_dark, .ref Z.a_show_dark]) := upd_same
    have g0 := S1 _ _ g0
    generalize upd H1 t1 (HO.tup [V.ref Z.a_read_dark, .ref Z.a_show_dark]) = H2 at S1 g0 g1 ⊢
    refine ⟨(by show 2 ≤ sizeLine; decide), fun t2 h2 => ?_⟩
    have S2 := same_upd (o := HO.tup [V.ref Z.a_read_hand, .ref Z.a_show_hand]) h2
    have g2 : (upd H2 t2 (HO.tup [V.ref Z.a_read_hand, .ref Z.a_show_hand])) t2 = some (HO.tup [V.ref Z.a_read_hand, .ref Z.a_show_hand]) := upd_same
    have g0 := S2 _ _ g0
    have g1 := S2 _ _ g1
    generalize upd H2 t2 (HO.tup [V.ref Z.a_read_hand, .ref Z.a_show_hand]) = H3 at S2 g0 g1 g2 ⊢
    refine ⟨(by show 3 ≤ sizeLine; decide), fun q hq => ?_⟩
    have Sq := same_upd (o := HO.lst [V.ref t0, .ref t1, .ref t2]) hq
    have gq : (upd H3 q (HO.lst [V.ref t0, .ref t1, .ref t2])) q = some (HO.lst [V.ref t0, .ref t1, .ref t2]) := upd_same
    have g0 := Sq _ _ g0
    have g1 := Sq _ _ g1
    have g2 := Sq _ _ g2
    have SA := ((S0.trans S1).trans S2).trans Sq
    generalize upd H3 q (HO.lst [V.ref t0, .ref t1, .ref t2]) = H4 at gq g0 g1 g2 SA ⊢
    have gets : ∀ (i : Nat) (y : V), [V.ref t0, .ref t1, .ref t2][i]? = some y → i < 3 ∧ ∃ ti, y = .ref ti ∧ H4 ti = some (.tup [V.ref (rdA Z i), .ref (shA Z i)]) := fun i y hi => by
      have hi3 : i < 3 := (List.getElem?_eq_some_iff.mp hi).1
      have : i = 0 ∨ i = 1 ∨ i = 2 := by omega
      rcases this with rfl | rfl | rfl
      · exact ⟨hi3, t0, (Option.some.inj hi).symm, g0⟩
      · exact ⟨hi3, t1, (Option.some.inj hi).symm, g1⟩
      · exact ⟨hi3, t2, (Option.some.inj hi).symm, g2⟩
    refine ⟨q, rfl, ⟨_, SqL.of gq⟩, ?_⟩
    refine for_list (K := K) (a := q) (xs := [V.ref t0, .ref t1, .ref t2]) (fun i σ' H' => ∃ (m : Int) (u2 u3 u4 : Option V), σ' = [some (.str x), some (.int m), u2, u3, u4] ∧ Same H4 H' ∧ (m = 0 ∨ (m = 1 ∧ ∃ j, j < i ∧ j < 3 ∧ Rd j x))) ⟨0, _, _, _, rfl, fun _ _ e => e, .inl rfl⟩ (fun i σ' H' _ ⟨_, _, _, _, _, S, _⟩ => SqL.of (S _ _ gq)) ?_ ?_
    · rintro i y σ' H5 hi ⟨m, u2, u3, u4, rfl, S5, hm⟩
      obtain ⟨hi3, ti, rfl, gi⟩ := gets i y hi
      refine ⟨_, _, rfl, SqT.of (S5 _ _ gi), rfl, _, _, rfl, _, _, rfl, rfl, ?_⟩
      refine ⟨fun σ' H' => ∃ (p : Addr) (us : List V), σ' = [some (.str x), some (.int m), some (.ref (rdA Z i)), some (.ref (shA Z i)), some (.ref p)] ∧ Same H5 H' ∧ H' p = some (.lst us) ∧ ((∃ v, us = [v] ∧ RdIs Z K H5 H' i x v) ∨ us = []), ?_, ?_⟩
      · exact ⟨_, rfl, _, rfl, i, x, hi3, rfl, hx, f59, hfew.2, fun H' p v S' g R => ⟨p, [v], rfl, S', g, .inl ⟨v, rfl, R⟩⟩, fun hno H' p S' g => ⟨p, [], rfl, S', g, .inr rfl⟩⟩
      rintro σ6 H6 ⟨p, us, rfl, S6, gp, hus⟩
      refine ⟨fun σ' H' => σ' = [some (.str x), some (.int m), some (.ref (rdA Z i)), some (.ref (shA Z i)), some (.ref p)] ∧ Same H6 H', ?_, ?_⟩
      · refine ⟨_, rfl, (by show 0 ≤ sizeLine; decide), fun e0 he0 => ?_⟩
        have Se := same_upd (o := HO.lst ([] : List V)) he0
        have ge : (upd H6 e0 (HO.lst ([] : List V))) e0 = some (.lst []) := upd_same
        have gp7 := Se _ _ gp
        generalize upd H6 e0 (HO.lst ([] : List V)) = H7 at Se ge gp7 ⊢
        refine ⟨p, e0, us, rfl, rfl, SqL.of gp7, SqL.of ge, ?_⟩
        rcases hus with ⟨v, rfl, R⟩ | rfl
        · refine ⟨_, rfl, iteT ?_⟩
          have R7 := R.same Se
          have : i = 0 ∨ i = 1 ∨ i = 2 := by omega
          rcases this with rfl | rfl | rfl
          · obtain ⟨l, qq, rfl, gl, hw, hs, e⟩ := R7
            refine ⟨_, _, rfl, .inl ⟨rfl, rfl⟩, _, rfl, p, _, _, _, rfl, rfl, SqL.of gp7, atI_head, qq, l, rfl, gl, hw, small_wide hs, fun H8 S8 => ?_⟩
            rw [e]
            exact ⟨_, rfl, rfl, _, rfl, ite2 (fun c => absurd c (by simp)) (fun _ => ⟨rfl, Se.trans S8⟩)⟩
          · obtain ⟨L, hs, d, rfl, D, I, _, _⟩ := R7
            refine ⟨_, _, rfl, .inr (.inl ⟨rfl, rfl⟩), _, rfl, p, _, _, _, rfl, rfl, SqL.of gp7, atI_head, d, L, hs, rfl, D, I.sm, fun l hl => small_wide (I.ok l hl).2, fun H8 S8 => ?_⟩
            rw [I.eq]
            exact ⟨_, rfl, rfl, _, rfl, ite2 (fun c => absurd c (by simp)) (fun _ => ⟨rfl, Se.trans S8⟩)⟩
          · obtain ⟨L, ps, h, d, b, rfl, A, I⟩ := R7
            have hl : ps.length ≤ 60 := by
              have h1 := A.dark.len
              rw [I.heard, List.length_map] at h1
              exact h1
            refine ⟨_, _, rfl, .inr (.inr ⟨rfl, rfl⟩), _, rfl, p, _, _, _, rfl, rfl, SqL.of gp7, atI_head, h, d, b, L, ps, ps, rfl, A, I.heard, I.sm, fun s hs => ⟨Nat.lt_trans (I.ok s hs).1 (by decide), Nat.lt_trans (I.ok s hs).2 (by decide)⟩, hl, fun H8 S8 => ?_⟩
            rw [I.eq]
            exact ⟨_, rfl, rfl, _, rfl, ite2 (fun c => absurd c (by simp)) (fun _ => ⟨rfl, Se.trans S8⟩)⟩
        · exact ⟨_, rfl, iteF ⟨rfl, Se⟩⟩
      rintro σ7 H7 ⟨rfl, S7⟩
      refine ⟨_, rfl, _, rfl, p, _, rfl, .inl (SqL.of (S7 _ _ gp)), _, _, rfl, rfl, ?_⟩
      refine ⟨_, _, _, _, rfl, (S5.trans S6).trans S7, ?_⟩
      rcases hus with ⟨v, rfl, R⟩ | rfl
      · rcases hm with rfl | ⟨rfl, j, hj, hj3, Rj⟩
        · exact .inr ⟨rfl, i, by omega, hi3, R.rd⟩
        · have := Rd.one hj3 hi3 Rj R.rd
          omega
      · rcases hm with rfl | ⟨rfl, j, hj, hj3, Rj⟩
        · exact .inl rfl
        · exact .inr ⟨rfl, j, by omega, hj3, Rj⟩
    · rintro σ' H5 ⟨m, u2, u3, u4, rfl, S5, hm⟩
      refine ⟨_, rfl, _, _, rfl, rfl, ?_⟩
      have : decide (m < 2) = true := decide_eq_true (by rcases hm with rfl | ⟨rfl, _⟩ <;> decide)
      show Q (.bl (decide (m < 2))) H5
      rw [this]
      exact k _ (SA.trans S5)
end
end KA
namespace KA
open PySem PySem.Spec PyProof.Rows L2 DP
def But (d : Addr) (H H' : Hp) : Prop := ∀ c o, H c = some o → c ≠ d → H' c = some o
theorem But.tups {d C dx : Addr} {fs : List (Str × V)} {H H' : Hp} (k : But d H H') (h : H d = some (.ins C dx fs)) : Tups H H' := fun c zs hc => by
  have hcb : c ≠ d := by
    rintro rfl
    rcases hc with e | ⟨q, e⟩ <;> rw [h] at e <;> cases e
  rcases hc with e | ⟨q, e⟩
  · exact .inl (k _ _ e hcb)
  · exact .inr ⟨q, k _ _ e hcb⟩
theorem LAt.but {K : PySem.W.Frag} {d p C dx : Addr} {fs : List (Str × V)} {H H' : Hp} {ds : List PyData} (l : LAt K H p ds) (k : But d H H') (h : H d = some (.ins C dx fs)) (nl : noL.noLs ds = true) : LAt K H' p ds := by
  obtain ⟨vs, h1, h2⟩ := l
  exact ⟨vs, k _ _ h1 (fun e => by rw [e, h] at h1; cases h1), dpAll_tups (k.tups h) _ _ nl h2⟩
theorem DarkAt.but {Z : Ad} {K : PySem.W.Frag} {H H' : Hp} {d e C dx : Addr} {fs : List (Str × V)} {L : Int} {ls : List Lk} (D : DarkAt Z K H e L ls) (k : But d H H') (h : H d = some (.ins C dx fs)) (hne : e ≠ d) : DarkAt Z K H' e L ls := by
  obtain ⟨dx2, la, vs, h1, h2, h3⟩ := D.ex
  exact ⟨⟨dx2, la, vs, k _ _ h1 hne, k _ _ h2 (fun q => by rw [q, h] at h2; cases h2), dpAll_tups (k.tups h) _ _ (noLs_map noL_encL ls) h3⟩, D.pos, D.big, D.ok, D.len⟩
theorem Tray.but {t g d C dx : Addr} {fs : List (Str × V)} {n : Nat} {H H' : Hp} (T : Tray H t g n) (k : But d H H') (h : H d = some (.ins C dx fs)) : Tray H' t g n := by
  obtain ⟨⟨gs, l, f, c, h1, h2, r⟩, hne⟩ := T
  exact ⟨⟨gs, l, f, c, k _ _ h1 (fun e => by rw [e, h] at h1; cases h1), k _ _ h2 (fun e => by rw [e, h] at h2; cases h2), r⟩, hne⟩
theorem tells_same {L : Int} {sd : Str} {ls : List Lk} {x : Int} {v u : V} (h : Tells sd ls x L v) (h' : Tells sd ls x L u) : u = v := by
  rcases h with ⟨e, rfl⟩ | ⟨m, rfl, b⟩
  · rcases h' with ⟨_, rfl⟩ | ⟨m, rfl, b⟩
    · rfl
    · obtain ⟨⟨l, hl, _⟩, _⟩ := b
      rw [e] at hl; cases hl
  · rcases h' with ⟨e, rfl⟩ | ⟨m', rfl, b'⟩
    · obtain ⟨⟨l, hl, _⟩, _⟩ := b
      rw [e] at hl; cases hl
    · rw [best_one b b']
def encT : V → PyData
  | .int m => .int m
  | _ => .none
theorem tells_dp {K : PySem.W.Frag} {H : Hp} {sd : Str} {ls : List Lk} {x L : Int} {v : V} (h : Tells sd ls x L v) : Dp K H v (encT v) := by
  rcases h with ⟨_, rfl⟩ | ⟨m, rfl, _⟩
  · exact .non
  · exact .int m
theorem tells_all {K : PySem.W.Frag} {H : Hp} {sd : Str} {ls : List Lk} {L : Int} : ∀ (vs : List V), (∀ v ∈ vs, ∃ x, Tells sd ls x L v) → DpAll K H vs (vs.map encT)
  | [], _ => .nil
  | v :: vs, h => by
    obtain ⟨x, hx⟩ := h v List.mem_cons_self
    exact .cons (tells_dp hx) (tells_all vs fun u hu => h u (List.mem_cons_of_mem _ hu))
theorem lay_T : ∀ vs : List V, PyData.canLayAll0 (vs.map encT) = true
  | [] => rfl
  | v :: vs => by
    rw [List.map_cons, PyData.canLayAll0, lay_T vs]
    cases v <;> rfl
theorem depth_T : ∀ vs : List V, PyData.depthAll (vs.map encT) = 0
  | [] => rfl
  | v :: vs => by
    rw [List.map_cons, PyData.depthAll, depth_T vs]
    cases v <;> rfl
theorem shaped_T (vs : List V) : SeqAt.shaped (.list (vs.map encT)) = true := by
  unfold SeqAt.shaped
  rw [PyData.canLay0, lay_T, PyData.depth, depth_T]
  rfl
theorem rev_heard {L : Int} {hs : List Lk} {x : Str} (I : DkIs L hs x) : hs.reverse.foldl (heard L) [] = hs :=
  (fold0_canon L hs.reverse).eq I.cn fun o => by
    constructor
    · rintro ⟨l, hl, rfl⟩
      have hl' := List.mem_reverse.mp hl
      rw [I.hm l hl']; exact hl'
    · intro ho
      exact ⟨o, List.mem_reverse.mpr ho, (I.hm o ho).symm⟩
theorem dpAll_rev {K : PySem.W.Frag} {H : Hp} : ∀ {vs : List V} {ds : List PyData}, DpAll K H vs ds → DpAll K H vs.reverse ds.reverse
  | _, _, .nil => .nil
  | _, _, .cons a b => by
    rw [List.reverse_cons, List.reverse_cons]
    exact dpAll_app (dpAll_rev b) (.cons a .nil)
theorem told_eq {L : Int} {sd : Str} {ls : List Lk} {ns : List Int} {as bs : List V} (la : as.length = ns.length) (lb : bs.length = ns.length) (ha : ∀ (j : Nat) (z : Int) (v : V), ns[j]? = some z → as[j]? = some v → Tells sd ls z L v) (hb : ∀ (j : Nat) (z : Int) (v : V), ns[j]? = some z → bs[j]? = some v → Tells sd ls z L v) : as = bs := by
  refine List.ext_getElem (by omega) fun j h1 h2 => ?_
  have hz : ns[j]? = some (ns[j]'(by omega)) := List.getElem?_eq_getElem (by omega)
  exact tells_same (hb j _ _ hz (List.getElem?_eq_getElem h2)) (ha j _ _ hz (List.getElem?_eq_getElem h1))
theorem told_mem {L : Int} {sd : Str} {ls : List Lk} {ns : List Int} {as : List V} (la : as.length = ns.length) (ha : ∀ (j : Nat) (z : Int) (v : V), ns[j]? = some z → as[j]? = some v → Tells sd ls z L v) : ∀ v ∈ as, ∃ x, Tells sd ls x L v := fun v hv => by
  obtain ⟨j, hj⟩ := List.mem_iff_getElem?.mp hv
  have h1 := (List.getElem?_eq_some_iff.mp hj).1
  exact ⟨_, ha j _ v (List.getElem?_eq_getElem (by omega)) hj⟩
def spDarkRt : Sp := fun vs H Q _ => ∃ (t g : Addr) (n : Nat) (x : Str), vs = [.ref t, .str x] ∧ Tray H t g n ∧ n < 2 ^ 44 ∧ x.length ≤ 5000 ∧ Few2 53 x ∧ ∀ H', Tray H' t g (n + 4) → Keep t g H H' → Q (.bl true) H'
section
variable {P : Program} {w : World} {K : PySem.W.Frag} {mg : Str → Option Value} {base : Heap} {Z : Ad} {Y : AdX}
theorem ok_law_dark_right (T : Tx K w mg Z) (X : Ex P K mg Y) : FnOk P w K mg base CX0 14 Z.a_law_dark_right Z.d_law_dark_right P_law_dark_right spDarkRt := by
  refine T.F_law_dark_right.ok sclaw_dark_right (fun vs H Q E h => ?_) (fun cdv A outer s H vs Q E hr h => ?_)
  · obtain ⟨t, g, n, x, rfl, _⟩ := h
    rfl
  · obtain ⟨t, g, n, x, rfl, hT, hn, hx, hfew, k⟩ := h
    have f59 := Few.up hfew.1 (show 53 ≤ 55 by decide)
    have hb' : ∀ m, m ≤ n + 30 → m < 2 ^ 60 := fun m hm => Nat.lt_of_le_of_lt hm (Nat.lt_of_lt_of_le (Nat.add_lt_add_right hn 30) (by decide))
    refine ⟨_, (C8.pss_cut (ps_setLc (i := 2) (own := [("made", 3)]) (g := gName 3) (tt := _) rfl sclaw_dark_right.nd rfl rfl (sw_true rfl rfl rfl (by decide +kernel)) (pi_list (pe_call (ok_law_read T X) (hr.mono (by decide)) (by rfl) T.g_law_read T.F_law_read.kp T.bb_law_read .nil pass0 (pa_cons (pe_glob (v := .ref Z.a_read_dark) rfl T.g_read_dark rfl) (pa_cons (pv 1) pa_nil)))) (blkOk_by (own := [("made", 3)]) (N := N_law_dark_right) (sc := defScope slaw_dark_right) (by decide +kernel)) (fun _ _ _ _ _ => (pg_name (i := 3) sclaw_dark_right.nd rfl (Or.inl rfl))) (fun _ _ _ _ _ => (pts_one (pt_cmpR op_lt (pe_meth0 (pv 3) T.cl T.m_Dark_length (ok_Dark_length T) (hr.mono (by decide)) T.bb_Dark_length .nil pass0) (pe_op op_pow pe_int pe_int) (nomark _)))) (fun _ _ _ _ _ => (pv 3)))
      (pss_cons (ps_for PassesOwn.never rfl (pi_list (pv 2)) (pg_name (i := 3) sclaw_dark_right.nd rfl (Or.inr rfl)) (pss_cons (ps_set (i := 4) sclaw_dark_right.nd rfl (Or.inr rfl) (pe_make T.mk_Dark (ok_Dark_init T) (hr.mono (by decide)) (by rfl) T.g_Dark T.bb_Dark_init .nil pass0 (pa_cons (pe_meth0 (pv 3) T.cl T.m_Dark_length (ok_Dark_length T) (hr.mono (by decide)) T.bb_Dark_length .nil pass0) pa_nil)))
      (pss_cons (ps_for PassesOwn.never rfl (pi_list (pe_revL (pe_meth0 (pv 3) T.cl T.m_Dark_looks (ok_Dark_looks T) (hr.mono (by decide)) T.bb_Dark_looks .nil pass0))) (pg_name (i := 5) sclaw_dark_right.nd rfl (Or.inl rfl)) (pss_one (ps_expr (pe_meth (pv 4) T.cl T.m_Dark_hear (ok_Dark_hear T) (hr.mono (by decide)) T.bb_Dark_hear .nil pass0 (pa_cons (pe_ix (ixT (K := K)) (pv 5) pe_int (fun _ _ => rfl)) (pa_cons (pe_ix (ixT (K := K)) (pv 5) pe_int (fun _ _ => rfl)) (pa_cons (pe_ix (ixT (K := K)) (pv 5) pe_int (fun _ _ => rfl)) pa_nil)))))))
      (C8.pss_cut (ps_setLc (i := 6) (own := [("turn", 7)]) (g := gName 7) (tt := tYes) rfl sclaw_dark_right.nd rfl rfl (sw_true rfl rfl rfl (by decide +kernel)) (pi_range1 (by rfl) T.b_range (pa_cons pe_int pa_nil)) (blkOk_by (own := [("turn", 7)]) (N := N_law_dark_right) (sc := defScope slaw_dark_right) (by decide +kernel)) (fun _ _ _ _ _ => (pg_name (i := 7) sclaw_dark_right.nd rfl (Or.inl rfl))) (fun _ _ _ _ _ => pts_nil) (fun _ _ _ _ _ => (pe_op op_sub (pe_call (ok_law_draw T) (hr.mono (by decide)) (by rfl) T.g_law_draw T.F_law_draw.kp T.bb_law_draw .nil pass0 (pa_cons (pv 0) (pa_cons pe_int pa_nil))) pe_int)))
      (C8.pss_cut (ps_if (pt_cmpR (neDK (K := K) hr.units) (pe_lc (own := [("spot", 8)]) (g := gName 8) (tt := tYes) rfl sclaw_dark_right.nd (pi_list (pv 6)) (blkOk_by (own := [("spot", 8)]) (N := N_law_dark_right) (sc := defScope slaw_dark_right) (by decide +kernel)) (fun _ _ _ _ _ => (pg_name (i := 8) sclaw_dark_right.nd rfl (Or.inl rfl))) (fun _ _ _ _ _ => pts_nil) (fun _ _ _ _ _ => (pe_meth (pv 3) T.cl T.m_Dark_least (ok_Dark_least T) (hr.mono (by decide)) T.bb_Dark_least .nil pass0 (pa_cons (pv 8) pa_nil)))) (pe_lc (own := [("spot", 8)]) (g := gName 8) (tt := tYes) rfl sclaw_dark_right.nd (pi_list (pv 6)) (blkOk_by (own := [("spot", 8)]) (N := N_law_dark_right) (sc := defScope slaw_dark_right) (by decide +kernel)) (fun _ _ _ _ _ => (pg_name (i := 8) sclaw_dark_right.nd rfl (Or.inl rfl))) (fun _ _ _ _ _ => pts_nil) (fun _ _ _ _ _ => (pe_meth (pv 4) T.cl T.m_Dark_least (ok_Dark_least T) (hr.mono (by decide)) T.bb_Dark_least .nil pass0 (pa_cons (pv 8) pa_nil)))) (nomark _)) (pss_one (ps_ret pe_bl)) pss_nil)
      (pss_one (ps_if (pt_cmpR (neDK (K := K) hr.units) (pe_lc (own := [("spot", 8)]) (g := gName 8) (tt := tYes) rfl sclaw_dark_right.nd (pi_list (pv 6)) (blkOk_by (own := [("spot", 8)]) (N := N_law_dark_right) (sc := defScope slaw_dark_right) (by decide +kernel)) (fun _ _ _ _ _ => (pg_name (i := 8) sclaw_dark_right.nd rfl (Or.inl rfl))) (fun _ _ _ _ _ => pts_nil) (fun _ _ _ _ _ => (pe_meth (pv 3) T.cl T.m_Dark_greatest (ok_Dark_greatest T) (hr.mono (by decide)) T.bb_Dark_greatest .nil pass0 (pa_cons (pv 8) pa_nil)))) (pe_lc (own := [("spot", 8)]) (g := gName 8) (tt := tYes) rfl sclaw_dark_right.nd (pi_list (pv 6)) (blkOk_by (own := [("spot", 8)]) (N := N_law_dark_right) (sc := defScope slaw_dark_right) (by decide +kernel)) (fun _ _ _ _ _ => (pg_name (i := 8) sclaw_dark_right.nd rfl (Or.inl rfl))) (fun _ _ _ _ _ => pts_nil) (fun _ _ _ _ _ => (pe_meth (pv 4) T.cl T.m_Dark_greatest (ok_Dark_greatest T) (hr.mono (by decide)) T.bb_Dark_greatest .nil pass0 (pa_cons (pv 8) pa_nil)))) (nomark _)) (pss_one (ps_ret pe_bl)) pss_nil)))))))
      (pss_one (ps_ret pe_bl)))), ?_⟩
    -- some
    refine ⟨fun σ' H' => ∃ (p : Addr) (us : List V), σ' = [some (.ref t), some (.str x), some (.ref p), none, none, none, none, none, none] ∧ Same H H' ∧ H p = none ∧ H' p = some (.lst us) ∧ (us = [] ∨ ∃ (L : Int) (hs : List Lk) (d : Addr), us = [.ref d] ∧ DarkAt Z K H' d L hs ∧ DkIs L hs x ∧ L < 10 ^ 30 ∧ ∀ la dx, H' d = some (.ins Z.C dx (df L la)) → H la = none), ?_, ?_⟩
    · refine ⟨_, rfl, 1, x, by decide, rfl, hx, f59, hfew.2, fun H1 p v S1 gp R => ?_, fun hno H1 p S1 gp => ?_⟩
      · obtain ⟨L, hs, d, rfl, D, I, hd, F⟩ := R
        refine ⟨p, rfl, ⟨_, SqL.of gp⟩, fun D0 hD => ?_⟩
        refine lc_list (K := K) (a := p) (xs := [.ref d]) (fun i H' => Same H1 H' ∧ ∃ us, H' D0 = some (.lst us) ∧ (us = [] ∨ (us = [.ref d] ∧ L < 10 ^ 30 ∧ 0 < i))) ⟨same_upd hD, [], upd_same, .inl rfl⟩ (fun i H' _ ⟨S, _⟩ => SqL.of (S _ _ gp)) ?_ ?_
        · rintro i y H' hi ⟨S, us, gD, hus⟩
          have hi1 : i < 1 := (List.getElem?_eq_some_iff.mp hi).1
          obtain rfl : i = 0 := by omega
          obtain rfl : y = .ref d := (Option.some.inj hi).symm
          obtain rfl : us = [] := by
            rcases hus with h | ⟨_, _, h⟩
            · exact h
            · omega
          have D' := D.same S
          obtain ⟨dx, la, vs, g1, g2, g3⟩ := id D'.ex
          refine ⟨rfl, _, rfl, d, dx, _, rfl, g1, df_no _ _ (by decide +kernel) (by decide +kernel), d, L, hs, rfl, D', _, _, rfl, rfl, ⟨by decide, by decide, by decide⟩, _, _, rfl, rfl, _, rfl, ite2 (fun c => ?_) (fun c => ?_)⟩
          · exact ⟨_, rfl, [], gD, small1000 (by simp), same_set S hD, _, upd_same, .inr ⟨rfl, of_decide_eq_true c, by omega⟩⟩
          · exact ⟨S, [], gD, .inl rfl⟩
        · rintro H' ⟨S, us, gD, hus⟩
          refine ⟨D0, us, rfl, S1.trans S, S1.free hD, gD, ?_⟩
          rcases hus with h | ⟨h, hL, _⟩
          · exact .inl h
          · refine .inr ⟨L, hs, d, h, D.same S, I, hL, fun la dx e => ?_⟩
            obtain ⟨dx', la', vs, g1, g2, g3⟩ := id D.ex
            have h2 := S _ _ g1
            rw [e] at h2
            rw [df_inj h2]
            exact F _ _ g1
      · refine ⟨p, rfl, ⟨_, SqL.of gp⟩, fun D0 hD => ?_⟩
        refine lc_list (K := K) (a := p) (xs := []) (fun i H' => Same H1 H' ∧ H' D0 = some (.lst [])) ⟨same_upd hD, upd_same⟩ (fun i H' _ ⟨S, _⟩ => SqL.of (S _ _ gp)) ?_ ?_
        · rintro i y H' hi _
          simp at hi
        · rintro H' ⟨S, gD⟩
          exact ⟨D0, [], rfl, S1.trans S, S1.free hD, gD, .inl rfl⟩
    rintro σ1 H1 ⟨p, us, rfl, S1, hp, gp, hus⟩
    have T1 := hT.same S1
    obtain ⟨pt, pg⟩ := tray_ne hT hp
    refine ⟨_, rfl, p, rfl, ⟨_, SqL.of gp⟩, ?_⟩
    refine for_list (K := K) (a := p) (xs := us) (fun i σ' H' => ∃ u3 u4 u5 u6 u7 u8 : Option V, σ' = [some (.ref t), some (.str x), some (.ref p), u3, u4, u5, u6, u7, u8] ∧ Keep t g H1 H' ∧ Tray H' t g (n + 4 * i)) ⟨_, _, _, _, _, _, rfl, Keep.refl _ _ _, T1⟩ (fun i σ' H' _ ⟨_, _, _, _, _, _, _, kk, _⟩ => SqL.of (kk _ _ gp pt pg)) ?_ ?_
    rotate_left
    · rintro σ' H2 ⟨_, _, _, _, _, _, rfl, kk, T2⟩
      have hl : us.length ≤ 1 := by
        rcases hus with h | ⟨L, hs, d, h, _⟩ <;> rw [h] <;> simp
      exact k H2 (T2.up (by omega)) ((Keep.of_same S1).trans kk)
    rintro i y σ' H2 hi ⟨u3, u4, u5, u6, u7, u8, rfl, k2, T2⟩
    rcases hus with rfl | ⟨L, hs, d, rfl, D1, I, hL30, F⟩
    · simp at hi
    have hi1 : i < 1 := (List.getElem?_eq_some_iff.mp hi).1
    obtain rfl : i = 0 := by omega
    obtain rfl : y = .ref d := (Option.some.inj hi).symm
    have hL2 : L.natAbs < 2 ^ 200 := Nat.lt_trans I.sm (by decide)
    obtain ⟨D2, F2⟩ := D1.keep T1 k2 fun la dx e => tray_ne hT (F la dx e)
    obtain ⟨dx, la, vs, g1, g2, g3⟩ := id D2.ex
    refine ⟨_, rfl, d, dx, _, rfl, g1, df_no _ _ (by decide +kernel) (by decide +kernel), d, L, hs, rfl, D2, fun e dxe hen hdxe hned => ?_⟩
    have Sn : Same H2 (upd (upd H2 dxe (.own e)) e (.ins Z.C dxe [])) := fun b o q => by
      rw [upd_ne (ne_of_none q hen), upd_ne (ne_of_none q hdxe)]; exact q
    refine ⟨e, dxe, L, rfl, upd_same, I.pos, hL2, fun H3 E3 f3 k3 => ⟨rfl, ?_⟩⟩
    have S3 : Same H2 H3 := fun b o q => k3 b o (Sn b o q) (ne_of_none q hen)
    have fe3 : ∀ la dx, H3 e = some (.ins Z.C dx (df L la)) → H2 la = none := fun la dx q => Sn.free (f3 la dx q)
    have D3 := D2.same S3
    -- heard the other way about
    refine ⟨_, rfl, d, dx, _, rfl, S3 _ _ g1, df_no _ _ (by decide +kernel) (by decide +kernel), d, L, hs, rfl, D3, fun pl xs H4 hpl S4 l1 l2 => ⟨pl, xs, rfl, SqL.of l1, fun r hr => ?_⟩⟩
    have Sr := same_upd (o := HO.lst xs.reverse) hr
    have gr : (upd H4 r (.lst xs.reverse)) r = some (.lst xs.reverse) := upd_same
    have l2r := dpAll_mono Sr _ _ l2
    have S35 := S4.trans Sr
    generalize upd H4 r (.lst xs.reverse) = H5 at Sr gr l2r S35 ⊢
    have S25 := S3.trans S35
    have E5 := E3.same S35
    have lrev : DpAll K H5 xs.reverse (hs.reverse.map encL) := by
      rw [List.map_reverse]
      exact dpAll_rev l2r
    have hre : r ≠ e := by
      obtain ⟨dx3, la3, vs3, q1, _⟩ := id E3.ex
      exact Ne.symm (ne_of_none (S4 _ _ q1) hr)
    have hde : d ≠ e := ne_of_none g1 hen
    obtain ⟨dx5, la5, vs5, e5, _, _⟩ := id E5.ex
    have fe5 : ∀ la dx, H5 e = some (.ins Z.C dx (df L la)) → H2 la = none := fun la dx q => by
      obtain ⟨dx3, la3, vs3, q1, _⟩ := id E3.ex
      have h2 := S35 _ _ q1
      rw [q] at h2
      rw [df_inj h2]
      exact fe3 _ _ q1
    refine ⟨r, rfl, ⟨_, SqL.of gr⟩, ?_⟩
    refine for_list (K := K) (a := r) (xs := xs.reverse) (fun i σ' H' => ∃ u5' : Option V, σ' = [some (.ref t), some (.str x), some (.ref p), some (.ref d), some (.ref e), u5', u6, u7, u8] ∧ But e H5 H' ∧ DarkAt Z K H' e L ((hs.reverse.take i).foldl (heard L) []) ∧ ∀ la dx, H' e = some (.ins Z.C dx (df L la)) → H2 la = none) ⟨_, rfl, fun _ _ q _ => q, E5, fe5⟩ (fun i σ' H' _ ⟨_, _, kb, _⟩ => SqL.of (kb _ _ gr hre)) ?_ ?_
    · rintro i y σ' H6 hi ⟨u5', rfl, kb, E6, F6⟩
      obtain ⟨yd, hdi, hdy⟩ := dpAll_get lrev hi
      obtain ⟨l, hl, rfl⟩ := map_at hdi
      have hlm : l ∈ hs := List.mem_reverse.mp (List.mem_of_getElem? hl)
      obtain ⟨pp, rfl, hpp⟩ := dp_look (dp_tups (kb.tups e5) _ _ rfl hdy)
      obtain ⟨dx6, la6, vs6, q1, q2, q3⟩ := id E6.ex
      have hfl := fold_len (L := L) (hs.reverse.take i) []
      have hlen : hs.length ≤ 60 := D2.len
      have hi' : i < hs.reverse.length := (List.getElem?_eq_some_iff.mp hl).1
      rw [List.length_reverse] at hi'
      have htl : (hs.reverse.take i).length = i := by rw [List.length_take, List.length_reverse]; omega
      refine ⟨_, rfl, e, dx6, _, rfl, q1, df_no _ _ (by decide +kernel) (by decide +kernel), _, rfl, pp, _, _, _, rfl, rfl, hpp, rfl, _, rfl, pp, _, _, _, rfl, rfl, hpp, rfl, _, rfl, pp, _, _, _, rfl, rfl, hpp, rfl, ?_⟩
      refine ⟨e, L, _, l, rfl, E6, (I.ok l hlm).1, small_sized (I.ok l hlm).2, by simp at hfl; omega, fun o ho => ?_, fun H7 E7 f7 k7 => ⟨_, rfl, fun b o q hb => k7 b o (kb b o q hb) hb, ?_, fun la dx q => ?_⟩⟩
      · obtain h | ⟨z, hz, q⟩ := (fold_mem _ _ _).mp ho
        · cases h
        · rw [q, clash_home I.pos]
          exact I.nc l hlm z (List.mem_reverse.mp (List.mem_of_mem_take hz))
      · rw [take_snoc hl, List.foldl_append]; exact E7
      · rcases f7 la dx q with ⟨dx', h⟩ | h
        · exact F6 la dx' h
        · refine S25.free ?_
          cases hc : H5 la with
          | none => rfl
          | some o =>
            have hle : la ≠ e := fun z => by rw [z, q1] at h; cases h
            rw [kb _ _ hc hle] at h; cases h
    rintro σ6 H6 ⟨u5', rfl, kb, E6, F6⟩
    rw [List.take_of_length_le (by rw [List.length_reverse, List.length_reverse, dpAll_len l2, List.length_map]; exact Nat.le_refl _), rev_heard I] at E6
    have D6 := (D3.same S35).but kb e5 hde
    have T6 : Tray H6 t g (n + 4 * 0) := (T2.same S25).but kb e5
    have off6e : ∀ la dx, H6 e = some (.ins Z.C dx (df L la)) → la ≠ t ∧ la ≠ g := fun la dx q => tray_ne T2 (F6 la dx q)
    have off6d : ∀ la dx, H6 d = some (.ins Z.C dx (df L la)) → la ≠ t ∧ la ≠ g := fun la' dx' q => by
      rw [kb _ _ (S25 _ _ g1) hde] at q
      exact F2 la' dx' (by rw [g1]; exact q)
    have k26 : ∀ b o, H2 b = some o → H6 b = some o := fun b o q => kb b o (S25 b o q) (ne_of_none q hen)
    -- spots
    refine ⟨fun σ' H' => ∃ (sp : Addr) (ns : List Int), σ' = [some (.ref t), some (.str x), some (.ref p), some (.ref d), some (.ref e), u5', some (.ref sp), u7, u8] ∧ Keep t g H6 H' ∧ Tray H' t g (n + 4) ∧ H' sp = some (.lst (ns.map V.int)) ∧ (∀ z ∈ ns, z.natAbs < 2 ^ 400) ∧ ns.length ≤ 10, ?_, ?_⟩
    · refine ⟨4, rfl, by decide, by decide, fun D0 hD => ?_⟩
      obtain ⟨Dt, Dg⟩ := tray_ne T6 hD
      refine lc_range (lo := 0) (n := 4) (fun i H' => Keep t g H6 H' ∧ Tray H' t g (n + i) ∧ ∃ ns : List Int, H' D0 = some (.lst (ns.map V.int)) ∧ ns.length = i ∧ ∀ z ∈ ns, z.natAbs < 2 ^ 400) ⟨Keep.of_same (same_upd hD), T6.same (same_upd hD), [], upd_same, rfl, fun z hz => by cases hz⟩ ?_ ?_
      · rintro i H7 hi4 ⟨k7, T7, ns, gD, hl, hz⟩
        refine ⟨rfl, yes_ite ?_⟩
        refine ⟨_, rfl, t, g, n + i, 40, rfl, T7, by decide, by decide, hb' _ (by omega), fun H8 c c0 c1 T8 k8 => ⟨_, _, rfl, rfl, ?_⟩⟩
        have gD8 := k8 _ _ gD Dt Dg
        refine ⟨_, gD8, small1000 (by simp; omega), ?_, tray_upd T8 Dt Dg, ns ++ [c - 20], by rw [List.map_append]; exact upd_same, by simp [hl], fun z hz' => ?_⟩
        · intro b o q bt bg
          have hbD : b ≠ D0 := ne_of_none q hD
          rw [upd_ne hbD]
          exact k8 _ _ (k7 _ _ q bt bg) bt bg
        · rcases List.mem_append.mp hz' with h | h
          · exact hz z h
          · rw [List.mem_singleton.mp h]
            exact Nat.lt_of_le_of_lt (by omega : (c - 20).natAbs ≤ 100) (by decide)
      · rintro H7 ⟨k7, T7, ns, gD, hl, hz⟩
        exact ⟨D0, ns, rfl, k7, T7, gD, hz, by omega⟩
    rintro σ7 H7 ⟨sp, ns, rfl, k7, T7, gs, hz, hnl⟩
    obtain ⟨D7, _⟩ := D6.keep T6 k7 off6d
    obtain ⟨E7, _⟩ := E6.keep T6 k7 off6e
    obtain ⟨dxd, lad, vsd, gd7, _, _⟩ := id D7.ex
    obtain ⟨dxe7, lae, vse, ge7, _, _⟩ := id E7.ex
    have K17 : Keep t g H1 H7 := (k2.trans fun b o q _ _ => k26 b o q).trans k7
    have gsH7 := gs
    -- what is told
    refine ⟨fun σ' H' => σ' = [some (.ref t), some (.str x), some (.ref p), some (.ref d), some (.ref e), u5', some (.ref sp), u7, u8] ∧ Same H7 H', ?_, ?_⟩
    · skip
      refine ⟨_, rfl, sp, rfl, ⟨_, SqL.of gsH7⟩, fun A hA => ?_⟩
      refine lc_list (K := K) (a := sp) (xs := ns.map V.int) (fun i H' => Same H7 H' ∧ ∃ as, H' A = some (.lst as) ∧ as.length = i ∧ ∀ (j : Nat) (z : Int) (v : V), ns[j]? = some z → as[j]? = some v → Tells "slow" hs z L v) ⟨same_upd hA, [], upd_same, rfl, fun j z v _ h => by simp at h⟩ (fun i H' _ ⟨S, _⟩ => SqL.of (S _ _ gsH7)) ?_ ?_
      · rintro i y H' hi ⟨S, as, gA, hl, ht⟩
        obtain ⟨z, hz1, rfl⟩ := map_at hi
        have hi' : i < ns.length := (List.getElem?_eq_some_iff.mp hz1).1
        refine ⟨rfl, yes_ite ?_⟩
        refine ⟨_, rfl, d, dxd, _, rfl, S _ _ gd7, df_no _ _ (by decide +kernel) (by decide +kernel), _, rfl, d, L, hs, z, rfl, D7.same S, hz z (List.mem_of_getElem? hz1), fun v H9 S9 tv => ⟨as, S9 _ _ gA, small1000 (by omega), same_set (S.trans S9) hA, _, upd_same, by simp [hl], fun j z' v' h1 h2 => ?_⟩⟩
        by_cases c : j < i
        · rw [List.getElem?_append_left (by omega)] at h2
          exact ht j z' v' h1 h2
        · have hj : j < (as ++ [v]).length := (List.getElem?_eq_some_iff.mp h2).1
          rw [List.length_append, List.length_singleton] at hj
          obtain rfl : j = i := by omega
          rw [List.getElem?_append_right (by omega), hl, Nat.sub_self] at h2
          rw [hz1] at h1
          obtain rfl := Option.some.inj h1
          obtain rfl : v = v' := by simpa using h2
          exact tv
      rintro Ha ⟨Sa, as, gA, la', ha'⟩
      rw [List.length_map] at la'
      have gsHa := Sa _ _ gsH7
      have Ea := E7.same Sa
      have gea := Sa _ _ ge7
      refine ⟨_, rfl, sp, rfl, ⟨_, SqL.of gsHa⟩, fun B hB => ?_⟩
      refine lc_list (K := K) (a := sp) (xs := ns.map V.int) (fun i H' => Same Ha H' ∧ ∃ as, H' B = some (.lst as) ∧ as.length = i ∧ ∀ (j : Nat) (z : Int) (v : V), ns[j]? = some z → as[j]? = some v → Tells "slow" hs z L v) ⟨same_upd hB, [], upd_same, rfl, fun j z v _ h => by simp at h⟩ (fun i H' _ ⟨S, _⟩ => SqL.of (S _ _ gsHa)) ?_ ?_
      · rintro i y H' hi ⟨S, as, gA, hl, ht⟩
        obtain ⟨z, hz1, rfl⟩ := map_at hi
        have hi' : i < ns.length := (List.getElem?_eq_some_iff.mp hz1).1
        refine ⟨rfl, yes_ite ?_⟩
        refine ⟨_, rfl, e, dxe7, _, rfl, S _ _ gea, df_no _ _ (by decide +kernel) (by decide +kernel), _, rfl, e, L, hs, z, rfl, Ea.same S, hz z (List.mem_of_getElem? hz1), fun v H9 S9 tv => ⟨as, S9 _ _ gA, small1000 (by omega), same_set (S.trans S9) hB, _, upd_same, by simp [hl], fun j z' v' h1 h2 => ?_⟩⟩
        by_cases c : j < i
        · rw [List.getElem?_append_left (by omega)] at h2
          exact ht j z' v' h1 h2
        · have hj : j < (as ++ [v]).length := (List.getElem?_eq_some_iff.mp h2).1
          rw [List.length_append, List.length_singleton] at hj
          obtain rfl : j = i := by omega
          rw [List.getElem?_append_right (by omega), hl, Nat.sub_self] at h2
          rw [hz1] at h1
          obtain rfl := Option.some.inj h1
          obtain rfl : v = v' := by simpa using h2
          exact tv
      rintro Hb ⟨Sb, bs, gB, lb', hb''⟩
      rw [List.length_map] at lb'
      obtain rfl := told_eq la' lb' ha' hb''
      have ma := told_mem la' ha'
      refine ⟨_, _, .lst (SqL.of (Sb _ _ gA)) (tells_all _ ma), .lst (SqL.of gB) (tells_all _ ma), shaped_T as, shaped_T as, _, rfl, ?_⟩
      rw [SeqAt.eqv_refl _ (SeqAt.canLay_of_shaped (shaped_T as))]
      exact iteF ⟨rfl, Sa.trans Sb⟩
    rintro σ8 H8 ⟨rfl, S8⟩
    have gsH8 := S8 _ _ gs
    have D8 := D7.same S8
    have E8 := E7.same S8
    have gd8 := S8 _ _ gd7
    have ge8 := S8 _ _ ge7
    refine ⟨_, rfl, sp, rfl, ⟨_, SqL.of gsH8⟩, fun A hA => ?_⟩
    refine lc_list (K := K) (a := sp) (xs := ns.map V.int) (fun i H' => Same H8 H' ∧ ∃ as, H' A = some (.lst as) ∧ as.length = i ∧ ∀ (j : Nat) (z : Int) (v : V), ns[j]? = some z → as[j]? = some v → Tells "fast" hs z L v) ⟨same_upd hA, [], upd_same, rfl, fun j z v _ h => by simp at h⟩ (fun i H' _ ⟨S, _⟩ => SqL.of (S _ _ gsH8)) ?_ ?_
    · rintro i y H' hi ⟨S, as, gA, hl, ht⟩
      obtain ⟨z, hz1, rfl⟩ := map_at hi
      have hi' : i < ns.length := (List.getElem?_eq_some_iff.mp hz1).1
      refine ⟨rfl, yes_ite ?_⟩
      refine ⟨_, rfl, d, dxd, _, rfl, S _ _ gd8, df_no _ _ (by decide +kernel) (by decide +kernel), _, rfl, d, L, hs, z, rfl, D8.same S, hz z (List.mem_of_getElem? hz1), fun v H9 S9 tv => ⟨as, S9 _ _ gA, small1000 (by omega), same_set (S.trans S9) hA, _, upd_same, by simp [hl], fun j z' v' h1 h2 => ?_⟩⟩
      by_cases c : j < i
      · rw [List.getElem?_append_left (by omega)] at h2
        exact ht j z' v' h1 h2
      · have hj : j < (as ++ [v]).length := (List.getElem?_eq_some_iff.mp h2).1
        rw [List.length_append, List.length_singleton] at hj
        obtain rfl : j = i := by omega
        rw [List.getElem?_append_right (by omega), hl, Nat.sub_self] at h2
        rw [hz1] at h1
        obtain rfl := Option.some.inj h1
        obtain rfl : v = v' := by simpa using h2
        exact tv
    rintro Ha ⟨Sa, as, gA, la', ha'⟩
    rw [List.length_map] at la'
    have gsHa := Sa _ _ gsH8
    have Ea := E8.same Sa
    have gea := Sa _ _ ge8
    refine ⟨_, rfl, sp, rfl, ⟨_, SqL.of gsHa⟩, fun B hB => ?_⟩
    refine lc_list (K := K) (a := sp) (xs := ns.map V.int) (fun i H' => Same Ha H' ∧ ∃ as, H' B = some (.lst as) ∧ as.length = i ∧ ∀ (j : Nat) (z : Int) (v : V), ns[j]? = some z → as[j]? = some v → Tells "fast" hs z L v) ⟨same_upd hB, [], upd_same, rfl, fun j z v _ h => by simp at h⟩ (fun i H' _ ⟨S, _⟩ => SqL.of (S _ _ gsHa)) ?_ ?_
    · rintro i y H' hi ⟨S, as, gA, hl, ht⟩
      obtain ⟨z, hz1, rfl⟩ := map_at hi
      have hi' : i < ns.length := (List.getElem?_eq_some_iff.mp hz1).1
      refine ⟨rfl, yes_ite ?_⟩
      refine ⟨_, rfl, e, dxe7, _, rfl, S _ _ gea, df_no _ _ (by decide +kernel) (by decide +kernel), _, rfl, e, L, hs, z, rfl, Ea.same S, hz z (List.mem_of_getElem? hz1), fun v H9 S9 tv => ⟨as, S9 _ _ gA, small1000 (by omega), same_set (S.trans S9) hB, _, upd_same, by simp [hl], fun j z' v' h1 h2 => ?_⟩⟩
      by_cases c : j < i
      · rw [List.getElem?_append_left (by omega)] at h2
        exact ht j z' v' h1 h2
      · have hj : j < (as ++ [v]).length := (List.getElem?_eq_some_iff.mp h2).1
        rw [List.length_append, List.length_singleton] at hj
        obtain rfl : j = i := by omega
        rw [List.getElem?_append_right (by omega), hl, Nat.sub_self] at h2
        rw [hz1] at h1
        obtain rfl := Option.some.inj h1
        obtain rfl : v = v' := by simpa using h2
        exact tv
    rintro Hb ⟨Sb, bs, gB, lb', hb''⟩
    rw [List.length_map] at lb'
    obtain rfl := told_eq la' lb' ha' hb''
    have ma := told_mem la' ha'
    refine ⟨_, _, .lst (SqL.of (Sb _ _ gA)) (tells_all _ ma), .lst (SqL.of gB) (tells_all _ ma), shaped_T as, shaped_T as, _, rfl, ?_⟩
    rw [SeqAt.eqv_refl _ (SeqAt.canLay_of_shaped (shaped_T as))]
    exact iteF ⟨_, _, _, _, _, _, rfl, K17.trans (Keep.of_same (S8.trans (Sa.trans Sb))), T7.same (S8.trans (Sa.trans Sb))⟩
end
end KA
namespace KA
open PySem PySem.Spec PyProof.Rows L2 DP
theorem sized_wide {l : Lk} (h : Sized 270 l) : Wide l := ⟨Nat.lt_trans h.1 (by decide), Nat.lt_trans h.2 (by decide)⟩
def spLaw (K : PySem.W.Frag) : Sp := fun vs H Q _ => ∃ (a : Addr) (ns : List Int), vs = [.ref a] ∧ SqL K H a (ns.map V.int) ∧ ns.length ≤ 63 ∧ ∀ H', Q (.bl true) H'
section
variable {P : Program} {w : World} {K : PySem.W.Frag} {mg : Str → Option Value} {base : Heap} {Z : Ad} {Y : AdX}
theorem ok_law (T : Tx K w mg Z) (X : Ex P K mg Y) : FnOk P w K mg base CX0 16 Z.a_law Z.d_law P_law (spLaw K) := by
  refine T.F_law.ok sclaw (fun vs H Q E h => ?_) (fun cdv A outer s H vs Q E hr h => ?_)
  · obtain ⟨a, ns, rfl, _⟩ := h
    rfl
  · obtain ⟨a, ns, rfl, hS, hlen, k⟩ := h
    refine ⟨_, (pss_cons (ps_set (i := 1) sclaw.nd rfl (Or.inl rfl) (pe_call (ok_law_tray T) (hr.mono (by decide)) (by rfl) T.g_law_tray T.F_law_tray.kp T.bb_law_tray .nil pass0 (pa_cons (pv 0) pa_nil)))
      (pss_cons (ps_set (i := 2) sclaw.nd rfl (Or.inl rfl) (pe_call0 (ok_law_odd T) (hr.mono (by decide)) (by rfl) T.g_law_odd T.F_law_odd.kp T.bb_law_odd .nil pass0))
      (pss_cons (ps_for PassesOwn.never rfl (pi_range1 (by rfl) T.b_range (pa_cons (pe_op op_add pe_int (pe_op op_mulW pe_int (pe_callB (lenK (K := K)) (by rfl) T.b_len (by decide +kernel) (pa_cons (pe_slice (slL (K := K)) (pv 0) po_none (po_some pe_int)) pa_nil)))) pa_nil)) (pg_name (i := 3) sclaw.nd rfl (Or.inl rfl)) (C8.pss_cut (ps_set (i := 4) sclaw.nd rfl (Or.inr rfl) (pe_call (ok_law_length T) (hr.mono (by decide)) (by rfl) T.g_law_length T.F_law_length.kp T.bb_law_length .nil pass0 (pa_cons (pv 1) pa_nil)))
      (C8.pss_cut (ps_set (i := 5) sclaw.nd rfl (Or.inl rfl) (pe_call (ok_law_secret T) (hr.mono (by decide)) (by rfl) T.g_law_secret T.F_law_secret.kp T.bb_law_secret .nil pass0 (pa_cons (pv 1) (pa_cons (pv 4) pa_nil))))
      (C8.pss_cut (ps_set (i := 6) sclaw.nd rfl (Or.inl rfl) (pe_callB (SD.sortSetDK (K := K) (P := P) (w := w) rfl (rooms64 hr)) (by rfl) T.b_sorted (by decide +kernel) (pa_cons (pe_callTy (SD.setDK (K := K) (P := P) (w := w) rfl (rooms64 hr)) (by rfl) T.b_set (by decide +kernel) (pa_cons (pe_lc (own := [("look", 7)]) (g := gName 7) (tt := tYes) rfl sclaw.nd (pi_list (pe_call (ok_law_known T) (hr.mono (by decide)) (by rfl) T.g_law_known T.F_law_known.kp T.bb_law_known .nil pass0 (pa_cons (pv 1) (pa_cons (pv 4) (pa_cons pe_int pa_nil))))) (blkOk_by (own := [("look", 7)]) (N := N_law) (sc := defScope slaw) (by decide +kernel)) (fun _ _ _ _ _ => (pg_name (i := 7) sclaw.nd rfl (Or.inl rfl))) (fun _ _ _ _ _ => pts_nil) (fun _ _ _ _ _ => (pe_call (ok_law_home T) (hr.mono (by decide)) (by rfl) T.g_law_home T.F_law_home.kp T.bb_law_home .nil pass0 (pa_cons (pv 4) (pa_cons (pv 7) pa_nil))))) pa_nil)) pa_nil)))
      (C8.pss_cut (ps_set (i := 8) sclaw.nd rfl (Or.inl rfl) (pe_lst (pa_cons (pe_call (ok_law_look_shown T) (hr.mono (by decide)) (by rfl) T.g_law_look_shown T.F_law_look_shown.kp T.bb_law_look_shown .nil pass0 (pa_cons (pe_call (ok_law_true_look T) (hr.mono (by decide)) (by rfl) T.g_law_true_look T.F_law_true_look.kp T.bb_law_true_look .nil pass0 (pa_cons (pv 1) (pa_cons (pv 4) (pa_cons (pv 5) pa_nil)))) pa_nil)) (pa_cons (pe_call (ok_law_dark_shown T) (hr.mono (by decide)) (by rfl) T.g_law_dark_shown T.F_law_dark_shown.kp T.bb_law_dark_shown .nil pass0 (pa_cons (pv 4) (pa_cons (pv 6) pa_nil))) pa_nil))))
      (C8.pss_cut (ps_set (i := 9) sclaw.nd rfl (Or.inl rfl) (pe_ix (ixL (K := K)) (pe_op op_cat (pv 8) (pe_lst (pa_cons (pe_call (ok_law_hand_shown T) (hr.mono (by decide)) (by rfl) T.g_law_hand_shown T.F_law_hand_shown.kp T.bb_law_hand_shown .nil pass0 (pa_cons (pv 4) (pa_cons (pv 5) pa_nil))) pa_nil))) (pe_call (ok_law_draw T) (hr.mono (by decide)) (by rfl) T.g_law_draw T.F_law_draw.kp T.bb_law_draw .nil pass0 (pa_cons (pv 1) (pa_cons pe_int pa_nil))) (fun _ _ => rfl)))
      (C8.pss_cut (ps_if (pt_cmpR op_eq (pe_call (ok_law_draw T) (hr.mono (by decide)) (by rfl) T.g_law_draw T.F_law_draw.kp T.bb_law_draw .nil pass0 (pa_cons (pv 1) (pa_cons pe_int pa_nil))) pe_int (nomark _)) (pss_one (ps_set (i := 9) sclaw.nd rfl (Or.inl rfl) (pe_ix (ixL (K := K)) (pv 2) (pe_call (ok_law_draw T) (hr.mono (by decide)) (by rfl) T.g_law_draw T.F_law_draw.kp T.bb_law_draw .nil pass0 (pa_cons (pv 1) (pa_cons (pe_callB (lenK (K := K)) (by rfl) T.b_len (by decide +kernel) (pa_cons (pv 2) pa_nil)) pa_nil))) (fun _ _ => rfl)))) pss_nil)
      (pss_cons (ps_for PassesOwn.never rfl (pi_range1 (by rfl) T.b_range (pa_cons (pe_ix (ixL (K := K)) (pe_lst (pa_cons pe_int (pa_cons pe_int (pa_cons pe_int (pa_cons pe_int (pa_cons pe_int pa_nil)))))) (pe_call (ok_law_draw T) (hr.mono (by decide)) (by rfl) T.g_law_draw T.F_law_draw.kp T.bb_law_draw .nil pass0 (pa_cons (pv 1) (pa_cons pe_int pa_nil))) (fun _ _ => rfl)) pa_nil)) (pg_name (i := 10) sclaw.nd rfl (Or.inl rfl)) (pss_one (ps_set (i := 9) sclaw.nd rfl (Or.inl rfl) (pe_call (ok_law_spoilt T) (hr.mono (by decide)) (by rfl) T.g_law_spoilt T.F_law_spoilt.kp T.bb_law_spoilt .nil pass0 (pa_cons (pv 1) (pa_cons (pv 9) (pa_cons (pv 2) pa_nil)))))))
      (pss_one (ps_if (PW.pt (pw_or (pt_not (pt_val (pe_call (ok_law_kept T X) (hr.mono (by decide)) (by rfl) T.g_law_kept T.F_law_kept.kp T.bb_law_kept .nil pass0 (pa_cons (pe_slice sl_str (pv 9) po_none (po_some pe_int)) pa_nil)))) (pw_or1 (pt_not (pt_val (pe_call (ok_law_dark_right T X) (hr.mono (by decide)) (by rfl) T.g_law_dark_right T.F_law_dark_right.kp T.bb_law_dark_right .nil pass0 (pa_cons (pv 1) (pa_cons (pe_slice sl_str (pv 9) po_none (po_some pe_int)) pa_nil)))))))) (pss_one (ps_ret pe_bl)) pss_nil))))))))))
      (pss_one (ps_ret pe_bl))))), ?_⟩
    refine ⟨_, rfl, a, ns, rfl, hS, hlen, fun H0 t g T0 S0 ht hg => ?_⟩
    refine ⟨rfl, fun H0o o S0o ho go => ?_⟩
    have hS2 := Same.sqL (S0.trans S0o) hS
    obtain ⟨ot, og⟩ := tray_ne T0 ho
    have T0o := T0.same S0o
    refine ⟨_, rfl, _, rfl, a, _, rfl, hS2, fun q hq => ⟨q, _, rfl, .inl (SqL.of upd_same), ?_⟩⟩
    have hcut : ((cutV (ns.map V.int) none (some 12)).length : Int) ≤ 63 := by
      have e : (cutV (ns.map V.int) none (some (12 : Int))).length ≤ 63 := Nat.le_trans (cutV_length _ _ _) (by rw [List.length_map]; exact hlen)
      exact_mod_cast e
    have hcut0 : (0 : Int) ≤ ((cutV (ns.map V.int) none (some 12)).length : Int) := Int.natCast_nonneg _
    generalize ((cutV (ns.map V.int) none (some 12)).length : Int) = cut at hcut hcut0 ⊢
    have T0' : Tray (upd H0o q (.lst (cutV (ns.map V.int) none (some 12)))) t g 0 := T0o.same (same_upd hq)
    have go' := same_upd (o := .lst (cutV (ns.map V.int) none (some 12))) hq _ _ go
    generalize upd H0o q (.lst (cutV (ns.map V.int) none (some 12))) = H0' at T0' go' ⊢
    refine ⟨_, _, rfl, rfl, wide_mul (a := 10) (b := 10) (by decide) (Nat.lt_of_le_of_lt (by omega : cut.natAbs ≤ 63) (by decide)) (by decide) (by decide) (by decide), _, _, rfl, rfl, 6 + 2 * cut, rfl, by omega, by omega, ?_⟩
    refine for_range (n := (6 + 2 * cut).toNat) (fun i σ' H' => ∃ (u2 u3 u4 u5 u6 u7 u8 u9 : Option V), σ' = [some (.ref a), some (.ref t), some (.ref o), u2, u3, u4, u5, u6, u7, u8, u9] ∧ H' o = some (.lst (oddsL.map V.str)) ∧ Tray H' t g (3000 * i)) ⟨_, _, _, _, _, _, _, _, rfl, go', T0'⟩ ?_ ?_
    rotate_left
    · rintro σ' H' ⟨_, _, _, _, _, _, _, _, rfl, _⟩
      exact k H'
    rintro i σ' H1 hi ⟨u2, u3, u4, u5, u6, u7, u8, u9, rfl, go1, T1⟩
    have hi13 : i < 300 := by omega
    obtain ⟨N, eN⟩ : ∃ N, N = 3000 * i := ⟨_, rfl⟩
    have eN2 : 3000 * (i + 1) = N + 3000 := by omega
    rw [eN2]
    rw [← eN] at T1
    have hn : ∀ m, m ≤ N + 3000 → m < 2 ^ 43 := fun m hm => Nat.lt_of_le_of_lt (by omega : m ≤ 1000000) (by decide)
    have hn6 : ∀ m, m ≤ N + 3000 → m < 2 ^ 60 := fun m hm => Nat.lt_trans (hn m hm) (by decide)
    -- size
    refine ⟨fun σ' H' => ∃ (L : Int), σ' = [some (.ref a), some (.ref t), some (.ref o), some (.int (0 + (i : Nat))), some (.int L), u4, u5, u6, u7, u8, u9] ∧ 0 < L ∧ L ≤ 10 ^ 30 ∧ H' o = some (.lst (oddsL.map V.str)) ∧ Tray H' t g (N + 10), ?_, ?_⟩
    · exact ⟨_, rfl, t, g, N, rfl, T1, Nat.lt_trans (hn _ (by omega)) (by decide), fun H2 L hL hL30 T2 k2 => ⟨L, rfl, hL, hL30, k2 _ _ go1 ot og, T2⟩⟩
    rintro σ2 H2 ⟨L, rfl, hL, hL30, go2, T2⟩
    have hLb := bigL hL hL30
    have hL2 : L.natAbs < 2 ^ 200 := lt_up hLb (by decide)
    have hL60 : L.natAbs < 10 ^ 60 := by omega
    -- steps
    refine ⟨fun σ' H' => ∃ (sp : Addr) (ps : List Pr), σ' = [some (.ref a), some (.ref t), some (.ref o), some (.int (0 + (i : Nat))), some (.int L), some (.ref sp), u5, u6, u7, u8, u9] ∧ Tray H' t g (N + 40) ∧ H' o = some (.lst (oddsL.map V.str)) ∧ sp ≠ t ∧ sp ≠ g ∧ LAt K H' sp (ps.map encP) ∧ StepsOk L ps, ?_, ?_⟩
    · exact ⟨_, rfl, _, rfl, t, g, N + 10, L, rfl, T2, Nat.lt_trans (hn _ (by omega)) (by decide), hL, hL30, fun H3 p steps hp T3 k3 lp so => ⟨p, steps, rfl, T3, k3 _ _ go2 ot og, (tray_ne T2 hp).1, (tray_ne T2 hp).2, lp, so⟩⟩
    rintro σ3 H3 ⟨sp, ps, rfl, T3, go3, spt, spg, lsp, so⟩
    have hsm : ∀ s ∈ ps, SmP s := fun s hs => by
      obtain ⟨h1, h2, h3⟩ := so.2.2 s hs
      exact ⟨by omega, Nat.lt_trans h3 (by decide)⟩
    -- known
    refine ⟨fun σ' H' => ∃ (kp : Addr) (hs : List Lk), σ' = [some (.ref a), some (.ref t), some (.ref o), some (.int (0 + (i : Nat))), some (.int L), some (.ref sp), some (.ref kp), u6, u7, u8, u9] ∧ Tray H' t g (N + 2200) ∧ H' o = some (.lst (oddsL.map V.str)) ∧ LAt K H' sp (ps.map encP) ∧ kp ≠ t ∧ kp ≠ g ∧ LAt K H' kp (hs.map encL) ∧ (∀ l ∈ hs, WordOk l.1 ∧ Small l) ∧ hs.length ≤ 8, ?_, ?_⟩
    · refine ⟨_, rfl, _, rfl, t, g, N + 40, L, 8, rfl, T3, Nat.lt_trans (hn _ (by omega)) (by decide), hL, hL30, by decide, by decide, fun H4 p ls steps hp A3 lp tr st hl => ?_⟩
      have go4 := A3.k _ _ go3 ot og
      have lsp4 := lsp.keep T3 A3.k spt spg (noLs_map noL_encP _)
      obtain ⟨kv, kv1, kv2⟩ := id lp
      have hkv : kv.length = ls.length := by rw [dpAll_len kv2, List.length_map]
      refine ⟨p, rfl, ⟨_, SqL.of kv1⟩, fun D0 hD => ?_⟩
      refine lc_list (K := K) (a := p) (xs := kv) (fun i H' => Same H4 H' ∧ ∃ vs, H' D0 = some (.lst vs) ∧ DpAll K H' vs (((ls.take i).map (home L)).map encL)) ⟨same_upd hD, [], upd_same, .nil⟩ (fun i H' _ ⟨S, _⟩ => SqL.of (S _ _ kv1)) ?_ ?_
      · rintro i y H5 hi ⟨S5, vs, hd, hds⟩
        obtain ⟨e, hdi, hdy⟩ := dpAll_get kv2 hi
        obtain ⟨l, hl', rfl⟩ := map_at hdi
        have hlm := List.mem_of_getElem? hl'
        have hi' : i < ls.length := (List.getElem?_eq_some_iff.mp hl').1
        have hvl : vs.length ≤ i := by rw [dpAll_len hds, List.length_map, List.length_map, List.length_take]; omega
        refine ⟨rfl, yes_ite ?_⟩
        refine ⟨_, rfl, _, rfl, y, L, l, rfl, dp_mono S5 _ _ hdy, hL, hL2, (tr l hlm).sz.up (by decide), fun r H6 S6 hr6 => ?_⟩
        have hds6 := dpAll_mono S6 _ _ hds
        refine ⟨vs, S6 _ _ hd, small1000 (by omega), same_set (S5.trans S6) hD, _, upd_same, ?_⟩
        rw [take_snoc hl', List.map_append, List.map_append]
        exact acc_step (S6 _ _ hd) (noLs_map noL_encL _) rfl hds6 hr6
      rintro H5 ⟨S5, vs, hd, hds⟩
      rw [List.take_of_length_le (by rw [hkv]; exact Nat.le_refl _)] at hds
      dsimp only [tNil]
      refine set_sorted (SqL.of hd) hds (by rw [List.length_map]; omega) fun p ys H6 ms S6 hp gp dp cn => ?_
      have SA := S5.trans S6
      obtain ⟨pt', pg'⟩ := tray_ne (A3.T.same S5) hp
      refine ⟨p, ms, rfl, (A3.T.same SA).up (by omega), SA _ _ go4, lsp4.same SA, pt', pg', ⟨ys, gp, dp⟩, fun l hl => ?_, ?_⟩
      · obtain ⟨m, hm, rfl⟩ := List.mem_map.mp ((cn.mem l).mp hl)
        exact ⟨(tr m hm).word, home_small hL hL30 (tr m hm).nr⟩
      · refine Nat.le_trans (SD.nodup_le (S := ls.map (home L)) cn.nd fun o ho => (cn.mem o).mp ho) ?_
        rw [List.length_map]; omega
    rintro σ4 H4 ⟨kp, hs, rfl, T4, go4, lsp4, kpt, kpg, lk, hok, hh8⟩
    -- some
    refine ⟨fun σ' H' => ∃ (mp : Addr) (l : Lk), σ' = [some (.ref a), some (.ref t), some (.ref o), some (.int (0 + (i : Nat))), some (.int L), some (.ref sp), some (.ref kp), u6, some (.ref mp), u8, u9] ∧ Tray H' t g (N + 2230) ∧ H' o = some (.lst (oddsL.map V.str)) ∧ mp ≠ t ∧ mp ≠ g ∧ LAt K H' sp (ps.map encP) ∧ H' mp = some (.lst [.str (lookT l), .str (darkT L hs)]) ∧ WordOk l.1 ∧ Wide l, ?_, ?_⟩
    · refine ⟨_, rfl, _, rfl, _, rfl, t, g, sp, N + 2200, L, ps, rfl, T4, Nat.lt_trans (hn _ (by omega)) (by decide), hL, hL30, lsp4, so, spt, spg, fun H5 r l A5 dl tl => ?_⟩
      have lk5 := lk.keep T4 A5.k kpt kpg (noLs_map noL_encL _)
      refine ⟨r, l, rfl, dl, tl.word, sized_wide tl.sz, ?_⟩
      refine ⟨_, rfl, _, rfl, L, kp, hs, rfl, lk5, hL60, hok, by omega, fun H6 S6 => ⟨(by show 2 ≤ sizeLine; decide), fun p hp => ?_⟩⟩
      have SA := S6.trans (same_upd (o := HO.lst [V.str (lookT l), .str (darkT L hs)]) hp)
      obtain ⟨pt', pg'⟩ := tray_ne (A5.T.same S6) hp
      exact ⟨p, l, rfl, A5.T.same SA, SA _ _ (A5.k _ _ go4 ot og), pt', pg', (lsp4.keep T4 A5.k spt spg (noLs_map noL_encP _)).same SA, upd_same, tl.word, sized_wide tl.sz⟩
    rintro σ5 H5 ⟨mp, l, rfl, T5, go5, mpt, mpg, lsp5, gm, hw, hwd⟩
    -- line
    refine ⟨fun σ' H' => ∃ x : Str, σ' = [some (.ref a), some (.ref t), some (.ref o), some (.int (0 + (i : Nat))), some (.int L), some (.ref sp), some (.ref kp), u6, some (.ref mp), some (.str x), u9] ∧ Okc x ∧ x.length ≤ 1200 ∧ Few2 9 x ∧ H' o = some (.lst (oddsL.map V.str)) ∧ Tray H' t g (N + 2231), ?_, ?_⟩
    · refine ⟨_, rfl, _, rfl, _, rfl, L, sp, ps, rfl, lsp5, hL60, hsm, Nat.le_trans so.2.1 (by decide), fun H6 S6 => ⟨(by show 1 ≤ sizeLine; decide), fun q hq => ?_⟩⟩
      have Sq := same_upd (o := HO.lst [V.str (handT L ps)]) hq
      have gq : (upd H6 q (.lst [V.str (handT L ps)])) q = some (.lst [V.str (handT L ps)]) := upd_same
      have S57 := S6.trans Sq
      generalize upd H6 q (.lst [V.str (handT L ps)]) = H7 at Sq gq S57 ⊢
      refine ⟨mp, q, _, _, rfl, rfl, S57 _ _ gm, gq, (by show 3 ≤ sizeLine; decide), fun r hr => ?_⟩
      have Sr := same_upd (o := HO.lst ([V.str (lookT l), .str (darkT L hs)] ++ [V.str (handT L ps)])) hr
      have gr : (upd H7 r (.lst ([V.str (lookT l), .str (darkT L hs)] ++ [V.str (handT L ps)]))) r = some (.lst ([V.str (lookT l), .str (darkT L hs)] ++ [V.str (handT L ps)])) := upd_same
      have S58 := S57.trans Sr
      have T8 := T5.same S58
      obtain ⟨rt, rg⟩ := tray_ne (T5.same S57) hr
      generalize upd H7 r (.lst ([V.str (lookT l), .str (darkT L hs)] ++ [V.str (handT L ps)])) = H8 at Sr gr S58 T8 ⊢
      refine ⟨_, rfl, t, g, N + 2230, 3, rfl, T8, by decide, by decide, hn6 _ (by omega), fun H9 c c0 c1 T9 k9 => ?_⟩
      obtain ⟨x, hx, ox, lx, fx⟩ : ∃ x : Str, atI ([V.str (lookT l), .str (darkT L hs)] ++ [V.str (handT L ps)]) c = some (.str x) ∧ Okc x ∧ x.length ≤ 1200 ∧ Few2 9 x := by
        have : c = 0 ∨ c = 1 ∨ c = 2 := by omega
        rcases this with e | e | e <;> subst e
        · exact ⟨lookT l, rfl, okc_lookT hw, Nat.le_trans (lookT_lenW hw hwd) (by decide), few2_look hw⟩
        · exact ⟨darkT L hs, rfl, okc_dark fun l hl => (hok l hl).1, dark_len hL60 hok hh8, few2_dark (fun l hl => (hok l hl).1) hh8⟩
        · exact ⟨handT L ps, rfl, okc_hand L ps, hand_len hL60 hsm so.2.1, few2_hand (List.length_pos_iff.mpr so.1) so.2.1⟩
      exact ⟨r, _, _, _, rfl, rfl, SqL.of (k9 _ _ gr rt rg), hx, x, rfl, ox, lx, fx, k9 _ _ (S58 _ _ go5) ot og, T9⟩
    rintro σ6 H6 ⟨x0, rfl, ox0, lx0, fx0, go6, T6⟩
    refine ⟨fun σ' H' => ∃ x : Str, σ' = [some (.ref a), some (.ref t), some (.ref o), some (.int (0 + (i : Nat))), some (.int L), some (.ref sp), some (.ref kp), u6, some (.ref mp), some (.str x), u9] ∧ Okc x ∧ x.length ≤ 1200 ∧ Few2 9 x ∧ H' o = some (.lst (oddsL.map V.str)) ∧ Tray H' t g (N + 2233), ?_, ?_⟩
    · refine ⟨_, rfl, t, g, N + 2231, 10, rfl, T6, by decide, by decide, hn6 _ (by omega), fun H7 c c0 c1 T7 k7 => ⟨rfl, _, rfl, ite2 (fun _ => ?_) (fun _ => ⟨_, rfl, ox0, lx0, fx0, k7 _ _ go6 ot og, T7.up (by omega)⟩)⟩⟩
      have go7 := k7 _ _ go6 ot og
      refine ⟨_, rfl, _, rfl, _, rfl, o, _, rfl, .inl (SqL.of go7), t, g, N + 2232, ((oddsL.map V.str).length : Int), rfl, T7, by decide, by decide, hn6 _ (by omega), fun H8 d d0 d1 T8 k8 => ?_⟩
      rw [List.length_map] at d1
      obtain ⟨j, rfl⟩ : ∃ j : Nat, d = (j : Int) := ⟨d.toNat, by omega⟩
      have hj : j < oddsL.length := by omega
      obtain ⟨z1, z2⟩ := odds_ok _ (List.getElem_mem hj)
      exact ⟨o, _, _, _, rfl, rfl, SqL.of (k8 _ _ go7 ot og), atI_nat (by rw [List.getElem?_map, List.getElem?_eq_getElem hj]; rfl), oddsL[j], rfl, z1, Nat.le_trans z2 (by decide), few2_thin (odds_thin _ (List.getElem_mem hj)), k8 _ _ go7 ot og, T8⟩
    rintro σ5 H5 ⟨x, rfl, ox, lx, fx, go5, T5⟩
    -- spoilt
    refine ⟨(by show 5 ≤ sizeLine; decide), fun q hq => ?_⟩
    have Sq := same_upd (o := HO.lst [V.int 0, .int 1, .int 1, .int 2, .int 3]) hq
    obtain ⟨qt, qg⟩ := tray_ne T5 hq
    have T6 := T5.same Sq
    have go6 := Sq _ _ go5
    have gq : (upd H5 q (.lst [V.int 0, .int 1, .int 1, .int 2, .int 3])) q = some (.lst [V.int 0, .int 1, .int 1, .int 2, .int 3]) := upd_same
    generalize upd H5 q (.lst [V.int 0, .int 1, .int 1, .int 2, .int 3]) = H6 at T6 gq go6 ⊢
    refine ⟨_, rfl, t, g, N + 2233, 5, rfl, T6, by decide, by decide, hn6 _ (by omega), fun H7 c c0 c1 T7 k7 => ?_⟩
    obtain ⟨m, hm, hm3⟩ : ∃ m : Nat, atI [V.int 0, .int 1, .int 1, .int 2, .int 3] c = some (.int (m : Int)) ∧ m ≤ 3 := by
      have : c = 0 ∨ c = 1 ∨ c = 2 ∨ c = 3 ∨ c = 4 := by omega
      rcases this with e | e | e | e | e <;> subst e
      · exact ⟨0, rfl, by decide⟩
      · exact ⟨1, rfl, by decide⟩
      · exact ⟨1, rfl, by decide⟩
      · exact ⟨2, rfl, by decide⟩
      · exact ⟨3, rfl, by decide⟩
    refine ⟨q, _, _, _, rfl, rfl, SqL.of (k7 _ _ gq qt qg), hm, (m : Int), rfl, by omega, by omega, ?_⟩
    refine for_range (n := m) (fun r σ' H' => ∃ (y : Str) (u : Option V), σ' = [some (.ref a), some (.ref t), some (.ref o), some (.int (0 + (i : Nat))), some (.int L), some (.ref sp), some (.ref kp), u6, some (.ref mp), some (.str y), u] ∧ Okc y ∧ y.length ≤ Bd r ∧ Few2 (9 + 14 * r) y ∧ H' o = some (.lst (oddsL.map V.str)) ∧ Tray H' t g (N + 2234 + 20 * r)) ⟨x, _, rfl, ox, lx, fx, k7 _ _ go6 ot og, T7⟩ ?_ ?_
    · rintro r σ' H8 hr' ⟨y, u, rfl, oy, ly, fy, go8, T8⟩
      have hr3 : r < 3 := by omega
      refine ⟨_, rfl, _, rfl, _, rfl, t, g, o, N + 2234 + 20 * r, y, oddsL, rfl, T8, Nat.lt_trans (hn _ (by omega)) (by decide), ot, og, go8, by decide, by decide, fun z hz => ⟨(odds_ok z hz).1, Nat.le_trans (odds_ok z hz).2 (by decide), odds_thin z hz⟩, Nat.le_trans ly (Bd3 (by omega)), oy, fun H9 z oz lz ez T9 k9 => ?_⟩
      exact ⟨z, _, rfl, oz, Nat.le_trans lz (by show _ ≤ 4 * Bd r + 300; omega), (fy.ed ez).up (by omega), k9 _ _ go8 ot og, T9⟩
    rintro σ8 H8 ⟨y, u, rfl, oy, ly, fy, go8, T8⟩
    have by' := Nat.le_trans ly (Bd3 hm3)
    have f53 := few4000 (fy.up (by omega : 9 + 14 * m ≤ 51))
    refine ⟨_, rfl, _, rfl, y, rfl, Nat.le_trans by' (by decide), _, rfl, cut4000 y, f53, fun H9 S9 => ?_⟩
    have T9 := T8.same S9
    refine ⟨true, rfl, iteF ⟨_, rfl, _, rfl, _, rfl, y, rfl, Nat.le_trans by' (by decide), t, g, N + 2234 + 20 * m, _, rfl, T9, Nat.lt_trans (hn _ (by omega)) (by decide), cut4000 y, f53, fun H10 T10 k10 => ?_⟩⟩
    exact ⟨true, rfl, iteF ⟨_, _, _, _, _, _, _, _, rfl, k10 _ _ (S9 _ _ go8) ot og, T10.up (by omega)⟩⟩
end
end KA
namespace KA
open PySem PySem.Spec PyProof.Rows L2 DP
theorem g11_of {α : Type} : ∀ {us ws : List α}, (g11 us ws).length = 2 → ∃ a b, us = [a] ∧ ws = [b]
  | [a], [b], _ => ⟨a, b, rfl, rfl⟩
  | [], _, h => nomatch (show (0 : Nat) = 2 from h)
  | [_], [], h => nomatch (show (0 : Nat) = 2 from h)
  | [_], _ :: _ :: _, h => nomatch (show (0 : Nat) = 2 from h)
  | _ :: _ :: _, _, h => nomatch (show (0 : Nat) = 2 from h)
theorem sqt2 {K : PySem.W.Frag} {H : Hp} {t : Addr} {x y : Str} {o : Option Addr} {u v : Tok} {n : Nat} {s : Array (Option Value)} (l : K.lookup t = some ⟨.type "tuple", o, .seq #[.str x u, .str y v] n, s⟩) : SqT K H t [.str x, .str y] :=
  .inr ⟨_, _, n, l, rfl, rfl, (by show 2 ≤ sizeLine; decide), .cons ⟨u, rfl⟩ (.cons ⟨v, rfl⟩ .nil)⟩
theorem sqt3 {K : PySem.W.Frag} {H : Hp} {t : Addr} {x y z : Str} {o : Option Addr} {u v q : Tok} {n : Nat} {s : Array (Option Value)} (l : K.lookup t = some ⟨.type "tuple", o, .seq #[.str x u, .str y v, .str z q] n, s⟩) : SqT K H t [.str x, .str y, .str z] :=
  .inr ⟨_, _, n, l, rfl, rfl, (by show 3 ≤ sizeLine; decide), .cons ⟨u, rfl⟩ (.cons ⟨v, rfl⟩ (.cons ⟨q, rfl⟩ .nil))⟩
theorem all_mk {l : PySem.W.OpenLaw} {w : World} {K : PySem.W.Frag} {h : Heap} {mg : Str → Option Value} {fa : Addr} (X : K.In h) (G : h.Ns mainGlobals mg) (hfa : mg "law" = some (.ref fa))
    {C : Addr}
    {C_Hand : Addr}
    {f0 : Addr} {od0 an0 : Option Addr} {sl0 : Array (Option Value)} {oc0 kV0 dc0 pm0 cd0 ct0 : Value}
    {f1 : Addr} {od1 an1 : Option Addr} {sl1 : Array (Option Value)} {oc1 kV1 dc1 pm1 cd1 ct1 : Value}
    {f2 : Addr} {od2 an2 : Option Addr} {sl2 : Array (Option Value)} {oc2 kV2 dc2 pm2 cd2 ct2 : Value}
    {f3 : Addr} {od3 an3 : Option Addr} {sl3 : Array (Option Value)} {oc3 kV3 dc3 pm3 cd3 ct3 : Value}
    {f4 : Addr} {od4 an4 : Option Addr} {sl4 : Array (Option Value)} {oc4 kV4 dc4 pm4 cd4 ct4 : Value}
    {f5 : Addr} {od5 an5 : Option Addr} {sl5 : Array (Option Value)} {oc5 kV5 dc5 pm5 cd5 ct5 : Value}
    {f6 : Addr} {od6 an6 : Option Addr} {sl6 : Array (Option Value)} {oc6 kV6 dc6 pm6 cd6 ct6 : Value}
    {f7 : Addr} {od7 an7 : Option Addr} {sl7 : Array (Option Value)} {oc7 kV7 dc7 pm7 cd7 ct7 : Value}
    {f8 : Addr} {od8 an8 : Option Addr} {sl8 : Array (Option Value)} {oc8 kV8 dc8 pm8 cd8 ct8 : Value}
    {f9 : Addr} {od9 an9 : Option Addr} {sl9 : Array (Option Value)} {oc9 kV9 dc9 pm9 cd9 ct9 : Value}
    {f10 : Addr} {od10 an10 : Option Addr} {sl10 : Array (Option Value)} {oc10 kV10 dc10 pm10 cd10 ct10 : Value}
    {f11 : Addr} {od11 an11 : Option Addr} {sl11 : Array (Option Value)} {oc11 kV11 dc11 pm11 cd11 ct11 : Value}
    {f12 : Addr} {od12 an12 : Option Addr} {sl12 : Array (Option Value)} {oc12 kV12 dc12 pm12 cd12 ct12 : Value}
    {f13 : Addr} {od13 an13 : Option Addr} {sl13 : Array (Option Value)} {oc13 kV13 dc13 pm13 cd13 ct13 : Value}
    {f14 : Addr} {od14 an14 : Option Addr} {sl14 : Array (Option Value)} {oc14 kV14 dc14 pm14 cd14 ct14 : Value}
    {f15 : Addr} {od15 an15 : Option Addr} {sl15 : Array (Option Value)} {oc15 kV15 dc15 pm15 cd15 ct15 : Value}
    {f16 : Addr} {od16 an16 : Option Addr} {sl16 : Array (Option Value)} {oc16 kV16 dc16 pm16 cd16 ct16 : Value}
    {f17 : Addr} {od17 an17 : Option Addr} {sl17 : Array (Option Value)} {oc17 kV17 dc17 pm17 cd17 ct17 : Value}
    {f18 : Addr} {od18 an18 : Option Addr} {sl18 : Array (Option Value)} {oc18 kV18 dc18 pm18 cd18 ct18 : Value}
    {f19 : Addr} {od19 an19 : Option Addr} {sl19 : Array (Option Value)} {oc19 kV19 dc19 pm19 cd19 ct19 : Value}
    {f20 : Addr} {od20 an20 : Option Addr} {sl20 : Array (Option Value)} {oc20 kV20 dc20 pm20 cd20 ct20 : Value}
    {f21 : Addr} {od21 an21 : Option Addr} {sl21 : Array (Option Value)} {oc21 kV21 dc21 pm21 cd21 ct21 : Value}
    {f22 : Addr} {od22 an22 : Option Addr} {sl22 : Array (Option Value)} {oc22 kV22 dc22 pm22 cd22 ct22 : Value}
    {f23 : Addr} {od23 an23 : Option Addr} {sl23 : Array (Option Value)} {oc23 kV23 dc23 pm23 cd23 ct23 : Value}
    {f24 : Addr} {od24 an24 : Option Addr} {sl24 : Array (Option Value)} {oc24 kV24 dc24 pm24 cd24 ct24 : Value}
    {f25 : Addr} {od25 an25 : Option Addr} {sl25 : Array (Option Value)} {oc25 kV25 dc25 pm25 cd25 ct25 : Value}
    {f26 : Addr} {od26 an26 : Option Addr} {sl26 : Array (Option Value)} {oc26 kV26 dc26 pm26 cd26 ct26 : Value}
    {f27 : Addr} {od27 an27 : Option Addr} {sl27 : Array (Option Value)} {oc27 kV27 dc27 pm27 cd27 ct27 : Value}
    {f28 : Addr} {od28 an28 : Option Addr} {sl28 : Array (Option Value)} {oc28 kV28 dc28 pm28 cd28 ct28 : Value}
    {f29 : Addr} {od29 an29 : Option Addr} {sl29 : Array (Option Value)} {oc29 kV29 dc29 pm29 cd29 ct29 : Value}
    {f30 : Addr} {od30 an30 : Option Addr} {sl30 : Array (Option Value)} {oc30 kV30 dc30 pm30 cd30 ct30 : Value}
    {f31 : Addr} {od31 an31 : Option Addr} {sl31 : Array (Option Value)} {oc31 kV31 dc31 pm31 cd31 ct31 : Value}
    {f32 : Addr} {od32 an32 : Option Addr} {sl32 : Array (Option Value)} {oc32 kV32 dc32 pm32 cd32 ct32 : Value}
    {f33 : Addr} {od33 an33 : Option Addr} {sl33 : Array (Option Value)} {oc33 kV33 dc33 pm33 cd33 ct33 : Value}
    {f34 : Addr} {od34 an34 : Option Addr} {sl34 : Array (Option Value)} {oc34 kV34 dc34 pm34 cd34 ct34 : Value}
    {f35 : Addr} {od35 an35 : Option Addr} {sl35 : Array (Option Value)} {oc35 kV35 dc35 pm35 cd35 ct35 : Value}
    {f36 : Addr} {od36 an36 : Option Addr} {sl36 : Array (Option Value)} {oc36 kV36 dc36 pm36 cd36 ct36 : Value}
    {f37 : Addr} {od37 an37 : Option Addr} {sl37 : Array (Option Value)} {oc37 kV37 dc37 pm37 cd37 ct37 : Value}
    {f38 : Addr} {od38 an38 : Option Addr} {sl38 : Array (Option Value)} {oc38 kV38 dc38 pm38 cd38 ct38 : Value}
    {f39 : Addr} {od39 an39 : Option Addr} {sl39 : Array (Option Value)} {oc39 kV39 dc39 pm39 cd39 ct39 : Value}
    {f40 : Addr} {od40 an40 : Option Addr} {sl40 : Array (Option Value)} {oc40 kV40 dc40 pm40 cd40 ct40 : Value}
    {f41 : Addr} {od41 an41 : Option Addr} {sl41 : Array (Option Value)} {oc41 kV41 dc41 pm41 cd41 ct41 : Value}
    {f42 : Addr} {od42 an42 : Option Addr} {sl42 : Array (Option Value)} {oc42 kV42 dc42 pm42 cd42 ct42 : Value}
    {f43 : Addr} {od43 an43 : Option Addr} {sl43 : Array (Option Value)} {oc43 kV43 dc43 pm43 cd43 ct43 : Value}
    {f44 : Addr} {od44 an44 : Option Addr} {sl44 : Array (Option Value)} {oc44 kV44 dc44 pm44 cd44 ct44 : Value}
    {f45 : Addr} {od45 an45 : Option Addr} {sl45 : Array (Option Value)} {oc45 kV45 dc45 pm45 cd45 ct45 : Value}
    {f46 : Addr} {od46 an46 : Option Addr} {sl46 : Array (Option Value)} {oc46 kV46 dc46 pm46 cd46 ct46 : Value}
    {f47 : Addr} {od47 an47 : Option Addr} {sl47 : Array (Option Value)} {oc47 kV47 dc47 pm47 cd47 ct47 : Value}
    {f48 : Addr} {od48 an48 : Option Addr} {sl48 : Array (Option Value)} {oc48 kV48 dc48 pm48 cd48 ct48 : Value}
    {f49 : Addr} {od49 an49 : Option Addr} {sl49 : Array (Option Value)} {oc49 kV49 dc49 pm49 cd49 ct49 : Value}
    {f50 : Addr} {od50 an50 : Option Addr} {sl50 : Array (Option Value)} {oc50 kV50 dc50 pm50 cd50 ct50 : Value}
    {f51 : Addr} {od51 an51 : Option Addr} {sl51 : Array (Option Value)} {oc51 kV51 dc51 pm51 cd51 ct51 : Value}
    {f52 : Addr} {od52 an52 : Option Addr} {sl52 : Array (Option Value)} {oc52 kV52 dc52 pm52 cd52 ct52 : Value}
    {tcFIGURES : Tok}
    {tcMOST_FIGURES : Tok}
    {tSLOW : Tok}
    {tFAST : Tok}
    {aW aL tS tF : Addr} {es : Array DictEntry} {nW n1 n2 n3 : Nat} {o1 o2 o3 : Option Addr} {s1 s2 s3 : Array (Option Value)} {u1 u2 u3 u4 u5 u6 u7 : Tok}
    {xC0 xF0 xN0 xcc0 xcda0 : Addr} {xnm0 xq0 xfile0 : Str} {xbs0 xbm0 : List Value} {xsn0 : List Str} {xsub0 : List Value} {xab0 : Bool} {xcol0 : Option Bool} {xdd0 xod0 xan0 xcld0 xcdd0 : Option Addr} {xk00 xk10 xk20 xk30 xk50 : Option Value} {xoc0 xdoc0 xpm0 xct0 xcl0 xccl0 : Value} {xosl0 xcsl0 xccs0 : Array (Option Value)} {xvs0 : Array Value} {xtf0 : Tok}
    {xC1 xF1 xN1 xcc1 xcda1 : Addr} {xnm1 xq1 xfile1 : Str} {xbs1 xbm1 : List Value} {xsn1 : List Str} {xsub1 : List Value} {xab1 : Bool} {xcol1 : Option Bool} {xdd1 xod1 xan1 xcld1 xcdd1 : Option Addr} {xk01 xk11 xk21 xk31 xk51 : Option Value} {xoc1 xdoc1 xpm1 xct1 xcl1 xccl1 : Value} {xosl1 xcsl1 xccs1 : Array (Option Value)} {xvs1 : Array Value} {xtf1 : Tok}
    (aC : PySem.W.nsIn K mainGlobals "Dark" = some (some (.ref C)))
    (aC_Hand : PySem.W.nsIn K mainGlobals "Hand" = some (some (.ref C_Hand)))
    (a0 : PySem.W.nsIn K mainGlobals "_law_tray" = some (some (.ref f0)))
    (l0 : K.lookup f0 = some ⟨oc0, od0, .func (PySem.W.fnOf "_law_tray" "_law_tray" (defArgs slaw_tray) (defBody slaw_tray) (defScope slaw_tray) .none kV0 dc0 pm0 an0 cd0 ct0), sl0⟩)
    (c0 : PySem.W.codeIn K cd0 "_law_tray" = true)
    (k0 : PySem.W.keepIn K (.ref f0) = true)
    (a1 : PySem.W.nsIn K mainGlobals "_law_draw" = some (some (.ref f1)))
    (l1 : K.lookup f1 = some ⟨oc1, od1, .func (PySem.W.fnOf "_law_draw" "_law_draw" (defArgs slaw_draw) (defBody slaw_draw) (defScope slaw_draw) .none kV1 dc1 pm1 an1 cd1 ct1), sl1⟩)
    (c1 : PySem.W.codeIn K cd1 "_law_draw" = true)
    (k1 : PySem.W.keepIn K (.ref f1) = true)
    (a2 : PySem.W.nsIn K mainGlobals "_law_great" = some (some (.ref f2)))
    (l2 : K.lookup f2 = some ⟨oc2, od2, .func (PySem.W.fnOf "_law_great" "_law_great" (defArgs slaw_great) (defBody slaw_great) (defScope slaw_great) .none kV2 dc2 pm2 an2 cd2 ct2), sl2⟩)
    (c2 : PySem.W.codeIn K cd2 "_law_great" = true)
    (k2 : PySem.W.keepIn K (.ref f2) = true)
    (a3 : PySem.W.nsIn K mainGlobals "_law_length" = some (some (.ref f3)))
    (l3 : K.lookup f3 = some ⟨oc3, od3, .func (PySem.W.fnOf "_law_length" "_law_length" (defArgs slaw_length) (defBody slaw_length) (defScope slaw_length) .none kV3 dc3 pm3 an3 cd3 ct3), sl3⟩)
    (c3 : PySem.W.codeIn K cd3 "_law_length" = true)
    (k3 : PySem.W.keepIn K (.ref f3) = true)
    (a4 : PySem.W.nsIn K mainGlobals "_law_lead" = some (some (.ref f4)))
    (l4 : K.lookup f4 = some ⟨oc4, od4, .func (PySem.W.fnOf "_law_lead" "_law_lead" (defArgs slaw_lead) (defBody slaw_lead) (defScope slaw_lead) .none kV4 dc4 pm4 an4 cd4 ct4), sl4⟩)
    (c4 : PySem.W.codeIn K cd4 "_law_lead" = true)
    (k4 : PySem.W.keepIn K (.ref f4) = true)
    (a5 : PySem.W.nsIn K mainGlobals "_law_secret" = some (some (.ref f5)))
    (l5 : K.lookup f5 = some ⟨oc5, od5, .func (PySem.W.fnOf "_law_secret" "_law_secret" (defArgs slaw_secret) (defBody slaw_secret) (defScope slaw_secret) .none kV5 dc5 pm5 an5 cd5 ct5), sl5⟩)
    (c5 : PySem.W.codeIn K cd5 "_law_secret" = true)
    (k5 : PySem.W.keepIn K (.ref f5) = true)
    (a6 : PySem.W.nsIn K mainGlobals "_law_true_look" = some (some (.ref f6)))
    (l6 : K.lookup f6 = some ⟨oc6, od6, .func (PySem.W.fnOf "_law_true_look" "_law_true_look" (defArgs slaw_true_look) (defBody slaw_true_look) (defScope slaw_true_look) .none kV6 dc6 pm6 an6 cd6 ct6), sl6⟩)
    (c6 : PySem.W.codeIn K cd6 "_law_true_look" = true)
    (k6 : PySem.W.keepIn K (.ref f6) = true)
    (a7 : PySem.W.nsIn K mainGlobals "_law_known" = some (some (.ref f7)))
    (l7 : K.lookup f7 = some ⟨oc7, od7, .func (PySem.W.fnOf "_law_known" "_law_known" (defArgs slaw_known) (defBody slaw_known) (defScope slaw_known) .none kV7 dc7 pm7 an7 cd7 ct7), sl7⟩)
    (c7 : PySem.W.codeIn K cd7 "_law_known" = true)
    (k7 : PySem.W.keepIn K (.ref f7) = true)
    (a8 : PySem.W.nsIn K mainGlobals "_law_home" = some (some (.ref f8)))
    (l8 : K.lookup f8 = some ⟨oc8, od8, .func (PySem.W.fnOf "_law_home" "_law_home" (defArgs slaw_home) (defBody slaw_home) (defScope slaw_home) .none kV8 dc8 pm8 an8 cd8 ct8), sl8⟩)
    (c8 : PySem.W.codeIn K cd8 "_law_home" = true)
    (k8 : PySem.W.keepIn K (.ref f8) = true)
    (a9 : PySem.W.nsIn K mainGlobals "_law_look_shown" = some (some (.ref f9)))
    (l9 : K.lookup f9 = some ⟨oc9, od9, .func (PySem.W.fnOf "_law_look_shown" "_law_look_shown" (defArgs slaw_look_shown) (defBody slaw_look_shown) (defScope slaw_look_shown) .none kV9 dc9 pm9 an9 cd9 ct9), sl9⟩)
    (c9 : PySem.W.codeIn K cd9 "_law_look_shown" = true)
    (k9 : PySem.W.keepIn K (.ref f9) = true)
    (a10 : PySem.W.nsIn K mainGlobals "_law_dark_shown" = some (some (.ref f10)))
    (l10 : K.lookup f10 = some ⟨oc10, od10, .func (PySem.W.fnOf "_law_dark_shown" "_law_dark_shown" (defArgs slaw_dark_shown) (defBody slaw_dark_shown) (defScope slaw_dark_shown) .none kV10 dc10 pm10 an10 cd10 ct10), sl10⟩)
    (c10 : PySem.W.codeIn K cd10 "_law_dark_shown" = true)
    (k10 : PySem.W.keepIn K (.ref f10) = true)
    (a11 : PySem.W.nsIn K mainGlobals "_law_hand_shown" = some (some (.ref f11)))
    (l11 : K.lookup f11 = some ⟨oc11, od11, .func (PySem.W.fnOf "_law_hand_shown" "_law_hand_shown" (defArgs slaw_hand_shown) (defBody slaw_hand_shown) (defScope slaw_hand_shown) .none kV11 dc11 pm11 an11 cd11 ct11), sl11⟩)
    (c11 : PySem.W.codeIn K cd11 "_law_hand_shown" = true)
    (k11 : PySem.W.keepIn K (.ref f11) = true)
    (a12 : PySem.W.nsIn K mainGlobals "_law_sign" = some (some (.ref f12)))
    (l12 : K.lookup f12 = some ⟨oc12, od12, .func (PySem.W.fnOf "_law_sign" "_law_sign" (defArgs slaw_sign) (defBody slaw_sign) (defScope slaw_sign) .none kV12 dc12 pm12 an12 cd12 ct12), sl12⟩)
    (c12 : PySem.W.codeIn K cd12 "_law_sign" = true)
    (k12 : PySem.W.keepIn K (.ref f12) = true)
    (a13 : PySem.W.nsIn K mainGlobals "_law_parts_spoilt" = some (some (.ref f13)))
    (l13 : K.lookup f13 = some ⟨oc13, od13, .func (PySem.W.fnOf "_law_parts_spoilt" "_law_parts_spoilt" (defArgs slaw_parts_spoilt) (defBody slaw_parts_spoilt) (defScope slaw_parts_spoilt) .none kV13 dc13 pm13 an13 cd13 ct13), sl13⟩)
    (c13 : PySem.W.codeIn K cd13 "_law_parts_spoilt" = true)
    (k13 : PySem.W.keepIn K (.ref f13) = true)
    (a14 : PySem.W.nsIn K mainGlobals "_law_spoilt" = some (some (.ref f14)))
    (l14 : K.lookup f14 = some ⟨oc14, od14, .func (PySem.W.fnOf "_law_spoilt" "_law_spoilt" (defArgs slaw_spoilt) (defBody slaw_spoilt) (defScope slaw_spoilt) .none kV14 dc14 pm14 an14 cd14 ct14), sl14⟩)
    (c14 : PySem.W.codeIn K cd14 "_law_spoilt" = true)
    (k14 : PySem.W.keepIn K (.ref f14) = true)
    (a15 : PySem.W.nsIn K mainGlobals "_law_odd" = some (some (.ref f15)))
    (l15 : K.lookup f15 = some ⟨oc15, od15, .func (PySem.W.fnOf "_law_odd" "_law_odd" (defArgs slaw_odd) (defBody slaw_odd) (defScope slaw_odd) .none kV15 dc15 pm15 an15 cd15 ct15), sl15⟩)
    (c15 : PySem.W.codeIn K cd15 "_law_odd" = true)
    (k15 : PySem.W.keepIn K (.ref f15) = true)
    (a16 : PySem.W.nsIn K mainGlobals "_law_read" = some (some (.ref f16)))
    (l16 : K.lookup f16 = some ⟨oc16, od16, .func (PySem.W.fnOf "_law_read" "_law_read" (defArgs slaw_read) (defBody slaw_read) (defScope slaw_read) .none kV16 dc16 pm16 an16 cd16 ct16), sl16⟩)
    (c16 : PySem.W.codeIn K cd16 "_law_read" = true)
    (k16 : PySem.W.keepIn K (.ref f16) = true)
    (a17 : PySem.W.nsIn K mainGlobals "_law_kept" = some (some (.ref f17)))
    (l17 : K.lookup f17 = some ⟨oc17, od17, .func (PySem.W.fnOf "_law_kept" "_law_kept" (defArgs slaw_kept) (defBody slaw_kept) (defScope slaw_kept) .none kV17 dc17 pm17 an17 cd17 ct17), sl17⟩)
    (c17 : PySem.W.codeIn K cd17 "_law_kept" = true)
    (k17 : PySem.W.keepIn K (.ref f17) = true)
    (a18 : PySem.W.nsIn K mainGlobals "_law_dark_right" = some (some (.ref f18)))
    (l18 : K.lookup f18 = some ⟨oc18, od18, .func (PySem.W.fnOf "_law_dark_right" "_law_dark_right" (defArgs slaw_dark_right) (defBody slaw_dark_right) (defScope slaw_dark_right) .none kV18 dc18 pm18 an18 cd18 ct18), sl18⟩)
    (c18 : PySem.W.codeIn K cd18 "_law_dark_right" = true)
    (k18 : PySem.W.keepIn K (.ref f18) = true)
    (a19 : PySem.W.nsIn K mainGlobals "figures" = some (some (.ref f19)))
    (l19 : K.lookup f19 = some ⟨oc19, od19, .func (PySem.W.fnOf "figures" "figures" (defArgs sfigures) (defBody sfigures) (defScope sfigures) .none kV19 dc19 pm19 an19 cd19 ct19), sl19⟩)
    (c19 : PySem.W.codeIn K cd19 "figures" = true)
    (k19 : PySem.W.keepIn K (.ref f19) = true)
    (a20 : PySem.W.nsIn K mainGlobals "show_step" = some (some (.ref f20)))
    (l20 : K.lookup f20 = some ⟨oc20, od20, .func (PySem.W.fnOf "show_step" "show_step" (defArgs sshow_step) (defBody sshow_step) (defScope sshow_step) .none kV20 dc20 pm20 an20 cd20 ct20), sl20⟩)
    (c20 : PySem.W.codeIn K cd20 "show_step" = true)
    (k20 : PySem.W.keepIn K (.ref f20) = true)
    (a21 : PySem.W.nsIn K mainGlobals "show_look" = some (some (.ref f21)))
    (l21 : K.lookup f21 = some ⟨oc21, od21, .func (PySem.W.fnOf "show_look" "show_look" (defArgs sshow_look) (defBody sshow_look) (defScope sshow_look) .none kV21 dc21 pm21 an21 cd21 ct21), sl21⟩)
    (c21 : PySem.W.codeIn K cd21 "show_look" = true)
    (k21 : PySem.W.keepIn K (.ref f21) = true)
    (a22 : PySem.W.nsIn K mainGlobals "show_dark" = some (some (.ref f22)))
    (l22 : K.lookup f22 = some ⟨oc22, od22, .func (PySem.W.fnOf "show_dark" "show_dark" (defArgs sshow_dark) (defBody sshow_dark) (defScope sshow_dark) .none kV22 dc22 pm22 an22 cd22 ct22), sl22⟩)
    (c22 : PySem.W.codeIn K cd22 "show_dark" = true)
    (k22 : PySem.W.keepIn K (.ref f22) = true)
    (a23 : PySem.W.nsIn K mainGlobals "show_hand" = some (some (.ref f23)))
    (l23 : K.lookup f23 = some ⟨oc23, od23, .func (PySem.W.fnOf "show_hand" "show_hand" (defArgs sshow_hand) (defBody sshow_hand) (defScope sshow_hand) .none kV23 dc23 pm23 an23 cd23 ct23), sl23⟩)
    (c23 : PySem.W.codeIn K cd23 "show_hand" = true)
    (k23 : PySem.W.keepIn K (.ref f23) = true)
    (a24 : PySem.W.nsIn K mainGlobals "number_of" = some (some (.ref f24)))
    (l24 : K.lookup f24 = some ⟨oc24, od24, .func (PySem.W.fnOf "number_of" "number_of" (defArgs snumber_of) (defBody snumber_of) (defScope snumber_of) .none kV24 dc24 pm24 an24 cd24 ct24), sl24⟩)
    (c24 : PySem.W.codeIn K cd24 "number_of" = true)
    (k24 : PySem.W.keepIn K (.ref f24) = true)
    (a25 : PySem.W.nsIn K mainGlobals "length_of" = some (some (.ref f25)))
    (l25 : K.lookup f25 = some ⟨oc25, od25, .func (PySem.W.fnOf "length_of" "length_of" (defArgs slength_of) (defBody slength_of) (defScope slength_of) .none kV25 dc25 pm25 an25 cd25 ct25), sl25⟩)
    (c25 : PySem.W.codeIn K cd25 "length_of" = true)
    (k25 : PySem.W.keepIn K (.ref f25) = true)
    (a26 : PySem.W.nsIn K mainGlobals "step_of" = some (some (.ref f26)))
    (l26 : K.lookup f26 = some ⟨oc26, od26, .func (PySem.W.fnOf "step_of" "step_of" (defArgs sstep_of) (defBody sstep_of) (defScope sstep_of) .none kV26 dc26 pm26 an26 cd26 ct26), sl26⟩)
    (c26 : PySem.W.codeIn K cd26 "step_of" = true)
    (k26 : PySem.W.keepIn K (.ref f26) = true)
    (a27 : PySem.W.nsIn K mainGlobals "look_of" = some (some (.ref f27)))
    (l27 : K.lookup f27 = some ⟨oc27, od27, .func (PySem.W.fnOf "look_of" "look_of" (defArgs slook_of) (defBody slook_of) (defScope slook_of) .none kV27 dc27 pm27 an27 cd27 ct27), sl27⟩)
    (c27 : PySem.W.codeIn K cd27 "look_of" = true)
    (k27 : PySem.W.keepIn K (.ref f27) = true)
    (a28 : PySem.W.nsIn K mainGlobals "dark_of" = some (some (.ref f28)))
    (l28 : K.lookup f28 = some ⟨oc28, od28, .func (PySem.W.fnOf "dark_of" "dark_of" (defArgs sdark_of) (defBody sdark_of) (defScope sdark_of) .none kV28 dc28 pm28 an28 cd28 ct28), sl28⟩)
    (c28 : PySem.W.codeIn K cd28 "dark_of" = true)
    (k28 : PySem.W.keepIn K (.ref f28) = true)
    (a29 : PySem.W.nsIn K mainGlobals "hand_of" = some (some (.ref f29)))
    (l29 : K.lookup f29 = some ⟨oc29, od29, .func (PySem.W.fnOf "hand_of" "hand_of" (defArgs shand_of) (defBody shand_of) (defScope shand_of) .none kV29 dc29 pm29 an29 cd29 ct29), sl29⟩)
    (c29 : PySem.W.codeIn K cd29 "hand_of" = true)
    (k29 : PySem.W.keepIn K (.ref f29) = true)
    (a30 : PySem.W.nsIn K mainGlobals "read_look" = some (some (.ref f30)))
    (l30 : K.lookup f30 = some ⟨oc30, od30, .func (PySem.W.fnOf "read_look" "read_look" (defArgs sread_look) (defBody sread_look) (defScope sread_look) .none kV30 dc30 pm30 an30 cd30 ct30), sl30⟩)
    (c30 : PySem.W.codeIn K cd30 "read_look" = true)
    (k30 : PySem.W.keepIn K (.ref f30) = true)
    (a31 : PySem.W.nsIn K mainGlobals "read_dark" = some (some (.ref f31)))
    (l31 : K.lookup f31 = some ⟨oc31, od31, .func (PySem.W.fnOf "read_dark" "read_dark" (defArgs sread_dark) (defBody sread_dark) (defScope sread_dark) .none kV31 dc31 pm31 an31 cd31 ct31), sl31⟩)
    (c31 : PySem.W.codeIn K cd31 "read_dark" = true)
    (k31 : PySem.W.keepIn K (.ref f31) = true)
    (a32 : PySem.W.nsIn K mainGlobals "read_hand" = some (some (.ref f32)))
    (l32 : K.lookup f32 = some ⟨oc32, od32, .func (PySem.W.fnOf "read_hand" "read_hand" (defArgs sread_hand) (defBody sread_hand) (defScope sread_hand) .none kV32 dc32 pm32 an32 cd32 ct32), sl32⟩)
    (c32 : PySem.W.codeIn K cd32 "read_hand" = true)
    (k32 : PySem.W.keepIn K (.ref f32) = true)
    (a33 : PySem.W.nsIn K mainGlobals "side_looks" = some (some (.ref f33)))
    (l33 : K.lookup f33 = some ⟨oc33, od33, .func (PySem.W.fnOf "side_looks" "side_looks" (defArgs sside_looks) (defBody sside_looks) (defScope sside_looks) .none kV33 dc33 pm33 an33 cd33 ct33), sl33⟩)
    (c33 : PySem.W.codeIn K cd33 "side_looks" = true)
    (k33 : PySem.W.keepIn K (.ref f33) = true)
    (a34 : PySem.W.nsIn K mainGlobals "best_step" = some (some (.ref f34)))
    (l34 : K.lookup f34 = some ⟨oc34, od34, .func (PySem.W.fnOf "best_step" "best_step" (defArgs sbest_step) (defBody sbest_step) (defScope sbest_step) .none kV34 dc34 pm34 an34 cd34 ct34), sl34⟩)
    (c34 : PySem.W.codeIn K cd34 "best_step" = true)
    (k34 : PySem.W.keepIn K (.ref f34) = true)
    (a35 : PySem.W.nsIn K mainGlobals "too_far" = some (some (.ref f35)))
    (l35 : K.lookup f35 = some ⟨oc35, od35, .func (PySem.W.fnOf "too_far" "too_far" (defArgs stoo_far) (defBody stoo_far) (defScope stoo_far) .none kV35 dc35 pm35 an35 cd35 ct35), sl35⟩)
    (c35 : PySem.W.codeIn K cd35 "too_far" = true)
    (k35 : PySem.W.keepIn K (.ref f35) = true)
    (a36 : PySem.W.nsIn K mainGlobals "clash" = some (some (.ref f36)))
    (l36 : K.lookup f36 = some ⟨oc36, od36, .func (PySem.W.fnOf "clash" "clash" (defArgs sclash) (defBody sclash) (defScope sclash) .none kV36 dc36 pm36 an36 cd36 ct36), sl36⟩)
    (c36 : PySem.W.codeIn K cd36 "clash" = true)
    (k36 : PySem.W.keepIn K (.ref f36) = true)
    (a37 : PySem.W.nsIn K mainGlobals "place_by" = some (some (.ref f37)))
    (l37 : K.lookup f37 = some ⟨oc37, od37, .func (PySem.W.fnOf "place_by" "place_by" (defArgs splace_by) (defBody splace_by) (defScope splace_by) .none kV37 dc37 pm37 an37 cd37 ct37), sl37⟩)
    (c37 : PySem.W.codeIn K cd37 "place_by" = true)
    (k37 : PySem.W.keepIn K (.ref f37) = true)
    (a38 : PySem.W.findIn K (.ref C) "__init__" = some (some (.ref f38)))
    (i38 : PySem.W.isFn K (.ref f38) = true)
    (l38 : K.lookup f38 = some ⟨oc38, od38, .func (PySem.W.fnOf "__init__" "Dark.__init__" (defArgs sDark_init) (defBody sDark_init) (defScope sDark_init) .none kV38 dc38 pm38 an38 cd38 ct38), sl38⟩)
    (c38 : PySem.W.codeIn K cd38 "Dark.__init__" = true)
    (k38 : PySem.W.keepIn K (.ref f38) = true)
    (a39 : PySem.W.findIn K (.ref C) "length" = some (some (.ref f39)))
    (i39 : PySem.W.isFn K (.ref f39) = true)
    (l39 : K.lookup f39 = some ⟨oc39, od39, .func (PySem.W.fnOf "length" "Dark.length" (defArgs sDark_length) (defBody sDark_length) (defScope sDark_length) .none kV39 dc39 pm39 an39 cd39 ct39), sl39⟩)
    (c39 : PySem.W.codeIn K cd39 "Dark.length" = true)
    (k39 : PySem.W.keepIn K (.ref f39) = true)
    (a40 : PySem.W.findIn K (.ref C) "hear" = some (some (.ref f40)))
    (i40 : PySem.W.isFn K (.ref f40) = true)
    (l40 : K.lookup f40 = some ⟨oc40, od40, .func (PySem.W.fnOf "hear" "Dark.hear" (defArgs sDark_hear) (defBody sDark_hear) (defScope sDark_hear) .none kV40 dc40 pm40 an40 cd40 ct40), sl40⟩)
    (c40 : PySem.W.codeIn K cd40 "Dark.hear" = true)
    (k40 : PySem.W.keepIn K (.ref f40) = true)
    (a41 : PySem.W.findIn K (.ref C) "looks" = some (some (.ref f41)))
    (i41 : PySem.W.isFn K (.ref f41) = true)
    (l41 : K.lookup f41 = some ⟨oc41, od41, .func (PySem.W.fnOf "looks" "Dark.looks" (defArgs sDark_looks) (defBody sDark_looks) (defScope sDark_looks) .none kV41 dc41 pm41 an41 cd41 ct41), sl41⟩)
    (c41 : PySem.W.codeIn K cd41 "Dark.looks" = true)
    (k41 : PySem.W.keepIn K (.ref f41) = true)
    (a42 : PySem.W.findIn K (.ref C) "least" = some (some (.ref f42)))
    (i42 : PySem.W.isFn K (.ref f42) = true)
    (l42 : K.lookup f42 = some ⟨oc42, od42, .func (PySem.W.fnOf "least" "Dark.least" (defArgs sDark_least) (defBody sDark_least) (defScope sDark_least) .none kV42 dc42 pm42 an42 cd42 ct42), sl42⟩)
    (c42 : PySem.W.codeIn K cd42 "Dark.least" = true)
    (k42 : PySem.W.keepIn K (.ref f42) = true)
    (a43 : PySem.W.findIn K (.ref C) "greatest" = some (some (.ref f43)))
    (i43 : PySem.W.isFn K (.ref f43) = true)
    (l43 : K.lookup f43 = some ⟨oc43, od43, .func (PySem.W.fnOf "greatest" "Dark.greatest" (defArgs sDark_greatest) (defBody sDark_greatest) (defScope sDark_greatest) .none kV43 dc43 pm43 an43 cd43 ct43), sl43⟩)
    (c43 : PySem.W.codeIn K cd43 "Dark.greatest" = true)
    (k43 : PySem.W.keepIn K (.ref f43) = true)
    (a44 : PySem.W.findIn K (.ref C) "led_back" = some (some (.ref f44)))
    (i44 : PySem.W.isFn K (.ref f44) = true)
    (l44 : K.lookup f44 = some ⟨oc44, od44, .func (PySem.W.fnOf "led_back" "Dark.led_back" (defArgs sDark_led_back) (defBody sDark_led_back) (defScope sDark_led_back) .none kV44 dc44 pm44 an44 cd44 ct44), sl44⟩)
    (c44 : PySem.W.codeIn K cd44 "Dark.led_back" = true)
    (k44 : PySem.W.keepIn K (.ref f44) = true)
    (a45 : PySem.W.findIn K (.ref C) "_check_word" = some (some (.ref f45)))
    (i45 : PySem.W.isFn K (.ref f45) = true)
    (l45 : K.lookup f45 = some ⟨oc45, od45, .func (PySem.W.fnOf "_check_word" "Dark._check_word" (defArgs sDarkcheck_word) (defBody sDarkcheck_word) (defScope sDarkcheck_word) .none kV45 dc45 pm45 an45 cd45 ct45), sl45⟩)
    (c45 : PySem.W.codeIn K cd45 "Dark._check_word" = true)
    (k45 : PySem.W.keepIn K (.ref f45) = true)
    (a46 : PySem.W.findIn K (.ref C) "_home" = some (some (.ref f46)))
    (i46 : PySem.W.isFn K (.ref f46) = true)
    (l46 : K.lookup f46 = some ⟨oc46, od46, .func (PySem.W.fnOf "_home" "Dark._home" (defArgs sDarkhome) (defBody sDarkhome) (defScope sDarkhome) .none kV46 dc46 pm46 an46 cd46 ct46), sl46⟩)
    (c46 : PySem.W.codeIn K cd46 "Dark._home" = true)
    (k46 : PySem.W.keepIn K (.ref f46) = true)
    (a47 : PySem.W.findIn K (.ref C) "_clashing" = some (some (.ref f47)))
    (i47 : PySem.W.isFn K (.ref f47) = true)
    (l47 : K.lookup f47 = some ⟨oc47, od47, .func (PySem.W.fnOf "_clashing" "Dark._clashing" (defArgs sDarkclashing) (defBody sDarkclashing) (defScope sDarkclashing) .none kV47 dc47 pm47 an47 cd47 ct47), sl47⟩)
    (c47 : PySem.W.codeIn K cd47 "Dark._clashing" = true)
    (k47 : PySem.W.keepIn K (.ref f47) = true)
    (a48 : PySem.W.findIn K (.ref C) "_bound" = some (some (.ref f48)))
    (i48 : PySem.W.isFn K (.ref f48) = true)
    (l48 : K.lookup f48 = some ⟨oc48, od48, .func (PySem.W.fnOf "_bound" "Dark._bound" (defArgs sDarkbound) (defBody sDarkbound) (defScope sDarkbound) .none kV48 dc48 pm48 an48 cd48 ct48), sl48⟩)
    (c48 : PySem.W.codeIn K cd48 "Dark._bound" = true)
    (k48 : PySem.W.keepIn K (.ref f48) = true)
    (a49 : PySem.W.findIn K (.ref C_Hand) "__init__" = some (some (.ref f49)))
    (i49 : PySem.W.isFn K (.ref f49) = true)
    (l49 : K.lookup f49 = some ⟨oc49, od49, .func (PySem.W.fnOf "__init__" "Hand.__init__" (defArgs sHand_init) (defBody sHand_init) (defScope sHand_init) .none kV49 dc49 pm49 an49 cd49 ct49), sl49⟩)
    (c49 : PySem.W.codeIn K cd49 "Hand.__init__" = true)
    (k49 : PySem.W.keepIn K (.ref f49) = true)
    (a50 : PySem.W.findIn K (.ref C_Hand) "length" = some (some (.ref f50)))
    (i50 : PySem.W.isFn K (.ref f50) = true)
    (l50 : K.lookup f50 = some ⟨oc50, od50, .func (PySem.W.fnOf "length" "Hand.length" (defArgs sHand_length) (defBody sHand_length) (defScope sHand_length) .none kV50 dc50 pm50 an50 cd50 ct50), sl50⟩)
    (c50 : PySem.W.codeIn K cd50 "Hand.length" = true)
    (k50 : PySem.W.keepIn K (.ref f50) = true)
    (a51 : PySem.W.findIn K (.ref C_Hand) "steps" = some (some (.ref f51)))
    (i51 : PySem.W.isFn K (.ref f51) = true)
    (l51 : K.lookup f51 = some ⟨oc51, od51, .func (PySem.W.fnOf "steps" "Hand.steps" (defArgs sHand_steps) (defBody sHand_steps) (defScope sHand_steps) .none kV51 dc51 pm51 an51 cd51 ct51), sl51⟩)
    (c51 : PySem.W.codeIn K cd51 "Hand.steps" = true)
    (k51 : PySem.W.keepIn K (.ref f51) = true)
    (a52 : PySem.W.nsIn K mainGlobals "law" = some (some (.ref f52)))
    (l52 : K.lookup f52 = some ⟨oc52, od52, .func (PySem.W.fnOf "law" "law" (defArgs slaw) (defBody slaw) (defScope slaw) .none kV52 dc52 pm52 an52 cd52 ct52), sl52⟩)
    (c52 : PySem.W.codeIn K cd52 "law" = true)
    (k52 : PySem.W.keepIn K (.ref f52) = true)
    (pg : PySem.W.plainGet K C Str.empty = true)
    (hd : PySem.W.hasDictIn K C = true)
    (po : PySem.W.plainOver K C = true)
    (sa : PySem.W.findIn K (.ref C) "__setattr__" = some (some (.builtin "object.__setattr__")))
    (mk : PySem.W.makesIn K C = true)
    (kc : PySem.W.keepIn K (.ref C) = true)
    (n_length : PySem.W.findIn K (.ref C) "_length" = some none)
    (n_looks : PySem.W.findIn K (.ref C) "_looks" = some none)
    (pg_Hand : PySem.W.plainGet K C_Hand Str.empty = true)
    (hd_Hand : PySem.W.hasDictIn K C_Hand = true)
    (po_Hand : PySem.W.plainOver K C_Hand = true)
    (sa_Hand : PySem.W.findIn K (.ref C_Hand) "__setattr__" = some (some (.builtin "object.__setattr__")))
    (mk_Hand : PySem.W.makesIn K C_Hand = true)
    (kc_Hand : PySem.W.keepIn K (.ref C_Hand) = true)
    (nHand__dark : PySem.W.findIn K (.ref C_Hand) "_dark" = some none)
    (nHand__back : PySem.W.findIn K (.ref C_Hand) "_back" = some none)
    (b_max : PySem.W.nsIn K mainGlobals "max" = some none)
    (b_min : PySem.W.nsIn K mainGlobals "min" = some none)
    (b_len : PySem.W.nsIn K mainGlobals "len" = some none)
    (b_range : PySem.W.nsIn K mainGlobals "range" = some none)
    (b_sorted : PySem.W.nsIn K mainGlobals "sorted" = some none)
    (b_set : PySem.W.nsIn K mainGlobals "set" = some none)
    (b_isinstance : PySem.W.nsIn K mainGlobals "isinstance" = some none)
    (b_list : PySem.W.nsIn K mainGlobals "list" = some none)
    (b_tuple : PySem.W.nsIn K mainGlobals "tuple" = some none)
    (b_bool : PySem.W.nsIn K mainGlobals "bool" = some none)
    (b_int : PySem.W.nsIn K mainGlobals "int" = some none)
    (b_str : PySem.W.nsIn K mainGlobals "str" = some none)
    (b_all : PySem.W.nsIn K mainGlobals "all" = some none)
    (b_reversed : PySem.W.nsIn K mainGlobals "reversed" = some none)
    (b_super : PySem.W.nsIn K mainGlobals "super" = some none)
    (b_ValueError : PySem.W.nsIn K mainGlobals "ValueError" = some none)
    (gcFIGURES : PySem.W.nsIn K mainGlobals "FIGURES" = some (some (.str "0123456789" tcFIGURES)))
    (gcMOST_FIGURES : PySem.W.nsIn K mainGlobals "MOST_FIGURES" = some (some (.int (60) tcMOST_FIGURES)))
    (gSLOW : PySem.W.nsIn K mainGlobals "SLOW" = some (some (.str "slow" tSLOW)))
    (gFAST : PySem.W.nsIn K mainGlobals "FAST" = some (some (.str "fast" tFAST)))
    (gW : PySem.W.nsIn K mainGlobals "WORDS" = some (some (.ref aW)))
    (lW : K.lookup aW = some ⟨.type "dict", none, .dict es nW, #[]⟩)
    (keys : PySem.W.KeysLit w.params es.toList)
    (low : (aW == sysModules) = false)
    (wS : PySem.W.nsIn K aW "slow" = some (some (.ref tS)))
    (wF : PySem.W.nsIn K aW "fast" = some (some (.ref tF)))
    (lS : K.lookup tS = some ⟨.type "tuple", o1, .seq #[.str "at" u1, .str "from" u2] n1, s1⟩)
    (lF : K.lookup tF = some ⟨.type "tuple", o2, .seq #[.str "at" u3, .str "upto" u4] n2, s2⟩)
    (gL : PySem.W.nsIn K mainGlobals "LOOK_WORDS" = some (some (.ref aL)))
    (lL : K.lookup aL = some ⟨.type "tuple", o3, .seq #[.str "at" u5, .str "from" u6, .str "upto" u7] n3, s3⟩)
    (xg0 : PySem.W.nsIn K mainGlobals "NoText" = some (some (.ref xC0)))
    (xL0 : K.lookup xC0 = some (excClassObj xnm0 xq0 xC0 xN0 xbs0 xbm0 true xsn0 xsub0 xab0 xcol0 xdd0 xk00 xk10 xk20 xk30 xk50 "ValueError.__new__"))
    (xbv0 : PySem.HandSPX.refsVE xbm0 = true)
    (xsa0 : PySem.W.findIn K (.ref xC0) "__setattr__" = some (some (.builtin "object.__setattr__")))
    (xnw0 : PySem.W.findIn K (.ref xC0) "what" = some none)
    (xsv0 : PySem.W.subIn K (.ref xC0) (.type "ValueError") = some true)
    (xsu0 : PySem.W.ks_superIn K xC0 xC0 "__init__" = some (some (.builtin "ValueError.__init__")))
    (xop0 : PySem.W.nsIn K PySem.cStatics "thirdparty.any" = some none)
    (xme0 : PySem.W.mroIn K xC0 (.ref xC0) = some true)
    (xin0 : PySem.W.findIn K (.ref xC0) "__init__" = some (some (.ref xF0)))
    (xty0 : PySem.W.typeIn K (.ref xF0) = some (.type "function"))
    (xkc0 : PySem.W.keepIn K (.ref xC0) = true)
    (xex0 : PySem.W.subIn K (.ref xC0) (.type "BaseException") = some true)
    (xtc0 : PySem.W.typeIn K (.ref xC0) = some (.type "type"))
    (xic0 : PySem.W.isClsIn K xC0 = true)
    (xss0 : PySem.W.subIn K (.ref xC0) (.ref xC0) = some true)
    (xto0 : (l.prog.main.scope.names.lookup ("super" : Str)).isSome = false)
    (xl0 : K.lookup xF0 = some ⟨xoc0, xod0, .func (PySem.W.ksFn "__init__" "NoText.__init__" (defArgs (inClass (top 7) 0)) (defBody (inClass (top 7) 0)) (defScope (inClass (top 7) 0)) .none .none xdoc0 xpm0 xan0 (.ref xcda0) xct0 xcc0), xosl0⟩)
    (xc0 : PySem.W.codeIn K (.ref xcda0) "NoText.__init__" = true)
    (xlc0 : K.lookup xcc0 = some ⟨xcl0, xcld0, .cell (some (.ref xC0)), xcsl0⟩)
    (xld0 : K.lookup xcda0 = some ⟨xccl0, xcdd0, .fields xvs0, xccs0⟩)
    (xv0 : xvs0[2]? = some (.str xfile0 xtf0))
    (xfi0 : ((l.prog.main.file : Str) == xfile0) = true)
    (xg1 : PySem.W.nsIn K mainGlobals "Clash" = some (some (.ref xC1)))
    (xL1 : K.lookup xC1 = some (excClassObj xnm1 xq1 xC1 xN1 xbs1 xbm1 true xsn1 xsub1 xab1 xcol1 xdd1 xk01 xk11 xk21 xk31 xk51 "ValueError.__new__"))
    (xbv1 : PySem.HandSPX.refsVE xbm1 = true)
    (xsa1 : PySem.W.findIn K (.ref xC1) "__setattr__" = some (some (.builtin "object.__setattr__")))
    (xnw1 : PySem.W.findIn K (.ref xC1) "what" = some none)
    (xsv1 : PySem.W.subIn K (.ref xC1) (.type "ValueError") = some true)
    (xsu1 : PySem.W.ks_superIn K xC1 xC1 "__init__" = some (some (.builtin "ValueError.__init__")))
    (xop1 : PySem.W.nsIn K PySem.cStatics "thirdparty.any" = some none)
    (xme1 : PySem.W.mroIn K xC1 (.ref xC1) = some true)
    (xin1 : PySem.W.findIn K (.ref xC1) "__init__" = some (some (.ref xF1)))
    (xty1 : PySem.W.typeIn K (.ref xF1) = some (.type "function"))
    (xkc1 : PySem.W.keepIn K (.ref xC1) = true)
    (xex1 : PySem.W.subIn K (.ref xC1) (.type "BaseException") = some true)
    (xtc1 : PySem.W.typeIn K (.ref xC1) = some (.type "type"))
    (xic1 : PySem.W.isClsIn K xC1 = true)
    (xss1 : PySem.W.subIn K (.ref xC1) (.ref xC1) = some true)
    (xto1 : (l.prog.main.scope.names.lookup ("super" : Str)).isSome = false)
    (xl1 : K.lookup xF1 = some ⟨xoc1, xod1, .func (PySem.W.ksFn "__init__" "Clash.__init__" (defArgs (inClass (top 5) 0)) (defBody (inClass (top 5) 0)) (defScope (inClass (top 5) 0)) .none .none xdoc1 xpm1 xan1 (.ref xcda1) xct1 xcc1), xosl1⟩)
    (xc1 : PySem.W.codeIn K (.ref xcda1) "Clash.__init__" = true)
    (xlc1 : K.lookup xcc1 = some ⟨xcl1, xcld1, .cell (some (.ref xC1)), xcsl1⟩)
    (xld1 : K.lookup xcda1 = some ⟨xccl1, xcdd1, .fields xvs1, xccs1⟩)
    (xv1 : xvs1[2]? = some (.str xfile1 xtf1))
    (xfi1 : ((l.prog.main.file : Str) == xfile1) = true) :
    ∃ fd : FuncData, (∀ (s : Shared) (v : Value), BindsTo s fd ⟨[v], []⟩ [("script", v)]) ∧ ∀ base : Heap, K.In base → base.Ns mainGlobals mg → FnOk l.prog w K mg base CX0 16 fa fd ["script"] (spLaw K) := by
  have e := hfa.symm.trans (PySem.W.mg_of X G a52)
  cases e
  have F0 := fun_mk (st := slaw_tray) l0 c0 k0
  have F1 := fun_mk (st := slaw_draw) l1 c1 k1
  have F2 := fun_mk (st := slaw_great) l2 c2 k2
  have F3 := fun_mk (st := slaw_length) l3 c3 k3
  have F4 := fun_mk (st := slaw_lead) l4 c4 k4
  have F5 := fun_mk (st := slaw_secret) l5 c5 k5
  have F6 := fun_mk (st := slaw_true_look) l6 c6 k6
  have F7 := fun_mk (st := slaw_known) l7 c7 k7
  have F8 := fun_mk (st := slaw_home) l8 c8 k8
  have F9 := fun_mk (st := slaw_look_shown) l9 c9 k9
  have F10 := fun_mk (st := slaw_dark_shown) l10 c10 k10
  have F11 := fun_mk (st := slaw_hand_shown) l11 c11 k11
  have F12 := fun_mk (st := slaw_sign) l12 c12 k12
  have F13 := fun_mk (st := slaw_parts_spoilt) l13 c13 k13
  have F14 := fun_mk (st := slaw_spoilt) l14 c14 k14
  have F15 := fun_mk (st := slaw_odd) l15 c15 k15
  have F16 := fun_mk (st := slaw_read) l16 c16 k16
  have F17 := fun_mk (st := slaw_kept) l17 c17 k17
  have F18 := fun_mk (st := slaw_dark_right) l18 c18 k18
  have F19 := fun_mk (st := sfigures) l19 c19 k19
  have F20 := fun_mk (st := sshow_step) l20 c20 k20
  have F21 := fun_mk (st := sshow_look) l21 c21 k21
  have F22 := fun_mk (st := sshow_dark) l22 c22 k22
  have F23 := fun_mk (st := sshow_hand) l23 c23 k23
  have F24 := fun_mk (st := snumber_of) l24 c24 k24
  have F25 := fun_mk (st := slength_of) l25 c25 k25
  have F26 := fun_mk (st := sstep_of) l26 c26 k26
  have F27 := fun_mk (st := slook_of) l27 c27 k27
  have F28 := fun_mk (st := sdark_of) l28 c28 k28
  have F29 := fun_mk (st := shand_of) l29 c29 k29
  have F30 := fun_mk (st := sread_look) l30 c30 k30
  have F31 := fun_mk (st := sread_dark) l31 c31 k31
  have F32 := fun_mk (st := sread_hand) l32 c32 k32
  have F33 := fun_mk (st := sside_looks) l33 c33 k33
  have F34 := fun_mk (st := sbest_step) l34 c34 k34
  have F35 := fun_mk (st := stoo_far) l35 c35 k35
  have F36 := fun_mk (st := sclash) l36 c36 k36
  have F37 := fun_mk (st := splace_by) l37 c37 k37
  have F38 := fun_mk (st := sDark_init) l38 c38 k38
  have F39 := fun_mk (st := sDark_length) l39 c39 k39
  have F40 := fun_mk (st := sDark_hear) l40 c40 k40
  have F41 := fun_mk (st := sDark_looks) l41 c41 k41
  have F42 := fun_mk (st := sDark_least) l42 c42 k42
  have F43 := fun_mk (st := sDark_greatest) l43 c43 k43
  have F44 := fun_mk (st := sDark_led_back) l44 c44 k44
  have F45 := fun_mk (st := sDarkcheck_word) l45 c45 k45
  have F46 := fun_mk (st := sDarkhome) l46 c46 k46
  have F47 := fun_mk (st := sDarkclashing) l47 c47 k47
  have F48 := fun_mk (st := sDarkbound) l48 c48 k48
  have F49 := fun_mk (st := sHand_init) l49 c49 k49
  have F50 := fun_mk (st := sHand_length) l50 c50 k50
  have F51 := fun_mk (st := sHand_steps) l51 c51 k51
  have F52 := fun_mk (st := slaw) l52 c52 k52
  let Z : Ad := {
    a_law_tray := f0,
    d_law_tray := PySem.W.fnOf "_law_tray" "_law_tray" (defArgs slaw_tray) (defBody slaw_tray) (defScope slaw_tray) .none kV0 dc0 pm0 an0 cd0 ct0,
    a_law_draw := f1,
    d_law_draw := PySem.W.fnOf "_law_draw" "_law_draw" (defArgs slaw_draw) (defBody slaw_draw) (defScope slaw_draw) .none kV1 dc1 pm1 an1 cd1 ct1,
    a_law_great := f2,
    d_law_great := PySem.W.fnOf "_law_great" "_law_great" (defArgs slaw_great) (defBody slaw_great) (defScope slaw_great) .none kV2 dc2 pm2 an2 cd2 ct2,
    a_law_length := f3,
    d_law_length := PySem.W.fnOf "_law_length" "_law_length" (defArgs slaw_length) (defBody slaw_length) (defScope slaw_length) .none kV3 dc3 pm3 an3 cd3 ct3,
    a_law_lead := f4,
    d_law_lead := PySem.W.fnOf "_law_lead" "_law_lead" (defArgs slaw_lead) (defBody slaw_lead) (defScope slaw_lead) .none kV4 dc4 pm4 an4 cd4 ct4,
    a_law_secret := f5,
    d_law_secret := PySem.W.fnOf "_law_secret" "_law_secret" (defArgs slaw_secret) (defBody slaw_secret) (defScope slaw_secret) .none kV5 dc5 pm5 an5 cd5 ct5,
    a_law_true_look := f6,
    d_law_true_look := PySem.W.fnOf "_law_true_look" "_law_true_look" (defArgs slaw_true_look) (defBody slaw_true_look) (defScope slaw_true_look) .none kV6 dc6 pm6 an6 cd6 ct6,
    a_law_known := f7,
    d_law_known := PySem.W.fnOf "_law_known" "_law_known" (defArgs slaw_known) (defBody slaw_known) (defScope slaw_known) .none kV7 dc7 pm7 an7 cd7 ct7,
    a_law_home := f8,
    d_law_home := PySem.W.fnOf "_law_home" "_law_home" (defArgs slaw_home) (defBody slaw_home) (defScope slaw_home) .none kV8 dc8 pm8 an8 cd8 ct8,
    a_law_look_shown := f9,
    d_law_look_shown := PySem.W.fnOf "_law_look_shown" "_law_look_shown" (defArgs slaw_look_shown) (defBody slaw_look_shown) (defScope slaw_look_shown) .none kV9 dc9 pm9 an9 cd9 ct9,
    a_law_dark_shown := f10,
    d_law_dark_shown := PySem.W.fnOf "_law_dark_shown" "_law_dark_shown" (defArgs slaw_dark_shown) (defBody slaw_dark_shown) (defScope slaw_dark_shown) .none kV10 dc10 pm10 an10 cd10 ct10,
    a_law_hand_shown := f11,
    d_law_hand_shown := PySem.W.fnOf "_law_hand_shown" "_law_hand_shown" (defArgs slaw_hand_shown) (defBody slaw_hand_shown) (defScope slaw_hand_shown) .none kV11 dc11 pm11 an11 cd11 ct11,
    a_law_sign := f12,
    d_law_sign := PySem.W.fnOf "_law_sign" "_law_sign" (defArgs slaw_sign) (defBody slaw_sign) (defScope slaw_sign) .none kV12 dc12 pm12 an12 cd12 ct12,
    a_law_parts_spoilt := f13,
    d_law_parts_spoilt := PySem.W.fnOf "_law_parts_spoilt" "_law_parts_spoilt" (defArgs slaw_parts_spoilt) (defBody slaw_parts_spoilt) (defScope slaw_parts_spoilt) .none kV13 dc13 pm13 an13 cd13 ct13,
    a_law_spoilt := f14,
    d_law_spoilt := PySem.W.fnOf "_law_spoilt" "_law_spoilt" (defArgs slaw_spoilt) (defBody slaw_spoilt) (defScope slaw_spoilt) .none kV14 dc14 pm14 an14 cd14 ct14,
    a_law_odd := f15,
    d_law_odd := PySem.W.fnOf "_law_odd" "_law_odd" (defArgs slaw_odd) (defBody slaw_odd) (defScope slaw_odd) .none kV15 dc15 pm15 an15 cd15 ct15,
    a_law_read := f16,
    d_law_read := PySem.W.fnOf "_law_read" "_law_read" (defArgs slaw_read) (defBody slaw_read) (defScope slaw_read) .none kV16 dc16 pm16 an16 cd16 ct16,
    a_law_kept := f17,
    d_law_kept := PySem.W.fnOf "_law_kept" "_law_kept" (defArgs slaw_kept) (defBody slaw_kept) (defScope slaw_kept) .none kV17 dc17 pm17 an17 cd17 ct17,
    a_law_dark_right := f18,
    d_law_dark_right := PySem.W.fnOf "_law_dark_right" "_law_dark_right" (defArgs slaw_dark_right) (defBody slaw_dark_right) (defScope slaw_dark_right) .none kV18 dc18 pm18 an18 cd18 ct18,
    a_figures := f19,
    d_figures := PySem.W.fnOf "figures" "figures" (defArgs sfigures) (defBody sfigures) (defScope sfigures) .none kV19 dc19 pm19 an19 cd19 ct19,
    a_show_step := f20,
    d_show_step := PySem.W.fnOf "show_step" "show_step" (defArgs sshow_step) (defBody sshow_step) (defScope sshow_step) .none kV20 dc20 pm20 an20 cd20 ct20,
    a_show_look := f21,
    d_show_look := PySem.W.fnOf "show_look" "show_look" (defArgs sshow_look) (defBody sshow_look) (defScope sshow_look) .none kV21 dc21 pm21 an21 cd21 ct21,
    a_show_dark := f22,
    d_show_dark := PySem.W.fnOf "show_dark" "show_dark" (defArgs sshow_dark) (defBody sshow_dark) (defScope sshow_dark) .none kV22 dc22 pm22 an22 cd22 ct22,
    a_show_hand := f23,
    d_show_hand := PySem.W.fnOf "show_hand" "show_hand" (defArgs sshow_hand) (defBody sshow_hand) (defScope sshow_hand) .none kV23 dc23 pm23 an23 cd23 ct23,
    a_number_of := f24,
    d_number_of := PySem.W.fnOf "number_of" "number_of" (defArgs snumber_of) (defBody snumber_of) (defScope snumber_of) .none kV24 dc24 pm24 an24 cd24 ct24,
    a_length_of := f25,
    d_length_of := PySem.W.fnOf "length_of" "length_of" (defArgs slength_of) (defBody slength_of) (defScope slength_of) .none kV25 dc25 pm25 an25 cd25 ct25,
    a_step_of := f26,
    d_step_of := PySem.W.fnOf "step_of" "step_of" (defArgs sstep_of) (defBody sstep_of) (defScope sstep_of) .none kV26 dc26 pm26 an26 cd26 ct26,
    a_look_of := f27,
    d_look_of := PySem.W.fnOf "look_of" "look_of" (defArgs slook_of) (defBody slook_of) (defScope slook_of) .none kV27 dc27 pm27 an27 cd27 ct27,
    a_dark_of := f28,
    d_dark_of := PySem.W.fnOf "dark_of" "dark_of" (defArgs sdark_of) (defBody sdark_of) (defScope sdark_of) .none kV28 dc28 pm28 an28 cd28 ct28,
    a_hand_of := f29,
    d_hand_of := PySem.W.fnOf "hand_of" "hand_of" (defArgs shand_of) (defBody shand_of) (defScope shand_of) .none kV29 dc29 pm29 an29 cd29 ct29,
    a_read_look := f30,
    d_read_look := PySem.W.fnOf "read_look" "read_look" (defArgs sread_look) (defBody sread_look) (defScope sread_look) .none kV30 dc30 pm30 an30 cd30 ct30,
    a_read_dark := f31,
    d_read_dark := PySem.W.fnOf "read_dark" "read_dark" (defArgs sread_dark) (defBody sread_dark) (defScope sread_dark) .none kV31 dc31 pm31 an31 cd31 ct31,
    a_read_hand := f32,
    d_read_hand := PySem.W.fnOf "read_hand" "read_hand" (defArgs sread_hand) (defBody sread_hand) (defScope sread_hand) .none kV32 dc32 pm32 an32 cd32 ct32,
    a_side_looks := f33,
    d_side_looks := PySem.W.fnOf "side_looks" "side_looks" (defArgs sside_looks) (defBody sside_looks) (defScope sside_looks) .none kV33 dc33 pm33 an33 cd33 ct33,
    a_best_step := f34,
    d_best_step := PySem.W.fnOf "best_step" "best_step" (defArgs sbest_step) (defBody sbest_step) (defScope sbest_step) .none kV34 dc34 pm34 an34 cd34 ct34,
    a_too_far := f35,
    d_too_far := PySem.W.fnOf "too_far" "too_far" (defArgs stoo_far) (defBody stoo_far) (defScope stoo_far) .none kV35 dc35 pm35 an35 cd35 ct35,
    a_clash := f36,
    d_clash := PySem.W.fnOf "clash" "clash" (defArgs sclash) (defBody sclash) (defScope sclash) .none kV36 dc36 pm36 an36 cd36 ct36,
    a_place_by := f37,
    d_place_by := PySem.W.fnOf "place_by" "place_by" (defArgs splace_by) (defBody splace_by) (defScope splace_by) .none kV37 dc37 pm37 an37 cd37 ct37,
    a_Dark_init := f38,
    d_Dark_init := PySem.W.fnOf "__init__" "Dark.__init__" (defArgs sDark_init) (defBody sDark_init) (defScope sDark_init) .none kV38 dc38 pm38 an38 cd38 ct38,
    a_Dark_length := f39,
    d_Dark_length := PySem.W.fnOf "length" "Dark.length" (defArgs sDark_length) (defBody sDark_length) (defScope sDark_length) .none kV39 dc39 pm39 an39 cd39 ct39,
    a_Dark_hear := f40,
    d_Dark_hear := PySem.W.fnOf "hear" "Dark.hear" (defArgs sDark_hear) (defBody sDark_hear) (defScope sDark_hear) .none kV40 dc40 pm40 an40 cd40 ct40,
    a_Dark_looks := f41,
    d_Dark_looks := PySem.W.fnOf "looks" "Dark.looks" (defArgs sDark_looks) (defBody sDark_looks) (defScope sDark_looks) .none kV41 dc41 pm41 an41 cd41 ct41,
    a_Dark_least := f42,
    d_Dark_least := PySem.W.fnOf "least" "Dark.least" (defArgs sDark_least) (defBody sDark_least) (defScope sDark_least) .none kV42 dc42 pm42 an42 cd42 ct42,
    a_Dark_greatest := f43,
    d_Dark_greatest := PySem.W.fnOf "greatest" "Dark.greatest" (defArgs sDark_greatest) (defBody sDark_greatest) (defScope sDark_greatest) .none kV43 dc43 pm43 an43 cd43 ct43,
    a_Dark_led_back := f44,
    d_Dark_led_back := PySem.W.fnOf "led_back" "Dark.led_back" (defArgs sDark_led_back) (defBody sDark_led_back) (defScope sDark_led_back) .none kV44 dc44 pm44 an44 cd44 ct44,
    a_Darkcheck_word := f45,
    d_Darkcheck_word := PySem.W.fnOf "_check_word" "Dark._check_word" (defArgs sDarkcheck_word) (defBody sDarkcheck_word) (defScope sDarkcheck_word) .none kV45 dc45 pm45 an45 cd45 ct45,
    a_Darkhome := f46,
    d_Darkhome := PySem.W.fnOf "_home" "Dark._home" (defArgs sDarkhome) (defBody sDarkhome) (defScope sDarkhome) .none kV46 dc46 pm46 an46 cd46 ct46,
    a_Darkclashing := f47,
    d_Darkclashing := PySem.W.fnOf "_clashing" "Dark._clashing" (defArgs sDarkclashing) (defBody sDarkclashing) (defScope sDarkclashing) .none kV47 dc47 pm47 an47 cd47 ct47,
    a_Darkbound := f48,
    d_Darkbound := PySem.W.fnOf "_bound" "Dark._bound" (defArgs sDarkbound) (defBody sDarkbound) (defScope sDarkbound) .none kV48 dc48 pm48 an48 cd48 ct48,
    a_Hand_init := f49,
    d_Hand_init := PySem.W.fnOf "__init__" "Hand.__init__" (defArgs sHand_init) (defBody sHand_init) (defScope sHand_init) .none kV49 dc49 pm49 an49 cd49 ct49,
    a_Hand_length := f50,
    d_Hand_length := PySem.W.fnOf "length" "Hand.length" (defArgs sHand_length) (defBody sHand_length) (defScope sHand_length) .none kV50 dc50 pm50 an50 cd50 ct50,
    a_Hand_steps := f51,
    d_Hand_steps := PySem.W.fnOf "steps" "Hand.steps" (defArgs sHand_steps) (defBody sHand_steps) (defScope sHand_steps) .none kV51 dc51 pm51 an51 cd51 ct51,
    a_law := fa,
    d_law := PySem.W.fnOf "law" "law" (defArgs slaw) (defBody slaw) (defScope slaw) .none kV52 dc52 pm52 an52 cd52 ct52,
    C := C,
    C_Hand := C_Hand,
    v_FIGURES := .str "0123456789" tcFIGURES,
    v_MOST_FIGURES := .int (60) tcMOST_FIGURES,
    v_SLOW := .str "slow" tSLOW,
    v_FAST := .str "fast" tFAST,
    a_WORDS := aW,
    a_LW := aL,
    t_slow := tS,
    t_fast := tF }
  have T : Tx K w mg Z := {
    F_law_tray := F0,
    bb_law_tray := F0.binds (ps := P_law_tray) fun _ _ _ _ _ _ us hl => match us, hl with | [_], _ => rfl,
    g_law_tray := PySem.W.mg_of X G a0,
    F_law_draw := F1,
    bb_law_draw := F1.binds (ps := P_law_draw) fun _ _ _ _ _ _ us hl => match us, hl with | [_, _], _ => rfl,
    g_law_draw := PySem.W.mg_of X G a1,
    F_law_great := F2,
    bb_law_great := F2.binds (ps := P_law_great) fun _ _ _ _ _ _ us hl => match us, hl with | [_], _ => rfl,
    g_law_great := PySem.W.mg_of X G a2,
    F_law_length := F3,
    bb_law_length := F3.binds (ps := P_law_length) fun _ _ _ _ _ _ us hl => match us, hl with | [_], _ => rfl,
    g_law_length := PySem.W.mg_of X G a3,
    F_law_lead := F4,
    bb_law_lead := F4.binds (ps := P_law_lead) fun _ _ _ _ _ _ us hl => match us, hl with | [_, _, _], _ => rfl,
    g_law_lead := PySem.W.mg_of X G a4,
    F_law_secret := F5,
    bb_law_secret := F5.binds (ps := P_law_secret) fun _ _ _ _ _ _ us hl => match us, hl with | [_, _], _ => rfl,
    g_law_secret := PySem.W.mg_of X G a5,
    F_law_true_look := F6,
    bb_law_true_look := F6.binds (ps := P_law_true_look) fun _ _ _ _ _ _ us hl => match us, hl with | [_, _, _], _ => rfl,
    g_law_true_look := PySem.W.mg_of X G a6,
    F_law_known := F7,
    bb_law_known := F7.binds (ps := P_law_known) fun _ _ _ _ _ _ us hl => match us, hl with | [_, _, _], _ => rfl,
    g_law_known := PySem.W.mg_of X G a7,
    F_law_home := F8,
    bb_law_home := F8.binds (ps := P_law_home) fun _ _ _ _ _ _ us hl => match us, hl with | [_, _], _ => rfl,
    g_law_home := PySem.W.mg_of X G a8,
    F_law_look_shown := F9,
    bb_law_look_shown := F9.binds (ps := P_law_look_shown) fun _ _ _ _ _ _ us hl => match us, hl with | [_], _ => rfl,
    g_law_look_shown := PySem.W.mg_of X G a9,
    F_law_dark_shown := F10,
    bb_law_dark_shown := F10.binds (ps := P_law_dark_shown) fun _ _ _ _ _ _ us hl => match us, hl with | [_, _], _ => rfl,
    g_law_dark_shown := PySem.W.mg_of X G a10,
    F_law_hand_shown := F11,
    bb_law_hand_shown := F11.binds (ps := P_law_hand_shown) fun _ _ _ _ _ _ us hl => match us, hl with | [_, _], _ => rfl,
    g_law_hand_shown := PySem.W.mg_of X G a11,
    F_law_sign := F12,
    bb_law_sign := F12.binds (ps := P_law_sign) fun _ _ _ _ _ _ us hl => match us, hl with | [_], _ => rfl,
    g_law_sign := PySem.W.mg_of X G a12,
    F_law_parts_spoilt := F13,
    bb_law_parts_spoilt := F13.binds (ps := P_law_parts_spoilt) fun _ _ _ _ _ _ us hl => match us, hl with | [_, _, _], _ => rfl,
    g_law_parts_spoilt := PySem.W.mg_of X G a13,
    F_law_spoilt := F14,
    bb_law_spoilt := F14.binds (ps := P_law_spoilt) fun _ _ _ _ _ _ us hl => match us, hl with | [_, _, _], _ => rfl,
    g_law_spoilt := PySem.W.mg_of X G a14,
    F_law_odd := F15,
    bb_law_odd := F15.binds (ps := P_law_odd) fun _ _ _ _ _ _ us hl => match us, hl with | [], _ => rfl,
    g_law_odd := PySem.W.mg_of X G a15,
    F_law_read := F16,
    bb_law_read := F16.binds (ps := P_law_read) fun _ _ _ _ _ _ us hl => match us, hl with | [_, _], _ => rfl,
    g_law_read := PySem.W.mg_of X G a16,
    F_law_kept := F17,
    bb_law_kept := F17.binds (ps := P_law_kept) fun _ _ _ _ _ _ us hl => match us, hl with | [_], _ => rfl,
    g_law_kept := PySem.W.mg_of X G a17,
    F_law_dark_right := F18,
    bb_law_dark_right := F18.binds (ps := P_law_dark_right) fun _ _ _ _ _ _ us hl => match us, hl with | [_, _], _ => rfl,
    g_law_dark_right := PySem.W.mg_of X G a18,
    F_figures := F19,
    bb_figures := F19.binds (ps := P_figures) fun _ _ _ _ _ _ us hl => match us, hl with | [_], _ => rfl,
    g_figures := PySem.W.mg_of X G a19,
    F_show_step := F20,
    bb_show_step := F20.binds (ps := P_show_step) fun _ _ _ _ _ _ us hl => match us, hl with | [_], _ => rfl,
    g_show_step := PySem.W.mg_of X G a20,
    F_show_look := F21,
    bb_show_look := F21.binds (ps := P_show_look) fun _ _ _ _ _ _ us hl => match us, hl with | [_], _ => rfl,
    g_show_look := PySem.W.mg_of X G a21,
    F_show_dark := F22,
    bb_show_dark := F22.binds (ps := P_show_dark) fun _ _ _ _ _ _ us hl => match us, hl with | [_], _ => rfl,
    g_show_dark := PySem.W.mg_of X G a22,
    F_show_hand := F23,
    bb_show_hand := F23.binds (ps := P_show_hand) fun _ _ _ _ _ _ us hl => match us, hl with | [_], _ => rfl,
    g_show_hand := PySem.W.mg_of X G a23,
    F_number_of := F24,
    bb_number_of := F24.binds (ps := P_number_of) fun _ _ _ _ _ _ us hl => match us, hl with | [_], _ => rfl,
    g_number_of := PySem.W.mg_of X G a24,
    F_length_of := F25,
    bb_length_of := F25.binds (ps := P_length_of) fun _ _ _ _ _ _ us hl => match us, hl with | [_], _ => rfl,
    g_length_of := PySem.W.mg_of X G a25,
    F_step_of := F26,
    bb_step_of := F26.binds (ps := P_step_of) fun _ _ _ _ _ _ us hl => match us, hl with | [_], _ => rfl,
    g_step_of := PySem.W.mg_of X G a26,
    F_look_of := F27,
    bb_look_of := F27.binds (ps := P_look_of) fun _ _ _ _ _ _ us hl => match us, hl with | [_], _ => rfl,
    g_look_of := PySem.W.mg_of X G a27,
    F_dark_of := F28,
    bb_dark_of := F28.binds (ps := P_dark_of) fun _ _ _ _ _ _ us hl => match us, hl with | [_], _ => rfl,
    g_dark_of := PySem.W.mg_of X G a28,
    F_hand_of := F29,
    bb_hand_of := F29.binds (ps := P_hand_of) fun _ _ _ _ _ _ us hl => match us, hl with | [_], _ => rfl,
    g_hand_of := PySem.W.mg_of X G a29,
    F_read_look := F30,
    bb_read_look := F30.binds (ps := P_read_look) fun _ _ _ _ _ _ us hl => match us, hl with | [_], _ => rfl,
    g_read_look := PySem.W.mg_of X G a30,
    F_read_dark := F31,
    bb_read_dark := F31.binds (ps := P_read_dark) fun _ _ _ _ _ _ us hl => match us, hl with | [_], _ => rfl,
    g_read_dark := PySem.W.mg_of X G a31,
    F_read_hand := F32,
    bb_read_hand := F32.binds (ps := P_read_hand) fun _ _ _ _ _ _ us hl => match us, hl with | [_], _ => rfl,
    g_read_hand := PySem.W.mg_of X G a32,
    F_side_looks := F33,
    bb_side_looks := F33.binds (ps := P_side_looks) fun _ _ _ _ _ _ us hl => match us, hl with | [_, _], _ => rfl,
    g_side_looks := PySem.W.mg_of X G a33,
    F_best_step := F34,
    bb_best_step := F34.binds (ps := P_best_step) fun _ _ _ _ _ _ us hl => match us, hl with | [_, _, _, _], _ => rfl,
    g_best_step := PySem.W.mg_of X G a34,
    F_too_far := F35,
    bb_too_far := F35.binds (ps := P_too_far) fun _ _ _ _ _ _ us hl => match us, hl with | [_, _, _], _ => rfl,
    g_too_far := PySem.W.mg_of X G a35,
    F_clash := F36,
    bb_clash := F36.binds (ps := P_clash) fun _ _ _ _ _ _ us hl => match us, hl with | [_, _, _], _ => rfl,
    g_clash := PySem.W.mg_of X G a36,
    F_place_by := F37,
    bb_place_by := F37.binds (ps := P_place_by) fun _ _ _ _ _ _ us hl => match us, hl with | [_, _, _, _], _ => rfl,
    g_place_by := PySem.W.mg_of X G a37,
    F_Dark_init := F38,
    bb_Dark_init := F38.binds (ps := P_Dark_init) fun _ _ _ _ _ _ us hl => match us, hl with | [_, _], _ => rfl,
    F_Dark_length := F39,
    bb_Dark_length := F39.binds (ps := P_Dark_length) fun _ _ _ _ _ _ us hl => match us, hl with | [_], _ => rfl,
    m_Dark_length := ⟨a39, i39, k39⟩,
    F_Dark_hear := F40,
    bb_Dark_hear := F40.binds (ps := P_Dark_hear) fun _ _ _ _ _ _ us hl => match us, hl with | [_, _, _, _], _ => rfl,
    m_Dark_hear := ⟨a40, i40, k40⟩,
    F_Dark_looks := F41,
    bb_Dark_looks := F41.binds (ps := P_Dark_looks) fun _ _ _ _ _ _ us hl => match us, hl with | [_], _ => rfl,
    m_Dark_looks := ⟨a41, i41, k41⟩,
    F_Dark_least := F42,
    bb_Dark_least := F42.binds (ps := P_Dark_least) fun _ _ _ _ _ _ us hl => match us, hl with | [_, _], _ => rfl,
    m_Dark_least := ⟨a42, i42, k42⟩,
    F_Dark_greatest := F43,
    bb_Dark_greatest := F43.binds (ps := P_Dark_greatest) fun _ _ _ _ _ _ us hl => match us, hl with | [_, _], _ => rfl,
    m_Dark_greatest := ⟨a43, i43, k43⟩,
    F_Dark_led_back := F44,
    bb_Dark_led_back := F44.binds (ps := P_Dark_led_back) fun _ _ _ _ _ _ us hl => match us, hl with | [_], _ => rfl,
    m_Dark_led_back := ⟨a44, i44, k44⟩,
    F_Darkcheck_word := F45,
    bb_Darkcheck_word := F45.binds (ps := P_Darkcheck_word) fun _ _ _ _ _ _ us hl => match us, hl with | [_, _], _ => rfl,
    m_Darkcheck_word := ⟨a45, i45, k45⟩,
    F_Darkhome := F46,
    bb_Darkhome := F46.binds (ps := P_Darkhome) fun _ _ _ _ _ _ us hl => match us, hl with | [_, _, _, _], _ => rfl,
    m_Darkhome := ⟨a46, i46, k46⟩,
    F_Darkclashing := F47,
    bb_Darkclashing := F47.binds (ps := P_Darkclashing) fun _ _ _ _ _ _ us hl => match us, hl with | [_, _], _ => rfl,
    m_Darkclashing := ⟨a47, i47, k47⟩,
    F_Darkbound := F48,
    bb_Darkbound := F48.binds (ps := P_Darkbound) fun _ _ _ _ _ _ us hl => match us, hl with | [_, _, _], _ => rfl,
    m_Darkbound := ⟨a48, i48, k48⟩,
    F_Hand_init := F49,
    bb_Hand_init := F49.binds (ps := P_Hand_init) fun _ _ _ _ _ _ us hl => match us, hl with | [_, _, _], _ => rfl,
    F_Hand_length := F50,
    bb_Hand_length := F50.binds (ps := P_Hand_length) fun _ _ _ _ _ _ us hl => match us, hl with | [_], _ => rfl,
    m_Hand_length := ⟨a50, i50, k50⟩,
    F_Hand_steps := F51,
    bb_Hand_steps := F51.binds (ps := P_Hand_steps) fun _ _ _ _ _ _ us hl => match us, hl with | [_], _ => rfl,
    m_Hand_steps := ⟨a51, i51, k51⟩,
    F_law := F52,
    bb_law := F52.binds (ps := P_law) fun _ _ _ _ _ _ us hl => match us, hl with | [_], _ => rfl,
    g_law := PySem.W.mg_of X G a52,
    cl := ⟨pg, hd, po, sa⟩,
    g_Dark := PySem.W.mg_of X G aC,
    mk_Dark := ⟨mk, a38, i38, kc⟩,
    n_length := n_length,
    n_looks := n_looks,
    cl_Hand := ⟨pg_Hand, hd_Hand, po_Hand, sa_Hand⟩,
    g_Hand := PySem.W.mg_of X G aC_Hand,
    mk_Hand := ⟨mk_Hand, a49, i49, kc_Hand⟩,
    nHand__dark := nHand__dark,
    nHand__back := nHand__back,
    b_max := PySem.W.mg_none_of X G b_max,
    b_min := PySem.W.mg_none_of X G b_min,
    b_len := PySem.W.mg_none_of X G b_len,
    b_range := PySem.W.mg_none_of X G b_range,
    b_sorted := PySem.W.mg_none_of X G b_sorted,
    b_set := PySem.W.mg_none_of X G b_set,
    b_isinstance := PySem.W.mg_none_of X G b_isinstance,
    b_list := PySem.W.mg_none_of X G b_list,
    b_tuple := PySem.W.mg_none_of X G b_tuple,
    b_bool := PySem.W.mg_none_of X G b_bool,
    b_int := PySem.W.mg_none_of X G b_int,
    b_str := PySem.W.mg_none_of X G b_str,
    b_all := PySem.W.mg_none_of X G b_all,
    b_reversed := PySem.W.mg_none_of X G b_reversed,
    b_super := PySem.W.mg_none_of X G b_super,
    b_ValueError := PySem.W.mg_none_of X G b_ValueError,
    g_FIGURES := PySem.W.mg_of X G gcFIGURES,
    r_FIGURES := ⟨tcFIGURES, rfl⟩,
    g_MOST_FIGURES := PySem.W.mg_of X G gcMOST_FIGURES,
    r_MOST_FIGURES := ⟨tcMOST_FIGURES, rfl⟩,
    g_SLOW := PySem.W.mg_of X G gSLOW,
    r_SLOW := ⟨tSLOW, rfl⟩,
    g_FAST := PySem.W.mg_of X G gFAST,
    r_FAST := ⟨tFAST, rfl⟩,
    g_WORDS := PySem.W.mg_of X G gW,
    kd_WORDS := ⟨es, nW, lW, keys, low⟩,
    w_slow := wS,
    w_fast := wF,
    q_slow := fun _ => sqt2 lS,
    q_fast := fun _ => sqt2 lF,
    g_LOOK_WORDS := PySem.W.mg_of X G gL,
    q_LW := fun _ => sqt3 lL }
  let Y : AdX := {
    c_NoText := xC0,
    i_NoText := xF0,
    c_Clash := xC1,
    i_Clash := xF1 }
  have X : Ex l.prog K mg Y := {
    NoText := ERR.errT_mk (inClass (top 7) 0) xL0 xbv0 xsa0 xnw0 xsv0 xsu0 xop0 xme0 xin0 xty0 xkc0 xex0 xtc0 xto0 xl0 ⟨_, _, rfl⟩ rfl rfl (fun _ => ⟨_, rfl⟩) xc0 xlc0 xld0 xv0 xfi0,
    g_NoText := PySem.W.mg_of X G xg0,
    m_NoText := ERR.exm_self xex0 xic0 xtc0 xss0,
    Clash := ERR.errT_mk (inClass (top 5) 0) xL1 xbv1 xsa1 xnw1 xsv1 xsu1 xop1 xme1 xin1 xty1 xkc1 xex1 xtc1 xto1 xl1 ⟨_, _, rfl⟩ rfl rfl (fun _ => ⟨_, rfl⟩) xc1 xlc1 xld1 xv1 xfi1,
    g_Clash := PySem.W.mg_of X G xg1,
    m_Clash := ERR.exm_self xex1 xic1 xtc1 xss1 }
  exact ⟨PySem.W.fnOf "law" "law" (defArgs slaw) (defBody slaw) (defScope slaw) .none kV52 dc52 pm52 an52 cd52 ct52, fun s v => .of_eq rfl, fun base _ _ => ok_law T X⟩
theorem walk {l : PySem.W.OpenLaw} {q : Program} {loose : List Str} {XP : (Str → Option Value) → Heap → Prop} {YP : World → Heap → Prop} {d : DefRec} {K : Params → PySem.W.Frag} (hn : l.most = some 63) (hdf : d.params.defaults = [])
    (hY : ∀ (w : World) (h : Heap), YP w h → (K w.params).In h)
    (F : ∀ (w : World) (mg : Str → Option Value) (fa : Addr) (h : Heap), (K w.params).In h → h.Ns mainGlobals mg → mg d.name = some (.ref fa) →
      ∃ fd : FuncData, (∀ (s : Shared) (u : Value), BindsTo s fd ⟨[u], []⟩ [("script", u)]) ∧ ∀ base : Heap, (K w.params).In base → base.Ns mainGlobals mg → FnOk l.prog w (K w.params) mg base CX0 16 fa fd ["script"] (spLaw (K w.params))) :
    PySem.W.WalkO q loose XP YP l.row.toRowW d [] (fun f vs => PySem.call f vs) :=
  L2.walk_of (n := 63) (k := 16) (x := "script") (CX := fun _ => CX0) (sp := fun w => spLaw (K w.params)) hn (by decide) hdf ⟨rfl, by decide, by decide⟩ hY F (fun _ _ a ns hl _ hS => ⟨a, ns, rfl, hS, hl, fun _ => rfl⟩) fun _ _ _ _ _ z => z
end KA
open PySem PySem.W PyProof.Rows
set_option maxRecDepth 100000 in
set_option maxHeartbeats 0 in
theorem PySem.Challenge.cw_darkpace_k56_whole_one_writing_holds : PySem.Challenge.rw_darkpace_k56_whole_one_writing.Holds := by
  w_on; o_law; k_head; (case hw => w_witness2)
  k_fill
  refine KA.walk (l := PySem.Challenge.rw_darkpace_k56_whole_one_writing) rfl rfl (fun w h Y => PySem.W.kIn_of Y) ?F
  case F =>
    intro w mg fa h KX G hmg
    refine' KA.all_mk KX G hmg ?aC ?aC_Hand ?a0 ?l0 ?c0 ?k0 ?a1 ?l1 ?c1 ?k1 ?a2 ?l2 ?c2 ?k2 ?a3 ?l3 ?c3 ?k3 ?a4 ?l4 ?c4 ?k4 ?a5 ?l5 ?c5 ?k5 ?a6 ?l6 ?c6 ?k6 ?a7 ?l7 ?c7 ?k7 ?a8 ?l8 ?c8 ?k8 ?a9 ?l9 ?c9 ?k9 ?a10 ?l10 ?c10 ?k10 ?a11 ?l11 ?c11 ?k11 ?a12 ?l12 ?c12 ?k12 ?a13 ?l13 ?c13 ?k13 ?a14 ?l14 ?c14 ?k14 ?a15 ?l15 ?c15 ?k15 ?a16 ?l16 ?c16 ?k16 ?a17 ?l17 ?c17 ?k17 ?a18 ?l18 ?c18 ?k18 ?a19 ?l19 ?c19 ?k19 ?a20 ?l20 ?c20 ?k20 ?a21 ?l21 ?c21 ?k21 ?a22 ?l22 ?c22 ?k22 ?a23 ?l23 ?c23 ?k23 ?a24 ?l24 ?c24 ?k24 ?a25 ?l25 ?c25 ?k25 ?a26 ?l26 ?c26 ?k26 ?a27 ?l27 ?c27 ?k27 ?a28 ?l28 ?c28 ?k28 ?a29 ?l29 ?c29 ?k29 ?a30 ?l30 ?c30 ?k30 ?a31 ?l31 ?c31 ?k31 ?a32 ?l32 ?c32 ?k32 ?a33 ?l33 ?c33 ?k33 ?a34 ?l34 ?c34 ?k34 ?a35 ?l35 ?c35 ?k35 ?a36 ?l36 ?c36 ?k36 ?a37 ?l37 ?c37 ?k37 ?a38 ?i38 ?l38 ?c38 ?k38 ?a39 ?i39 ?l39 ?c39 ?k39 ?a40 ?i40 ?l40 ?c40 ?k40 ?a41 ?i41 ?l41 ?c41 ?k41 ?a42 ?i42 ?l42 ?c42 ?k42 ?a43 ?i43 ?l43 ?c43 ?k43 ?a44 ?i44 ?l44 ?c44 ?k44 ?a45 ?i45 ?l45 ?c45 ?k45 ?a46 ?i46 ?l46 ?c46 ?k46 ?a47 ?i47 ?l47 ?c47 ?k47 ?a48 ?i48 ?l48 ?c48 ?k48 ?a49 ?i49 ?l49 ?c49 ?k49 ?a50 ?i50 ?l50 ?c50 ?k50 ?a51 ?i51 ?l51 ?c51 ?k51 ?a52 ?l52 ?c52 ?k52 ?pg ?hd ?po ?sa ?mk ?kc ?n_length ?n_looks ?pg_Hand ?hd_Hand ?po_Hand ?sa_Hand ?mk_Hand ?kc_Hand ?nHand__dark ?nHand__back ?b_max ?b_min ?b_len ?b_range ?b_sorted ?b_set ?b_isinstance ?b_list ?b_tuple ?b_bool ?b_int ?b_str ?b_all ?b_reversed ?b_super ?b_ValueError ?gcFIGURES ?gcMOST_FIGURES ?gSLOW ?gFAST ?gW ?lW ?keys ?low ?wS ?wF ?lS ?lF ?gL ?lL ?xg0 ?xL0 ?xbv0 ?xsa0 ?xnw0 ?xsv0 ?xsu0 ?xop0 ?xme0 ?xin0 ?xty0 ?xkc0 ?xex0 ?xtc0 ?xic0 ?xss0 ?xto0 ?xl0 ?xc0 ?xlc0 ?xld0 ?xv0 ?xfi0 ?xg1 ?xL1 ?xbv1 ?xsa1 ?xnw1 ?xsv1 ?xsu1 ?xop1 ?xme1 ?xin1 ?xty1 ?xkc1 ?xex1 ?xtc1 ?xic1 ?xss1 ?xto1 ?xl1 ?xc1 ?xlc1 ?xld1 ?xv1 ?xfi1
    (case aC => k_is)
    (case aC_Hand => k_is)
    (case a0 => k_is)
    (case l0 => k_is)
    (case c0 => k_is)
    (case k0 => k_is)
    (case a1 => k_is)
    (case l1 => k_is)
    (case c1 => k_is)
    (case k1 => k_is)
    (case a2 => k_is)
    (case l2 => k_is)
    (case c2 => k_is)
    (case k2 => k_is)
    (case a3 => k_is)
    (case l3 => k_is)
    (case c3 => k_is)
    (case k3 => k_is)
    (case a4 => k_is)
    (case l4 => k_is)
    (case c4 => k_is)
    (case k4 => k_is)
    (case a5 => k_is)
    (case l5 => k_is)
    (case c5 => k_is)
    (case k5 => k_is)
    (case a6 => k_is)
    (case l6 => k_is)
    (case c6 => k_is)
    (case k6 => k_is)
    (case a7 => k_is)
    (case l7 => k_is)
    (case c7 => k_is)
    (case k7 => k_is)
    (case a8 => k_is)
    (case l8 => k_is)
    (case c8 => k_is)
    (case k8 => k_is)
    (case a9 => k_is)
    (case l9 => k_is)
    (case c9 => k_is)
    (case k9 => k_is)
    (case a10 => k_is)
    (case l10 => k_is)
    (case c10 => k_is)
    (case k10 => k_is)
    (case a11 => k_is)
    (case l11 => k_is)
    (case c11 => k_is)
    (case k11 => k_is)
    (case a12 => k_is)
    (case l12 => k_is)
    (case c12 => k_is)
    (case k12 => k_is)
    (case a13 => k_is)
    (case l13 => k_is)
    (case c13 => k_is)
    (case k13 => k_is)
    (case a14 => k_is)
    (case l14 => k_is)
    (case c14 => k_is)
    (case k14 => k_is)
    (case a15 => k_is)
    (case l15 => k_is)
    (case c15 => k_is)
    (case k15 => k_is)
    (case a16 => k_is)
    (case l16 => k_is)
    (case c16 => k_is)
    (case k16 => k_is)
    (case a17 => k_is)
    (case l17 => k_is)
    (case c17 => k_is)
    (case k17 => k_is)
    (case a18 => k_is)
    (case l18 => k_is)
    (case c18 => k_is)
    (case k18 => k_is)
    (case a19 => k_is)
    (case l19 => k_is)
    (case c19 => k_is)
    (case k19 => k_is)
    (case a20 => k_is)
    (case l20 => k_is)
    (case c20 => k_is)
    (case k20 => k_is)
    (case a21 => k_is)
    (case l21 => k_is)
    (case c21 => k_is)
    (case k21 => k_is)
    (case a22 => k_is)
    (case l22 => k_is)
    (case c22 => k_is)
    (case k22 => k_is)
    (case a23 => k_is)
    (case l23 => k_is)
    (case c23 => k_is)
    (case k23 => k_is)
    (case a24 => k_is)
    (case l24 => k_is)
    (case c24 => k_is)
    (case k24 => k_is)
    (case a25 => k_is)
    (case l25 => k_is)
    (case c25 => k_is)
    (case k25 => k_is)
    (case a26 => k_is)
    (case l26 => k_is)
    (case c26 => k_is)
    (case k26 => k_is)
    (case a27 => k_is)
    (case l27 => k_is)
    (case c27 => k_is)
    (case k27 => k_is)
    (case a28 => k_is)
    (case l28 => k_is)
    (case c28 => k_is)
    (case k28 => k_is)
    (case a29 => k_is)
    (case l29 => k_is)
    (case c29 => k_is)
    (case k29 => k_is)
    (case a30 => k_is)
    (case l30 => k_is)
    (case c30 => k_is)
    (case k30 => k_is)
    (case a31 => k_is)
    (case l31 => k_is)
    (case c31 => k_is)
    (case k31 => k_is)
    (case a32 => k_is)
    (case l32 => k_is)
    (case c32 => k_is)
    (case k32 => k_is)
    (case a33 => k_is)
    (case l33 => k_is)
    (case c33 => k_is)
    (case k33 => k_is)
    (case a34 => k_is)
    (case l34 => k_is)
    (case c34 => k_is)
    (case k34 => k_is)
    (case a35 => k_is)
    (case l35 => k_is)
    (case c35 => k_is)
    (case k35 => k_is)
    (case a36 => k_is)
    (case l36 => k_is)
    (case c36 => k_is)
    (case k36 => k_is)
    (case a37 => k_is)
    (case l37 => k_is)
    (case c37 => k_is)
    (case k37 => k_is)
    (case a38 => k_is)
    (case i38 => k_is)
    (case l38 => k_is)
    (case c38 => k_is)
    (case k38 => k_is)
    (case a39 => k_is)
    (case i39 => k_is)
    (case l39 => k_is)
    (case c39 => k_is)
    (case k39 => k_is)
    (case a40 => k_is)
    (case i40 => k_is)
    (case l40 => k_is)
    (case c40 => k_is)
    (case k40 => k_is)
    (case a41 => k_is)
    (case i41 => k_is)
    (case l41 => k_is)
    (case c41 => k_is)
    (case k41 => k_is)
    (case a42 => k_is)
    (case i42 => k_is)
    (case l42 => k_is)
    (case c42 => k_is)
    (case k42 => k_is)
    (case a43 => k_is)
    (case i43 => k_is)
    (case l43 => k_is)
    (case c43 => k_is)
    (case k43 => k_is)
    (case a44 => k_is)
    (case i44 => k_is)
    (case l44 => k_is)
    (case c44 => k_is)
    (case k44 => k_is)
    (case a45 => k_is)
    (case i45 => k_is)
    (case l45 => k_is)
    (case c45 => k_is)
    (case k45 => k_is)
    (case a46 => k_is)
    (case i46 => k_is)
    (case l46 => k_is)
    (case c46 => k_is)
    (case k46 => k_is)
    (case a47 => k_is)
    (case i47 => k_is)
    (case l47 => k_is)
    (case c47 => k_is)
    (case k47 => k_is)
    (case a48 => k_is)
    (case i48 => k_is)
    (case l48 => k_is)
    (case c48 => k_is)
    (case k48 => k_is)
    (case a49 => k_is)
    (case i49 => k_is)
    (case l49 => k_is)
    (case c49 => k_is)
    (case k49 => k_is)
    (case a50 => k_is)
    (case i50 => k_is)
    (case l50 => k_is)
    (case c50 => k_is)
    (case k50 => k_is)
    (case a51 => k_is)
    (case i51 => k_is)
    (case l51 => k_is)
    (case c51 => k_is)
    (case k51 => k_is)
    (case a52 => k_is)
    (case l52 => k_is)
    (case c52 => k_is)
    (case k52 => k_is)
    (case pg => k_is)
    (case hd => k_is)
    (case po => k_is)
    (case sa => k_is)
    (case mk => k_is)
    (case kc => k_is)
    (case n_length => k_is)
    (case n_looks => k_is)
    (case pg_Hand => k_is)
    (case hd_Hand => k_is)
    (case po_Hand => k_is)
    (case sa_Hand => k_is)
    (case mk_Hand => k_is)
    (case kc_Hand => k_is)
    (case nHand__dark => k_is)
    (case nHand__back => k_is)
    (case b_max => k_is)
    (case b_min => k_is)
    (case b_len => k_is)
    (case b_range => k_is)
    (case b_sorted => k_is)
    (case b_set => k_is)
    (case b_isinstance => k_is)
    (case b_list => k_is)
    (case b_tuple => k_is)
    (case b_bool => k_is)
    (case b_int => k_is)
    (case b_str => k_is)
    (case b_all => k_is)
    (case b_reversed => k_is)
    (case b_super => k_is)
    (case b_ValueError => k_is)
    (case gcFIGURES => k_is)
    (case gcMOST_FIGURES => k_is)
    (case gSLOW => k_is)
    (case gFAST => k_is)
    (case gW => k_is)
    (case lW => k_is)
    (case keys => k_keys)
    (case low => decide +kernel)
    (case wS => k_is)
    (case wF => k_is)
    (case lS => k_is)
    (case lF => k_is)
    (case gL => k_is)
    (case lL => k_is)
    (case xg0 => k_is)
    (case xL0 => k_is)
    (case xbv0 => decide +kernel)
    (case xsa0 => k_is)
    (case xnw0 => k_is)
    (case xsv0 => k_is)
    (case xsu0 => ks_is)
    (case xop0 => k_is)
    (case xme0 => k_is)
    (case xin0 => k_is)
    (case xty0 => k_is)
    (case xkc0 => k_is)
    (case xex0 => k_is)
    (case xtc0 => k_is)
    (case xic0 => k_is)
    (case xss0 => first | rfl | k_is)
    (case xto0 => first | rfl | decide +kernel)
    (case xl0 => k_is)
    (case xc0 => k_is)
    (case xlc0 => k_is)
    (case xld0 => k_is)
    (case xv0 => rfl)
    (case xfi0 => first | rfl | decide +kernel)
    (case xg1 => k_is)
    (case xL1 => k_is)
    (case xbv1 => decide +kernel)
    (case xsa1 => k_is)
    (case xnw1 => k_is)
    (case xsv1 => k_is)
    (case xsu1 => ks_is)
    (case xop1 => k_is)
    (case xme1 => k_is)
    (case xin1 => k_is)
    (case xty1 => k_is)
    (case xkc1 => k_is)
    (case xex1 => k_is)
    (case xtc1 => k_is)
    (case xic1 => k_is)
    (case xss1 => first | rfl | k_is)
    (case xto1 => first | rfl | decide +kernel)
    (case xl1 => k_is)
    (case xc1 => k_is)
    (case xlc1 => k_is)
    (case xld1 => k_is)
    (case xv1 => rfl)
    (case xfi1 => first | rfl | decide +kernel)
