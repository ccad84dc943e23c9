import PyProof.Rows.All
import Wide.All
import OpenK.AllK
import Wide.FinOn
import HandS.ForMost
import HandS.Wide
import HandS.Deep
import HandS.IsInst
import HandS.Strs
import HandS.Codes
import HandS.Gcd
import KE.SortData
import KE.DataMinMax
import HandS.SetFor
import HandS.TupSets
import HandS.SetKeys
import HandS.OwnEq
import KE.KSuper
import KE.KExcSuper
import HandS.Base
import HandS.Call
import HandS.Exc
import HandS.ExcInit
import HandS.Words
import KE.RegKSuper
import KE.KExcIs
import HandS.ExcField
import HandS.ExcValue
import HandS.Defaults
import HandS.MakeKwOnly
import HandS.ExcOwn
import HandS.TryOnly
import PyProof.NeKinds
import HandS.DeepEq
import HandS.Zip
import HandS.WideBits
import PyProof.Rows.RuleB_pow
import HandS.Conv
import HandS.WordsExc
import PySem.Challenge.RW_darkpace_k63_whole_histories_of_rounds
set_option Elab.async false
set_option linter.all false
set_option maxRecDepth 100000
set_option exponentiation.threshold 3000
set_option maxHeartbeats 16000000
/-! Rules of our own: data under a growing heap, sorted and max and min of data, set of ints, a written dict's item, a method called with a keyword. -/
namespace DP
open PySem PySem.Spec PyProof.Rows L2

theorem rooms {A : Around} {k : Nat} (hr : Room k A) : A.units + 65 < cLine := by have := hr.un; omega

theorem Same.rd {H H' : Hp} {a : Addr} {u : HO} (S : Same H H') (h : Rd H a u) : Rd H' a u := by
  rcases h with h | ⟨o, h⟩
  · exact Or.inl (S _ _ h)
  · exact Or.inr ⟨o, S _ _ h⟩
theorem Same.sqT {K : PySem.W.Frag} {H H' : Hp} {a : Addr} {xs : List V} (S : Same H H') (h : SqT K H a xs) : SqT K H' a xs := by
  rcases h with h | h
  · exact Or.inl (Same.rd S h)
  · exact Or.inr h
theorem Same.sqL {K : PySem.W.Frag} {H H' : Hp} {a : Addr} {xs : List V} (S : Same H H') (h : SqL K H a xs) : SqL K H' a xs := by
  rcases h with h | h
  · exact Or.inl (Same.rd S h)
  · exact Or.inr h
mutual
theorem dp_mono {K : PySem.W.Frag} {H H' : Hp} (S : Same H H') : ∀ (d : PyData) (v : V), Dp K H v d → Dp K H' v d
  | .none, _, h => by cases h; exact .non
  | .bool b, _, h => by cases h; exact .bl _
  | .int b, _, h => by cases h; exact .int _
  | .str b, _, h => by cases h; exact .str _
  | .list ds, _, h => by
    cases h with
    | lst s a => exact .lst (Same.sqL S s) (dpAll_mono S ds _ a)
  | .tuple ds, _, h => by
    cases h with
    | tup s a => exact .tup (Same.sqT S s) (dpAll_mono S ds _ a)
  | .dict _, _, h => by cases h
theorem dpAll_mono {K : PySem.W.Frag} {H H' : Hp} (S : Same H H') : ∀ (ds : List PyData) (vs : List V), DpAll K H vs ds → DpAll K H' vs ds
  | [], _, h => by cases h; exact .nil
  | d :: ds, _, h => by
    cases h with
    | cons a b => exact .cons (dp_mono S d _ a) (dpAll_mono S ds _ b)
end
section
variable {K : PySem.W.Frag} {H : Hp}
theorem dpAll_len : ∀ {vs : List V} {ds : List PyData}, DpAll K H vs ds → vs.length = ds.length
  | _, _, .nil => rfl
  | _, _, .cons _ t => by rw [List.length_cons, List.length_cons, dpAll_len t]
theorem dpAll_get : ∀ {vs : List V} {ds : List PyData} {i : Nat} {v : V}, DpAll K H vs ds → vs[i]? = some v → ∃ d, ds[i]? = some d ∧ Dp K H v d
  | _, _, _, _, .nil, e => by simp at e
  | _, _, 0, _, .cons r _, e => by simp at e; subst e; exact ⟨_, rfl, r⟩
  | _, _, i + 1, v, .cons _ t, e => by
    obtain ⟨d, h1, h2⟩ := dpAll_get (i := i) (v := v) t (by simpa using e)
    exact ⟨d, by simpa using h1, h2⟩
theorem dpAll_get' : ∀ {vs : List V} {ds : List PyData} {i : Nat} {d : PyData}, DpAll K H vs ds → ds[i]? = some d → ∃ v, vs[i]? = some v ∧ Dp K H v d
  | _, _, _, _, .nil, e => by simp at e
  | _, _, 0, _, .cons r _, e => by simp at e; subst e; exact ⟨_, rfl, r⟩
  | _, _, i + 1, v, .cons _ t, e => by
    obtain ⟨d, h1, h2⟩ := dpAll_get' (i := i) (d := v) t (by simpa using e)
    exact ⟨d, by simpa using h1, h2⟩
theorem dpAll_snoc : ∀ {vs : List V} {ds : List PyData} {v : V} {d : PyData}, DpAll K H vs ds → Dp K H v d → DpAll K H (vs ++ [v]) (ds ++ [d])
  | _, _, _, _, .nil, r => .cons r .nil
  | _, _, _, _, .cons q t, r => .cons q (dpAll_snoc t r)
theorem dpAll_app : ∀ {vs ws : List V} {ds es : List PyData}, DpAll K H vs ds → DpAll K H ws es → DpAll K H (vs ++ ws) (ds ++ es)
  | _, _, _, _, .nil, r => r
  | _, _, _, _, .cons q t, r => .cons q (dpAll_app t r)
theorem dpAll_ints : ∀ ns : List Int, DpAll K H (ns.map V.int) (ns.map PyData.int)
  | [] => .nil
  | n :: ns => .cons (.int n) (dpAll_ints ns)
theorem dpAll_int : ∀ {vs : List V} {ns : List Int}, DpAll K H vs (ns.map PyData.int) → vs = ns.map V.int
  | _, [], h => by cases h; rfl
  | _, n :: ns, h => by
    have h' : DpAll K H _ (PyData.int n :: ns.map PyData.int) := h
    cases h' with
    | cons a b =>
      cases a
      rw [dpAll_int b]; rfl
theorem same_upd {H : Hp} {p : Addr} {o : HO} (h : H p = none) : Same H (upd H p o) := fun b u e => by rw [upd_ne (ne_of_none e h)]; exact e
end

section
variable {X : Cx}
/-- sorted(xs): xs a list of alike data, of any length; P is what is known of each -/
def rSortD (K : PySem.W.Frag) {β : Type} (enc : β → PyData) : List V → Hp → VK → Prop := fun vs H Q => ∃ (a : Addr) (xs : List V) (bs : List β), vs = [V.ref a] ∧ SqL K H a xs ∧ DpAll K H xs (bs.map enc) ∧
  PySem.W.AllAlike (bs.map enc) ∧ PySem.W.Sortable (bs.map enc) ∧ (∀ b ∈ bs, (enc b).depth ≤ 60) ∧
  ∀ (p : Addr) (ys : List V) H', H p = none → Same H H' → H' p = some (.lst ys) → DpAll K H' ys ((bs.mergeSort (PySem.W.dataLe false enc)).map enc) → Q (.ref p) H'
theorem each_vals {K : PySem.W.Frag} {H : Hp} {β : Type} {enc : β → PyData} : ∀ {xs : List V} {us : List Value} {bs : List β}, Vals xs us → DpAll K H xs (bs.map enc) → PySem.W.EachIs (fun u b => ∃ x, RelV x u ∧ Dp K H x (enc b)) us bs
  | _, _, [], r, d => by
    have d' : DpAll K H _ [] := d
    cases d'
    cases r
    exact .nil
  | _, _, b :: bs, r, d => by
    have d' : DpAll K H _ (enc b :: bs.map enc) := d
    cases d' with
    | cons d1 d2 =>
      cases r with
      | cons r1 r2 => exact .cons ⟨_, r1, d1⟩ (each_vals r2 d2)
theorem vals_each {K : PySem.W.Frag} {H : Hp} {β : Type} {enc : β → PyData} : ∀ {us : List Value} {bs : List β}, PySem.W.EachIs (fun u b => ∃ x, RelV x u ∧ Dp K H x (enc b)) us bs → ∃ xs, Vals xs us ∧ DpAll K H xs (bs.map enc)
  | _, _, .nil => ⟨[], .nil, .nil⟩
  | _, _, .cons ⟨x, r, d⟩ t => by
    obtain ⟨xs, h1, h2⟩ := vals_each t
    exact ⟨x :: xs, .cons r h1, .cons d h2⟩
theorem cr_sortD {β : Type} (enc : β → PyData) (hu : X.A.units + 65 < cLine) : CallR X (.builtin "sorted") (rSortD X.K enc) := by
  intro pins s σ H vs us Q I r h
  obtain ⟨a, xs, bs, rfl, hs, hd, hal, hk, hdep, q⟩ := h
  obtain ⟨its, rv, hl, hz⟩ := I.list hs
  rw [Vals.ref1 r]
  have hlen : its.length = bs.length := by rw [← rv.length, dpAll_len hd, List.length_map]
  have e := each_vals rv hd
  obtain ⟨as, ra⟩ := Dp.readsAll I _ _ _ hd rv
  refine PySem.W.sorted_data (enc := enc) (bs := bs) (vs := its) hl.isList e (PySem.W.readsAll_each enc ra) hal hk (by rw [← hlen, ← rv.length]; exact hz) (fun b hb => ?_) fun out ho eo => ?_
  · have := hdep b hb
    omega
  · obtain ⟨ys, h1, h2⟩ := vals_each eo
    obtain ⟨ep, he'⟩ := PyProof.Rows.sortedAll_at s.heap its (List.toArray out)
    have hn : H (s.heap.objs.size + 1) = none := I.hok.fresh (Nat.le_succ _)
    have hyl : ys.length ≤ sizeLine := by
      rw [h1.length, ho, ← hlen, ← rv.length]; exact hz
    refine ⟨.ref _, upd H (s.heap.objs.size + 1) (.lst ys), I.laid (t' := s.toks) (fun _ _ => PyProof.Rows.sortedAll_old) (Nat.le_succ _) ⟨hyl, out, ep, h1, he'⟩, rfl, q _ ys _ hn (same_upd hn) upd_same ?_⟩
    exact dpAll_mono (same_upd hn) _ _ h2

/-- max(xs), min(xs): xs a list of alike data -/
def rBestD (K : PySem.W.Frag) (best : PyData → List PyData → PyData) : List V → Hp → VK → Prop := fun vs H Q => ∃ (a : Addr) (xs : List V) (d : PyData) (ds : List PyData), vs = [V.ref a] ∧ SqL K H a xs ∧ DpAll K H xs (d :: ds) ∧
  PySem.W.AlikeAll (d :: ds) ∧ PyData.canLayAll0 (d :: ds) = true ∧ PyData.depthAll (d :: ds) ≤ 60 ∧
  ∀ (x : V), Dp K H x (best d ds) → Q x H
theorem best_end {pins : List (Addr × Obj)} {s : Shared} {σ : L2.St} {H : Hp} {Q : VK} (I : Inv X pins σ H s) {xs : List V} {its : List Value} {as : List Addr} {ds : List PyData} (rv : Vals xs its) (hd : DpAll X.K H xs ds) (ra : ReadsAll s.heap its ds as) (hc : PyData.canLayAll0 ds = true) {i : Nat} {v : Value} {h' : Heap} {tk : Nat} {bs : List Addr} {e : PyData} (hi : its.toArray[i]? = some v)
    (hr : Reads h' v e bs) (he : e.canLay0 = true) (hk : ∀ b o, s.heap.get? b = some o → h'.get? b = some o) (q : ∀ x, Dp X.K H x e → Q x H) : EP X pins σ Q v { heap := h', gens := s.gens, drawn := s.drawn, toks := tk, os := s.os } := by
  have hi' : its[i]? = some v := by simpa using hi
  have hlt : i < its.length := by
    rcases Nat.lt_or_ge i its.length with h | h
    · exact h
    · rw [List.getElem?_eq_none h] at hi'; cases hi'
  obtain ⟨x, hx⟩ : ∃ x, xs[i]? = some x := ⟨xs[i]'(by rw [rv.length]; exact hlt), List.getElem?_eq_getElem _⟩
  obtain ⟨u, hu, ru⟩ := rv.get hx
  have euv : u = v := Option.some.inj (hu.symm.trans hi')
  subst euv
  obtain ⟨d, hdi, hdx⟩ := dpAll_get hd hx
  obtain ⟨as', rx⟩ := Dp.reads I d x u hdx ru
  have rx' : Reads h' u d as' := PyProof.Rows.Reads.keeps hk rx
  have hcd : d.canLay0 = true := by
    have : ∀ (ds : List PyData) (i : Nat), PyData.canLayAll0 ds = true → ds[i]? = some d → d.canLay0 = true := by
      intro ds
      induction ds with
      | nil => intro i _ h; simp at h
      | cons a r ih =>
        intro i h1 h2
        rw [PyData.canLayAll0, Bool.and_eq_true] at h1
        cases i with
        | zero => simp at h2; rw [← h2]; exact h1.1
        | succ i => exact ih i h1.2 (by simpa using h2)
    exact this ds i hc hdi
  have e1 := SeqAt.readOf_eq hcd rx'
  have e2 := SeqAt.readOf_eq he hr
  have ed : d = e := e1.symm.trans e2
  subst ed
  exact ⟨x, H, I.kept hk, ru, q x hdx⟩
theorem canLay_fold (f : PyData → PyData → Bool) : ∀ (ds : List PyData) (d : PyData), PyData.canLayAll0 (d :: ds) = true → (ds.foldl (fun a y => if f a y then y else a) d).canLay0 = true
  | [], d, h => by
    rw [PyData.canLayAll0, Bool.and_eq_true] at h
    exact h.1
  | e :: ds, d, h => by
    rw [PyData.canLayAll0, PyData.canLayAll0, Bool.and_eq_true, Bool.and_eq_true] at h
    rw [List.foldl_cons]
    refine canLay_fold f ds _ ?_
    rw [PyData.canLayAll0, Bool.and_eq_true]
    refine ⟨?_, h.2.2⟩
    split
    · exact h.2.1
    · exact h.1
theorem cr_maxD (hc : X.calm = true) (hu : X.A.units + 65 < cLine) : CallR X (.builtin "max") (rBestD X.K PySem.W.maxD) := by
  intro pins s σ H vs us Q I r h
  obtain ⟨a, xs, d, ds, rfl, hs, hd, hal, hl0, hdep, q⟩ := h
  obtain ⟨its, rv, hl, hz⟩ := I.list hs
  rw [Vals.ref1 r]
  obtain ⟨as, ra⟩ := Dp.readsAll I _ _ _ hd rv
  exact PySem.W.max_list_data (I.ok.hd hc) hl.isList (by simpa using ra) hal (by omega) fun i v h' tk bs hi hr hk => best_end I rv hd ra hl0 hi hr (canLay_fold _ ds d hl0) hk q
theorem cr_minD (hc : X.calm = true) (hu : X.A.units + 65 < cLine) : CallR X (.builtin "min") (rBestD X.K PySem.W.minD) := by
  intro pins s σ H vs us Q I r h
  obtain ⟨a, xs, d, ds, rfl, hs, hd, hal, hl0, hdep, q⟩ := h
  obtain ⟨its, rv, hl, hz⟩ := I.list hs
  rw [Vals.ref1 r]
  obtain ⟨as, ra⟩ := Dp.readsAll I _ _ _ hd rv
  exact PySem.W.min_list_data (I.ok.hd hc) hl.isList (by simpa using ra) hal (by omega) fun i v h' tk bs hi hr hk => best_end I rv hd ra hl0 hi hr (canLay_fold (fun a y => PySem.W.dataLt y a) ds d hl0) hk q
end
end DP
/-! set(xs) of a list of whole numbers, sorted then. -/
namespace DP
open PySem PySem.Spec PyProof.Rows L2
/-- a fresh set -/
abbrev newSet (w : World) : Obj := { cls := .type "set", dict := none, data := .set #[] 0 (.fresh 0 0 (!w.params.followText "set-order")) }
theorem set_of_ints {P : Program} {w : World} {A : Around} {E : Value → Shared → Prop} {s : Shared} {l : Addr} {items : Array Value} (ns : List Int) {Q : Value → Shared → Prop} (hh : A.handled = none) (hl : s.heap.IsList l items) (hit : IntsAre items.toList ns) (hb : ns.length + 1 < scanBound)
    (h : ∀ (h' : Heap) (tk c : Nat), SetR w h' s.heap.objs.size (fun j => decide (j ∈ ns)) c → c ≤ ns.length → (∀ b o, s.heap.get? b = some o → h'.get? b = some o) → Q (.ref s.heap.objs.size) { s with heap := h', toks := tk }) :
    wpAny (model P w) A (call (.type "set") [.ref l]) Q E s := by
  have hisz : items.size = ns.length := (Array.length_toList (xs := items)).symm.trans (IntsAre.length hit)
  have C := F.called_set
  obtain ⟨c, tl, hmro⟩ := C.mro
  have hmade := C.made; have hsub := C.sub
  refine wpAny_call (codeAny_of_tree ?_)
  show wpAny _ _ (callAny (.type "set") _) _ _ _
  refine wpAny_pure ⟨Code.quiet_builtin _ (by decide +kernel), codeAny_builtin F.entry_type_call ?_⟩
  rw [Around.under_plain (weight_type_call_type "set" [.ref l] []) rfl]
  have h1 := C.notType; have h2 := C.canCreate
  have hct := F.typeCall_set_1 (.ref l)
  repeat (any_goals (first | assumption | wp_step))
  refine codeAny_mono (code_set_led1 (.ref l) (E := E) (Q₁ := fun obj s₁ => obj = .ref s.heap.objs.size ∧ s₁ = { s with heap := s.heap.push (newSet w) }) ⟨rfl, rfl⟩) fun r s₁ hr => ?_
  cases r with
  | error e => exact hr
  | ok fl =>
  cases fl with
  | ret obj =>
    obtain ⟨rfl, rfl⟩ := hr
    have hS : (s.heap.push (newSet w)).get? s.heap.objs.size = some (newSet w) := Heap.get?_push_size _ rfl
    have hT : Shared.TypeIs { s with heap := s.heap.push (newSet w) } (.ref s.heap.objs.size) "set" := ⟨_, hS, rfl⟩
    have hli := C.init.lookup; have hbi := C.init.bind (.ref s.heap.objs.size)
    repeat (any_goals (first | assumption | wp_step))
    refine codeAny_mono (codeAny_call_builtin (R := wants (fun r s₂ => r = .none ∧ ∃ h' tk c, s₂ = { s with heap := h', toks := tk } ∧ SetR w h' s.heap.objs.size (fun j => decide (j ∈ ns)) c ∧ c ≤ ns.length ∧ ∀ b o, s.heap.get? b = some o → h'.get? b = some o) E) C.init.plain F.entry_set_init (check_set_init_1 hT ?_)) fun r₂ s₂ hr₂ => ?_
    · obtain ⟨⟨ocls, odict, odata, oslots⟩, hol, hcl, nl, hdl⟩ := hl
      simp only at hcl hdl
      subst hcl hdl
      have hol' : (s.heap.push (newSet w)).get? l = some { cls := .type "list", dict := odict, data := .seq items nl, slots := oslots } := Heap.get?_push_of_some _ hol
      have hsls := F.sub_list_set; have hslf := F.sub_list_frozenset
      have hne : (Value.type "list" == Value.type "dict") = false := by decide
      have hl1 : (s.heap.push (newSet w)).IsList l items := ⟨_, hol', rfl, nl, rfl⟩
      unfold Builtin.«set.__init__» noKeywords Builtin.Frozenset.updateFrom
      generalize hPI : pyIter = PI
      wp_walk
      subst hPI
      refine wpAny_pyIter_list hl1 (wpAny_bind (wpAny_runValue ?_))
      have hlS : l < s.heap.objs.size := Heap.lt_size hol
      have hh3 : A.in1.in1.in1.handled = none := by simp [hh]
      have hz : (s.heap.push (newSet w)).objs.size = s.heap.objs.size + 1 := Heap.size_push ..
      have hneI : l ≠ (s.heap.push (newSet w)).objs.size := by rw [hz]; exact Nat.ne_of_lt (Nat.lt_succ_of_lt hlS)
      have hSf : s.heap.objs.size ∉ [(s.heap.push (newSet w)).objs.size, l] := by
        rw [hz]; simp only [List.mem_cons, List.not_mem_nil, or_false, not_or]; exact ⟨Nat.ne_of_lt (Nat.lt_succ_self _), Nat.ne_of_gt hlS⟩
      have hval : ∀ (i : Nat) (v : Value), items[i]? = some v → ∃ k t, ns[i]? = some k ∧ v = .int k t := fun i v hv => by
        have hi : i < ns.length := hisz ▸ (Array.getElem?_eq_some_iff.mp hv).1
        obtain ⟨t, e⟩ := PyProof.Rows.IntsAre.int_at hit i v (by rw [Array.getElem?_toList]; exact hv)
        exact ⟨ns[i], t, List.getElem?_eq_getElem hi, by rw [e, List.getD_eq_getElem?_getD, List.getElem?_eq_getElem hi]; rfl⟩
      refine set_update_ints ((Walks.list hh3 _ l hneI items).toS) s.heap.objs.size hSf ns hisz hb hval (items.size - 0) 0 _ (by omega) (Nat.zero_le _) ⟨⟨_, Heap.get?_push_size _ rfl, rfl, rfl⟩, (hl1.push _)⟩ ?z0 ?zR
      case z0 => exact ⟨0, Nat.le_refl 0, setR_new_at (Heap.get?_push_of_some _ hS)⟩
      case zR =>
        intro s' c' hm hc' hS'
        obtain ⟨h', g2, d', tk', os'⟩ := s'
        have eg : g2 = s.gens := hm.gens
        have ed : d' = s.drawn := hm.drawn
        have eo : os' = s.os := hm.os
        subst eg ed eo
        rw [hisz] at hc'
        refine wpAny_pure (?_ : wpAny _ _ (ret Value.none) _ _ _)
        refine wpAny_pure ⟨rfl, h', tk', c', rfl, hS', hc', fun b o e => ?_⟩
        have hb0 : b < s.heap.objs.size := Heap.lt_size e
        refine hm.heap b o ?_ (Heap.get?_push_of_some _ (Heap.get?_push_of_some _ e))
        simp only [List.mem_cons, List.not_mem_nil, or_false, not_or]
        exact ⟨Nat.ne_of_lt hb0, by rw [hz]; exact Nat.ne_of_lt (Nat.lt_succ_of_lt hb0)⟩
    · cases r₂ with
      | error e => exact hr₂
      | ok fl₂ =>
      cases fl₂ with
      | ret r =>
        obtain ⟨rfl, h', tk, c', rfl, hS', hc', hk'⟩ := hr₂
        repeat (any_goals (first | assumption | wp_step))
        exact h _ _ _ hS' hc' hk'
      | _ => exact hr₂.elim
  | _ => exact hr.elim
section
variable {X : Cx}
/-- set(xs), xs a list of whole numbers -/
def rSetI (K : PySem.W.Frag) (w : World) : List V → Hp → VK → Prop := fun vs H Q => ∃ (l : Addr) (ns : List Int), vs = [V.ref l] ∧ SqL K H l (ns.map V.int) ∧ ns.length ≤ 60 ∧
  ∀ (a : Addr) (c : Nat), c ≤ ns.length → H a = none → Q (.ref a) (upd H a (SetO w a (fun j => decide (j ∈ ns)) c))
theorem cr_setI (hc : X.calm = true) : CallR X (.type "set") (rSetI X.K X.w) := by
  intro pins s σ H vs us Q I r h
  obtain ⟨l, ns, rfl, hs, hlen, q⟩ := h
  obtain ⟨its, rv, pl, hz⟩ := I.list hs
  rw [Vals.ref1 r]
  have hi : IntsAre its.toArray.toList ns := by simpa using rv.ints
  refine set_of_ints ns (I.ok.hd hc) pl.isList hi (by unfold scanBound; omega) fun h' tk c R hcl hk => ?_
  exact ⟨.ref _, upd H s.heap.objs.size (SetO X.w s.heap.objs.size (fun j => decide (j ∈ ns)) c), I.laid (t' := tk) hk (Nat.le_refl _) (setO_new R), rfl, q _ c hcl (I.hok.fresh (Nat.le_refl _))⟩
/-- d[k], d a written dict -/
theorem ix_kd {d : Addr} {es : Array DictEntry} {n : Nat} (D : KDict X.K X.w d es n) : IxR X (fun x y H Q => ∃ (z : Str) (u0 : Value) (v0 : V), x = .ref d ∧ y = .str z ∧ PySem.W.nsIn X.K d z = some (some u0) ∧ RelV v0 u0 ∧ Q v0 H) := by
  intro value slice pins s σ H x y v u Q I rx ry h hs
  obtain ⟨z, u0, v0, ex, ey, e, r, q⟩ := h
  subst ex ey
  cases rx
  obtain ⟨t, rfl⟩ := ry
  have fin : EP X pins σ Q u0 s := ⟨v0, H, I, r, q⟩
  exact subscriptTail_builtinR (x := u0) (kd_type D I) PySem.F.slot_dict_getitem.lookup
    (wpAny_getItem_of (PySem.strKind_is X.prog X.w z t) (PySem.W.mapOf_K (prog := X.prog) I.kIn D.at_ D.lit) (PySem.W.find_K D.at_ e) ⟨rfl, ⟨v0, H, I.tok _, r, q⟩⟩) hs
end
end DP
/-! The rules with the written part named, for comprehensions; a method called with keywords. -/
namespace DP
open PySem PySem.Spec PyProof.Rows L2
section
variable {X : Cx} {K : PySem.W.Frag}
theorem ixT (h : X.K = K := by rfl) : IxR X (rIxT K) := by subst h; exact ix_tup
theorem ixL (h : X.K = K := by rfl) : IxR X (rIxL K) := by subst h; exact ix_list
theorem inS (h : X.K = K := by rfl) : OpR X (compareOp .In) (rIn K false) := by subst h; exact op_in_seq
theorem notInS (h : X.K = K := by rfl) : OpR X (compareOp .NotIn) (rIn K true) := by subst h; exact op_notIn_seq
theorem eqDK (hu : X.A.units + 64 < cLine) (h : X.K = K := by rfl) : OpR X (compareOp .Eq) (rEqD K) := by subst h; exact op_eqD hu
theorem neDK (hu : X.A.units + 64 < cLine) (h : X.K = K := by rfl) : OpR X (compareOp .NotEq) (rNeD K) := by subst h; exact op_neD hu
theorem inDK (hu : X.A.units + 65 < cLine) (h : X.K = K := by rfl) : OpR X (compareOp .In) (rInD K) := by subst h; exact op_inD hu
theorem notInDK (hu : X.A.units + 65 < cLine) (h : X.K = K := by rfl) : OpR X (compareOp .NotIn) (rNotInD K) := by subst h; exact op_notInD hu
def rLenK (K : PySem.W.Frag) : List V → Hp → VK → Prop := fun xs H Q => ∃ p ys, xs = [V.ref p] ∧ (SqL K H p ys ∨ SqT K H p ys) ∧ Q (.int ys.length) H
theorem lenK (h : X.K = K := by rfl) : CallR X (.builtin "len") (rLenK K) := by subst h; exact call_len_seq
def rListK (K : PySem.W.Frag) : List V → Hp → VK → Prop := fun xs H Q => ∃ p ys, xs = [V.ref p] ∧ (SqL K H p ys ∨ SqT K H p ys) ∧ ∀ l, H l = none → Q (.ref l) (upd H l (.lst ys))
theorem listK (h : X.K = K := by rfl) : CallR X (.type "list") (rListK K) := by subst h; exact call_list_of
theorem maxK (hc : X.calm = true) (h : X.K = K := by rfl) : CallR X (.builtin "max") (rMax K) := by subst h; exact cr_max hc
theorem minK (hc : X.calm = true) (h : X.K = K := by rfl) : CallR X (.builtin "min") (rMin K) := by subst h; exact cr_min hc
theorem maxDK (hc : X.calm = true) (hu : X.A.units + 65 < cLine) (h : X.K = K := by rfl) : CallR X (.builtin "max") (rBestD K PySem.W.maxD) := by subst h; exact cr_maxD hc hu
theorem minDK (hc : X.calm = true) (hu : X.A.units + 65 < cLine) (h : X.K = K := by rfl) : CallR X (.builtin "min") (rBestD K PySem.W.minD) := by subst h; exact cr_minD hc hu
theorem sortK (h : X.K = K := by rfl) : CallR X (.builtin "sorted") (rSorted K) := by subst h; exact cr_sorted
theorem sortDK {β : Type} (enc : β → PyData) (hu : X.A.units + 65 < cLine) (h : X.K = K := by rfl) : CallR X (.builtin "sorted") (rSortD K enc) := by subst h; exact cr_sortD enc hu
theorem setIK {w : World} (hc : X.calm = true) (h : X.K = K := by rfl) (hw : X.w = w := by rfl) : CallR X (.type "set") (rSetI K w) := by subst h hw; exact cr_setI hc
theorem sortedSetK {w : World} (hc : X.calm = true) (hw : X.w = w := by rfl) : CallR X (.builtin "sorted") (rSortedSet w) := by subst hw; exact cr_sortedSet hc
theorem slL (h : X.K = K := by rfl) : SlR X (rSlL K) := by subst h; exact sl_list
theorem isiK (h : X.K = K := by rfl) : CallR X (.builtin "isinstance") (rIsi K) := by subst h; exact call_isi
theorem fldK {o : Expr} {ta : TE} {f : Str} {pos : Pos} (he : PE X o ta) (hb : attributeBase o f X.env (eval o X.env) = eval o X.env := by rfl) (h : X.K = K := by rfl) : PE X (.Attribute o f pos) (tFld K ta f) := by subst h; exact pe_fld he hb
theorem tupK {es : List Expr} {k : Nat} {t : TGs} {n : Nat} {pos : Pos} (hc : X.calm = true) (h1 : PGs X es t) (hn : (assignEach es X.env).length = n := by rfl) (hst : (assignEach es X.env).findIdx? (·.1) = none := by rfl) (h : X.K = K := by rfl) :
    PG X (.Tuple es k pos) (gTup K n t) := by subst h; exact pg_tup hc h1 hn hst
end
section
variable {X : Cx} {CX : CXT} {k : Nat} {f C : Addr} {fd : FuncData} {ps ks : List Str} {sp : Sp} {E : XK} {m : Str} {pos apos : Pos} {o : Expr} {kws : List Keyword} {ta : TE} {tk : TA} {g : List Value → List Value → List Value} {gV : List V → List V → List V}
/-- o.m(k = v, ..) -/
def tMethK (C : Addr) (m : Str) (sp : Sp) (gV : List V → List V → List V) (E : XK) (ta : TE) (tk : TA) : TE := fun σ H Q => ta σ H fun x H1 => ∃ a dx fs, x = .ref a ∧ H1 a = some (.ins C dx fs) ∧ fs.lookup m = none ∧ tk σ H1 fun zs H2 => sp (gV [.ref a] zs) H2 Q E
theorem pe_methK0 {pl : Sem Bool} (he : PE X o ta) (c : Cls X.K C) (hm : Meth X.K C m f) (F : FnOk X.prog X.w X.K X.mg X.base CX k f fd ps sp) (hr : Room k X.A) (hb : KBinds X.K fd ps ks g gV) (hx : Passes CX X E) (hkw : PK X kws tk)
    (hall : (backToKw pos (keywordEach kws X.env)).all (·.1.isSome) = true := by rfl) (hks : (backToKw pos (keywordEach kws X.env)).filterMap (·.1) = ks := by rfl)
    (hpl : ((backTo pos (starEach [] X.env)).any (·.1) || (backToKw pos (keywordEach kws X.env)).any (·.1.isNone)) = false := by rfl)
    (ht : eval (.Call (.Attribute o m apos) [] kws pos) X.env = (do
      let ov ← eval o X.env
      standAt apos.atName
      let (f, first) ← holding [ov] (getMethod ov m pl)
      callWith pos f first (backTo pos (starEach [] X.env)) (backToKw pos (keywordEach kws X.env))) := by rfl) :
    PE X (.Call (.Attribute o m apos) [] kws pos) (tMethK C m sp gV E ta tk) := by
  refine ⟨fun pins s σ H Q I h => ?_⟩
  refine PySem.W.methodCall_KW (pl := pl) (thn (he.run pins s σ H _ I h) fun u s1 ⟨x, H1, I1, rx, a, dx, fs, ex, ea, l, q⟩ => ?_) ht
  subst ex
  obtain rfl : u = Value.ref a := rx
  refine getmeth_ok I1 ea c hm l ?_
  refine PySem.W.callWith_KW0 (first := [.ref a]) (h₀ := X.base) I.ok.mod.kin hm.kp hall ?_ hpl
  refine thn (hkw.run pos pins s1 σ H1 _ I1 q) fun ws s2 ⟨zs, H2, I2, rz, q2⟩ => ⟨I2.kIn, ?_⟩
  rw [hks]
  exact run_fnk (us := [.ref a]) (vs := [.ref a]) F hr hb hx I2 (.cons rfl .nil) rz q2
end
/-- one positional value, one keyword -/
def g11 {α : Type} : List α → List α → List α
  | [a], [b] => [a, b]
  | _, _ => []
theorem g11_rel {vs : List V} {us : List Value} {zs : List V} {ws : List Value} (r : Vals vs us) (q : Vals zs ws) : Vals (g11 vs zs) (g11 us ws) := by
  cases r with
  | nil => exact .nil
  | cons a t =>
    cases t with
    | cons _ _ => exact .nil
    | nil =>
      cases q with
      | nil => exact .nil
      | cons b t =>
        cases t with
        | cons _ _ => exact .nil
        | nil => exact .cons a (.cons b .nil)
end DP
/-! A set of tuples whose parts are plain (whole numbers, texts), made of a list and sorted: over any kind of plain parts. -/
namespace SD
open PySem PySem.Spec PyProof.Rows L2
section
variable {P : Program} {w : World} {κ : Type} [DecidableEq κ] {kn : KeyKind P w κ} {A : Around} {E : Value → Shared → Prop} {s : Shared}
/-- parts are no objects -/
def Plain (kn : KeyKind P w κ) : Prop := ∀ k v, kn.is k v = true → v.scannable = true
abbrev TupAt (kn : KeyKind P w κ) (h : Heap) (p : Addr × List κ) : Prop := IsTupleKey kn h p.2 p.1
abbrev hsh (kn : KeyKind P w κ) (k : List κ) : Int := tupleKeyHash kn k
theorem parts (pl : Plain kn) : ∀ {k : List κ} {vs : List Value}, ItemsAre kn k vs → ∀ v ∈ vs, v.scannable = true
  | _, _, .nil, v, h => by cases h
  | _, _, .cons a t, v, h => by
    rcases List.mem_cons.mp h with e | h
    · rw [e]; exact pl _ _ a
    · exact parts pl t v h
theorem no_class1 (n : Nat) {v : Value} (h : v.scannable = true) : ofAClassStatement n v = pure false := by
  cases n <;> cases v <;> simp_all [Value.scannable, ofAClassStatement]
theorem no_class (pl : Plain kn) {b : Addr} {k : List κ} {Q : Bool → Shared → Prop} (hk : TupAt kn s.heap (b, k)) (q : Q false s) : wpAny (model P w) A (ofAClassStatement 8 (.ref b)) Q E s := by
  have ty := IsTupleKey.typeIs hk
  obtain ⟨o, items, n, ho, _, hd, hi⟩ := hk
  have hp := parts pl hi
  unfold ofAClassStatement
  refine wpAny_bind (wpAny_typeOf ty ?_)
  dsimp only
  simp only [show (("tuple" : String) == "tuple") = true by decide, if_true, Bool.not_true, Bool.false_eq_true, if_false]
  try refine wpAny_bind (wpAny_pure ?_)
  try simp only [Bool.not_true, Bool.false_eq_true, if_false]
  refine wpAny_bind (wpAny_seqItems ho hd ?_)
  dsimp only
  refine wpAny_bind ?_
  rw [← Array.forIn_toList]
  refine wpAny_forIn_list _ (fun rest r s2 => (r.1 = none ∧ s2 = s) ∧ ∀ v ∈ rest, v.scannable = true) _ (fun v rest r s2 hh => ?_) (fun r s2 hh => ?_) _ _ ⟨⟨rfl, rfl⟩, hp⟩
  · obtain ⟨⟨h1, rfl⟩, h2⟩ := hh
    rw [no_class1 _ (h2 v List.mem_cons_self)]
    refine wpAny_bind (wpAny_pure ?_)
    simp only [Bool.false_eq_true, if_false]
    exact wpAny_pure ⟨⟨rfl, rfl⟩, fun u hu => h2 u (List.mem_cons_of_mem _ hu)⟩
  · obtain ⟨⟨h1, rfl⟩, _⟩ := hh
    obtain ⟨r1, r2⟩ := r
    have h1' : r1 = none := h1
    subst h1'
    exact wpAny_pure q
theorem by_value (pl : Plain kn) {b : Addr} {k : List κ} {Q : Bool → Shared → Prop} (hk : TupAt kn s.heap (b, k)) (q : ∀ r, Q r s) : wpAny (model P w) A (hashByValue 8 (.ref b)) Q E s := by
  have ty := IsTupleKey.typeIs hk
  obtain ⟨o, items, n, ho, _, hd, hi⟩ := hk
  have hp := parts pl hi
  unfold hashByValue
  refine wpAny_bind (wpAny_specialOf ty F.slot_tuple_hash.lookup ?_)
  show wpAny _ _ (seqItems? (.ref b) >>= _) _ _ s
  refine wpAny_bind (wpAny_seqItems ho hd ?_)
  refine wpAny_bind ?_
  show wpAny _ _ (forIn items _ _) _ _ s
  rw [← Array.forIn_toList]
  refine wpAny_forIn_list _ (fun rest r s2 => s2 = s ∧ ∀ v ∈ rest, v.scannable = true) _ (fun v rest r s2 hh => ?_) (fun r s2 hh => ?_) _ _ ⟨rfl, hp⟩
  · obtain ⟨rfl, h2⟩ := hh
    rw [hashByValue_scannable _ (h2 v List.mem_cons_self)]
    refine wpAny_bind (wpAny_pure ?_)
    cases plainKind v
    · simp only [Bool.not_false, if_true]
      exact wpAny_pure (show wpAny _ _ (pure false) _ _ _ from wpAny_pure (q false))
    · simp only [Bool.not_true, Bool.false_eq_true, if_false]
      exact wpAny_pure ⟨rfl, fun u hu => h2 u (List.mem_cons_of_mem _ hu)⟩
  · obtain ⟨rfl, _⟩ := hh
    obtain ⟨r1, r2⟩ := r
    cases r1 with
    | none => exact wpAny_pure (q true)
    | some r => exact wpAny_pure (q r)
end
section
variable {P : Program} {w : World} {κ : Type} [DecidableEq κ] {kn : KeyKind P w κ} {A : Around} {E : Value → Shared → Prop} {s : Shared}
/-- looking for a tuple among tuples shows nothing -/
theorem unseen (pl : Plain kn) {b : Addr} {k : List κ} {Q : Bool → Shared → Prop} (hk : TupAt kn s.heap (b, k)) {ys : List Value} (hy : ∀ y ∈ ys, ∃ p : Addr × List κ, y = Value.ref p.1 ∧ TupAt kn s.heap p) (q : Q false s) :
    wpAny (model P w) A (searchCouldBeSeen (.ref b) ys) Q E s := by
  unfold searchCouldBeSeen
  refine wpAny_bind ?_
  refine wpAny_forIn_list _ (fun rest r s2 => (r.1 = none ∧ s2 = s) ∧ ∀ y ∈ rest, ∃ p : Addr × List κ, y = Value.ref p.1 ∧ TupAt kn s.heap p) _ (fun v rest r s2 hh => ?_) (fun r s2 hh => ?_) _ _ ⟨⟨rfl, rfl⟩, hy⟩
  · obtain ⟨⟨h1, rfl⟩, h2⟩ := hh
    obtain ⟨p, rfl, hp⟩ := h2 v List.mem_cons_self
    have more : ∀ y ∈ rest, ∃ p : Addr × List κ, y = Value.ref p.1 ∧ TupAt kn s2.heap p := fun u hu => h2 u (List.mem_cons_of_mem _ hu)
    dsimp only
    cases c : (b == p.1 || (carriedByValue (.ref b) && carriedByValue (.ref p.1))) with
    | true =>
      refine wp_if_pos rfl ?_
      exact wpAny_pure ⟨⟨rfl, rfl⟩, more⟩
    | false =>
      refine wp_if_neg Bool.false_ne_true ?_
      refine wpAny_bind (wpAny_eqIsQuiet_tuple hk ?_)
      simp only [Bool.not_true, Bool.false_eq_true, if_false]
      refine wpAny_bind (wpAny_eqIsQuiet_tuple hp ?_)
      simp only [Bool.not_true, Bool.false_eq_true, if_false]
      refine wpAny_bind (no_class pl hk ?_)
      simp only [Bool.false_eq_true, if_false]
      refine wpAny_bind (no_class pl hp ?_)
      simp only [Bool.false_eq_true, if_false]
      exact wpAny_pure ⟨⟨rfl, rfl⟩, more⟩
  · obtain ⟨⟨h1, rfl⟩, _⟩ := hh
    obtain ⟨r1, r2⟩ := r
    have h1' : r1 = none := h1
    subst h1'
    exact wpAny_pure q
/-- an entry's row -/
def row (kn : KeyKind P w κ) (p : Addr × List κ) : Int × Value := (hsh kn p.2, .ref p.1)
/-- the set at a has the tuples L -/
structure Tb (kn : KeyKind P w κ) (h : Heap) (a : Addr) (L : List (Addr × List κ)) (es : Array (Int × Value)) (ep : Nat) (t : SetTable) : Prop where
  obj : ∃ o, h.get? a = some o ∧ o.ExactSet ∧ o.data = .set es ep t
  rows : es.toList = L.map (row kn)
  tab : TabOk t (L.map fun p => hsh kn p.2)
  one : (L.map Prod.snd).Nodup
  led : w.params.followText "set-order" = true ∨ t.led = true
  room : L.length * 5 < t.mask * 3
  few : L.length < 64
def All (kn : KeyKind P w κ) (h : Heap) (L : List (Addr × List κ)) : Prop := ∀ p ∈ L, TupAt kn h p
variable {a : Addr} {L : List (Addr × List κ)} {es : Array (Int × Value)} {ep : Nat} {t : SetTable}
theorem rows_len {L : List (Addr × List κ)} {es : Array (Int × Value)} (h : es.toList = L.map (row kn)) : es.size = L.length := by
  have e := congrArg List.length h
  rwa [Array.length_toList, List.length_map] at e
theorem tab_len {t : SetTable} {L : List (Addr × List κ)} (T : TabOk t (L.map fun p => hsh kn p.2)) : t.place.size = L.length := by
  have e := T.sz
  rwa [List.length_map] at e
theorem fits_of {t : SetTable} {n : Nat} (h1 : t.place.size = n) (h2 : t.dummies = #[]) (h3 : n ≤ t.mask) : t.fits n = true := by
  unfold SetTable.fits SetTable.fill
  rw [h2, h1, Bool.and_eq_true, beq_iff_eq, decide_eq_true_eq]
  exact ⟨rfl, h3⟩
theorem Tb.fit (R : Tb kn s.heap a L es ep t) : t.fits es.size = true := by
  rw [rows_len R.rows]
  have h := R.room
  exact fits_of (tab_len R.tab) R.tab.dm (by omega)
theorem row_at {L : List (Addr × List κ)} {es : Array (Int × Value)} (h : es.toList = L.map (row kn)) {i : Nat} {p : Addr × List κ} (hp : L[i]? = some p) : es[i]? = some (hsh kn p.2, Value.ref p.1) := by
  rw [← Array.getElem?_toList, h, List.getElem?_map, hp]; rfl
theorem undumb (m : Nat) : ∀ (n : Nat) (p : SetTable.Probe), p.dummy = none → (nth m p n).dummy = none
  | 0, _, h => h
  | n + 1, p, h => undumb m n (adv m p) (by unfold adv; split <;> exact h)
abbrev from0 (m : Nat) (h : Int) : SetTable.Probe := runAt m (SetTable.bits h % (m + 1)) (SetTable.bits h)
/-- the search for x, from step c of its way on -/
theorem seek (pl : Plain kn) (R : Tb kn s.heap a L es ep t) (R2 : All kn s.heap L) {x : Addr} {k : List κ} (hx : TupAt kn s.heap (x, k)) (hu : A.units < cLine) {n : Nat} (hn : n < 10 * SetTable.turns t.mask)
    (free : way t.mask (hsh kn k) n ∉ t.place.toList) (full : ∀ c, c < n → way t.mask (hsh kn k) c ∈ t.place.toList) {Q : SetFound → Shared → Prop} (yes : k ∈ L.map Prod.snd → Q (.there none) s)
    (no : k ∉ L.map Prod.snd → Q (.free (way t.mask (hsh kn k) n) false) s) :
    ∀ (f c : Nat) (stand : Option SetTable.Probe), stand.getD (t.probeStart (hsh kn k)) = nth t.mask (from0 t.mask (hsh kn k)) c → c ≤ n → n - c < f →
      (∀ (i : Nat) p, L[i]? = some p → p.2 = k → ∃ d, (c ≤ d ∧ d < n) ∧ t.place.toList[i]? = some (way t.mask (hsh kn k) d)) →
      wpAny (model P w) A (setSearchFrom a (.ref x) (hsh kn k) true f stand) Q E s := by
  intro f
  induction f with
  | zero => intro c stand _ _ z _; exact absurd z (Nat.not_lt_zero _)
  | succ f ih =>
    intro c stand hs hc hf left
    obtain ⟨o, ho, _, hd⟩ := R.obj
    have gw : ¬ t.gaveWay = true := by
      unfold SetTable.gaveWay
      rw [mask_odd R.tab.mok]; decide
    have shift : ∀ q, nth t.mask (nth t.mask (from0 t.mask (hsh kn k)) c) q = nth t.mask (from0 t.mask (hsh kn k)) (c + q) := fun q => (nth_add t.mask c _ q).symm
    have wj : ∀ q, (nth t.mask (nth t.mask (from0 t.mask (hsh kn k)) c) q).j = way t.mask (hsh kn k) (c + q) := fun q => congrArg SetTable.Probe.j (shift q)
    have hcn : c + (n - c) = n := by omega
    have at_ : ∀ (i : Nat) p, L[i]? = some p → ((es[i]?.map (·.1)).getD 0 : Int) = hsh kn p.2 := fun i p hp => by rw [row_at R.rows hp]; rfl
    rw [setSearchFrom_succ]
    refine wpAny_bind (wpAny_setState_of ho hd R.fit ?_)
    dsimp only
    refine wp_if_neg gw ?_
    try refine wpAny_bind (wpAny_pure ?_)
    rcases go_spec t R.tab.ris R.tab.dm (fun i => (es[i]?.map (·.1)).getD 0) (hsh kn k) (10 * SetTable.turns t.mask) (n - c) _ (undumb t.mask c _ rfl) (by omega) (fun q hq => by rw [wj]; exact full _ (by omega)) (by rw [wj, hcn]; exact free) with ⟨q, i, hq, hi, hh, nb, pr⟩ | ⟨nb, pr⟩
    · have pr2 : t.probe (fun i => (es[i]?.map (·.1)).getD 0) (hsh kn k) (stand.getD (t.probeStart (hsh kn k))) = some (.candidate (way t.mask (hsh kn k) (c + q)) i (nth t.mask (from0 t.mask (hsh kn k)) (c + (q + 1)))) := by
        rw [hs, ← wj, ← shift]; exact pr
      rw [pr2]
      dsimp only
      rw [wj] at hi
      have hil : i < L.length := by
        have h1 := (List.getElem?_eq_some_iff.mp hi).1
        rw [Array.length_toList, tab_len R.tab] at h1
        exact h1
      obtain ⟨p, hp⟩ : ∃ p, L[i]? = some p := ⟨_, List.getElem?_eq_getElem hil⟩
      have hpL := List.mem_of_getElem? hp
      have live : t.slot (way t.mask (hsh kn k) (c + q)) = .live i := slot_live R.tab.ris hi
      have cand : wpAny (model P w) A (searchRest a (.ref x) (hsh kn k) true f es t (way t.mask (hsh kn k) (c + q)) i (nth t.mask (from0 t.mask (hsh kn k)) (c + (q + 1)))) Q E s := by
        unfold searchRest
        rw [row_at R.rows hp]
        dsimp only
        refine wpAny_bind (wpAny_holding (wpAny_eqBool_tuple hu (R2 p hpL) hx ?_))
        refine wpAny_bind (wpAny_setState_of ho hd R.fit ?_)
        dsimp only
        by_cases same : p.2 = k
        · refine wp_if_pos (by simp [same]) (wpAny_pure (yes ?_))
          exact List.mem_map.mpr ⟨p, hpL, same⟩
        · refine wp_if_neg (by simp [same]) ?_
          try refine wpAny_bind (wpAny_pure ?_)
          rw [L2.sameMem]
          dsimp only
          simp only [if_true, live, row_at R.rows hp]
          refine wpAny_bind (wpAny_isSame_ref_self (wpAny_bind (wpAny_pure ?_)))
          simp only [if_true]
          refine wp_if_neg (by simp [same]) ?_
          refine ih (c + (q + 1)) _ rfl (by omega) (by omega) fun i2 p2 h2 hk2 => ?_
          obtain ⟨d, ⟨d1, d2⟩, d3⟩ := left i2 p2 h2 hk2
          refine ⟨d, ⟨?_, d2⟩, d3⟩
          rcases Nat.lt_trichotomy d (c + q) with z | z | z
          · refine absurd ((at_ i2 p2 h2).trans (congrArg (hsh kn) hk2)) (nb (d - c) i2 (by omega) ?_)
            rw [wj, show c + (d - c) = d by omega]; exact d3
          · rw [z] at d3
            have e := (slot_live R.tab.ris d3).symm.trans live
            injection e with e
            rw [e, hp] at h2
            exact absurd ((congrArg Prod.snd (Option.some.inj h2)).trans hk2) same
          · omega
      cases hl : t.led with
      | true =>
        refine wp_if_neg (by simp) ?_
        try refine wpAny_bind (wpAny_pure ?_)
        exact cand
      | false =>
        refine wp_if_pos (by simp) ?_
        refine wpAny_bind (unseen pl hx (fun y hy => ?_) ?_)
        · obtain ⟨e, he, rfl⟩ := List.mem_map.mp hy
          have he2 : e ∈ es.toList := by
            have h3 : e ∈ es ∧ e.1 = hsh kn k := by simpa using he
            simpa using h3.1
          rw [R.rows] at he2
          obtain ⟨p2, hp2, rfl⟩ := List.mem_map.mp he2
          exact ⟨p2, rfl, R2 p2 hp2⟩
        · refine wp_if_neg (by decide) ?_
          try refine wpAny_bind (wpAny_pure ?_)
          exact cand
    · have pr2 : t.probe (fun i => (es[i]?.map (·.1)).getD 0) (hsh kn k) (stand.getD (t.probeStart (hsh kn k))) = some (.empty (way t.mask (hsh kn k) n) none) := by
        have e : way t.mask (hsh kn k) n = (nth t.mask (nth t.mask (from0 t.mask (hsh kn k)) c) (n - c)).j := by rw [wj, hcn]
        rw [hs, e]; exact pr
      rw [pr2]
      dsimp only
      refine wpAny_pure (no fun hm => ?_)
      obtain ⟨p2, h2, hk2⟩ := List.mem_map.mp hm
      obtain ⟨i2, hi2⟩ := List.mem_iff_getElem?.mp h2
      obtain ⟨d, ⟨d1, d2⟩, d3⟩ := left i2 p2 hi2 hk2
      refine absurd ((at_ i2 p2 hi2).trans (congrArg (hsh kn) hk2)) (nb (d - c) i2 (by omega) ?_)
      rw [wj, show c + (d - c) = d by omega]; exact d3
theorem seek0 (pl : Plain kn) (R : Tb kn s.heap a L es ep t) (R2 : All kn s.heap L) {x : Addr} {k : List κ} (hx : TupAt kn s.heap (x, k)) (hu : A.units < cLine) {Q : SetFound → Shared → Prop} (yes : k ∈ L.map Prod.snd → Q (.there none) s)
    (no : ∀ n, k ∉ L.map Prod.snd → way t.mask (hsh kn k) n ∉ t.place.toList → (∀ c, c < n → way t.mask (hsh kn k) c ∈ t.place.toList) → Q (.free (way t.mask (hsh kn k) n) false) s) :
    wpAny (model P w) A (setSearch a (.ref x) (hsh kn k) true) Q E s := by
  have hr := R.room
  obtain ⟨n, hn, h1, h2⟩ := R.tab.first (by rw [List.length_map]; omega) (hsh kn k)
  have small : n < 100000 := by
    have : SetTable.turns t.mask ≤ 142 := by
      unfold SetTable.turns
      rcases R.tab.mok with e | e | e <;> omega
    omega
  unfold setSearch
  refine seek pl R R2 hx hu hn h1 h2 yes (fun c => no n c h1 h2) 100000 0 none rfl (Nat.zero_le _) (by omega) fun i p hp hk => ?_
  have hi : (L.map fun p => hsh kn p.2)[i]? = some (hsh kn k) := by rw [List.getElem?_map, hp, ← hk]; rfl
  have hil : i < t.place.toList.length := by
    rw [Array.length_toList, tab_len R.tab]
    exact (List.getElem?_eq_some_iff.mp hp).1
  have hj := List.getElem?_eq_getElem hil
  obtain ⟨d, hd, e⟩ := R.tab.before h1 hi hj
  exact ⟨d, ⟨Nat.zero_le _, hd⟩, by rw [hj, e]⟩
end
section
variable {P : Program} {w : World} {κ : Type} [DecidableEq κ] {kn : KeyKind P w κ} {A : Around} {E : Value → Shared → Prop} {s : Shared}
theorem tup_but {h h' : Heap} {p : Addr × List κ} {a : Addr} {o : Obj} {es : Array (Int × Value)} {ep : Nat} {t : SetTable} (hp : TupAt kn h p) (ho : h.get? a = some o) (hd : o.data = .set es ep t) (hs : Heap.SameBut a h h') : TupAt kn h' p := by
  obtain ⟨o2, its, n, ho2, hc, hd2, hi⟩ := hp
  have ne : p.1 ≠ a := fun e => by
    rw [e, ho] at ho2
    rw [← Option.some.inj ho2, hd] at hd2
    exact nomatch hd2
  exact ⟨o2, its, n, (hs.2 p.1 ne).trans ho2, hc, hd2, hi⟩
theorem tup_keep {h h' : Heap} {p : Addr × List κ} (hp : TupAt kn h p) (hk : ∀ c o, h.get? c = some o → h'.get? c = some o) : TupAt kn h' p := by
  obtain ⟨o2, its, n, ho2, r⟩ := hp
  exact ⟨o2, its, n, hk _ _ ho2, r⟩
theorem mid_perm {α : Type} (L : List α) (p : Nat) (x : α) : (L.take p ++ x :: L.drop p).Perm (x :: L) := by
  have h := List.perm_middle (a := x) (l₁ := L.take p) (l₂ := L.drop p)
  rwa [List.take_append_drop] at h
theorem map_mid {α β : Type} (f : α → β) (L : List α) (p : Nat) (x : α) : (L.take p ++ x :: L.drop p).map f = (L.map f).take p ++ f x :: (L.map f).drop p := by
  rw [List.map_append, List.map_cons, List.map_take, List.map_drop]
/-- the rows in another order -/
theorem reorder {L : List (Addr × List κ)} {es : Array (Int × Value)} {order : Array Nat} (hr : es.toList = L.map (row kn)) (hp : order.toList.Perm (List.range L.length)) :
    ∃ M : List (Addr × List κ), (order.filterMap (es[·]?)).toList = M.map (row kn) ∧ M.Perm L ∧ (M.map fun p => hsh kn p.2) = order.toList.map fun i => (es.map (·.1)).getD i 0 := by
  have each : ∀ l : List Nat, (∀ i ∈ l, i < L.length) → l.filterMap (fun i => es[i]?) = (l.filterMap fun i => L[i]?).map (row kn) ∧ ((l.filterMap fun i => L[i]?).map fun p => hsh kn p.2) = l.map fun i => (es.map (·.1)).getD i 0 := by
    intro l
    induction l with
    | nil => intro _; exact ⟨rfl, rfl⟩
    | cons i l ih =>
      intro hl
      obtain ⟨e1, e2⟩ := ih fun j hj => hl j (List.mem_cons_of_mem _ hj)
      have hi := hl i List.mem_cons_self
      obtain ⟨p, hp⟩ : ∃ p, L[i]? = some p := ⟨_, List.getElem?_eq_getElem hi⟩
      have hrow := row_at hr hp
      rw [List.filterMap_cons_some hrow, List.filterMap_cons_some hp, List.map_cons, List.map_cons, List.map_cons, e1, e2]
      refine ⟨rfl, ?_⟩
      have e3 : (es.map (·.1))[i]? = some (hsh kn p.2) := by rw [Array.getElem?_map, hrow]; rfl
      have e4 : (es.map (·.1)).getD i 0 = hsh kn p.2 := by simp [Array.getD_eq_getD_getElem?, e3]
      rw [e4]
  obtain ⟨e1, e2⟩ := each order.toList fun i hi => List.mem_range.mp (hp.mem_iff.mp hi)
  refine ⟨_, by first | (rw [Array.toList_filterMap]; exact e1) | simpa using e1, ?_, e2⟩
  have all : (List.range L.length).filterMap (fun i => L[i]?) = L := by
    have z : ∀ n, n ≤ L.length → (List.range n).filterMap (fun i => L[i]?) = L.take n := by
      intro n
      induction n with
      | zero => intro _; rfl
      | succ n ih =>
        intro hn
        rw [List.range_succ, List.filterMap_append, ih (Nat.le_of_lt hn), List.take_succ, List.getElem?_eq_getElem hn, List.filterMap_cons_some (List.getElem?_eq_getElem hn)]; rfl
    rw [z _ (Nat.le_refl _), List.take_length]
  have h := hp.filterMap fun i => L[i]?
  rwa [all] at h
variable {a : Addr} {L : List (Addr × List κ)} {es : Array (Int × Value)} {ep : Nat} {t : SetTable}
/-- a larger table -/
theorem larger {o : Obj} (ho : s.heap.get? a = some o) (hx : o.ExactSet) (hd : o.data = .set es ep t) (rows : es.toList = L.map (row kn)) (sz : t.place.size = es.size) (dm : t.dummies = #[]) (fl : es.size ≤ t.mask)
    (one : (L.map Prod.snd).Nodup) (led : w.params.followText "set-order" = true ∨ t.led = true) (few : L.length < 64) {wanted M : Nat}
    (hw : SetTable.sizeAbove wanted - 1 = M) (hM : MaskOk M) (hw2 : SetTable.sizeAbove wanted ≤ 128) (room : L.length * 5 < M * 3) {Q : Unit → Shared → Prop}
    (q : ∀ h' L' es' ep' t', Heap.SameBut a s.heap h' → Tb kn h' a L' es' ep' t' → L'.Perm L → Q () { s with heap := h' }) : wpAny (model P w) A (setRelay a wanted) Q E s := by
  have hn := rows_len rows
  obtain ⟨t2, order, e, hp, T, em, el, _, _⟩ := relaid_ok t (hs := es.map (·.1)) (wanted := wanted) hw hM (by rw [Array.size_map, hn]; omega)
  rw [Array.size_map, hn] at hp
  obtain ⟨N, r1, r2, r3⟩ := reorder rows hp
  rw [← r3] at T
  have hz : (order.filterMap (es[·]?)).size = es.size := by rw [rows_len r1, r2.length_eq, hn]
  rw [setRelay_eq]
  refine wpAny_bind (wpAny_setState_of ho hd (fits_of sz dm fl) ?_)
  dsimp only
  refine wp_if_neg (by rw [sizeLine_eq]; omega) ?_
  try refine wpAny_bind (wpAny_pure ?_)
  rw [e]
  dsimp only
  refine wpAny_bind ?_
  refine wp_if_neg (by rw [hz]; simp) ?_
  try refine wpAny_bind (wpAny_pure ?_)
  refine wpAny_pure ?_
  dsimp only
  refine wpAny_storeSet_of ho hd ?_ (by rw [hz, hn, sizeLine_eq]; omega)
  have but : Heap.SameBut a s.heap (s.heap.update a (Obj.putSet (order.filterMap (es[·]?)) t2)) := Heap.SameBut.update ..
  refine q _ N _ (ep + 1) t2 but ⟨⟨_, store_at ho hd, ⟨hx.1, hx.2.1, hx.2.2⟩, rfl⟩, r1, T, (r2.map Prod.snd).nodup_iff.mpr one, by rw [el]; exact led, by rw [r2.length_eq, em]; exact room, by rw [r2.length_eq]; exact few⟩ r2
theorem plain_off {t : SetTable} {hs : List Int} (T : TabOk t hs) : TabOk { t with plain := false } hs := ⟨T.ris, T.dm, T.sz, T.mok, T.bd, T.reach⟩
/-- one tuple put in -/
theorem adding (pl : Plain kn) (R : Tb kn s.heap a L es ep t) (R2 : All kn s.heap L) {x : Addr} {k : List κ} (hx : TupAt kn s.heap (x, k)) (hu : A.units < cLine) (few : L.length + 1 < 64) {Q : Bool → Shared → Prop}
    (q : ∀ b h' L' es' ep' t', Heap.SameBut a s.heap h' → Tb kn h' a L' es' ep' t' → (L' = L ∧ k ∈ L.map Prod.snd ∨ L'.Perm ((x, k) :: L)) → Q b { s with heap := h' }) :
    wpAny (model P w) A (setAddHashed a (.ref x) (hsh kn k)) Q E s := by
  obtain ⟨o, ho, hex, hd⟩ := R.obj
  have hn := rows_len R.rows
  have hroom := R.room
  unfold setAddHashed
  refine wpAny_holding ?_
  rw [show (100000 : Nat) = 99999 + 1 from rfl, setAddHashedIn_succ]
  refine wpAny_bind (wpAny_setState_of ho hd R.fit ?_)
  dsimp only
  refine wp_if_neg (by simp [byScan, Value.scannable]) ?_
  try refine wpAny_bind (wpAny_pure ?_)
  refine wpAny_bind (seek0 pl R R2 hx hu (fun hm => ?_) fun n hm free full => ?_)
  · dsimp only
    exact wpAny_pure (q false s.heap L es ep t (Heap.SameBut.refl a s.heap) R (.inl ⟨rfl, hm⟩))
  dsimp only
  refine wpAny_bind (wpAny_setState_of ho hd R.fit ?_)
  dsimp only
  obtain ⟨q1, q2, q3, q4, q5, _, _, _, q9⟩ := R.tab.put free full
  generalize t.put (way t.mask (hsh kn k) n) = pt at q1 q3 q4 q5 q9 ⊢
  obtain ⟨t0, p0⟩ := pt
  dsimp only at q1 q3 q4 q5 q9 ⊢
  subst q1
  generalize SetTable.below t.place (way t.mask (hsh kn k) n) = p at q2 q3 ⊢
  -- whatever the table is called now
  have fin : ∀ t1 : SetTable, TabOk t1 ((L.map fun p => hsh kn p.2).take p ++ hsh kn k :: (L.map fun p => hsh kn p.2).drop p) → t1.mask = t.mask → t1.led = t.led → t1.fill = (L.map fun p => hsh kn p.2).length + 1 →
      wpAny (model P w) A (do
        storeSet a (SetTable.insertAt es p (hsh kn k, .ref x)) t1
        if !false && t1.tooFull then setRelay a (SetTable.grown (es.size + 1))
        return true) Q E s := by
    intro t1 T1 em el ef
    have hins : (SetTable.insertAt es p (hsh kn k, Value.ref x)).toList = (L.take p ++ (x, k) :: L.drop p).map (row kn) := by
      rw [SetTable.toList_insertAt, map_mid, R.rows]; rfl
    have pm := mid_perm L p (x, k)
    have hlen : (L.take p ++ (x, k) :: L.drop p).length = L.length + 1 := pm.length_eq
    have T2 : TabOk t1 ((L.take p ++ (x, k) :: L.drop p).map fun p => hsh kn p.2) := by rw [map_mid]; exact T1
    have one1 : ((L.take p ++ (x, k) :: L.drop p).map Prod.snd).Nodup := by
      refine (pm.map Prod.snd).nodup_iff.mpr ?_
      rw [List.map_cons]
      exact List.nodup_cons.mpr ⟨hm, R.one⟩
    have hsz := rows_len hins
    rw [hlen] at hsz
    generalize SetTable.insertAt es p (hsh kn k, Value.ref x) = es1 at hins hsz ⊢
    generalize L.take p ++ (x, k) :: L.drop p = L1 at pm hlen T2 one1 hins
    refine wpAny_bind (wpAny_storeSet_of ho hd ?_ (by rw [hsz, sizeLine_eq]; omega))
    have but : Heap.SameBut a s.heap (s.heap.update a (Obj.putSet es1 t1)) := Heap.SameBut.update ..
    have ho1 := store_at (es' := es1) (t' := t1) ho hd
    generalize s.heap.update a (Obj.putSet es1 t1) = h1 at but ho1 ⊢
    have led1 : w.params.followText "set-order" = true ∨ t1.led = true := by rw [el]; exact R.led
    cases full1 : t1.tooFull with
    | true =>
      have hb : (L.length + 1) * 5 ≥ t.mask * 3 := by
        have h := full1
        unfold SetTable.tooFull at h
        rw [decide_eq_true_eq, ef, em, List.length_map] at h
        exact h
      have two : (t.mask = 7 ∧ L.length = 4) ∨ (t.mask = 31 ∧ L.length = 18) := by
        rcases R.tab.mok with e | e | e <;> rw [e] at hb hroom
        · exact .inl ⟨e, by omega⟩
        · exact .inr ⟨e, by omega⟩
        · exfalso; omega
      have go : ∀ M, SetTable.sizeAbove (SetTable.grown (es.size + 1)) - 1 = M → MaskOk M → SetTable.sizeAbove (SetTable.grown (es.size + 1)) ≤ 128 → (L.length + 1) * 5 < M * 3 →
          wpAny (model P w) A (setRelay a (SetTable.grown (es.size + 1))) (fun _ s' => wpAny (model P w) A (pure true) Q E s') E { s with heap := h1 } := fun M g1 g2 g3 g4 => by
        refine larger (s := { s with heap := h1 }) ho1 ⟨hex.1, hex.2.1, hex.2.2⟩ rfl hins (by rw [tab_len T2, hsz, hlen]) T2.dm (by rw [hsz, em]; omega) one1 led1 (by rw [hlen]; exact few) g1 g2 g3 (by rw [hlen]; exact g4) ?_
        intro h2 L2 es2 ep2 t2 but2 R3 pm2
        exact wpAny_pure (q true h2 L2 es2 ep2 t2 (but.trans but2) R3 (.inr (pm2.trans pm)))
      first
        | (refine wpAny_bind ?_; refine wp_if_pos (by simp) ?_)
        | (refine wp_if_pos (by simp) ?_; refine wpAny_bind ?_)
      rcases two with ⟨_, e2⟩ | ⟨_, e2⟩
      · exact go 31 (by rw [hn, e2, size_20]) (.inr (.inl rfl)) (by rw [hn, e2, size_20]; decide) (by omega)
      · exact go 127 (by rw [hn, e2, size_76]) (.inr (.inr rfl)) (by rw [hn, e2, size_76]; decide) (by omega)
    | false =>
      first
        | refine wp_if_neg (by simp) ?_
        | (refine wpAny_bind ?_; refine wp_if_neg (by simp) ?_; refine wpAny_pure ?_)
      refine wpAny_pure (q true h1 L1 es1 (ep + 1) t1 but ⟨⟨_, ho1, ⟨hex.1, hex.2.1, hex.2.2⟩, rfl⟩, hins, T2, one1, led1, ?_, by rw [hlen]; exact few⟩ (.inr pm))
      have h := full1
      unfold SetTable.tooFull at h
      rw [decide_eq_false_iff_not, ef, em, List.length_map] at h
      rw [hlen, em]
      omega
  by_cases hpl : t0.plain = true
  · first
      | (refine wpAny_bind ?_; refine wp_if_pos hpl ?_; refine by_value pl hx fun r => ?_)
      | (refine wp_if_pos hpl ?_; refine wpAny_bind (by_value pl hx fun r => ?_))
    cases r with
    | true => simp only [if_true]; exact fin t0 q3 q4 q5 q9
    | false => simp only [Bool.false_eq_true, if_false]; exact fin _ (plain_off q3) q4 q5 q9
  · first
      | (refine wpAny_bind ?_; refine wp_if_neg hpl ?_; refine wpAny_pure ?_)
      | (refine wp_if_neg hpl ?_; refine wpAny_bind (wpAny_pure ?_))
    simp only [if_true]; exact fin t0 q3 q4 q5 q9
end
section
variable {P : Program} {w : World} {κ : Type} [DecidableEq κ] {kn : KeyKind P w κ} {A : Around} {E : Value → Shared → Prop} {s : Shared}
/-- L has what the first i of ks are, each once -/
structure Has (ks : List (Addr × List κ)) (i : Nat) (L : List (Addr × List κ)) : Prop where
  from_ : ∀ p ∈ L, p ∈ ks
  all : ∀ p ∈ ks.take i, p.2 ∈ L.map Prod.snd
  len : L.length ≤ i
theorem has_next {ks L L' : List (Addr × List κ)} {i : Nat} {x : Addr × List κ} (g : Has ks i L) (h : ks[i]? = some x) (c : (L' = L ∧ x.2 ∈ L.map Prod.snd) ∨ L'.Perm (x :: L)) : Has ks (i + 1) L' := by
  have tk : ks.take (i + 1) = ks.take i ++ [x] := by rw [List.take_succ, h]; rfl
  rcases c with ⟨rfl, hm⟩ | pm
  · refine ⟨g.from_, fun p hp => ?_, Nat.le_succ_of_le g.len⟩
    rw [tk] at hp
    rcases List.mem_append.mp hp with z | z
    · exact g.all p z
    · rw [List.mem_singleton.mp z]; exact hm
  · refine ⟨fun p hp => ?_, fun p hp => ?_, by rw [pm.length_eq]; exact Nat.succ_le_succ g.len⟩
    · rcases List.mem_cons.mp (pm.mem_iff.mp hp) with e | z
      · rw [e]; exact List.mem_of_getElem? h
      · exact g.from_ p z
    · rw [(pm.map Prod.snd).mem_iff, List.map_cons, List.mem_cons]
      rw [tk] at hp
      rcases List.mem_append.mp hp with z | z
      · exact .inr (g.all p z)
      · exact .inl (congrArg Prod.snd (List.mem_singleton.mp z))
theorem tb_keep {h h' : Heap} {a : Addr} {L : List (Addr × List κ)} {es : Array (Int × Value)} {ep : Nat} {t : SetTable} (R : Tb kn h a L es ep t) (k : ∀ o, h.get? a = some o → h'.get? a = some o) : Tb kn h' a L es ep t := by
  obtain ⟨o, ho, r⟩ := R.obj
  exact ⟨⟨o, k o ho, r⟩, R.rows, R.tab, R.one, R.led, R.room, R.few⟩
theorem tb_new {h : Heap} {a : Addr} (ho : h.get? a = some (DP.newSet w)) : Tb kn h a [] #[] 0 (.fresh 0 0 (!w.params.followText "set-order")) where
  obj := ⟨_, ho, ⟨rfl, rfl, rfl⟩, rfl⟩
  rows := rfl
  tab := ⟨.nil, rfl, rfl, .inl rfl, fun x h => (by cases h), fun i h j e => (by simp at e)⟩
  one := .nil
  led := by
    cases e : w.params.followText "set-order" with
    | true => exact .inl rfl
    | false => exact .inr rfl
  room := (by decide : 0 * 5 < 7 * 3)
  few := (by decide : 0 < 64)
/-- the loop of set.update over a list of tuples -/
theorem filling (pl : Plain kn) {I : Addr} {fp wr : List Addr} {G : Array GenState → Array GenState → Prop} {n : Nat} {Pv : Nat → Value → Prop} {St : Nat → Shared → Prop} {R : Result → Shared → Prop}
    (W : WalksS P w A.in1 I fp wr G n Pv St) {S : Addr} (hSf : S ∉ fp) {ks : List (Addr × List κ)} (few : ks.length < 64) (val : ∀ i v, Pv i v → ∃ p, ks[i]? = some p ∧ v = .ref p.1)
    {h0 : Heap} (hk : All kn h0 ks) (hS0 : h0.get? S = none) (hw0 : ∀ b ∈ wr, h0.get? b = none) (hu : A.in1.units < cLine)
    (q : ∀ s1 s' L es ep t, Moved (S :: wr) G s1 s' → Tb kn s'.heap S L es ep t → Has ks n L → (∀ b o, h0.get? b = some o → s'.heap.get? b = some o) → s1 = s → R (.ok (.ret .none)) s') :
    ∀ (j i : Nat) (s2 : Shared), n - i = j → i ≤ n → St i s2 → (∀ b o, h0.get? b = some o → s2.heap.get? b = some o) → (∃ L es ep t, Tb kn s2.heap S L es ep t ∧ Has ks i L) → (i = 0 → s2 = s) → (i ≠ 0 → Moved (S :: wr) G s s2) →
      codeAny (model P w) A (.builtin "set.update.loop" ⟨[.ref S, .ref I], []⟩) R s2 := by
  have hSw : S ∉ wr := fun h => hSf (W.sub _ h)
  have inS : ∀ b ∈ wr, b ∈ S :: wr := fun b hb => List.mem_cons_of_mem _ hb
  have still : ∀ {x y : Shared}, Moved wr G x y → (∀ b o, h0.get? b = some o → x.heap.get? b = some o) → ∀ b o, h0.get? b = some o → y.heap.get? b = some o := fun m k b o e => m.heap b o (fun hb => by rw [hw0 b hb] at e; cases e) (k b o e)
  have join : ∀ {i : Nat} {x y : Shared}, (i = 0 → x = s) → (i ≠ 0 → Moved (S :: wr) G s x) → Moved (S :: wr) G x y → Moved (S :: wr) G s y := fun {i x y} e0 e1 m => by
    by_cases c : i = 0
    · rw [← e0 c]; exact m
    · exact Moved.trans W.gtrans (e1 c) m
  intro j
  induction j with
  | zero =>
    intro i s2 hj hi hst kp ⟨L, es, ep, t, T, g⟩ e0 e1
    have hin : i = n := by omega
    subst hin
    refine codeAny_builtin F.entry_set_update_loop ?_
    rw [Around.under_plainId F.plain_set_update_loop _]
    show wpAny _ A.in1 (pyNext (.ref I) >>= _) _ _ s2
    refine wpAny_bind (W.done s2 _ _ hst fun s3 m => ?_)
    exact wpAny_pure (q s s3 L es ep t (join e0 e1 (m.mono inS)) (tb_keep T fun o e => m.heap S o hSw e) g (still m kp) rfl)
  | succ j ih =>
    intro i s2 hj hi hst kp ⟨L, es, ep, t, T, g⟩ e0 e1
    have hlt : i < n := by omega
    refine codeAny_builtin F.entry_set_update_loop ?_
    rw [Around.under_plainId F.plain_set_update_loop _]
    show wpAny _ A.in1 (pyNext (.ref I) >>= _) _ _ s2
    refine wpAny_bind (W.item i s2 _ _ hlt hst fun v s3 hP hst3 m => ?_)
    obtain ⟨p, hp, rfl⟩ := val i v hP
    have kp3 := still m kp
    have T3 : Tb kn s3.heap S L es ep t := tb_keep T fun o e => m.heap S o hSw e
    have hx : TupAt kn s3.heap p := tup_keep (hk p (List.mem_of_getElem? hp)) kp3
    have hL : All kn s3.heap L := fun r hr => tup_keep (hk r (g.from_ r hr)) kp3
    show wpAny _ A.in1 (holding [Value.ref p.1] (setAdd S (.ref p.1)) >>= _) _ _ s3
    refine wpAny_bind (wpAny_holding ?_)
    unfold setAdd
    refine wpAny_holding (wpAny_bind (wpAny_pyHash_tuple hu hx ?_))
    have hlen := (List.getElem?_eq_some_iff.mp hp).1
    refine adding (s := { s3 with toks := s3.toks + (p.2.length + 1) }) pl T3 hL hx hu (by have := g.len; omega) fun b h4 L4 es4 ep4 t4 but T4 c => ?_
    have keepB : ∀ b o, b ≠ S → s3.heap.get? b = some o → h4.get? b = some o := fun b o hb e => (but.2 b hb).trans e
    refine wpAny_pure ⟨plainId_quiet F.plain_set_update_loop _, ih (i + 1) _ (by omega) hlt (W.frame _ s3 _ _ hst3 (Nat.le_add_right _ _) fun b hb o e => keepB b o (fun e2 => hSf (e2 ▸ hb)) e) (fun b o e => keepB b o (fun z => by rw [z, hS0] at e; cases e) (kp3 b o e)) ⟨L4, es4, ep4, t4, T4, has_next g hp c⟩ (fun z => absurd z (Nat.succ_ne_zero _)) fun _ => ?_⟩
    exact join e0 e1 ((m.mono inS).then_heap (Nat.le_add_right _ _) fun b o hb e => keepB b o (fun z => hb (z ▸ List.mem_cons_self)) e)
/-- set(xs) -/
theorem set_made (pl : Plain kn) {l : Addr} {its : Array Value} (ks : List (Addr × List κ)) {Q : Value → Shared → Prop} (hh : A.handled = none) (hl : s.heap.IsList l its) (hit : its.toList = ks.map fun p => Value.ref p.1)
    (hk : All kn s.heap ks) (few : ks.length < 64) (hu : A.units + 3 < cLine)
    (q : ∀ (h' : Heap) (tk : Nat) L es ep t, Tb kn h' s.heap.objs.size L es ep t → Has ks ks.length L → (∀ b o, s.heap.get? b = some o → h'.get? b = some o) → Q (.ref s.heap.objs.size) { s with heap := h', toks := tk }) :
    wpAny (model P w) A (call (.type "set") [.ref l]) Q E s := by
  have hz : its.size = ks.length := by
    have e := congrArg List.length hit
    rwa [Array.length_toList, List.length_map] at e
  have C := F.called_set
  obtain ⟨c, tl, hmro⟩ := C.mro
  have hmade := C.made; have hsub := C.sub
  refine wpAny_call (codeAny_of_tree ?_)
  show wpAny _ _ (callAny (.type "set") _) _ _ _
  refine wpAny_pure ⟨Code.quiet_builtin _ (by decide +kernel), codeAny_builtin F.entry_type_call ?_⟩
  rw [Around.under_plain (weight_type_call_type "set" [.ref l] []) rfl]
  have h1 := C.notType; have h2 := C.canCreate
  have hct := F.typeCall_set_1 (.ref l)
  repeat (any_goals (first | assumption | wp_step))
  refine codeAny_mono (code_set_led1 (.ref l) (E := E) (Q₁ := fun obj s₁ => obj = .ref s.heap.objs.size ∧ s₁ = { s with heap := s.heap.push (DP.newSet w) }) ⟨rfl, rfl⟩) fun r s₁ hr => ?_
  cases r with
  | error e => exact hr
  | ok fl =>
  cases fl with
  | ret obj =>
    obtain ⟨rfl, rfl⟩ := hr
    have hS : (s.heap.push (DP.newSet w)).get? s.heap.objs.size = some (DP.newSet w) := Heap.get?_push_size _ rfl
    have hT : Shared.TypeIs { s with heap := s.heap.push (DP.newSet w) } (.ref s.heap.objs.size) "set" := ⟨_, hS, rfl⟩
    have hli := C.init.lookup; have hbi := C.init.bind (.ref s.heap.objs.size)
    repeat (any_goals (first | assumption | wp_step))
    refine codeAny_mono (codeAny_call_builtin (R := wants (fun r s₂ => r = .none ∧ ∃ h' tk L es ep t, s₂ = { s with heap := h', toks := tk } ∧ Tb kn h' s.heap.objs.size L es ep t ∧ Has ks ks.length L ∧ ∀ b o, s.heap.get? b = some o → h'.get? b = some o) E) C.init.plain F.entry_set_init (check_set_init_1 hT ?_)) fun r₂ s₂ hr₂ => ?_
    · obtain ⟨⟨ocls, odict, odata, oslots⟩, hol, hcl, nl, hdl⟩ := hl
      simp only at hcl hdl
      subst hcl hdl
      have hol' : (s.heap.push (DP.newSet w)).get? l = some { cls := .type "list", dict := odict, data := .seq its nl, slots := oslots } := Heap.get?_push_of_some _ hol
      have hsls := F.sub_list_set; have hslf := F.sub_list_frozenset
      have hne : (Value.type "list" == Value.type "dict") = false := by decide
      have hl1 : (s.heap.push (DP.newSet w)).IsList l its := ⟨_, hol', rfl, nl, rfl⟩
      unfold Builtin.«set.__init__» noKeywords Builtin.Frozenset.updateFrom
      generalize hPI : pyIter = PI
      wp_walk
      subst hPI
      refine wpAny_pyIter_list hl1 (wpAny_bind (wpAny_runValue ?_))
      have hlS : l < s.heap.objs.size := Heap.lt_size hol
      have hh3 : A.in1.in1.in1.handled = none := by simp [hh]
      have sz : (s.heap.push (DP.newSet w)).objs.size = s.heap.objs.size + 1 := Heap.size_push ..
      have neI : l ≠ (s.heap.push (DP.newSet w)).objs.size := by rw [sz]; exact Nat.ne_of_lt (Nat.lt_succ_of_lt hlS)
      have hSf : s.heap.objs.size ∉ [(s.heap.push (DP.newSet w)).objs.size, l] := by
        rw [sz]; simp only [List.mem_cons, List.not_mem_nil, or_false, not_or]; exact ⟨Nat.ne_of_lt (Nat.lt_succ_self _), Nat.ne_of_gt hlS⟩
      have val : ∀ (i : Nat) (v : Value), its[i]? = some v → ∃ p, ks[i]? = some p ∧ v = .ref p.1 := fun i v hv => by
        have e : its.toList[i]? = some v := by rw [Array.getElem?_toList]; exact hv
        rw [hit, List.getElem?_map, Option.map_eq_some_iff] at e
        obtain ⟨p, e1, e2⟩ := e
        exact ⟨p, e1, e2.symm⟩
      have gone : ∀ b, s.heap.objs.size ≤ b → s.heap.get? b = none := fun b hb => by
        cases e : s.heap.get? b with
        | none => rfl
        | some o => exact absurd (Heap.lt_size e) (Nat.not_lt.mpr hb)
      refine filling pl ((Walks.list hh3 _ l neI its).toS) hSf few val hk (gone _ (Nat.le_refl _)) (fun b hb => gone b (by rw [List.mem_singleton.mp hb, sz]; exact Nat.le_succ _)) hu ?fin (its.size - 0) 0 _ (by omega) (Nat.zero_le _) ⟨⟨_, Heap.get?_push_size _ rfl, rfl, rfl⟩, (hl1.push _)⟩ (fun b o e => Heap.get?_push_of_some _ (Heap.get?_push_of_some _ e)) ⟨[], _, _, _, tb_new (Heap.get?_push_of_some _ hS), ⟨fun p h => (by cases h), fun p h => (by simp at h), Nat.le_refl _⟩⟩ (fun _ => rfl) fun z => absurd rfl z
      case fin =>
        intro s1 s' L es ep t m T g k es1
        subst es1
        obtain ⟨h', g2, d', tk', os'⟩ := s'
        have eg : g2 = s.gens := m.gens
        have ed : d' = s.drawn := m.drawn
        have eo : os' = s.os := m.os
        subst eg ed eo
        refine wpAny_pure (?_ : wpAny _ _ (ret Value.none) _ _ _)
        rw [hz] at g
        exact wpAny_pure ⟨rfl, h', tk', L, es, ep, t, rfl, T, g, k⟩
    · cases r₂ with
      | error e => exact hr₂
      | ok fl₂ =>
      cases fl₂ with
      | ret r =>
        obtain ⟨rfl, h', tk, L, es, ep, t, rfl, T, g, k⟩ := hr₂
        repeat (any_goals (first | assumption | wp_step))
        exact q _ _ _ _ _ _ T g k
      | _ => exact hr₂.elim
  | _ => exact hr.elim
end
end SD
/-! The rules: set(xs) of a list of tuples of whole numbers and texts; sorted of such a set. -/
namespace SD
open PySem PySem.Spec PyProof.Rows L2 DP
theorem mix_plain (P : Program) (w : World) : Plain (mixKind P w) := fun k v h => by
  rcases keyIs_shape h with ⟨i, t, _, rfl⟩ | ⟨x, t, _, rfl⟩ <;> rfl
/-- a set with the tuples L -/
def SetDO (P : Program) (w : World) (a : Addr) (L : List (Addr × List Key)) : HO := .ext fun h => ∃ es ep t, Tb (mixKind P w) h a L es ep t
theorem set_new {P : Program} {w : World} {H : Hp} {h : Heap} {a : Addr} {L : List (Addr × List Key)} {es : Array (Int × Value)} {ep : Nat} {t : SetTable} (R : Tb (mixKind P w) h a L es ep t) : ObjOk P w H h a (SetDO P w a L) := by
  have ⟨o, ho, r⟩ := R.obj
  exact ⟨⟨es, ep, t, R⟩, ⟨o, ho⟩, fun h1 h2 ⟨es', ep', t', R'⟩ k => ⟨es', ep', t', tb_keep R' k⟩⟩
theorem keys_of {P : Program} {w : World} : ∀ {k : List Key} {us : List Value}, Vals (k.map kV) us → ItemsAre (mixKind P w) k us
  | [], _, .nil => .nil
  | n :: k, _, .cons r t => .cons (by
      cases n with
      | inl i =>
        obtain ⟨tk, rfl⟩ := r
        simp [mixKind, keyIs, Value.isInt]
      | inr z =>
        obtain ⟨tk, rfl⟩ := r
        simp [mixKind, keyIs, Value.isStrOf]) (keys_of t)
theorem refs_eq : ∀ {ks : List (Addr × List Key)} {us : List Value}, Vals (ks.map fun p => V.ref p.1) us → us = ks.map fun p => Value.ref p.1
  | [], _, .nil => rfl
  | p :: ks, _, .cons r t => by
    cases r
    rw [refs_eq t]; rfl
theorem refs_vals : ∀ (ks : List (Addr × List Key)), Vals (ks.map fun p => V.ref p.1) (ks.map fun p => Value.ref p.1)
  | [] => .nil
  | p :: ks => .cons rfl (refs_vals ks)
def kD : Key → PyData
  | .inl i => .int i
  | .inr z => .str z
section
variable {X : Cx}
theorem tup_inv {pins : List (Addr × Obj)} {σ : L2.St} {H : Hp} {s : Shared} {p : Addr × List Key} (I : Inv X pins σ H s) (h : SqT X.K H p.1 (p.2.map kV)) : TupAt (mixKind X.prog X.w) s.heap p := by
  obtain ⟨its, r, ⟨o, ho, hc, n, hd⟩, _⟩ := I.tuple h
  exact ⟨o, its.toArray, n, ho, hc, hd, by simpa using keys_of r⟩
/-- the tuples of the list stand there -/
def Stand (K : PySem.W.Frag) (H : Hp) (ks : List (Addr × List Key)) : Prop := ∀ p ∈ ks, SqT K H p.1 (p.2.map kV)
theorem Stand.same {K : PySem.W.Frag} {H H' : Hp} {ks : List (Addr × List Key)} (h : Stand K H ks) (S : Same H H') : Stand K H' ks := fun p hp => Same.sqT S (h p hp)
def rSetD (K : PySem.W.Frag) (P : Program) (w : World) : List V → Hp → VK → Prop := fun xs H Q => ∃ (l : Addr) (ks : List (Addr × List Key)), xs = [V.ref l] ∧ SqL K H l (ks.map fun p => V.ref p.1) ∧ Stand K H ks ∧ ks.length < 64 ∧
  ∀ a L, H a = none → (∀ p ∈ L, p ∈ ks) → (∀ p ∈ ks, p.2 ∈ L.map Prod.snd) → (L.map Prod.snd).Nodup → Q (.ref a) (upd H a (SetDO P w a L))
theorem cr_setD (hc : X.calm = true) (hu : X.A.units + 64 < cLine) : CallR X (.type "set") (rSetD X.K X.prog X.w) := by
  intro pins s σ H xs us Q I r h
  obtain ⟨l, ks, rfl, hl, hk, few, q⟩ := h
  rw [Vals.ref1 r]
  obtain ⟨its, rv, pl, hz⟩ := I.list hl
  refine set_made (P := X.prog) (w := X.w) (mix_plain _ _) ks (I.ok.hd hc) pl.isList (by simpa using refs_eq rv) (fun p hp => tup_inv I (hk p hp)) few (by omega) fun h' tk L es ep t T g k => ?_
  refine ⟨.ref s.heap.objs.size, upd H s.heap.objs.size (SetDO X.prog X.w s.heap.objs.size L), I.laid (t' := tk) k (Nat.le_refl _) (set_new T), rfl, q _ L (I.hok.fresh (Nat.le_refl _)) g.from_ (fun p hp => ?_) T.one⟩
  exact g.all p (by rw [List.take_length]; exact hp)
end
section
variable {P : Program} {w : World} {A : Around} {E : Value → Shared → Prop} {s : Shared}
def encK (p : Addr × List Key) : PyData := .tuple (p.2.map kD)
theorem reads_parts : ∀ {k : List Key} {us : List Value} {h : Heap}, ItemsAre (mixKind P w) k us → ReadsAll h us (k.map kD) []
  | _, _, _, .nil => .nil
  | _, _, h, .cons (k := n) a t => by
    rcases keyIs_shape a with ⟨i, tk, rfl, rfl⟩ | ⟨x, tk, rfl, rfl⟩
    · exact .cons (as := []) (.int _ _) (reads_parts t)
    · exact .cons (as := []) (.str _ _) (reads_parts t)
theorem reads_tup {h : Heap} {p : Addr × List Key} (x : TupAt (mixKind P w) h p) : Reads h (.ref p.1) (encK p) [] := by
  obtain ⟨o, its, n, ho, hc, hd, hi⟩ := x
  exact .tuple ho hc hd (reads_parts hi)
theorem each_refs : ∀ L : List (Addr × List Key), PySem.W.EachIs (fun (u : Value) (p : Addr × List Key) => u = .ref p.1) (L.map fun q => Value.ref q.1) L
  | [] => .nil
  | p :: L => .cons rfl (each_refs L)
theorem of_each : ∀ {us : List Value} {L : List (Addr × List Key)}, PySem.W.EachIs (fun (u : Value) (p : Addr × List Key) => u = .ref p.1) us L → us = L.map fun q => Value.ref q.1
  | _, _, .nil => rfl
  | _, _, .cons a t => by rw [a, of_each t]; rfl
theorem each_reads {h : Heap} : ∀ {L : List (Addr × List Key)} {a : Addr}, All (mixKind P w) h L → PySem.W.EachIs (fun (u : Value) (p : Addr × List Key) => ∃ as, Reads h u (encK p) as ∧ a ∉ as) (L.map fun q => Value.ref q.1) L
  | [], _, _ => .nil
  | p :: L, _, k => .cons ⟨[], reads_tup (k p List.mem_cons_self), by simp⟩ (each_reads fun q hq => k q (List.mem_cons_of_mem _ hq))
/-- what is known of the parts so that tuples can be put in order -/
structure Even (L : List (Addr × List Key)) : Prop where
  alike : ∀ p ∈ L, ∀ q ∈ L, PySem.W.alike (encK p) (encK q) = true
  some_ : ∀ p ∈ L, p.2 ≠ []
theorem Even.sub {L M : List (Addr × List Key)} (e : Even L) (h : ∀ p ∈ M, p ∈ L) : Even M := ⟨fun p hp q hq => e.alike p (h p hp) q (h q hq), fun p hp => e.some_ p (h p hp)⟩
theorem depth_parts : ∀ k : List Key, PyData.depthAll (k.map kD) = 0
  | [] => rfl
  | .inl i :: k => by
    show PyData.depthAll (PyData.int i :: k.map kD) = 0
    rw [PyData.depthAll, depth_parts k]; rfl
  | .inr z :: k => by
    show PyData.depthAll (PyData.str z :: k.map kD) = 0
    rw [PyData.depthAll, depth_parts k]; rfl
theorem depth_tup (p : Addr × List Key) : (encK p).depth = 1 := by
  unfold encK
  rw [PyData.depth, depth_parts]
theorem sorted_set {a : Addr} {L : List (Addr × List Key)} {es : Array (Int × Value)} {ep : Nat} {t : SetTable} {Q : Value → Shared → Prop} (R : Tb (mixKind P w) s.heap a L es ep t) (R2 : All (mixKind P w) s.heap L) (hh : A.handled = none) (hu : A.units + 64 < cLine) (ev : Even L)
    (q : ∀ s' p (out : Array Value) (c : Nat) (M : List (Addr × List Key)), (∀ b o, s.heap.get? b = some o → s'.heap.get? b = some o) → s'.gens = s.gens → s'.os = s.os → s.heap.objs.size ≤ p → M.Perm L →
      s'.heap.get? p = some (seqObj "list" out c) → out.toList = (M.mergeSort (PySem.W.dataLe false encK)).map (fun q => Value.ref q.1) → Q (.ref p) s') :
    wpAny (model P w) A (call (.builtin "sorted") [.ref a]) Q E s := by
  obtain ⟨o, ho, hex, hd⟩ := R.obj
  have hn := rows_len R.rows
  have few := R.few
  refine Calls.call_function_entry kind_sorted plain_sorted entry_sorted (args_sorted1 _) ?_
  unfold Builtin.«sorted»
  refine wpAny_bind (m := checkCount "sorted" 1 1 _) (wpAny_pure ?_)
  refine wpAny_bind (collect_set (A := A.in1) hh ⟨o, ho, hex.1, hd⟩ R.fit (by unfold scanBound; omega) R.tab.ris R.led fun s1 vs k1 hz g1 o1 pm => ?_)
  have hv : es.toList.map (·.2) = L.map fun q => Value.ref q.1 := by
    rw [R.rows, List.map_map]; rfl
  rw [hv] at pm
  -- the values' own list of rows
  obtain ⟨M, eM, pL⟩ : ∃ M : List (Addr × List Key), vs = M.map (fun q => Value.ref q.1) ∧ M.Perm L := by
    have z : ∀ {xs ys : List Value}, xs.Perm ys → ∀ L : List (Addr × List Key), ys = L.map (fun q => Value.ref q.1) → ∃ M : List (Addr × List Key), xs = M.map (fun q => Value.ref q.1) ∧ M.Perm L := by
      intro xs ys pm
      induction pm with
      | nil => intro L e; exact ⟨L, e, .refl _⟩
      | @cons x l1 l2 _ ih =>
        intro L e
        cases L with
        | nil => cases e
        | cons p L =>
          injection e with e1 e2
          obtain ⟨M, e3, p3⟩ := ih L e2
          exact ⟨p :: M, by rw [e1, e3]; rfl, p3.cons p⟩
      | swap x y l =>
        intro L e
        cases L with
        | nil => cases e
        | cons p L =>
          cases L with
          | nil => injection e with _ e2; cases e2
          | cons q L =>
            injection e with e1 e2
            injection e2 with e2 e3
            exact ⟨q :: p :: L, by rw [e1, e2, e3]; rfl, .swap _ _ _⟩
      | trans _ _ ih1 ih2 =>
        intro L e
        obtain ⟨M, e3, p3⟩ := ih2 L e
        obtain ⟨N, e4, p4⟩ := ih1 M e3
        exact ⟨N, e4, p4.trans p3⟩
    exact z pm L rfl
  subst eM
  have hml : M.length < 64 := by rw [pL.length_eq]; exact few
  have evM : Even M := ev.sub fun p hp => pL.mem_iff.mp hp
  refine wpAny_bind (wpAny_newList ?_ (by rw [List.length_map, sizeLine_eq]; omega))
  have hoL : (s1.heap.push (seqObj "list" (M.map fun q => Value.ref q.1).toArray 0)).get? s1.heap.objs.size = some (seqObj "list" (M.map fun q => Value.ref q.1).toArray 0) := Heap.get?_push_size _ rfl
  have stand : All (mixKind P w) (s1.heap.push (seqObj "list" (M.map fun q => Value.ref q.1).toArray 0)) M := fun p hp => tup_keep (R2 p (pL.mem_iff.mp hp)) fun b u e => Heap.get?_push_of_some _ (k1 b u e)
  refine wpAny_bind (wpAny_holding (PySem.W.list_sort_data (enc := encK) (s := { s1 with heap := s1.heap.push (seqObj "list" (M.map fun q => Value.ref q.1).toArray 0) }) hoL (each_refs M) (each_reads stand) (fun d hd' d' hd2 => ?_) (.inl fun d hd' => ?_) (by rw [sizeLine_eq]; omega) (fun p _ => ?_) fun out ho2 eo => ?_))
  · obtain ⟨p, hp, rfl⟩ := List.mem_map.mp hd'
    obtain ⟨p2, hp2, rfl⟩ := List.mem_map.mp hd2
    exact evM.alike p hp p2 hp2
  · obtain ⟨p, hp, rfl⟩ := List.mem_map.mp hd'
    have h2 := evM.some_ p hp
    unfold encK
    cases e : p.2 with
    | nil => exact absurd e h2
    | cons k r => exact ⟨_, _, rfl⟩
  · rw [depth_tup]
    have e : A.in1.units ≤ A.units + 1 := by first | exact Nat.le_refl _ | (show _ ≤ _; simp [Around.in1, Around.units])
    omega
  · obtain ⟨c, hc⟩ := sortedHeap_at (vs := M.map fun q => Value.ref q.1) (out := List.toArray out) hoL
    refine wpAny_pure ⟨_, rfl, q _ s1.heap.objs.size (List.toArray out) c M (fun b u e => ?_) g1 o1 hz pL hc (by simpa using of_each eo)⟩
    have e2 := k1 b u e
    have hlt := Heap.lt_size e2
    show (sortedHeap (s1.heap.push (seqObj "list" (M.map fun q => Value.ref q.1).toArray 0)) s1.heap.objs.size (M.map fun q => Value.ref q.1) (List.toArray out)).get? b = some u
    rw [sortedHeap_old (Nat.ne_of_lt hlt) (by rw [size_push']; exact Nat.lt_succ_of_lt hlt)]
    exact Heap.get?_push_of_some _ e2
end
section
variable {X : Cx}
/-- sorted(a set of tuples) -/
def rSortSetD (K : PySem.W.Frag) (P : Program) (w : World) : List V → Hp → VK → Prop := fun vs H Q => ∃ (a : Addr) (L : List (Addr × List Key)), vs = [V.ref a] ∧ H a = some (SetDO P w a L) ∧ Stand K H L ∧ Even L ∧
  ∀ (M : List (Addr × List Key)) (p : Addr), M.Perm L → H p = none → Q (.ref p) (upd H p (.lst ((M.mergeSort (PySem.W.dataLe false encK)).map fun q => V.ref q.1)))
theorem cr_sortSetD (hc : X.calm = true) (hu : X.A.units + 64 < cLine) : CallR X (.builtin "sorted") (rSortSetD X.K X.prog X.w) := by
  intro pins s σ H vs us Q I r h
  obtain ⟨a, L, rfl, ha, st, ev, q⟩ := h
  obtain ⟨es, ep, t, R⟩ : ∃ es ep t, Tb (mixKind X.prog X.w) s.heap a L es ep t := (I.hok a _ ha).1
  rw [Vals.ref1 r]
  refine sorted_set R (fun p hp => tup_inv I (st p hp)) (I.ok.hd hc) hu ev fun s' p out c M k g o hp pm hg hout => ?_
  have few := R.few
  have hlen : ((M.mergeSort (PySem.W.dataLe false encK)).map fun q => V.ref q.1).length ≤ sizeLine := by rw [List.length_map, List.length_mergeSort, pm.length_eq, sizeLine_eq]; omega
  have hn : H p = none := I.hok.fresh hp
  have hv : Vals ((M.mergeSort (PySem.W.dataLe false encK)).map fun q => V.ref q.1) out.toList := by rw [hout]; exact refs_vals _
  have J : Inv X pins σ (upd H p (.lst ((M.mergeSort (PySem.W.dataLe false encK)).map fun q => V.ref q.1))) { s with heap := s'.heap, gens := s'.gens, drawn := s'.drawn, toks := s'.toks } :=
    I.call (ch := []) (Un.laid k hp hn) (I.hok.laid k hp ⟨hlen, out.toList, c, hv, hg⟩) (by rw [g]; exact I.bare) (fun _ z => nomatch z)
  have e : s' = { s with heap := s'.heap, gens := s'.gens, drawn := s'.drawn, toks := s'.toks } := by
    cases s'; cases s; cases o; rfl
  rw [e]
  exact ⟨.ref p, _, J, rfl, q M p pm hn⟩
theorem setDK {K : PySem.W.Frag} {P : Program} {w : World} (hc : X.calm = true) (hu : X.A.units + 64 < cLine) (h : X.K = K := by rfl) (hp : X.prog = P := by rfl) (hw : X.w = w := by rfl) : CallR X (.type "set") (rSetD K P w) := by subst h hp hw; exact cr_setD hc hu
theorem sortSetDK {K : PySem.W.Frag} {P : Program} {w : World} (hc : X.calm = true) (hu : X.A.units + 64 < cLine) (h : X.K = K := by rfl) (hp : X.prog = P := by rfl) (hw : X.w = w := by rfl) : CallR X (.builtin "sorted") (rSortSetD K P w) := by subst h hp hw; exact cr_sortSetD hc hu
end
end SD
/-! == and != by an own class's __eq__ and __ne__, whatever they answer. -/
namespace DP
open PySem PySem.Spec PyProof.Rows L2
theorem rooms64 {A : Around} {k : Nat} (hr : Room k A) : A.units + 64 < cLine := by have := hr.un; omega
/-- what isinstance asks of an own class's instances -/
structure IsiC (K : PySem.W.Frag) (C : Addr) : Prop where
  ha : PySem.W.findIn K (.ref C) "__class__" = some (some (.builtin "object.__class__"))
  hn : PySem.W.specialIn K (.builtin "object.__class__") "__get__" = some (some (.builtin "getset_descriptor.__get__"))
  htk : PySem.W.takesIn K (.builtin "object.__class__") = some true
  hm : PySem.W.mroIn K C (.type "object") = some true
theorem kit_self (K : PySem.W.Frag) (C : Addr) : PySem.W.kitOne K (.ref C) (.ref C) = some true := if_pos (beq_self_eq_true _)
theorem kit_no {K : PySem.W.Frag} {S : Addr} {t : Value} (h0 : (t == .ref S) = false) (h2 : PySem.W.isClsIn K S = true) (h3 : PySem.W.typeIn K (.ref S) = some (.type "type")) {b : Option Bool} (h4 : PySem.W.subIn K t (.ref S) = b) : PySem.W.kitOne K t (.ref S) = b := by
  have e2 : ((PySem.W.clsIn K S).isSome && PySem.W.typeIn K (.ref S) == some (.type "type")) = true := by
    have h2' : (PySem.W.clsIn K S).isSome = true := h2
    rw [h2', h3] <;> rfl
  show (if (t == .ref S) = true then some true else if ((PySem.W.clsIn K S).isSome && PySem.W.typeIn K (.ref S) == some (.type "type")) = true then PySem.W.subIn K t (.ref S) else none) = b
  rw [h0, if_neg Bool.false_ne_true, if_pos e2]
  exact h4
section
variable {X : Cx} {CX : CXT} {C f : Addr} {fd : FuncData} {ps : List Str} {sp : Sp} {E : XK} {k : Nat} {op : CmpOp}
/-- the right side: of the same class, a list, a whole number -/
inductive Right (K : PySem.W.Frag) (C : Addr) (H : Hp) : V → Prop
  | ins {b dy gs} : H b = some (.ins C dy gs) → Right K C H (.ref b)
  | lst {b xs} : SqL K H b xs → PySem.W.notFirst K C (.type "list") = true → Right K C H (.ref b)
  | int {i} : PySem.W.notFirst K C (.type "int") = true → Right K C H (.int i)
  | any {v t} : TyX K H v (.type t) → PySem.W.notFirst K C (.type t) = true → Right K C H v
def rOwn (K : PySem.W.Frag) (C : Addr) (sp : Sp) (E : XK) : V → V → Hp → VK → Prop := fun x y H Q => ∃ a dx fs, x = .ref a ∧ H a = some (.ins C dx fs) ∧ Right K C H y ∧ sp [x, y] H (fun v H' => ∃ b, v = .bl b ∧ Q (.bl b) H') E
theorem own_run (F : FnOk X.prog X.w X.K X.mg X.base CX k f fd ps sp) (hs : PySem.W.findIn X.K (.ref C) (cmpInfo op).2.1 = some (some (.ref f))) (hf : PySem.W.isFn X.K (.ref f) = true) (hb : Binds X.K fd ps []) (hx : Passes CX X E) (hr : Room k X.A) : ∀ (pins : List (Addr × Obj)) (s : Shared) (σ : L2.St) (H : Hp) (x y : V) (v u : Value) (Q : VK), Inv X pins σ H s → RelV x v → RelV y u → rOwn X.K C sp E x y H Q → wpAny (model X.prog X.w) X.A (richCompare op v u) (EP X pins σ Q) X.xe s := by
  intro pins s σ H x y v u Q I rx ry hq
  obtain ⟨a, dx, fs, rfl, ha, hy, q⟩ := hq
  cases rx
  obtain ⟨mA, J, _⟩ := ins_get I.hok ha
  obtain ⟨od, J, _⟩ := J.look
  obtain ⟨m, hF⟩ := I.fr
  obtain ⟨tb, hl, hn⟩ : ∃ tb, PySem.W.Looks (model X.prog X.w) s.heap (typeOf u) tb ∧ PySem.W.notFirst X.K C tb = true := by
    cases hy with
    | ins h =>
      cases ry
      obtain ⟨mB, J', _⟩ := ins_get I.hok h
      obtain ⟨od', J', _⟩ := J'.look
      exact ⟨.ref C, J'.type, by simp [PySem.W.notFirst]⟩
    | lst h hn =>
      cases ry
      obtain ⟨its, rv, pl, hz⟩ := I.list h
      exact ⟨_, fun A Q E s1 k q => (by
        obtain ⟨o, ho, hc, r⟩ := pl.isList
        exact wpAny_typeOf_ref (k _ _ ho) (by rw [hc]; exact q)), hn⟩
    | int hn =>
      obtain ⟨t, rfl⟩ := ry
      exact ⟨_, fun A Q E s1 k q => wpAny_pure q, hn⟩
    | any h hn =>
      obtain ⟨Pk, kx, hp, _⟩ := kit_of I ry h
      exact ⟨_, kx.ty _ _ I.kIn hp, hn⟩
  refine PySem.W.cmp_K (op := op) (tb := tb) hr.units0 hF I.ok.mod.kin J hl hn hs hf ?_
  have r2 : Vals [V.ref a, y] [Value.ref a, u] := .cons rfl (.cons ry .nil)
  have hlen := F.len _ _ _ _ q
  refine wpAny_call (codeAny_mono (F.run X.A X.stack s H ⟨[.ref a, u], []⟩ [.ref a, u] [.ref a, y] _ E hr I.env0 (by
    have := hb s [.ref a, u] I.kIn (by simpa using hlen)
    simpa using this) r2 q) fun r s' hq => ?_)
  cases r with
  | error e => exact hx pins σ H s e s' I hq
  | ok fl =>
    cases fl with
    | ret w =>
      obtain ⟨z, H', I', rz, b, ez, q2⟩ := I.after hq
      subst ez
      cases rz
      exact ⟨.bl b, H', I', rfl, q2⟩
    | next => exact hq.elim
    | brk => exact hq.elim
    | cont => exact hq.elim
theorem op_ownEq (F : FnOk X.prog X.w X.K X.mg X.base CX k f fd ps sp) (hs : PySem.W.findIn X.K (.ref C) "__eq__" = some (some (.ref f))) (hf : PySem.W.isFn X.K (.ref f) = true) (hb : Binds X.K fd ps []) (hx : Passes CX X E) (hr : Room k X.A) : OpR X (compareOp .Eq) (rOwn X.K C sp E) := fun pins s σ H x y v u Q I rx ry hq =>
  own_run (op := .Eq) F hs hf hb hx hr pins s σ H x y v u Q I rx ry hq
theorem op_ownNe (F : FnOk X.prog X.w X.K X.mg X.base CX k f fd ps sp) (hs : PySem.W.findIn X.K (.ref C) "__ne__" = some (some (.ref f))) (hf : PySem.W.isFn X.K (.ref f) = true) (hb : Binds X.K fd ps []) (hx : Passes CX X E) (hr : Room k X.A) : OpR X (compareOp .NotEq) (rOwn X.K C sp E) := fun pins s σ H x y v u Q I rx ry hq =>
  own_run (op := .NotEq) F hs hf hb hx hr pins s σ H x y v u Q I rx ry hq
/-- in a comprehension: K named -/
theorem ownEqK {K : PySem.W.Frag} {P : Program} {w : World} {mg : Str → Option Value} {base : Heap} (F : FnOk P w K mg base CX k f fd ps sp) (hs : PySem.W.findIn K (.ref C) "__eq__" = some (some (.ref f))) (hf : PySem.W.isFn K (.ref f) = true) (hb : Binds K fd ps []) (hx : Passes CX X E) (hr : Room k X.A) (h1 : X.prog = P := by rfl) (h2 : X.w = w := by rfl) (h3 : X.K = K := by rfl) (h4 : X.mg = mg := by rfl) (h5 : X.base = base := by rfl) : OpR X (compareOp .Eq) (rOwn K C sp E) := by
  subst h1 h2 h3 h4 h5
  exact op_ownEq F hs hf hb hx hr
end
end DP
/-! An own error class over ValueError whose __init__ says super().__init__(a text), then self.what = what: what a call of it leaves. -/
namespace ERR
open PySem PySem.W PySem.Calls PyProof.Rows PySem.HandSPX
def eA (p1 p2 : Pos) : Arguments := { posonlyargs := [], args := [{ arg := "self", annotation := none, pos := p1 }, { arg := "what", annotation := none, pos := p2 }], vararg := none, kwonlyargs := [], kw_defaults := [], kwarg := none, defaults := [] }
def eB (txt : Str) (p : Nat → Pos) : List Stmt := [.Expr (.Call (.Attribute (.Call (.Name "super" (p 0)) [] [] (p 1)) "__init__" (p 2)) [.Constant (.str txt) 0 (p 3)] [] (p 4)) (p 5), .Assign [.Attribute (.Name "self" (p 6)) "what" (p 7)] (.Name "what" (p 8)) (p 9)]
def eS : Scope := { kind := .function, names := [("self", .local), ("what", .local), ("__class__", .free), ("super", .globalImplicit)], isGenerator := false, isCoroutine := false, more := [] }
structure ErrT (P : Program) (K : Frag) (C fI : Addr) : Prop where
  cls : ∃ nm q N bs bm sn sub ab col dd k0 k1 k2 k3 k5, K.lookup C = some (excClassObj nm q C N bs bm true sn sub ab col dd k0 k1 k2 k3 k5 "ValueError.__new__") ∧ refsVE bm = true
  sa : findIn K (.ref C) "__setattr__" = some (some (.builtin "object.__setattr__"))
  noW : findIn K (.ref C) "what" = some none
  subV : subIn K (.ref C) (.type "ValueError") = some true
  sup : ks_superIn K C C "__init__" = some (some (.builtin "ValueError.__init__"))
  opq : nsIn K cStatics "thirdparty.any" = some none
  me : mroIn K C (.ref C) = some true
  init : findIn K (.ref C) "__init__" = some (some (.ref fI))
  tyI : typeIn K (.ref fI) = some (.type "function")
  kC : keepIn K (.ref C) = true
  exC : subIn K (.ref C) (.type "BaseException") = some true
  tyC : typeIn K (.ref C) = some (.type "type")
  top : (P.main.scope.names.lookup ("super" : Str)).isSome = false
  fn : ∃ (oc : Value) (od an : Option Addr) (doc pm ct : Value) (osl : Array (Option Value)) (qual txt : Str) (cc cda : Addr) (p1 p2 : Pos) (p : Nat → Pos) (cl ccl : Value) (cld cdd : Option Addr) (csl ccs : Array (Option Value)) (vs : Array Value) (file : Str) (tf : Tok),
    K.lookup fI = some ⟨oc, od, .func (ksFn "__init__" qual (eA p1 p2) (eB txt p) eS .none .none doc pm an (.ref cda) ct cc), osl⟩ ∧ codeIn K (.ref cda) qual = true ∧
    (∀ env : Env, ∃ pl : Sem Bool, eval (.Call (.Attribute (.Call (.Name "super" (p 0)) [] [] (p 1)) "__init__" (p 2)) [.Constant (.str txt) 0 (p 3)] [] (p 4)) env = (do
      let ov ← attributeBase (.Call (.Name "super" (p 0)) [] [] (p 1)) "__init__" env (eval (.Call (.Name "super" (p 0)) [] [] (p 1)) env)
      standAt (p 2).atName
      let (f, first) ← holding [ov] (getMethod ov "__init__" pl)
      callWith (p 4) f first (backTo (p 4) (starEach [.Constant (.str txt) 0 (p 3)] env)) [])) ∧
    K.lookup cc = some ⟨cl, cld, .cell (some (.ref C)), csl⟩ ∧ K.lookup cda = some ⟨ccl, cdd, .fields vs, ccs⟩ ∧ vs[2]? = some (.str file tf) ∧ ((P.main.file : Str) == file) = true
/-- what __init__ leaves of a fresh exception at x -/
structure Left (h h' : Heap) (x C dx t1 : Addr) (v : Value) : Prop where
  keep : ∀ b o, b ≠ x → h.get? b = some o → h'.get? b = some o
  obj : h'.get? x = some { cls := .ref C, dict := some dx, data := .fields #[.ref t1, .none, .none, .none, .bool false, .none] }
  dbig : h.objs.size ≤ dx
  dne : dx ≠ x
  ns : h'.Ns1 dx (fun y => if y = "what" then some v else none)
section
variable {P : Program} {w : World} {A : Around} {E : Value → Shared → Prop} {R : Result → Shared → Prop} {s : Shared} {K : Frag} {mg mb : Str → Option Value} {C fI : Addr}
theorem mw_call {h : Heap} {g : Array GenState} {d : Drawn} {tk : Nat} {os : OsState} {u x t0 : Addr} {rest : List Value} {nm q : Str} {N : Addr} {bs bm : List Value} {sn : List Str} {sub : List Value} {ab : Bool} {col : Option Bool} {dd : Option Addr} {k0 k1 k2 k3 k5 : Option Value} {Q : Value → Shared → Prop}
    (hu : h.get? u = some (kxs_mw "ValueError.__init__" x)) (hx : h.get? x = some (excO C t0)) (hC : h.get? C = some (excClassObj nm q C N bs bm true sn sub ab col dd k0 k1 k2 k3 k5 "ValueError.__new__")) (hz : rest.length ≤ sizeLine)
    (fin : ∀ h', (∀ b o, b ≠ x → h.get? b = some o → h'.get? b = some o) → h'.get? x = some (excO C h.objs.size) → Q .none ⟨h', g, d, tk, os⟩) :
    wpAny (model P w) A (call (.ref u) rest) Q E ⟨h, g, d, tk, os⟩ := by
  have e1 : (Value.type "method-wrapper" == Value.type "method" || Value.type "method-wrapper" == Value.type "builtin_function_or_method" || Value.type "method-wrapper" == Value.type "method-wrapper") = true := by decide
  refine wpAny_call (codeAny_of_tree (show wpAny _ A.in1 (callAny (.ref u) ⟨rest, []⟩) _ _ _ from ?_))
  unfold callAny
  refine wpAny_bind (wpAny_load hu ?_)
  simp only [kxs_mw, e1, if_true]
  refine KFB.if_so (by decide) (wpAny_bind (check_bound_init F.excBase_ValueError.toExcCallFacts hC hx rfl ?_))
  refine wpAny_bind (wpAny_pure (wpAny_pure ⟨plainId_quiet F.excBase_ValueError.init.plain _, codeAny_builtin F.excBase_ValueError.initEntry ?_⟩))
  exact exc_init_tree (cls := .ref C) (t0 := t0) (dv := none) (c2 := .none) (c3 := .none) (b4 := .bool false) hx hz fun h' a1 a2 _ => fin h' a1 a2
theorem err_init (T : ErrT P K C fI) {x t0 : Addr} {v : Value} (X : K.In s.heap) (hlim : s.heap.NoLimit) (G : s.heap.Ns mainGlobals mg) (B : s.heap.Ns builtinsNs mb) (g0 : mg "super" = none) (b0 : mb "super" = some (.type "super"))
    (hx : s.heap.get? x = some (excO C t0)) (hnx : K.lookup x = none) (hroom : A.depth < recursionLimit)
    (hq : ∀ h' tk dx t1, Left s.heap h' x C dx t1 v → R (.ok (.ret .none)) { s with heap := h', toks := tk }) :
    codeAny (model P w) A (.call (.ref fI) ⟨[.ref x, v], []⟩) R s := by
  obtain ⟨oc, od, an, doc, pm, ct, osl, qual, txt, cc, cda, p1, p2, p, cl, ccl, cld, cdd, csl, ccs, vs, file, tf, ho, hcd, hev, hcell, hcode, hvs, hfile⟩ := T.fn
  obtain ⟨nm, q, N, bs, bm, sn, sub, ab, col, dd, k0, k1, k2, k3, k5, hC, hbm⟩ := T.cls
  refine ks_codeAny_call_defAt (fd := ksFn "__init__" qual (eA p1 p2) (eB txt p) eS .none .none doc pm an (.ref cda) ct cc) (body := eB txt p) (binds := [("self", .ref x), ("what", v)]) hroom (X _ _ ho) rfl hlim (codeRec_of X hcd) rfl (BindsTo.of_eq rfl) (show ∀ x ∈ eS.names, x.2 ≠ .cell by decide +kernel) (fun y hy => ?_) (fun h₁ hns k => ?_) rfl rfl rfl
  · simp only [List.mem_cons, List.mem_nil_iff, or_false] at hy
    rcases hy with rfl | rfl <;> rfl
  have X1 : K.In h₁ := X.keeps k
  have hx1 := k _ _ hx
  have hD1 := X1 _ _ hC
  have hxC : x ≠ C := fun e => by rw [e, hC] at hnx; cases hnx
  have hcl : clsIn K C = some { name := nm, bases := bs, mro := .ref C :: bm, ns := N, qualname := q, hasDict := true, slotNames := sn, subclasses := sub, abstract := ab, collection := col, hasDel := false } := by unfold clsIn; rw [hC] <;> rfl
  have I1 : InstAt h₁ x (excO C t0) C none := ⟨hx1, rfl, rfl, trivial⟩
  -- super().__init__(text)
  obtain ⟨pl, hev⟩ := hev (ksEnv qual eS s.heap.objs.size fI (.ref cda) cc)
  refine ks_wpAt_execs_cons (ks_wpAt_Expr_any (ks_wpAt_MethodCall (pl := pl) ?_ hev))
  refine ks_wpAt_super_base (env := ksEnv qual eS s.heap.objs.size fI (.ref cda) cc) rfl rfl rfl rfl (X1 _ _ ho) rfl rfl rfl (X1 _ _ hcode) rfl hvs hfile T.top ?_
  refine ks_loadName_global rfl rfl (loadGlobal_builtin (env := ksEnv qual eS s.heap.objs.size fI (.ref cda) cc) (G.keeps k) g0 (B.keeps k) b0 ⟨rfl, ?_⟩)
  refine wpAny_loadName_free rfl rfl rfl ⟨_, X1 _ _ hcell, rfl⟩ ?_
  refine wpAny_loadName_local (v := .ref x) rfl rfl hns rfl ?_
  refine ks_wpAny_isType_cls hD1 rfl ⟨rfl, ?_⟩
  refine ks_wpAny_call_super hD1 rfl hx1 rfl (fun c e => by cases e) (looks_mroIn X1 T.me) (fun h2 hso k2 => ?_)
  have X2 : K.In h2 := X1.keeps k2
  have I2 : InstAt h2 x (excO C t0) C none := ⟨k2 _ _ hx1, rfl, rfl, trivial⟩
  have hal : alongIn K "__init__" (((Value.ref C :: bm).dropWhile (· != .ref C)).drop 1) = some (some (.builtin "ValueError.__init__")) := by
    have h := T.sup
    unfold ks_superIn at h
    rw [hcl] at h
    exact h
  have hmr : ∀ {M : Model}, Looks M h2 (mroOf (.ref C)) (.ref C :: bm) := fun A Q E s k q => wpAny_bind ((looks_clsIn X2 hcl) A _ E s k (wpAny_pure q))
  refine kxs_getMethod kxs_ValueError hso (looks_opaque X2 T.opq) hmr rfl X2 hal (I2.type.andThen (looks_subIn X2 T.subV)) hxC (by decide) ?_
  refine kxs_callWith (i := "ValueError.__init__") (x := x) rfl (evalArgs_plain ?_)
  refine Calls.spliced_cons (Constant_str (k := 0) (pos := p 3) (Calls.spliced_nil ⟨?_, ?_⟩))
  · exact Heap.get?_push_size h2 rfl
  have kp : ∀ b o, h2.get? b = some o → (h2.push (kxs_mw "ValueError.__init__" x)).get? b = some o := fun b o e => Heap.get?_push_of_some _ e
  refine mw_call (Heap.get?_push_size h2 rfl) (kp _ _ (k2 _ _ hx1)) (kp _ _ (k2 _ _ hD1)) (by rw [sizeLine_eq]; exact (by decide : 1 ≤ 16777216)) fun h3 k3' hx3 => ?_
  have k3 : ∀ b o, b ≠ x → h₁.get? b = some o → h3.get? b = some o := fun b o hb e => k3' b o hb (kp _ _ (k2 _ _ e))
  have X3 : K.In h3 := fun a o e => k3 a o (fun z => by rw [z, hnx] at e; cases e) (X1 a o e)
  -- self.what = what
  have hxL : s.heap.objs.size ≠ x := Nat.ne_of_gt (Heap.lt_size hx)
  have hns3 : h3.Ns s.heap.objs.size (fun y => ([("self", Value.ref x), ("what", v)] : List (Str × Value)).reverse.lookup y) := by
    obtain ⟨oL, es, ep, hL, r⟩ := hns
    exact ⟨oL, es, ep, k3 _ _ hxL hL, r⟩
  have I3 : InstAt h3 x (excO C (h2.push (kxs_mw "ValueError.__init__" x)).objs.size) C none := ⟨hx3, rfl, rfl, trivial⟩
  refine ks_wpAt_execs_cons (wpAt_of_wpAny (plainObj_wpAny_Assign_Attribute ?_))
  refine wpAny_Name (wpAny_loadName_local (v := v) rfl rfl hns3 rfl ?_) (by decide)
  refine wpAny_Name (wpAny_loadName_local (v := .ref x) rfl rfl hns3 rfl ?_) (by decide)
  refine set_plain X3 I3 T.sa ?_
  refine exc_osa X3 hx3 hcl (show refsVE (.ref C :: bm) = true from hbm) rfl T.noW (fun h4 tk4 dx k4 dn dne hx4 hn4 => ?_)
  have sz : s.heap.objs.size ≤ h3.objs.size := Nat.le_of_lt hns3.lt
  refine wpAt_of_wpAny (wpAny_execs_nil (hq h4 tk4 dx _ ⟨fun b o hb e => k4 b o hb (k3 b o hb (k b o e)), hx4, Nat.le_trans sz dn, dne, hn4⟩))
end
end ERR
namespace ERR
open PySem PySem.W PySem.Calls PyProof.Rows PySem.HandSPX
/-- a made error -/
structure Made (h h' : Heap) (e C d : Addr) (v : Value) : Prop where
  keep : ∀ b o, h.get? b = some o → h'.get? b = some o
  new : h.objs.size ≤ e
  obj : ∃ t1 : Addr, h'.get? e = some { cls := .ref C, dict := some d, data := .fields #[.ref t1, .none, .none, .none, .bool false, .none] }
  dbig : h.objs.size ≤ d
  dne : d ≠ e
  ns : h'.Ns1 d (fun y => if y = "what" then some v else none)
section
variable {P : Program} {w : World} {A : Around} {R : Result → Shared → Prop} {s : Shared} {K : Frag} {mg mb : Str → Option Value} {C fI : Addr}
theorem err_made (T : ErrT P K C fI) {v : Value} (X : K.In s.heap) (hlim : s.heap.NoLimit) (G : s.heap.Ns mainGlobals mg) (B : s.heap.Ns builtinsNs mb) (g0 : mg "super" = none) (b0 : mb "super" = some (.type "super")) (hroom : A.depth + 1 < recursionLimit)
    (hq : ∀ h' tk e d, Made s.heap h' e C d v → R (.ok (.ret (.ref e))) { s with heap := h', toks := tk }) :
    codeAny (model P w) A (.call (.ref C) ⟨[v], []⟩) R s := by
  obtain ⟨nm, q, N, bs, bm, sn, sub, ab, col, dd, k0, k1, k2, k3, k5, hC, hbm⟩ := T.cls
  obtain ⟨hp, gs, dr, tk, os⟩ := s
  have up : ∀ b o, hp.get? b = some o → ((hp.push (kdv_tup [v])).push (excO C hp.objs.size)).get? b = some o := fun b o e => Heap.get?_push_of_some _ (Heap.get?_push_of_some _ e)
  have new : ((hp.push (kdv_tup [v])).push (excO C hp.objs.size)).get? (hp.objs.size + 1) = some (excO C hp.objs.size) := by heap_get
  have out : K.lookup (hp.objs.size + 1) = none := by
    cases e : K.lookup (hp.objs.size + 1) with
    | none => rfl
    | some o =>
      have hlt := Heap.lt_size (X _ _ e)
      have hlt' : hp.objs.size + 1 < hp.objs.size := hlt
      omega
  have one : [v].length ≤ sizeLine := by rw [sizeLine_eq]; exact (by decide : 1 ≤ 16777216)
  refine call_own F.excBase_ValueError (fun Y => refsVE_contains Y bm hbm) (X _ _ hC) (looks_findIn X T.init) (fun self => bind_fn X self T.tyI) one ?_
  refine err_init (s := ⟨(hp.push (kdv_tup [v])).push (excO C hp.objs.size), gs, dr, tk, os⟩) T (X.keeps up) (hlim.keeps up) (G.keeps up) (B.keeps up) g0 b0 new out hroom fun h' tk' dx t1 L => ?_
  have z : hp.objs.size + 1 + 1 ≤ dx := by
    have q := L.dbig
    first
      | exact q
      | simpa only [Heap.size_push] using q
  refine ⟨rfl, hq h' tk' (hp.objs.size + 1) dx ⟨fun b o e => L.keep b o (fun eb => ?_) (up b o e), Nat.le_succ _, ⟨t1, L.obj⟩, Nat.le_trans (Nat.le_add_right _ 2) z, L.dne, L.ns⟩⟩
  subst eb
  have hlt : hp.objs.size + 1 < hp.objs.size := Heap.lt_size e
  omega
end
end ERR
namespace L2
open PySem PySem.Spec PyProof.Rows
theorem relO_what {v : V} {u : Value} (r : RelV v u) (f : Str) : RelO (List.lookup f [(("what" : Str), v)]) (if f = "what" then some u else none) := by
  by_cases hw : f = "what"
  · rw [hw, if_pos rfl, show List.lookup ("what" : Str) [(("what" : Str), v)] = some v by simp [List.lookup]]
    exact r
  · have hb : (f == ("what" : Str)) = false := by simpa using hw
    rw [if_neg hw, show List.lookup f [(("what" : Str), v)] = none by simp [List.lookup, hb]]
    trivial
section
variable {X : Cx} {C fI : Addr}
/-- C(e): an error whose own dict is new and holds what -/
def tMkErr (C : Addr) (ta : TA) : St → Hp → XK → Prop := fun σ H Q => ta σ H fun vs H1 => ∃ v, vs = [v] ∧ ∀ d, H1 d = none → Q (.ref C) (some d) (upd H1 d (.xd [(("what" : Str), v)]))
theorem pmk_err {nm : Str} {a : Expr} {ta : TA} {p pos : Pos} {k : Nat} (T : ERR.ErrT X.prog X.K C fI) (hm : X.mg nm = some (.ref C)) (g0 : X.mg "super" = none) (hr : Room k X.A) (ha : PA X [a] ta) (hg : Gl X nm := by rfl) (hdb : (nm == ("__debug__" : Str)) = false := by decide)
    (he : starEach (a :: []) X.env = (false, eval a X.env) :: starEach [] X.env := by rfl) (hpl : (backTo pos (starEach [] X.env)).any (·.1) = false := by rfl) :
    PMk X (.Call (.Name nm p) [a] [] pos) (tMkErr C ta) := by
  intro pins s σ H Q I h
  refine wpAny_Call_Name_kw (ld_glob I hg hm ?_ hdb)
  refine PySem.W.callWith_K (h₀ := X.base) I.ok.mod.kin T.kC (thn (ha.run pos pins s σ H _ I h) fun us s1 ⟨vs, H1, I1, r1, v, ev, q1⟩ => ⟨I1.kIn, ?_⟩) he hpl
  subst ev
  obtain ⟨u, rfl, rv⟩ : ∃ u, us = [u] ∧ RelV v u := by
    cases r1 with
    | cons a b => cases b; exact ⟨_, rfl, a⟩
  obtain ⟨mb, hb, hbb⟩ := I1.mod.blt
  have lim := I1.nolimit
  obtain ⟨hp, gs, dr, tk, os⟩ := s1
  refine wpAny_call (ERR.err_made T I1.kIn lim (I1.mod.glob.keeps I1.bk) (hb.keeps I1.bk) g0 ((hbb "super" (by decide)).trans (by rfl)) (by have := hr.dp; omega) fun h' tk' e d M => ?_)
  obtain ⟨t1, hoe⟩ := M.obj
  obtain ⟨G', f1, f2⟩ := restrict h' fun b => decide (b ≠ e)
  have at_ : ∀ b, b ≠ e → G'.get? b = h'.get? b := fun b hb => f1 b (decide_eq_true hb)
  have gone : G'.get? e = none := f2 e (by simp)
  have lt : ∀ b o, hp.get? b = some o → b ≠ e := fun b o q z => by
    have h1 := Heap.lt_size q
    have h2 := M.new
    rw [z] at h1
    exact absurd h1 (Nat.not_lt.mpr h2)
  have ob : ObjOk X.prog X.w (upd H1 d (.xd [(("what" : Str), v)])) G' d (.xd [(("what" : Str), v)]) := ⟨_, M.ns.at (fun o q => (at_ d M.dne).trans q), fun f => relO_what rv f⟩
  have J : Inv X pins σ (upd H1 d (.xd [(("what" : Str), v)])) ⟨G', gs, dr, tk', os⟩ := I1.laid (t' := tk') (fun b o q => (at_ b (lt b o q)).trans (M.keep b o q)) M.dbig ob
  have nA : (upd H1 d (.xd [(("what" : Str), v)])) e = none := by rw [upd_ne (Ne.symm M.dne)]; exact I1.hok.fresh M.new
  refine ⟨e, _, _, ⟨G', gs, dr, tk', os⟩, _, .ref C, some d, rfl, J, fun b o q => ?_, gone, hoe, ⟨rfl, rfl⟩, rfl, rfl, nA, rfl, I1.bare, raises_own T.exC T.tyC, q1 d (I1.hok.fresh M.dbig)⟩
  by_cases hbe : b = e
  · rw [hbe] at q; exact absurd (q.symm.trans gone) (by simp)
  · exact (at_ b hbe).symm.trans q
end
end L2
/-! The facts of an own error class out of the written part, one by one. -/
namespace ERR
open PySem PySem.W PySem.Calls PyProof.Rows PySem.HandSPX
/-- where the parts of such an __init__ stand -/
def ePos (b : List Stmt) : Nat → Pos := match b with
  | [.Expr (.Call (.Attribute (.Call (.Name _ p0) _ _ p1) _ p2) [.Constant _ _ p3] _ p4) p5, .Assign [.Attribute (.Name _ p6) _ p7] (.Name _ p8) p9] => fun n => match n with
    | 0 => p0 | 1 => p1 | 2 => p2 | 3 => p3 | 4 => p4 | 5 => p5 | 6 => p6 | 7 => p7 | 8 => p8 | _ => p9
  | _ => fun _ => ⟨0, 0, 0, 0⟩
def eTxt (b : List Stmt) : Str := match b with
  | [.Expr (.Call _ [.Constant (.str x) _ _] _ _) _, _] => x
  | _ => ""
/-- an error of the class at S is what «except S» names -/
theorem exm_self {K : Frag} {S : Addr} (h1 : subIn K (.ref S) (.type "BaseException") = some true) (h2 : isClsIn K S = true) (h3 : typeIn K (.ref S) = some (.type "type")) (h4 : subIn K (.ref S) (.ref S) = some true) :
    exmOne K (.ref S) (.ref S) = some true := by
  have e1 : (subIn K (.ref S) (.type "BaseException") == some true) = true := by rw [h1] <;> rfl
  have e2 : ((clsIn K S).isSome && typeIn K (.ref S) == some (.type "type")) = true := by
    have h2' : (clsIn K S).isSome = true := h2
    rw [h2', h3] <;> rfl
  show (if (subIn K (.ref S) (.type "BaseException") == some true) = true then (if ((clsIn K S).isSome && typeIn K (.ref S) == some (.type "type")) = true then subIn K (.ref S) (.ref S) else none) else none) = some true
  rw [if_pos e1, if_pos e2]
  exact h4
theorem errT_mk {P : Program} {K : Frag} {C fI : Addr} (s : Stmt) {qual : Str}
    {nm q : Str} {N : Addr} {bs bm : List Value} {sn : List Str} {sub : List Value} {ab : Bool} {col : Option Bool} {dd : Option Addr} {k0 k1 k2 k3 k5 : Option Value}
    {oc doc pm ct cl ccl : Value} {od an cld cdd : Option Addr} {osl csl ccs : Array (Option Value)} {cc cda : Addr} {vs : Array Value} {file : Str} {tf : Tok}
    (xL : K.lookup C = some (excClassObj nm q C N bs bm true sn sub ab col dd k0 k1 k2 k3 k5 "ValueError.__new__")) (bmv : refsVE bm = true)
    (sa : findIn K (.ref C) "__setattr__" = some (some (.builtin "object.__setattr__")))
    (noW : findIn K (.ref C) "what" = some none)
    (subV : subIn K (.ref C) (.type "ValueError") = some true)
    (sup : ks_superIn K C C "__init__" = some (some (.builtin "ValueError.__init__")))
    (opq : nsIn K cStatics "thirdparty.any" = some none)
    (me : mroIn K C (.ref C) = some true)
    (init : findIn K (.ref C) "__init__" = some (some (.ref fI)))
    (tyI : typeIn K (.ref fI) = some (.type "function"))
    (kC : keepIn K (.ref C) = true)
    (exC : subIn K (.ref C) (.type "BaseException") = some true)
    (tyC : typeIn K (.ref C) = some (.type "type"))
    (top : (P.main.scope.names.lookup ("super" : Str)).isSome = false)
    (l : K.lookup fI = some ⟨oc, od, .func (ksFn "__init__" qual (L2.defArgs s) (L2.defBody s) (L2.defScope s) .none .none doc pm an (.ref cda) ct cc), osl⟩)
    (hA : ∃ p1 p2, L2.defArgs s = eA p1 p2) (hB : L2.defBody s = eB (eTxt (L2.defBody s)) (ePos (L2.defBody s))) (hS : L2.defScope s = eS)
    (hev : ∀ env : Env, ∃ pl : Sem Bool, eval (.Call (.Attribute (.Call (.Name "super" (ePos (L2.defBody s) 0)) [] [] (ePos (L2.defBody s) 1)) "__init__" (ePos (L2.defBody s) 2)) [.Constant (.str (eTxt (L2.defBody s))) 0 (ePos (L2.defBody s) 3)] [] (ePos (L2.defBody s) 4)) env = (do
      let ov ← attributeBase (.Call (.Name "super" (ePos (L2.defBody s) 0)) [] [] (ePos (L2.defBody s) 1)) "__init__" env (eval (.Call (.Name "super" (ePos (L2.defBody s) 0)) [] [] (ePos (L2.defBody s) 1)) env)
      standAt (ePos (L2.defBody s) 2).atName
      let (f, first) ← holding [ov] (getMethod ov "__init__" pl)
      callWith (ePos (L2.defBody s) 4) f first (backTo (ePos (L2.defBody s) 4) (starEach [.Constant (.str (eTxt (L2.defBody s))) 0 (ePos (L2.defBody s) 3)] env)) []))
    (c : codeIn K (.ref cda) qual = true)
    (lc : K.lookup cc = some ⟨cl, cld, .cell (some (.ref C)), csl⟩) (ld : K.lookup cda = some ⟨ccl, cdd, .fields vs, ccs⟩) (hv : vs[2]? = some (.str file tf)) (hf : ((P.main.file : Str) == file) = true) : ErrT P K C fI := by
  obtain ⟨p1, p2, hA⟩ := hA
  rw [hA, hS] at l
  generalize eTxt (L2.defBody s) = txt at hB hev
  generalize ePos (L2.defBody s) = p at hB hev
  rw [hB] at l
  exact { cls := ⟨nm, q, N, bs, bm, sn, sub, ab, col, dd, k0, k1, k2, k3, k5, xL, bmv⟩, sa := sa, noW := noW, subV := subV, sup := sup, opq := opq, me := me, init := init, tyI := tyI, kC := kC, exC := exC, tyC := tyC, top := top,
          fn := ⟨oc, od, an, doc, pm, ct, osl, qual, txt, cc, cda, p1, p2, p, cl, ccl, cld, cdd, csl, ccs, vs, file, tf, l, c, hev, lc, ld, hv, hf⟩ }
end ERR
/-! A caught error that stays: tracked from the except suite on, asked for its class and its fields wherever it is held. -/
namespace EK
open PySem PySem.Spec PyProof.Rows L2
/-- an error of the class cls at a, its own dict d -/
def ExV (cls : Value) (d : Option Addr) (a : Addr) : HO := .ext fun h => ∃ (oe : Obj) (vs : Array Value), h.get? a = some oe ∧ Zc cls d oe ∧ oe.data = .fields vs
theorem exV_ok {P : Program} {w : World} {H : Hp} {h : Heap} {a : Addr} {cls : Value} {d : Option Addr} {oe : Obj} {vs : Array Value} (e : h.get? a = some oe) (z : Zc cls d oe) (dt : oe.data = .fields vs) : ObjOk P w H h a (ExV cls d a) :=
  ⟨⟨oe, vs, e, z, dt⟩, ⟨oe, e⟩, fun _ _ ⟨o, v, q, r⟩ k => ⟨o, v, k o q, r⟩⟩
section
variable {X : Cx} {pins : List (Addr × Obj)} {σ : L2.St} {H : Hp} {s : Shared}
/-- an object that wasn't there at the entry is tracked from now on -/
theorem track {a : Addr} {o : HO} (I : Inv X pins σ H s) (na : H a = none) (n0 : X.s_0.heap.get? a = none) (nL : a ≠ X.env.locals) (nC : ∀ x c, X.env.cells.lookup x = some c → c ≠ a) (nP : ∀ p ∈ X.pn ++ pins, p.1 ≠ a)
    (ok : ObjOk X.prog X.w (upd H a o) s.heap a o) : Inv X pins σ (upd H a o) s := by
  have keep : ∀ {b : Addr} {u : HO}, H b = some u → upd H a o b = some u := fun {b u} e => by rw [upd_ne (ne_of_none e na)]; exact e
  refine ⟨I.ok, I.os, I.bare, ⟨I.base.keep, I.base.slot, fun b u e n q => ?_, I.base.there, fun b xs e => keep (I.base.tups b xs e), fun b u v e => keep (I.base.frzs b u v e), fun b ps e => ?_⟩, I.loc, I.cell, ?_, fun x c e => ?_, fun p hp => ?_, I.hok.laidN (fun _ _ e => e) na ok, I.len⟩
  · rw [upd_ne (fun z => by rw [z, n0] at e; cases e)]
    exact I.base.free b u e n q
  · obtain ⟨m, z⟩ := I.base.tbls b ps e
    exact ⟨m, keep z⟩
  · rw [upd_ne (Ne.symm nL)]; exact I.free
  · rw [upd_ne (nC x c e)]; exact I.freeC x c e
  · obtain ⟨e, n, ne, nf, dd⟩ := I.pin p hp
    exact ⟨e, by rw [upd_ne (nP p hp)]; exact n, ne, nf, dd⟩
abbrev suite0 (X : Cx) (a : Addr) (pn : List (Addr × Obj)) : Cx := X.suite a pn
theorem to_suite (I : Inv X pins σ H s) (a : Addr) : Inv (X.suite a (X.pn ++ pins)) [] σ H s :=
  ⟨I.ok.suite _ _, I.os, I.bare, I.base, I.loc, I.cell, I.free, I.freeC, fun p hp => by rw [List.append_nil] at hp; exact I.pin p hp, I.hok, I.len⟩
theorem of_suite {a : Addr} {pn' : List (Addr × Obj)} (I : Inv (X.suite a (X.pn ++ pins)) pn' σ H s) (ok : X.Ok) : Inv X pins σ H s :=
  ⟨ok, I.os, I.bare, I.base, I.loc, I.cell, I.free, I.freeC, fun p hp => I.pin p (List.mem_append_left _ hp), I.hok, I.len⟩
end
/-- what 'except x as n' wishes of an error of the body: slot i is n's, the error tracked -/
def wKeep (K : PySem.W.Frag) (c : Value) (i : Nat) (ts : TS) (Wout : WX) (D : Ends) : WX := fun cls d σ H =>
  ∃ b, PySem.W.exmOne K cls c = some b ∧ (b = true → ∀ a, H a = none → ts { nx := fun σ' H' => D.nx (σ'.set i none) H', rt := D.rt, bk := fun σ' H' => D.bk (σ'.set i none) H', ct := fun σ' H' => D.ct (σ'.set i none) H' } (σ.set i (some (.ref a))) (upd H a (ExV cls d a))) ∧
    (b = false → Wout cls d σ H)
section
variable {X : Cx} {x n : Str} {c : Value} {i : Nat} {body suite : List Stmt} {b₀ : Stmt} {np pos pos' : Pos} {tb : WX → TS} {ts : TS} {Wout : WX}
theorem ps_try_keep (hs : X.stack = X.env :: X.outer) (hf : X.env.frame = some X.env.locals) (hex : X.ex = []) (hN : X.N.Nodup) (hi : X.N[i]? = some n) (hln : X.env.kindOf n = some .local) (hc : Names X x c) (tk : Takes X Wout)
    (hb : ∀ (W : WX) (pn : List (Addr × Obj)) (xe : Value → Shared → Prop), Takes (X.tr pn xe) W → PassesOwn (model X.prog X.w) X.A X.env xe → PSs (X.tr pn xe) body (tb W))
    (hsu : ∀ (a : Addr) (pn : List (Addr × Obj)), PSs (X.suite a pn) (b₀ :: suite) ts) :
    PS X (.Try body [.ExceptHandler (some (.Name x np)) (some n) (b₀ :: suite) pos'] [] [] pos) (fun D σ H => tb (wKeep X.K c i ts Wout D) D σ H) := by
  refine ⟨fun pins s σ H D I h => ?_⟩
  have ok := I.ok
  have hfr : X.A.frames = some (X.env :: X.outer) := by rw [ok.frames, hs]
  have hloc : Loc X.env.scope n := .inl hln
  refine wpAny_Try_except (wpAny_mono ((hb (wKeep X.K c i ts Wout D) (X.pn ++ pins) (fun e s₁ => wpAny (model X.prog X.w) X.A (noteFrame e X.env) (fun _ s₂ => wpAny (model X.prog X.w) X.A (setFlight e none) (fun _ s₃ =>
    wpAny (model X.prog X.w) X.A (handleBy e X.env [.ExceptHandler (some (.Name x np)) (some n) (b₀ :: suite) pos']) (SP X pins D) X.xe s₃) X.xe s₂) X.xe s₁) (fun u s' xx => ?_) PassesOwn.looking).run [] s σ H D (I.toTry _) h) (fun f s1 hsp => ?_) (fun e s1 he => he))
  · obtain ⟨a, B, sI, pins', σ', H', cls, d, rfl, J', nb, up, sky, na, os, ag, b, hb1, hyes, hno⟩ := xx
    have J : Inv X pins σ' H' sI := J'.ofTry ok
    have sky' : Sky B (X.env :: X.outer) a (Zc cls d) X.env.locals s'.heap := by rw [← hs]; exact sky
    show wpAny (model X.prog X.w) X.A (noteFrame (.ref a) X.env) _ _ _
    refine Sky.land Zc.steady hfr hf sky' fun h3 fl3 up3 => ?_
    have J3 : Inv X pins σ' H' { s' with heap := h3 } := J.landed nb fl3.1 (up.trans up3) os ag
    obtain ⟨oe3, vs3, he3, hz3, hd3⟩ := fl3.there
    have nfr : a ∉ frs (X.env :: X.outer) := fun hm => by
      obtain ⟨_, o', e', hnf⟩ := fl3.2.2.1.mem hm
      rw [he3] at e'; cases e'
      exact hnf _ hd3
    have nL : a ≠ X.env.locals := fun z => nfr (List.mem_filterMap.mpr ⟨X.env, List.mem_cons_self, by rw [hf, z]⟩)
    have nF : a ∉ X.fs := fun hm => by
      obtain ⟨e, he, q⟩ := List.mem_filterMap.mp hm
      exact nfr (List.mem_filterMap.mpr ⟨e, List.mem_cons_of_mem _ he, q⟩)
    have nB : B.get? a = none := fl3.2.1
    -- it is none of what stood
    have nI : ∀ b o, sI.heap.get? b = some o → b ∉ frs X.stack → b ≠ a := fun b o e hb z => by
      have q := nb b o e hb
      rw [z, nB] at q; cases q
    have nS : a ∉ frs X.stack := by rw [hs]; exact nfr
    have n0 : X.s_0.heap.get? a = none := by
      cases e : X.s_0.heap.get? a with
      | none => rfl
      | some o =>
        obtain ⟨o2, e2⟩ := J.base.there a o e (by rw [hex]; exact fun z => nomatch z)
        exact absurd rfl (nI a o2 e2 nS)
    have nP : ∀ p ∈ X.pn ++ pins, p.1 ≠ a := fun p hp z => by
      obtain ⟨e, _, _, _, _⟩ := J.pin p hp
      exact nI _ _ e (by rw [z]; exact nS) z
    have nC : ∀ x c, X.env.cells.lookup x = some c → c ≠ a := fun x c e z => by
      obtain ⟨v, o, ho, hd⟩ := J3.cell x c e
      rw [z, he3] at ho
      rw [← Option.some.inj ho, hd3] at hd
      exact nomatch hd
    have S3 := J3.suite he3 hd3 na nL nF
    refine wpAny_handleBy_cons (codeAny_handlers_test ?_) (by intro q; cases q)
    have LT : PySem.W.Looks (model X.prog X.w) h3 (typeOf (.ref a)) cls := fun A Q E s k q => wpAny_typeOf_ref (k _ _ he3) (by rw [hz3.1]; exact q)
    have LM := PySem.W.exm_one (M := model X.prog X.w) (J3.kIn) LT hb1
    have test : ∀ {Q : Value → Shared → Prop} {E : Value → Shared → Prop}, Q c { s' with heap := h3 } → wpAny (model X.prog X.w) (X.A.mark (some (.ref a))) (eval (.Name x np) X.env) Q E { s' with heap := h3 } := fun {Q E} q => by
      obtain ⟨hg, hdbg, hm | ⟨hm, hv, hnn⟩⟩ := hc
      · exact ld_glob (X := X.suite a ((a, oe3) :: (X.pn ++ pins))) S3 hg hm q hdbg
      · exact ld_blt (X := X.suite a ((a, oe3) :: (X.pn ++ pins))) S3 hg hm hv q hnn hdbg
    refine test (LM.here ?_)
    cases b with
    | true =>
      refine codeAny_handlers_suite_as (HandSPX.lands_againZ fl3 fun h4 fl4 up4 => ?_)
      have J4 : Inv X pins σ' H' { s' with heap := h4 } := J.landed nb fl4.1 ((up.trans up3).trans up4) os ag
      obtain ⟨oe4, vs4, he4, hz4, hd4⟩ := fl4.there
      have J5 := track (o := ExV cls d a) J4 na n0 nL nC nP (exV_ok he4 hz4 hd4)
      refine store_ok (X := X.suite a (X.pn ++ pins)) (v := .ref a) (to_suite J5 a) hN hi hloc rfl (fun s5 S5 => ?_) (.inr hln)
      refine wpAny_mono ((hsu a (X.pn ++ pins)).run [] s5 _ _ _ S5 (hyes rfl a na)) (fun f s6 hsp => ?_) (fun _ _ z => False.elim z)
      have leave : ∀ {σ6 : L2.St} {H6 : Hp} {Q : Shared → Prop}, Inv (X.suite a (X.pn ++ pins)) [] σ6 H6 s6 → (∀ s7, Inv X pins (σ6.set i none) H6 s7 → Q s7) →
          wpAny (model X.prog X.w) X.A (do bindName X.env n .none; unbindBehindTheSuite X.env n pos') (fun _ s7 => Q s7) X.xe s6 := fun {σ6 H6 Q} S6 hq => gone_ok (of_suite S6 ok) hN hi hln hq
      cases f with
      | next =>
        obtain ⟨σ6, H6, S6, q6⟩ := hsp
        exact leave S6 fun s7 J7 => ⟨_, _, J7, q6⟩
      | brk =>
        obtain ⟨σ6, H6, S6, q6⟩ := hsp
        exact leave S6 fun s7 J7 => ⟨_, _, J7, q6⟩
      | cont =>
        obtain ⟨σ6, H6, S6, q6⟩ := hsp
        exact leave S6 fun s7 J7 => ⟨_, _, J7, q6⟩
      | ret u =>
        obtain ⟨v6, σ6, H6, S6, r6, q6⟩ := hsp
        exact leave S6 fun s7 J7 => ⟨_, _, _, J7, r6, q6⟩
    | false =>
      show wpAny _ X.A (handleBy (.ref a) X.env []) _ _ _
      refine wpAny_handleBy_nil ?_
      obtain ⟨k1, k2, k3, oe, vs, T, oT, ts', he, hz, hd, h1, hr⟩ := id fl3
      unfold PySem.passOn
      refine wpAny_bind (wpAny_field he hd h1 ?_)
      rw [if_neg (show ¬ ((Value.ref T == Value.none) = true) from by simp)]
      have fin : wpAny (model X.prog X.w) X.A (setFlight (.ref a) X.env.frame) (fun _ s4 => wpAny (model X.prog X.w) X.A (throw (.ref a) : Sem Flow) (SP X pins D) X.xe s4) X.xe { s' with heap := h3 } := by
        rw [hf]
        refine HandSPX.setFlight_upZ fl3 fun h4 hh4 up4 => wpAny_throw (tk _ _ ⟨a, B, sI, pins, σ', H', cls, d, rfl, J, nb, (up.trans up3).trans up4, .inr (.inr (by rw [hs]; exact hh4)), na, os, ag, hno rfl⟩)
      first
        | exact wpAny_bind (wpAny_pure (wpAny_bind fin))
        | exact wpAny_bind fin
  · cases f with
    | next =>
      obtain ⟨σ', H', J', q⟩ := hsp
      exact wpAny_execs_nil ⟨σ', H', J'.ofTry ok, q⟩
    | brk =>
      obtain ⟨σ', H', J', q⟩ := hsp
      exact ⟨σ', H', J'.ofTry ok, q⟩
    | cont =>
      obtain ⟨σ', H', J', q⟩ := hsp
      exact ⟨σ', H', J'.ofTry ok, q⟩
    | ret u =>
      obtain ⟨v, σ', H', J', r, q⟩ := hsp
      exact ⟨v, σ', H', J'.ofTry ok, r, q⟩
end
/-- what an own error class's instances are asked -/
structure ExF (K : PySem.W.Frag) (C : Addr) : Prop where
  ga : PySem.W.findIn K (.ref C) "__getattribute__" = some (some (.builtin "BaseException.__getattribute__"))
  gg : PySem.W.findIn K (.ref C) "__getattr__" = some none
  exC : PySem.W.subIn K (.ref C) (.type "BaseException") = some true
  hdC : PySem.W.hasDictIn K C = true
  ha : PySem.W.findIn K (.ref C) "__class__" = some (some (.builtin "object.__class__"))
  hn : PySem.W.specialIn K (.builtin "object.__class__") "__get__" = some (some (.builtin "getset_descriptor.__get__"))
  htk : PySem.W.takesIn K (.builtin "object.__class__") = some true
  hm : PySem.W.mroIn K C (.type "object") = some true
  what : PySem.W.findIn K (.ref C) "what" = some none
section
variable {X : Cx} {K : PySem.W.Frag}
theorem ExF.cl {K : PySem.W.Frag} {C : Addr} (F : ExF K C) : (PySem.W.clsIn K C).isSome = true := by
  have h := F.hdC
  unfold PySem.W.hasDictIn at h
  cases e : PySem.W.clsIn K C with
  | none => rw [e] at h; cases h
  | some _ => rfl
/-- an error held at a, of the class at C, its fields fs -/
def Held (K : PySem.W.Frag) (H : Hp) (a C : Addr) (fs : List (Str × V)) : Prop := ∃ dd, H a = some (ExV (.ref C) (some dd) a) ∧ H dd = some (.xd fs) ∧ ExF K C
theorem Held.same {K : PySem.W.Frag} {H H' : Hp} {a C : Addr} {fs : List (Str × V)} (h : Held K H a C fs) (S : Same H H') : Held K H' a C fs := by
  obtain ⟨dd, h1, h2, h3⟩ := h
  exact ⟨dd, S _ _ h1, S _ _ h2, h3⟩
theorem Held.at {pins : List (Addr × Obj)} {σ : L2.St} {H : Hp} {s : Shared} {a C : Addr} {fs : List (Str × V)} (h : Held X.K H a C fs) (I : Inv X pins σ H s) :
    ∃ oe od, PySem.W.InstAt s.heap a oe C (some od) ∧ ∀ f v, fs.lookup f = some v → ∃ u, PySem.W.lookIn f od = some (some u) ∧ RelV v u := by
  obtain ⟨dd, h1, h2, F⟩ := h
  obtain ⟨oe, vs, e, z, dt⟩ : ∃ (oe : Obj) (vs : Array Value), s.heap.get? a = some oe ∧ Zc (.ref C) (some dd) oe ∧ oe.data = .fields vs := (I.hok a _ h1).1
  have hx : ObjOk X.prog X.w H s.heap dd (.xd fs) := I.hok dd _ h2
  obtain ⟨mA, hns, hr⟩ := hx
  obtain ⟨od, ho, hl⟩ := lookIn_ns hns
  refine ⟨oe, od, ⟨e, z.1, by unfold PySem.W.notCls; rw [dt] <;> rfl, by rw [z.2]; exact ho⟩, fun f v l => ?_⟩
  obtain ⟨u, hu, ru⟩ := RelO.some_of (v := v) (o := mA f) (by rw [← l]; exact hr f)
  exact ⟨u, by rw [hl, hu], ru⟩
/-- isinstance(an error, a class) -/
def rIsiE (K : PySem.W.Frag) : List V → Hp → VK → Prop := fun xs H Q => ∃ (a C : Addr) (fs : List (Str × V)) (c : V) (u : Value) (b : Bool), xs = [.ref a, c] ∧ Held K H a C fs ∧ ClsV c u ∧ PySem.W.kitOne K (.ref C) u = some b ∧ Q (.bl b) H
/-- isinstance(an error, a tuple of classes that was just laid) -/
def rIsiET (K : PySem.W.Frag) : List V → Hp → VK → Prop := fun xs H Q => ∃ (a C : Addr) (fs : List (Str × V)) (tp : Addr) (cs : List V) (us : List Value) (b : Bool), xs = [.ref a, .ref tp] ∧ Held K H a C fs ∧ H tp = some (.tup cs) ∧ Paired ClsV cs us ∧ PySem.W.kitAny K (.ref C) us = some b ∧ Q (.bl b) H
theorem call_isiE (h : X.K = K := by rfl) : CallR X (.builtin "isinstance") (rIsiE K) := by
  subst h
  intro pins s σ H xs us Q I r h
  obtain ⟨a, C, fs, c, u, b, rfl, hh, k, e, q⟩ := h
  obtain ⟨u1, u2, rfl, r1, r2⟩ := vals2 r
  cases (show u1 = Value.ref a from r1)
  have e2 := k.eq r2
  subst e2
  obtain ⟨oe, od, J, _⟩ := hh.at I
  obtain ⟨_, _, _, F⟩ := hh
  exact PySem.W.kia_one (PySem.W.kitx_exc F.cl F.ga F.gg F.exC F.ha F.hn F.htk F.hm) I.kIn J e (fun z => nomatch z) fun tk => ⟨.bl b, H, I.tok tk, rfl, q⟩
theorem call_isiET (h : X.K = K := by rfl) : CallR X (.builtin "isinstance") (rIsiET K) := by
  subst h
  intro pins s σ H xs us Q I r h
  obtain ⟨a, C, fs, tp, cs, ws, b, rfl, hh, hT, k, e, q⟩ := h
  obtain ⟨u1, u2, rfl, r1, r2⟩ := vals2 r
  cases (show u1 = Value.ref a from r1)
  cases (show u2 = Value.ref tp from r2)
  obtain ⟨oe, od, J, _⟩ := hh.at I
  obtain ⟨_, _, _, F⟩ := hh
  obtain ⟨_, its, rv, o, h1, h2, n, h3⟩ := (show ObjOk X.prog X.w H s.heap tp (.tup cs) from I.hok tp _ hT)
  have e3 := ClsV.all k rv
  subst e3
  obtain ⟨oc, od2, dt, sl⟩ := o
  simp only at h2 h3
  subst h2 h3
  exact PySem.W.kia_tup (PySem.W.kitx_exc F.cl F.ga F.gg F.exC F.ha F.hn F.htk F.hm) I.kIn J h1 e (fun z => nomatch z) fun tk => ⟨.bl b, H, I.tok tk, rfl, q⟩
/-- e.f of an error that is held -/
def tExF (K : PySem.W.Frag) (f : Str) (te : TE) : TE := fun σ H Q => te σ H fun x H1 => ∃ (a C : Addr) (fs : List (Str × V)) (v : V), x = .ref a ∧ Held K H1 a C fs ∧ PySem.W.findIn K (.ref C) f = some none ∧ fs.lookup f = some v ∧ Q v H1
theorem pe_exf {e : Expr} {te : TE} {pos : Pos} {n : Str} (he : PE X e te) (hb : attributeBase e n X.env (eval e X.env) = eval e X.env := by rfl) (h : X.K = K := by rfl) : PE X (.Attribute e n pos) (tExF K n te) := by
  subst h
  refine ⟨fun pins s σ H Q I h => attr_of hb (thn (he.run pins s σ H _ I h) fun u s1 hh => ?_)⟩
  obtain ⟨x, H1, I1, rx, a, C, fs, v, ex, hd, hno, l, q⟩ := hh
  subst ex
  obtain rfl : u = Value.ref a := rx
  obtain ⟨oe, od, J, hl⟩ := hd.at I1
  obtain ⟨_, _, _, F⟩ := hd
  obtain ⟨u, hu, ru⟩ := hl _ _ l
  exact HandSPX.exc_get I1.kIn J F.ga F.gg F.exC (PySem.W.findObj_own F.hdC hno rfl hu) (handed_of ru) ⟨v, H1, I1.tok _, ru, q⟩
end
end EK
/-! What an own error is, asked by classes above it, beside it, and built in. -/
namespace ERR
open PySem PySem.W PyProof.Rows L2
theorem exm_of {K : Frag} {E S : Addr} (h1 : subIn K (.ref S) (.type "BaseException") = some true) (h2 : isClsIn K S = true) (h3 : typeIn K (.ref S) = some (.type "type")) (h4 : subIn K (.ref E) (.ref S) = some true) :
    exmOne K (.ref E) (.ref S) = some true := by
  have e1 : (subIn K (.ref S) (.type "BaseException") == some true) = true := by rw [h1] <;> rfl
  have e2 : ((clsIn K S).isSome && typeIn K (.ref S) == some (.type "type")) = true := by
    have h2' : (clsIn K S).isSome = true := h2
    rw [h2', h3] <;> rfl
  show (if (subIn K (.ref S) (.type "BaseException") == some true) = true then (if ((clsIn K S).isSome && typeIn K (.ref S) == some (.type "type")) = true then subIn K (.ref E) (.ref S) else none) else none) = some true
  rw [if_pos e1, if_pos e2]
  exact h4
theorem kit_blt {K : Frag} {E : Addr} {T : String} {b : Bool} (hm : kitMeta T = true) (h : subIn K (.ref E) (.type T) = some b) : kitOne K (.ref E) (.type T) = some b := by
  show (if ((Value.ref E) == .type T) = true then some true else (if kitMeta T = true then subIn K (.ref E) (.type T) else none)) = some b
  rw [if_neg (show ¬ ((Value.ref E) == .type T) = true from Bool.false_ne_true), if_pos hm]
  exact h
end ERR
/-! Calls by keywords, in any order, with defaults: functions, methods, classes. -/
namespace KW
open PySem PySem.Spec PyProof.Rows L2 DP
/-- those of a list that stand at these places -/
def pick {α : Type} (is : List Nat) (l : List α) : List α := is.filterMap fun i => l[i]?
theorem vals_at : ∀ {vs : List V} {us : List Value} (r : Vals vs us) (i : Nat), (vs[i]? = none ∧ us[i]? = none) ∨ ∃ v u, vs[i]? = some v ∧ us[i]? = some u ∧ RelV v u
  | _, _, .nil, i => .inl ⟨by simp, by simp⟩
  | _, _, .cons h t, 0 => .inr ⟨_, _, rfl, rfl, h⟩
  | _, _, .cons h t, i + 1 => by simpa using vals_at t i
theorem pick_rel {vs : List V} {us : List Value} (r : Vals vs us) : ∀ is : List Nat, Vals (pick is vs) (pick is us)
  | [] => .nil
  | i :: is => by
    unfold pick
    rw [List.filterMap_cons, List.filterMap_cons]
    rcases vals_at r i with ⟨e1, e2⟩ | ⟨v, u, e1, e2, h⟩
    · rw [e1, e2]; exact pick_rel r is
    · rw [e1, e2]; exact .cons h (pick_rel r is)
/-- positional values, then the rest out of the keywords' values and the defaults -/
def gk {α : Type} (is : List Nat) (ds us ws : List α) : List α := us ++ pick is (ws ++ ds)
theorem gk_rel {is : List Nat} {dv vs zs : List V} {ds us ws : List Value} (rd : Vals dv ds) (r : Vals vs us) (rz : Vals zs ws) : Vals (gk is dv vs zs) (gk is ds us ws) := r.append (pick_rel (rz.append rd) is)
/-- all parameters are given -/
theorem kbn0 {K : PySem.W.Frag} {fd : FuncData} {ps ks : List Str} {n : Nat} (is : List Nat) (h : ∀ us ws : List Value, us.length = n → ws.length = ks.length → bindArgs fd ⟨us, ks.zip ws⟩ = pure (ps.zip (gk is [] us ws))) : KBn K fd ps n ks (gk is []) (gk is []) :=
  ⟨fun s us ws _ h1 h2 => .of_eq (h us ws h1 h2), fun r rz => gk_rel .nil r rz⟩
section
variable {K : PySem.W.Frag} {x qual : Str} {params : Arguments} {body : List Stmt} {scope : Scope} {dvs : List V} {f : Addr} {fd : FuncData} {ps : List Str}
/-- the lacking ones stand among the defaults -/
theorem kbnD (F : FunD K x qual params body scope dvs [] f fd) (n : Nat) (ks : List Str) (is : List Nat) (hd : dvs ≠ [])
    (h : ∀ (T : Addr) (kV doc pm : Value) (an : Option Addr) (cdv ct : Value) (us its ws : List Value), us.length = n → its.length = dvs.length → ws.length = ks.length →
      ∃ k, bindArgs (PySem.W.fnOf x qual params body scope (.ref T) kV doc pm an cdv ct) ⟨us, ks.zip ws⟩ = seqItems? (.ref T) >>= k ∧ k (some its.toArray) = pure (ps.zip (gk is its us ws))) : ∃ its : List Value, KBn K fd ps n ks (gk is its) (gk is dvs) := by
  obtain ⟨oc, od, dV, kV, doc, pm, an, cdv, ct, osl, rfl, lk, hcd, hD, hK⟩ := F.ex
  rcases hD with ⟨e, _⟩ | ⟨_, T, o, its, m, rfl, lT, oT, rT⟩
  · exact absurd e hd
  · refine ⟨its, fun s us ws X l1 l2 => ?_, fun r rz => gk_rel rT r rz⟩
    obtain ⟨k, e1, e2⟩ := h T kV doc pm an cdv ct us its ws l1 rT.length.symm l2
    refine BindsTo.of_looks fun M => ?_
    rw [e1]
    exact looks_items X lT oT (.of_pure e2)
end
section
variable {X : Cx} {CX : CXT} {k : Nat} {f C : Addr} {fd : FuncData} {ps ks : List Str} {sp : Sp} {E : XK} {x m : Str} {p pos apos : Pos} {o : Expr} {kws : List Keyword} {ta : TE} {tk : TA} {g : List Value → List Value → List Value} {gV : List V → List V → List V}
def tCallN0 (c : Nat) (sp : Sp) (gV : List V → List V → List V) (E : XK) (tk : TA) : TE := fun σ H Q => tk σ H fun zs H2 => zs.length = c ∧ sp (gV [] zs) H2 Q E
/-- f(k = v, ..) -/
theorem pe_callN0 (F : FnOk X.prog X.w X.K X.mg X.base CX k f fd ps sp) (hr : Room k X.A) (hg : Gl X x) (hm : X.mg x = some (.ref f)) (hk : PySem.W.keepIn X.K (.ref f) = true) (hb : KBn X.K fd ps 0 ks g gV) (hx : Passes CX X E) (hkw : PK X kws tk)
    (hall : (backToKw pos (keywordEach kws X.env)).all (·.1.isSome) = true := by rfl) (hks : (backToKw pos (keywordEach kws X.env)).filterMap (·.1) = ks := by rfl) (hdb : (x == ("__debug__" : Str)) = false := by decide)
    (hpl : ((backTo pos (starEach [] X.env)).any (·.1) || (backToKw pos (keywordEach kws X.env)).any (·.1.isNone)) = false := by rfl) :
    PE X (.Call (.Name x p) [] kws pos) (tCallN0 ks.length sp gV E tk) := by
  refine ⟨fun pins s σ H Q I h => ?_⟩
  refine wpAny_Call_Name_kw (ld_glob I hg hm ?_ hdb)
  refine PySem.W.callWith_KW0 (h₀ := X.base) I.ok.mod.kin hk hall ?_ hpl
  refine thn (hkw.run pos pins s σ H _ I h) fun ws s2 ⟨zs, H2, I2, rz, l2, q2⟩ => ⟨I2.kIn, ?_⟩
  rw [hks]
  exact run_fnN (us := []) (vs := []) F hr hb hx I2 .nil rz rfl l2 q2
def tMethN (C : Addr) (m : Str) (c : Nat) (sp : Sp) (gV : List V → List V → List V) (E : XK) (ta : TE) (tk : TA) : TE := fun σ H Q => ta σ H fun x H1 => ∃ a dx fs, x = .ref a ∧ H1 a = some (.ins C dx fs) ∧ fs.lookup m = none ∧ tk σ H1 fun zs H2 => zs.length = c ∧ sp (gV [.ref a] zs) H2 Q E
/-- o.m(k = v, ..) -/
theorem pe_methN {pl : Sem Bool} (he : PE X o ta) (c : Cls X.K C) (hm : Meth X.K C m f) (F : FnOk X.prog X.w X.K X.mg X.base CX k f fd ps sp) (hr : Room k X.A) (hb : KBn X.K fd ps 1 ks g gV) (hx : Passes CX X E) (hkw : PK X kws tk)
    (hall : (backToKw pos (keywordEach kws X.env)).all (·.1.isSome) = true := by rfl) (hks : (backToKw pos (keywordEach kws X.env)).filterMap (·.1) = ks := by rfl)
    (hpl : ((backTo pos (starEach [] X.env)).any (·.1) || (backToKw pos (keywordEach kws X.env)).any (·.1.isNone)) = false := by rfl)
    (ht : eval (.Call (.Attribute o m apos) [] kws pos) X.env = (do
      let ov ← eval o X.env
      standAt apos.atName
      let (f, first) ← holding [ov] (getMethod ov m pl)
      callWith pos f first (backTo pos (starEach [] X.env)) (backToKw pos (keywordEach kws X.env))) := by rfl) :
    PE X (.Call (.Attribute o m apos) [] kws pos) (tMethN C m ks.length sp gV E ta tk) := by
  refine ⟨fun pins s σ H Q I h => ?_⟩
  refine PySem.W.methodCall_KW (pl := pl) (thn (he.run pins s σ H _ I h) fun u s1 ⟨x, H1, I1, rx, a, dx, fs, ex, ea, l, q⟩ => ?_) ht
  subst ex
  obtain rfl : u = Value.ref a := rx
  refine getmeth_ok I1 ea c hm l ?_
  refine PySem.W.callWith_KW0 (first := [.ref a]) (h₀ := X.base) I.ok.mod.kin hm.kp hall ?_ hpl
  refine thn (hkw.run pos pins s1 σ H1 _ I1 q) fun ws s2 ⟨zs, H2, I2, rz, l2, q2⟩ => ⟨I2.kIn, ?_⟩
  rw [hks]
  exact run_fnN (us := [.ref a]) (vs := [.ref a]) F hr hb hx I2 (.cons rfl .nil) rz rfl l2 q2
end
section
variable {P : Program} {w : World} {K : PySem.W.Frag} {mg : Str → Option Value} {base : Heap} {x qual : Str} {st : Stmt} {dvs : List V} {f : Addr} {fd : FuncData}
/-- a def with defaults, by its body -/
theorem FunD.okN {N ps : List Str} {k : Nat} {sp : Sp} (F : FunD K x qual (defArgs st) (defBody st) (defScope st) dvs [] f fd) (S : FnScope N ps (defScope st)) (len : ∀ vs H Q E, sp vs H Q E → vs.length = ps.length)
    (hbody : ∀ (cdv : Value) (A : Around) (outer : List Env) (s : Shared) (H : Hp) (vs : List V) (Q : VK) (E : XK), Room k (A.deeper (envOfC qual (defScope st) s.heap.objs.size f cdv)) → sp vs H Q E →
      ∃ t, PSs (cxOf CX0 P w K mg base N qual (defScope st) f cdv A outer s H E).nox (defBody st) t ∧ t { nx := fun _ H' => Q .non H', rt := Q } (start N vs) H) : FnOk P w K mg base CX0 (k + 1) f fd ps sp :=
  F.ok S len fun cdv A outer s H vs Q E hr hsp => by
    obtain ⟨t, h, q⟩ := hbody cdv A outer s H vs Q E hr hsp
    exact ⟨t, h.nox, q⟩
end
end KW
/-! Calls in a try's body: methods and classes, by place and by keywords; what they let out is asked at the slots of the call. -/
namespace KW
open PySem PySem.Spec PyProof.Rows L2 DP
section
variable {P : Program} {w : World} {K : PySem.W.Frag} {mg : Str → Option Value} {base : Heap} {CX : CXT} {k : Nat} {f : Addr} {fd : FuncData} {ps : List Str} {sp sq : Sp}
/-- a def that lets out nothing keeps its promise where others may let out something -/
theorem ok_may (F : FnOk P w K mg base CX0 k f fd ps sp) : FnOk P w K mg base CX k f fd ps sp := by
  refine ⟨F.len, fun A outer s H args us vs Q E hr he hb hv hs => ?_⟩
  have h := F.run A outer s H args us vs Q E hr he hb hv hs
  refine codeAny_mono h fun r s' q => ?_
  cases r with
  | error e => exact False.elim q
  | ok fl => cases fl <;> exact q
/-- either of two promises -/
theorem ok_or (F : FnOk P w K mg base CX k f fd ps sp) (G : FnOk P w K mg base CX k f fd ps sq) : FnOk P w K mg base CX k f fd ps (fun vs H Q E => sp vs H Q E ∨ sq vs H Q E) :=
  ⟨fun vs H Q E h => h.elim (F.len vs H Q E) (G.len vs H Q E), fun A outer s H args us vs Q E hr he hb hv h => h.elim (F.run A outer s H args us vs Q E hr he hb hv) (G.run A outer s H args us vs Q E hr he hb hv)⟩
end
section
variable {X : Cx} {CX : CXT} {k : Nat} {f C : Addr} {fd : FuncData} {ps ks : List Str} {sp : Sp} {E : L2.St → XK} {x m : Str} {p pos apos : Pos} {e o : Expr} {es : List Expr} {kws : List Keyword} {ta : TE} {t tk : TA} {g : List Value → List Value → List Value} {gV : List V → List V → List V}
/-- o.m(e, ..) -/
def tMethX (C : Addr) (m : Str) (sp : Sp) (E : L2.St → XK) (ta : TE) (t : TA) : TE := fun σ H Q => ta σ H fun x H1 => ∃ a dx fs, x = .ref a ∧ H1 a = some (.ins C dx fs) ∧ fs.lookup m = none ∧ t σ H1 fun vs H2 => sp (.ref a :: vs) H2 Q (E σ)
theorem pe_methX {pl : Sem Bool} (he : PE X o ta) (c : Cls X.K C) (hm : Meth X.K C m f) (F : FnOk X.prog X.w X.K X.mg X.base CX k f fd ps sp) (hr : Room k X.A) (hb : Binds X.K fd ps []) (hx : ∀ σ, PassesAt CX X σ (E σ)) (ha : PA X (e :: es) t)
    (hst : starEach (e :: es) X.env = (false, eval e X.env) :: starEach es X.env := by rfl) (hpl : (backTo pos (starEach es X.env)).any (·.1) = false := by rfl)
    (ht : eval (.Call (.Attribute o m apos) (e :: es) [] pos) X.env = (do let ov ← eval o X.env; standAt apos.atName; let (f, first) ← holding [ov] (getMethod ov m pl); callWith pos f first (backTo pos (starEach (e :: es) X.env)) (backToKw pos (keywordEach [] X.env))) := by rfl) :
    PE X (.Call (.Attribute o m apos) (e :: es) [] pos) (tMethX C m sp E ta t) := ⟨fun pins s σ H Q I h => by
  refine PySem.W.methodCall_KW (pl := pl) (thn (he.run pins s σ H _ I h) fun u s1 hh => ?_) ht
  obtain ⟨x, H1, I1, rx, a, dx, fs, ex, ea, l, q⟩ := hh
  subst ex
  obtain rfl : u = Value.ref a := rx
  refine getmeth_ok I1 ea c hm l (PySem.W.callWith_K (first := [.ref a]) (h₀ := X.base) I.ok.mod.kin hm.kp (thn (ha.run pos pins s1 σ H1 _ I1 q) fun us s2 hh => ?_) hst hpl)
  obtain ⟨vs, H2, I2, r, q2⟩ := hh
  exact ⟨I2.kIn, run_fnS (us := .ref a :: us) (vs := .ref a :: vs) F hr hb (hx σ) I2 (.cons rfl r) q2⟩⟩
/-- the callee runs, with keywords -/
theorem run_kwX {n : Nat} {pins : List (Addr × Obj)} {σ : L2.St} {H : Hp} {s : Shared} {Q : VK} {us ws : List Value} {vs zs : List V} (F : FnOk X.prog X.w X.K X.mg X.base CX k f fd ps sp) (hr : Room k X.A) (hb : KBn X.K fd ps n ks g gV) (hx : PassesAt CX X σ (E σ))
    (I : Inv X pins σ H s) (r : Vals vs us) (rz : Vals zs ws) (l1 : vs.length = n) (l2 : zs.length = ks.length) (h : sp (gV vs zs) H Q (E σ)) : wpAny (model X.prog X.w) X.A (call (.ref f) us (ks.zip ws)) (EP X pins σ Q) X.xe s := by
  have n1 : us.length = n := by rw [← r.length, l1]
  refine wpAny_call (codeAny_mono (F.run X.A X.stack s H ⟨us, ks.zip ws⟩ (g us ws) (gV vs zs) Q (E σ) hr I.env0 (hb.to s us ws I.kIn n1 (rz.length.symm.trans l2)) (hb.rel r rz) h) fun r s' hq => ?_)
  cases r with
  | error e => exact hx pins H s e s' I hq
  | ok fl =>
    cases fl with
    | ret u => exact I.after hq
    | next => exact False.elim hq
    | brk => exact False.elim hq
    | cont => exact False.elim hq
def tCallNX (c : Nat) (sp : Sp) (gV : List V → List V → List V) (E : L2.St → XK) (tk : TA) : TE := fun σ H Q => tk σ H fun zs H2 => zs.length = c ∧ sp (gV [] zs) H2 Q (E σ)
/-- f(k = v, ..) -/
theorem pe_callNX (F : FnOk X.prog X.w X.K X.mg X.base CX k f fd ps sp) (hr : Room k X.A) (hg : Gl X x) (hm : X.mg x = some (.ref f)) (hk : PySem.W.keepIn X.K (.ref f) = true) (hb : KBn X.K fd ps 0 ks g gV) (hx : ∀ σ, PassesAt CX X σ (E σ)) (hkw : PK X kws tk)
    (hall : (backToKw pos (keywordEach kws X.env)).all (·.1.isSome) = true := by rfl) (hks : (backToKw pos (keywordEach kws X.env)).filterMap (·.1) = ks := by rfl) (hdb : (x == ("__debug__" : Str)) = false := by decide)
    (hpl : ((backTo pos (starEach [] X.env)).any (·.1) || (backToKw pos (keywordEach kws X.env)).any (·.1.isNone)) = false := by rfl) :
    PE X (.Call (.Name x p) [] kws pos) (tCallNX ks.length sp gV E tk) := ⟨fun pins s σ H Q I h => by
  refine wpAny_Call_Name_kw (ld_glob I hg hm ?_ hdb)
  refine PySem.W.callWith_KW0 (h₀ := X.base) I.ok.mod.kin hk hall ?_ hpl
  refine thn (hkw.run pos pins s σ H _ I h) fun ws s2 hh => ?_
  obtain ⟨zs, H2, I2, rz, l2, q2⟩ := hh
  refine ⟨I2.kIn, ?_⟩
  rw [hks]
  exact run_kwX (us := []) (vs := []) F hr hb (hx σ) I2 .nil rz rfl l2 q2⟩
def tMethNX (C : Addr) (m : Str) (c : Nat) (sp : Sp) (gV : List V → List V → List V) (E : L2.St → XK) (ta : TE) (tk : TA) : TE := fun σ H Q => ta σ H fun x H1 => ∃ a dx fs, x = .ref a ∧ H1 a = some (.ins C dx fs) ∧ fs.lookup m = none ∧ tk σ H1 fun zs H2 => zs.length = c ∧ sp (gV [.ref a] zs) H2 Q (E σ)
/-- o.m(k = v, ..) -/
theorem pe_methNX {pl : Sem Bool} (he : PE X o ta) (c : Cls X.K C) (hm : Meth X.K C m f) (F : FnOk X.prog X.w X.K X.mg X.base CX k f fd ps sp) (hr : Room k X.A) (hb : KBn X.K fd ps 1 ks g gV) (hx : ∀ σ, PassesAt CX X σ (E σ)) (hkw : PK X kws tk)
    (hall : (backToKw pos (keywordEach kws X.env)).all (·.1.isSome) = true := by rfl) (hks : (backToKw pos (keywordEach kws X.env)).filterMap (·.1) = ks := by rfl)
    (hpl : ((backTo pos (starEach [] X.env)).any (·.1) || (backToKw pos (keywordEach kws X.env)).any (·.1.isNone)) = false := by rfl)
    (ht : eval (.Call (.Attribute o m apos) [] kws pos) X.env = (do let ov ← eval o X.env; standAt apos.atName; let (f, first) ← holding [ov] (getMethod ov m pl); callWith pos f first (backTo pos (starEach [] X.env)) (backToKw pos (keywordEach kws X.env))) := by rfl) :
    PE X (.Call (.Attribute o m apos) [] kws pos) (tMethNX C m ks.length sp gV E ta tk) := ⟨fun pins s σ H Q I h => by
  refine PySem.W.methodCall_KW (pl := pl) (thn (he.run pins s σ H _ I h) fun u s1 hh => ?_) ht
  obtain ⟨x, H1, I1, rx, a, dx, fs, ex, ea, l, q⟩ := hh
  subst ex
  obtain rfl : u = Value.ref a := rx
  refine getmeth_ok I1 ea c hm l (PySem.W.callWith_KW0 (first := [.ref a]) (h₀ := X.base) I.ok.mod.kin hm.kp hall ?_ hpl)
  refine thn (hkw.run pos pins s1 σ H1 _ I1 q) fun ws s2 hh => ?_
  obtain ⟨zs, H2, I2, rz, l2, q2⟩ := hh
  refine ⟨I2.kIn, ?_⟩
  rw [hks]
  exact run_kwX (us := [.ref a]) (vs := [.ref a]) F hr hb (hx σ) I2 (.cons rfl .nil) rz rfl l2 q2⟩
/-- C(e, ..), C(k = v, ..) -/
def tMakeX (C : Addr) (sp : Sp) (E : L2.St → XK) (t : TA) : TE := fun σ H Q => t σ H fun vs H1 => ∀ x dx, H1 x = none → H1 dx = none → dx ≠ x →
  sp (.ref x :: vs) (upd (upd H1 dx (.own x)) x (.ins C dx [])) (fun v H2 => v = .non ∧ Q (.ref x) H2) (E σ)
def tMakeNX (C : Addr) (c : Nat) (sp : Sp) (gV : List V → List V → List V) (E : L2.St → XK) (tk : TA) : TE := fun σ H Q => tk σ H fun zs H1 => zs.length = c ∧ ∀ x dx, H1 x = none → H1 dx = none → dx ≠ x →
  sp (gV [.ref x] zs) (upd (upd H1 dx (.own x)) x (.ins C dx [])) (fun v H2 => v = .non ∧ Q (.ref x) H2) (E σ)
theorem pe_makeX (M : Mk X.K C f) (F : FnOk X.prog X.w X.K X.mg X.base CX k f fd ps sp) (hr : Room (k + 1) X.A) (hg : Gl X x) (hm : X.mg x = some (.ref C)) (hb : Binds X.K fd ps []) (hx : ∀ σ, PassesAt CX X σ (E σ)) (ha : PA X (e :: es) t)
    (hdb : (x == ("__debug__" : Str)) = false := by decide) (he : starEach (e :: es) X.env = (false, eval e X.env) :: starEach es X.env := by rfl) (hpl : (backTo pos (starEach es X.env)).any (·.1) = false := by rfl) :
    PE X (.Call (.Name x p) (e :: es) [] pos) (tMakeX C sp E t) := ⟨fun pins s σ H Q I h => by
  refine wpAny_Call_Name_kw (ld_glob I hg hm ?_ hdb)
  refine PySem.W.callWith_K (h₀ := X.base) I.ok.mod.kin M.kp (thn (ha.run pos pins s σ H _ I h) fun us s1 hh => ?_) he hpl
  obtain ⟨vs, H1, I1, r, q⟩ := hh
  refine ⟨I1.kIn, ?_⟩
  have hq := q (s1.heap.objs.size + 1) s1.heap.objs.size (I1.hok.fresh (Nat.le_succ _)) (I1.hok.fresh (Nat.le_refl _)) (Nat.ne_of_lt (Nat.lt_succ_self _))
  have I2 := Inv.made (C := C) I1
  have r2 : Vals (V.ref (s1.heap.objs.size + 1) :: vs) (Value.ref (s1.heap.objs.size + 1) :: us) := .cons rfl r
  have hl : (Value.ref (s1.heap.objs.size + 1) :: us).length = ps.length := by rw [← r2.length]; exact F.len _ _ _ _ hq
  have hb2 := hb _ (Value.ref (s1.heap.objs.size + 1) :: us) I2.kIn (by simpa using hl)
  rw [List.append_nil] at hb2
  refine wpAny_call (make_map (f := f) I1.kIn M.makes M.init (beq_iff_eq.mp M.fn) (codeAny_mono (F.run _ X.stack _ _ ⟨Value.ref (s1.heap.objs.size + 1) :: us, []⟩ (Value.ref (s1.heap.objs.size + 1) :: us) _ _ (E σ) (hr.make C us []) (I2.env0.make C us []) hb2 r2 hq) fun z s' hq' => ?_))
  cases z with
  | error e => exact hx σ pins _ _ e s' I2 hq'
  | ok fl =>
    cases fl with
    | ret u =>
      obtain ⟨v, H', I3, rv, ev, q3⟩ := I2.after hq'
      subst ev
      exact ⟨rv, ⟨V.ref (s1.heap.objs.size + 1), H', I3, rfl, q3⟩⟩
    | next => exact False.elim hq'
    | brk => exact False.elim hq'
    | cont => exact False.elim hq'⟩
theorem pe_makeNX (M : Mk X.K C f) (F : FnOk X.prog X.w X.K X.mg X.base CX k f fd ps sp) (hr : Room (k + 1) X.A) (hg : Gl X x) (hm : X.mg x = some (.ref C)) (hb : KBn X.K fd ps 1 ks g gV) (hx : ∀ σ, PassesAt CX X σ (E σ)) (hkw : PK X kws tk)
    (hall : (backToKw pos (keywordEach kws X.env)).all (·.1.isSome) = true := by rfl) (hks : (backToKw pos (keywordEach kws X.env)).filterMap (·.1) = ks := by rfl) (hdb : (x == ("__debug__" : Str)) = false := by decide)
    (hpl : ((backTo pos (starEach [] X.env)).any (·.1) || (backToKw pos (keywordEach kws X.env)).any (·.1.isNone)) = false := by rfl) :
    PE X (.Call (.Name x p) [] kws pos) (tMakeNX C ks.length sp gV E tk) := ⟨fun pins s σ H Q I h => by
  refine wpAny_Call_Name_kw (ld_glob I hg hm ?_ hdb)
  refine PySem.W.callWith_KW0 (h₀ := X.base) I.ok.mod.kin M.kp hall ?_ hpl
  refine thn (hkw.run pos pins s σ H _ I h) fun ws s1 hh => ?_
  obtain ⟨zs, H1, I1, rz, l2, q⟩ := hh
  refine ⟨I1.kIn, ?_⟩
  rw [hks]
  have hq := q (s1.heap.objs.size + 1) s1.heap.objs.size (I1.hok.fresh (Nat.le_succ _)) (I1.hok.fresh (Nat.le_refl _)) (Nat.ne_of_lt (Nat.lt_succ_self _))
  have I2 := Inv.made (C := C) I1
  have r1 : Vals [V.ref (s1.heap.objs.size + 1)] [Value.ref (s1.heap.objs.size + 1)] := .cons rfl .nil
  have r2 := hb.rel r1 rz
  refine wpAny_call (make_map (f := f) I1.kIn M.makes M.init (beq_iff_eq.mp M.fn) (codeAny_mono (F.run _ X.stack _ _ ⟨[Value.ref (s1.heap.objs.size + 1)], ks.zip ws⟩ (g [Value.ref (s1.heap.objs.size + 1)] ws) _ _ (E σ) (hr.make C [] (ks.zip ws))
    (I2.env0.make C [] (ks.zip ws)) (hb.to _ [Value.ref (s1.heap.objs.size + 1)] ws I2.kIn rfl (rz.length.symm.trans l2)) r2 hq) fun z s' hq' => ?_))
  cases z with
  | error e => exact hx σ pins _ _ e s' I2 hq'
  | ok fl =>
    cases fl with
    | ret u =>
      obtain ⟨v, H', I3, rv, ev, q3⟩ := I2.after hq'
      subst ev
      exact ⟨rv, ⟨V.ref (s1.heap.objs.size + 1), H', I3, rfl, q3⟩⟩
    | next => exact False.elim hq'
    | brk => exact False.elim hq'
    | cont => exact False.elim hq'⟩
end
end KW
/-! != of lists of tuples that hold objects: the same object stands at the same place, or the same data. -/
namespace DP
open PySem PySem.Spec PyProof.Rows L2
section
variable {X : Cx} {pins : List (Addr × Obj)} {σ : L2.St} {H : Hp} {s : Shared}
/-- one object, or the same data -/
def EqI (K : PySem.W.Frag) (H : Hp) (x y : V) : Prop := (∃ a, x = .ref a ∧ y = .ref a) ∨ ∃ d, Dp K H x d ∧ Dp K H y d ∧ d.canLay0 = true ∧ d.depth ≤ 8
/-- tuples of such -/
def EqT (K : PySem.W.Frag) (H : Hp) (x y : V) : Prop := ∃ a b xs ys, x = .ref a ∧ y = .ref b ∧ SqT K H a xs ∧ SqT K H b ys ∧ Paired (EqI K H) xs ys
theorem eqI_at (I : Inv X pins σ H s) {A : Around} (hu : A.units + 8 < cLine) {x y : V} {v u : Value} (h : EqI X.K H x y) (rx : RelV x v) (ry : RelV y u) : SeqAt.EqAt A s v u true := by
  rcases h with ⟨a, rfl, rfl⟩ | ⟨d, hx, hy, hc, hd⟩
  · have e1 : v = .ref a := rx
    have e2 : u = .ref a := ry
    rw [e1, e2]
    exact .same _
  · obtain ⟨_, r1⟩ := Dp.reads I d x v hx rx
    obtain ⟨_, r2⟩ := Dp.reads I d y u hy ry
    have h := SeqAt.eqAt_reads d d A s v u _ _ r1 r2 hc hc (by rw [Nat.min_self]; omega)
    rwa [SeqAt.eqv_refl d hc] at h
theorem pairs_at {A : Around} {F : V → V → Prop} (ih : ∀ x y v u, F x y → RelV x v → RelV y u → SeqAt.EqAt A s v u true) : ∀ {xs ys : List V} {us ws : List Value}, Paired F xs ys → Vals xs us → Vals ys ws → us.length = ws.length ∧ ∀ (j : Nat) (a b : Value), us[j]? = some a → ws[j]? = some b → SeqAt.EqAt A s a b true
  | _, _, _, _, .nil, .nil, .nil => ⟨rfl, fun j a b h => by simp at h⟩
  | _, _, _, _, .cons h t, .cons r1 q1, .cons r2 q2 => by
    obtain ⟨hl, hi⟩ := pairs_at ih t q1 q2
    refine ⟨by simp [hl], fun j a b h1 h2 => ?_⟩
    cases j with
    | zero =>
      obtain rfl := Option.some.inj h1
      obtain rfl := Option.some.inj h2
      exact ih _ _ _ _ h r1 r2
    | succ j => exact hi j a b h1 h2
theorem all_yes (n : Nat) : ((List.range n).all fun _ => true) = true := List.all_eq_true.mpr fun _ _ => rfl
theorem eqT_at (I : Inv X pins σ H s) {A : Around} (hu : A.units + 9 < cLine) {x y : V} {v u : Value} (h : EqT X.K H x y) (rx : RelV x v) (ry : RelV y u) : SeqAt.EqAt A s v u true := by
  obtain ⟨a, b, xs, ys, rfl, rfl, ha, hb, hp⟩ := h
  have e1 : v = .ref a := rx
  have e2 : u = .ref b := ry
  rw [e1, e2]
  by_cases e : a = b
  · rw [e]; exact .same _
  obtain ⟨us, q1, p1, _⟩ := I.tuple ha
  obtain ⟨ws, q2, p2, _⟩ := I.tuple hb
  obtain ⟨hl, hi⟩ := pairs_at (A := A.in1) (fun x y v u h r1 r2 => eqI_at I (A := A.in1) (by show A.units + 1 + 8 < cLine; omega) h r1 r2) hp q1 q2
  have hr := SeqAt.RcAt.tuples (e := fun _ => true) p1 p2 (by omega : A.units < cLine) fun j h1 h2 => hi j _ _ (by simp) (by simp)
  have ee : ((List.range (min us.toArray.size ws.toArray.size)).all (fun _ => true) && us.toArray.size == ws.toArray.size) = true := by
    rw [all_yes, List.size_toArray, List.size_toArray, hl]; simp
  rw [ee] at hr
  exact .of_refs e hr
/-- x != y: two lists that are alike -/
def rNeO (K : PySem.W.Frag) : R2 := fun x y H Q => ∃ a b xs ys, x = .ref a ∧ y = .ref b ∧ SqL K H a xs ∧ SqL K H b ys ∧ Paired (fun p q => EqI K H p q ∨ EqT K H p q) xs ys ∧ Q (.bl false) H
theorem op_neO (hu : X.A.units + 64 < cLine) : OpR X (compareOp .NotEq) (rNeO X.K) := by
  intro pins s σ H x y v u Q I rx ry h
  obtain ⟨a, b, xs, ys, rfl, rfl, ha, hb, hp, q⟩ := h
  have e1 : v = .ref a := rx
  have e2 : u = .ref b := ry
  rw [e1, e2]
  obtain ⟨us, q1, p1, _⟩ := I.list ha
  obtain ⟨ws, q2, p2, _⟩ := I.list hb
  obtain ⟨hl, hi⟩ := pairs_at (A := X.A.in1) (fun x y v u h r1 r2 => h.elim (fun h => eqI_at I (A := X.A.in1) (by show X.A.units + 1 + 8 < cLine; omega) h r1 r2) fun h => eqT_at I (A := X.A.in1) (by show X.A.units + 1 + 9 < cLine; omega) h r1 r2) hp q1 q2
  have hr := SeqAt.RcNeAt.lists (e := fun _ => true) p1.isList p2.isList (by rw [List.size_toArray, List.size_toArray, hl]) (by omega : X.A.units < cLine) fun j h1 h2 => hi j _ _ (by simp) (by simp)
  rw [all_yes] at hr
  exact hr X.prog X.w _ _ ⟨.bl false, H, I, rfl, q⟩
theorem neOK {K : PySem.W.Frag} (hu : X.A.units + 64 < cLine) (h : X.K = K := by rfl) : OpR X (compareOp .NotEq) (rNeO K) := by subst h; exact op_neO hu
/-- x == []: a list of anything -/
def rEqE (K : PySem.W.Frag) : R2 := fun x y H Q => ∃ a b xs, x = .ref a ∧ y = .ref b ∧ SqL K H a xs ∧ SqL K H b [] ∧ Q (.bl xs.isEmpty) H
theorem op_eqE (hu : X.A.units + 64 < cLine) : OpR X (compareOp .Eq) (rEqE X.K) := by
  intro pins s σ H x y v u Q I rx ry h
  obtain ⟨a, b, xs, rfl, rfl, ha, hb, q⟩ := h
  have e1 : v = .ref a := rx
  have e2 : u = .ref b := ry
  rw [e1, e2]
  obtain ⟨us, q1, p1, _⟩ := I.list ha
  obtain ⟨ws, q2, p2, _⟩ := I.list hb
  cases q2
  cases q1 with
  | nil =>
    have hr := SeqAt.RcAt.lists (A := X.A) (s := s) (e := fun _ => true) p1.isList p2.isList rfl (by omega : X.A.units < cLine) fun j h1 h2 => absurd h1 (by simp)
    exact hr X.prog X.w _ _ ⟨.bl true, H, I, rfl, q⟩
  | cons r rr =>
    have hr := SeqAt.RcAt.lists_lengths (A := X.A) (s := s) p1.isList p2.isList (by simp) (by omega : X.A.units < cLine)
    exact hr X.prog X.w _ _ ⟨.bl false, H, I, rfl, q⟩
theorem eqEK {K : PySem.W.Frag} (hu : X.A.units + 64 < cLine) (h : X.K = K := by rfl) : OpR X (compareOp .Eq) (rEqE K) := by subst h; exact op_eqE hu
end
end DP
/-! How often True stands in a list of bools, and where first. -/
namespace DP
open PySem PySem.Spec PyProof.Rows L2
theorem vals_bools : ∀ {bs : List Bool} {us : List Value}, Vals (bs.map V.bl) us → us = bs.map Value.bool
  | [], _, h => by cases h; rfl
  | b :: bs, _, h => by
    rw [List.map_cons] at h
    cases h with
    | cons r t =>
      cases r
      rw [vals_bools t]; rfl
def yesV : Value → Bool
  | .bool c => c
  | _ => false
section
variable {X : Cx}
def rCntB (K : PySem.W.Frag) : V → List V → Hp → VK → Prop := fun x xs H Q => ∃ (p : Addr) (bs : List Bool), x = .ref p ∧ xs = [.bl true] ∧ SqL K H p (bs.map V.bl) ∧ Q (.int (bs.count true : Nat)) H
theorem cnt_bools (hu : X.A.units + 64 < cLine) : MtR X "list.count" (rCntB X.K) := by
  intro pins s σ H x xs v us Q I rx rxs h
  obtain ⟨p, bs, rfl, rfl, hs, q⟩ := h
  cases rx
  obtain ⟨u, rfl, ru⟩ := rxs.one
  cases ru
  obtain ⟨its, rv, ⟨⟨cls, dd, data, sl⟩, n, ho, hc, hdn, hd⟩, hlen⟩ := I.list hs
  simp only at hc hd
  subst hc hd
  have hi := vals_bools rv
  refine call_meets PySem.F.slot_list_count ⟨_, ho, rfl⟩ PySem.F.entry_list_count (PySem.F.args_list_count_2 _ _)
    (SeqAt.list_countAt p its.toArray n dd sl (.bool true) yesV) ⟨ho, fun y hy => ?_, ?_⟩
  · have hy2 : y ∈ bs.map Value.bool := by rw [← hi]; simpa using hy
    obtain ⟨c, _, rfl⟩ := List.mem_map.mp hy2
    obtain ⟨_, r1⟩ := Dp.reads I (.bool c) (.bl c) (.bool c) (.bl c) rfl
    obtain ⟨_, r2⟩ := Dp.reads I (.bool true) (.bl true) (.bool true) (.bl true) rfl
    have h := SeqAt.eqAt_reads (.bool c) (.bool true) X.A.in1 s (.bool c) (.bool true) _ _ r1 r2 rfl rfl (by show X.A.units + 1 + _ < cLine; simp [PyData.depth]; omega)
    have e : PyData.eqv (.bool c) (.bool true) = yesV (.bool c) := by cases c <;> simp [PyData.eqv, yesV]
    rw [e] at h
    exact h
  · have ec : its.toArray.toList.countP yesV = bs.count true := by
      rw [hi]
      show (bs.map Value.bool).countP yesV = _
      rw [List.countP_map, List.count]
      congr 1
      funext c
      cases c <;> rfl
    refine ⟨.int (bs.count true : Nat), H, I.tok _, ⟨s.toks, ?_⟩, q⟩
    show Value.int ((its.toArray.toList.countP yesV : Nat) : Int) s.toks = Value.int ((bs.count true : Nat) : Int) s.toks
    rw [ec]
theorem cntB {K : PySem.W.Frag} (hu : X.A.units + 64 < cLine) (h : X.K = K := by rfl) : MtR X "list.count" (rCntB K) := by subst h; exact cnt_bools hu
def rIxB (K : PySem.W.Frag) : V → List V → Hp → VK → Prop := fun x xs H Q => ∃ (p : Addr) (bs : List Bool) (j : Nat), x = .ref p ∧ xs = [.bl true] ∧ SqL K H p (bs.map V.bl) ∧ bs[j]? = some true ∧ (∀ m, m < j → bs[m]? = some false) ∧ Q (.int (j : Nat)) H
theorem ix_bools : MtR X "list.index" (rIxB X.K) := by
  intro pins s σ H x xs v us Q I rx rxs h
  obtain ⟨p, bs, j, rfl, rfl, hs, hj, hm, q⟩ := h
  refine mt_index pins s σ H _ _ v us Q I rx rxs ⟨p, bs.map V.bl, .bl true, j, .bl true, rfl, rfl, hs, rfl, by simp [flatV], by rw [List.getElem?_map, hj]; rfl, rfl, fun m z' hmj hz => ?_, q⟩
  rw [List.getElem?_map, hm m hmj] at hz
  have e : V.bl false = z' := Option.some.inj hz
  rw [← e]; rfl
theorem ixB {K : PySem.W.Frag} (h : X.K = K := by rfl) : MtR X "list.index" (rIxB K) := by subst h; exact ix_bools
end
end DP
namespace KA
open PySem PySem.Spec PyProof.Rows L2 DP
def top (i : Nat) : Stmt := PySem.Challenge.pw_darkpace_k63_whole_histories_of_rounds.main.body.getD i (.Pass ⟨0, 0, 0, 0⟩)
abbrev slaw_pot : Stmt := top 42
abbrev N_law_pot : List Str := ["script", "k", "cell"]
abbrev P_law_pot : List Str := ["script", "k"]
theorem sclaw_pot : FnScope N_law_pot P_law_pot (defScope slaw_pot) := ⟨rfl, rfl, rfl, by decide +kernel, rfl, by decide +kernel, by decide +kernel⟩
abbrev slaw_draw : Stmt := top 43
abbrev N_law_draw : List Str := ["pot", "many", "drawn", "mixed"]
abbrev P_law_draw : List Str := ["pot", "many"]
theorem sclaw_draw : FnScope N_law_draw P_law_draw (defScope slaw_draw) := ⟨rfl, rfl, rfl, by decide +kernel, rfl, by decide +kernel, by decide +kernel⟩
abbrev slaw_hidden : Stmt := top 44
abbrev N_law_hidden : List Str := ["pot", "wide", "most", "spots", "k", "base", "ups", "spot", "up"]
abbrev P_law_hidden : List Str := ["pot", "wide", "most"]
theorem sclaw_hidden : FnScope N_law_hidden P_law_hidden (defScope slaw_hidden) := ⟨rfl, rfl, rfl, by decide +kernel, rfl, by decide +kernel, by decide +kernel⟩
abbrev slaw_goal : Stmt := top 45
abbrev N_law_goal : List Str := ["wide", "rows", "z", "spot", "y"]
abbrev P_law_goal : List Str := ["wide", "rows", "z"]
theorem sclaw_goal : FnScope N_law_goal P_law_goal (defScope slaw_goal) := ⟨rfl, rfl, rfl, by decide +kernel, rfl, by decide +kernel, by decide +kernel⟩
abbrev slaw_wide : Stmt := top 46
abbrev N_law_wide : List Str := ["pot"]
abbrev P_law_wide : List Str := ["pot"]
theorem sclaw_wide : FnScope N_law_wide P_law_wide (defScope slaw_wide) := ⟨rfl, rfl, rfl, by decide +kernel, rfl, by decide +kernel, by decide +kernel⟩
abbrev slaw_look : Stmt := top 47
abbrev N_law_look : List Str := ["pot", "wide", "rows", "spot", "y", "some"]
abbrev P_law_look : List Str := ["pot", "wide", "rows"]
theorem sclaw_look : FnScope N_law_look P_law_look (defScope slaw_look) := ⟨rfl, rfl, rfl, by decide +kernel, rfl, by decide +kernel, by decide +kernel⟩
abbrev slaw_told : Stmt := top 48
abbrev N_law_told : List Str := ["row", "x", "y", "uses_now", "found"]
abbrev P_law_told : List Str := ["row", "x", "y", "uses_now"]
theorem sclaw_told : FnScope N_law_told P_law_told (defScope slaw_told) := ⟨rfl, rfl, rfl, by decide +kernel, rfl, by decide +kernel, by decide +kernel⟩
abbrev slaw_missing : Stmt := top 49
abbrev N_law_missing : List Str := ["gazes", "some", "left", "k"]
abbrev P_law_missing : List Str := ["gazes", "some"]
theorem sclaw_missing : FnScope N_law_missing P_law_missing (defScope slaw_missing) := ⟨rfl, rfl, rfl, by decide +kernel, rfl, by decide +kernel, by decide +kernel⟩
abbrev slaw_judged : Stmt := top 50
abbrev N_law_judged : List Str := ["row", "name", "some", "found", "e"]
abbrev P_law_judged : List Str := ["row", "name", "some"]
theorem sclaw_judged : FnScope N_law_judged P_law_judged (defScope slaw_judged) := ⟨rfl, rfl, rfl, by decide +kernel, rfl, by decide +kernel, by decide +kernel⟩
abbrev slaw_rings_right : Stmt := top 51
abbrev N_law_rings_right : List Str := ["row", "gazes", "olds", "ends", "way", "name", "some", "pace", "number"]
abbrev P_law_rings_right : List Str := ["row", "gazes", "olds"]
theorem sclaw_rings_right : FnScope N_law_rings_right P_law_rings_right (defScope slaw_rings_right) := ⟨rfl, rfl, rfl, by decide +kernel, rfl, by decide +kernel, by decide +kernel⟩
abbrev slaw_fresh : Stmt := top 52
abbrev N_law_fresh : List Str := ["wide", "gaze", "made", "name", "spot", "y"]
abbrev P_law_fresh : List Str := ["wide", "gaze"]
theorem sclaw_fresh : FnScope N_law_fresh P_law_fresh (defScope slaw_fresh) := ⟨rfl, rfl, rfl, by decide +kernel, rfl, by decide +kernel, by decide +kernel⟩
abbrev slaw_turn : Stmt := top 53
abbrev N_law_turn : List Str := ["pot", "made", "gaze", "wide", "rows", "look", "one"]
abbrev P_law_turn : List Str := ["pot", "made", "gaze", "wide", "rows"]
theorem sclaw_turn : FnScope N_law_turn P_law_turn (defScope slaw_turn) := ⟨rfl, rfl, rfl, by decide +kernel, rfl, by decide +kernel, by decide +kernel⟩
abbrev sside_looks : Stmt := top 16
abbrev N_side_looks : List Str := ["looks", "side", "words", "look"]
abbrev P_side_looks : List Str := ["looks", "side"]
theorem scside_looks : FnScope N_side_looks P_side_looks (defScope sside_looks) := ⟨rfl, rfl, rfl, by decide +kernel, rfl, by decide +kernel, by decide +kernel⟩
abbrev sround_looks : Stmt := top 17
abbrev N_round_looks : List Str := ["hands", "side", "hand"]
abbrev P_round_looks : List Str := ["hands", "side"]
theorem scround_looks : FnScope N_round_looks P_round_looks (defScope sround_looks) := ⟨rfl, rfl, rfl, by decide +kernel, rfl, by decide +kernel, by decide +kernel⟩
abbrev splace_by : Stmt := top 18
abbrev N_place_by : List Str := ["look", "side", "x", "length", "_", "start", "end"]
abbrev P_place_by : List Str := ["look", "side", "x", "length"]
theorem scplace_by : FnScope N_place_by P_place_by (defScope splace_by) := ⟨rfl, rfl, rfl, by decide +kernel, rfl, by decide +kernel, by decide +kernel⟩
abbrev sbest_step : Stmt := top 19
abbrev N_best_step : List Str := ["looks", "side", "x", "length", "steps", "look"]
abbrev P_best_step : List Str := ["looks", "side", "x", "length"]
theorem scbest_step : FnScope N_best_step P_best_step (defScope sbest_step) := ⟨rfl, rfl, rfl, by decide +kernel, rfl, by decide +kernel, by decide +kernel⟩
abbrev sWalk_init : Stmt := inClass (top 20) 0
abbrev N_Walk_init : List Str := ["self", "hands", "side", "x"]
abbrev P_Walk_init : List Str := ["self", "hands", "side", "x"]
theorem scWalk_init : FnScope N_Walk_init P_Walk_init (defScope sWalk_init) := ⟨rfl, rfl, rfl, by decide +kernel, rfl, by decide +kernel, by decide +kernel⟩
abbrev sWalkfollow : Stmt := inClass (top 20) 1
abbrev N_Walkfollow : List Str := ["self", "length", "known", "side", "seen", "uses", "number", "mark", "place", "look"]
abbrev P_Walkfollow : List Str := ["self", "length", "known", "side"]
theorem scWalkfollow : FnScope N_Walkfollow P_Walkfollow (defScope sWalkfollow) := ⟨rfl, rfl, rfl, by decide +kernel, rfl, by decide +kernel, by decide +kernel⟩
abbrev sWalk_period : Stmt := inClass (top 20) 2
abbrev N_Walk_period : List Str := ["self"]
abbrev P_Walk_period : List Str := ["self"]
theorem scWalk_period : FnScope N_Walk_period P_Walk_period (defScope sWalk_period) := ⟨rfl, rfl, rfl, by decide +kernel, rfl, by decide +kernel, by decide +kernel⟩
abbrev sWalk_climb : Stmt := inClass (top 20) 3
abbrev N_Walk_climb : List Str := ["self"]
abbrev P_Walk_climb : List Str := ["self"]
theorem scWalk_climb : FnScope N_Walk_climb P_Walk_climb (defScope sWalk_climb) := ⟨rfl, rfl, rfl, by decide +kernel, rfl, by decide +kernel, by decide +kernel⟩
abbrev sWalk_behind : Stmt := inClass (top 20) 4
abbrev N_Walk_behind : List Str := ["self", "uses", "times", "rest"]
abbrev P_Walk_behind : List Str := ["self", "uses"]
theorem scWalk_behind : FnScope N_Walk_behind P_Walk_behind (defScope sWalk_behind) := ⟨rfl, rfl, rfl, by decide +kernel, rfl, by decide +kernel, by decide +kernel⟩
abbrev sWalk_reach : Stmt := inClass (top 20) 5
abbrev N_Walk_reach : List Str := ["self", "y", "uses", "place", "lap", "times", "goal", "far_enough", "at"]
abbrev P_Walk_reach : List Str := ["self", "y"]
theorem scWalk_reach : FnScope N_Walk_reach P_Walk_reach (defScope sWalk_reach) := ⟨rfl, rfl, rfl, by decide +kernel, rfl, by decide +kernel, by decide +kernel⟩
abbrev scheck_round : Stmt := top 22
abbrev N_check_round : List Str := ["hands", "length", "number", "hand"]
abbrev P_check_round : List Str := ["hands"]
theorem sccheck_round : FnScope N_check_round P_check_round (defScope scheck_round) := ⟨rfl, rfl, rfl, by decide +kernel, rfl, by decide +kernel, by decide +kernel⟩
abbrev splace_behind : Stmt := top 23
abbrev N_place_behind : List Str := ["hands", "side", "x", "uses"]
abbrev P_place_behind : List Str := ["hands", "side", "x", "uses"]
theorem scplace_behind : FnScope N_place_behind P_place_behind (defScope splace_behind) := ⟨rfl, rfl, rfl, by decide +kernel, rfl, by decide +kernel, by decide +kernel⟩
abbrev sleast_behind : Stmt := top 24
abbrev N_least_behind : List Str := ["hands", "x", "uses"]
abbrev P_least_behind : List Str := ["hands", "x", "uses"]
theorem scleast_behind : FnScope N_least_behind P_least_behind (defScope sleast_behind) := ⟨rfl, rfl, rfl, by decide +kernel, rfl, by decide +kernel, by decide +kernel⟩
abbrev sgreatest_behind : Stmt := top 25
abbrev N_greatest_behind : List Str := ["hands", "x", "uses"]
abbrev P_greatest_behind : List Str := ["hands", "x", "uses"]
theorem scgreatest_behind : FnScope N_greatest_behind P_greatest_behind (defScope sgreatest_behind) := ⟨rfl, rfl, rfl, by decide +kernel, rfl, by decide +kernel, by decide +kernel⟩
abbrev sfewest_uses : Stmt := top 26
abbrev N_fewest_uses : List Str := ["hands", "x", "y", "walk", "uses"]
abbrev P_fewest_uses : List Str := ["hands", "x", "y"]
theorem scfewest_uses : FnScope N_fewest_uses P_fewest_uses (defScope sfewest_uses) := ⟨rfl, rfl, rfl, by decide +kernel, rfl, by decide +kernel, by decide +kernel⟩
abbrev smost_uses : Stmt := top 27
abbrev N_most_uses : List Str := ["hands", "x", "y"]
abbrev P_most_uses : List Str := ["hands", "x", "y"]
theorem scmost_uses : FnScope N_most_uses P_most_uses (defScope smost_uses) := ⟨rfl, rfl, rfl, by decide +kernel, rfl, by decide +kernel, by decide +kernel⟩
abbrev slowest : Stmt := top 29
abbrev N_lowest : List Str := ["top", "bottom", "shared"]
abbrev P_lowest : List Str := ["top", "bottom"]
theorem sclowest : FnScope N_lowest P_lowest (defScope slowest) := ⟨rfl, rfl, rfl, by decide +kernel, rfl, by decide +kernel, by decide +kernel⟩
abbrev sside_pace : Stmt := top 32
abbrev N_side_pace : List Str := ["hands", "side", "walk"]
abbrev P_side_pace : List Str := ["hands", "side"]
theorem scside_pace : FnScope N_side_pace P_side_pace (defScope sside_pace) := ⟨rfl, rfl, rfl, by decide +kernel, rfl, by decide +kernel, by decide +kernel⟩
abbrev spaces : Stmt := top 33
abbrev N_paces : List Str := ["hands"]
abbrev P_paces : List Str := ["hands"]
theorem scpaces : FnScope N_paces P_paces (defScope spaces) := ⟨rfl, rfl, rfl, by decide +kernel, rfl, by decide +kernel, by decide +kernel⟩
abbrev scheck_side : Stmt := top 30
abbrev N_check_side : List Str := ["side"]
abbrev P_check_side : List Str := ["side"]
theorem sccheck_side : FnScope N_check_side P_check_side (defScope scheck_side) := ⟨rfl, rfl, rfl, by decide +kernel, rfl, by decide +kernel, by decide +kernel⟩
abbrev scheck_ring : Stmt := top 31
abbrev N_check_ring : List Str := ["hands", "side", "looks", "known", "number", "look"]
abbrev P_check_ring : List Str := ["hands", "side", "looks"]
theorem sccheck_ring : FnScope N_check_ring P_check_ring (defScope scheck_ring) := ⟨rfl, rfl, rfl, by decide +kernel, rfl, by decide +kernel, by decide +kernel⟩
abbrev sring : Stmt := top 34
abbrev N_ring : List Str := ["hands", "side", "walk", "looks", "skipped"]
abbrev P_ring : List Str := ["hands", "side"]
theorem scring : FnScope N_ring P_ring (defScope sring) := ⟨rfl, rfl, rfl, by decide +kernel, rfl, by decide +kernel, by decide +kernel⟩
abbrev sring_pace : Stmt := top 35
abbrev N_ring_pace : List Str := ["hands", "side", "looks", "length", "turns", "number", "look", "ahead"]
abbrev P_ring_pace : List Str := ["hands", "side", "looks"]
theorem scring_pace : FnScope N_ring_pace P_ring_pace (defScope sring_pace) := ⟨rfl, rfl, rfl, by decide +kernel, rfl, by decide +kernel, by decide +kernel⟩
abbrev stoo_far : Stmt := top 38
abbrev N_too_far : List Str := ["low", "high", "length"]
abbrev P_too_far : List Str := ["low", "high", "length"]
theorem sctoo_far : FnScope N_too_far P_too_far (defScope stoo_far) := ⟨rfl, rfl, rfl, by decide +kernel, rfl, by decide +kernel, by decide +kernel⟩
abbrev sclash : Stmt := top 39
abbrev N_clash : List Str := ["look", "other", "length"]
abbrev P_clash : List Str := ["look", "other", "length"]
theorem scclash : FnScope N_clash P_clash (defScope sclash) := ⟨rfl, rfl, rfl, by decide +kernel, rfl, by decide +kernel, by decide +kernel⟩
abbrev sDark_init : Stmt := inClass (top 40) 0
abbrev N_Dark_init : List Str := ["self", "length"]
abbrev P_Dark_init : List Str := ["self", "length"]
theorem scDark_init : FnScope N_Dark_init P_Dark_init (defScope sDark_init) := ⟨rfl, rfl, rfl, by decide +kernel, rfl, by decide +kernel, by decide +kernel⟩
abbrev sDark_length : Stmt := inClass (top 40) 3
abbrev N_Dark_length : List Str := ["self"]
abbrev P_Dark_length : List Str := ["self"]
theorem scDark_length : FnScope N_Dark_length P_Dark_length (defScope sDark_length) := ⟨rfl, rfl, rfl, by decide +kernel, rfl, by decide +kernel, by decide +kernel⟩
abbrev sDark_hear : Stmt := inClass (top 40) 4
abbrev N_Dark_hear : List Str := ["self", "word", "x", "y", "look", "other"]
abbrev P_Dark_hear : List Str := ["self", "word", "x", "y"]
theorem scDark_hear : FnScope N_Dark_hear P_Dark_hear (defScope sDark_hear) := ⟨rfl, rfl, rfl, by decide +kernel, rfl, by decide +kernel, by decide +kernel⟩
abbrev sDark_drop : Stmt := inClass (top 40) 5
abbrev N_Dark_drop : List Str := ["self", "word", "x", "y", "look", "other"]
abbrev P_Dark_drop : List Str := ["self", "word", "x", "y"]
theorem scDark_drop : FnScope N_Dark_drop P_Dark_drop (defScope sDark_drop) := ⟨rfl, rfl, rfl, by decide +kernel, rfl, by decide +kernel, by decide +kernel⟩
abbrev sDark_looks : Stmt := inClass (top 40) 6
abbrev N_Dark_looks : List Str := ["self"]
abbrev P_Dark_looks : List Str := ["self"]
theorem scDark_looks : FnScope N_Dark_looks P_Dark_looks (defScope sDark_looks) := ⟨rfl, rfl, rfl, by decide +kernel, rfl, by decide +kernel, by decide +kernel⟩
abbrev sDarkcheck_word : Stmt := inClass (top 40) 12
abbrev N_Darkcheck_word : List Str := ["self", "word"]
abbrev P_Darkcheck_word : List Str := ["self", "word"]
theorem scDarkcheck_word : FnScope N_Darkcheck_word P_Darkcheck_word (defScope sDarkcheck_word) := ⟨rfl, rfl, rfl, by decide +kernel, rfl, by decide +kernel, by decide +kernel⟩
abbrev sDarkhome : Stmt := inClass (top 40) 13
abbrev N_Darkhome : List Str := ["self", "word", "x", "y", "turns"]
abbrev P_Darkhome : List Str := ["self", "word", "x", "y"]
theorem scDarkhome : FnScope N_Darkhome P_Darkhome (defScope sDarkhome) := ⟨rfl, rfl, rfl, by decide +kernel, rfl, by decide +kernel, by decide +kernel⟩
abbrev sDarkclashing : Stmt := inClass (top 40) 14
abbrev N_Darkclashing : List Str := ["self", "look", "other"]
abbrev P_Darkclashing : List Str := ["self", "look"]
theorem scDarkclashing : FnScope N_Darkclashing P_Darkclashing (defScope sDarkclashing) := ⟨rfl, rfl, rfl, by decide +kernel, rfl, by decide +kernel, by decide +kernel⟩
abbrev slaw : Stmt := top 54
abbrev N_law : List Str := ["script", "k", "pot", "wide", "many", "hidden", "one", "order", "made", "gazes", "olds", "turn", "at", "row", "new", "gaze", "x", "uses_now", "y"]
abbrev P_law : List Str := ["script"]
theorem sclaw : FnScope N_law P_law (defScope slaw) := ⟨rfl, rfl, rfl, by decide +kernel, rfl, by decide +kernel, by decide +kernel⟩
structure Ad where
  C : Addr
  C_Walk : Addr
  a_law_pot : Addr
  d_law_pot : FuncData
  a_law_draw : Addr
  d_law_draw : FuncData
  a_law_hidden : Addr
  d_law_hidden : FuncData
  a_law_goal : Addr
  d_law_goal : FuncData
  a_law_wide : Addr
  d_law_wide : FuncData
  a_law_look : Addr
  d_law_look : FuncData
  a_law_told : Addr
  d_law_told : FuncData
  a_law_missing : Addr
  d_law_missing : FuncData
  a_law_judged : Addr
  d_law_judged : FuncData
  a_law_rings_right : Addr
  d_law_rings_right : FuncData
  a_law_fresh : Addr
  d_law_fresh : FuncData
  a_law_turn : Addr
  d_law_turn : FuncData
  a_side_looks : Addr
  d_side_looks : FuncData
  a_round_looks : Addr
  d_round_looks : FuncData
  a_place_by : Addr
  d_place_by : FuncData
  a_best_step : Addr
  d_best_step : FuncData
  a_Walk_init : Addr
  d_Walk_init : FuncData
  a_Walkfollow : Addr
  d_Walkfollow : FuncData
  a_Walk_period : Addr
  d_Walk_period : FuncData
  a_Walk_climb : Addr
  d_Walk_climb : FuncData
  a_Walk_behind : Addr
  d_Walk_behind : FuncData
  a_Walk_reach : Addr
  d_Walk_reach : FuncData
  a_check_round : Addr
  d_check_round : FuncData
  a_place_behind : Addr
  d_place_behind : FuncData
  a_least_behind : Addr
  d_least_behind : FuncData
  a_greatest_behind : Addr
  d_greatest_behind : FuncData
  a_fewest_uses : Addr
  d_fewest_uses : FuncData
  a_most_uses : Addr
  d_most_uses : FuncData
  a_lowest : Addr
  d_lowest : FuncData
  a_side_pace : Addr
  d_side_pace : FuncData
  a_paces : Addr
  d_paces : FuncData
  a_check_side : Addr
  d_check_side : FuncData
  a_check_ring : Addr
  d_check_ring : FuncData
  a_ring : Addr
  d_ring : FuncData
  a_ring_pace : Addr
  d_ring_pace : FuncData
  a_too_far : Addr
  d_too_far : FuncData
  a_clash : Addr
  d_clash : FuncData
  a_Dark_init : Addr
  d_Dark_init : FuncData
  a_Dark_length : Addr
  d_Dark_length : FuncData
  a_Dark_hear : Addr
  d_Dark_hear : FuncData
  a_Dark_drop : Addr
  d_Dark_drop : FuncData
  a_Dark_looks : Addr
  d_Dark_looks : FuncData
  a_Darkcheck_word : Addr
  d_Darkcheck_word : FuncData
  a_Darkhome : Addr
  d_Darkhome : FuncData
  a_Darkclashing : Addr
  d_Darkclashing : FuncData
  a_law : Addr
  d_law : FuncData
  v_SLOW : Value
  v_FAST : Value
  a_WORDS : Addr
  a_LW : Addr
  t_slow : Addr
  t_fast : Addr
structure Tx (K : PySem.W.Frag) (w : World) (mg : Str → Option Value) (Z : Ad) : Prop where
  F_law_pot : Fun K "_law_pot" "_law_pot" slaw_pot Z.a_law_pot Z.d_law_pot
  bb_law_pot : Binds K Z.d_law_pot P_law_pot []
  g_law_pot : mg "_law_pot" = some (.ref Z.a_law_pot)
  F_law_draw : Fun K "_law_draw" "_law_draw" slaw_draw Z.a_law_draw Z.d_law_draw
  bb_law_draw : Binds K Z.d_law_draw P_law_draw []
  g_law_draw : mg "_law_draw" = some (.ref Z.a_law_draw)
  F_law_hidden : Fun K "_law_hidden" "_law_hidden" slaw_hidden Z.a_law_hidden Z.d_law_hidden
  bb_law_hidden : Binds K Z.d_law_hidden P_law_hidden []
  g_law_hidden : mg "_law_hidden" = some (.ref Z.a_law_hidden)
  F_law_goal : Fun K "_law_goal" "_law_goal" slaw_goal Z.a_law_goal Z.d_law_goal
  bb_law_goal : Binds K Z.d_law_goal P_law_goal []
  g_law_goal : mg "_law_goal" = some (.ref Z.a_law_goal)
  F_law_wide : Fun K "_law_wide" "_law_wide" slaw_wide Z.a_law_wide Z.d_law_wide
  bb_law_wide : Binds K Z.d_law_wide P_law_wide []
  g_law_wide : mg "_law_wide" = some (.ref Z.a_law_wide)
  F_law_look : Fun K "_law_look" "_law_look" slaw_look Z.a_law_look Z.d_law_look
  bb_law_look : Binds K Z.d_law_look P_law_look []
  g_law_look : mg "_law_look" = some (.ref Z.a_law_look)
  F_law_told : Fun K "_law_told" "_law_told" slaw_told Z.a_law_told Z.d_law_told
  bb_law_told : Binds K Z.d_law_told P_law_told []
  g_law_told : mg "_law_told" = some (.ref Z.a_law_told)
  F_law_missing : Fun K "_law_missing" "_law_missing" slaw_missing Z.a_law_missing Z.d_law_missing
  bb_law_missing : Binds K Z.d_law_missing P_law_missing []
  g_law_missing : mg "_law_missing" = some (.ref Z.a_law_missing)
  F_law_judged : Fun K "_law_judged" "_law_judged" slaw_judged Z.a_law_judged Z.d_law_judged
  bb_law_judged : Binds K Z.d_law_judged P_law_judged []
  g_law_judged : mg "_law_judged" = some (.ref Z.a_law_judged)
  F_law_rings_right : Fun K "_law_rings_right" "_law_rings_right" slaw_rings_right Z.a_law_rings_right Z.d_law_rings_right
  bb_law_rings_right : Binds K Z.d_law_rings_right P_law_rings_right []
  g_law_rings_right : mg "_law_rings_right" = some (.ref Z.a_law_rings_right)
  F_law_fresh : Fun K "_law_fresh" "_law_fresh" slaw_fresh Z.a_law_fresh Z.d_law_fresh
  bb_law_fresh : Binds K Z.d_law_fresh P_law_fresh []
  g_law_fresh : mg "_law_fresh" = some (.ref Z.a_law_fresh)
  F_law_turn : Fun K "_law_turn" "_law_turn" slaw_turn Z.a_law_turn Z.d_law_turn
  bb_law_turn : Binds K Z.d_law_turn P_law_turn []
  g_law_turn : mg "_law_turn" = some (.ref Z.a_law_turn)
  F_side_looks : Fun K "side_looks" "side_looks" sside_looks Z.a_side_looks Z.d_side_looks
  bb_side_looks : Binds K Z.d_side_looks P_side_looks []
  g_side_looks : mg "side_looks" = some (.ref Z.a_side_looks)
  F_round_looks : Fun K "round_looks" "round_looks" sround_looks Z.a_round_looks Z.d_round_looks
  bb_round_looks : Binds K Z.d_round_looks P_round_looks []
  g_round_looks : mg "round_looks" = some (.ref Z.a_round_looks)
  F_place_by : Fun K "place_by" "place_by" splace_by Z.a_place_by Z.d_place_by
  bb_place_by : Binds K Z.d_place_by P_place_by []
  g_place_by : mg "place_by" = some (.ref Z.a_place_by)
  F_best_step : Fun K "best_step" "best_step" sbest_step Z.a_best_step Z.d_best_step
  bb_best_step : Binds K Z.d_best_step P_best_step []
  g_best_step : mg "best_step" = some (.ref Z.a_best_step)
  F_Walk_init : Fun K "__init__" "Walk.__init__" sWalk_init Z.a_Walk_init Z.d_Walk_init
  bb_Walk_init : Binds K Z.d_Walk_init P_Walk_init []
  F_Walkfollow : Fun K "_follow" "Walk._follow" sWalkfollow Z.a_Walkfollow Z.d_Walkfollow
  bb_Walkfollow : Binds K Z.d_Walkfollow P_Walkfollow []
  m_Walkfollow : Meth K Z.C_Walk "_follow" Z.a_Walkfollow
  F_Walk_period : Fun K "period" "Walk.period" sWalk_period Z.a_Walk_period Z.d_Walk_period
  bb_Walk_period : Binds K Z.d_Walk_period P_Walk_period []
  m_Walk_period : Meth K Z.C_Walk "period" Z.a_Walk_period
  F_Walk_climb : Fun K "climb" "Walk.climb" sWalk_climb Z.a_Walk_climb Z.d_Walk_climb
  bb_Walk_climb : Binds K Z.d_Walk_climb P_Walk_climb []
  m_Walk_climb : Meth K Z.C_Walk "climb" Z.a_Walk_climb
  F_Walk_behind : Fun K "behind" "Walk.behind" sWalk_behind Z.a_Walk_behind Z.d_Walk_behind
  bb_Walk_behind : Binds K Z.d_Walk_behind P_Walk_behind []
  m_Walk_behind : Meth K Z.C_Walk "behind" Z.a_Walk_behind
  F_Walk_reach : Fun K "reach" "Walk.reach" sWalk_reach Z.a_Walk_reach Z.d_Walk_reach
  bb_Walk_reach : Binds K Z.d_Walk_reach P_Walk_reach []
  m_Walk_reach : Meth K Z.C_Walk "reach" Z.a_Walk_reach
  F_check_round : Fun K "check_round" "check_round" scheck_round Z.a_check_round Z.d_check_round
  bb_check_round : Binds K Z.d_check_round P_check_round []
  g_check_round : mg "check_round" = some (.ref Z.a_check_round)
  F_place_behind : Fun K "place_behind" "place_behind" splace_behind Z.a_place_behind Z.d_place_behind
  bb_place_behind : Binds K Z.d_place_behind P_place_behind []
  g_place_behind : mg "place_behind" = some (.ref Z.a_place_behind)
  F_least_behind : Fun K "least_behind" "least_behind" sleast_behind Z.a_least_behind Z.d_least_behind
  bb_least_behind : Binds K Z.d_least_behind P_least_behind []
  g_least_behind : mg "least_behind" = some (.ref Z.a_least_behind)
  F_greatest_behind : Fun K "greatest_behind" "greatest_behind" sgreatest_behind Z.a_greatest_behind Z.d_greatest_behind
  bb_greatest_behind : Binds K Z.d_greatest_behind P_greatest_behind []
  g_greatest_behind : mg "greatest_behind" = some (.ref Z.a_greatest_behind)
  F_fewest_uses : Fun K "fewest_uses" "fewest_uses" sfewest_uses Z.a_fewest_uses Z.d_fewest_uses
  bb_fewest_uses : Binds K Z.d_fewest_uses P_fewest_uses []
  g_fewest_uses : mg "fewest_uses" = some (.ref Z.a_fewest_uses)
  F_most_uses : Fun K "most_uses" "most_uses" smost_uses Z.a_most_uses Z.d_most_uses
  bb_most_uses : Binds K Z.d_most_uses P_most_uses []
  g_most_uses : mg "most_uses" = some (.ref Z.a_most_uses)
  F_lowest : Fun K "lowest" "lowest" slowest Z.a_lowest Z.d_lowest
  bb_lowest : Binds K Z.d_lowest P_lowest []
  g_lowest : mg "lowest" = some (.ref Z.a_lowest)
  F_side_pace : Fun K "side_pace" "side_pace" sside_pace Z.a_side_pace Z.d_side_pace
  bb_side_pace : Binds K Z.d_side_pace P_side_pace []
  g_side_pace : mg "side_pace" = some (.ref Z.a_side_pace)
  F_paces : Fun K "paces" "paces" spaces Z.a_paces Z.d_paces
  bb_paces : Binds K Z.d_paces P_paces []
  g_paces : mg "paces" = some (.ref Z.a_paces)
  F_check_side : Fun K "check_side" "check_side" scheck_side Z.a_check_side Z.d_check_side
  bb_check_side : Binds K Z.d_check_side P_check_side []
  g_check_side : mg "check_side" = some (.ref Z.a_check_side)
  F_check_ring : Fun K "check_ring" "check_ring" scheck_ring Z.a_check_ring Z.d_check_ring
  bb_check_ring : Binds K Z.d_check_ring P_check_ring []
  g_check_ring : mg "check_ring" = some (.ref Z.a_check_ring)
  F_ring : Fun K "ring" "ring" sring Z.a_ring Z.d_ring
  bb_ring : Binds K Z.d_ring P_ring []
  g_ring : mg "ring" = some (.ref Z.a_ring)
  F_ring_pace : Fun K "ring_pace" "ring_pace" sring_pace Z.a_ring_pace Z.d_ring_pace
  bb_ring_pace : Binds K Z.d_ring_pace P_ring_pace []
  g_ring_pace : mg "ring_pace" = some (.ref Z.a_ring_pace)
  F_too_far : Fun K "too_far" "too_far" stoo_far Z.a_too_far Z.d_too_far
  bb_too_far : Binds K Z.d_too_far P_too_far []
  g_too_far : mg "too_far" = some (.ref Z.a_too_far)
  F_clash : Fun K "clash" "clash" sclash Z.a_clash Z.d_clash
  bb_clash : Binds K Z.d_clash P_clash []
  g_clash : mg "clash" = some (.ref Z.a_clash)
  F_Dark_init : Fun K "__init__" "Dark.__init__" sDark_init Z.a_Dark_init Z.d_Dark_init
  bb_Dark_init : Binds K Z.d_Dark_init P_Dark_init []
  F_Dark_length : Fun K "length" "Dark.length" sDark_length Z.a_Dark_length Z.d_Dark_length
  bb_Dark_length : Binds K Z.d_Dark_length P_Dark_length []
  m_Dark_length : Meth K Z.C "length" Z.a_Dark_length
  F_Dark_hear : Fun K "hear" "Dark.hear" sDark_hear Z.a_Dark_hear Z.d_Dark_hear
  bb_Dark_hear : Binds K Z.d_Dark_hear P_Dark_hear []
  m_Dark_hear : Meth K Z.C "hear" Z.a_Dark_hear
  F_Dark_drop : Fun K "drop" "Dark.drop" sDark_drop Z.a_Dark_drop Z.d_Dark_drop
  bb_Dark_drop : Binds K Z.d_Dark_drop P_Dark_drop []
  m_Dark_drop : Meth K Z.C "drop" Z.a_Dark_drop
  F_Dark_looks : Fun K "looks" "Dark.looks" sDark_looks Z.a_Dark_looks Z.d_Dark_looks
  bb_Dark_looks : Binds K Z.d_Dark_looks P_Dark_looks []
  m_Dark_looks : Meth K Z.C "looks" Z.a_Dark_looks
  F_Darkcheck_word : Fun K "_check_word" "Dark._check_word" sDarkcheck_word Z.a_Darkcheck_word Z.d_Darkcheck_word
  bb_Darkcheck_word : Binds K Z.d_Darkcheck_word P_Darkcheck_word []
  m_Darkcheck_word : Meth K Z.C "_check_word" Z.a_Darkcheck_word
  F_Darkhome : Fun K "_home" "Dark._home" sDarkhome Z.a_Darkhome Z.d_Darkhome
  bb_Darkhome : Binds K Z.d_Darkhome P_Darkhome []
  m_Darkhome : Meth K Z.C "_home" Z.a_Darkhome
  F_Darkclashing : Fun K "_clashing" "Dark._clashing" sDarkclashing Z.a_Darkclashing Z.d_Darkclashing
  bb_Darkclashing : Binds K Z.d_Darkclashing P_Darkclashing []
  m_Darkclashing : Meth K Z.C "_clashing" Z.a_Darkclashing
  F_law : Fun K "law" "law" slaw Z.a_law Z.d_law
  bb_law : Binds K Z.d_law P_law []
  g_law : mg "law" = some (.ref Z.a_law)
  cl : Cls K Z.C
  g_Dark : mg "Dark" = some (.ref Z.C)
  cl_Walk : Cls K Z.C_Walk
  g_Walk : mg "Walk" = some (.ref Z.C_Walk)
  mk_Walk : Mk K Z.C_Walk Z.a_Walk_init
  nWalk_places : NoAttr K Z.C_Walk "places"
  nWalk_told_by : NoAttr K Z.C_Walk "told_by"
  nWalk_start : NoAttr K Z.C_Walk "start"
  mk_Dark : Mk K Z.C Z.a_Dark_init
  n_length : NoAttr K Z.C "_length"
  n_looks : NoAttr K Z.C "_looks"
  b_max : mg "max" = none
  b_min : mg "min" = none
  b_len : mg "len" = none
  b_range : mg "range" = none
  b_sorted : mg "sorted" = none
  b_set : mg "set" = none
  b_list : mg "list" = none
  b_int : mg "int" = none
  b_enumerate : mg "enumerate" = none
  b_divmod : mg "divmod" = none
  g_gcd : mg "gcd" = some (.builtin "math.gcd")
  b_zip : mg "zip" = none
  b_tuple : mg "tuple" = none
  b_bool : mg "bool" = none
  b_str : mg "str" = none
  b_abs : mg "abs" = none
  b_super : mg "super" = none
  b_ValueError : mg "ValueError" = none
  g_SLOW : mg "SLOW" = some Z.v_SLOW
  r_SLOW : RelV (.str "slow") Z.v_SLOW
  g_FAST : mg "FAST" = some Z.v_FAST
  r_FAST : RelV (.str "fast") Z.v_FAST
  g_WORDS : mg "WORDS" = some (.ref Z.a_WORDS)
  kd_WORDS : ∃ es n, KDict K w Z.a_WORDS es n
  w_slow : PySem.W.nsIn K Z.a_WORDS "slow" = some (some (.ref Z.t_slow))
  w_fast : PySem.W.nsIn K Z.a_WORDS "fast" = some (some (.ref Z.t_fast))
  q_slow : ∀ H, SqT K H Z.t_slow [.str "at", .str "from"]
  q_fast : ∀ H, SqT K H Z.t_fast [.str "at", .str "upto"]
  g_LOOK_WORDS : mg "LOOK_WORDS" = some (.ref Z.a_LW)
  q_LW : ∀ H, SqT K H Z.a_LW [.str "at", .str "from", .str "upto"]
structure AdX where
  c_NoRing : Addr
  i_NoRing : Addr
structure Ex (P : Program) (K : PySem.W.Frag) (mg : Str → Option Value) (Y : AdX) : Prop where
  NoRing : ERR.ErrT P K Y.c_NoRing Y.i_NoRing
  g_NoRing : mg "NoRing" = some (.ref Y.c_NoRing)
  m_NoRing : PySem.W.exmOne K (.ref Y.c_NoRing) (.ref Y.c_NoRing) = some true
  d_NoRing : PySem.W.exmOne K (.ref Y.c_NoRing) (.ref Y.c_NoRing) = some true
  x_NoRing : EK.ExF K Y.c_NoRing
  kv_NoRing : PySem.W.kitOne K (.ref Y.c_NoRing) (.type "ValueError") = some true
end KA
/-! Looks in plain Lean. -/
namespace KA
open PySem PySem.Spec PyProof.Rows L2 DP
/-- a look: word, x, y -/
abbrev Lk := Str × Int × Int
def encL (l : Lk) : PyData := .tuple [.str l.1, .int l.2.1, .int l.2.2]
def WordOk (x : Str) : Prop := x = "at" ∨ x = "from" ∨ x = "upto"
def SideOk (x : Str) : Prop := x = "slow" ∨ x = "fast"
/-- the words of a side, by truth -/
def onSide (sd x : Str) : Bool := if sd = "slow" then (decide (x = "at") || decide (x = "from")) else (decide (x = "at") || decide (x = "upto"))
/-- where a look alone tells that x is led -/
def plc (sd : Str) (l : Lk) (x L : Int) : Int := if sd = "slow" then l.2.2 + (x - l.2.1) / L * L else l.2.2 - (l.2.1 - x) / L * L
def Sized (n : Nat) (l : Lk) : Prop := l.2.1.natAbs < 2 ^ n ∧ l.2.2.natAbs < 2 ^ n
theorem slow_ne : ¬ (("fast" : Str) = "slow") := by decide +kernel
theorem plc_slow (l : Lk) (x L : Int) : plc "slow" l x L = l.2.2 + (x - l.2.1) / L * L := if_pos rfl
theorem plc_fast (l : Lk) (x L : Int) : plc "fast" l x L = l.2.2 - (l.2.1 - x) / L * L := if_neg slow_ne
def tooFar (a b : Lk) (L : Int) : Bool := onSide "slow" a.1 && onSide "fast" b.1 && decide (b.2.2 < plc "slow" a b.2.1 L)
def clashB (a b : Lk) (L : Int) : Bool := tooFar a b L || tooFar b a L
/-- brought home -/
def home (L : Int) (l : Lk) : Lk := (l.1, l.2.1 - l.2.1 / L * L, l.2.2 - l.2.1 / L * L)
theorem nat_div {a L : Int} (h : 0 < L) : (a / L).natAbs ≤ a.natAbs + 1 := Nat.le_succ_of_le (Int.natAbs_ediv_le_natAbs a L)
theorem sub_lt {a b : Int} {n : Nat} (ha : a.natAbs < 2 ^ n) (hb : b.natAbs < 2 ^ n) : (a - b).natAbs < 2 ^ (n + 1) := by
  rw [Nat.pow_succ]; omega
theorem add_lt {a b : Int} {n : Nat} (ha : a.natAbs < 2 ^ n) (hb : b.natAbs < 2 ^ n) : (a + b).natAbs < 2 ^ (n + 1) := by
  rw [Nat.pow_succ]; omega
theorem div_lt {a L : Int} {n : Nat} (h : 0 < L) (ha : a.natAbs < 2 ^ n) : (a / L).natAbs < 2 ^ (n + 1) := by
  have := nat_div (a := a) h
  have h1 : 1 ≤ 2 ^ n := Nat.one_le_two_pow
  rw [Nat.pow_succ]; omega
theorem lt_up {a : Int} {m n : Nat} (ha : a.natAbs < 2 ^ m) (h : m ≤ n) : a.natAbs < 2 ^ n := Nat.lt_of_lt_of_le ha (Nat.pow_le_pow_right (by decide) h)
section
variable {K : PySem.W.Frag} {H : Hp}
theorem dp_look {v : V} {l : Lk} (h : Dp K H v (encL l)) : ∃ a, v = .ref a ∧ SqT K H a [.str l.1, .int l.2.1, .int l.2.2] := by
  have h' : Dp K H v (.tuple [.str l.1, .int l.2.1, .int l.2.2]) := h
  cases h' with
  | tup s a =>
    cases a with
    | cons a1 a =>
      cases a with
      | cons a2 a =>
        cases a with
        | cons a3 a =>
          cases a; cases a1; cases a2; cases a3
          exact ⟨_, rfl, s⟩
theorem dp_list {v : V} {ds : List PyData} (h : Dp K H v (.list ds)) : ∃ a xs, v = .ref a ∧ SqL K H a xs ∧ DpAll K H xs ds := by
  cases h with
  | lst s a => exact ⟨_, _, rfl, s, a⟩
end
theorem decl_words {x : Str} (h : WordOk x) : inV (.str x) [.str "at", .str "from"] = onSide "slow" x ∧ inV (.str x) [.str "at", .str "upto"] = onSide "fast" x ∧ inV (.str x) [.str "at", .str "from", .str "upto"] = true := by
  rcases h with e | e | e <;> subst e <;> decide +kernel
theorem yes_ite {σ : L2.St} {H : Hp} {A B : Hp → Prop} (h : A H) : tYes σ H (fun b H3 => if b = true then A H3 else B H3) := by
  show (if true = true then A H else B H)
  rw [if_pos rfl]
  exact h
/-- data without lists: tuples, numbers, texts -/
def noL : PyData → Bool
  | .list _ => false
  | .dict _ => false
  | .tuple xs => noLs xs
  | _ => true
where noLs : List PyData → Bool
  | [] => true
  | x :: xs => noL x && noLs xs
/-- tuples stand -/
def Tups (H H' : Hp) : Prop := ∀ b xs, Rd H b (.tup xs) → Rd H' b (.tup xs)
theorem Tups.of_same {H H' : Hp} (S : Same H H') : Tups H H' := fun _ _ h => DP.Same.rd S h
theorem Tups.upd_lst {H : Hp} {D : Addr} {ys : List V} {o : HO} (h : H D = some (.lst ys)) : Tups H (upd H D o) := fun b xs hb => by
  have hn : b ≠ D := by
    rintro rfl
    rcases hb with e | ⟨q, e⟩ <;> rw [h] at e <;> cases e
  rcases hb with e | ⟨q, e⟩
  · exact .inl ((upd_ne hn).trans e)
  · exact .inr ⟨q, (upd_ne hn).trans e⟩
theorem Tups.upd_ins {H : Hp} {D C dx : Addr} {fs : List (Str × V)} {o : HO} (h : H D = some (.ins C dx fs)) : Tups H (upd H D o) := fun b xs hb => by
  have hn : b ≠ D := by
    rintro rfl
    rcases hb with e | ⟨q, e⟩ <;> rw [h] at e <;> cases e
  rcases hb with e | ⟨q, e⟩
  · exact .inl ((upd_ne hn).trans e)
  · exact .inr ⟨q, (upd_ne hn).trans e⟩
theorem Tups.trans {H H1 H2 : Hp} (a : Tups H H1) (b : Tups H1 H2) : Tups H H2 := fun c xs h => b c xs (a c xs h)
section
variable {K : PySem.W.Frag} {H H' : Hp}
mutual
theorem dp_tups (S : Tups H H') : ∀ (d : PyData) (v : V), noL d = true → Dp K H v d → Dp K H' v d
  | .none, _, _, h => by cases h; exact .non
  | .bool _, _, _, h => by cases h; exact .bl _
  | .int _, _, _, h => by cases h; exact .int _
  | .str _, _, _, h => by cases h; exact .str _
  | .list _, _, n, _ => by simp [noL] at n
  | .dict _, _, n, _ => by simp [noL] at n
  | .tuple ds, _, n, h => by
    cases h with
    | tup s a =>
      refine .tup ?_ (dpAll_tups S ds _ (by simpa [noL] using n) a)
      rcases s with s | s
      · exact .inl (S _ _ s)
      · exact .inr s
theorem dpAll_tups (S : Tups H H') : ∀ (ds : List PyData) (vs : List V), noL.noLs ds = true → DpAll K H vs ds → DpAll K H' vs ds
  | [], _, _, h => by cases h; exact .nil
  | d :: ds, _, n, h => by
    rw [noL.noLs, Bool.and_eq_true] at n
    cases h with
    | cons a b => exact .cons (dp_tups S d _ n.1 a) (dpAll_tups S ds _ n.2 b)
end
theorem noLs_map {β : Type} {enc : β → PyData} (h : ∀ b, noL (enc b) = true) : ∀ bs : List β, noL.noLs (bs.map enc) = true
  | [] => rfl
  | b :: bs => by
    show noL.noLs (enc b :: bs.map enc) = true
    rw [noL.noLs, h b, noLs_map h bs]; rfl
theorem noL_encL (l : Lk) : noL (encL l) = true := rfl
/-- one more at the list that a comprehension makes -/
theorem acc_step {D : Addr} {ys : List V} {ds : List PyData} {y : V} {d : PyData} (hD : H D = some (.lst ys)) (hn : noL.noLs ds = true) (hd : noL d = true) (h : DpAll K H ys ds) (hy : Dp K H y d) :
    DpAll K (upd H D (.lst (ys ++ [y]))) (ys ++ [y]) (ds ++ [d]) :=
  dpAll_snoc (dpAll_tups (Tups.upd_lst hD) _ _ hn h) (dp_tups (Tups.upd_lst hD) _ _ hd hy)
end
theorem same_set {H : Hp} {p : Addr} {o : HO} {H1 : Hp} (S : Same H H1) (hn : H p = none) : Same H (upd H1 p o) := fun b u e => by rw [upd_ne (ne_of_none e hn)]; exact S b u e
theorem take_snoc {α : Type} : ∀ {l : List α} {i : Nat} {x : α}, l[i]? = some x → l.take (i + 1) = l.take i ++ [x]
  | [], i, x, h => by simp at h
  | a :: l, 0, x, h => by
    have e : a = x := Option.some.inj h
    subst e
    rfl
  | a :: l, i + 1, x, h => by
    have ih := take_snoc (l := l) (i := i) (x := x) h
    show a :: l.take (i + 1) = a :: l.take i ++ [x]
    rw [ih]; rfl
theorem map_at {α β : Type} {f : α → β} {l : List α} {i : Nat} {y : β} (h : (l.map f)[i]? = some y) : ∃ x, l[i]? = some x ∧ y = f x := by
  rw [List.getElem?_map] at h
  cases e : l[i]? with
  | none => rw [e] at h; cases h
  | some x => rw [e] at h; exact ⟨x, rfl, (Option.some.inj h).symm⟩
end KA
namespace KA
open PySem PySem.Spec PyProof.Rows L2 DP
def spPlace (K : PySem.W.Frag) : Sp := fun vs H Q _ => ∃ (v : V) (l : Lk) (sd : Str) (x L : Int), vs = [v, .str sd, .int x, .int L] ∧ Dp K H v (encL l) ∧ SideOk sd ∧ 0 < L ∧ L.natAbs < 2 ^ 200 ∧ x.natAbs < 2 ^ 400 ∧ Sized 400 l ∧ Q (.int (plc sd l x L)) H
def spFar (K : PySem.W.Frag) (f : Lk → Lk → Int → Bool) : Sp := fun vs H Q _ => ∃ (v u : V) (a b : Lk) (L : Int), vs = [v, u, .int L] ∧ Dp K H v (encL a) ∧ Dp K H u (encL b) ∧ WordOk a.1 ∧ WordOk b.1 ∧ 0 < L ∧ L.natAbs < 2 ^ 200 ∧ Sized 400 a ∧ Sized 400 b ∧ Q (.bl (f a b L)) H
section
variable {P : Program} {w : World} {K : PySem.W.Frag} {mg : Str → Option Value} {base : Heap} {Z : Ad}
theorem ok_place_by (T : Tx K w mg Z) : FnOk P w K mg base CX0 1 Z.a_place_by Z.d_place_by P_place_by (spPlace K) := by
  refine T.F_place_by.ok scplace_by (fun vs H Q E h => ?_) (fun cdv A outer s H vs Q E hr h => ?_)
  · obtain ⟨v, l, sd, x, L, rfl, _⟩ := h
    rfl
  · obtain ⟨v, l, sd, x, L, rfl, hv, hsd, hL, hLb, hx, hl, k⟩ := h
    obtain ⟨a, rfl, ha⟩ := dp_look hv
    refine ⟨_, (pss_cons (ps_asg (pv 0) (tupK (K := K) (by rfl) (pgs_cons (pg_name (i := 4) scplace_by.nd rfl (Or.inl rfl)) (pgs_cons (pg_name (i := 5) scplace_by.nd rfl (Or.inl rfl)) (pgs_cons (pg_name (i := 6) scplace_by.nd rfl (Or.inl rfl)) pgs_nil)))))
      (C8.pss_cut (ps_if (pt_cmpR op_eq (pv 1) (pe_glob rfl T.g_SLOW T.r_SLOW) (nomark _)) (pss_one (ps_ret (pe_op op_add (pv 6) (pe_op op_mulW (pe_op op_fdivW (pe_op op_sub (pv 2) (pv 5)) (pv 3)) (pv 3))))) pss_nil)
      (pss_one (ps_ret (pe_op op_sub (pv 6) (pe_op op_mulW (pe_op op_fdivW (pe_op op_sub (pv 5) (pv 2)) (pv 3)) (pv 3))))))), ?_⟩
    refine ⟨_, rfl, _, _, rfl, ha, rfl, _, _, rfl, _, _, rfl, _, _, rfl, rfl, ?_⟩
    have e1 : (x - l.2.1).natAbs < 2 ^ 401 := sub_lt hx hl.1
    have e2 : (l.2.1 - x).natAbs < 2 ^ 401 := sub_lt hl.1 hx
    rcases hsd with e | e
    · subst e
      rw [plc_slow] at k
      refine ⟨fun _ _ => False, ⟨_, rfl, rfl, _, rfl, iteT ⟨_, rfl, _, rfl, _, rfl, _, _, rfl, rfl, _, rfl, _, _, rfl, rfl, wide_div hL hLb (by decide) (by decide), _, rfl, _, _, rfl, rfl, wide_mul (div_lt hL e1) hLb (by decide) (by decide) (by decide), _, _, rfl, rfl, k⟩⟩, fun _ _ z => z.elim⟩
    · subst e
      rw [plc_fast] at k
      refine ⟨fun σ' H' => σ' = [some (.ref a), some (.str "fast"), some (.int x), some (.int L), some (.str l.1), some (.int l.2.1), some (.int l.2.2)] ∧ H' = H, ⟨_, rfl, rfl, _, rfl, ?_⟩, ?_⟩
      · have e3 : decide (V.str "fast" = V.str "slow") = false := by decide +kernel
        rw [e3]
        exact iteF ⟨rfl, rfl⟩
      · rintro σ1 H1 ⟨rfl, rfl⟩
        exact ⟨_, rfl, _, rfl, _, rfl, _, _, rfl, rfl, _, rfl, _, _, rfl, rfl, wide_div hL hLb (by decide) (by decide), _, rfl, _, _, rfl, rfl, wide_mul (div_lt hL e2) hLb (by decide) (by decide) (by decide), _, _, rfl, rfl, k⟩
theorem ok_too_far (T : Tx K w mg Z) : FnOk P w K mg base CX0 2 Z.a_too_far Z.d_too_far P_too_far (spFar K tooFar) := by
  refine T.F_too_far.ok sctoo_far (fun vs H Q E h => ?_) (fun cdv A outer s H vs Q E hr h => ?_)
  · obtain ⟨v, u, a, b, L, rfl, _⟩ := h
    rfl
  · obtain ⟨v, u, a, b, L, rfl, hv, hu, wa, wb, hL, hLb, sa, sb, k⟩ := h
    obtain ⟨p, rfl, hp⟩ := dp_look hv
    obtain ⟨q, rfl, hq⟩ := dp_look hu
    obtain ⟨es, n, DW⟩ := T.kd_WORDS
    obtain ⟨da1, da2, _⟩ := decl_words wa
    obtain ⟨db1, db2, _⟩ := decl_words wb
    refine ⟨_, (C8.pss_cut (ps_if (PW.pt (pw_or (pt_cmpR (notInS (K := K)) (pe_ix (ixT (K := K)) (pv 0) pe_int (fun _ _ => rfl)) (pe_ix (ix_kd DW) (pe_glob (v := .ref Z.a_WORDS) rfl T.g_WORDS rfl) (pe_glob rfl T.g_SLOW T.r_SLOW) (fun _ _ => rfl)) (by rfl)) (pw_or1 (pt_cmpR (notInS (K := K)) (pe_ix (ixT (K := K)) (pv 1) pe_int (fun _ _ => rfl)) (pe_ix (ix_kd DW) (pe_glob (v := .ref Z.a_WORDS) rfl T.g_WORDS rfl) (pe_glob rfl T.g_FAST T.r_FAST) (fun _ _ => rfl)) (by rfl))))) (pss_one (ps_ret pe_bl)) pss_nil)
      (pss_one (ps_ret (pe_cmpR op_gt (pe_call (ok_place_by T) (hr.mono (by decide)) (by rfl) T.g_place_by T.F_place_by.kp T.bb_place_by .nil pass0 (pa_cons (pv 0) (pa_cons (pe_glob rfl T.g_SLOW T.r_SLOW) (pa_cons (pe_ix (ixT (K := K)) (pv 1) pe_int (fun _ _ => rfl)) (pa_cons (pv 2) pa_nil))))) (pe_ix (ixT (K := K)) (pv 1) pe_int (fun _ _ => rfl)) (nomark _))))), ?_⟩
    unfold tooFar at k
    refine ⟨fun σ' H' => σ' = [some (.ref p), some (.ref q), some (.int L)] ∧ H' = H ∧ onSide "slow" a.1 = true ∧ onSide "fast" b.1 = true, ?_, ?_⟩
    · refine ⟨_, rfl, _, _, _, _, rfl, rfl, hp, rfl, _, _, .ref Z.t_slow, rfl, rfl, T.w_slow, rfl, _, _, rfl, .inr (T.q_slow _), rfl, rfl, _, rfl, ?_⟩
      cases c1 : onSide "slow" a.1 with
      | false =>
        rw [c1] at da1 k
        have : (if true = true then !inV (V.str a.1) [V.str "at", V.str "from"] else inV (V.str a.1) [V.str "at", V.str "from"]) = true := by rw [if_pos rfl, da1]; rfl
        rw [this]
        exact iteT (iteT k)
      | true =>
        rw [c1] at da1
        have : (if true = true then !inV (V.str a.1) [V.str "at", V.str "from"] else inV (V.str a.1) [V.str "at", V.str "from"]) = false := by rw [if_pos rfl, da1]; rfl
        rw [this]
        refine iteF ⟨_, rfl, _, _, _, _, rfl, rfl, hq, rfl, _, _, .ref Z.t_fast, rfl, rfl, T.w_fast, rfl, _, _, rfl, .inr (T.q_fast _), rfl, rfl, _, rfl, ?_⟩
        cases c2 : onSide "fast" b.1 with
        | false =>
          rw [c2] at db2
          rw [c1, c2] at k
          have : (if true = true then !inV (V.str b.1) [V.str "at", V.str "upto"] else inV (V.str b.1) [V.str "at", V.str "upto"]) = true := by rw [if_pos rfl, db2]; rfl
          rw [this]
          exact iteT k
        | true =>
          rw [c2] at db2
          have : (if true = true then !inV (V.str b.1) [V.str "at", V.str "upto"] else inV (V.str b.1) [V.str "at", V.str "upto"]) = false := by rw [if_pos rfl, db2]; rfl
          rw [this]
          exact iteF ⟨rfl, rfl, rfl, rfl⟩
    · rintro σ1 H1 ⟨rfl, rfl, c1, c2⟩
      rw [c1, c2] at k
      refine ⟨_, rfl, _, rfl, _, _, _, _, rfl, rfl, hq, rfl, _, rfl, ?_⟩
      exact ⟨_, a, "slow", b.2.1, L, rfl, hv, .inl rfl, hL, hLb, sb.1, sa, _, rfl, _, _, _, _, rfl, rfl, hq, rfl, _, _, rfl, rfl, k⟩
theorem ok_clash (T : Tx K w mg Z) : FnOk P w K mg base CX0 3 Z.a_clash Z.d_clash P_clash (spFar K clashB) := by
  refine T.F_clash.ok scclash (fun vs H Q E h => ?_) (fun cdv A outer s H vs Q E hr h => ?_)
  · obtain ⟨v, u, a, b, L, rfl, _⟩ := h
    rfl
  · obtain ⟨v, u, a, b, L, rfl, hv, hu, wa, wb, hL, hLb, sa, sb, k⟩ := h
    refine ⟨_, (pss_one (ps_ret (pe_or (pe_call (ok_too_far T) (hr.mono (by decide)) (by rfl) T.g_too_far T.F_too_far.kp T.bb_too_far .nil pass0 (pa_cons (pv 0) (pa_cons (pv 1) (pa_cons (pv 2) pa_nil)))) (pe_one (pe_call (ok_too_far T) (hr.mono (by decide)) (by rfl) T.g_too_far T.F_too_far.kp T.bb_too_far .nil pass0 (pa_cons (pv 1) (pa_cons (pv 0) (pa_cons (pv 2) pa_nil)))))))), ?_⟩
    unfold clashB at k
    refine ⟨_, rfl, _, rfl, _, rfl, v, u, a, b, L, rfl, hv, hu, wa, wb, hL, hLb, sa, sb, _, rfl, ?_⟩
    cases c : tooFar a b L with
    | true => rw [c] at k; exact iteT k
    | false =>
      rw [c] at k
      exact iteF ⟨_, rfl, _, rfl, _, rfl, u, v, b, a, L, rfl, hu, hv, wb, wa, hL, hLb, sb, sa, k⟩
end
end KA
namespace KA
open PySem PySem.Spec PyProof.Rows L2 DP
def sideOf (sd : Str) (ls : List Lk) : List Lk := ls.filter fun l => onSide sd l.1
def spSide (K : PySem.W.Frag) : Sp := fun vs H Q _ => ∃ (v : V) (ls : List Lk) (sd : Str), vs = [v, .str sd] ∧ Dp K H v (.list (ls.map encL)) ∧ SideOk sd ∧ (∀ l ∈ ls, WordOk l.1) ∧ ls.length ≤ 1000 ∧
  ∀ H' p, H p = none → Same H H' → (∃ vs, H' p = some (.lst vs) ∧ DpAll K H' vs ((sideOf sd ls).map encL)) → Q (.ref p) H'
/-- a step: where, by which look -/
def encS (sd : Str) (x L : Int) (l : Lk) : PyData := .tuple [.int (plc sd l x L), encL l]
/-- the best step's place -/
def IsBest (sd : Str) (ls : List Lk) (x L m : Int) : Prop := (∃ l ∈ ls, plc sd l x L = m) ∧ ∀ l ∈ ls, if sd = "slow" then plc sd l x L ≤ m else m ≤ plc sd l x L
def spBest (K : PySem.W.Frag) : Sp := fun vs H Q _ => ∃ (v : V) (ls : List Lk) (sd : Str) (x L : Int), vs = [v, .str sd, .int x, .int L] ∧ Dp K H v (.list (ls.map encL)) ∧ SideOk sd ∧ (∀ l ∈ ls, WordOk l.1 ∧ Sized 400 l) ∧ ls.length ≤ 1000 ∧ 0 < L ∧ L.natAbs < 2 ^ 200 ∧ x.natAbs < 2 ^ 400 ∧
  (ls = [] → Q .non H) ∧ ∀ H' r l, l ∈ ls → Same H H' → IsBest sd ls x L (plc sd l x L) → Dp K H' r (encS sd x L l) → Q r H'
/-! ### the best step -/
theorem alike_step (sd : Str) (x L : Int) (a b : Lk) : PySem.W.alike (encS sd x L a) (encS sd x L b) = true := by simp [encS, encL, PySem.W.alike, PySem.W.alikeAll]
theorem steps_alike (sd : Str) (x L : Int) (ls : List Lk) : PySem.W.AlikeAll (ls.map (encS sd x L)) := by
  refine ⟨fun a ha b hb => ?_, fun a ha => ?_⟩
  · obtain ⟨p, _, rfl⟩ := List.mem_map.mp ha
    obtain ⟨q, _, rfl⟩ := List.mem_map.mp hb
    exact alike_step _ _ _ _ _
  · obtain ⟨p, _, rfl⟩ := List.mem_map.mp ha
    exact fun e => by cases e
theorem lay_look {l : Lk} (h : WordOk l.1) : (encL l).canLay0 = true := by
  obtain ⟨a, b, c⟩ := l
  have h : WordOk a := h
  rcases h with e | e | e <;> subst e <;> simp [encL, PyData.canLay0, PyData.canLayAll0] <;> decide +kernel
theorem steps_lay (sd : Str) (x L : Int) : ∀ ls : List Lk, (∀ l ∈ ls, WordOk l.1) → PyData.canLayAll0 (ls.map (encS sd x L)) = true
  | [], _ => rfl
  | l :: ls, h => by
    have h1 := lay_look (h l List.mem_cons_self)
    have h2 := steps_lay sd x L ls fun q hq => h q (List.mem_cons_of_mem _ hq)
    show PyData.canLayAll0 (encS sd x L l :: ls.map (encS sd x L)) = true
    simp [PyData.canLayAll0, h2, encS, PyData.canLay0, h1]
theorem steps_depth (sd : Str) (x L : Int) : ∀ ls : List Lk, PyData.depthAll (ls.map (encS sd x L)) ≤ 60
  | [] => by simp [PyData.depthAll]
  | l :: ls => by
    have h2 := steps_depth sd x L ls
    show PyData.depthAll (encS sd x L l :: ls.map (encS sd x L)) ≤ 60
    have h3 : (encS sd x L l).depth = 2 := by simp [encS, encL, PyData.depth, PyData.depthAll]
    rw [PyData.depthAll, h3]
    omega
/-- a greater place is a greater step -/
theorem lt_step {sd : Str} {x L : Int} {a b : Lk} (h : plc sd a x L < plc sd b x L) : PySem.W.dataLt (encS sd x L a) (encS sd x L b) = true := by
  unfold encS
  rw [PySem.W.dataLt_tuple, PySem.W.dataLt_cons (by simp [PySem.W.alike])]
  have e : PyData.eqv (.int (plc sd a x L)) (.int (plc sd b x L)) = false := by simp [PyData.eqv]; omega
  rw [e, if_neg Bool.false_ne_true, PySem.W.dataLt_int]
  exact decide_eq_true h
theorem le_step {sd : Str} {x L : Int} {a b : Lk} (h : PySem.W.dataLt (encS sd x L a) (encS sd x L b) = true) : plc sd a x L ≤ plc sd b x L := by
  unfold encS at h
  rw [PySem.W.dataLt_tuple, PySem.W.dataLt_cons (by simp [PySem.W.alike])] at h
  by_cases e : plc sd a x L = plc sd b x L
  · omega
  · have e' : PyData.eqv (.int (plc sd a x L)) (.int (plc sd b x L)) = false := by simp [PyData.eqv]; omega
    rw [e', if_neg Bool.false_ne_true, PySem.W.dataLt_int] at h
    have := of_decide_eq_true h
    omega
theorem max_go (x L : Int) : ∀ (ls : List Lk) (l : Lk), ∃ q, (q = l ∨ q ∈ ls) ∧ (ls.map (encS "slow" x L)).foldl (fun a y => if PySem.W.dataLt a y then y else a) (encS "slow" x L l) = encS "slow" x L q ∧ plc "slow" l x L ≤ plc "slow" q x L ∧ ∀ p ∈ ls, plc "slow" p x L ≤ plc "slow" q x L
  | [], l => ⟨l, .inl rfl, rfl, Int.le_refl _, fun _ h => by cases h⟩
  | y :: ls, l => by
    rw [List.map_cons, List.foldl_cons]
    cases c : PySem.W.dataLt (encS "slow" x L l) (encS "slow" x L y) with
    | true =>
      rw [if_pos rfl]
      obtain ⟨q, hq, e, h1, h2⟩ := max_go x L ls y
      have := le_step c
      refine ⟨q, ?_, e, by omega, fun p hp => ?_⟩
      · rcases hq with e | e
        · subst e; exact .inr List.mem_cons_self
        · exact .inr (List.mem_cons_of_mem _ e)
      · rcases List.mem_cons.mp hp with e | e
        · subst e; exact h1
        · exact h2 p e
    | false =>
      rw [if_neg Bool.false_ne_true]
      obtain ⟨q, hq, e, h1, h2⟩ := max_go x L ls l
      refine ⟨q, ?_, e, h1, fun p hp => ?_⟩
      · rcases hq with e | e
        · exact .inl e
        · exact .inr (List.mem_cons_of_mem _ e)
      · rcases List.mem_cons.mp hp with e | e
        · subst e
          by_cases hlt : plc "slow" l x L < plc "slow" p x L
          · rw [lt_step hlt] at c; cases c
          · omega
        · exact h2 p e
theorem max_step (x L : Int) (l : Lk) (ls : List Lk) : ∃ q, q ∈ l :: ls ∧ PySem.W.maxD (encS "slow" x L l) (ls.map (encS "slow" x L)) = encS "slow" x L q ∧ IsBest "slow" (l :: ls) x L (plc "slow" q x L) := by
  obtain ⟨q, hq, e, h1, h2⟩ := max_go x L ls l
  have hm : q ∈ l :: ls := by
    rcases hq with e | e
    · subst e; exact List.mem_cons_self
    · exact List.mem_cons_of_mem _ e
  refine ⟨q, hm, e, ⟨q, hm, rfl⟩, fun p hp => ?_⟩
  rw [if_pos rfl]
  rcases List.mem_cons.mp hp with e | e
  · subst e; exact h1
  · exact h2 p e
theorem min_go (x L : Int) : ∀ (ls : List Lk) (l : Lk), ∃ q, (q = l ∨ q ∈ ls) ∧ (ls.map (encS "fast" x L)).foldl (fun a y => if PySem.W.dataLt y a then y else a) (encS "fast" x L l) = encS "fast" x L q ∧ plc "fast" q x L ≤ plc "fast" l x L ∧ ∀ p ∈ ls, plc "fast" q x L ≤ plc "fast" p x L
  | [], l => ⟨l, .inl rfl, rfl, Int.le_refl _, fun _ h => by cases h⟩
  | y :: ls, l => by
    rw [List.map_cons, List.foldl_cons]
    cases c : PySem.W.dataLt (encS "fast" x L y) (encS "fast" x L l) with
    | true =>
      rw [if_pos rfl]
      obtain ⟨q, hq, e, h1, h2⟩ := min_go x L ls y
      have := le_step c
      refine ⟨q, ?_, e, by omega, fun p hp => ?_⟩
      · rcases hq with e | e
        · subst e; exact .inr List.mem_cons_self
        · exact .inr (List.mem_cons_of_mem _ e)
      · rcases List.mem_cons.mp hp with e | e
        · subst e; exact h1
        · exact h2 p e
    | false =>
      rw [if_neg Bool.false_ne_true]
      obtain ⟨q, hq, e, h1, h2⟩ := min_go x L ls l
      refine ⟨q, ?_, e, h1, fun p hp => ?_⟩
      · rcases hq with e | e
        · exact .inl e
        · exact .inr (List.mem_cons_of_mem _ e)
      · rcases List.mem_cons.mp hp with e | e
        · subst e
          by_cases hlt : plc "fast" p x L < plc "fast" l x L
          · rw [lt_step hlt] at c; cases c
          · omega
        · exact h2 p e
theorem min_step (x L : Int) (l : Lk) (ls : List Lk) : ∃ q, q ∈ l :: ls ∧ PySem.W.minD (encS "fast" x L l) (ls.map (encS "fast" x L)) = encS "fast" x L q ∧ IsBest "fast" (l :: ls) x L (plc "fast" q x L) := by
  obtain ⟨q, hq, e, h1, h2⟩ := min_go x L ls l
  have hm : q ∈ l :: ls := by
    rcases hq with e | e
    · subst e; exact List.mem_cons_self
    · exact List.mem_cons_of_mem _ e
  refine ⟨q, hm, e, ⟨q, hm, rfl⟩, fun p hp => ?_⟩
  rw [if_neg slow_ne]
  rcases List.mem_cons.mp hp with e | e
  · subst e; exact h1
  · exact h2 p e
section
variable {P : Program} {w : World} {K : PySem.W.Frag} {mg : Str → Option Value} {base : Heap} {Z : Ad}
theorem words_side {sd x : Str} (hs : SideOk sd) (hx : WordOk x) : inV (.str x) (if sd = "slow" then [.str "at", .str "from"] else [.str "at", .str "upto"]) = onSide sd x := by
  obtain ⟨h1, h2, _⟩ := decl_words hx
  rcases hs with e | e
  · subst e; rw [if_pos rfl]; exact h1
  · subst e; rw [if_neg slow_ne]; exact h2
theorem ok_side_looks (T : Tx K w mg Z) : FnOk P w K mg base CX0 1 Z.a_side_looks Z.d_side_looks P_side_looks (spSide K) := by
  refine T.F_side_looks.ok scside_looks (fun vs H Q E h => ?_) (fun cdv A outer s H vs Q E hr h => ?_)
  · obtain ⟨v, ls, sd, rfl, _⟩ := h
    rfl
  · obtain ⟨v, ls, sd, rfl, hv, hsd, hw, hlen, k⟩ := h
    obtain ⟨a, xs, rfl, ha, hd⟩ := dp_list hv
    obtain ⟨es, n, DW⟩ := T.kd_WORDS
    have hxl : xs.length = ls.length := by rw [dpAll_len hd, List.length_map]
    obtain ⟨tw, htw, hqw⟩ : ∃ tw, PySem.W.nsIn K Z.a_WORDS sd = some (some (.ref tw)) ∧ ∀ H, SqT K H tw (if sd = "slow" then [.str "at", .str "from"] else [.str "at", .str "upto"]) := by
      rcases hsd with e | e
      · subst e; exact ⟨_, T.w_slow, fun H => by rw [if_pos rfl]; exact T.q_slow H⟩
      · subst e; exact ⟨_, T.w_fast, fun H => by rw [if_neg slow_ne]; exact T.q_fast H⟩
    refine ⟨_, (pss_cons (ps_set (i := 2) scside_looks.nd rfl (Or.inr rfl) (pe_ix (ix_kd DW) (pe_glob (v := .ref Z.a_WORDS) rfl T.g_WORDS rfl) (pv 1) (fun _ _ => rfl)))
      (pss_one (ps_ret (pe_lc (own := [("look", 3)]) (g := gName 3) (tt := _) rfl scside_looks.nd (pi_list (pv 0)) (blkOk_by (own := [("look", 3)]) (N := N_side_looks) (sc := defScope sside_looks) (by decide +kernel)) (fun _ _ _ _ _ => (pg_name (i := 3) scside_looks.nd rfl (Or.inl rfl))) (fun _ _ _ _ _ => (pts_one (pt_cmpR (inS (K := K)) (pe_ix (ixT (K := K)) (pv 3) pe_int (fun _ _ => rfl)) (pv 2) (by rfl)))) (fun _ _ _ _ _ => (pv 3)))))), ?_⟩
    refine ⟨_, rfl, sd, _, .ref tw, rfl, rfl, htw, rfl, _, rfl, a, rfl, ⟨_, ha⟩, fun D hD => ?_⟩
    refine lc_list (K := K) (a := a) (xs := xs) (fun i H' => Same H H' ∧ ∃ ys, H' D = some (.lst ys) ∧ ys.length ≤ i ∧ DpAll K H' ys ((sideOf sd (ls.take i)).map encL)) ⟨same_upd hD, [], upd_same, Nat.le_refl _, .nil⟩ (fun i H' _ ⟨S, _⟩ => Same.sqL S ha) ?_ ?_
    · rintro i y H' hi ⟨S, ys, hD', hyl, hds⟩
      obtain ⟨d, hdi, hdy⟩ := dpAll_get hd hi
      obtain ⟨l, hl, rfl⟩ := map_at hdi
      have hwl := hw l (List.mem_of_getElem? hl)
      have hdy' := dp_mono S _ _ hdy
      obtain ⟨p, rfl, hp⟩ := dp_look hdy'
      refine ⟨rfl, _, rfl, _, _, _, _, rfl, rfl, hp, rfl, _, rfl, _, _, rfl, .inr (hqw _), rfl, ?_, _, rfl, ?_⟩
      · split <;> rfl
      · have e1 : (if false = true then !inV (V.str l.1) (if sd = "slow" then [V.str "at", V.str "from"] else [V.str "at", V.str "upto"]) else inV (V.str l.1) (if sd = "slow" then [V.str "at", V.str "from"] else [V.str "at", V.str "upto"])) = onSide sd l.1 := by
          rw [if_neg Bool.false_ne_true]; exact words_side hsd hwl
        rw [e1]
        have e2 : sideOf sd (ls.take (i + 1)) = sideOf sd (ls.take i) ++ (if onSide sd l.1 = true then [l] else []) := by
          rw [take_snoc hl]; unfold sideOf; rw [List.filter_append]
          cases c : onSide sd l.1 <;> simp [c]
        cases c : onSide sd l.1 with
        | false =>
          refine iteF ⟨S, ys, hD', by omega, ?_⟩
          rw [e2, c]
          simpa using hds
        | true =>
          refine iteT ⟨_, rfl, ys, hD', ?_, ?_, _, upd_same, by simp; omega, ?_⟩
          · have : ys.length ≤ 1000 := by
              have := (List.getElem?_eq_some_iff.mp hl).1
              omega
            exact small1000 this
          · exact same_set S hD
          · rw [e2, c, if_pos rfl, List.map_append]
            exact acc_step hD' (noLs_map noL_encL _) rfl hds hdy'
    · rintro H' ⟨S, ys, hD', hyl, hds⟩
      rw [List.take_of_length_le (by rw [hxl]; exact Nat.le_refl _)] at hds
      exact k H' D hD S ⟨ys, hD', hds⟩
theorem ok_best_step (T : Tx K w mg Z) : FnOk P w K mg base CX0 2 Z.a_best_step Z.d_best_step P_best_step (spBest K) := by
  refine T.F_best_step.ok scbest_step (fun vs H Q E h => ?_) (fun cdv A outer s H vs Q E hr h => ?_)
  · obtain ⟨v, ls, sd, x, L, rfl, _⟩ := h
    rfl
  · obtain ⟨v, ls, sd, x, L, rfl, hv, hsd, hw, hlen, hL, hLb, hx, k0, k⟩ := h
    obtain ⟨a, xs, rfl, ha, hd⟩ := dp_list hv
    have hxl : xs.length = ls.length := by rw [dpAll_len hd, List.length_map]
    refine ⟨_, (C8.pss_cut (ps_if (pt_not (pt_truth (pv 0) (by intro _; rfl))) (pss_one (ps_ret pe_non)) pss_nil)
      (pss_cons (ps_setLc (i := 4) (own := [("look", 5)]) (g := gName 5) (tt := tYes) rfl scbest_step.nd rfl rfl (sw_true rfl rfl rfl (by decide +kernel)) (pi_list (pv 0)) (blkOk_by (own := [("look", 5)]) (N := N_best_step) (sc := defScope sbest_step) (by decide +kernel)) (fun _ _ _ _ _ => (pg_name (i := 5) scbest_step.nd rfl (Or.inl rfl))) (fun _ _ _ _ _ => pts_nil) (fun _ _ _ _ _ => (pe_tup (pa_cons (pe_call (ok_place_by T) (hr.mono (by decide)) (by rfl) T.g_place_by T.F_place_by.kp T.bb_place_by .nil pass0 (pa_cons (pv 5) (pa_cons (pv 1) (pa_cons (pv 2) (pa_cons (pv 3) pa_nil))))) (pa_cons (pv 5) pa_nil)))))
      (pss_one (ps_ret (pe_ifExp (pt_cmpR op_eq (pv 1) (pe_glob rfl T.g_SLOW T.r_SLOW) (nomark _)) (pe_callB (maxDK (K := K) rfl (rooms hr)) (by rfl) T.b_max (by decide +kernel) (pa_cons (pv 4) pa_nil)) (pe_callB (minDK (K := K) rfl (rooms hr)) (by rfl) T.b_min (by decide +kernel) (pa_cons (pv 4) pa_nil))))))), ?_⟩
    refine ⟨fun σ' H' => σ' = [some (.ref a), some (.str sd), some (.int x), some (.int L), none, none] ∧ H' = H ∧ ls ≠ [], ?_, ?_⟩
    · refine ⟨_, rfl, _, .inl ⟨xs, ha, rfl⟩, ?_⟩
      cases ls with
      | nil =>
        have e : xs = [] := List.eq_nil_of_length_eq_zero hxl
        subst e
        exact iteT (k0 rfl)
      | cons l ls =>
        cases xs with
        | nil => simp at hxl
        | cons y ys => exact iteF ⟨rfl, rfl, by simp⟩
    · rintro σ1 H1 ⟨rfl, rfl, hne⟩
      refine ⟨_, rfl, a, rfl, ⟨_, ha⟩, fun D hD => ?_⟩
      refine lc_list (K := K) (a := a) (xs := xs) (fun i H' => Same H1 H' ∧ ∃ ys, H' D = some (.lst ys) ∧ ys.length ≤ i ∧ DpAll K H' ys ((ls.take i).map (encS sd x L))) ⟨same_upd hD, [], upd_same, Nat.le_refl _, .nil⟩ (fun i H' _ ⟨S, _⟩ => Same.sqL S ha) ?_ ?_
      · rintro i y H' hi ⟨S, ys, hD', hyl, hds⟩
        obtain ⟨d, hdi, hdy⟩ := dpAll_get hd hi
        obtain ⟨l, hl, rfl⟩ := map_at hdi
        have hwl := hw l (List.mem_of_getElem? hl)
        have hdy' := dp_mono S _ _ hdy
        refine ⟨rfl, yes_ite ?_⟩
        refine ⟨_, rfl, _, rfl, _, rfl, _, rfl, y, l, sd, x, L, rfl, hdy', hsd, hL, hLb, hx, hwl.2, _, rfl, (by show 2 ≤ sizeLine; decide), fun p hp => ?_⟩
        have hD2 : (upd H' p (.tup [.int (plc sd l x L), y])) D = some (.lst ys) := (upd_ne (ne_of_none hD' hp)).trans hD'
        have S2 := same_upd (o := HO.tup [.int (plc sd l x L), y]) hp
        refine ⟨ys, hD2, ?_, same_set (S.trans S2) hD, _, upd_same, by simp; omega, ?_⟩
        · have := (List.getElem?_eq_some_iff.mp hl).1
          exact small1000 (by omega)
        · rw [take_snoc hl, List.map_append]
          exact acc_step hD2 (noLs_map (fun _ => rfl) _) rfl (dpAll_mono S2 _ _ hds) (.tup (SqT.of upd_same) (.cons (.int _) (.cons (dp_mono S2 _ _ hdy') .nil)))
      · rintro H' ⟨S, ys, hD', hyl, hds⟩
        rw [List.take_of_length_le (by rw [hxl]; exact Nat.le_refl _)] at hds
        refine ⟨_, rfl, rfl, _, rfl, ?_⟩
        have hd0 : ∃ l ls', ls = l :: ls' := by
          cases ls with
          | nil => exact absurd rfl hne
          | cons l ls' => exact ⟨l, ls', rfl⟩
        obtain ⟨l, ls', rfl⟩ := hd0
        have hal := steps_alike sd x L (l :: ls')
        have hlay := steps_lay sd x L (l :: ls') (fun q hq => (hw q hq).1)
        have hdep := steps_depth sd x L (l :: ls')
        rcases hsd with e | e
        · subst e
          refine iteT ⟨_, rfl, D, ys, _, _, rfl, SqL.of hD', hds, hal, hlay, hdep, fun r hr => ?_⟩
          obtain ⟨q, hq, e, hb⟩ := max_step x L l ls'
          rw [e] at hr
          exact k H' r q hq S hb hr
        · subst e
          have e3 : decide (V.str "fast" = V.str "slow") = false := by decide +kernel
          rw [e3]
          refine iteF ⟨_, rfl, D, ys, _, _, rfl, SqL.of hD', hds, hal, hlay, hdep, fun r hr => ?_⟩
          obtain ⟨q, hq, e, hb⟩ := min_step x L l ls'
          rw [e] at hr
          exact k H' r q hq S hb hr
end
end KA
namespace KA
open PySem PySem.Spec PyProof.Rows L2 DP
/-- a Dark's fields -/
def df (L : Int) (la : Addr) : List (Str × V) := [("_length", .int L), ("_looks", .ref la)]
theorem ne_ll : ¬ (("_looks" : Str) = "_length") := by decide +kernel
theorem ne_ll' : ¬ (("_length" : Str) = "_looks") := by decide +kernel
theorem df_length (L : Int) (la : Addr) : (df L la).lookup ("_length" : Str) = some (.int L) := by simp [df, List.lookup]
theorem df_looks (L : Int) (la : Addr) : (df L la).lookup ("_looks" : Str) = some (.ref la) := by
  have h : (("_looks" : Str) == ("_length" : Str)) = false := by decide +kernel
  simp [df, List.lookup, h]
theorem df_no (L : Int) (la : Addr) {m : Str} (h1 : (m == ("_length" : Str)) = false) (h2 : (m == ("_looks" : Str)) = false) : (df L la).lookup m = none := by simp [df, List.lookup, h1, h2]
theorem df_put1 (v : V) : putF "_length" v [] = [(("_length" : Str), v)] := rfl
theorem df_put2 (L : Int) (la : Addr) : putF "_looks" (.ref la) [("_length", .int L)] = df L la := by
  show (if ("_length" : Str) = "_looks" then _ else _) = _
  rw [if_neg ne_ll']; rfl
theorem df_put3 (L : Int) (la lb : Addr) : putF "_looks" (.ref lb) (df L la) = df L lb := by
  show (if ("_length" : Str) = "_looks" then _ else (("_length" : Str), V.int L) :: putF "_looks" (.ref lb) [("_looks", .ref la)]) = _
  rw [if_neg ne_ll']
  show (("_length" : Str), V.int L) :: (if ("_looks" : Str) = "_looks" then _ else _) = _
  rw [if_pos rfl]; rfl
/-- what is free there was free before -/
structure FreeIn (H H' : Hp) : Prop where
  free : ∀ {b : Addr}, H' b = none → H b = none
structure DarkAt (Z : Ad) (K : PySem.W.Frag) (H : Hp) (d : Addr) (L : Int) (ls : List Lk) : Prop where
  ex : ∃ dx la vs, H d = some (.ins Z.C dx (df L la)) ∧ H la = some (.lst vs) ∧ DpAll K H vs (ls.map encL)
  pos : 0 < L
  big : L.natAbs < 2 ^ 200
  ok : ∀ l ∈ ls, WordOk l.1 ∧ Sized 302 l
  len : ls.length ≤ 60
theorem DarkAt.same {Z : Ad} {K : PySem.W.Frag} {H H' : Hp} {d : Addr} {L : Int} {ls : List Lk} (D : DarkAt Z K H d L ls) (S : Same H H') : DarkAt Z K H' d L ls := by
  obtain ⟨dx, la, vs, h1, h2, h3⟩ := D.ex
  exact ⟨⟨dx, la, vs, S _ _ h1, S _ _ h2, dpAll_mono S _ _ h3⟩, D.pos, D.big, D.ok, D.len⟩
theorem Sized.up {m n : Nat} {l : Lk} (h : Sized m l) (hm : m ≤ n) : Sized n l := ⟨lt_up h.1 hm, lt_up h.2 hm⟩
theorem df_inj {C C' dx dx' : Addr} {L L' : Int} {la la' : Addr} (h : some (HO.ins C dx (df L la)) = some (HO.ins C' dx' (df L' la'))) : la = la' := by
  have h1 : df L la = df L' la' := by injection h with h; injection h
  simp [df] at h1
  exact h1.2
def spInit (Z : Ad) (K : PySem.W.Frag) : Sp := fun vs H Q _ => ∃ (d dx : Addr) (L : Int), vs = [.ref d, .int L] ∧ H d = some (.ins Z.C dx []) ∧ 0 < L ∧ L.natAbs < 2 ^ 200 ∧ ∀ H' : Hp, DarkAt Z K H' d L [] → (∀ la dx, H' d = some (.ins Z.C dx (df L la)) → H la = none) → (∀ b o, H b = some o → b ≠ d → H' b = some o) → Q .non H'
def spLooks (Z : Ad) (K : PySem.W.Frag) : Sp := fun vs H Q _ => ∃ (d : Addr) (L : Int) (ls : List Lk), vs = [.ref d] ∧ DarkAt Z K H d L ls ∧ ∀ (p : Addr) (xs : List V) (H' : Hp), H p = none → Same H H' → H' p = some (.lst xs) → DpAll K H' xs (ls.map encL) → Q (.ref p) H'
def spWord : Sp := fun vs H Q _ => ∃ (d : V) (x : Str), vs = [d, .str x] ∧ WordOk x ∧ Q .non H
def spHome (Z : Ad) (K : PySem.W.Frag) : Sp := fun vs H Q _ => ∃ (d : Addr) (L : Int) (ls : List Lk) (l : Lk), vs = [.ref d, .str l.1, .int l.2.1, .int l.2.2] ∧ DarkAt Z K H d L ls ∧ WordOk l.1 ∧ Sized 300 l ∧ ∀ H' r, Same H H' → Dp K H' r (encL (home L l)) → Q r H'
def spClashing (Z : Ad) (K : PySem.W.Frag) : Sp := fun vs H Q _ => ∃ (d : Addr) (v : V) (L : Int) (ls : List Lk) (l : Lk), vs = [.ref d, v] ∧ DarkAt Z K H d L ls ∧ Dp K H v (encL l) ∧ WordOk l.1 ∧ Sized 302 l ∧
  (ls.find? (fun o => clashB l o L) = none → Q .non H) ∧ ∀ o r, ls.find? (fun o => clashB l o L) = some o → Dp K H r (encL o) → Q r H
/-- what is heard -/
def heard (L : Int) (ls : List Lk) (l : Lk) : List Lk := if home L l ∈ ls then ls else (ls ++ [home L l]).mergeSort (PySem.W.dataLe false encL)
def spHear (Z : Ad) (K : PySem.W.Frag) : Sp := fun vs H Q _ => ∃ (d : Addr) (L : Int) (ls : List Lk) (l : Lk), vs = [.ref d, .str l.1, .int l.2.1, .int l.2.2] ∧ DarkAt Z K H d L ls ∧ WordOk l.1 ∧ Sized 300 l ∧ ls.length < 60 ∧ (∀ o ∈ ls, clashB (home L l) o L = false) ∧
  ∀ H', DarkAt Z K H' d L (heard L ls l) → (∀ la dx, H' d = some (.ins Z.C dx (df L la)) → (∃ dx', H d = some (.ins Z.C dx' (df L la))) ∨ H la = none) → (∀ b o, H b = some o → b ≠ d → H' b = some o) → Q .non H'
def spBound (Z : Ad) (K : PySem.W.Frag) : Sp := fun vs H Q _ => ∃ (d : Addr) (L : Int) (ls : List Lk) (sd : Str) (x : Int), vs = [.ref d, .str sd, .int x] ∧ DarkAt Z K H d L ls ∧ SideOk sd ∧ x.natAbs < 2 ^ 400 ∧
  (sideOf sd ls = [] → ∀ H', Same H H' → Q .non H') ∧ ∀ m H', Same H H' → IsBest sd (sideOf sd ls) x L m → Q (.int m) H'
/-- what a side tells of x: None, or the best place -/
def Tells (sd : Str) (ls : List Lk) (x L : Int) (v : V) : Prop := (sideOf sd ls = [] ∧ v = .non) ∨ ∃ m, v = .int m ∧ IsBest sd (sideOf sd ls) x L m
def spSideOf (Z : Ad) (K : PySem.W.Frag) (sd : Str) : Sp := fun vs H Q _ => ∃ (d : Addr) (L : Int) (ls : List Lk) (x : Int), vs = [.ref d, .int x] ∧ DarkAt Z K H d L ls ∧ x.natAbs < 2 ^ 400 ∧
  ∀ v H', Same H H' → Tells sd ls x L v → Q v H'
theorem same_put {H : Hp} {d C dx : Addr} {fs fs' : List (Str × V)} (h : H d = some (.ins C dx fs)) : FreeIn H (upd H d (.ins C dx fs')) := ⟨fun {b} hb => by
  by_cases e : b = d
  · subst e; rw [upd_same] at hb; cases hb
  · rw [upd_ne e] at hb; exact hb⟩
theorem emod_small {x L : Int} (h : 0 < L) (hb : L.natAbs < 2 ^ 200) : (x - x / L * L).natAbs < 2 ^ 200 := by
  have e : x - x / L * L = x % L := by
    have := Int.mul_ediv_add_emod x L
    rw [Int.mul_comm (x / L) L]; omega
  rw [e]
  have h1 := Int.emod_nonneg x (show L ≠ 0 by omega)
  have h2 := Int.emod_lt_of_pos x h
  have h3 : (x % L).natAbs ≤ L.natAbs := by clear hb; omega
  exact Nat.lt_of_le_of_lt h3 hb
theorem home_sized {L : Int} {l : Lk} (h : 0 < L) (hb : L.natAbs < 2 ^ 200) (hl : Sized 300 l) : Sized 302 (home L l) := by
  have h0 := emod_small (x := l.2.1) h hb
  refine ⟨lt_up h0 (by decide), ?_⟩
  show (l.2.2 - l.2.1 / L * L).natAbs < 2 ^ 302
  have e : l.2.2 - l.2.1 / L * L = l.2.2 + ((l.2.1 - l.2.1 / L * L) - l.2.1) := by omega
  rw [e]
  have h1 : ((l.2.1 - l.2.1 / L * L) - l.2.1).natAbs < 2 ^ 301 := sub_lt (lt_up h0 (by decide)) hl.1
  exact add_lt (lt_up hl.2 (by decide)) h1
section
variable {P : Program} {w : World} {K : PySem.W.Frag} {mg : Str → Option Value} {base : Heap} {Z : Ad}
theorem ok_Dark_init (T : Tx K w mg Z) : FnOk P w K mg base CX0 1 Z.a_Dark_init Z.d_Dark_init P_Dark_init (spInit Z K) := by
  refine T.F_Dark_init.ok scDark_init (fun vs H Q E h => ?_) (fun cdv A outer s H vs Q E hr h => ?_)
  · obtain ⟨d, dx, L, rfl, _⟩ := h
    rfl
  · obtain ⟨d, dx, L, rfl, hd, hL, hLb, k⟩ := h
    refine ⟨_, (C8.pss_cut (ps_if (pt_cmpR op_lt (pv 1) pe_int (nomark _)) (pss_one ps_never) pss_nil)
      (pss_cons (ps_fld (pv 0) (pv 1) rfl)
      (pss_one (ps_fld (pv 0) (pe_lst pa_nil) rfl)))), ?_⟩
    refine ⟨fun σ' H' => σ' = [some (.ref d), some (.int L)] ∧ H' = H, ?_, ?_⟩
    · refine ⟨_, rfl, _, _, rfl, rfl, _, rfl, ?_⟩
      exact ite2 (fun c => (by have c' := of_decide_eq_true c; omega : False)) (fun _ => ⟨rfl, rfl⟩)
    · rintro σ1 H1 ⟨rfl, rfl⟩
      refine ⟨_, rfl, _, rfl, d, Z.C, dx, [], rfl, hd, T.cl, T.n_length, (by show 0 < 1000; decide), ?_⟩
      refine ⟨(by show 0 ≤ sizeLine; decide), fun p hp => ?_⟩
      have h1 : (upd H1 d (.ins Z.C dx (putF "_length" (.int L) []))) d = some (.ins Z.C dx [("_length", .int L)]) := upd_same
      have hdp : d ≠ p := ne_of_none h1 hp
      refine ⟨_, rfl, d, Z.C, dx, [("_length", .int L)], rfl, (upd_ne hdp).trans h1, T.cl, T.n_looks, (by show 1 < 1000; decide), ?_⟩
      refine k _ ⟨⟨dx, p, [], Eq.trans upd_same (congrArg (fun q => some (HO.ins Z.C dx q)) (df_put2 L p)), (upd_ne (Ne.symm hdp)).trans upd_same, .nil⟩, hL, hLb, (fun _ z => absurd z (by simp)), Nat.zero_le _⟩ (fun la' dx' e => ?_) fun b o e hb => ?_
      · rw [upd_same, df_put2] at e
        rw [← df_inj e]
        exact (same_put hd).free hp
      have e1 : (upd H1 d (.ins Z.C dx (putF "_length" (.int L) []))) b = some o := (upd_ne hb).trans e
      exact (upd_ne hb).trans ((upd_ne (ne_of_none e1 hp)).trans e1)
theorem ok_Dark_looks (T : Tx K w mg Z) : FnOk P w K mg base CX0 1 Z.a_Dark_looks Z.d_Dark_looks P_Dark_looks (spLooks Z K) := by
  refine T.F_Dark_looks.ok scDark_looks (fun vs H Q E h => ?_) (fun cdv A outer s H vs Q E hr h => ?_)
  · obtain ⟨d, L, ls, rfl, _⟩ := h
    rfl
  · obtain ⟨d, L, ls, rfl, D, k⟩ := h
    obtain ⟨dx, la, xs, h1, h2, h3⟩ := D.ex
    refine ⟨_, (pss_one (ps_ret (pe_callTy (listK (K := K)) (by rfl) T.b_list (by decide +kernel) (pa_cons (fldK (K := K) (pv 0) rfl) pa_nil)))), ?_⟩
    refine ⟨_, rfl, d, Z.C, dx, _, _, rfl, h1, T.cl, T.n_looks, df_looks _ _, la, xs, rfl, .inl (SqL.of h2), fun p hp => ?_⟩
    exact k p xs _ hp (same_upd hp) upd_same (dpAll_mono (same_upd hp) _ _ h3)
theorem ok_Darkcheck_word (T : Tx K w mg Z) : FnOk P w K mg base CX0 1 Z.a_Darkcheck_word Z.d_Darkcheck_word P_Darkcheck_word (spWord) := by
  refine T.F_Darkcheck_word.ok scDarkcheck_word (fun vs H Q E h => ?_) (fun cdv A outer s H vs Q E hr h => ?_)
  · obtain ⟨d, x, rfl, _⟩ := h
    rfl
  · obtain ⟨d, x, rfl, hx, k⟩ := h
    refine ⟨_, (pss_one (ps_if (pt_cmpR (notInS (K := K)) (pv 1) (pe_glob (v := .ref Z.a_LW) rfl T.g_LOOK_WORDS rfl) (by rfl)) (pss_one ps_never) pss_nil)), ?_⟩
    obtain ⟨_, _, e⟩ := decl_words hx
    refine ⟨_, rfl, _, _, rfl, .inr (T.q_LW _), rfl, rfl, _, rfl, ?_⟩
    have e2 : (if true = true then !inV (V.str x) [V.str "at", V.str "from", V.str "upto"] else inV (V.str x) [V.str "at", V.str "from", V.str "upto"]) = false := by rw [if_pos rfl, e]; rfl
    rw [e2]
    exact iteF k
theorem ok_Darkhome (T : Tx K w mg Z) : FnOk P w K mg base CX0 2 Z.a_Darkhome Z.d_Darkhome P_Darkhome (spHome Z K) := by
  refine T.F_Darkhome.ok scDarkhome (fun vs H Q E h => ?_) (fun cdv A outer s H vs Q E hr h => ?_)
  · obtain ⟨d, L, ls, l, rfl, _⟩ := h
    rfl
  · obtain ⟨d, L, ls, l, rfl, D, hw, hl, k⟩ := h
    obtain ⟨dx, la, xs, h1, h2, h3⟩ := D.ex
    refine ⟨_, (pss_cons (ps_expr (pe_meth (pv 0) T.cl T.m_Darkcheck_word (ok_Darkcheck_word T) (hr.mono (by decide)) T.bb_Darkcheck_word .nil pass0 (pa_cons (pv 1) pa_nil)))
      (pss_cons (ps_set (i := 4) scDarkhome.nd rfl (Or.inl rfl) (pe_op op_fdivW (pv 2) (fldK (K := K) (pv 0) rfl)))
      (pss_one (ps_ret (pe_tup (pa_cons (pv 1) (pa_cons (pe_op op_sub (pv 2) (pe_op op_mulW (pv 4) (fldK (K := K) (pv 0) rfl))) (pa_cons (pe_op op_sub (pv 3) (pe_op op_mulW (pv 4) (fldK (K := K) (pv 0) rfl))) pa_nil)))))))), ?_⟩
    refine ⟨_, rfl, d, dx, _, rfl, h1, df_no _ _ (by decide +kernel) (by decide +kernel), _, rfl, _, _, rfl, hw, ?_⟩
    refine ⟨_, rfl, _, rfl, d, Z.C, dx, _, _, rfl, h1, T.cl, T.n_length, df_length _ _, _, _, rfl, rfl, wide_div D.pos D.big (by decide) (by decide), ?_⟩
    have b1 : (l.2.1 / L).natAbs < 2 ^ 301 := div_lt D.pos hl.1
    refine ⟨_, rfl, _, rfl, _, rfl, _, rfl, d, Z.C, dx, _, _, rfl, h1, T.cl, T.n_length, df_length _ _, _, _, rfl, rfl, wide_mul b1 D.big (by decide) (by decide) (by decide), _, _, rfl, rfl, ?_⟩
    refine ⟨_, rfl, _, rfl, _, rfl, d, Z.C, dx, _, _, rfl, h1, T.cl, T.n_length, df_length _ _, _, _, rfl, rfl, wide_mul b1 D.big (by decide) (by decide) (by decide), _, _, rfl, rfl, (by show 3 ≤ sizeLine; decide), fun p hp => ?_⟩
    exact k _ _ (same_upd hp) (.tup (SqT.of upd_same) (.cons (.str _) (.cons (.int _) (.cons (.int _) .nil))))
theorem ok_Darkclashing (T : Tx K w mg Z) : FnOk P w K mg base CX0 4 Z.a_Darkclashing Z.d_Darkclashing P_Darkclashing (spClashing Z K) := by
  refine T.F_Darkclashing.ok scDarkclashing (fun vs H Q E h => ?_) (fun cdv A outer s H vs Q E hr h => ?_)
  · obtain ⟨d, v, L, ls, l, rfl, _⟩ := h
    rfl
  · obtain ⟨d, v, L, ls, l, rfl, D, hv, hw, hl, k0, k⟩ := h
    obtain ⟨dx, la, xs, h1, h2, h3⟩ := D.ex
    have hxl : xs.length = ls.length := by rw [dpAll_len h3, List.length_map]
    refine ⟨_, (pss_cons (ps_for PassesOwn.never rfl (pi_list (fldK (K := K) (pv 0) rfl)) (pg_name (i := 2) scDarkclashing.nd rfl (Or.inl rfl)) (pss_one (ps_if (pt_val (pe_call (ok_clash T) (hr.mono (by decide)) (by rfl) T.g_clash T.F_clash.kp T.bb_clash .nil pass0 (pa_cons (pv 1) (pa_cons (pv 2) (pa_cons (fldK (K := K) (pv 0) rfl) pa_nil))))) (pss_one (ps_ret (pv 2))) pss_nil)))
      (pss_one (ps_ret pe_non))), ?_⟩
    refine ⟨_, rfl, d, Z.C, dx, _, _, rfl, h1, T.cl, T.n_looks, df_looks _ _, la, rfl, ⟨_, SqL.of h2⟩, ?_⟩
    refine for_list (K := K) (a := la) (xs := xs) (fun i σ' H' => ∃ u, σ' = [some (.ref d), some v, u] ∧ H' = H ∧ (ls.take i).find? (fun o => clashB l o L) = none) ⟨none, rfl, rfl, rfl⟩ (fun i σ' H' _ ⟨_, _, e, _⟩ => by rw [e]; exact SqL.of h2) ?_ ?_
    · rintro i y σ' H' hi ⟨u, rfl, rfl, hno⟩
      obtain ⟨e, hdi, hdy⟩ := dpAll_get h3 hi
      obtain ⟨o, ho, rfl⟩ := map_at hdi
      have hok := D.ok o (List.mem_of_getElem? ho)
      refine ⟨_, rfl, _, rfl, _, rfl, d, Z.C, dx, _, _, rfl, h1, T.cl, T.n_length, df_length _ _, v, y, l, o, L, rfl, hv, hdy, hw, hok.1, D.pos, D.big, hl.up (by decide), hok.2.up (by decide), _, rfl, ?_⟩
      have hsp : ls = ls.take i ++ o :: ls.drop (i + 1) := by
        have h4 := List.getElem?_eq_some_iff.mp ho
        obtain ⟨h5, h6⟩ := h4
        rw [← h6, List.getElem_cons_drop, List.take_append_drop]
      cases c : clashB l o L with
      | true =>
        refine iteT ⟨_, rfl, k o y ?_ hdy⟩
        rw [hsp, List.find?_append, hno, List.find?_cons, c]
        rfl
      | false =>
        refine iteF ⟨_, rfl, rfl, ?_⟩
        rw [take_snoc ho, List.find?_append, hno, List.find?_cons, c]
        rfl
    · rintro σ' H' ⟨u, rfl, rfl, hno⟩
      rw [List.take_of_length_le (by rw [hxl]; exact Nat.le_refl _)] at hno
      exact k0 hno
theorem alike_looks (ls : List Lk) : PySem.W.AllAlike (ls.map encL) := PySem.W.AllAlike.of fun _ _ => by simp [encL, PySem.W.alike, PySem.W.alikeAll]
theorem depth_look (l : Lk) : (encL l).depth = 1 := by simp [encL, PyData.depth, PyData.depthAll]
theorem shaped_look {l : Lk} (h : WordOk l.1) : SeqAt.shaped (encL l) = true := by
  unfold SeqAt.shaped
  rw [lay_look h, depth_look]; rfl
theorem lay_looks : ∀ ls : List Lk, (∀ l ∈ ls, WordOk l.1) → PyData.canLayAll0 (ls.map encL) = true
  | [], _ => rfl
  | l :: ls, h => by
    show PyData.canLayAll0 (encL l :: ls.map encL) = true
    rw [PyData.canLayAll0, lay_look (h l List.mem_cons_self), lay_looks ls fun q hq => h q (List.mem_cons_of_mem _ hq)]; rfl
theorem depth_looks : ∀ ls : List Lk, PyData.depthAll (ls.map encL) ≤ 1
  | [] => by simp [PyData.depthAll]
  | l :: ls => by
    show PyData.depthAll (encL l :: ls.map encL) ≤ 1
    rw [PyData.depthAll, depth_look]
    have := depth_looks ls
    omega
theorem shaped_looks {ls : List Lk} (h : ∀ l ∈ ls, WordOk l.1) : SeqAt.shaped (.list (ls.map encL)) = true := by
  unfold SeqAt.shaped
  rw [PyData.canLay0, lay_looks ls h, PyData.depth]
  have := depth_looks ls
  simp; omega
theorem eqv_look (a b : Lk) : PyData.eqv (encL a) (encL b) = decide (a = b) := by
  obtain ⟨a1, a2, a3⟩ := a
  obtain ⟨b1, b2, b3⟩ := b
  simp [encL, PyData.eqv, PyData.eqvAll]
  by_cases h1 : a1 = b1 <;> by_cases h2 : a2 = b2 <;> by_cases h3 : a3 = b3 <;> simp [h1, h2, h3]
theorem any_look (ls : List Lk) (l : Lk) : ((ls.map encL).any fun z => PyData.eqv z (encL l)) = decide (l ∈ ls) := by
  rw [List.any_map]
  rw [Bool.eq_iff_iff, List.any_eq_true, decide_eq_true_eq]
  constructor
  · rintro ⟨o, ho, e⟩
    have e' : decide (o = l) = true := by rw [← eqv_look]; exact e
    rw [← of_decide_eq_true e']; exact ho
  · intro h
    exact ⟨l, h, by show PyData.eqv (encL l) (encL l) = true; rw [eqv_look]; simp⟩
theorem heard_mem {L : Int} {ls : List Lk} {l o : Lk} : o ∈ heard L ls l ↔ o ∈ ls ∨ o = home L l := by
  unfold heard
  by_cases c : home L l ∈ ls
  · rw [if_pos c]
    exact ⟨.inl, fun h => h.elim id fun e => e ▸ c⟩
  · rw [if_neg c, (List.mergeSort_perm _ _).mem_iff, List.mem_append, List.mem_singleton]
theorem heard_len (L : Int) (ls : List Lk) (l : Lk) : (heard L ls l).length ≤ ls.length + 1 := by
  unfold heard
  split
  · omega
  · rw [(List.mergeSort_perm _ _).length_eq, List.length_append]; simp
theorem ok_Dark_hear (T : Tx K w mg Z) : FnOk P w K mg base CX0 5 Z.a_Dark_hear Z.d_Dark_hear P_Dark_hear (spHear Z K) := by
  refine T.F_Dark_hear.ok scDark_hear (fun vs H Q E h => ?_) (fun cdv A outer s H vs Q E hr h => ?_)
  · obtain ⟨d, L, ls, l, rfl, _⟩ := h
    rfl
  · obtain ⟨d, L, ls, l, rfl, D, hw, hl, hlen, hno, k⟩ := h
    obtain ⟨dx, la, xs, h1, h2, h3⟩ := D.ex
    have hfind : ls.find? (fun o => clashB (home L l) o L) = none := List.find?_eq_none.mpr fun o ho => by rw [hno o ho]; exact Bool.false_ne_true
    have hsz := home_sized D.pos D.big hl
    refine ⟨_, (pss_cons (ps_set (i := 4) scDark_hear.nd rfl (Or.inl rfl) (pe_meth (pv 0) T.cl T.m_Darkhome (ok_Darkhome T) (hr.mono (by decide)) T.bb_Darkhome .nil pass0 (pa_cons (pv 1) (pa_cons (pv 2) (pa_cons (pv 3) pa_nil)))))
      (pss_cons (ps_set (i := 5) scDark_hear.nd rfl (Or.inl rfl) (pe_meth (pv 0) T.cl T.m_Darkclashing (ok_Darkclashing T) (hr.mono (by decide)) T.bb_Darkclashing .nil pass0 (pa_cons (pv 4) pa_nil)))
      (C8.pss_cut (ps_if (pt_cmpR op_notN (pv 5) pe_non (nomark _)) (pss_one ps_never) pss_nil)
      (pss_one (ps_if (pt_cmpR (notInDK (K := K) (rooms hr)) (pv 4) (fldK (K := K) (pv 0) rfl) (by rfl)) (pss_one (ps_fld (pv 0) (pe_callB (sortDK (K := K) encL (rooms hr)) (by rfl) T.b_sorted (by decide +kernel) (pa_cons (pe_op op_cat (fldK (K := K) (pv 0) rfl) (pe_lst (pa_cons (pv 4) pa_nil))) pa_nil)) rfl)) pss_nil))))), ?_⟩
    refine ⟨_, rfl, d, dx, _, rfl, h1, df_no _ _ (by decide +kernel) (by decide +kernel), _, rfl, _, rfl, _, rfl, d, L, ls, l, rfl, D, hw, hl, fun H1 r S hr => ?_⟩
    have D1 := D.same S
    refine ⟨_, rfl, d, dx, _, rfl, S _ _ h1, df_no _ _ (by decide +kernel) (by decide +kernel), _, rfl, d, r, L, ls, home L l, rfl, D1, hr, hw, hsz, fun _ => ?_, fun o r ho => ?_⟩
    · refine ⟨fun σ' H' => σ' = [some (.ref d), some (.str l.1), some (.int l.2.1), some (.int l.2.2), some r, some .non] ∧ H' = H1, ?_, ?_⟩
      · exact ⟨_, rfl, rfl, _, rfl, iteF ⟨rfl, rfl⟩⟩
      · rintro σ2 H2 ⟨rfl, rfl⟩
        have hwords : ∀ o ∈ ls, WordOk o.1 := fun o ho => (D.ok o ho).1
        have hds := dpAll_mono S _ _ h3
        refine ⟨_, rfl, _, rfl, d, Z.C, dx, _, _, rfl, S _ _ h1, T.cl, T.n_looks, df_looks _ _, encL (home L l), ls.map encL, hr, .lst (SqL.of (S _ _ h2)) hds, shaped_look hw, shaped_looks hwords, _, rfl, ?_⟩
        rw [any_look]
        have fin : ∀ H', DarkAt Z K H' d L (heard L ls l) → (∀ la dx, H' d = some (.ins Z.C dx (df L la)) → (∃ dx', H d = some (.ins Z.C dx' (df L la))) ∨ H la = none) → (∀ b o, H2 b = some o → b ≠ d → H' b = some o) → Q .non H' := fun H' DD ff kk => k H' DD ff fun b o e hb => kk b o (S b o e) hb
        have okH : ∀ o ∈ heard L ls l, WordOk o.1 ∧ Sized 302 o := fun o ho => by
          rcases heard_mem.mp ho with h | h
          · exact D.ok o h
          · subst h; exact ⟨hw, hsz⟩
        have lenH : (heard L ls l).length ≤ 60 := Nat.le_trans (heard_len L ls l) hlen
        by_cases c : home L l ∈ ls
        · have e : (!decide (home L l ∈ ls)) = false := by simp [c]
          rw [e]
          refine iteF (fin H2 ?_ (fun la' dx' e => ?_) fun _ _ e _ => e)
          · have eh : heard L ls l = ls := if_pos c
            rw [eh]; exact D1
          · have e2 := e.symm.trans (S _ _ h1)
            rw [df_inj e2]
            exact .inl ⟨dx, h1⟩
        · have e : (!decide (home L l ∈ ls)) = true := by simp [c]
          rw [e]
          refine iteT ⟨_, rfl, d, Z.C, dx, _, _, rfl, S _ _ h1, T.cl, T.n_looks, df_looks _ _, _, rfl, (by show 1 ≤ sizeLine; decide), fun p hp => ?_⟩
          have S2 := same_upd (o := HO.lst [r]) hp
          have h2' := S2 _ _ (S _ _ h2)
          refine ⟨la, p, xs, [r], rfl, rfl, h2', upd_same, ?_, fun p2 hp2 => ?_⟩
          · have : xs.length = ls.length := by rw [dpAll_len h3, List.length_map]
            exact Nat.le_of_lt (small1000 (by simp; omega))
          have S3 := S2.trans (same_upd (o := HO.lst (xs ++ [r])) hp2)
          have hall : DpAll K (upd (upd H2 p (.lst [r])) p2 (.lst (xs ++ [r]))) (xs ++ [r]) ((ls ++ [home L l]).map encL) := by
            rw [List.map_append]
            exact dpAll_snoc (dpAll_mono S3 _ _ hds) (dp_mono S3 _ _ hr)
          refine ⟨p2, xs ++ [r], ls ++ [home L l], rfl, SqL.of upd_same, hall, alike_looks _, PySem.W.Sortable.tuples fun _ => ⟨_, _, rfl⟩, fun b _ => by rw [depth_look]; decide, fun p3 ys H3 hp3 S4 hy hys => ?_⟩
          have S5 := S3.trans S4
          have h1' := S5 _ _ (S _ _ h1)
          have hd3 : d ≠ p3 := fun e => by
            subst e
            rw [(S3 _ _ (S _ _ h1))] at hp3
            cases hp3
          refine ⟨_, rfl, d, Z.C, dx, df L la, rfl, h1', T.cl, T.n_looks, (by show 2 < 1000; decide), ?_⟩
          refine fin _ ⟨⟨dx, p3, ys, Eq.trans upd_same (congrArg (fun q => some (HO.ins Z.C dx q)) (df_put3 L la p3)), (upd_ne (Ne.symm hd3)).trans hy, ?_⟩, D.pos, D.big, okH, lenH⟩ (fun la' dx' e => ?_) fun b o e hb => (upd_ne hb).trans (S5 _ _ e)
          rotate_left
          · rw [upd_same, df_put3] at e
            rw [← df_inj e]
            exact .inr (S.free (S3.free hp3))
          have eh : heard L ls l = (ls ++ [home L l]).mergeSort (PySem.W.dataLe false encL) := if_neg c
          rw [eh]
          exact dpAll_tups (Tups.upd_ins h1') _ _ (noLs_map noL_encL _) hys
    · rw [hfind] at ho; cases ho
end
end KA
namespace KA
open PySem PySem.Spec PyProof.Rows L2 DP
/-! What the looks of a side tell, in plain Lean (laws that do without the tray's Law6). -/
theorem side_low {x : Str} (h : onSide "slow" x = true) : x = "at" ∨ x = "from" := by
  unfold onSide at h
  rw [if_pos rfl, Bool.or_eq_true, decide_eq_true_eq, decide_eq_true_eq] at h
  exact h
theorem side_high {x : Str} (h : onSide "fast" x = true) : x = "at" ∨ x = "upto" := by
  unfold onSide at h
  rw [if_neg slow_ne, Bool.or_eq_true, decide_eq_true_eq, decide_eq_true_eq] at h
  exact h
theorem plc_home {L : Int} (hL : 0 < L) (sd : Str) (l : Lk) (x : Int) : plc sd (home L l) x L = plc sd l x L := by
  unfold plc home
  split
  · show l.2.2 - l.2.1 / L * L + (x - (l.2.1 - l.2.1 / L * L)) / L * L = l.2.2 + (x - l.2.1) / L * L
    have e : x - (l.2.1 - l.2.1 / L * L) = (x - l.2.1) + l.2.1 / L * L := by omega
    rw [e, Int.add_mul_ediv_right _ _ (by omega), Int.add_mul]; omega
  · show l.2.2 - l.2.1 / L * L - (l.2.1 - l.2.1 / L * L - x) / L * L = l.2.2 - (l.2.1 - x) / L * L
    have e : l.2.1 - l.2.1 / L * L - x = (l.2.1 - x) + (-(l.2.1 / L)) * L := by rw [Int.neg_mul]; omega
    rw [e, Int.add_mul_ediv_right _ _ (by omega), Int.add_mul, Int.neg_mul]; omega
theorem fold_mem {L : Int} : ∀ (ls acc : List Lk) (o : Lk), o ∈ ls.foldl (heard L) acc ↔ o ∈ acc ∨ ∃ l ∈ ls, o = home L l
  | [], acc, o => by simp
  | l :: ls, acc, o => by
    rw [List.foldl_cons, fold_mem ls, heard_mem]
    constructor
    · rintro ((h | h) | ⟨q, hq, e⟩)
      · exact .inl h
      · exact .inr ⟨l, List.mem_cons_self, h⟩
      · exact .inr ⟨q, List.mem_cons_of_mem _ hq, e⟩
    · rintro (h | ⟨q, hq, e⟩)
      · exact .inl (.inl h)
      · rcases List.mem_cons.mp hq with h | h
        · subst h; exact .inl (.inr e)
        · exact .inr ⟨q, h, e⟩
theorem fold_len {L : Int} : ∀ (ls acc : List Lk), (ls.foldl (heard L) acc).length ≤ acc.length + ls.length
  | [], acc => by simp
  | l :: ls, acc => by
    have h1 := fold_len (L := L) ls (heard L acc l)
    have h2 := heard_len L acc l
    rw [List.foldl_cons, List.length_cons]; omega
theorem mem_side {sd : Str} {ls : List Lk} {l : Lk} : l ∈ sideOf sd ls ↔ l ∈ ls ∧ onSide sd l.1 = true := by
  unfold sideOf; rw [List.mem_filter]
/-- the best of the looks is the best of them brought home -/
theorem best_home {L : Int} (hL : 0 < L) {sd : Str} {ls hs : List Lk} {x m : Int} (hh : ∀ o, o ∈ hs ↔ ∃ l ∈ ls, o = home L l) (h : IsBest sd (sideOf sd hs) x L m) : IsBest sd (sideOf sd ls) x L m := by
  obtain ⟨⟨o, ho, e⟩, h2⟩ := h
  obtain ⟨ho1, ho2⟩ := mem_side.mp ho
  obtain ⟨l, hl, rfl⟩ := (hh o).mp ho1
  rw [plc_home hL] at e
  refine ⟨⟨l, mem_side.mpr ⟨hl, ho2⟩, e⟩, fun q hq => ?_⟩
  obtain ⟨hq1, hq2⟩ := mem_side.mp hq
  have := h2 (home L q) (mem_side.mpr ⟨(hh _).mpr ⟨q, hq1, rfl⟩, hq2⟩)
  rw [plc_home hL] at this
  exact this
theorem best_one {sd : Str} {ls : List Lk} {x L m m' : Int} (h : IsBest sd ls x L m) (h' : IsBest sd ls x L m') : m = m' := by
  obtain ⟨⟨a, ha, ea⟩, h2⟩ := h
  obtain ⟨⟨b, hb, eb⟩, h2'⟩ := h'
  have q1 := h2 b hb
  have q2 := h2' a ha
  rw [eb] at q1
  rw [ea] at q2
  split at q1 <;> split at q2 <;> first | omega | (exfalso; simp_all)
theorem side_nil {L : Int} {sd : Str} {ls hs : List Lk} (hh : ∀ o, o ∈ hs ↔ ∃ l ∈ ls, o = home L l) : sideOf sd hs = [] ↔ sideOf sd ls = [] := by
  constructor
  · intro h
    refine List.eq_nil_iff_forall_not_mem.mpr fun l hl => ?_
    obtain ⟨h1, h2⟩ := mem_side.mp hl
    have : home L l ∈ sideOf sd hs := mem_side.mpr ⟨(hh _).mpr ⟨l, h1, rfl⟩, h2⟩
    rw [h] at this; cases this
  · intro h
    refine List.eq_nil_iff_forall_not_mem.mpr fun o ho => ?_
    obtain ⟨h1, h2⟩ := mem_side.mp ho
    obtain ⟨l, hl, rfl⟩ := (hh o).mp h1
    have : l ∈ sideOf sd ls := mem_side.mpr ⟨hl, h2⟩
    rw [h] at this; cases this
theorem plc_shift {L : Int} (hL : 0 < L) (sd : Str) (l : Lk) (x k : Int) : plc sd l (x + k * L) L = plc sd l x L + k * L := by
  unfold plc
  split
  · have e : x + k * L - l.2.1 = (x - l.2.1) + k * L := by omega
    rw [e, Int.add_mul_ediv_right _ _ (by omega), Int.add_mul]; omega
  · have e : l.2.1 - (x + k * L) = (l.2.1 - x) + (-k) * L := by rw [Int.neg_mul]; omega
    rw [e, Int.add_mul_ediv_right _ _ (by omega), Int.add_mul, Int.neg_mul]; omega
theorem far_home {L : Int} (hL : 0 < L) (a b : Lk) : tooFar (home L a) (home L b) L = tooFar a b L := by
  unfold tooFar
  have e1 : (home L b).2.2 = b.2.2 - b.2.1 / L * L := rfl
  have e2 : (home L b).2.1 = b.2.1 + (-(b.2.1 / L)) * L := by show b.2.1 - b.2.1 / L * L = _; rw [Int.neg_mul]; omega
  rw [e1, e2, plc_home hL, plc_shift hL, Int.neg_mul]
  congr 1
  rw [decide_eq_decide]
  constructor <;> intro h <;> omega
theorem clash_home {L : Int} (hL : 0 < L) (a b : Lk) : clashB (home L a) (home L b) L = clashB a b L := by
  unfold clashB
  rw [far_home hL, far_home hL]
/-- the best place, as a number -/
noncomputable def bst (sd : Str) (ls : List Lk) (x L : Int) : Int := by
  classical exact if h : ∃ m, IsBest sd ls x L m then h.choose else 0
theorem bst_of {sd : Str} {ls : List Lk} {x L m : Int} (h : IsBest sd ls x L m) : bst sd ls x L = m := by
  have e : ∃ m, IsBest sd ls x L m := ⟨m, h⟩
  unfold bst
  rw [dif_pos e]
  exact best_one e.choose_spec h
theorem bst_slow {ls : List Lk} (h : ls ≠ []) (x L : Int) : IsBest "slow" ls x L (bst "slow" ls x L) := by
  cases ls with
  | nil => exact absurd rfl h
  | cons l r =>
    obtain ⟨q, _, _, b⟩ := max_step x L l r
    rw [bst_of b]; exact b
theorem bst_fast {ls : List Lk} (h : ls ≠ []) (x L : Int) : IsBest "fast" ls x L (bst "fast" ls x L) := by
  cases ls with
  | nil => exact absurd rfl h
  | cons l r =>
    obtain ⟨q, _, _, b⟩ := min_step x L l r
    rw [bst_of b]; exact b
theorem plc_mono {L : Int} (hL : 0 < L) (sd : Str) (l : Lk) {x y : Int} (h : x ≤ y) : plc sd l x L ≤ plc sd l y L := by
  unfold plc
  split
  · have h1 := Int.mul_le_mul_of_nonneg_right (Int.ediv_le_ediv hL (by omega : x - l.2.1 ≤ y - l.2.1)) (Int.le_of_lt hL)
    omega
  · have h1 := Int.mul_le_mul_of_nonneg_right (Int.ediv_le_ediv hL (by omega : l.2.1 - y ≤ l.2.1 - x)) (Int.le_of_lt hL)
    omega
theorem best_mono {L : Int} (hL : 0 < L) {sd : Str} {ls : List Lk} {x y m m' : Int} (h : IsBest sd ls x L m) (h' : IsBest sd ls y L m') (hxy : x ≤ y) : m ≤ m' := by
  obtain ⟨⟨l, hl, e⟩, h2⟩ := h
  obtain ⟨⟨l', hl', e'⟩, h2'⟩ := h'
  have q1 := h2' l hl
  have q2 := h2 l' hl'
  by_cases c : sd = "slow"
  · rw [if_pos c] at q1
    have := plc_mono hL sd l hxy
    omega
  · rw [if_neg c] at q2
    have := plc_mono hL sd l' hxy
    omega
theorem best_shift {L : Int} (hL : 0 < L) {sd : Str} {ls : List Lk} {x m : Int} (k : Int) (h : IsBest sd ls x L m) : IsBest sd ls (x + k * L) L (m + k * L) := by
  obtain ⟨⟨l, hl, e⟩, h2⟩ := h
  refine ⟨⟨l, hl, by rw [plc_shift hL, e]⟩, fun q hq => ?_⟩
  have := h2 q hq
  rw [plc_shift hL]
  split at this
  · rw [if_pos (by assumption)]; omega
  · rw [if_neg (by assumption)]; omega
theorem far_le {L : Int} {a b : Lk} (h : tooFar a b L = false) (ha : onSide "slow" a.1 = true) (hb : onSide "fast" b.1 = true) : plc "slow" a b.2.1 L ≤ b.2.2 := by
  unfold tooFar at h
  rw [ha, hb, Bool.true_and, Bool.true_and, decide_eq_false_iff_not] at h
  omega
theorem far_no {L : Int} {a b : Lk} (h : onSide "slow" a.1 = true → onSide "fast" b.1 = true → plc "slow" a b.2.1 L ≤ b.2.2) : tooFar a b L = false := by
  unfold tooFar
  cases c1 : onSide "slow" a.1 with
  | false => rfl
  | true =>
    cases c2 : onSide "fast" b.1 with
    | false => rfl
    | true =>
      rw [Bool.true_and, Bool.true_and, decide_eq_false_iff_not]
      have := h c1 c2
      omega
theorem no_far_of {L : Int} {a b : Lk} (h : clashB a b L = false) : tooFar a b L = false ∧ tooFar b a L = false := by
  unfold clashB at h
  rw [Bool.or_eq_false_iff] at h
  exact h
theorem cross {L : Int} (hL : 0 < L) {a b : Lk} (h : plc "slow" a b.2.1 L ≤ b.2.2) (x : Int) : plc "slow" a x L ≤ plc "fast" b x L := by
  rw [plc_fast]
  have hj : (b.2.1 - x) / L * L ≤ b.2.1 - x := by
    have := Int.mul_ediv_add_emod (b.2.1 - x) L
    have h0 := Int.emod_nonneg (b.2.1 - x) (show L ≠ 0 by omega)
    rw [Int.mul_comm] at this
    omega
  generalize (b.2.1 - x) / L = j at hj ⊢
  have h1 := plc_mono hL "slow" a (by omega : x + j * L ≤ b.2.1)
  rw [plc_shift hL] at h1
  omega
theorem low_high {L : Int} (hL : 0 < L) {hs : List Lk} (hnc : ∀ a ∈ hs, ∀ b ∈ hs, clashB a b L = false) {x m m' : Int} (h : IsBest "slow" (sideOf "slow" hs) x L m) (h' : IsBest "fast" (sideOf "fast" hs) x L m') : m ≤ m' := by
  obtain ⟨⟨l, hl, e⟩, _⟩ := h
  obtain ⟨⟨l', hl', e'⟩, _⟩ := h'
  obtain ⟨h1, h2⟩ := mem_side.mp hl
  obtain ⟨h1', h2'⟩ := mem_side.mp hl'
  rw [← e, ← e']
  exact cross hL (far_le (no_far_of (hnc l h1 l' h1')).1 h2 h2') x
end KA
namespace KA
open PySem PySem.Spec PyProof.Rows L2 DP
/-- the length of the list at g -/
def lenAt (H : Hp) (g : Addr) : Nat := match H g with | some (.lst xs) => xs.length | _ => 0
theorem lenAt_of {H : Hp} {g : Addr} {xs : List V} (h : H g = some (.lst xs)) : lenAt H g = xs.length := by unfold lenAt; rw [h]
theorem atI_last {α : Type} {xs : List α} (h : 0 < xs.length) : atI xs (-1) = xs[xs.length - 1]? := by
  unfold atI ixN
  rw [if_neg (by decide), if_pos (by omega)]
  show xs[_]? = _
  congr 1
  omega
theorem same_made {H : Hp} {d dx : Addr} {o : HO} (hdn : H d = none) (hdx : H dx = none) : Same H (upd (upd H dx (.own d)) d o) := fun b o e => by
  rw [upd_ne (ne_of_none e hdn), upd_ne (ne_of_none e hdx)]; exact e
/-- all stands but one object -/
def Out (d : Addr) (H H' : Hp) : Prop := ∀ c o, H c = some o → c ≠ d → H' c = some o
theorem Out.tups {d C dx : Addr} {fs : List (Str × V)} {H H' : Hp} (k : Out d H H') (h : H d = some (.ins C dx fs)) : Tups H H' := fun c zs hc => by
  have hcb : c ≠ d := by
    rintro rfl
    rcases hc with e | ⟨q, e⟩ <;> rw [h] at e <;> cases e
  rcases hc with e | ⟨q, e⟩
  · exact .inl (k _ _ e hcb)
  · exact .inr ⟨q, k _ _ e hcb⟩
theorem Out.dark {Z : Ad} {K : PySem.W.Frag} {H H' : Hp} {d e C dx : Addr} {fs : List (Str × V)} {L : Int} {ls : List Lk} (k : Out d H H') (D : DarkAt Z K H e L ls) (h : H d = some (.ins C dx fs)) (hne : e ≠ d) : DarkAt Z K H' e L ls := by
  obtain ⟨dx2, la, vs, h1, h2, h3⟩ := D.ex
  exact ⟨⟨dx2, la, vs, k _ _ h1 hne, k _ _ h2 (fun q => by rw [q, h] at h2; cases h2), dpAll_tups (k.tups h) _ _ (noLs_map noL_encL ls) h3⟩, D.pos, D.big, D.ok, D.len⟩
theorem Out.sqL {K : PySem.W.Frag} {H H' : Hp} {d C dx p : Addr} {fs : List (Str × V)} {xs : List V} (k : Out d H H') (h : H d = some (.ins C dx fs)) (q : SqL K H p xs) : SqL K H' p xs := by
  rcases q with q | q
  · have hp : p ≠ d := by
      rintro rfl
      rcases q with e | ⟨z, e⟩ <;> rw [h] at e <;> cases e
    rcases q with e | ⟨z, e⟩
    · exact .inl (.inl (k _ _ e hp))
    · exact .inl (.inr ⟨z, k _ _ e hp⟩)
  · exact .inr q
end KA
namespace KA
open PySem PySem.Spec PyProof.Rows L2 DP RZ
/-- a comprehension over zip of two lists of one length -/
theorem lc_zip {K : PySem.W.Frag} {a b : Addr} {xs ys : List V} {g : TG} {tt : TT} {te : TE} {vs : List Nat} {σ : L2.St} {H1 : Hp} {D : Addr} {Qd : Hp → Prop} (hl : xs.length = ys.length) (Pv : Nat → Hp → Prop) (h0 : Pv 0 (upd H1 D (.lst []))) (hq : ∀ i H, Pv i H → SqL K H a xs ∧ SqL K H b ys)
    (hs : ∀ i x y T H, xs[i]? = some x → ys[i]? = some y → Pv i H → H T = none → g (.ref T) (wipe σ vs) (upd H T (.tup [x, y])) fun σ2 H2 => wipe σ2 vs = wipe σ vs ∧ tt σ2 H2 fun b H3 =>
      if b = true then te σ2 H3 fun y H4 => ∃ acc, H4 D = some (.lst acc) ∧ acc.length < sizeLine ∧ Pv (i + 1) (upd H4 D (.lst (acc ++ [y]))) else Pv (i + 1) H3) (hd : ∀ H, Pv xs.length H → Qd H) :
    ∃ W : Nat → Nat → Hp → Prop, (∃ m, W 0 m (upd H1 D (.lst []))) ∧ ∀ i m H, W i m H →
      ((Itz K a b).stop i H ∧ Qd H) ∨ ((Itz K a b).go i H ∧ ∃ Nx : Hp → Prop, (∀ H', Nx H' → ∃ m', m' < m ∧ W (i + 1) m' H') ∧ ∀ x H', (Itz K a b).yld i H x H' → g x (wipe σ vs) H' fun σ2 H2 => wipe σ2 vs = wipe σ vs ∧ tt σ2 H2 fun b H3 =>
        if b = true then te σ2 H3 fun y H4 => ∃ acc, H4 D = some (.lst acc) ∧ acc.length < sizeLine ∧ Nx (upd H4 D (.lst (acc ++ [y]))) else Nx H3) := by
  refine ⟨fun i m H => m = xs.length - i ∧ i ≤ xs.length ∧ Pv i H, ⟨xs.length, rfl, Nat.zero_le _, h0⟩, ?_⟩
  rintro i m H ⟨rfl, hi, p⟩
  obtain ⟨qx, qy⟩ := hq i H p
  by_cases hlt : i < xs.length
  · have hx : xs[i]? = some xs[i] := List.getElem?_eq_getElem hlt
    have hlt2 : i < ys.length := by omega
    have hy : ys[i]? = some ys[i] := List.getElem?_eq_getElem hlt2
    refine .inr ⟨⟨xs, ys, _, _, qx, qy, hx, hy⟩, Pv (i + 1), fun H' p' => ⟨xs.length - (i + 1), by omega, rfl, hlt, p'⟩, fun v H' y => ?_⟩
    obtain ⟨T, x', y', rfl, hT, rfl, f1, f2⟩ := y
    exact hs i x' y' T H (f1 xs qx) (f2 ys qy) p hT
  · have e : i = xs.length := by omega
    subst e
    exact .inl ⟨⟨xs, ys, qx, qy, Or.inl (Nat.le_refl _)⟩, hd H p⟩
end KA
namespace KA
open PySem PySem.Spec PyProof.Rows L2 DP
/-! ### hands under which nobody overtakes, and looks that they fit -/
structure Hand (L : Int) (f : Int → Int) : Prop where
  mono : ∀ x y, x ≤ y → f x ≤ f y
  turn : ∀ x k, f (x + k * L) = f x + k * L
def Fits (f : Int → Int) (l : Lk) : Prop := (onSide "slow" l.1 = true → l.2.2 ≤ f l.2.1) ∧ (onSide "fast" l.1 = true → f l.2.1 ≤ l.2.2)
theorem fit_low {L : Int} (hL : 0 < L) {f : Int → Int} (F : Hand L f) {l : Lk} (h : Fits f l) (hs : onSide "slow" l.1 = true) (x : Int) : plc "slow" l x L ≤ f x := by
  have h1 := h.1 hs
  have h2 := Int.mul_ediv_add_emod (x - l.2.1) L
  have h3 := Int.emod_nonneg (x - l.2.1) (show L ≠ 0 by omega)
  rw [Int.mul_comm] at h2
  have h4 := F.mono (l.2.1 + (x - l.2.1) / L * L) x (by omega)
  rw [F.turn] at h4
  rw [plc_slow]; omega
theorem fit_high {L : Int} (hL : 0 < L) {f : Int → Int} (F : Hand L f) {l : Lk} (h : Fits f l) (hs : onSide "fast" l.1 = true) (x : Int) : f x ≤ plc "fast" l x L := by
  have h1 := h.2 hs
  have h2 := Int.mul_ediv_add_emod (l.2.1 - x) L
  have h3 := Int.emod_nonneg (l.2.1 - x) (show L ≠ 0 by omega)
  rw [Int.mul_comm] at h2
  have h4 := F.mono x (l.2.1 + (-((l.2.1 - x) / L)) * L) (by rw [Int.neg_mul]; omega)
  rw [F.turn, Int.neg_mul] at h4
  rw [plc_fast]; omega
theorem fit_far {L : Int} (hL : 0 < L) {f : Int → Int} (F : Hand L f) {a b : Lk} (ha : Fits f a) (hb : Fits f b) : tooFar a b L = false :=
  far_no fun h1 h2 => Int.le_trans (fit_low hL F ha h1 b.2.1) (hb.2 h2)
theorem fit_clash {L : Int} (hL : 0 < L) {f : Int → Int} (F : Hand L f) {a b : Lk} (ha : Fits f a) (hb : Fits f b) : clashB a b L = false := by
  unfold clashB
  rw [fit_far hL F ha hb, fit_far hL F hb ha]; rfl
theorem fit_home {L : Int} {f : Int → Int} (F : Hand L f) {l : Lk} (h : Fits f l) : Fits f (home L l) := by
  have e : f (home L l).2.1 = f l.2.1 - l.2.1 / L * L := by
    show f (l.2.1 - l.2.1 / L * L) = _
    have := F.turn l.2.1 (-(l.2.1 / L))
    rw [Int.neg_mul] at this
    rw [Int.sub_eq_add_neg, this]; omega
  refine ⟨fun hs => ?_, fun hs => ?_⟩
  · have := h.1 hs
    rw [e]
    show l.2.2 - l.2.1 / L * L ≤ _
    omega
  · have := h.2 hs
    rw [e]
    show _ ≤ l.2.2 - l.2.1 / L * L
    omega
/-- some places, and where they are led: rising, within a turn -/
structure Rises (L : Int) (prs : List (Int × Int)) : Prop where
  ne : prs ≠ []
  ord : prs.Pairwise fun a b => a.1 < b.1 ∧ a.2 ≤ b.2
  on : ∀ s ∈ prs, 0 ≤ s.1 ∧ s.1 < L
  turn : ∃ b : Int, b.natAbs < 2 ^ 104 ∧ ∀ s ∈ prs, b ≤ s.2 ∧ s.2 ≤ b + L
theorem pw_at {α : Type} {R : α → α → Prop} {l : List α} (h : l.Pairwise R) {a b : α} (ha : a ∈ l) (hb : b ∈ l) : a = b ∨ R a b ∨ R b a := by
  obtain ⟨i, hi, rfl⟩ := List.getElem_of_mem ha
  obtain ⟨j, hj, rfl⟩ := List.getElem_of_mem hb
  rw [List.pairwise_iff_getElem] at h
  rcases Nat.lt_trichotomy i j with e | e | e
  · exact .inr (.inl (h i j hi hj e))
  · subst e; exact .inl rfl
  · exact .inr (.inr (h j i hj hi e))
def atL (s : Int × Int) : Lk := ("at", s.1, s.2)
theorem Rises.lead {L : Int} (hL : 0 < L) {prs : List (Int × Int)} (R : Rises L prs) : ∃ f, Hand L f ∧ ∀ s ∈ prs, f s.1 = s.2 := by
  have hne : prs.map atL ≠ [] := fun e => R.ne (List.map_eq_nil_iff.mp e)
  refine ⟨fun x => bst "slow" (prs.map atL) x L, ⟨fun x y h => best_mono hL (bst_slow hne x L) (bst_slow hne y L) h, fun x k => bst_of (best_shift hL k (bst_slow hne x L))⟩, fun s hs => bst_of ⟨⟨atL s, List.mem_map.mpr ⟨s, hs, rfl⟩, ?_⟩, fun l hl => ?_⟩⟩
  · rw [plc_slow]
    show s.2 + (s.1 - s.1) / L * L = s.2
    rw [Int.sub_self, Int.zero_ediv, Int.zero_mul, Int.add_zero]
  · obtain ⟨q, hq, rfl⟩ := List.mem_map.mp hl
    rw [if_pos rfl, plc_slow]
    show q.2 + (s.1 - q.1) / L * L ≤ s.2
    have h1 := R.on s hs
    have h2 := R.on q hq
    obtain ⟨b, _, hb⟩ := R.turn
    have h3 := hb s hs
    have h4 := hb q hq
    rcases pw_at R.ord hq hs with e | e | e
    · rw [e, Int.sub_self, Int.zero_ediv, Int.zero_mul]; omega
    · rw [Int.ediv_eq_zero_of_lt (by omega) (by omega), Int.zero_mul]; omega
    · have e2 : (s.1 - q.1) / L = -1 := by
        have e1 : s.1 - q.1 = (s.1 - q.1 + L) + (-1) * L := by omega
        rw [e1, Int.add_mul_ediv_right _ _ (by omega), Int.ediv_eq_zero_of_lt (by omega) (by omega)]
        rfl
      rw [e2]; omega
/-- a look that is said of such places -/
def Said (L : Int) (prs : List (Int × Int)) (l : Lk) : Prop := WordOk l.1 ∧ ∃ s ∈ prs, l.2.1 = s.1 ∧ (l.1 = "at" → l.2.2 = s.2) ∧ (l.1 = "from" → l.2.2 ≤ s.2 ∧ s.2 ≤ l.2.2 + L) ∧ (l.1 = "upto" → s.2 ≤ l.2.2 ∧ l.2.2 ≤ s.2 + L)
theorem Said.fits {L : Int} {prs : List (Int × Int)} {f : Int → Int} (hf : ∀ s ∈ prs, f s.1 = s.2) {l : Lk} (h : Said L prs l) : Fits f l := by
  obtain ⟨_, s, hs, e, h1, h2, h3⟩ := h
  rw [Fits, e, hf s hs]
  refine ⟨fun c => ?_, fun c => ?_⟩
  · rcases side_low c with e | e
    · exact Int.le_of_eq (h1 e)
    · exact (h2 e).1
  · rcases side_high c with e | e
    · exact Int.le_of_eq (h1 e).symm
    · exact (h3 e).1
theorem Said.sized {L : Int} (hL : 0 < L) (hLb : L.natAbs < 2 ^ 100) {prs : List (Int × Int)} (R : Rises L prs) {l : Lk} (h : Said L prs l) : Sized 110 l := by
  obtain ⟨w, s, hs, e, h1, h2, h3⟩ := h
  have h4 := R.on s hs
  obtain ⟨b, hb, hb2⟩ := R.turn
  have h5 := hb2 s hs
  refine ⟨?_, ?_⟩
  · rw [e]; exact lt_up (Nat.lt_of_le_of_lt (by omega : s.1.natAbs ≤ L.natAbs) hLb) (by decide)
  · have e1 : (2 : Nat) ^ 110 = 2 ^ 104 * 64 := by decide
    have e2 : (2 : Nat) ^ 100 ≤ 2 ^ 104 := by decide
    rw [e1]
    generalize (2 : Nat) ^ 104 = B at hb e2 ⊢
    generalize (2 : Nat) ^ 100 = C at hLb e2
    rcases w with w | w | w
    · rw [h1 w]; omega
    · have := h2 w; omega
    · have := h3 w; omega
/-- heard some turns on -/
theorem home_turned {L : Int} (hL : 0 < L) (w : Str) (x y k : Int) : home L (w, x + k * L, y + k * L) = home L (w, x, y) := by
  have e : (x + k * L) / L = x / L + k := by rw [Int.add_mul_ediv_right _ _ (by omega)]
  show (w, x + k * L - (x + k * L) / L * L, y + k * L - (x + k * L) / L * L) = (w, x - x / L * L, y - x / L * L)
  rw [e, Int.add_mul]
  congr 1
  congr 1 <;> omega
theorem heard_turned {L : Int} (hL : 0 < L) (ls : List Lk) (w : Str) (x y k : Int) : heard L ls (w, x + k * L, y + k * L) = heard L ls (w, x, y) := by
  unfold heard
  rw [home_turned hL]
/-- all heard -/
def heardAll (L : Int) (ls : List Lk) : List Lk := ls.foldl (heard L) []
theorem heardAll_mem {L : Int} {ls : List Lk} (o : Lk) : o ∈ heardAll L ls ↔ ∃ l ∈ ls, o = home L l := by
  unfold heardAll
  rw [fold_mem]; simp
end KA
namespace KA
open PySem PySem.Spec PyProof.Rows L2 DP
/-! ### where hands, used by turns, lead a place -/
theorem bst_is {sd : Str} (hs : SideOk sd) {ls : List Lk} (h : ls ≠ []) (x L : Int) : IsBest sd ls x L (bst sd ls x L) := by
  rcases hs with e | e <;> subst e
  · exact bst_slow h x L
  · exact bst_fast h x L
/-- one use: none where there is no look of the side -/
noncomputable def stp (sd : Str) (L : Int) (ls : List Lk) (y : Int) : Option Int := by
  classical exact if ls = [] then none else some (bst sd ls y L)
theorem stp_nil {sd : Str} {L y : Int} : stp sd L [] y = none := by
  unfold stp; rw [if_pos rfl]
theorem stp_best {sd : Str} {L y m : Int} {ls : List Lk} (h : IsBest sd ls y L m) : stp sd L ls y = some m := by
  obtain ⟨⟨l, hl, _⟩, _⟩ := id h
  have hne : ls ≠ [] := fun e => by rw [e] at hl; cases hl
  unfold stp
  rw [if_neg hne, bst_of h]
theorem stp_some {sd : Str} (hs : SideOk sd) {L y : Int} {ls : List Lk} (h : ls ≠ []) : stp sd L ls y = some (bst sd ls y L) := stp_best (bst_is hs h y L)
theorem stp_shift {sd : Str} (hs : SideOk sd) {L : Int} (hL : 0 < L) (ls : List Lk) (y k : Int) : stp sd L ls (y + k * L) = (stp sd L ls y).map (· + k * L) := by
  by_cases h : ls = []
  · subst h; rw [stp_nil, stp_nil]; rfl
  · rw [stp_best (best_shift hL k (bst_is hs h y L)), stp_best (bst_is hs h y L)]; rfl
noncomputable def it (sd : Str) (L : Int) (kn : List (List Lk)) (x : Int) : Nat → Option Int
  | 0 => some x
  | n + 1 => (it sd L kn x n).bind (stp sd L (kn.getD (n % kn.length) []))
theorem it_succ {sd : Str} {L : Int} {kn : List (List Lk)} {x : Int} (n : Nat) : it sd L kn x (n + 1) = (it sd L kn x n).bind (stp sd L (kn.getD (n % kn.length) [])) := rfl
theorem it_none {sd : Str} {L : Int} {kn : List (List Lk)} {x : Int} {n : Nat} (h : it sd L kn x n = none) : ∀ k, it sd L kn x (n + k) = none
  | 0 => h
  | k + 1 => by
    show (it sd L kn x (n + k)).bind _ = none
    rw [it_none h k]; rfl
/-- where it stands at the same hand, whole turns on, it goes on alike -/
theorem it_turn {sd : Str} (hs : SideOk sd) {L : Int} (hL : 0 < L) {kn : List (List Lk)} {x k : Int} {s t : Nat} (hm : s % kn.length = t % kn.length) (h : it sd L kn x t = (it sd L kn x s).map (· + k * L)) : ∀ n, it sd L kn x (t + n) = (it sd L kn x (s + n)).map (· + k * L)
  | 0 => h
  | n + 1 => by
    show it sd L kn x (t + n + 1) = (it sd L kn x (s + n + 1)).map _
    rw [it_succ, it_succ, it_turn hs hL hm h n]
    have e : (t + n) % kn.length = (s + n) % kn.length := by rw [Nat.add_mod, ← hm, ← Nat.add_mod]
    rw [e]
    cases it sd L kn x (s + n) with
    | none => rfl
    | some y => exact stp_shift hs hL _ y k
theorem it_laps {sd : Str} (hs : SideOk sd) {L : Int} (hL : 0 < L) {kn : List (List Lk)} {x k : Int} {s p : Nat} (hm : s % kn.length = (s + p) % kn.length) (h : it sd L kn x (s + p) = (it sd L kn x s).map (· + k * L)) (r : Nat) : ∀ t : Nat, it sd L kn x (s + r + t * p) = (it sd L kn x (s + r)).map (· + t * (k * L))
  | 0 => by
    rw [Nat.zero_mul]
    cases it sd L kn x (s + r) with
    | none => simp
    | some y => simp
  | t + 1 => by
    have h1 := it_turn hs hL hm h (r + t * p)
    have e1 : s + p + (r + t * p) = s + r + (t + 1) * p := by rw [Nat.add_mul]; omega
    have e2 : s + (r + t * p) = s + r + t * p := by omega
    rw [e1, e2] at h1
    rw [h1, it_laps hs hL hm h r t]
    cases it sd L kn x (s + r) with
    | none => rfl
    | some y =>
      show some (y + (t : Int) * (k * L) + k * L) = some (y + ((t + 1 : Nat) : Int) * (k * L))
      rw [Int.natCast_add, Int.add_mul]
      congr 1
      omega
/-- two rounds that tell the same of each place lead alike -/
theorem it_alike {sd : Str} {L : Int} {kn kn' : List (List Lk)} {x : Int} (hl : kn.length = kn'.length) (h : ∀ i y, i < kn.length → stp sd L (kn.getD i []) y = stp sd L (kn'.getD i []) y) (hm : 0 < kn.length) : ∀ n, it sd L kn x n = it sd L kn' x n
  | 0 => rfl
  | n + 1 => by
    show (it sd L kn x n).bind _ = (it sd L kn' x n).bind _
    rw [it_alike hl h hm n]
    cases it sd L kn' x n with
    | none => rfl
    | some y =>
      show stp sd L (kn.getD (n % kn.length) []) y = stp sd L (kn'.getD (n % kn'.length) []) y
      rw [← hl]
      exact h _ y (Nat.mod_lt _ hm)
/-! ### the walk -/
structure WalkOk (sd : Str) (L : Int) (kn : List (List Lk)) (x : Int) (ps : List Int) (tl : List Lk) : Prop where
  len : ps.length = tl.length + 1
  zero : ps[0]? = some x
  step : ∀ i l, tl[i]? = some l → l ∈ kn.getD (i % kn.length) [] ∧ ∃ y z, ps[i]? = some y ∧ ps[i + 1]? = some z ∧ plc sd l y L = z ∧ IsBest sd (kn.getD (i % kn.length) []) y L z
/-- how it ends -/
def EndOk (L : Int) (kn : List (List Lk)) (ps : List Int) (tl : List Lk) : Option Nat → Prop
  | none => kn.getD (tl.length % kn.length) [] = []
  | some s => s < tl.length ∧ s % kn.length = tl.length % kn.length ∧ ∃ a b, ps[s]? = some a ∧ ps[tl.length]? = some b ∧ a % L = b % L
theorem WalkOk.it {sd : Str} {L : Int} {kn : List (List Lk)} {x : Int} {ps : List Int} {tl : List Lk} (W : WalkOk sd L kn x ps tl) : ∀ (i : Nat) (y : Int), ps[i]? = some y → it sd L kn x i = some y
  | 0, y, h => by
    rw [W.zero] at h
    exact h
  | i + 1, y, h => by
    have hi := (List.getElem?_eq_some_iff.mp h).1
    have hl := W.len
    obtain ⟨_, y0, z, h1, h2, _, h4⟩ := W.step i _ (List.getElem?_eq_getElem (by omega : i < tl.length))
    rw [h2] at h
    rw [← Option.some.inj h]
    show (KA.it sd L kn x i).bind _ = _
    rw [W.it i y0 h1]
    exact stp_best h4
/-- behind any uses: the walk's own answer -/
theorem behind_in {sd : Str} {L : Int} {kn : List (List Lk)} {x : Int} {ps : List Int} {tl : List Lk} (W : WalkOk sd L kn x ps tl) {n : Nat} (h : n < ps.length) : it sd L kn x n = some (ps.getD n 0) := by
  refine W.it n _ ?_
  rw [List.getD_eq_getElem?_getD, List.getElem?_eq_getElem h]; rfl
theorem behind_none {sd : Str} {L : Int} {kn : List (List Lk)} {x : Int} {ps : List Int} {tl : List Lk} (W : WalkOk sd L kn x ps tl) (h : EndOk L kn ps tl none) {n : Nat} (hn : ps.length ≤ n) : it sd L kn x n = none := by
  have hl := W.len
  have h1 : it sd L kn x (tl.length + 1) = none := by
    show (it sd L kn x tl.length).bind _ = none
    rw [show kn.getD (tl.length % kn.length) [] = [] from h]
    cases it sd L kn x tl.length with
    | none => rfl
    | some y => exact stp_nil
  have h2 := it_none h1 (n - (tl.length + 1))
  rwa [show tl.length + 1 + (n - (tl.length + 1)) = n by omega] at h2
theorem behind_laps {sd : Str} (hs : SideOk sd) {L : Int} (hL : 0 < L) {kn : List (List Lk)} {x : Int} {ps : List Int} {tl : List Lk} (W : WalkOk sd L kn x ps tl) {s : Nat} (h : EndOk L kn ps tl (some s)) (t r : Nat) (hr : s + r < ps.length) :
    it sd L kn x (s + r + t * (tl.length - s)) = some (ps.getD (s + r) 0 + t * (ps.getD tl.length 0 - ps.getD s 0)) := by
  obtain ⟨h1, h2, a, b, ha, hb, hab⟩ := h
  have ea := W.it s a ha
  have eb := W.it _ b hb
  have e1 : s + (tl.length - s) = tl.length := by omega
  obtain ⟨k, hk⟩ : ∃ k, b = a + k * L := by
    refine ⟨b / L - a / L, ?_⟩
    have q1 := Int.mul_ediv_add_emod a L
    have q2 := Int.mul_ediv_add_emod b L
    rw [Int.mul_comm] at q1 q2
    rw [Int.sub_mul]
    omega
  have hit : it sd L kn x (s + (tl.length - s)) = (it sd L kn x s).map (· + k * L) := by
    rw [e1, ea, eb, hk]; rfl
  rw [it_laps hs hL (by rw [e1]; exact h2) hit r t, behind_in W hr]
  have ga : ps.getD s 0 = a := by rw [List.getD_eq_getElem?_getD, ha]; rfl
  have gb : ps.getD tl.length 0 = b := by rw [List.getD_eq_getElem?_getD, hb]; rfl
  rw [ga, gb, hk]
  show some (ps.getD (s + r) 0 + (t : Int) * (k * L)) = some (ps.getD (s + r) 0 + (t : Int) * (a + k * L - a))
  rw [show a + k * L - a = k * L by omega]
/-! ### sizes -/
theorem plc_near {L : Int} (hL : 0 < L) (sd : Str) (l : Lk) (x : Int) : (plc sd l x L - x).natAbs ≤ (l.2.2 - l.2.1).natAbs + L.natAbs := by
  unfold plc
  split
  · have q := Int.mul_ediv_add_emod (x - l.2.1) L
    have q0 := Int.emod_nonneg (x - l.2.1) (show L ≠ 0 by omega)
    have q1 := Int.emod_lt_of_pos (x - l.2.1) hL
    rw [Int.mul_comm] at q
    omega
  · have q := Int.mul_ediv_add_emod (l.2.1 - x) L
    have q0 := Int.emod_nonneg (l.2.1 - x) (show L ≠ 0 by omega)
    have q1 := Int.emod_lt_of_pos (l.2.1 - x) hL
    rw [Int.mul_comm] at q
    omega
/-- a hand's looks are such as a Dark keeps -/
def KnOk (kn : List (List Lk)) : Prop := ∀ ls ∈ kn, ls.length ≤ 60 ∧ ∀ l ∈ ls, WordOk l.1 ∧ Sized 310 l
theorem KnOk.get {kn : List (List Lk)} (h : KnOk kn) (i : Nat) : (kn.getD i []).length ≤ 60 ∧ ∀ l ∈ kn.getD i [], WordOk l.1 ∧ Sized 310 l := by
  by_cases hi : i < kn.length
  · have e : kn.getD i [] = kn[i] := by rw [List.getD_eq_getElem?_getD, List.getElem?_eq_getElem hi]; rfl
    rw [e]
    exact h _ (List.getElem_mem hi)
  · have e : kn.getD i [] = [] := by rw [List.getD_eq_getElem?_getD, List.getElem?_eq_none (by omega)]; rfl
    rw [e]
    exact ⟨Nat.zero_le _, fun l hl => by cases hl⟩
theorem step_near {L : Int} (hL : 0 < L) (hLb : L.natAbs < 2 ^ 200) {l : Lk} (h : Sized 310 l) (sd : Str) (x : Int) : (plc sd l x L - x).natAbs ≤ 2 ^ 312 := by
  have h1 := plc_near hL sd l x
  have h2 : (l.2.2 - l.2.1).natAbs < 2 ^ 311 := sub_lt h.2 h.1
  have h3 : L.natAbs < 2 ^ 311 := lt_up hLb (by decide)
  have h4 : (2 : Nat) ^ 312 = 2 ^ 311 + 2 ^ 311 := by rw [Nat.pow_succ, Nat.mul_two]
  omega
theorem WalkOk.small {sd : Str} {L : Int} (hL : 0 < L) (hLb : L.natAbs < 2 ^ 200) {kn : List (List Lk)} (hk : KnOk kn) {x : Int} {ps : List Int} {tl : List Lk} (W : WalkOk sd L kn x ps tl) : ∀ (i : Nat) (y : Int), ps[i]? = some y → y.natAbs ≤ x.natAbs + i * 2 ^ 312
  | 0, y, h => by
    rw [W.zero] at h
    rw [← Option.some.inj h]; omega
  | i + 1, y, h => by
    have hi := (List.getElem?_eq_some_iff.mp h).1
    have hl := W.len
    obtain ⟨hm, y0, z, h1, h2, h3, _⟩ := W.step i _ (List.getElem?_eq_getElem (by omega : i < tl.length))
    rw [h2] at h
    rw [← Option.some.inj h, ← h3]
    have q1 := W.small hL hLb hk i y0 h1
    have q2 := step_near hL hLb ((hk.get _).2 _ hm).2 sd y0
    rw [Nat.add_mul, Nat.one_mul]
    generalize (2 : Nat) ^ 312 = B at q1 q2 ⊢
    generalize i * B = c at q1 ⊢
    omega
/-! ### the marks: hand and place within the turn -/
def mark (L : Int) (m : Nat) (ps : List Int) (i : Nat) : Nat × Int := (i % m, ps.getD i 0 % L)
def marks (L : Int) (m : Nat) (ps : List Int) (n : Nat) : List (Nat × Int) := (List.range n).map (mark L m ps)
def cand (L : Int) (kn : List (List Lk)) (x : Int) : List (Nat × Int) := (0, x % L) :: ((List.range kn.length).map fun j => (kn.getD j []).map fun l => ((j + 1) % kn.length, l.2.2 % L)).flatten
theorem nodup_le {α : Type} [DecidableEq α] : ∀ {l l' : List α}, l.Nodup → (∀ a ∈ l, a ∈ l') → l.length ≤ l'.length
  | [], l', _, _ => Nat.zero_le _
  | a :: l, l', hn, hs => by
    obtain ⟨h1, h2⟩ := List.nodup_cons.mp hn
    have ha := hs a List.mem_cons_self
    have h3 : ∀ b ∈ l, b ∈ l'.erase a := fun b hb => (List.mem_erase_of_ne (fun e => h1 (by rw [← e]; exact hb))).mpr (hs b (List.mem_cons_of_mem _ hb))
    have h4 := nodup_le h2 h3
    have h5 := List.length_erase_of_mem ha
    have h6 := List.length_pos_of_mem ha
    rw [List.length_cons]; omega
theorem flat_le {β γ : Type} {f : β → List γ} {c : Nat} : ∀ {l : List β}, (∀ b ∈ l, (f b).length ≤ c) → (l.map f).flatten.length ≤ l.length * c
  | [], _ => by simp
  | b :: l, h => by
    have h1 := flat_le (l := l) fun q hq => h q (List.mem_cons_of_mem _ hq)
    have h2 := h b List.mem_cons_self
    rw [List.map_cons, List.flatten_cons, List.length_append, List.length_cons, Nat.add_mul]
    omega
theorem cand_len {L : Int} {kn : List (List Lk)} (hk : KnOk kn) (x : Int) : (cand L kn x).length ≤ kn.length * 60 + 1 := by
  unfold cand
  rw [List.length_cons]
  have h := flat_le (f := fun j => (kn.getD j []).map fun l : Lk => ((j + 1) % kn.length, l.2.2 % L)) (c := 60) (l := List.range kn.length) fun j _ => by
    rw [List.length_map]; exact (hk.get j).1
  rw [List.length_range] at h
  omega
theorem plc_mod {L : Int} (sd : Str) (l : Lk) (x : Int) : plc sd l x L % L = l.2.2 % L := by
  unfold plc
  split
  · exact Int.add_mul_emod_self_right ..
  · rw [Int.sub_eq_add_neg, ← Int.neg_mul]
    exact Int.add_mul_emod_self_right ..
theorem mark_cand {sd : Str} {L : Int} {kn : List (List Lk)} (hm : 0 < kn.length) {x : Int} {ps : List Int} {tl : List Lk} (W : WalkOk sd L kn x ps tl) : ∀ i, i < ps.length → mark L kn.length ps i ∈ cand L kn x
  | 0, _ => by
    refine List.mem_cons.mpr (.inl ?_)
    unfold mark
    rw [List.getD_eq_getElem?_getD, W.zero, Nat.zero_mod]; rfl
  | i + 1, hi => by
    refine List.mem_cons.mpr (.inr ?_)
    have hl := W.len
    obtain ⟨h0, y0, z, h1, h2, h3, _⟩ := W.step i _ (List.getElem?_eq_getElem (by omega : i < tl.length))
    refine List.mem_flatten.mpr ⟨_, List.mem_map.mpr ⟨i % kn.length, List.mem_range.mpr (Nat.mod_lt _ hm), rfl⟩, List.mem_map.mpr ⟨_, h0, ?_⟩⟩
    unfold mark
    rw [List.getD_eq_getElem?_getD, h2]
    show (_, _) = (_, z % L)
    rw [← h3, plc_mod]
    congr 1
    rw [Nat.mod_add_mod]
theorem marks_le {sd : Str} {L : Int} {kn : List (List Lk)} (hm : 0 < kn.length) {x : Int} {ps : List Int} {tl : List Lk} (W : WalkOk sd L kn x ps tl) {n : Nat} (hn : n ≤ ps.length) (hd : (marks L kn.length ps n).Nodup) : n ≤ (cand L kn x).length := by
  have h := nodup_le hd (l' := cand L kn x) fun a ha => by
    obtain ⟨i, hi, rfl⟩ := List.mem_map.mp ha
    exact mark_cand hm W i (Nat.lt_of_lt_of_le (List.mem_range.mp hi) hn)
  unfold marks at h
  rwa [List.length_map, List.length_range] at h
theorem WalkOk.new {sd : Str} {L : Int} {kn : List (List Lk)} {x : Int} : WalkOk sd L kn x [x] [] := ⟨rfl, rfl, fun i l h => by simp at h⟩
theorem WalkOk.snoc {sd : Str} {L : Int} {kn : List (List Lk)} {x y z : Int} {ps : List Int} {tl : List Lk} {l : Lk} (W : WalkOk sd L kn x ps tl) (hy : ps[tl.length]? = some y) (hl : l ∈ kn.getD (tl.length % kn.length) []) (hz : plc sd l y L = z) (hb : IsBest sd (kn.getD (tl.length % kn.length) []) y L z) : WalkOk sd L kn x (ps ++ [z]) (tl ++ [l]) := by
  have hlen := W.len
  refine ⟨by simp [hlen], by rw [List.getElem?_append_left (by omega)]; exact W.zero, fun i l' h => ?_⟩
  by_cases hi : i < tl.length
  · rw [List.getElem?_append_left hi] at h
    obtain ⟨h0, y0, z0, h1, h2, h3⟩ := W.step i l' h
    exact ⟨h0, y0, z0, by rw [List.getElem?_append_left (by omega)]; exact h1, by rw [List.getElem?_append_left (by omega)]; exact h2, h3⟩
  · have hi2 := (List.getElem?_eq_some_iff.mp h).1
    have e : i = tl.length := by
      rw [List.length_append, List.length_singleton] at hi2; omega
    subst e
    rw [List.getElem?_append_right (Nat.le_refl _), Nat.sub_self] at h
    have e2 : l = l' := Option.some.inj h
    subst e2
    refine ⟨hl, y, z, by rw [List.getElem?_append_left (by omega)]; exact hy, ?_, hz, hb⟩
    rw [List.getElem?_append_right (by omega), hlen, Nat.sub_self]; rfl
theorem marks_keep {L : Int} {m : Nat} {ps : List Int} {z : Int} {n : Nat} (h : n ≤ ps.length) : marks L m (ps ++ [z]) n = marks L m ps n := by
  unfold marks
  refine List.map_congr_left fun i hi => ?_
  have := List.mem_range.mp hi
  unfold mark
  rw [List.getD_eq_getElem?_getD, List.getD_eq_getElem?_getD, List.getElem?_append_left (by omega)]
theorem marks_succ {L : Int} {m : Nat} {ps : List Int} {n : Nat} : marks L m ps (n + 1) = marks L m ps n ++ [mark L m ps n] := by
  unfold marks
  rw [List.range_succ, List.map_append]; rfl
theorem marks_nodup {L : Int} {m : Nat} {ps : List Int} {n : Nat} (h : (marks L m ps n).Nodup) (h2 : mark L m ps n ∉ marks L m ps n) : (marks L m ps (n + 1)).Nodup := by
  rw [marks_succ]
  refine List.nodup_append.mpr ⟨h, by simp, fun a ha b hb e => ?_⟩
  rw [List.mem_singleton] at hb
  subst hb; subst e
  exact h2 ha
end KA
namespace KA
open PySem PySem.Spec PyProof.Rows L2 DP
/-- hands in the dark, of one length -/
def Darks (Z : Ad) (K : PySem.W.Frag) (H : Hp) (ds : List Addr) (L : Int) (hs : List (List Lk)) : Prop := ds.length = hs.length ∧ ∀ (i : Nat) (d : Addr) (ls : List Lk), ds[i]? = some d → hs[i]? = some ls → DarkAt Z K H d L ls
theorem Darks.same {Z : Ad} {K : PySem.W.Frag} {H H' : Hp} {ds : List Addr} {L : Int} {hs : List (List Lk)} (D : Darks Z K H ds L hs) (S : Same H H') : Darks Z K H' ds L hs := ⟨D.1, fun i d ls h1 h2 => (D.2 i d ls h1 h2).same S⟩
theorem Darks.get {Z : Ad} {K : PySem.W.Frag} {H : Hp} {ds : List Addr} {L : Int} {hs : List (List Lk)} (D : Darks Z K H ds L hs) {i : Nat} {d : Addr} (h : ds[i]? = some d) : ∃ ls, hs[i]? = some ls ∧ DarkAt Z K H d L ls := by
  have hi := (List.getElem?_eq_some_iff.mp h).1
  have hl := D.1
  exact ⟨hs[i], List.getElem?_eq_getElem (by omega), D.2 i d _ h (List.getElem?_eq_getElem (by omega))⟩
/-- a list of looks that stands as itself -/
def LkAt (K : PySem.W.Frag) (H : Hp) (p : Addr) (ls : List Lk) : Prop := ∃ vs, H p = some (.lst vs) ∧ DpAll K H vs (ls.map encL)
theorem LkAt.dp {K : PySem.W.Frag} {H : Hp} {p : Addr} {ls : List Lk} (h : LkAt K H p ls) : Dp K H (.ref p) (.list (ls.map encL)) := by
  obtain ⟨vs, h1, h2⟩ := h
  exact .lst (SqL.of h1) h2
theorem LkAt.to {K : PySem.W.Frag} {H H' : Hp} {p : Addr} {ls : List Lk} (h : LkAt K H p ls) (ht : Tups H H') (hp : ∀ o, H p = some o → H' p = some o) : LkAt K H' p ls := by
  obtain ⟨vs, h1, h2⟩ := h
  exact ⟨vs, hp _ h1, dpAll_tups ht _ _ (noLs_map noL_encL ls) h2⟩
theorem LkAt.same {K : PySem.W.Frag} {H H' : Hp} {p : Addr} {ls : List Lk} (h : LkAt K H p ls) (S : Same H H') : LkAt K H' p ls := h.to (Tups.of_same S) fun o e => S _ _ e
/-- lists of looks -/
def Lots (K : PySem.W.Frag) (H : Hp) (as : List Addr) (kn : List (List Lk)) : Prop := as.length = kn.length ∧ ∀ (i : Nat) (a : Addr) (ls : List Lk), as[i]? = some a → kn[i]? = some ls → LkAt K H a ls
theorem Lots.same {K : PySem.W.Frag} {H H' : Hp} {as : List Addr} {kn : List (List Lk)} (D : Lots K H as kn) (S : Same H H') : Lots K H' as kn := ⟨D.1, fun i a ls h1 h2 => (D.2 i a ls h1 h2).same S⟩
theorem Lots.to {K : PySem.W.Frag} {H H' : Hp} {as : List Addr} {kn : List (List Lk)} (D : Lots K H as kn) (ht : Tups H H') (hp : ∀ a ∈ as, ∀ o, H a = some o → H' a = some o) : Lots K H' as kn := ⟨D.1, fun i a ls h1 h2 => (D.2 i a ls h1 h2).to ht (hp a (List.mem_of_getElem? h1))⟩
theorem Lots.get {K : PySem.W.Frag} {H : Hp} {as : List Addr} {kn : List (List Lk)} (D : Lots K H as kn) {i : Nat} {a : Addr} (h : as[i]? = some a) : ∃ ls, kn[i]? = some ls ∧ LkAt K H a ls := by
  have hi := (List.getElem?_eq_some_iff.mp h).1
  have hl := D.1
  exact ⟨kn[i], List.getElem?_eq_getElem (by omega), D.2 i a _ h (List.getElem?_eq_getElem (by omega))⟩
theorem Lots.snoc {K : PySem.W.Frag} {H : Hp} {as : List Addr} {kn : List (List Lk)} {a : Addr} {ls : List Lk} (D : Lots K H as kn) (h : LkAt K H a ls) : Lots K H (as ++ [a]) (kn ++ [ls]) := by
  have hl := D.1
  refine ⟨by simp [hl], fun i b l h1 h2 => ?_⟩
  by_cases hi : i < as.length
  · rw [List.getElem?_append_left hi] at h1
    rw [List.getElem?_append_left (by omega)] at h2
    exact D.2 i b l h1 h2
  · have h3 := (List.getElem?_eq_some_iff.mp h1).1
    rw [List.length_append, List.length_singleton] at h3
    have e : i = as.length := by omega
    subst e
    rw [List.getElem?_append_right (Nat.le_refl _), Nat.sub_self] at h1
    rw [List.getElem?_append_right (by omega), hl, Nat.sub_self] at h2
    have e1 : a = b := Option.some.inj h1
    have e2 : ls = l := Option.some.inj h2
    subst e1 e2
    exact h
/-- a list of objects, in place of them -/
abbrev refs (as : List Addr) : List V := as.map V.ref
def spRound (Z : Ad) (K : PySem.W.Frag) : Sp := fun vs H Q _ => ∃ (hp : Addr) (ds : List Addr) (sd : Str) (L : Int) (hs : List (List Lk)), vs = [.ref hp, .str sd] ∧ SqL K H hp (refs ds) ∧ Darks Z K H ds L hs ∧ SideOk sd ∧ ds.length ≤ 1000 ∧
  ∀ H' p as, H p = none → (∀ a ∈ as, H a = none ∧ a ≠ p) → Same H H' → H' p = some (.lst (refs as)) → Lots K H' as (hs.map (sideOf sd)) → Q (.ref p) H'
theorem same_acc {H H' : Hp} {D : Addr} {o : HO} (S : Same H H') (hD : H D = none) : Same H (upd H' D o) := same_set S hD
section
variable {P : Program} {w : World} {K : PySem.W.Frag} {mg : Str → Option Value} {base : Heap} {Z : Ad}
theorem ok_round_looks (T : Tx K w mg Z) : FnOk P w K mg base CX0 2 Z.a_round_looks Z.d_round_looks P_round_looks (spRound Z K) := by
  refine T.F_round_looks.ok scround_looks (fun vs H Q E h => ?_) (fun cdv A outer s H vs Q E hr h => ?_)
  · obtain ⟨hp, ds, sd, L, hs, rfl, _⟩ := h
    rfl
  · obtain ⟨hp, ds, sd, L, hs, rfl, hh, hD, hsd, hlen, k⟩ := h
    refine ⟨_, (pss_one (ps_ret (pe_lc (own := [("hand", 2)]) (g := gName 2) (tt := tYes) rfl scround_looks.nd (pi_list (pv 0)) (blkOk_by (own := [("hand", 2)]) (N := N_round_looks) (sc := defScope sround_looks) (by decide +kernel)) (fun _ _ _ _ _ => (pg_name (i := 2) scround_looks.nd rfl (Or.inl rfl))) (fun _ _ _ _ _ => pts_nil) (fun _ _ _ _ _ => (pe_call (ok_side_looks T) (hr.mono (by decide)) (by rfl) T.g_side_looks T.F_side_looks.kp T.bb_side_looks .nil pass0 (pa_cons (pe_meth0 (pv 2) T.cl T.m_Dark_looks (ok_Dark_looks T) (hr.mono (by decide)) T.bb_Dark_looks .nil pass0) (pa_cons (pv 1) pa_nil))))))), ?_⟩
    refine ⟨_, rfl, hp, rfl, ⟨_, hh⟩, fun D hDn => ?_⟩
    refine lc_list (K := K) (a := hp) (xs := refs ds) (fun i H' => Same H H' ∧ ∃ as, H' D = some (.lst (refs as)) ∧ as.length = i ∧ (∀ a ∈ as, H a = none ∧ a ≠ D) ∧ Lots K H' as ((hs.take i).map (sideOf sd))) ⟨same_upd hDn, [], upd_same, rfl, (fun _ z => by cases z), rfl, fun i a ls z => by simp at z⟩ (fun i H' _ ⟨S, _⟩ => Same.sqL S hh) ?_ ?_
    · rintro i y H' hi ⟨S, as, hD', hal, hfr, hlots⟩
      obtain ⟨d, hd, rfl⟩ : ∃ d, ds[i]? = some d ∧ y = .ref d := by
        obtain ⟨d, h1, h2⟩ := map_at hi
        exact ⟨d, h1, h2⟩
      obtain ⟨ls, hls, DD⟩ := hD.get hd
      refine ⟨rfl, yes_ite ?_⟩
      have DD1 := DD.same S
      obtain ⟨dx, la, vs, h1, h2, h3⟩ := DD1.ex
      refine ⟨_, rfl, d, dx, _, rfl, h1, df_no _ _ (by decide +kernel) (by decide +kernel), d, L, ls, rfl, DD1, fun p xs H1 hp1 S1 hx1 hx2 => ?_⟩
      refine ⟨_, rfl, .ref p, ls, sd, rfl, .lst (SqL.of hx1) hx2, hsd, fun l hl => (DD.ok l hl).1, Nat.le_trans DD.len (by decide), fun H2 q hq S2 hlk => ?_⟩
      have S12 := S1.trans S2
      have hD2 := S12 _ _ hD'
      have hqD : q ≠ D := fun e => by rw [e, S1 _ _ hD'] at hq; cases hq
      refine ⟨refs as, hD2, ?_, same_set (S.trans S12) hDn, as ++ [q], ?_, by simp [hal], fun a ha => ?_, ?_⟩
      · have := (List.getElem?_eq_some_iff.mp hd).1
        exact small1000 (by simp; omega)
      · rw [upd_same]; simp [refs]
      · rcases List.mem_append.mp ha with h | h
        · exact hfr a h
        · rw [List.mem_singleton] at h
          subst h
          exact ⟨S.free (S1.free hq), hqD⟩
      · rw [take_snoc hls, List.map_append]
        have hn : ∀ a ∈ as ++ [q], a ≠ D := fun a ha => by
          rcases List.mem_append.mp ha with h | h
          · exact (hfr a h).2
          · rw [List.mem_singleton] at h; subst h; exact hqD
        exact ((hlots.same S12).snoc hlk).to (Tups.upd_lst hD2) fun a ha o e => (upd_ne (hn a ha)).trans e
    · rintro H' ⟨S, as, hD', hal, hfr, hlots⟩
      have hl := hD.1
      have e : hs.take (refs ds).length = hs := List.take_of_length_le (by simp; omega)
      rw [e] at hlots
      exact k H' D as hDn hfr S hD' hlots
end
end KA
namespace KA
open PySem PySem.Spec PyProof.Rows L2 DP
/-- a Walk's fields -/
def wf (pl tb : Addr) (st : V) : List (Str × V) := [("places", .ref pl), ("told_by", .ref tb), ("start", st)]
def stV : Option Nat → V
  | none => .non
  | some s => .int s
theorem wf_places (pl tb : Addr) (st : V) : (wf pl tb st).lookup ("places" : Str) = some (.ref pl) := by simp [wf, List.lookup]
theorem wf_told (pl tb : Addr) (st : V) : (wf pl tb st).lookup ("told_by" : Str) = some (.ref tb) := by
  have h : (("told_by" : Str) == ("places" : Str)) = false := by decide +kernel
  simp [wf, List.lookup, h]
theorem wf_start (pl tb : Addr) (st : V) : (wf pl tb st).lookup ("start" : Str) = some st := by
  have h : (("start" : Str) == ("places" : Str)) = false := by decide +kernel
  have h2 : (("start" : Str) == ("told_by" : Str)) = false := by decide +kernel
  simp [wf, List.lookup, h, h2]
theorem wf_no (pl tb : Addr) (st : V) {m : Str} (h1 : (m == ("places" : Str)) = false) (h2 : (m == ("told_by" : Str)) = false) (h3 : (m == ("start" : Str)) = false) : (wf pl tb st).lookup m = none := by simp [wf, List.lookup, h1, h2, h3]
theorem wf_put (pl tb : Addr) (st v : V) : putF "start" v (wf pl tb st) = wf pl tb v := by
  show (if ("places" : Str) = "start" then _ else (("places" : Str), V.ref pl) :: (if ("told_by" : Str) = "start" then _ else (("told_by" : Str), V.ref tb) :: (if ("start" : Str) = "start" then _ else _))) = _
  rw [if_neg (by decide +kernel), if_neg (by decide +kernel), if_pos rfl]; rfl
/-- what is walked: its places, the looks that told them, where it comes round to -/
structure WalkAt (Z : Ad) (K : PySem.W.Frag) (H : Hp) (w : Addr) (pl tb : Addr) (ps : List Int) (tl : List Lk) (st : Option Nat) : Prop where
  ex : ∃ dx tvs, H w = some (.ins Z.C_Walk dx (wf pl tb (stV st))) ∧ H pl = some (.lst (ps.map V.int)) ∧ H tb = some (.lst tvs) ∧ DpAll K H tvs (tl.map encL)
/-- the dict of the marks seen -/
def seenK (L : Int) (m : Nat) (ps : List Int) (n : Nat) : List (List Key × V) := (List.range n).map fun i => ([.inl (((i % m : Nat)) : Int), .inl (ps.getD i 0 % L)], V.int i)
theorem seen_some {L : Int} {m : Nat} {ps : List Int} {n : Nat} {a b : Int} {v : V} (h : valV (seenK L m ps n) [.inl a, .inl b] = some v) : ∃ i : Nat, i < n ∧ v = .int i ∧ (((i % m : Nat)) : Int) = a ∧ ps.getD i 0 % L = b := by
  unfold valV at h
  cases e : (seenK L m ps n).find? fun kv => decide (kv.1 = [.inl a, .inl b]) with
  | none => rw [e] at h; cases h
  | some p =>
    rw [e] at h
    have e1 := List.find?_some e
    obtain ⟨i, hi, rfl⟩ := List.mem_map.mp (List.mem_of_find?_eq_some e)
    have e2 := of_decide_eq_true e1
    injection e2 with e3 e4
    injection e4 with e5 _
    exact ⟨i, List.mem_range.mp hi, (Option.some.inj h).symm, Sum.inl.inj e3, Sum.inl.inj e5⟩
theorem seen_none {L : Int} {m : Nat} {ps : List Int} {n j : Nat} (h : valV (seenK L m ps n) [.inl ((j % m : Nat) : Int), .inl (ps.getD j 0 % L)] = none) : mark L m ps j ∉ marks L m ps n := by
  intro hm
  obtain ⟨i, hi, e⟩ := List.mem_map.mp hm
  unfold valV at h
  rw [Option.map_eq_none_iff] at h
  have h2 := List.find?_eq_none.mp h _ (List.mem_map.mpr ⟨i, hi, rfl⟩)
  refine h2 (decide_eq_true ?_)
  have e1 : i % m = j % m := congrArg Prod.fst e
  have e2 : ps.getD i 0 % L = ps.getD j 0 % L := congrArg Prod.snd e
  show [Sum.inl _, Sum.inl _] = _
  rw [e1, e2]
theorem putK_new {κ : Type} [DecidableEq κ] {kvs : List (κ × V)} {k : κ} {v : V} (h : valV kvs k = none) : putK kvs k v = kvs ++ [(k, v)] := by
  unfold putK
  have e : (kvs.any fun kv => decide (kv.1 = k)) = false := by rw [valV_any, h]; rfl
  rw [e, if_neg Bool.false_ne_true]
theorem seenK_len (L : Int) (m : Nat) (ps : List Int) (n : Nat) : (seenK L m ps n).length = n := by unfold seenK; simp
theorem seenK_next {L : Int} {m : Nat} {ps : List Int} {z : Int} {n : Nat} (h : n < ps.length) : seenK L m (ps ++ [z]) (n + 1) = seenK L m ps n ++ [([.inl ((n % m : Nat) : Int), .inl (ps.getD n 0 % L)], V.int n)] := by
  unfold seenK
  rw [List.range_succ, List.map_append]
  have e : ∀ i, i < ps.length → (ps ++ [z]).getD i 0 = ps.getD i 0 := fun i hi => by rw [List.getD_eq_getElem?_getD, List.getD_eq_getElem?_getD, List.getElem?_append_left hi]
  congr 1
  · refine List.map_congr_left fun i hi => ?_
    have := List.mem_range.mp hi
    rw [e i (by omega)]
  · show [([Sum.inl ((n % m : Nat) : Int), Sum.inl ((ps ++ [z]).getD n 0 % L)], V.int n)] = _
    rw [e n h]
def spFollow (Z : Ad) (K : PySem.W.Frag) : Sp := fun vs H Q _ => ∃ (w kp pl tb dx : Addr) (as : List Addr) (L x : Int) (sd : Str) (kn : List (List Lk)), vs = [.ref w, .int L, .ref kp, .str sd] ∧ H w = some (.ins Z.C_Walk dx (wf pl tb .non)) ∧ H pl = some (.lst [.int x]) ∧ H tb = some (.lst []) ∧
  H kp = some (.lst (refs as)) ∧ Lots K H as kn ∧ pl ≠ tb ∧ (∀ a ∈ kp :: as, a ≠ w ∧ a ≠ pl ∧ a ≠ tb) ∧ SideOk sd ∧ 0 < L ∧ L.natAbs < 2 ^ 200 ∧ x.natAbs < 2 ^ 390 ∧ 0 < kn.length ∧ kn.length ≤ 60 ∧ KnOk kn ∧
  ∀ H' ps tl st, WalkOk sd L kn x ps tl → EndOk L kn ps tl st → (marks L kn.length ps tl.length).Nodup → WalkAt Z K H' w pl tb ps tl st → (∀ b o, H b = some o → b ≠ w → b ≠ pl → b ≠ tb → H' b = some o) → Q .non H'
section
variable {P : Program} {w : World} {K : PySem.W.Frag} {mg : Str → Option Value} {base : Heap} {Z : Ad}
theorem ok_Walkfollow (T : Tx K w mg Z) : FnOk P w K mg base CX0 3 Z.a_Walkfollow Z.d_Walkfollow P_Walkfollow (spFollow Z K) := by
  refine T.F_Walkfollow.ok scWalkfollow (fun vs H Q E h => ?_) (fun cdv A outer s H vs Q E hr h => ?_)
  · obtain ⟨w, kp, pl, tb, dx, as, L, x, sd, kn, rfl, _⟩ := h
    rfl
  · obtain ⟨w, kp, pl, tb, dx, as, L, x, sd, kn, rfl, hw, hpl, htb, hkp, hlots, hpt, hne, hsd, hL, hLb, hx, hm0, hm1, hk, k⟩ := h
    refine ⟨_, (pss_cons (ps_set (i := 4) scWalkfollow.nd rfl (Or.inl rfl) pe_dnewT)
      (pss_one (ps_while PassesOwn.never (pt_val pe_bl) (pss_cons (ps_set (i := 5) scWalkfollow.nd rfl (Or.inl rfl) (pe_callB (lenK (K := K)) (by rfl) T.b_len (by decide +kernel) (pa_cons (fldK (K := K) (pv 0) rfl) pa_nil)))
      (pss_cons (ps_set (i := 6) scWalkfollow.nd rfl (Or.inl rfl) (pe_op op_mod (pv 5) (pe_callB (lenK (K := K)) (by rfl) T.b_len (by decide +kernel) (pa_cons (pv 2) pa_nil))))
      (pss_cons (ps_set (i := 7) scWalkfollow.nd rfl (Or.inl rfl) (pe_tup (pa_cons (pv 6) (pa_cons (pe_op op_mod (pe_ix (ixL (K := K)) (fldK (K := K) (pv 0) rfl) (pe_un un_neg pe_int) (fun _ _ => rfl)) (pv 1)) pa_nil))))
      (C8.pss_cut (ps_if (pt_cmp (pc_din (hu_of hr) (pv 7) (pv 4))) (pss_cons (ps_fld (pv 0) (pe_dget (hu_of hr) (pv 4) (pv 7) (fun _ _ => rfl)) rfl)
      (pss_one ps_retN)) pss_nil)
      (C8.pss_cut (ps_if (pt_not (pt_truth (pe_ix (ixL (K := K)) (pv 2) (pv 6) (fun _ _ => rfl)) (by intro _; rfl))) (pss_one ps_retN) pss_nil)
      (pss_cons (ps_dput (hu_of hr) (pv 4) (pv 7) (pv 5) rfl)
      (pss_cons (ps_asg (pe_call (ok_best_step T) (hr.mono (by decide)) (by rfl) T.g_best_step T.F_best_step.kp T.bb_best_step .nil pass0 (pa_cons (pe_ix (ixL (K := K)) (pv 2) (pv 6) (fun _ _ => rfl)) (pa_cons (pv 3) (pa_cons (pe_ix (ixL (K := K)) (fldK (K := K) (pv 0) rfl) (pe_un un_neg pe_int) (fun _ _ => rfl)) (pa_cons (pv 1) pa_nil))))) (tupK (K := K) (by rfl) (pgs_cons (pg_name (i := 8) scWalkfollow.nd rfl (Or.inl rfl)) (pgs_cons (pg_name (i := 9) scWalkfollow.nd rfl (Or.inl rfl)) pgs_nil))))
      (pss_cons (ps_expr (pe_bm PySem.F.plainAttrs_list PySem.F.slot_list_append PySem.F.type_list_append mt_append (fldK (K := K) (pv 0) rfl) (pa_cons (pv 8) pa_nil)))
      (pss_one (ps_expr (pe_bm PySem.F.plainAttrs_list PySem.F.slot_list_append PySem.F.type_list_append mt_append (fldK (K := K) (pv 0) rfl) (pa_cons (pv 9) pa_nil))))))))))))))), ?_⟩
    refine fun sa hsa => ?_
    have hwp : w ≠ pl := fun e => by rw [e, hpl] at hw; cases hw
    have hwt : w ≠ tb := fun e => by rw [e, htb] at hw; cases hw
    refine while_by (fun σ' H' => ∃ u5 u6 u7 u8 u9 ps tl tvs, σ' = [some (.ref w), some (.int L), some (.ref kp), some (.str sd), some (.ref sa), u5, u6, u7, u8, u9] ∧ WalkOk sd L kn x ps tl ∧ (marks L kn.length ps tl.length).Nodup ∧
      H' w = some (.ins Z.C_Walk dx (wf pl tb .non)) ∧ H' pl = some (.lst (ps.map V.int)) ∧ H' tb = some (.lst tvs) ∧ DpAll K H' tvs (tl.map encL) ∧ H' sa = some (.dT (seenK L kn.length ps tl.length)) ∧ ∀ b o, H b = some o → b ≠ w → b ≠ pl → b ≠ tb → H' b = some o)
      (fun _ H' => (cand L kn x).length - lenAt H' tb) ?_ ?_ ?_
    · refine ⟨none, none, none, none, none, [x], [], [], rfl, .new, List.nodup_nil, (upd_ne (ne_of_none hw hsa)).trans hw, (upd_ne (ne_of_none hpl hsa)).trans hpl, (upd_ne (ne_of_none htb hsa)).trans htb, .nil, upd_same, fun b o e _ _ _ => (upd_ne (ne_of_none e hsa)).trans e⟩
    · rintro σ1 H1 ⟨u5, u6, u7, u8, u9, ps, tl, tvs, rfl, W, hmk, gw, gpl, gtb, gtv, gsa, keep⟩
      have hwl := W.len
      have htl : tvs.length = tl.length := by rw [dpAll_len gtv, List.length_map]
      have hkw : kp ≠ w ∧ kp ≠ pl ∧ kp ≠ tb := hne kp List.mem_cons_self
      have gkp := keep _ _ hkp hkw.1 hkw.2.1 hkw.2.2
      have hal := hlots.1
      have hmI : (0 : Int) < ((refs as).length : Int) := by simp; omega
      obtain ⟨y, hy⟩ : ∃ y, ps[tl.length]? = some y := ⟨ps[tl.length], List.getElem?_eq_getElem (by omega)⟩
      have hlast : atI (ps.map V.int) (-1) = some (.int y) := by
        rw [atI_last (by rw [List.length_map]; omega : 0 < (ps.map V.int).length), List.length_map, show ps.length - 1 = tl.length by omega, List.getElem?_map, hy]; rfl
      refine ⟨_, rfl, iteT ?_⟩
      refine ⟨_, rfl, w, Z.C_Walk, dx, _, _, rfl, gw, T.cl_Walk, T.nWalk_told_by, wf_told _ _ _, tb, tvs, rfl, .inl (SqL.of gtb), ?_⟩
      refine ⟨_, rfl, _, rfl, kp, refs as, rfl, .inl (SqL.of gkp), _, _, rfl, rfl, hmI, ?_⟩
      refine ⟨_, rfl, _, rfl, w, Z.C_Walk, dx, _, _, rfl, gw, T.cl_Walk, T.nWalk_places, wf_places _ _ _, _, rfl, _, _, _, _, rfl, rfl, SqL.of gpl, hlast, _, rfl, _, _, rfl, rfl, hL, (by show 2 ≤ sizeLine; decide), fun q hq => ?_⟩
      have hn1 : ((tvs.length : Nat) : Int) % ((refs as).length : Int) = ((tl.length % kn.length : Nat) : Int) := by rw [htl]; simp [hal]
      have hy0 : ps.getD tl.length 0 = y := by rw [List.getD_eq_getElem?_getD, hy]; rfl
      dsimp only
      rw [hn1, htl]
      have Sq := same_upd (o := HO.tup [V.int ((tl.length % kn.length : Nat) : Int), .int (y % L)]) hq
      have fq : (upd H1 q (.tup [V.int ((tl.length % kn.length : Nat) : Int), .int (y % L)])) q = some (.tup (([.inl ((tl.length % kn.length : Nat) : Int), .inl (ps.getD tl.length 0 % L)] : List Key).map kV)) := by rw [hy0]; exact upd_same
      generalize upd H1 q (.tup [V.int ((tl.length % kn.length : Nat) : Int), .int (y % L)]) = H2 at Sq fq ⊢
      have keep2 : ∀ b o, H b = some o → b ≠ w → b ≠ pl → b ≠ tb → H2 b = some o := fun b o e n1 n2 n3 => Sq _ _ (keep b o e n1 n2 n3)
      have gtv2 := dpAll_mono Sq _ _ gtv
      have WA2 : ∀ st, H2 w = some (.ins Z.C_Walk dx (wf pl tb (stV st))) → WalkAt Z K H2 w pl tb ps tl st := fun st e => ⟨dx, tvs, e, Sq _ _ gpl, Sq _ _ gtb, gtv2⟩
      refine ⟨fun σ' H' => σ' = [some (.ref w), some (.int L), some (.ref kp), some (.str sd), some (.ref sa), some (.int tl.length), some (.int ((tl.length % kn.length : Nat) : Int)), some (.ref q), u8, u9] ∧ H' = H2 ∧ valV (seenK L kn.length ps tl.length) [.inl ((tl.length % kn.length : Nat) : Int), .inl (ps.getD tl.length 0 % L)] = none, ?_, ?_⟩
      · refine ⟨_, rfl, _, rfl, sa, _, rfl, DGet.t (Sq _ _ gsa) fq, _, rfl, ?_⟩
        cases c : valV (seenK L kn.length ps tl.length) [.inl ((tl.length % kn.length : Nat) : Int), .inl (ps.getD tl.length 0 % L)] with
        | none => exact iteF ⟨rfl, rfl, rfl⟩
        | some v =>
          refine iteT ?_
          obtain ⟨i, hi, rfl, hi1, hi2⟩ := seen_some c
          have g := DGet.t (Sq _ _ gsa) fq
          rw [c] at g
          refine ⟨_, rfl, _, rfl, sa, _, rfl, g, _, rfl, w, Z.C_Walk, dx, _, rfl, Sq _ _ gw, T.cl_Walk, T.nWalk_start, (by show 3 < 1000; decide), ?_⟩
          have hwl2 : i < ps.length := by omega
          have hup : Tups H2 (upd H2 w (.ins Z.C_Walk dx (putF "start" (.int i) (wf pl tb .non)))) := Tups.upd_ins (Sq _ _ gw)
          refine k _ ps tl (some i) W ⟨hi, by omega, ps.getD i 0, y, ?_, hy, by rw [hi2, hy0]⟩ hmk ⟨dx, tvs, ?_, (upd_ne (Ne.symm hwp)).trans (Sq _ _ gpl), (upd_ne (Ne.symm hwt)).trans (Sq _ _ gtb), dpAll_tups hup _ _ (noLs_map noL_encL tl) gtv2⟩ fun b o e n1 n2 n3 => (upd_ne n1).trans (keep2 b o e n1 n2 n3)
          · rw [List.getD_eq_getElem?_getD, List.getElem?_eq_getElem hwl2]; rfl
          · rw [upd_same, wf_put]; rfl
      · rintro σ2 H3 ⟨rfl, rfl, hnew⟩
        have hnum : tl.length % kn.length < kn.length := Nat.mod_lt _ hm0
        obtain ⟨a, ha⟩ : ∃ a, as[tl.length % kn.length]? = some a := ⟨as[tl.length % kn.length], List.getElem?_eq_getElem (by omega)⟩
        have gl2 : Lots K H3 as kn := hlots.to (fun b xs e => ?tups) fun a' ha' o e => keep2 _ _ e (hne a' (List.mem_cons_of_mem _ ha')).1 (hne a' (List.mem_cons_of_mem _ ha')).2.1 (hne a' (List.mem_cons_of_mem _ ha')).2.2
        case tups =>
          have hb1 : b ≠ w := fun q => by subst q; rcases e with e | ⟨_, e⟩ <;> rw [hw] at e <;> cases e
          have hb2 : b ≠ pl := fun q => by subst q; rcases e with e | ⟨_, e⟩ <;> rw [hpl] at e <;> cases e
          have hb3 : b ≠ tb := fun q => by subst q; rcases e with e | ⟨_, e⟩ <;> rw [htb] at e <;> cases e
          rcases e with e | ⟨z, e⟩
          · exact .inl (keep2 _ _ e hb1 hb2 hb3)
          · exact .inr ⟨z, keep2 _ _ e hb1 hb2 hb3⟩
        obtain ⟨ls, hls, hlk⟩ := gl2.get ha
        have hlsD : kn.getD (tl.length % kn.length) [] = ls := by rw [List.getD_eq_getElem?_getD, hls]; rfl
        have hix : atI (refs as) ((tl.length % kn.length : Nat) : Int) = some (.ref a) := by
          refine at_of (j := tl.length % kn.length) (by simp) ?_
          show (as.map V.ref)[_]? = _
          rw [List.getElem?_map, ha]; rfl
        obtain ⟨lvs, hl1, hl2⟩ := hlk
        have hlen2 : lvs.length = ls.length := by rw [dpAll_len hl2, List.length_map]
        have gkp3 := keep2 _ _ hkp hkw.1 hkw.2.1 hkw.2.2
        refine ⟨fun σ' H' => σ' = [some (.ref w), some (.int L), some (.ref kp), some (.str sd), some (.ref sa), some (.int tl.length), some (.int ((tl.length % kn.length : Nat) : Int)), some (.ref q), u8, u9] ∧ H' = H3 ∧ ls ≠ [], ?_, ?_⟩
        · refine ⟨_, rfl, _, rfl, _, _, _, _, rfl, rfl, SqL.of gkp3, hix, _, .inl ⟨lvs, SqL.of hl1, rfl⟩, ?_⟩
          cases hc : ls with
          | nil =>
            rw [hc] at hlen2
            have e : lvs = [] := List.eq_nil_of_length_eq_zero hlen2
            subst e
            refine iteT (k _ ps tl none W (hlsD.trans hc) hmk (WA2 none (Sq _ _ gw)) keep2)
          | cons l ls' =>
            rw [hc] at hlen2
            cases lvs with
            | nil => simp at hlen2
            | cons y' ys' => exact iteF ⟨rfl, rfl, by simp⟩
        · rintro σ3 H4 ⟨rfl, rfl, hnil⟩
          have hN : tl.length < 4000 := by
            have h1 := marks_le hm0 W (n := tl.length) (by omega) hmk
            have h2 := cand_len hk (L := L) x
            have h3 : kn.length * 60 ≤ 60 * 60 := Nat.mul_le_mul_right 60 hm1
            omega
          have hyb : y.natAbs < 2 ^ 400 := by
            have h1 := W.small hL hLb hk _ y hy
            have h2 : tl.length * 2 ^ 312 ≤ 2 ^ 390 := Nat.le_trans (Nat.mul_le_mul_right _ (Nat.le_of_lt hN)) (by decide)
            have h3 : (2 : Nat) ^ 390 + 2 ^ 390 ≤ 2 ^ 400 := by decide
            omega
          refine ⟨_, rfl, _, rfl, _, rfl, sa, _, rfl, DPut.t (Sq _ _ gsa) fq (by rw [seenK_len]; exact Nat.lt_trans hN (by decide)), ?_⟩
          rw [putK_new hnew]
          have gs4 := Sq _ _ gsa
          have nsa : ∀ b o, H4 b = some o → (∀ kvs, o ≠ .dT kvs) → b ≠ sa := fun b o e hno q => by
            subst q
            rw [e] at gs4
            exact hno _ (Option.some.inj gs4)
          have t5 : Tups H4 (upd H4 sa (.dT (seenK L kn.length ps tl.length ++ [([.inl ((tl.length % kn.length : Nat) : Int), .inl (ps.getD tl.length 0 % L)], V.int tl.length)]))) := fun b xs e => by
            have hb : b ≠ sa := by
              rintro rfl
              rcases e with e | ⟨_, e⟩ <;> rw [gs4] at e <;> cases e
            rcases e with e | ⟨z, e⟩
            · exact .inl ((upd_ne hb).trans e)
            · exact .inr ⟨z, (upd_ne hb).trans e⟩
          have up5 : ∀ b o, H4 b = some o → (∀ kvs, o ≠ .dT kvs) → (upd H4 sa (.dT (seenK L kn.length ps tl.length ++ [([.inl ((tl.length % kn.length : Nat) : Int), .inl (ps.getD tl.length 0 % L)], V.int tl.length)]))) b = some o := fun b o e hno => (upd_ne (nsa b o e hno)).trans e
          have gs5 : (upd H4 sa (.dT (seenK L kn.length ps tl.length ++ [([.inl ((tl.length % kn.length : Nat) : Int), .inl (ps.getD tl.length 0 % L)], V.int tl.length)]))) sa = some _ := upd_same
          have keep5 : ∀ b o, H b = some o → b ≠ w → b ≠ pl → b ≠ tb → (upd H4 sa (.dT (seenK L kn.length ps tl.length ++ [([.inl ((tl.length % kn.length : Nat) : Int), .inl (ps.getD tl.length 0 % L)], V.int tl.length)]))) b = some o := fun b o e n1 n2 n3 => (upd_ne (ne_of_none e hsa)).trans (keep2 b o e n1 n2 n3)
          generalize upd H4 sa (.dT (seenK L kn.length ps tl.length ++ [([.inl ((tl.length % kn.length : Nat) : Int), .inl (ps.getD tl.length 0 % L)], V.int tl.length)])) = H5 at t5 up5 gs5 keep5 ⊢
          have gw5 := up5 _ _ (Sq _ _ gw) (fun _ e => by cases e)
          have gpl5 := up5 _ _ (Sq _ _ gpl) (fun _ e => by cases e)
          have gtb5 := up5 _ _ (Sq _ _ gtb) (fun _ e => by cases e)
          have gtv5 := dpAll_tups t5 _ _ (noLs_map noL_encL tl) gtv2
          have gl5 := dpAll_tups t5 _ _ (noLs_map noL_encL ls) hl2
          have hkl := hk.get (tl.length % kn.length)
          rw [hlsD] at hkl
          refine ⟨_, rfl, _, rfl, _, _, _, _, rfl, rfl, SqL.of (keep5 _ _ hkp hkw.1 hkw.2.1 hkw.2.2), hix, _, rfl, _, rfl, w, Z.C_Walk, dx, _, _, rfl, gw5, T.cl_Walk, T.nWalk_places, wf_places _ _ _, _, rfl, _, _, _, _, rfl, rfl, SqL.of gpl5, hlast, _, rfl, ?_⟩
          refine ⟨_, ls, sd, y, L, rfl, .lst (SqL.of (up5 _ _ hl1 (fun _ e => by cases e))) gl5, hsd, fun l hl => ⟨(hkl.2 l hl).1, (hkl.2 l hl).2.up (by decide)⟩, Nat.le_trans hkl.1 (by decide), hL, hLb, hyb, fun e => absurd e hnil, fun H6 r l hl S6 hb hr => ?_⟩
          have hr' : Dp K H6 r (.tuple [.int (plc sd l y L), encL l]) := hr
          cases hr' with
          | tup sq da =>
            cases da with
            | cons a1 da =>
              cases a1
              cases da with
              | cons a2 da =>
              cases da
              have gw6 := S6 _ _ gw5
              have gpl6 := S6 _ _ gpl5
              have gtb6 := S6 _ _ gtb5
              have gs6 := S6 _ _ gs5
              have gtv6 := dpAll_mono S6 _ _ gtv5
              refine ⟨_, _, rfl, sq, rfl, _, _, rfl, _, _, rfl, rfl, ?_⟩
              refine ⟨_, rfl, w, Z.C_Walk, dx, _, _, rfl, gw6, T.cl_Walk, T.nWalk_places, wf_places _ _ _, .inl ⟨rfl, _, SqL.of gpl6⟩, _, rfl, pl, ps.map V.int, _, rfl, rfl, gpl6, ?_, ?_⟩
              · exact Nat.lt_of_le_of_lt (by rw [List.length_map]; omega : (ps.map V.int).length ≤ 4000) (by decide)
              have t7 : Tups H6 (upd H6 pl (.lst (ps.map V.int ++ [V.int (plc sd l y L)]))) := Tups.upd_lst gpl6
              have gw7 : (upd H6 pl (.lst (ps.map V.int ++ [V.int (plc sd l y L)]))) w = some (.ins Z.C_Walk dx (wf pl tb .non)) := (upd_ne hwp).trans gw6
              have gtb7 : (upd H6 pl (.lst (ps.map V.int ++ [V.int (plc sd l y L)]))) tb = some (.lst tvs) := (upd_ne (Ne.symm hpt)).trans gtb6
              have gtv7 := dpAll_tups t7 _ _ (noLs_map noL_encL tl) gtv6
              have ga7 := dp_tups t7 _ _ (noL_encL l) a2
              refine ⟨_, rfl, w, Z.C_Walk, dx, _, _, rfl, gw7, T.cl_Walk, T.nWalk_told_by, wf_told _ _ _, .inl ⟨rfl, _, SqL.of gtb7⟩, _, rfl, tb, tvs, _, rfl, rfl, gtb7, ?_, ?_⟩
              · exact Nat.lt_of_le_of_lt (by omega : tvs.length ≤ 4000) (by decide)
              have hps : sa ≠ pl := fun e => by rw [e, gpl6] at gs6; cases gs6
              have hts : sa ≠ tb := fun e => by rw [e, gtb6] at gs6; cases gs6
              have hmem : l ∈ kn.getD (tl.length % kn.length) [] := by rw [hlsD]; exact hl
              have hbest : IsBest sd (kn.getD (tl.length % kn.length) []) y L (plc sd l y L) := by rw [hlsD]; exact hb
              have W2 := W.snoc hy hmem rfl hbest
              have hnd : (marks L kn.length (ps ++ [plc sd l y L]) (tl ++ [l]).length).Nodup := by
                rw [List.length_append, List.length_singleton, marks_keep (by omega)]
                exact marks_nodup hmk (seen_none hnew)
              refine ⟨⟨_, _, _, _, _, ps ++ [plc sd l y L], tl ++ [l], _, rfl, W2, hnd, (upd_ne hwt).trans gw7, ?_, upd_same, ?_, ?_, fun b o e n1 n2 n3 => (upd_ne n3).trans ((upd_ne n2).trans (S6 _ _ (keep5 b o e n1 n2 n3)))⟩, ?_⟩
              · rw [upd_ne hpt, upd_same, List.map_append]; rfl
              · rw [List.map_append]
                exact acc_step gtb7 (noLs_map noL_encL _) rfl gtv7 ga7
              · rw [upd_ne hts, upd_ne hps, gs6, List.length_append, List.length_singleton, seenK_next (by omega)]
              · have h1 := marks_le hm0 W2 (n := (tl ++ [l]).length) (by simp; omega) hnd
                rw [lenAt_of upd_same, lenAt_of gtb]
                simp at h1 ⊢
                omega
    · rintro σ1 H1 Q1 Q2 hQ ⟨b, eb, hc⟩
      exact ⟨b, eb, hQ _ _ hc⟩
end
end KA
namespace KA
open PySem PySem.Spec PyProof.Rows L2 DP
/-- for k, x in enumerate(xs) -/
theorem for_enum {K : PySem.W.Frag} {a : Addr} {xs : List V} {g : TG} {tb : TS} {D : Ends} {σ : L2.St} {H : Hp} (Pv : Nat → L2.St → Hp → Prop) (h0 : Pv 0 σ H) (hl : ∀ i σ H, i ≤ xs.length → Pv i σ H → SqL K H a xs)
    (hs : ∀ i x T σ H, xs[i]? = some x → Pv i σ H → H T = none → g (.ref T) σ (upd H T (.tup [.int (i : Nat), x])) fun σ2 H2 => tb { D with nx := Pv (i + 1), ct := Pv (i + 1), bk := D.nx } σ2 H2) (hd : ∀ σ H, Pv xs.length σ H → D.nx σ H) :
    ∃ W : Nat → Nat → L2.St → Hp → Prop, (∃ m, W 0 m σ H) ∧ ∀ i m σ H, W i m σ H →
      ((Ite K a).stop i H ∧ D.nx σ H) ∨ ((Ite K a).go i H ∧ ∃ N : L2.St → Hp → Prop, (∀ σ' H', N σ' H' → ∃ m', m' < m ∧ W (i + 1) m' σ' H') ∧ ∀ x H', (Ite K a).yld i H x H' → g x σ H' fun σ2 H2 => tb { D with nx := N, ct := N, bk := D.nx } σ2 H2) := by
  refine ⟨fun i m σ H => m = xs.length - i ∧ i ≤ xs.length ∧ Pv i σ H, ⟨xs.length, by simp, Nat.zero_le _, h0⟩, ?_⟩
  rintro i m σ H ⟨rfl, hi, p⟩
  have q := hl i σ H hi p
  by_cases hlt : i < xs.length
  · refine .inr ⟨⟨xs, xs[i], q, by simp [hlt]⟩, Pv (i + 1), fun σ' H' p' => ⟨xs.length - (i + 1), by omega, rfl, hlt, p'⟩, fun v H' y => ?_⟩
    obtain ⟨T, x, rfl, hT, rfl, f⟩ := y
    exact hs i x T σ H (f xs q) p hT
  · have e : i = xs.length := by omega
    subst e
    exact .inl ⟨⟨xs, q, Nat.le_refl _⟩, hd σ H p⟩
/-- the sides' looks of hands are such as the walk asks -/
theorem knOk {Z : Ad} {K : PySem.W.Frag} {H : Hp} {ds : List Addr} {L : Int} {hs : List (List Lk)} (D : Darks Z K H ds L hs) (sd : Str) : KnOk (hs.map (sideOf sd)) := by
  intro ls hm
  obtain ⟨l0, hl0, rfl⟩ := List.mem_map.mp hm
  obtain ⟨i, hi, e⟩ := List.getElem_of_mem hl0
  have hl := D.1
  have DD := D.2 i ds[i] l0 (List.getElem?_eq_getElem (by omega)) (by rw [List.getElem?_eq_getElem hi, e])
  refine ⟨Nat.le_trans (List.length_filter_le _ _) DD.len, fun l hl => ?_⟩
  have h1 := DD.ok l (List.mem_filter.mp hl).1
  exact ⟨h1.1, h1.2.up (by decide)⟩
/-- an answer of a walk -/
def oV : Option Int → V
  | none => .non
  | some i => .int i
def spLen (Z : Ad) (K : PySem.W.Frag) : Sp := fun vs H Q _ => ∃ (d : Addr) (L : Int) (ls : List Lk), vs = [.ref d] ∧ DarkAt Z K H d L ls ∧ Q (.int L) H
def spWalk (Z : Ad) (K : PySem.W.Frag) : Sp := fun vs H Q _ => ∃ (w hp dx : Addr) (ds : List Addr) (sd : Str) (L x : Int) (hs : List (List Lk)), vs = [.ref w, .ref hp, .str sd, .int x] ∧ H w = some (.ins Z.C_Walk dx []) ∧ SqL K H hp (refs ds) ∧ Darks Z K H ds L hs ∧ 0 < ds.length ∧ ds.length ≤ 60 ∧ SideOk sd ∧ x.natAbs < 2 ^ 390 ∧ (∀ d ∈ ds, d ≠ w) ∧
  ∀ H' pl tb ps tl st, WalkOk sd L (hs.map (sideOf sd)) x ps tl → EndOk L (hs.map (sideOf sd)) ps tl st → (marks L (hs.map (sideOf sd)).length ps tl.length).Nodup → WalkAt Z K H' w pl tb ps tl st → Out w H H' → Q .non H'
def spPeriod (Z : Ad) (K : PySem.W.Frag) : Sp := fun vs H Q _ => ∃ (w pl tb : Addr) (ps : List Int) (tl : List Lk) (s : Nat), vs = [.ref w] ∧ WalkAt Z K H w pl tb ps tl (some s) ∧ Q (.int ((tl.length : Int) - s)) H
def spClimb (Z : Ad) (K : PySem.W.Frag) : Sp := fun vs H Q _ => ∃ (w pl tb : Addr) (ps : List Int) (tl : List Lk) (s : Nat), vs = [.ref w] ∧ WalkAt Z K H w pl tb ps tl (some s) ∧ ps.length = tl.length + 1 ∧ s < tl.length ∧ Q (.int (ps.getD tl.length 0 - ps.getD s 0)) H
def spBehind (Z : Ad) (K : PySem.W.Frag) : Sp := fun vs H Q _ => ∃ (w pl tb : Addr) (sd : Str) (L x n : Int) (kn : List (List Lk)) (ps : List Int) (tl : List Lk) (st : Option Nat), vs = [.ref w, .int n] ∧ WalkAt Z K H w pl tb ps tl st ∧ WalkOk sd L kn x ps tl ∧ EndOk L kn ps tl st ∧ SideOk sd ∧ 0 < L ∧ L.natAbs < 2 ^ 200 ∧ KnOk kn ∧ x.natAbs < 2 ^ 390 ∧ tl.length < 4000 ∧ 0 ≤ n ∧ n.natAbs < 2 ^ 300 ∧
  ∀ H', Same H H' → Q (oV (it sd L kn x n.toNat)) H'
def spCheck (Z : Ad) (K : PySem.W.Frag) : Sp := fun vs H Q _ => ∃ (hp : Addr) (ds : List Addr) (L : Int) (hs : List (List Lk)), vs = [.ref hp] ∧ SqL K H hp (refs ds) ∧ Darks Z K H ds L hs ∧ 0 < ds.length ∧ ∀ H', Same H H' → Q .non H'
def spPlaceB (Z : Ad) (K : PySem.W.Frag) : Sp := fun vs H Q _ => ∃ (hp : Addr) (ds : List Addr) (sd : Str) (L x n : Int) (hs : List (List Lk)), vs = [.ref hp, .str sd, .int x, .int n] ∧ SqL K H hp (refs ds) ∧ Darks Z K H ds L hs ∧ 0 < ds.length ∧ ds.length ≤ 60 ∧ SideOk sd ∧ x.natAbs < 2 ^ 390 ∧ 0 ≤ n ∧ n.natAbs < 2 ^ 300 ∧
  ∀ H', Same H H' → Q (oV (it sd L (hs.map (sideOf sd)) x n.toNat)) H'
def spOneB (Z : Ad) (K : PySem.W.Frag) (sd : Str) : Sp := fun vs H Q _ => ∃ (hp : Addr) (ds : List Addr) (L x n : Int) (hs : List (List Lk)), vs = [.ref hp, .int x, .int n] ∧ SqL K H hp (refs ds) ∧ Darks Z K H ds L hs ∧ 0 < ds.length ∧ ds.length ≤ 60 ∧ x.natAbs < 2 ^ 390 ∧ 0 ≤ n ∧ n.natAbs < 2 ^ 300 ∧
  ∀ H', Same H H' → Q (oV (it sd L (hs.map (sideOf sd)) x n.toNat)) H'
theorem wf_new (pl tb : Addr) : putF "start" .non (putF "told_by" (.ref tb) (putF "places" (.ref pl) [])) = wf pl tb .non := by
  have e1 : ¬ (("places" : Str) = "told_by") := by decide +kernel
  have e2 : ¬ (("places" : Str) = "start") := by decide +kernel
  have e3 : ¬ (("told_by" : Str) = "start") := by decide +kernel
  show putF "start" .non (if ("places" : Str) = "told_by" then _ else (("places" : Str), V.ref pl) :: putF "told_by" (.ref tb) []) = _
  rw [if_neg e1]
  show (if ("places" : Str) = "start" then _ else (("places" : Str), V.ref pl) :: putF "start" .non (putF "told_by" (.ref tb) [])) = _
  rw [if_neg e2]
  show (("places" : Str), V.ref pl) :: (if ("told_by" : Str) = "start" then _ else (("told_by" : Str), V.ref tb) :: putF "start" .non []) = _
  rw [if_neg e3]; rfl
section
variable {P : Program} {w : World} {K : PySem.W.Frag} {mg : Str → Option Value} {base : Heap} {Z : Ad}
theorem ok_Dark_length (T : Tx K w mg Z) : FnOk P w K mg base CX0 1 Z.a_Dark_length Z.d_Dark_length P_Dark_length (spLen Z K) := by
  refine T.F_Dark_length.ok scDark_length (fun vs H Q E h => ?_) (fun cdv A outer s H vs Q E hr h => ?_)
  · obtain ⟨d, L, ls, rfl, _⟩ := h
    rfl
  · obtain ⟨d, L, ls, rfl, D, k⟩ := h
    obtain ⟨dx, la, xs, h1, h2, h3⟩ := id D.ex
    refine ⟨_, (pss_one (ps_ret (fldK (K := K) (pv 0) rfl))), ?_⟩
    exact ⟨_, rfl, d, Z.C, dx, _, _, rfl, h1, T.cl, T.n_length, df_length _ _, k⟩
theorem ok_Walk_init (T : Tx K w mg Z) : FnOk P w K mg base CX0 4 Z.a_Walk_init Z.d_Walk_init P_Walk_init (spWalk Z K) := by
  refine T.F_Walk_init.ok scWalk_init (fun vs H Q E h => ?_) (fun cdv A outer s H vs Q E hr h => ?_)
  · obtain ⟨w, hp, dx, ds, sd, L, x, hs, rfl, _⟩ := h
    rfl
  · obtain ⟨w, hp, dx, ds, sd, L, x, hs, rfl, hw, hh, hD, hd0, hd1, hsd, hx, hdw, k⟩ := h
    refine ⟨_, (pss_cons (ps_fld (pv 0) (pe_lst (pa_cons (pv 3) pa_nil)) rfl)
      (pss_cons (ps_fld (pv 0) (pe_lst pa_nil) rfl)
      (pss_cons (ps_fld (pv 0) pe_non rfl)
      (pss_one (ps_expr (pe_meth (pv 0) T.cl_Walk T.m_Walkfollow (ok_Walkfollow T) (hr.mono (by decide)) T.bb_Walkfollow .nil pass0 (pa_cons (pe_meth0 (pe_ix (ixL (K := K)) (pv 1) pe_int (fun _ _ => rfl)) T.cl T.m_Dark_length (ok_Dark_length T) (hr.mono (by decide)) T.bb_Dark_length .nil pass0) (pa_cons (pe_call (ok_round_looks T) (hr.mono (by decide)) (by rfl) T.g_round_looks T.F_round_looks.kp T.bb_round_looks .nil pass0 (pa_cons (pv 1) (pa_cons (pv 2) pa_nil))) (pa_cons (pv 2) pa_nil))))))))), ?_⟩
    refine ⟨_, rfl, (by show 1 ≤ sizeLine; decide), fun pl hpl => ?_⟩
    have hwp : w ≠ pl := ne_of_none hw hpl
    refine ⟨_, rfl, w, Z.C_Walk, dx, [], rfl, (upd_ne hwp).trans hw, T.cl_Walk, T.nWalk_places, (by show 0 < 1000; decide), ?_⟩
    refine ⟨(by show 0 ≤ sizeLine; decide), fun tb htb => ?_⟩
    have g1 : (upd (upd H pl (.lst [V.int x])) w (.ins Z.C_Walk dx (putF "places" (.ref pl) []))) w = some (.ins Z.C_Walk dx (putF "places" (.ref pl) [])) := upd_same
    have g1p : (upd (upd H pl (.lst [V.int x])) w (.ins Z.C_Walk dx (putF "places" (.ref pl) []))) pl = some (.lst [V.int x]) := (upd_ne (Ne.symm hwp)).trans upd_same
    have k1 : ∀ b o, H b = some o → b ≠ w → (upd (upd H pl (.lst [V.int x])) w (.ins Z.C_Walk dx (putF "places" (.ref pl) []))) b = some o := fun b o e n => (upd_ne n).trans ((upd_ne (ne_of_none e hpl)).trans e)
    generalize upd (upd H pl (.lst [V.int x])) w (.ins Z.C_Walk dx (putF "places" (.ref pl) [])) = H1 at htb g1 g1p k1 ⊢
    have hwt : w ≠ tb := ne_of_none g1 htb
    have hpt : pl ≠ tb := ne_of_none g1p htb
    refine ⟨_, rfl, w, Z.C_Walk, dx, _, rfl, (upd_ne hwt).trans g1, T.cl_Walk, T.nWalk_told_by, (by show 1 < 1000; decide), ?_⟩
    have g2 : (upd (upd H1 tb (.lst [])) w (.ins Z.C_Walk dx (putF "told_by" (.ref tb) (putF "places" (.ref pl) [])))) w = some (.ins Z.C_Walk dx (putF "told_by" (.ref tb) (putF "places" (.ref pl) []))) := upd_same
    have g2p : (upd (upd H1 tb (.lst [])) w (.ins Z.C_Walk dx (putF "told_by" (.ref tb) (putF "places" (.ref pl) [])))) pl = some (.lst [V.int x]) := (upd_ne (Ne.symm hwp)).trans ((upd_ne hpt).trans g1p)
    have g2t : (upd (upd H1 tb (.lst [])) w (.ins Z.C_Walk dx (putF "told_by" (.ref tb) (putF "places" (.ref pl) [])))) tb = some (.lst []) := (upd_ne (Ne.symm hwt)).trans upd_same
    have k2 : ∀ b o, H b = some o → b ≠ w → (upd (upd H1 tb (.lst [])) w (.ins Z.C_Walk dx (putF "told_by" (.ref tb) (putF "places" (.ref pl) [])))) b = some o := fun b o e n => (upd_ne n).trans ((upd_ne (ne_of_none (k1 b o e n) htb)).trans (k1 b o e n))
    generalize upd (upd H1 tb (.lst [])) w (.ins Z.C_Walk dx (putF "told_by" (.ref tb) (putF "places" (.ref pl) []))) = H2 at g2 g2p g2t k2 ⊢
    refine ⟨_, rfl, w, Z.C_Walk, dx, _, rfl, g2, T.cl_Walk, T.nWalk_start, (by show 2 < 1000; decide), ?_⟩
    rw [wf_new]
    have g3 : (upd H2 w (.ins Z.C_Walk dx (wf pl tb .non))) w = some (.ins Z.C_Walk dx (wf pl tb .non)) := upd_same
    have g3p : (upd H2 w (.ins Z.C_Walk dx (wf pl tb .non))) pl = some (.lst [V.int x]) := (upd_ne (Ne.symm hwp)).trans g2p
    have g3t : (upd H2 w (.ins Z.C_Walk dx (wf pl tb .non))) tb = some (.lst []) := (upd_ne (Ne.symm hwt)).trans g2t
    have k3 : Out w H (upd H2 w (.ins Z.C_Walk dx (wf pl tb .non))) := fun b o e n => (upd_ne n).trans (k2 b o e n)
    generalize upd H2 w (.ins Z.C_Walk dx (wf pl tb .non)) = H3 at g3 g3p g3t k3 ⊢
    have hh3 := k3.sqL hw hh
    have hD3 : Darks Z K H3 ds L hs := ⟨hD.1, fun i d ls e1 e2 => k3.dark (hD.2 i d ls e1 e2) hw (hdw d (List.mem_of_getElem? e1))⟩
    obtain ⟨d0, hd00⟩ : ∃ d0, ds[0]? = some d0 := ⟨ds[0], List.getElem?_eq_getElem hd0⟩
    obtain ⟨ls0, hls0, D0⟩ := hD3.get hd00
    have hix : atI (refs ds) 0 = some (.ref d0) := by
      refine at_of (j := 0) rfl ?_
      show (ds.map V.ref)[0]? = _
      rw [List.getElem?_map, hd00]; rfl
    obtain ⟨dx0, la0, vs0, e1, e2, e3⟩ := id D0.ex
    refine ⟨_, rfl, w, dx, _, rfl, g3, wf_no _ _ _ (by decide +kernel) (by decide +kernel) (by decide +kernel), ?_⟩
    refine ⟨_, rfl, _, _, _, _, rfl, rfl, hh3, hix, d0, dx0, _, rfl, e1, df_no _ _ (by decide +kernel) (by decide +kernel), d0, L, ls0, rfl, D0, ?_⟩
    refine ⟨_, rfl, _, rfl, hp, ds, sd, L, hs, rfl, hh3, hD3, hsd, Nat.le_trans hd1 (by decide), fun H4 p as hp4 hfr S4 gp4 gl4 => ?_⟩
    have hn : ∀ a ∈ p :: as, a ≠ w ∧ a ≠ pl ∧ a ≠ tb := fun a ha => by
      have : H3 a = none := by
        rcases List.mem_cons.mp ha with e | e
        · subst e; exact hp4
        · exact (hfr a e).1
      exact ⟨fun e => (by rw [e, g3] at this; cases this), fun e => (by rw [e, g3p] at this; cases this), fun e => (by rw [e, g3t] at this; cases this)⟩
    have hlen := hD.1
    refine ⟨_, rfl, w, p, pl, tb, dx, as, L, x, sd, hs.map (sideOf sd), rfl, S4 _ _ g3, S4 _ _ g3p, S4 _ _ g3t, gp4, gl4, hpt, hn, hsd, D0.pos, D0.big, hx, by rw [List.length_map]; omega, by rw [List.length_map]; omega, knOk hD sd, fun H5 ps tl st W E hm WA k5 => ?_⟩
    refine k H5 pl tb ps tl st W E hm WA fun b o e n => k5 b o (S4 _ _ (k3 b o e n)) n ?_ ?_
    · intro e'; subst e'; rw [hpl] at e; cases e
    · intro e'; subst e'; exact absurd e (by
        intro e
        rw [k1 _ _ e n] at htb; cases htb)
theorem ok_Walk_period (T : Tx K w mg Z) : FnOk P w K mg base CX0 1 Z.a_Walk_period Z.d_Walk_period P_Walk_period (spPeriod Z K) := by
  refine T.F_Walk_period.ok scWalk_period (fun vs H Q E h => ?_) (fun cdv A outer s H vs Q E hr h => ?_)
  · obtain ⟨w, pl, tb, ps, tl, s, rfl, _⟩ := h
    rfl
  · obtain ⟨w, pl, tb, ps, tl, s, rfl, ⟨dx, tvs, h1, h2, h3, h4⟩, k⟩ := h
    have hl : tvs.length = tl.length := by rw [dpAll_len h4, List.length_map]
    rw [← hl] at k
    refine ⟨_, (pss_one (ps_ret (pe_op op_sub (pe_callB (lenK (K := K)) (by rfl) T.b_len (by decide +kernel) (pa_cons (fldK (K := K) (pv 0) rfl) pa_nil)) (fldK (K := K) (pv 0) rfl)))), ?_⟩
    exact ⟨_, rfl, w, Z.C_Walk, dx, _, _, rfl, h1, T.cl_Walk, T.nWalk_told_by, wf_told _ _ _, tb, tvs, rfl, .inl (SqL.of h3), _, rfl, w, Z.C_Walk, dx, _, _, rfl, h1, T.cl_Walk, T.nWalk_start, wf_start _ _ _, _, _, rfl, rfl, k⟩
theorem ok_Walk_climb (T : Tx K w mg Z) : FnOk P w K mg base CX0 1 Z.a_Walk_climb Z.d_Walk_climb P_Walk_climb (spClimb Z K) := by
  refine T.F_Walk_climb.ok scWalk_climb (fun vs H Q E h => ?_) (fun cdv A outer s H vs Q E hr h => ?_)
  · obtain ⟨w, pl, tb, ps, tl, s, rfl, _⟩ := h
    rfl
  · obtain ⟨w, pl, tb, ps, tl, s, rfl, ⟨dx, tvs, h1, h2, h3, h4⟩, hl, hs, k⟩ := h
    have q1 : atI (ps.map V.int) (-1) = some (.int (ps.getD tl.length 0)) := by
      rw [atI_last (by rw [List.length_map]; omega : 0 < (ps.map V.int).length), List.length_map, show ps.length - 1 = tl.length by omega, List.getElem?_map, List.getD_eq_getElem?_getD, List.getElem?_eq_getElem (by omega)]; rfl
    have q2 : atI (ps.map V.int) (s : Int) = some (.int (ps.getD s 0)) := by
      refine at_of (j := s) (by simp) ?_
      rw [List.getElem?_map, List.getD_eq_getElem?_getD, List.getElem?_eq_getElem (by omega)]; rfl
    refine ⟨_, (pss_one (ps_ret (pe_op op_sub (pe_ix (ixL (K := K)) (fldK (K := K) (pv 0) rfl) (pe_un un_neg pe_int) (fun _ _ => rfl)) (pe_ix (ixL (K := K)) (fldK (K := K) (pv 0) rfl) (fldK (K := K) (pv 0) rfl) (fun _ _ => rfl))))), ?_⟩
    exact ⟨_, rfl, w, Z.C_Walk, dx, _, _, rfl, h1, T.cl_Walk, T.nWalk_places, wf_places _ _ _, _, rfl, _, _, _, _, rfl, rfl, SqL.of h2, q1, _, rfl, w, Z.C_Walk, dx, _, _, rfl, h1, T.cl_Walk, T.nWalk_places, wf_places _ _ _, _, rfl, w, Z.C_Walk, dx, _, _, rfl, h1, T.cl_Walk, T.nWalk_start, wf_start _ _ _, _, _, _, _, rfl, rfl, SqL.of h2, q2, _, _, rfl, rfl, k⟩
theorem getI (ps : List Int) {i : Nat} {j : Int} (h : i < ps.length) (e : j = (i : Int)) : atI (ps.map V.int) j = some (.int (ps.getD i 0)) := by
  refine at_of (j := i) e ?_
  rw [List.getElem?_map, List.getD_eq_getElem?_getD, List.getElem?_eq_getElem h]; rfl
theorem ok_Walk_behind (T : Tx K w mg Z) : FnOk P w K mg base CX0 2 Z.a_Walk_behind Z.d_Walk_behind P_Walk_behind (spBehind Z K) := by
  refine T.F_Walk_behind.ok scWalk_behind (fun vs H Q E h => ?_) (fun cdv A outer s H vs Q E hr h => ?_)
  · obtain ⟨w, pl, tb, sd, L, x, n, kn, ps, tl, st, rfl, _⟩ := h
    rfl
  · obtain ⟨w, pl, tb, sd, L, x, n, kn, ps, tl, st, rfl, WA, W, E0', hsd, hL, hLb, hkn, hx, hN, hn0, hnb, k⟩ := h
    obtain ⟨dx, tvs, h1, h2, h3, h4⟩ := id WA.ex
    have hwl := W.len
    refine ⟨_, (C8.pss_cut (ps_if (pt_cmpR op_lt (pv 1) (pe_callB (lenK (K := K)) (by rfl) T.b_len (by decide +kernel) (pa_cons (fldK (K := K) (pv 0) rfl) pa_nil)) (nomark _)) (pss_one (ps_ret (pe_ix (ixL (K := K)) (fldK (K := K) (pv 0) rfl) (pv 1) (fun _ _ => rfl)))) pss_nil)
      (C8.pss_cut (ps_if (pt_cmpR op_isN (fldK (K := K) (pv 0) rfl) pe_non (nomark _)) (pss_one (ps_ret pe_non)) pss_nil)
      (pss_cons (ps_asg (pe_callB call_divmodW (by rfl) T.b_divmod (by decide +kernel) (pa_cons (pe_op op_sub (pv 1) (fldK (K := K) (pv 0) rfl)) (pa_cons (pe_meth0 (pv 0) T.cl_Walk T.m_Walk_period (ok_Walk_period T) (hr.mono (by decide)) T.bb_Walk_period .nil pass0) pa_nil))) (tupK (K := K) (by rfl) (pgs_cons (pg_name (i := 2) scWalk_behind.nd rfl (Or.inl rfl)) (pgs_cons (pg_name (i := 3) scWalk_behind.nd rfl (Or.inl rfl)) pgs_nil))))
      (pss_one (ps_ret (pe_op op_add (pe_ix (ixL (K := K)) (fldK (K := K) (pv 0) rfl) (pe_op op_add (fldK (K := K) (pv 0) rfl) (pv 3)) (fun _ _ => rfl)) (pe_op op_mulW (pv 2) (pe_meth0 (pv 0) T.cl_Walk T.m_Walk_climb (ok_Walk_climb T) (hr.mono (by decide)) T.bb_Walk_climb .nil pass0)))))))), ?_⟩
    refine ⟨fun σ' H' => σ' = [some (.ref w), some (.int n), none, none] ∧ H' = H ∧ ps.length ≤ n.toNat, ?_, ?_⟩
    · refine ⟨_, rfl, _, rfl, w, Z.C_Walk, dx, _, _, rfl, h1, T.cl_Walk, T.nWalk_places, wf_places _ _ _, pl, ps.map V.int, rfl, .inl (SqL.of h2), _, _, rfl, rfl, _, rfl, ite2 (fun c => ?_) (fun c => ⟨rfl, rfl, ?_⟩)⟩
      · have hlt : n.toNat < ps.length := by
          have c' := of_decide_eq_true c
          rw [List.length_map] at c'; omega
        refine ⟨_, rfl, w, Z.C_Walk, dx, _, _, rfl, h1, T.cl_Walk, T.nWalk_places, wf_places _ _ _, _, rfl, _, _, _, _, rfl, rfl, SqL.of h2, getI ps hlt (by omega), ?_⟩
        have kk := k H (fun _ _ e => e)
        rw [behind_in W hlt] at kk
        exact kk
      · have c' : ¬ (n < ((ps.map V.int).length : Int)) := fun h => c (decide_eq_true h)
        rw [List.length_map] at c'; omega
    · rintro σ1 H1 ⟨rfl, rfl, hge⟩
      cases st with
      | none =>
        refine ⟨fun _ _ => False, ?_, fun _ _ z => z.elim⟩
        refine ⟨_, rfl, w, Z.C_Walk, dx, _, _, rfl, h1, T.cl_Walk, T.nWalk_start, wf_start _ _ _, rfl, _, rfl, iteT ?_⟩
        have kk := k H1 (fun _ _ e => e)
        rw [behind_none W E0' hge] at kk
        exact kk
      | some s =>
        refine ⟨fun σ' H' => σ' = [some (.ref w), some (.int n), none, none] ∧ H' = H1, ?_, ?_⟩
        · exact ⟨_, rfl, w, Z.C_Walk, dx, _, _, rfl, h1, T.cl_Walk, T.nWalk_start, wf_start _ _ _, rfl, _, rfl, iteF ⟨rfl, rfl⟩⟩
        · rintro σ2 H2 ⟨rfl, rfl⟩
          obtain ⟨hs1, hs2, a, b, ha, hb, hab⟩ := id E0'
          have hp0 : (0 : Int) < (tl.length : Int) - s := by omega
          refine ⟨_, rfl, _, rfl, w, Z.C_Walk, dx, _, _, rfl, h1, T.cl_Walk, T.nWalk_start, wf_start _ _ _, _, _, rfl, rfl, _, rfl, w, dx, _, rfl, h1, wf_no _ _ _ (by decide +kernel) (by decide +kernel) (by decide +kernel), w, pl, tb, ps, tl, s, rfl, WA, ?_⟩
          refine ⟨_, _, rfl, ⟨hp0, PyProof.noPylong_small (by omega)⟩, fun q hq => ?_⟩
          have S2 := same_upd (o := HO.tup [V.int ((n - s) / ((tl.length : Int) - s)), .int ((n - s) % ((tl.length : Int) - s))]) hq
          have hr0 := Int.emod_nonneg (n - s) (show (tl.length : Int) - s ≠ 0 by omega)
          have hr1 := Int.emod_lt_of_pos (n - s) hp0
          have ht0 : 0 ≤ (n - s) / ((tl.length : Int) - s) := Int.ediv_nonneg (by omega) (by omega)
          have hqr := Int.mul_ediv_add_emod (n - s) ((tl.length : Int) - s)
          have htb : ((n - s) / ((tl.length : Int) - s)).natAbs < 2 ^ 302 := div_lt hp0 (sub_lt hnb (Nat.lt_of_lt_of_le (by omega : (s : Int).natAbs < 4000) (by decide)))
          have WA2 : WalkAt Z K (upd H2 q (.tup [V.int ((n - s) / ((tl.length : Int) - s)), .int ((n - s) % ((tl.length : Int) - s))])) w pl tb ps tl (some s) := ⟨dx, tvs, S2 _ _ h1, S2 _ _ h2, S2 _ _ h3, dpAll_mono S2 _ _ h4⟩
          have hsq : SqT K (upd H2 q (.tup [V.int ((n - s) / ((tl.length : Int) - s)), .int ((n - s) % ((tl.length : Int) - s))])) q [V.int ((n - s) / ((tl.length : Int) - s)), .int ((n - s) % ((tl.length : Int) - s))] := SqT.of upd_same
          generalize upd H2 q (.tup [V.int ((n - s) / ((tl.length : Int) - s)), .int ((n - s) % ((tl.length : Int) - s))]) = H3 at S2 WA2 hsq ⊢
          generalize (n - s) / ((tl.length : Int) - s) = t at ht0 htb hqr hsq ⊢
          generalize (n - s) % ((tl.length : Int) - s) = r at hr0 hr1 hqr hsq ⊢
          have hsr : s + r.toNat < ps.length := by omega
          refine ⟨_, _, rfl, hsq, rfl, _, _, rfl, _, _, rfl, rfl, ?_⟩
          refine ⟨_, rfl, w, Z.C_Walk, dx, _, _, rfl, S2 _ _ h1, T.cl_Walk, T.nWalk_places, wf_places _ _ _, _, rfl, w, Z.C_Walk, dx, _, _, rfl, S2 _ _ h1, T.cl_Walk, T.nWalk_start, wf_start _ _ _, _, rfl, _, _, rfl, rfl, _, _, _, _, rfl, rfl, SqL.of (S2 _ _ h2), getI ps hsr (by omega), ?_⟩
          have hsm : ∀ i, i < ps.length → (ps.getD i 0).natAbs < 2 ^ 391 := fun i hi => by
            have q1 := W.small hL hLb hkn i (ps.getD i 0) (by rw [List.getD_eq_getElem?_getD, List.getElem?_eq_getElem hi]; rfl)
            have q2 : i * 2 ^ 312 ≤ 2 ^ 390 := Nat.le_trans (Nat.mul_le_mul_right _ (by omega : i ≤ 4000)) (by decide)
            have q3 : (2 : Nat) ^ 391 = 2 ^ 390 + 2 ^ 390 := by rw [Nat.pow_succ, Nat.mul_two]
            omega
          have hcl : (ps.getD tl.length 0 - ps.getD s 0).natAbs < 2 ^ 392 := sub_lt (hsm _ (by omega)) (hsm _ (by omega))
          refine ⟨_, rfl, _, rfl, w, dx, _, rfl, S2 _ _ h1, wf_no _ _ _ (by decide +kernel) (by decide +kernel) (by decide +kernel), w, pl, tb, ps, tl, s, rfl, WA2, hwl, hs1, _, _, rfl, rfl, wide_mul htb hcl (by decide) (by decide) (by decide), _, _, rfl, rfl, ?_⟩
          have kk := k H3 S2
          have e : n.toNat = s + r.toNat + t.toNat * (tl.length - s) := by
            obtain ⟨tn, rfl⟩ := Int.eq_ofNat_of_zero_le ht0
            obtain ⟨rn, rfl⟩ := Int.eq_ofNat_of_zero_le hr0
            obtain ⟨pn, hpn⟩ : ∃ pn : Nat, tl.length = s + pn := ⟨tl.length - s, by omega⟩
            have e2 : (tl.length : Int) - s = (pn : Int) := by omega
            rw [e2] at hqr
            have e3 : tl.length - s = pn := by omega
            rw [e3]
            have e4 : ((pn * tn : Nat) : Int) = (pn : Int) * (tn : Int) := by simp
            have e5 : tn * pn = pn * tn := Nat.mul_comm _ _
            show n.toNat = s + rn + tn * pn
            rw [e5]
            omega
          rw [e, behind_laps hsd hL W E0' t.toNat r.toNat hsr] at kk
          have e6 : ((t.toNat : Nat) : Int) = t := by omega
          rw [e6] at kk
          exact kk
theorem ok_check_round (T : Tx K w mg Z) : FnOk P w K mg base CX0 2 Z.a_check_round Z.d_check_round P_check_round (spCheck Z K) := by
  refine T.F_check_round.ok sccheck_round (fun vs H Q E h => ?_) (fun cdv A outer s H vs Q E hr h => ?_)
  · obtain ⟨hp, ds, L, hs, rfl, _⟩ := h
    rfl
  · obtain ⟨hp, ds, L, hs, rfl, hh, hD, hd0, k⟩ := h
    obtain ⟨d0, hd00⟩ : ∃ d0, ds[0]? = some d0 := ⟨ds[0], List.getElem?_eq_getElem hd0⟩
    obtain ⟨ls0, hls0, D0⟩ := hD.get hd00
    have hix : atI (refs ds) 0 = some (.ref d0) := by
      refine at_of (j := 0) rfl ?_
      show (ds.map V.ref)[0]? = _
      rw [List.getElem?_map, hd00]; rfl
    obtain ⟨dx0, la0, vs0, e1, e2, e3⟩ := id D0.ex
    refine ⟨_, (C8.pss_cut (ps_if (pt_not (pt_truth (pv 0) (by intro _; rfl))) (pss_one ps_never) pss_nil)
      (pss_cons (ps_set (i := 1) sccheck_round.nd rfl (Or.inl rfl) (pe_meth0 (pe_ix (ixL (K := K)) (pv 0) pe_int (fun _ _ => rfl)) T.cl T.m_Dark_length (ok_Dark_length T) (hr.mono (by decide)) T.bb_Dark_length .nil pass0))
      (pss_one (ps_for PassesOwn.never rfl (pi_enum (by rfl) T.b_enumerate (pa_cons (pv 0) pa_nil)) (tupK (K := K) (by rfl) (pgs_cons (pg_name (i := 2) sccheck_round.nd rfl (Or.inl rfl)) (pgs_cons (pg_name (i := 3) sccheck_round.nd rfl (Or.inl rfl)) pgs_nil))) (pss_one (ps_if (pt_cmpR op_ne (pe_meth0 (pv 3) T.cl T.m_Dark_length (ok_Dark_length T) (hr.mono (by decide)) T.bb_Dark_length .nil pass0) (pv 1) (nomark _)) (pss_one ps_never) pss_nil)))))), ?_⟩
    refine ⟨fun σ' H' => σ' = [some (.ref hp), none, none, none] ∧ H' = H, ?_, ?_⟩
    · refine ⟨_, rfl, _, .inl ⟨refs ds, hh, rfl⟩, ?_⟩
      cases ds with
      | nil => simp at hd0
      | cons d ds => exact iteF ⟨rfl, rfl⟩
    · rintro σ1 H1 ⟨rfl, rfl⟩
      refine ⟨_, rfl, _, _, _, _, rfl, rfl, hh, hix, d0, dx0, _, rfl, e1, df_no _ _ (by decide +kernel) (by decide +kernel), d0, L, ls0, rfl, D0, ?_⟩
      refine ⟨_, rfl, hp, refs ds, rfl, hh, ?_⟩
      refine for_enum (K := K) (a := hp) (xs := refs ds) (fun i σ' H' => ∃ u2 u3, σ' = [some (.ref hp), some (.int L), u2, u3] ∧ Same H1 H') ⟨_, _, rfl, fun _ _ e => e⟩ (fun i σ' H' _ ⟨_, _, _, S⟩ => Same.sqL S hh) ?_ (fun σ' H' ⟨_, _, _, S⟩ => k H' S)
      rintro i y T' σ' H' hi ⟨u2, u3, rfl, S⟩ hT'
      obtain ⟨d, hd, rfl⟩ : ∃ d, ds[i]? = some d ∧ y = .ref d := by
        obtain ⟨d, h1, h2⟩ := map_at hi
        exact ⟨d, h1, h2⟩
      obtain ⟨ls, hls, DD⟩ := hD.get hd
      have S2 := S.trans (same_upd (o := HO.tup [V.int (i : Nat), .ref d]) hT')
      have DD2 := DD.same S2
      obtain ⟨dx, la, vs, q1, q2, q3⟩ := id DD2.ex
      refine ⟨_, _, rfl, SqT.of upd_same, rfl, _, _, rfl, _, _, rfl, rfl, ?_⟩
      refine ⟨_, rfl, d, dx, _, rfl, q1, df_no _ _ (by decide +kernel) (by decide +kernel), d, L, ls, rfl, DD2, _, rfl, rfl, _, rfl, ?_⟩
      exact ite2 (fun c => (by simp at c : False).elim) (fun _ => ⟨_, _, rfl, S2⟩)
theorem ok_place_behind (T : Tx K w mg Z) : FnOk P w K mg base CX0 6 Z.a_place_behind Z.d_place_behind P_place_behind (spPlaceB Z K) := by
  refine T.F_place_behind.ok scplace_behind (fun vs H Q E h => ?_) (fun cdv A outer s H vs Q E hr h => ?_)
  · obtain ⟨hp, ds, sd, L, x, n, hs, rfl, _⟩ := h
    rfl
  · obtain ⟨hp, ds, sd, L, x, n, hs, rfl, hh, hD, hd0, hd1, hsd, hx, hn0, hnb, k⟩ := h
    refine ⟨_, (pss_cons (ps_expr (pe_call (ok_check_round T) (hr.mono (by decide)) (by rfl) T.g_check_round T.F_check_round.kp T.bb_check_round .nil pass0 (pa_cons (pv 0) pa_nil)))
      (C8.pss_cut (ps_if (pt_cmpR op_lt (pv 3) pe_int (nomark _)) (pss_one ps_never) pss_nil)
      (pss_one (ps_ret (pe_meth (pe_make T.mk_Walk (ok_Walk_init T) (hr.mono (by decide)) (by rfl) T.g_Walk T.bb_Walk_init .nil pass0 (pa_cons (pv 0) (pa_cons (pv 1) (pa_cons (pv 2) pa_nil)))) T.cl_Walk T.m_Walk_behind (ok_Walk_behind T) (hr.mono (by decide)) T.bb_Walk_behind .nil pass0 (pa_cons (pv 3) pa_nil)))))), ?_⟩
    refine ⟨_, rfl, hp, ds, L, hs, rfl, hh, hD, hd0, fun H1 S1 => ?_⟩
    refine ⟨fun σ' H' => σ' = [some (.ref hp), some (.str sd), some (.int x), some (.int n)] ∧ H' = H1, ?_, ?_⟩
    · exact ⟨_, rfl, _, _, rfl, rfl, _, rfl, ite2 (fun c => (by have c' := of_decide_eq_true c; omega : False)) (fun _ => ⟨rfl, rfl⟩)⟩
    · rintro σ2 H2 ⟨rfl, rfl⟩
      refine ⟨_, rfl, _, rfl, _, rfl, fun w dx hwn hdx hne => ?_⟩
      have S2 := S1.trans (same_made (o := HO.ins Z.C_Walk dx []) hwn hdx)
      have hD2 := hD.same S2
      have hdw : ∀ d ∈ ds, d ≠ w := fun d hd e => by
        obtain ⟨i, hi, e1⟩ := List.getElem_of_mem hd
        have hi' : ds[i]? = some d := by rw [List.getElem?_eq_getElem hi, e1]
        obtain ⟨ls, _, DD⟩ := (hD.same S1).get hi'
        obtain ⟨dx', la, vs, q1, _⟩ := DD.ex
        rw [e, hwn] at q1; cases q1
      refine ⟨w, hp, dx, ds, sd, L, x, hs, rfl, upd_same, Same.sqL S2 hh, hD2, hd0, hd1, hsd, hx, hdw, fun H3 pl tb ps tl st W E hm WA k3 => ⟨rfl, ?_⟩⟩
      have S3 : Same H H3 := fun b o e => k3 b o (S2 b o e) (fun e' => by
        subst e'
        rw [S1 _ _ e] at hwn; cases hwn)
      obtain ⟨dxw, tvs, q1, q2, q3, q4⟩ := id WA.ex
      have hl := hD.1
      have hkn := knOk hD sd
      have hN : tl.length < 4000 := by
        have h1 := marks_le (by rw [List.length_map]; omega) W (n := tl.length) (by have := W.len; omega) hm
        have h2 := cand_len hkn (L := L) x
        have h3 : (hs.map (sideOf sd)).length * 60 ≤ 60 * 60 := Nat.mul_le_mul_right 60 (by rw [List.length_map]; omega)
        omega
      obtain ⟨d0, hd00⟩ : ∃ d0, ds[0]? = some d0 := ⟨ds[0], List.getElem?_eq_getElem hd0⟩
      obtain ⟨ls0, hls0, D0⟩ := hD.get hd00
      refine ⟨w, dxw, _, rfl, q1, wf_no _ _ _ (by decide +kernel) (by decide +kernel) (by decide +kernel), _, rfl, w, pl, tb, sd, L, x, n, hs.map (sideOf sd), ps, tl, st, rfl, WA, W, E, hsd, D0.pos, D0.big, hkn, hx, hN, hn0, hnb, fun H4 S4 => ?_⟩
      exact k H4 (S3.trans S4)
theorem ok_least_behind (T : Tx K w mg Z) : FnOk P w K mg base CX0 7 Z.a_least_behind Z.d_least_behind P_least_behind (spOneB Z K "slow") := by
  refine T.F_least_behind.ok scleast_behind (fun vs H Q E h => ?_) (fun cdv A outer s H vs Q E hr h => ?_)
  · obtain ⟨hp, ds, L, x, n, hs, rfl, _⟩ := h
    rfl
  · obtain ⟨hp, ds, L, x, n, hs, rfl, hh, hD, hd0, hd1, hx, hn0, hnb, k⟩ := h
    refine ⟨_, (pss_one (ps_ret (pe_call (ok_place_behind T) (hr.mono (by decide)) (by rfl) T.g_place_behind T.F_place_behind.kp T.bb_place_behind .nil pass0 (pa_cons (pv 0) (pa_cons (pe_glob rfl T.g_SLOW T.r_SLOW) (pa_cons (pv 1) (pa_cons (pv 2) pa_nil))))))), ?_⟩
    exact ⟨_, rfl, _, rfl, _, rfl, hp, ds, "slow", L, x, n, hs, rfl, hh, hD, hd0, hd1, .inl rfl, hx, hn0, hnb, k⟩
theorem ok_greatest_behind (T : Tx K w mg Z) : FnOk P w K mg base CX0 7 Z.a_greatest_behind Z.d_greatest_behind P_greatest_behind (spOneB Z K "fast") := by
  refine T.F_greatest_behind.ok scgreatest_behind (fun vs H Q E h => ?_) (fun cdv A outer s H vs Q E hr h => ?_)
  · obtain ⟨hp, ds, L, x, n, hs, rfl, _⟩ := h
    rfl
  · obtain ⟨hp, ds, L, x, n, hs, rfl, hh, hD, hd0, hd1, hx, hn0, hnb, k⟩ := h
    refine ⟨_, (pss_one (ps_ret (pe_call (ok_place_behind T) (hr.mono (by decide)) (by rfl) T.g_place_behind T.F_place_behind.kp T.bb_place_behind .nil pass0 (pa_cons (pv 0) (pa_cons (pe_glob rfl T.g_FAST T.r_FAST) (pa_cons (pv 1) (pa_cons (pv 2) pa_nil))))))), ?_⟩
    exact ⟨_, rfl, _, rfl, _, rfl, hp, ds, "fast", L, x, n, hs, rfl, hh, hD, hd0, hd1, .inr rfl, hx, hn0, hnb, k⟩
end
end KA
namespace KA
open PySem PySem.Spec PyProof.Rows L2 DP
/-! ### the first use behind which a walk is so far -/
/-- a comprehension over enumerate(xs) -/
theorem lc_enum {K : PySem.W.Frag} {a : Addr} {xs : List V} {g : TG} {tt : TT} {te : TE} {vs : List Nat} {σ : L2.St} {H1 : Hp} {D : Addr} {Qd : Hp → Prop} (Pv : Nat → Hp → Prop) (h0 : Pv 0 (upd H1 D (.lst []))) (hl : ∀ i H, i ≤ xs.length → Pv i H → SqL K H a xs)
    (hs : ∀ i x T H, xs[i]? = some x → Pv i H → H T = none → g (.ref T) (wipe σ vs) (upd H T (.tup [.int (i : Nat), x])) fun σ2 H2 => wipe σ2 vs = wipe σ vs ∧ tt σ2 H2 fun b H3 =>
      if b = true then te σ2 H3 fun y H4 => ∃ acc, H4 D = some (.lst acc) ∧ acc.length < sizeLine ∧ Pv (i + 1) (upd H4 D (.lst (acc ++ [y]))) else Pv (i + 1) H3) (hd : ∀ H, Pv xs.length H → Qd H) :
    ∃ W : Nat → Nat → Hp → Prop, (∃ m, W 0 m (upd H1 D (.lst []))) ∧ ∀ i m H, W i m H →
      ((Ite K a).stop i H ∧ Qd H) ∨ ((Ite K a).go i H ∧ ∃ Nx : Hp → Prop, (∀ H', Nx H' → ∃ m', m' < m ∧ W (i + 1) m' H') ∧ ∀ x H', (Ite K a).yld i H x H' → g x (wipe σ vs) H' fun σ2 H2 => wipe σ2 vs = wipe σ vs ∧ tt σ2 H2 fun b H3 =>
        if b = true then te σ2 H3 fun y H4 => ∃ acc, H4 D = some (.lst acc) ∧ acc.length < sizeLine ∧ Nx (upd H4 D (.lst (acc ++ [y]))) else Nx H3) := by
  refine ⟨fun i m H => m = xs.length - i ∧ i ≤ xs.length ∧ Pv i H, ⟨xs.length, rfl, Nat.zero_le _, h0⟩, ?_⟩
  rintro i m H ⟨rfl, hi, p⟩
  have q := hl i H hi p
  by_cases hlt : i < xs.length
  · refine .inr ⟨⟨xs, xs[i], q, by simp [hlt]⟩, Pv (i + 1), fun H' p' => ⟨xs.length - (i + 1), by omega, rfl, hlt, p'⟩, fun v H' y => ?_⟩
    obtain ⟨T, x, rfl, hT, rfl, f⟩ := y
    exact hs i x T H (f xs q) p hT
  · have e : i = xs.length := by omega
    subst e
    exact .inl ⟨⟨xs, q, Nat.le_refl _⟩, hd H p⟩
/-- the first place of f that is y or farther, or there is none -/
def IsReach (f : Nat → Option Int) (y : Int) : Option Nat → Prop
  | none => ∀ k m, f k = some m → m < y
  | some n => (∃ m, f n = some m ∧ y ≤ m) ∧ ∀ k, k < n → ∀ m, f k = some m → m < y
theorem IsReach.one {f : Nat → Option Int} {y : Int} : ∀ {r r' : Option Nat}, IsReach f y r → IsReach f y r' → r = r'
  | none, none, _, _ => rfl
  | none, some n, h, ⟨⟨m, e, h1⟩, _⟩ => absurd (h n m e) (by omega)
  | some n, none, ⟨⟨m, e, h1⟩, _⟩, h => absurd (h n m e) (by omega)
  | some n, some n', ⟨⟨m, e, h1⟩, h2⟩, ⟨⟨m', e', h1'⟩, h2'⟩ => by
    rcases Nat.lt_trichotomy n n' with h | h | h
    · exact absurd (h2' n h m e) (by omega)
    · rw [h]
    · exact absurd (h2 n' h m' e') (by omega)
def uV : Option Nat → V
  | none => .non
  | some n => .int (n : Int)
section
variable {sd : Str} {L : Int} {kn : List (List Lk)} {x y : Int} {ps : List Int} {tl : List Lk}
theorem getD_mem {l : List Int} {i : Nat} (h : i < l.length) : l.getD i 0 ∈ l := by
  rw [List.getD_eq_getElem?_getD, List.getElem?_eq_getElem h]; exact List.getElem_mem h
theorem reach_in (W : WalkOk sd L kn x ps tl) {i : Nat} (hi : i < ps.length) (hy : y ≤ ps.getD i 0) (hb : ∀ k, k < i → ps.getD k 0 < y) : IsReach (it sd L kn x) y (some i) := by
  refine ⟨⟨_, behind_in W hi, hy⟩, fun k hk m hm => ?_⟩
  rw [behind_in W (by omega : k < ps.length)] at hm
  rw [← Option.some.inj hm]
  exact hb k hk
theorem reach_off (W : WalkOk sd L kn x ps tl) (h : EndOk L kn ps tl none) (hb : ∀ v ∈ ps, v < y) : IsReach (it sd L kn x) y none := fun k m hm => by
  by_cases hk : k < ps.length
  · rw [behind_in W hk] at hm
    rw [← Option.some.inj hm]
    exact hb _ (getD_mem hk)
  · rw [behind_none W h (by omega)] at hm
    cases hm
theorem walk_at (hs : SideOk sd) (hL : 0 < L) (W : WalkOk sd L kn x ps tl) {s : Nat} (h : EndOk L kn ps tl (some s)) {n : Nat} (hn : s ≤ n) :
    ∃ t r : Nat, r < tl.length - s ∧ n = s + r + t * (tl.length - s) ∧ it sd L kn x n = some (ps.getD (s + r) 0 + t * (ps.getD tl.length 0 - ps.getD s 0)) := by
  have h1 := h.1
  have hl := W.len
  have hp : 0 < tl.length - s := by omega
  refine ⟨(n - s) / (tl.length - s), (n - s) % (tl.length - s), Nat.mod_lt _ hp, ?_, ?_⟩
  · have := Nat.div_add_mod (n - s) (tl.length - s)
    rw [Nat.mul_comm] at this
    omega
  · have h2 := Nat.mod_lt (n - s) hp
    have h3 := behind_laps hs hL W h ((n - s) / (tl.length - s)) ((n - s) % (tl.length - s)) (by omega)
    have h4 : s + (n - s) % (tl.length - s) + (n - s) / (tl.length - s) * (tl.length - s) = n := by
      have := Nat.div_add_mod (n - s) (tl.length - s)
      rw [Nat.mul_comm] at this
      omega
    rwa [h4] at h3
theorem reach_neg (hs : SideOk sd) (hL : 0 < L) (W : WalkOk sd L kn x ps tl) {s : Nat} (h : EndOk L kn ps tl (some s)) (hb : ∀ v ∈ ps, v < y) (hC : ps.getD tl.length 0 - ps.getD s 0 ≤ 0) : IsReach (it sd L kn x) y none := fun k m hm => by
  have hl := W.len
  have h1 := h.1
  by_cases hk : k < ps.length
  · rw [behind_in W hk] at hm
    rw [← Option.some.inj hm]
    exact hb _ (getD_mem hk)
  · obtain ⟨t, r, hr, _, e⟩ := walk_at hs hL W h (by omega : s ≤ k)
    rw [e] at hm
    rw [← Option.some.inj hm]
    have h2 := hb _ (getD_mem (by omega : s + r < ps.length))
    have h3 : (t : Int) * (ps.getD tl.length 0 - ps.getD s 0) ≤ 0 := Int.mul_nonpos_of_nonneg_of_nonpos (by omega) hC
    omega
theorem reach_pos (hs : SideOk sd) (hL : 0 < L) (W : WalkOk sd L kn x ps tl) {s : Nat} (h : EndOk L kn ps tl (some s)) (hb : ∀ v ∈ ps, v < y) {C M ti : Int} (eC : C = ps.getD tl.length 0 - ps.getD s 0) (hC : 0 < C)
    (hM : ∀ r, s + r < ps.length → ps.getD (s + r) 0 ≤ M) (hMy : M < y) (eti : ti = -((M - y) / C)) {a : Nat} (ha : s + a < ps.length) (ha1 : y - ti * C ≤ ps.getD (s + a) 0) (ha2 : ∀ i, i < a → ps.getD (s + i) 0 < y - ti * C) :
    0 ≤ ti ∧ IsReach (it sd L kn x) y (some (s + ti.toNat * (tl.length - s) + a)) := by
  have hl := W.len
  have h1 := h.1
  have hp : 0 < tl.length - s := by omega
  have q1 := Int.mul_ediv_add_emod (M - y) C
  have q2 := Int.emod_nonneg (M - y) (show C ≠ 0 by omega)
  have q3 := Int.emod_lt_of_pos (M - y) hC
  have t0 : 0 < ti := by
    have : (M - y) / C < 0 := Int.ediv_neg_of_neg_of_pos (by omega) hC
    omega
  obtain ⟨T, rfl⟩ : ∃ T : Nat, ti = (T : Int) := ⟨ti.toNat, by omega⟩
  have eg : (T : Int) * C = -(C * ((M - y) / C)) := by rw [eti]; grind
  have hgM : M - C < y - (T : Int) * C := by rw [eg]; omega
  refine ⟨by omega, ?_⟩
  rw [Int.toNat_natCast]
  refine ⟨⟨_, by
    have := behind_laps hs hL W h T a ha
    rw [← eC, show s + a + T * (tl.length - s) = s + T * (tl.length - s) + a by omega] at this
    exact this, by omega⟩, fun k hk m hm => ?_⟩
  by_cases hkl : k < ps.length
  · rw [behind_in W hkl] at hm
    rw [← Option.some.inj hm]
    exact hb _ (getD_mem hkl)
  · obtain ⟨t, r, hr, ek, e⟩ := walk_at hs hL W h (by omega : s ≤ k)
    rw [e, ← eC] at hm
    rw [← Option.some.inj hm]
    have hv := hM r (by omega)
    rcases Nat.lt_trichotomy t T with ht | ht | ht
    · have h2 : (t : Int) * C ≤ ((T : Int) - 1) * C := Int.mul_le_mul_of_nonneg_right (by omega) (by omega)
      have h3 : ((T : Int) - 1) * C = (T : Int) * C - C := by grind
      omega
    · subst ht
      have := ha2 r (by omega)
      omega
    · exfalso
      have h2 : (T + 1) * (tl.length - s) ≤ t * (tl.length - s) := Nat.mul_le_mul_right _ ht
      rw [Nat.add_mul, Nat.one_mul] at h2
      omega
end
theorem cut_from {xs : List V} {k : Nat} : cutV xs (some (k : Int)) none = xs.drop k := by
  unfold cutV
  rw [HT.sIx_none, HT.sIx_nat]
  by_cases h : k ≤ xs.length
  · rw [show min k xs.length = k by omega, List.take_of_length_le (by rw [List.length_drop]; exact Nat.le_refl _)]
  · rw [show min k xs.length = xs.length by omega, Nat.sub_self, List.take_zero, List.drop_eq_nil_of_le (by omega)]
def spReach (Z : Ad) (K : PySem.W.Frag) : Sp := fun vs H Q _ => ∃ (w pl tb : Addr) (sd : Str) (L x y : Int) (kn : List (List Lk)) (ps : List Int) (tl : List Lk) (st : Option Nat), vs = [.ref w, .int y] ∧ WalkAt Z K H w pl tb ps tl st ∧ WalkOk sd L kn x ps tl ∧ EndOk L kn ps tl st ∧ SideOk sd ∧ 0 < L ∧ L.natAbs < 2 ^ 200 ∧ KnOk kn ∧ x.natAbs < 2 ^ 390 ∧ tl.length < 4000 ∧ y.natAbs < 2 ^ 400 ∧
  ∀ H' r, Same H H' → IsReach (it sd L kn x) y r → Q (uV r) H'
section
variable {P : Program} {w : World} {K : PySem.W.Frag} {mg : Str → Option Value} {base : Heap} {Z : Ad}
theorem ok_Walk_reach (T : Tx K w mg Z) : FnOk P w K mg base CX0 2 Z.a_Walk_reach Z.d_Walk_reach P_Walk_reach (spReach Z K) := by
  refine T.F_Walk_reach.ok scWalk_reach (fun vs H Q E h => ?_) (fun cdv A outer s H vs Q E hr h => ?_)
  · obtain ⟨w, pl, tb, sd, L, x, y, kn, ps, tl, st, rfl, _⟩ := h
    rfl
  · obtain ⟨w, pl, tb, sd, L, x, y, kn, ps, tl, st, rfl, WA, W, E0', hsd, hL, hLb, hkn, hx, hN, hyb, k⟩ := h
    obtain ⟨dx, tvs, h1, h2, h3, h4⟩ := id WA.ex
    have hwl := W.len
    have hno := wf_no pl tb (stV st) (m := "climb") (by decide +kernel) (by decide +kernel) (by decide +kernel)
    have hsm : ∀ i, i < ps.length → (ps.getD i 0).natAbs < 2 ^ 391 := fun i hi => by
      have q1 := W.small hL hLb hkn i (ps.getD i 0) (by rw [List.getD_eq_getElem?_getD, List.getElem?_eq_getElem hi]; rfl)
      have q2 : i * 2 ^ 312 ≤ 2 ^ 390 := Nat.le_trans (Nat.mul_le_mul_right _ (by omega : i ≤ 4000)) (by decide)
      have q3 : (2 : Nat) ^ 391 = 2 ^ 390 + 2 ^ 390 := by rw [Nat.pow_succ, Nat.mul_two]
      omega
    refine ⟨_, (pss_cons (ps_for PassesOwn.never rfl (pi_enum (by rfl) T.b_enumerate (pa_cons (fldK (K := K) (pv 0) rfl) pa_nil)) (tupK (K := K) (by rfl) (pgs_cons (pg_name (i := 2) scWalk_reach.nd rfl (Or.inl rfl)) (pgs_cons (pg_name (i := 3) scWalk_reach.nd rfl (Or.inl rfl)) pgs_nil))) (pss_one (ps_if (pt_cmpR op_ge (pv 3) (pv 1) (nomark _)) (pss_one (ps_ret (pv 2))) pss_nil)))
      (C8.pss_cut (ps_if (PW.pt (pw_or (pt_cmpR op_isN (fldK (K := K) (pv 0) rfl) pe_non (nomark _)) (pw_or1 (pt_cmpR op_le (pe_meth0 (pv 0) T.cl_Walk T.m_Walk_climb (ok_Walk_climb T) (hr.mono (by decide)) T.bb_Walk_climb .nil pass0) pe_int (nomark _))))) (pss_one (ps_ret pe_non)) pss_nil)
      (pss_cons (ps_set (i := 4) scWalk_reach.nd rfl (Or.inl rfl) (pe_slice (slL (K := K)) (fldK (K := K) (pv 0) rfl) (po_some (fldK (K := K) (pv 0) rfl)) po_none))
      (pss_cons (ps_set (i := 5) scWalk_reach.nd rfl (Or.inl rfl) (pe_un un_neg (pe_op op_fdivW (pe_op op_sub (pe_callB (maxK (K := K) rfl) (by rfl) T.b_max (by decide +kernel) (pa_cons (pv 4) pa_nil)) (pv 1)) (pe_meth0 (pv 0) T.cl_Walk T.m_Walk_climb (ok_Walk_climb T) (hr.mono (by decide)) T.bb_Walk_climb .nil pass0))))
      (pss_cons (ps_set (i := 6) scWalk_reach.nd rfl (Or.inr rfl) (pe_op op_sub (pv 1) (pe_op op_mulW (pv 5) (pe_meth0 (pv 0) T.cl_Walk T.m_Walk_climb (ok_Walk_climb T) (hr.mono (by decide)) T.bb_Walk_climb .nil pass0))))
      (pss_cons (ps_setLc (i := 7) (own := [("at", 8), ("place", 3)]) (g := gTup K 2 (gCons (gName 8) (gCons (gName 3) gNil))) (tt := _) rfl scWalk_reach.nd rfl rfl (sw_true rfl rfl rfl (by decide +kernel)) (pi_enum (by rfl) T.b_enumerate (pa_cons (pv 4) pa_nil)) (blkOk_by (own := [("at", 8), ("place", 3)]) (N := N_Walk_reach) (sc := defScope sWalk_reach) (by decide +kernel)) (fun _ _ _ _ _ => (tupK (K := K) (by rfl) (pgs_cons (pg_name (i := 8) scWalk_reach.nd rfl (Or.inl rfl)) (pgs_cons (pg_name (i := 3) scWalk_reach.nd rfl (Or.inl rfl)) pgs_nil)))) (fun _ _ _ _ _ => (pts_one (pt_cmpR op_ge (pv 3) (pv 6) (nomark _)))) (fun _ _ _ _ _ => (pv 8)))
      (pss_one (ps_ret (pe_op op_add (pe_op op_add (fldK (K := K) (pv 0) rfl) (pe_op op_mulW (pv 5) (pe_meth0 (pv 0) T.cl_Walk T.m_Walk_period (ok_Walk_period T) (hr.mono (by decide)) T.bb_Walk_period .nil pass0))) (pe_ix (ixL (K := K)) (pv 7) pe_int (fun _ _ => rfl))))))))))), ?_⟩
    refine ⟨_, rfl, w, Z.C_Walk, dx, _, _, rfl, h1, T.cl_Walk, T.nWalk_places, wf_places _ _ _, pl, ps.map V.int, rfl, SqL.of h2, ?_⟩
    refine for_enum (K := K) (a := pl) (xs := ps.map V.int) (fun i σ' H' => ∃ u2 u3, σ' = [some (.ref w), some (.int y), u2, u3, none, none, none, none, none] ∧ Same H H' ∧ ∀ j, j < i → ps.getD j 0 < y) ⟨_, _, rfl, fun _ _ e => e, fun j hj => by omega⟩ (fun i σ' H' _ ⟨_, _, _, S, _⟩ => SqL.of (S _ _ h2)) ?_ ?_
    · rintro i v T' σ' H' hi ⟨u2, u3, rfl, S, hb⟩ hT'
      obtain ⟨p, hp, rfl⟩ := map_at hi
      have hil : i < ps.length := (List.getElem?_eq_some_iff.mp hp).1
      have ep : ps.getD i 0 = p := by rw [List.getD_eq_getElem?_getD, hp]; rfl
      have S2 := S.trans (same_upd (o := HO.tup [V.int (i : Nat), .int p]) hT')
      refine ⟨_, _, rfl, SqT.of upd_same, rfl, _, _, rfl, _, _, rfl, rfl, ?_⟩
      refine ⟨_, rfl, _, rfl, _, _, rfl, rfl, _, rfl, ite2 (fun c => ?_) (fun c => ?_)⟩
      · have c' : p ≥ y := of_decide_eq_true c
        exact ⟨_, rfl, k _ (some i) S2 (reach_in W hil (by omega) hb)⟩
      · have c' : ¬ p ≥ y := fun h => c (decide_eq_true h)
        refine ⟨_, _, rfl, S2, fun j hj => ?_⟩
        by_cases e : j < i
        · exact hb j e
        · have : j = i := by omega
          subst this
          omega
    rintro σ1 H1 ⟨u2, u3, rfl, S1, hb0⟩
    have hb : ∀ v ∈ ps, v < y := fun v hv => by
      obtain ⟨i, hi, e⟩ := List.getElem_of_mem hv
      have := hb0 i (by rw [List.length_map]; exact hi)
      rw [List.getD_eq_getElem?_getD, List.getElem?_eq_getElem hi] at this
      rw [← e]; exact this
    have WA1 : WalkAt Z K H1 w pl tb ps tl st := ⟨dx, tvs, S1 _ _ h1, S1 _ _ h2, S1 _ _ h3, dpAll_mono S1 _ _ h4⟩
    cases st with
    | none =>
      refine ⟨fun _ _ => False, ?_, fun _ _ z => z.elim⟩
      exact ⟨_, rfl, w, Z.C_Walk, dx, _, _, rfl, S1 _ _ h1, T.cl_Walk, T.nWalk_start, wf_start _ _ _, rfl, _, rfl, iteT (iteT (k H1 none S1 (reach_off W E0' hb)))⟩
    | some s =>
      have hs1 := E0'.1
      have hlap : s < ps.length := by omega
      obtain ⟨C, eC⟩ : ∃ C, C = ps.getD tl.length 0 - ps.getD s 0 := ⟨_, rfl⟩
      refine ⟨fun σ' H' => σ' = [some (.ref w), some (.int y), u2, u3, none, none, none, none, none] ∧ H' = H1 ∧ 0 < C, ?_, ?_⟩
      · refine ⟨_, rfl, w, Z.C_Walk, dx, _, _, rfl, S1 _ _ h1, T.cl_Walk, T.nWalk_start, wf_start _ _ _, rfl, _, rfl, iteF ?_⟩
        refine ⟨_, rfl, w, dx, _, rfl, S1 _ _ h1, hno, w, pl, tb, ps, tl, s, rfl, WA1, hwl, hs1, _, _, rfl, rfl, _, rfl, ite2 (fun c => ?_) (fun c => ⟨rfl, rfl, ?_⟩)⟩
        · have c' : ps.getD tl.length 0 - ps.getD s 0 ≤ 0 := of_decide_eq_true c
          exact k H1 none S1 (reach_neg hsd hL W E0' hb c')
        · have c' : ¬ ps.getD tl.length 0 - ps.getD s 0 ≤ 0 := fun h => c (decide_eq_true h)
          omega
      rintro σ2 H2 ⟨rfl, rfl, hC⟩
      refine ⟨_, rfl, w, Z.C_Walk, dx, _, _, rfl, S1 _ _ h1, T.cl_Walk, T.nWalk_places, wf_places _ _ _, _, rfl, w, Z.C_Walk, dx, _, _, rfl, S1 _ _ h1, T.cl_Walk, T.nWalk_start, wf_start _ _ _, (s : Int), rfl, pl, ps.map V.int, rfl, SqL.of (S1 _ _ h2), fun lp hlp => ?_⟩
      rw [cut_from, ← List.map_drop]
      have S3 := S1.trans (same_upd (o := HO.lst ((ps.drop s).map V.int)) hlp)
      have g3 : (upd H2 lp (.lst ((ps.drop s).map V.int))) lp = some (.lst ((ps.drop s).map V.int)) := upd_same
      generalize upd H2 lp (.lst ((ps.drop s).map V.int)) = H3 at S3 g3 ⊢
      have WA3 : WalkAt Z K H3 w pl tb ps tl (some s) := ⟨dx, tvs, S3 _ _ h1, S3 _ _ h2, S3 _ _ h3, dpAll_mono S3 _ _ h4⟩
      have hdl : (ps.drop s).length = ps.length - s := List.length_drop
      have hCb : C.natAbs < 2 ^ 392 := by rw [eC]; exact sub_lt (hsm _ (by omega)) (hsm _ (by omega))
      -- times
      refine ⟨_, rfl, lp, ps.drop s, rfl, SqL.of g3, by omega, fun M hM1 hM2 => ?_⟩
      have hMget : ∀ r, s + r < ps.length → ps.getD (s + r) 0 ≤ M := fun r hr => hM2 _ (by
        have e : ps.getD (s + r) 0 = (ps.drop s).getD r 0 := by
          rw [List.getD_eq_getElem?_getD, List.getD_eq_getElem?_getD, List.getElem?_drop]
        rw [e]; exact getD_mem (by omega))
      have hMmem : M ∈ ps := List.mem_of_mem_drop hM1
      have hMy : M < y := hb M hMmem
      have hMb : M.natAbs < 2 ^ 401 := by
        obtain ⟨i, hi, e⟩ := List.getElem_of_mem hMmem
        have := hsm i hi
        rw [List.getD_eq_getElem?_getD, List.getElem?_eq_getElem hi, Option.getD_some, e] at this
        exact lt_up this (by decide)
      have hCd : 0 < ps.getD tl.length 0 - ps.getD s 0 := by omega
      refine ⟨_, rfl, _, _, rfl, rfl, _, rfl, w, dx, _, rfl, S3 _ _ h1, hno, w, pl, tb, ps, tl, s, rfl, WA3, hwl, hs1, _, _, rfl, rfl, wide_div hCd (by rw [eC] at hCb; exact hCb) (by decide) (by decide), _, rfl, ?_⟩
      rw [← eC]
      obtain ⟨ti, eti⟩ : ∃ ti, ti = -((M - y) / C) := ⟨_, rfl⟩
      have htib : ti.natAbs < 2 ^ 403 := by
        rw [eti, Int.natAbs_neg]
        exact div_lt hC (sub_lt hMb (lt_up hyb (by decide)))
      have htb : (-((M - y) / C)).natAbs < 2 ^ 403 := by rw [← eti]; exact htib
      refine ⟨_, rfl, _, rfl, _, rfl, w, dx, _, rfl, S3 _ _ h1, hno, w, pl, tb, ps, tl, s, rfl, WA3, hwl, hs1, _, _, rfl, rfl, wide_mul htb (by rw [eC] at hCb; exact hCb) (by decide) (by decide) (by decide), _, _, rfl, rfl, ?_⟩
      -- far_enough
      refine ⟨_, rfl, lp, _, rfl, SqL.of g3, fun D hD => ?_⟩
      have e30 : V.int (y - -((M - y) / C) * C) = .int (y - ti * C) := by rw [eti]
      refine lc_enum (K := K) (a := lp) (xs := (ps.drop s).map V.int) (fun i H' => Same H3 H' ∧ H' D = some (.lst (((List.range i).filter fun j => decide (y - ti * C ≤ ps.getD (s + j) 0)).map fun j => V.int (j : Nat)))) ⟨same_upd hD, upd_same⟩ (fun i H' _ ⟨S, _⟩ => SqL.of (S _ _ g3)) ?_ ?_
      · rintro i v T' H4 hi ⟨S4, gD⟩ hT'
        obtain ⟨p, hp, rfl⟩ := map_at hi
        have hil : i < ps.length - s := by
          have := (List.getElem?_eq_some_iff.mp hp).1
          omega
        have ep : ps.getD (s + i) 0 = p := by
          rw [List.getElem?_drop] at hp
          rw [List.getD_eq_getElem?_getD, hp]; rfl
        have S5 := same_upd (o := HO.tup [V.int (i : Nat), .int p]) hT'
        refine ⟨_, _, rfl, SqT.of upd_same, rfl, _, _, rfl, _, _, rfl, rfl, rfl, ?_⟩
        refine ⟨_, rfl, _, rfl, _, _, rfl, rfl, _, rfl, ite2 (fun c => ?_) (fun c => ?_)⟩
        · have c' : p ≥ y - -((M - y) / C) * C := by
            have := of_decide_eq_true c
            rw [← eC] at this
            exact this
          rw [← eti] at c'
          refine ⟨_, rfl, _, S5 _ _ gD, ?_, same_set (S4.trans S5) hD, ?_⟩
          · rw [List.length_map]
            have h1 := List.length_filter_le (fun j => decide (y - ti * C ≤ ps.getD (s + j) 0)) (List.range i)
            rw [List.length_range] at h1
            exact Nat.lt_of_le_of_lt (by omega : _ ≤ 4000) (by decide)
          · rw [List.range_succ, List.filter_append, List.map_append]
            have e : [i].filter (fun j => decide (y - ti * C ≤ ps.getD (s + j) 0)) = [i] := by
              rw [List.filter_cons_of_pos (by rw [ep]; exact decide_eq_true c')]; rfl
            rw [e]
            exact upd_same
        · have c' : ¬ p ≥ y - -((M - y) / C) * C := fun h => c (by
            rw [← eC]
            exact decide_eq_true h)
          rw [← eti] at c'
          refine ⟨S4.trans S5, ?_⟩
          rw [List.range_succ, List.filter_append]
          have e : [i].filter (fun j => decide (y - ti * C ≤ ps.getD (s + j) 0)) = [] := by
            rw [List.filter_cons_of_neg (by rw [ep]; simpa using c')]; rfl
          rw [e, List.append_nil]
          exact S5 _ _ gD
      rintro H4 ⟨S4, gD⟩
      rw [List.length_map, hdl] at gD
      -- the first of them
      obtain ⟨a, ha, ha1, ha2, hfirst⟩ : ∃ a : Nat, a < ps.length - s ∧ y - ti * C ≤ ps.getD (s + a) 0 ∧ (∀ i, i < a → ps.getD (s + i) 0 < y - ti * C) ∧ ((List.range (ps.length - s)).filter fun j => decide (y - ti * C ≤ ps.getD (s + j) 0)).head? = some a := by
        have hMx : y - ti * C ≤ M := by
          have q1 := Int.mul_ediv_add_emod (M - y) C
          have q2 := Int.emod_nonneg (M - y) (show C ≠ 0 by omega)
          have : ti * C = -(C * ((M - y) / C)) := by rw [eti]; grind
          omega
        cases hf : (List.range (ps.length - s)).find? (fun j => decide (y - ti * C ≤ ps.getD (s + j) 0)) with
        | none =>
          exfalso
          obtain ⟨i, hi, e⟩ := List.getElem_of_mem hM1
          rw [List.find?_eq_none] at hf
          refine hf i (List.mem_range.mpr (by omega)) ?_
          rw [decide_eq_true_eq, List.getD_eq_getElem?_getD, ← List.getElem?_drop, List.getElem?_eq_getElem hi, Option.getD_some, e]
          exact hMx
        | some a =>
          have hf2 := List.find?_range_eq_some.mp hf
          refine ⟨a, List.mem_range.mp hf2.2.1, of_decide_eq_true hf2.1, fun i hi => ?_, by rw [List.head?_filter]; exact hf⟩
          have := hf2.2.2 i hi
          simpa using this
      obtain ⟨rest, hrest⟩ : ∃ rest, ((List.range (ps.length - s)).filter fun j => decide (y - ti * C ≤ ps.getD (s + j) 0)) = a :: rest := by
        cases hl : ((List.range (ps.length - s)).filter fun j => decide (y - ti * C ≤ ps.getD (s + j) 0)) with
        | nil => rw [hl] at hfirst; cases hfirst
        | cons b r => rw [hl] at hfirst; exact ⟨r, by rw [Option.some.inj hfirst]⟩
      rw [hrest, List.map_cons] at gD
      obtain ⟨ti0, hR⟩ := reach_pos hsd hL W E0' hb eC hC hMget hMy eti (by omega : s + a < ps.length) ha1 ha2
      have S34 := S3.trans S4
      have WA4 : WalkAt Z K H4 w pl tb ps tl (some s) := ⟨dx, tvs, S34 _ _ h1, S34 _ _ h2, S34 _ _ h3, dpAll_mono S34 _ _ h4⟩
      have hno2 := wf_no pl tb (stV (some s)) (m := "period") (by decide +kernel) (by decide +kernel) (by decide +kernel)
      refine ⟨_, rfl, w, Z.C_Walk, dx, _, _, rfl, S34 _ _ h1, T.cl_Walk, T.nWalk_start, wf_start _ _ _, _, rfl, _, rfl, w, dx, _, rfl, S34 _ _ h1, hno2, w, pl, tb, ps, tl, s, rfl, WA4, _, _, rfl, rfl, wide_mul (a := 403) (b := 13) htb (Nat.lt_of_lt_of_le (by omega : ((tl.length : Int) - s).natAbs < 4000) (by decide)) (by decide) (by decide) (by decide), _, _, rfl, rfl, _, rfl, D, _, _, _, rfl, rfl, SqL.of gD, at_of (j := 0) rfl rfl, _, _, rfl, rfl, ?_⟩
      have kk := k H4 _ S34 hR
      have e : (s : Int) + ti * ((tl.length : Int) - s) + (a : Int) = ((s + ti.toNat * (tl.length - s) + a : Nat) : Int) := by
        obtain ⟨T0, rfl⟩ := Int.eq_ofNat_of_zero_le ti0
        obtain ⟨pn, hpn⟩ : ∃ pn : Nat, tl.length = s + pn := ⟨tl.length - s, by omega⟩
        rw [hpn, Int.toNat_natCast, show s + pn - s = pn by omega]
        push_cast
        grind
      rw [eti] at e
      have e2 : uV (some (s + ti.toNat * (tl.length - s) + a)) = V.int ((s + ti.toNat * (tl.length - s) + a : Nat) : Int) := rfl
      rw [e2, eti] at kk
      rw [← e] at kk
      exact kk
theorem ok_most_uses (T : Tx K w mg Z) : FnOk P w K mg base CX0 6 Z.a_most_uses Z.d_most_uses P_most_uses (fun vs H Q _ => ∃ (hp : Addr) (ds : List Addr) (L x y : Int) (hs : List (List Lk)), vs = [.ref hp, .int x, .int y] ∧ SqL K H hp (refs ds) ∧ Darks Z K H ds L hs ∧ 0 < ds.length ∧ ds.length ≤ 60 ∧ x.natAbs < 2 ^ 390 ∧ y.natAbs < 2 ^ 400 ∧ ∀ H' r, Same H H' → IsReach (it "slow" L (hs.map (sideOf "slow")) x) y r → (∃ ps tl st, WalkOk "slow" L (hs.map (sideOf "slow")) x ps tl ∧ EndOk L (hs.map (sideOf "slow")) ps tl st ∧ tl.length < 4000) → Q (uV r) H') := by
  refine T.F_most_uses.ok scmost_uses (fun vs H Q E h => ?_) (fun cdv A outer s H vs Q E hr h => ?_)
  · obtain ⟨hp, ds, L, x, y, hs, rfl, _⟩ := h
    rfl
  · obtain ⟨hp, ds, L, x, y, hs, rfl, hh, hD, hd0, hd1, hx, hyb, k⟩ := h
    refine ⟨_, (pss_cons (ps_expr (pe_call (ok_check_round T) (hr.mono (by decide)) (by rfl) T.g_check_round T.F_check_round.kp T.bb_check_round .nil pass0 (pa_cons (pv 0) pa_nil)))
      (pss_one (ps_ret (pe_meth (pe_make T.mk_Walk (ok_Walk_init T) (hr.mono (by decide)) (by rfl) T.g_Walk T.bb_Walk_init .nil pass0 (pa_cons (pv 0) (pa_cons (pe_glob rfl T.g_SLOW T.r_SLOW) (pa_cons (pv 1) pa_nil)))) T.cl_Walk T.m_Walk_reach (ok_Walk_reach T) (hr.mono (by decide)) T.bb_Walk_reach .nil pass0 (pa_cons (pv 2) pa_nil))))), ?_⟩
    refine ⟨_, rfl, hp, ds, L, hs, rfl, hh, hD, hd0, fun H1 S1 => ?_⟩
    refine ⟨_, rfl, _, rfl, fun w dx hwn hdx hne => ?_⟩
    have S2 := S1.trans (same_made (o := HO.ins Z.C_Walk dx []) hwn hdx)
    have hD2 := hD.same S2
    have hdw : ∀ d ∈ ds, d ≠ w := fun d hd e => by
      obtain ⟨i, hi, e1⟩ := List.getElem_of_mem hd
      have hi' : ds[i]? = some d := by rw [List.getElem?_eq_getElem hi, e1]
      obtain ⟨ls, _, DD⟩ := (hD.same S1).get hi'
      obtain ⟨dx', la, vs, q1, _⟩ := DD.ex
      rw [e, hwn] at q1; cases q1
    refine ⟨w, hp, dx, ds, "slow", L, x, hs, rfl, upd_same, Same.sqL S2 hh, hD2, hd0, hd1, .inl rfl, hx, hdw, fun H3 pl tb ps tl st W E hm WA k3 => ⟨rfl, ?_⟩⟩
    have S3 : Same H H3 := fun b o e => k3 b o (S2 b o e) (fun e' => by
      subst e'
      rw [S1 _ _ e] at hwn; cases hwn)
    obtain ⟨dxw, tvs, q1, q2, q3, q4⟩ := id WA.ex
    have hl := hD.1
    have hkn := knOk hD "slow"
    have hN : tl.length < 4000 := by
      have h1 := marks_le (by rw [List.length_map]; omega) W (n := tl.length) (by have := W.len; omega) hm
      have h2 := cand_len hkn (L := L) x
      have h3 : (hs.map (sideOf "slow")).length * 60 ≤ 60 * 60 := Nat.mul_le_mul_right 60 (by rw [List.length_map]; omega)
      omega
    obtain ⟨d0, hd00⟩ : ∃ d0, ds[0]? = some d0 := ⟨ds[0], List.getElem?_eq_getElem hd0⟩
    obtain ⟨ls0, hls0, D0⟩ := hD.get hd00
    refine ⟨w, dxw, _, rfl, q1, wf_no _ _ _ (by decide +kernel) (by decide +kernel) (by decide +kernel), _, rfl, w, pl, tb, "slow", L, x, y, hs.map (sideOf "slow"), ps, tl, st, rfl, WA, W, E, .inl rfl, D0.pos, D0.big, hkn, hx, hN, hyb, fun H4 r S4 hr4 => ?_⟩
    exact k H4 r (S3.trans S4) hr4 ⟨ps, tl, st, W, E, hN⟩
end
end KA
namespace KA
open PySem PySem.Spec PyProof.Rows L2 DP
/-! ### powers of great numbers -/
def CPowW (i j : Int) : Prop := 0 ≤ j ∧ j ≤ 1000 ∧ i.natAbs < 2 ^ 1000
theorem op_powW {X : Cx} : OpR X (binaryOp .Pow) (rI CPowW fun i j => .int (i ^ j.toNat)) := opI fun i j _ _ _ _ _ hc q => pow_int hc.1 (by
  have h1 := intBits_le hc.2.2
  have h2 : (Builtin.Int.intBits i : Int) * j ≤ 1000 * j := Int.mul_le_mul_of_nonneg_right (by omega) hc.1
  have h3 := hc.2.1
  have h4 : (2 : Int) ^ 27 = 134217728 := by decide
  rw [h4]; omega) q
/-- what stood stands, but at t and g -/
def Keep (t g : Addr) (H H' : Hp) : Prop := ∀ b o, H b = some o → b ≠ t → b ≠ g → H' b = some o
theorem Keep.refl (t g : Addr) (H : Hp) : Keep t g H H := fun _ _ h _ _ => h
theorem Keep.trans {t g : Addr} {H H1 H2 : Hp} (a : Keep t g H H1) (b : Keep t g H1 H2) : Keep t g H H2 := fun c o h x y => b c o (a c o h x y) x y
/-- the pot, at t: what is left of its number, what is mixed, how many were mixed: no more than n (g is t: the other laws' trays have two parts) -/
structure Tray (H : Hp) (t g : Addr) (n : Nat) : Prop where
  ex : ∃ (f : Int × Int) (c : Int) (u : Unit), H t = some (.lst [.int f.1, .int f.2, .int c]) ∧ H g = some (.lst [.int f.1, .int f.2, .int c]) ∧ 0 ≤ f.1 ∧ 0 ≤ f.2 ∧ f.2 < 2 ^ 70 ∧ 0 ≤ c ∧ c ≤ (n : Int)
  ne : t = g
theorem Tray.same {H H' : Hp} {t g : Addr} {n : Nat} (T : Tray H t g n) (S : Same H H') : Tray H' t g n := by
  obtain ⟨⟨f, c, u, h1, h2, r⟩, hne⟩ := T
  exact ⟨⟨f, c, u, S _ _ h1, S _ _ h2, r⟩, hne⟩
theorem Keep.of_same {t g : Addr} {H H' : Hp} (S : Same H H') : Keep t g H H' := fun b o e _ _ => S b o e
theorem pow_lt {i : Int} {a n : Nat} (h : i.natAbs < 2 ^ a) (h0 : n ≠ 0) : (i ^ n).natAbs < 2 ^ (a * n) := by
  rw [Int.natAbs_pow, Nat.pow_mul]
  exact Nat.pow_lt_pow_left h h0
theorem while_post {c : TT} {tb : TS} {D : Ends} {σ : L2.St} {H : Hp} (Pv : L2.St → Hp → Prop) (μ : L2.St → Hp → Nat) (Po : L2.St → Hp → Prop) (h0 : Pv σ H)
    (hs : ∀ σ H, Pv σ H → c σ H fun b H1 => if b = true then tb { D with nx := fun σ' H' => Pv σ' H' ∧ μ σ' H' < μ σ H, ct := fun σ' H' => Pv σ' H' ∧ μ σ' H' < μ σ H, bk := D.nx } σ H1 else Po σ H1)
    (hd : ∀ σ H, Po σ H → D.nx σ H) (mono : ∀ σ H Q Q', (∀ b H1, Q b H1 → Q' b H1) → c σ H Q → c σ H Q') : tWhile c tb D σ H :=
  while_by Pv μ h0 (fun σ1 H1 p => mono σ1 H1 _ _ (fun b H2 q => by
    cases b with
    | true => exact q
    | false => exact hd _ _ q) (hs σ1 H1 p)) mono
theorem Tray.up {H : Hp} {t g : Addr} {m n : Nat} (T : Tray H t g m) (h : m ≤ n) : Tray H t g n := by
  obtain ⟨⟨f, c, u, h1, h2, a0, b0, b1, hc0, hc1⟩, hne⟩ := T
  exact ⟨⟨f, c, u, h1, h2, a0, b0, b1, hc0, by omega⟩, hne⟩
def spPot (K : PySem.W.Frag) : Sp := fun vs H Q _ => ∃ (a : Addr) (ns : List Int) (i : Int), vs = [.ref a, .int i] ∧ SqL K H a (ns.map V.int) ∧ ns.length ≤ 63 ∧ 0 ≤ i ∧ i ≤ 100 ∧ ∀ (H' : Hp) (t : Addr), Tray H' t t 0 → Same H H' → H t = none → Q (.ref t) H'
def spDraw : Sp := fun vs H Q _ => ∃ (t g : Addr) (n : Nat) (m : Int), vs = [.ref t, .int m] ∧ Tray H t g n ∧ 0 < m ∧ m.natAbs < 2 ^ 1000 ∧ n < 2 ^ 60 ∧
  ∀ (H' : Hp) (r : Int), 0 ≤ r → r < m → Tray H' t g (n + 1) → Keep t g H H' → Q (.int r) H'
section
variable {P : Program} {w : World} {K : PySem.W.Frag} {mg : Str → Option Value} {base : Heap} {Z : Ad}
theorem ok_law_pot (T : Tx K w mg Z) : FnOk P w K mg base CX0 1 Z.a_law_pot Z.d_law_pot P_law_pot (spPot K) := by
  refine T.F_law_pot.ok sclaw_pot (fun vs H Q E h => ?_) (fun cdv A outer s H vs Q E hr h => ?_)
  · obtain ⟨a, ns, i, rfl, _⟩ := h
    rfl
  · obtain ⟨a, ns, i, rfl, hS, hlen, hi0, hi1, k⟩ := h
    refine ⟨_, (pss_cons (ps_set (i := 2) sclaw_pot.nd rfl (Or.inl rfl) pe_int)
      (C8.pss_cut (ps_if (pt_cmpR op_lt (pv 1) (pe_callB (lenK (K := K)) (by rfl) T.b_len (by decide +kernel) (pa_cons (pv 0) pa_nil)) (nomark _)) (pss_one (ps_set (i := 2) sclaw_pot.nd rfl (Or.inl rfl) (pe_ix (ixL (K := K)) (pv 0) (pv 1) (fun _ _ => rfl)))) pss_nil)
      (pss_one (ps_ret (pe_lst (pa_cons (pe_callB (call_max2 rfl) (by rfl) T.b_max (by decide +kernel) (pa_cons pe_int (pa_cons (pe_op op_sub (pe_callB call_abs (by rfl) T.b_abs (by decide +kernel) (pa_cons (pv 2) pa_nil)) (pe_op op_powW pe_int pe_int)) pa_nil))) (pa_cons (pe_op op_add (pe_op op_mod (pv 2) pe_int) (pe_op op_mulW pe_int (pe_op op_add (pv 1) pe_int))) (pa_cons pe_int pa_nil)))))))), ?_⟩
    refine ⟨fun σ' H' => ∃ z : Int, σ' = [some (.ref a), some (.int i), some (.int z)] ∧ H' = H, ?_, ?_⟩
    · refine ⟨_, rfl, _, rfl, a, _, rfl, .inl hS, _, _, rfl, rfl, _, rfl, ite2 (fun c => ?_) (fun _ => ⟨0, rfl, rfl⟩)⟩
      have c' := of_decide_eq_true c
      rw [List.length_map] at c'
      obtain ⟨j, rfl⟩ := Int.eq_ofNat_of_zero_le hi0
      have hj : j < ns.length := by omega
      refine ⟨_, rfl, _, rfl, a, _, _, .int (ns[j]), rfl, rfl, hS, at_of (j := j) rfl (by rw [List.getElem?_map, List.getElem?_eq_getElem hj]; rfl), ns[j], rfl, rfl⟩
    rintro σ1 H1 ⟨z, rfl, rfl⟩
    refine ⟨_, rfl, _, rfl, _, _, rfl, rfl, ⟨by decide, by decide, by decide⟩, _, _, rfl, rfl, _, _, rfl, ?_⟩
    refine ⟨_, rfl, _, _, rfl, rfl, (by show (0 : Int) < _; decide), _, rfl, _, _, rfl, rfl, _, _, rfl, rfl, wide_mul (a := 30) (b := 30) (by decide) (Nat.lt_of_le_of_lt (by omega : (i + 1).natAbs ≤ 101) (by decide)) (by decide) (by decide) (by decide), _, _, rfl, rfl, (by show 3 ≤ sizeLine; decide), fun t ht => ?_⟩
    have hx0 := Int.emod_nonneg z (show (2305843009213693951 : Int) ≠ 0 by decide)
    have hx1 := Int.emod_lt_of_pos z (show (0 : Int) < 2305843009213693951 by decide)
    refine k _ t ⟨⟨(_, _), _, (), upd_same, upd_same, ?_, ?_, ?_, Int.le_refl _, Int.le_refl _⟩, rfl⟩ (same_upd ht) ht
    · have mx : ∀ y : Int, 0 ≤ (if (0 : Int) < y then y else 0) := fun y => by split <;> omega
      exact mx _
    · show 0 ≤ z % 2305843009213693951 + 9699691 * (i + 1)
      omega
    · show z % 2305843009213693951 + 9699691 * (i + 1) < 2 ^ 70
      have e : (2 : Int) ^ 70 = 1180591620717411303424 := by decide
      omega
theorem ok_law_draw (T : Tx K w mg Z) : FnOk P w K mg base CX0 1 Z.a_law_draw Z.d_law_draw P_law_draw (spDraw) := by
  refine T.F_law_draw.ok sclaw_draw (fun vs H Q E h => ?_) (fun cdv A outer s H vs Q E hr h => ?_)
  · obtain ⟨t, g, n, m, rfl, _⟩ := h
    rfl
  · obtain ⟨t, g, n, m, rfl, ⟨⟨⟨a, b⟩, c, u, h1, _, a0, b0, b1, c0, c1⟩, hne⟩, hm, hmb, hn, k⟩ := h
    obtain rfl : t = g := hne
    replace h1 : H t = some (.lst [.int a, .int b, .int c]) := h1
    refine ⟨_, (C8.pss_cut (ps_if (pt_cmpR op_gt (pe_ix (ixL (K := K)) (pv 0) pe_int (fun _ _ => rfl)) pe_int (nomark _)) (pss_cons (ps_set (i := 2) sclaw_draw.nd rfl (Or.inl rfl) (pe_op op_mod (pe_ix (ixL (K := K)) (pv 0) pe_int (fun _ _ => rfl)) (pv 1)))
      (pss_cons (ps_asg (pe_op op_fdivW (pe_ix (ixL (K := K)) (pv 0) pe_int (fun _ _ => rfl)) (pv 1)) (pg_sub (pv 0) pe_int set_list))
      (pss_one (ps_ret (pv 2))))) pss_nil)
      (pss_cons (ps_asg (pe_op op_add (pe_ix (ixL (K := K)) (pv 0) pe_int (fun _ _ => rfl)) pe_int) (pg_sub (pv 0) pe_int set_list))
      (pss_cons (ps_set (i := 3) sclaw_draw.nd rfl (Or.inl rfl) (pe_op op_mod (pe_op op_powW (pe_op op_add (pe_ix (ixL (K := K)) (pv 0) pe_int (fun _ _ => rfl)) (pe_op op_mulW pe_int (pe_ix (ixL (K := K)) (pv 0) pe_int (fun _ _ => rfl)))) pe_int) pe_int))
      (pss_cons (ps_set (i := 3) sclaw_draw.nd rfl (Or.inl rfl) (pe_op op_mod (pe_op op_powW (pe_op op_add (pv 3) (pe_op op_mulW pe_int (pe_ix (ixL (K := K)) (pv 0) pe_int (fun _ _ => rfl)))) pe_int) pe_int))
      (pss_one (ps_ret (pe_op op_mod (pe_op op_fdivW (pv 3) pe_int) (pv 1)))))))), ?_⟩
    refine ⟨fun σ' H' => σ' = [some (.ref t), some (.int m), none, none] ∧ H' = H, ?_, ?_⟩
    · refine ⟨_, rfl, _, _, _, _, rfl, rfl, SqL.of h1, rfl, _, _, rfl, rfl, _, rfl, ite2 (fun _ => ?_) (fun _ => ⟨rfl, rfl⟩)⟩
      refine ⟨_, rfl, _, _, _, _, rfl, rfl, SqL.of h1, rfl, _, rfl, _, _, rfl, rfl, hm, ?_⟩
      refine ⟨_, rfl, _, _, _, _, rfl, rfl, SqL.of h1, rfl, _, rfl, _, _, rfl, rfl, wide_div hm hmb (by decide) (by decide), _, rfl, _, _, _, 0, rfl, rfl, h1, rfl, _, rfl, ?_⟩
      exact k _ _ (Int.emod_nonneg _ (by omega)) (Int.emod_lt_of_pos _ hm) ⟨⟨(a / m, b), c, (), upd_same, upd_same, Int.ediv_nonneg a0 (by omega), b0, b1, c0, by push_cast; omega⟩, rfl⟩ fun x o e n1 _ => (upd_ne n1).trans e
    rintro σ1 H1 ⟨rfl, rfl⟩
    refine ⟨_, rfl, _, _, _, _, rfl, rfl, SqL.of h1, rfl, _, _, rfl, rfl, _, rfl, _, _, _, 2, rfl, rfl, h1, rfl, ?_⟩
    have g1 : (upd H1 t (.lst (List.set [.int a, .int b, .int c] 2 (.int (c + 1))))) t = some (.lst [.int a, .int b, .int (c + 1)]) := upd_same
    have hT : Tray (upd H1 t (.lst (List.set [.int a, .int b, .int c] 2 (.int (c + 1))))) t t (n + 1) := ⟨⟨(a, b), c + 1, (), g1, g1, a0, b0, b1, by omega, by push_cast; omega⟩, rfl⟩
    have hK : Keep t t H1 (upd H1 t (.lst (List.set [.int a, .int b, .int c] 2 (.int (c + 1))))) := fun x o e n1 _ => (upd_ne n1).trans e
    generalize upd H1 t (.lst (List.set [.int a, .int b, .int c] 2 (.int (c + 1)))) = H2 at g1 hT hK ⊢
    have bc : (c + 1).natAbs < 2 ^ 61 := by omega
    have bb : b.natAbs < 2 ^ 70 := by omega
    have b15 : (15485863 * (c + 1)).natAbs < 2 ^ 90 := wide_lt (i := 15485863) (a := 29) (by decide) bc
    have bs : (b + 15485863 * (c + 1)).natAbs < 2 ^ 91 := add_lt (lt_up bb (by decide)) b15
    refine ⟨_, rfl, _, _, _, _, rfl, rfl, SqL.of g1, rfl, _, rfl, _, _, _, _, rfl, rfl, SqL.of g1, rfl, _, _, rfl, rfl, wide_mul (a := 30) (b := 61) (by decide) bc (by decide) (by decide) (by decide), _, _, rfl, rfl, _, _, rfl, rfl, ⟨by decide, by decide, lt_up bs (by decide)⟩, _, _, rfl, rfl, (by show (0 : Int) < _; decide), ?_⟩
    have hx0 := Int.emod_nonneg ((b + 15485863 * (c + 1)) ^ (3 : Int).toNat) (show (162259276829213363391578010288127 : Int) ≠ 0 by decide)
    have hx1 := Int.emod_lt_of_pos ((b + 15485863 * (c + 1)) ^ (3 : Int).toNat) (show (0 : Int) < 162259276829213363391578010288127 by decide)
    obtain ⟨x, hx⟩ : ∃ x, x = (b + 15485863 * (c + 1)) ^ (3 : Int).toNat % 162259276829213363391578010288127 := ⟨_, rfl⟩
    rw [← hx] at hx0 hx1
    have bx : x.natAbs < 2 ^ 107 := Nat.lt_of_le_of_lt (by omega : x.natAbs ≤ 162259276829213363391578010288127) (by decide)
    have b32 : (32452843 * (c + 1)).natAbs < 2 ^ 90 := wide_lt (i := 32452843) (a := 29) (by decide) bc
    have bs2 : (x + 32452843 * (c + 1)).natAbs < 2 ^ 108 := add_lt bx (lt_up b32 (by decide))
    rw [hx] at bs2
    refine ⟨_, rfl, _, rfl, _, _, _, _, rfl, rfl, SqL.of g1, rfl, _, _, rfl, rfl, wide_mul (a := 30) (b := 61) (by decide) bc (by decide) (by decide) (by decide), _, _, rfl, rfl, _, _, rfl, rfl, ⟨by decide, by decide, lt_up bs2 (by decide)⟩, _, _, rfl, rfl, (by show (0 : Int) < _; decide), ?_⟩
    refine ⟨_, rfl, _, _, rfl, rfl, wide_div (b := 30) (by decide) (by decide) (by decide) (by decide), _, rfl, _, _, rfl, rfl, hm, ?_⟩
    exact k _ _ (Int.emod_nonneg _ (by omega)) (Int.emod_lt_of_pos _ hm) hT hK
end
end KA
namespace KA
open PySem PySem.Spec PyProof.Rows L2 DP
abbrev Pr := Int × Int
def encP (p : Pr) : PyData := .tuple [.int p.1, .int p.2]
theorem noL_encP (p : Pr) : noL (encP p) = true := rfl
/-- a list of data at p, tracked -/
def LAt (K : PySem.W.Frag) (H : Hp) (p : Addr) (ds : List PyData) : Prop := ∃ vs, H p = some (.lst vs) ∧ DpAll K H vs ds
theorem LAt.dp {K : PySem.W.Frag} {H : Hp} {p : Addr} {ds : List PyData} (h : LAt K H p ds) : Dp K H (.ref p) (.list ds) := by
  obtain ⟨vs, h1, h2⟩ := h
  exact .lst (SqL.of h1) h2
theorem LAt.same {K : PySem.W.Frag} {H H' : Hp} {p : Addr} {ds : List PyData} (h : LAt K H p ds) (S : Same H H') : LAt K H' p ds := by
  obtain ⟨vs, h1, h2⟩ := h
  exact ⟨vs, S _ _ h1, dpAll_mono S _ _ h2⟩
theorem Keep.tups {H H' : Hp} {t g : Addr} {n : Nat} (T : Tray H t g n) (k : Keep t g H H') : Tups H H' := fun b xs hb => by
  obtain ⟨⟨gs, f, c, h1, h2, r⟩, hne⟩ := T
  rcases hb with e | ⟨q, e⟩
  · refine .inl (k b _ e ?_ ?_) <;> rintro rfl
    · rw [h1] at e; cases e
    · rw [h2] at e; cases e
  · refine .inr ⟨q, k b _ e ?_ ?_⟩ <;> rintro rfl
    · rw [h1] at e; cases e
    · rw [h2] at e; cases e
theorem LAt.keep {K : PySem.W.Frag} {H H' : Hp} {t g p : Addr} {n : Nat} {ds : List PyData} (h : LAt K H p ds) (T : Tray H t g n) (k : Keep t g H H') (h1 : p ≠ t) (h2 : p ≠ g) (hn : noL.noLs ds = true) : LAt K H' p ds := by
  obtain ⟨vs, a, b⟩ := h
  exact ⟨vs, k _ _ a h1 h2, dpAll_tups (Keep.tups T k) _ _ hn b⟩
theorem Tray.at_ne {H : Hp} {t g p : Addr} {n : Nat} (T : Tray H t g n) (hp : H p = none) : p ≠ t ∧ p ≠ g := by
  obtain ⟨⟨gs, f, c, h1, h2, r⟩, hne⟩ := T
  exact ⟨Ne.symm (ne_of_none h1 hp), Ne.symm (ne_of_none h2 hp)⟩
theorem dp_pair {K : PySem.W.Frag} {H : Hp} {v : V} {p : Pr} (h : Dp K H v (encP p)) : ∃ a, v = .ref a ∧ SqT K H a [.int p.1, .int p.2] := by
  have h' : Dp K H v (.tuple [.int p.1, .int p.2]) := h
  cases h' with
  | tup s a =>
    cases a with
    | cons a1 a =>
      cases a with
      | cons a2 a =>
        cases a; cases a1; cases a2
        exact ⟨_, rfl, s⟩
theorem dp_two {K : PySem.W.Frag} {H : Hp} {q : Addr} {a b : Int} (h : H q = some (.tup [.int a, .int b])) : Dp K H (.ref q) (encP (a, b)) := .tup (SqT.of h) (.cons (.int _) (.cons (.int _) .nil))
theorem small_nat {L : Int} {a : Int} {n : Nat} (h0 : 0 ≤ a) (h1 : a ≤ L) (hL : L.natAbs < 2 ^ n) : a.natAbs < 2 ^ n := Nat.lt_of_le_of_lt (by omega : a.natAbs ≤ L.natAbs) hL
theorem bigL {L : Int} (h0 : 0 < L) (h : L ≤ 10 ^ 30) : L.natAbs < 2 ^ 100 := by
  have e : (10 : Int) ^ 30 = 1000000000000000000000000000000 := by decide
  have e2 : (2 : Nat) ^ 100 = 1267650600228229401496703205376 := by decide
  rw [e] at h; rw [e2]; omega
/-- what the deck's calls keep of the frame: the deck, all else, so far m draws -/
structure At (H Hc : Hp) (t g : Addr) (m : Nat) : Prop where
  T : Tray Hc t g m
  k : Keep t g H Hc
theorem At.step {H H1 H2 : Hp} {t g : Addr} {m m' : Nat} (a : At H H1 t g m) (T : Tray H2 t g m') (k : Keep t g H1 H2) : At H H2 t g m' := ⟨T, a.k.trans k⟩
theorem At.up {H Hc : Hp} {t g : Addr} {m m' : Nat} (a : At H Hc t g m) (h : m ≤ m') : At H Hc t g m' := ⟨a.T.up h, a.k⟩
theorem At.new {H H1 : Hp} {t g p : Addr} {m : Nat} {o : HO} (a : At H H1 t g m) (hp : H1 p = none) : At H (upd H1 p o) t g m := ⟨a.T.same (same_upd hp), a.k.trans (Keep.of_same (same_upd hp))⟩
theorem At.sm {H H1 H2 : Hp} {t g : Addr} {m : Nat} (a : At H H1 t g m) (S : Same H1 H2) : At H H2 t g m := ⟨a.T.same S, a.k.trans (Keep.of_same S)⟩
theorem At.free {H H1 : Hp} {t g p : Addr} {m : Nat} (a : At H H1 t g m) (hp : H1 p = none) : H p = none := by
  obtain ⟨h1, h2⟩ := a.T.at_ne hp
  cases e : H p with
  | none => rfl
  | some o =>
    rw [a.k p o e h1 h2] at hp
    cases hp
/-- a list that a comprehension makes is changed: it is new -/
theorem At.acc {H H1 : Hp} {t g D : Addr} {m : Nat} {o : HO} (a : At H H1 t g m) (hD : H D = none) (h1 : D ≠ t) (h2 : D ≠ g) : At H (upd H1 D o) t g m := by
  obtain ⟨⟨⟨gs, f, c, e1, e2, r⟩, hne⟩, k⟩ := a
  exact ⟨⟨⟨gs, f, c, (upd_ne (Ne.symm h1)).trans e1, (upd_ne (Ne.symm h2)).trans e2, r⟩, hne⟩, fun b o e n1 n2 => (upd_ne (ne_of_none e hD)).trans (k b o e n1 n2)⟩
end KA
namespace KA
open PySem PySem.Spec PyProof.Rows L2 DP
/-- a Dark's list of looks is not the deck -/
def Off (Z : Ad) (H : Hp) (d : Addr) (L : Int) (t g : Addr) : Prop := ∀ la dx, H d = some (.ins Z.C dx (df L la)) → la ≠ t ∧ la ≠ g
theorem DarkAt.keep {Z : Ad} {K : PySem.W.Frag} {H H' : Hp} {t g d : Addr} {n : Nat} {L : Int} {ls : List Lk} (D : DarkAt Z K H d L ls) (T : Tray H t g n) (k : Keep t g H H') (hla : Off Z H d L t g) : DarkAt Z K H' d L ls ∧ Off Z H' d L t g := by
  obtain ⟨dx, la, vs, h1, h2, h3⟩ := D.ex
  obtain ⟨a1, a2⟩ := hla la dx h1
  have hd : d ≠ t ∧ d ≠ g := by
    obtain ⟨⟨gs, f, c, e1, e2, r⟩, hne⟩ := T
    refine ⟨?_, ?_⟩ <;> rintro rfl
    · rw [h1] at e1; cases e1
    · rw [h1] at e2; cases e2
  have h1' := k _ _ h1 hd.1 hd.2
  refine ⟨⟨⟨dx, la, vs, h1', k _ _ h2 a1 a2, dpAll_tups (Keep.tups T k) _ _ (noLs_map noL_encL ls) h3⟩, D.pos, D.big, D.ok, D.len⟩, fun la' dx' e => ?_⟩
  rw [h1'] at e
  rw [← df_inj e]
  exact ⟨a1, a2⟩
theorem Off.same {Z : Ad} {K : PySem.W.Frag} {H H' : Hp} {d t g : Addr} {L : Int} {ls : List Lk} (O : Off Z H d L t g) (D : DarkAt Z K H d L ls) (S : Same H H') : Off Z H' d L t g := fun la dx e => by
  obtain ⟨dx', la', _, h1, _⟩ := D.ex
  have e2 := S _ _ h1
  rw [e] at e2
  rw [df_inj e2]
  exact O la' dx' h1
end KA
namespace KA
open PySem PySem.Spec PyProof.Rows L2 DP
/-! ### a leading, used again and again -/
def itf (f : Int → Int) (x : Int) : Nat → Int
  | 0 => x
  | n + 1 => f (itf f x n)
theorem itf_add (f : Int → Int) (x : Int) (m : Nat) : ∀ n, itf f x (m + n) = itf f (itf f x m) n
  | 0 => rfl
  | n + 1 => by
    show f (itf f x (m + n)) = f (itf f (itf f x m) n)
    rw [itf_add f x m n]
section
variable {L : Int} {f : Int → Int}
theorem itf_mono (F : Hand L f) {x y : Int} (h : x ≤ y) : ∀ n, itf f x n ≤ itf f y n
  | 0 => h
  | n + 1 => F.mono _ _ (itf_mono F h n)
theorem itf_shift (F : Hand L f) (x k : Int) : ∀ n, itf f (x + k * L) n = itf f x n + k * L
  | 0 => rfl
  | n + 1 => by
    show f (itf f (x + k * L) n) = f (itf f x n) + k * L
    rw [itf_shift F x k n, F.turn]
theorem itf_laps (F : Hand L f) {x c : Int} {p : Nat} (h : itf f x p = x + c * L) : ∀ t : Nat, itf f x (t * p) = x + t * (c * L)
  | 0 => by simp [itf]
  | t + 1 => by
    rw [Nat.succ_mul, Nat.add_comm, itf_add, h, itf_shift F, itf_laps F h t]
    push_cast
    grind
/-- two pointers stay so many turns together -/
theorem itf_near (F : Hand L f) {x y m : Int} (h : x ≤ y + m * L) (n : Nat) : itf f x n ≤ itf f y n + m * L := by
  have := itf_mono F h n
  rwa [itf_shift F] at this
theorem far_turns (hL : 0 < L) (x y : Int) : x ≤ y + ((x - y).natAbs : Int) * L := by
  have h : ((x - y).natAbs : Int) * 1 ≤ ((x - y).natAbs : Int) * L := Int.mul_le_mul_of_nonneg_left (by omega) (by omega)
  omega
/-- all that come round do so at one pace -/
theorem pace_cmp (hL : 0 < L) (F : Hand L f) {x c z k : Int} {p q : Nat} (h1 : itf f x p = x + c * L) (h2 : itf f z q = z + k * L) : c * q = k * p := by
  obtain ⟨m, hm⟩ : ∃ m : Int, m = ((x - z).natAbs : Int) := ⟨_, rfl⟩
  have n1 := far_turns hL x z
  have n2 := far_turns hL z x
  have e : (z - x).natAbs = (x - z).natAbs := by omega
  rw [e] at n2
  rw [← hm] at n1 n2
  have m0 : 0 ≤ m := by omega
  obtain ⟨t, ht⟩ : ∃ t : Nat, (t : Int) = 2 * m + 1 := ⟨(2 * m + 1).toNat, by omega⟩
  have a1 : itf f x (t * (q * p)) = x + ((t * q : Nat) : Int) * (c * L) := by rw [← Nat.mul_assoc]; exact itf_laps F h1 _
  have a2 : itf f z (t * (q * p)) = z + ((t * p : Nat) : Int) * (k * L) := by rw [Nat.mul_comm q p, ← Nat.mul_assoc]; exact itf_laps F h2 _
  have b1 := itf_near F n1 (t * (q * p))
  have b2 := itf_near F n2 (t * (q * p))
  rw [a1, a2] at b1 b2
  push_cast at b1 b2
  rw [ht] at b1 b2
  have key : ∀ d : Int, (2 * m + 1) * d * L ≤ 2 * m * L → 0 < d → False := fun d g3 hd => by
    have g4 : (2 * m + 1) * 1 * L ≤ (2 * m + 1) * d * L := by
      refine Int.mul_le_mul_of_nonneg_right (Int.mul_le_mul_of_nonneg_left (by omega) (by omega)) (by omega)
    have g5 : (2 * m + 1) * 1 * L = 2 * m * L + L := by grind
    omega
  have e1 : (2 * m + 1) * (q : Int) * (c * L) = (2 * m + 1) * (c * q) * L := by grind
  have e2 : (2 * m + 1) * (p : Int) * (k * L) = (2 * m + 1) * (k * p) * L := by grind
  have e3 : 2 * m * L = m * L + m * L := by grind
  rw [e1, e2] at b1 b2
  rcases Int.lt_trichotomy (c * q) (k * p) with h | h | h
  · exfalso
    refine key (k * p - c * q) ?_ (by omega)
    have : (2 * m + 1) * (k * p - c * q) * L = (2 * m + 1) * (k * p) * L - (2 * m + 1) * (c * q) * L := by grind
    omega
  · exact h
  · exfalso
    refine key (c * q - k * p) ?_ (by omega)
    have : (2 * m + 1) * (c * q - k * p) * L = (2 * m + 1) * (c * q) * L - (2 * m + 1) * (k * p) * L := by grind
    omega
/-- a pace in lowest terms -/
structure PaceOf (L : Int) (f : Int → Int) (pr : Int × Int) : Prop where
  pos : 0 < pr.2
  cop : Int.gcd pr.1 pr.2 = 1
  lap : ∃ (x c : Int) (p : Nat), 0 < p ∧ itf f x p = x + c * L ∧ pr.1 * p = c * pr.2
/-- who comes round, comes round at the pace -/
theorem PaceOf.all {pr : Int × Int} (hL : 0 < L) (F : Hand L f) (P : PaceOf L f pr) {z k : Int} {q : Nat} (h : itf f z q = z + k * L) : pr.1 * q = k * pr.2 := by
  obtain ⟨x, c, p, p0, h1, h2⟩ := P.lap
  have h3 := pace_cmp hL F h1 h
  have e : (pr.1 * q) * p = (k * pr.2) * p := by grind
  exact Int.eq_of_mul_eq_mul_right (by omega) e
/-- a pace above 0 leads however far -/
theorem fwd (hL : 0 < L) (F : Hand L f) {pr : Int × Int} (P : PaceOf L f pr) (h0 : 0 < pr.1) (z y : Int) : ∃ n, y ≤ itf f z n := by
  obtain ⟨x, c, p, p0, h1, h2⟩ := P.lap
  have c0 : 0 < c := by
    have e : 0 < pr.1 * (p : Int) := Int.mul_pos h0 (by omega)
    rw [h2] at e
    have := P.pos
    by_cases hc : 0 < c
    · exact hc
    · exfalso
      have := Int.mul_nonpos_of_nonpos_of_nonneg (show c ≤ 0 by omega) (show 0 ≤ pr.2 by omega)
      omega
  obtain ⟨m, hm⟩ : ∃ m : Int, m = ((x - z).natAbs : Int) := ⟨_, rfl⟩
  have n1 := far_turns hL x z
  rw [← hm] at n1
  refine ⟨((y - x).natAbs + m.toNat) * p, ?_⟩
  have b := itf_near F n1 (((y - x).natAbs + m.toNat) * p)
  rw [itf_laps F h1] at b
  have g1 : (((y - x).natAbs + m.toNat : Nat) : Int) * L ≤ (((y - x).natAbs + m.toNat : Nat) : Int) * (c * L) := by
    refine Int.mul_le_mul_of_nonneg_left ?_ (by omega)
    have : 1 * L ≤ c * L := Int.mul_le_mul_of_nonneg_right (by omega) (by omega)
    omega
  have g2 : ((y - x).natAbs : Int) * 1 ≤ ((y - x).natAbs : Int) * L := Int.mul_le_mul_of_nonneg_left (by omega) (by omega)
  have g3 : (((y - x).natAbs + m.toNat : Nat) : Int) * L = ((y - x).natAbs : Int) * L + m * L := by
    have : ((m.toNat : Nat) : Int) = m := by omega
    push_cast
    rw [this]
    grind
  omega
/-- at a pace of 0 or below: a first use that comes so far is none behind which a place came again -/
theorem first_new (hL : 0 < L) (F : Hand L f) {pr : Int × Int} (P : PaceOf L f pr) (h0 : pr.1 ≤ 0) {z y : Int} {n : Nat} (hn : y ≤ itf f z n) (hb : ∀ k, k < n → itf f z k < y) {i j : Nat} (hij : i < j) (hj : j ≤ n) : itf f z i % L ≠ itf f z j % L := fun e => by
  obtain ⟨k, hk⟩ : ∃ k, itf f z j = itf f z i + k * L := by
    refine ⟨itf f z j / L - itf f z i / L, ?_⟩
    have q1 := Int.mul_ediv_add_emod (itf f z i) L
    have q2 := Int.mul_ediv_add_emod (itf f z j) L
    have : (itf f z j / L - itf f z i / L) * L = L * (itf f z j / L) - L * (itf f z i / L) := by grind
    omega
  have e1 : itf f (itf f z i) (j - i) = itf f z i + k * L := by
    rw [← itf_add, show i + (j - i) = j by omega, hk]
  have e2 := P.all hL F e1
  have hp := P.pos
  have k0 : k ≤ 0 := by
    by_cases hk0 : k ≤ 0
    · exact hk0
    · exfalso
      have g1 : 0 < k * pr.2 := Int.mul_pos (by omega) hp
      have g2 : pr.1 * ((j - i : Nat) : Int) ≤ 0 := Int.mul_nonpos_of_nonpos_of_nonneg h0 (by omega)
      omega
  have e3 : itf f z n = itf f z (i + (n - j)) + k * L := by
    have : itf f z n = itf f (itf f z j) (n - j) := by rw [← itf_add, show j + (n - j) = n by omega]
    rw [this, hk, itf_shift F, ← itf_add]
  have g3 : k * L ≤ 0 := Int.mul_nonpos_of_nonpos_of_nonneg k0 (by omega)
  have := hb (i + (n - j)) (by omega)
  omega
/-- the pace is one -/
theorem PaceOf.one {pr pr' : Int × Int} (hL : 0 < L) (F : Hand L f) (P : PaceOf L f pr) (P' : PaceOf L f pr') : pr = pr' := by
  obtain ⟨x, c, p, p0, h1, h2⟩ := P'.lap
  have h3 := P.all hL F h1
  have e : pr.1 * pr'.2 = pr'.1 * pr.2 := by
    have e1 : (pr.1 * pr'.2) * p = (pr'.1 * pr.2) * p := by grind
    exact Int.eq_of_mul_eq_mul_right (by omega) e1
  have a := Int.gcd_mul_right pr.1 pr'.2 pr.2
  have b := Int.gcd_mul_right pr'.1 pr.2 pr'.2
  have p1 := P.pos
  have p2 := P'.pos
  rw [P.cop] at a
  rw [P'.cop] at b
  rw [e, Int.mul_comm pr.2 pr'.2] at a
  rw [a] at b
  have e3 : pr.2 = pr'.2 := by omega
  have e4 : pr.1 = pr'.1 := by
    rw [e3] at e
    exact Int.eq_of_mul_eq_mul_right (by omega) e
  exact Prod.ext e4 e3
/-- at the pace, but for a turn -/
theorem pace_near (hL : 0 < L) {f : Int → Int} (F : Hand L f) {pr : Int × Int} (P : PaceOf L f pr) (z : Int) (n : Nat) : ((itf f z n - z) * pr.2 - n * pr.1 * L).natAbs ≤ (pr.2 * L).natAbs := by
  obtain ⟨x, c, p, p0, h1, h2⟩ := P.lap
  have hp2 := P.pos
  -- what n uses do anywhere, they do everywhere but for a turn
  have turnOf : ∀ y : Int, ∃ k : Int, z + k * L ≤ y ∧ y < z + (k + 1) * L := fun y => by
    refine ⟨(y - z) / L, ?_⟩
    have q1 := Int.mul_ediv_add_emod (y - z) L
    have q2 := Int.emod_nonneg (y - z) (show L ≠ 0 by omega)
    have q3 := Int.emod_lt_of_pos (y - z) hL
    have e1 : (y - z) / L * L = L * ((y - z) / L) := Int.mul_comm _ _
    have e2 : ((y - z) / L + 1) * L = (y - z) / L * L + L := by grind
    omega
  have up : ∀ y : Int, itf f y n - y ≤ itf f z n - z + L := fun y => by
    obtain ⟨k, k1, k2⟩ := turnOf y
    have h := itf_mono F (Int.le_of_lt k2) n
    rw [itf_shift F] at h
    have e2 : (k + 1) * L = k * L + L := by grind
    omega
  have dn : ∀ y : Int, itf f z n - z - L ≤ itf f y n - y := fun y => by
    obtain ⟨k, k1, k2⟩ := turnOf y
    have h := itf_mono F k1 n
    rw [itf_shift F] at h
    have e2 : (k + 1) * L = k * L + L := by grind
    omega
  have upN : ∀ (m : Nat) (y : Int), itf f y (m * n) - y ≤ m * (itf f z n - z + L) := by
    intro m
    induction m with
    | zero => intro y; simp [itf]
    | succ m ih =>
      intro y
      rw [show (m + 1) * n = n + m * n by rw [Nat.succ_mul, Nat.add_comm], itf_add]
      have a := up y
      have b := ih (itf f y n)
      have e : ((m + 1 : Nat) : Int) * (itf f z n - z + L) = m * (itf f z n - z + L) + (itf f z n - z + L) := by push_cast; grind
      omega
  have dnN : ∀ (m : Nat) (y : Int), m * (itf f z n - z - L) ≤ itf f y (m * n) - y := by
    intro m
    induction m with
    | zero => intro y; simp [itf]
    | succ m ih =>
      intro y
      rw [show (m + 1) * n = n + m * n by rw [Nat.succ_mul, Nat.add_comm], itf_add]
      have a := dn y
      have b := ih (itf f y n)
      have e : ((m + 1 : Nat) : Int) * (itf f z n - z - L) = m * (itf f z n - z - L) + (itf f z n - z - L) := by push_cast; grind
      omega
  have a := upN p x
  have b := dnN p x
  have e := itf_laps F h1 n
  rw [Nat.mul_comm] at e
  rw [e] at a b
  generalize itf f z n - z = D at a b ⊢
  have e3 : (n : Int) * (c * L) * pr.2 = n * pr.1 * L * p := by grind
  have a1 : n * pr.1 * L * p ≤ (D + L) * pr.2 * p := by
    have := Int.mul_le_mul_of_nonneg_right (show (n : Int) * (c * L) ≤ p * (D + L) by omega) (Int.le_of_lt hp2)
    have e4 : (p : Int) * (D + L) * pr.2 = (D + L) * pr.2 * p := by grind
    omega
  have b1 : (D - L) * pr.2 * p ≤ n * pr.1 * L * p := by
    have := Int.mul_le_mul_of_nonneg_right (show (p : Int) * (D - L) ≤ (n : Int) * (c * L) by omega) (Int.le_of_lt hp2)
    have e4 : (p : Int) * (D - L) * pr.2 = (D - L) * pr.2 * p := by grind
    omega
  have a2 := Int.le_of_mul_le_mul_right a1 (by omega)
  have b2 := Int.le_of_mul_le_mul_right b1 (by omega)
  have e5 : (D + L) * pr.2 = D * pr.2 + pr.2 * L := by grind
  have e6 : (D - L) * pr.2 = D * pr.2 - pr.2 * L := by grind
  have e7 : 0 ≤ pr.2 * L := Int.mul_nonneg (Int.le_of_lt hp2) (Int.le_of_lt hL)
  omega
/-- each lead so many turns farther -/
theorem pace_farther {f : Int → Int} (F : Hand L f) {pr : Int × Int} (P : PaceOf L f pr) (k : Int) : PaceOf L (fun x => f x + k * L) (pr.1 + k * pr.2, pr.2) := by
  obtain ⟨x, c, p, p0, h1, h2⟩ := P.lap
  have h : ∀ (n : Nat) (x : Int), itf (fun x => f x + k * L) x n = itf f x n + n * (k * L) := by
    intro n
    induction n with
    | zero => intro x; simp [itf]
    | succ n ih =>
      intro x
      show f (itf (fun x => f x + k * L) x n) + k * L = f (itf f x n) + _
      rw [ih]
      have e : (n : Int) * (k * L) = (n * k) * L := by grind
      rw [e, F.turn]
      push_cast
      grind
  refine ⟨P.pos, ?_, x, c + p * k, p, p0, ?_, ?_⟩
  · show Int.gcd (pr.1 + k * pr.2) pr.2 = 1
    rw [Int.gcd_add_mul_right_left]; exact P.cop
  · rw [h, h1]; grind
  · show (pr.1 + k * pr.2) * p = (c + p * k) * pr.2
    grind
end
def lowT (a b : Int) : Int × Int := (a / (Int.gcd a b : Int), b / (Int.gcd a b : Int))
theorem low_terms {a b : Int} (hb : 0 < b) : Int.gcd (a / (Int.gcd a b : Int)) (b / (Int.gcd a b : Int)) = 1 ∧ 0 < b / (Int.gcd a b : Int) ∧ a / (Int.gcd a b : Int) * b = a * (b / (Int.gcd a b : Int)) ∧ b / (Int.gcd a b : Int) ≤ b := by
  have g0 : 0 < Int.gcd a b := Int.gcd_pos_of_ne_zero_right a (by omega)
  have d1 := Int.gcd_dvd_left a b
  have d2 := Int.gcd_dvd_right a b
  refine ⟨Int.gcd_ediv_gcd_ediv_gcd g0, ?_, ?_, ?_⟩
  · rw [Int.lt_ediv_iff_mul_lt (by omega) d2]; omega
  · obtain ⟨x, hx⟩ := d1
    obtain ⟨y, hy⟩ := d2
    generalize hg : (Int.gcd a b : Int) = g at *
    rw [hx, Int.mul_ediv_cancel_left _ (by omega), hy, Int.mul_ediv_cancel_left _ (by omega)]
    grind
  · exact Int.ediv_le_self _ (by omega)
def SzQ (n : Nat) (s : Int × Int) : Prop := s.1.natAbs < 2 ^ n ∧ s.2.natAbs < 2 ^ n
theorem lowQ_size {a b : Int} {n : Nat} (ha : a.natAbs < 2 ^ n) (hb : b.natAbs < 2 ^ n) : SzQ n (lowT a b) := ⟨Nat.lt_of_le_of_lt (Int.natAbs_ediv_le_natAbs _ _) ha, Nat.lt_of_le_of_lt (Int.natAbs_ediv_le_natAbs _ _) hb⟩
end KA
namespace KA
open PySem PySem.Spec PyProof.Rows L2 DP
/-! ### the pace that a walk shows -/
def spLowest (K : PySem.W.Frag) : Sp := fun vs H Q _ => ∃ (a b : Int), vs = [.int a, .int b] ∧ 0 < b ∧ b.natAbs < 2 ^ 1000 ∧ ∀ H' r, Same H H' → Dp K H' r (encP (lowT a b)) → Q r H'
/-- a round's pace, from 0 on, in lowest terms -/
structure RPace (sd : Str) (L : Int) (kn : List (List Lk)) (pr : Pr) : Prop where
  pos : 0 < pr.2
  cop : Int.gcd pr.1 pr.2 = 1
  lap : ∃ (n p : Nat) (x c : Int), 0 < p ∧ it sd L kn 0 n = some x ∧ it sd L kn 0 (n + p * kn.length) = some (x + c * L) ∧ pr.1 * p = c * pr.2
def encO : Option Pr → PyData
  | none => .none
  | some l => encP l
/-- what a walk tells: no pace, for it breaks off, or one -/
def PaceOpt (sd : Str) (L : Int) (kn : List (List Lk)) (o : Option Pr) : Prop := (o = none ∧ ∃ n, it sd L kn 0 n = none) ∨ ∃ pr, o = some pr ∧ RPace sd L kn pr ∧ SzQ 393 pr
def spSideP (Z : Ad) (K : PySem.W.Frag) : Sp := fun vs H Q _ => ∃ (hp : Addr) (ds : List Addr) (sd : Str) (L : Int) (hs : List (List Lk)), vs = [.ref hp, .str sd] ∧ SqL K H hp (refs ds) ∧ Darks Z K H ds L hs ∧ 0 < ds.length ∧ ds.length ≤ 60 ∧ SideOk sd ∧
  ∀ H' r o, Same H H' → Dp K H' r (encO o) → PaceOpt sd L (hs.map (sideOf sd)) o → Q r H'
section
variable {P : Program} {w : World} {K : PySem.W.Frag} {mg : Str → Option Value} {base : Heap} {Z : Ad}
theorem ok_lowest (T : Tx K w mg Z) : FnOk P w K mg base CX0 1 Z.a_lowest Z.d_lowest P_lowest (spLowest K) := by
  refine T.F_lowest.ok sclowest (fun vs H Q E h => ?_) (fun cdv A outer s H vs Q E hr h => ?_)
  · obtain ⟨a, b, rfl, _⟩ := h
    rfl
  · obtain ⟨a, b, rfl, hb, hbb, k⟩ := h
    have g0 : 0 < Int.gcd a b := Int.gcd_pos_of_ne_zero_right a (by omega)
    have g1 : (Int.gcd a b : Int) ≤ b := Int.gcd_le_right a hb
    have g2 : ((Int.gcd a b : Int)).natAbs < 2 ^ 1000 := Nat.lt_of_le_of_lt (by omega) hbb
    refine ⟨_, (pss_cons (ps_set (i := 2) sclowest.nd rfl (Or.inl rfl) (pe_callBfun cr_gcd (by rfl) T.g_gcd (pa_cons (pv 0) (pa_cons (pv 1) pa_nil))))
      (pss_one (ps_ret (pe_tup (pa_cons (pe_op op_fdivW (pv 0) (pv 2)) (pa_cons (pe_op op_fdivW (pv 1) (pv 2)) pa_nil)))))), ?_⟩
    refine ⟨_, rfl, _, rfl, a, b, rfl, ?_⟩
    have e : ((Nat.gcd a.natAbs b.natAbs : Nat) : Int) = (Int.gcd a b : Int) := rfl
    rw [e]
    refine ⟨_, rfl, _, rfl, _, _, rfl, rfl, wide_div (by omega) g2 (by decide) (by decide), _, rfl, _, rfl, _, _, rfl, rfl, wide_div (by omega) g2 (by decide) (by decide), (by show 2 ≤ sizeLine; decide), fun q hq => ?_⟩
    exact k _ _ (same_upd hq) (dp_two upd_same)
theorem ok_side_pace (T : Tx K w mg Z) : FnOk P w K mg base CX0 6 Z.a_side_pace Z.d_side_pace P_side_pace (spSideP Z K) := by
  refine T.F_side_pace.ok scside_pace (fun vs H Q E h => ?_) (fun cdv A outer s H vs Q E hr h => ?_)
  · obtain ⟨hp, ds, sd, L, hs, rfl, _⟩ := h
    rfl
  · obtain ⟨hp, ds, sd, L, hs, rfl, hh, hD, hd0, hd1, hsd, k⟩ := h
    refine ⟨_, (pss_cons (ps_set (i := 2) scside_pace.nd rfl (Or.inl rfl) (pe_make T.mk_Walk (ok_Walk_init T) (hr.mono (by decide)) (by rfl) T.g_Walk T.bb_Walk_init .nil pass0 (pa_cons (pv 0) (pa_cons (pv 1) (pa_cons pe_int pa_nil)))))
      (C8.pss_cut (ps_if (pt_cmpR op_isN (fldK (K := K) (pv 2) rfl) pe_non (nomark _)) (pss_one (ps_ret pe_non)) pss_nil)
      (pss_one (ps_ret (pe_call (ok_lowest T) (hr.mono (by decide)) (by rfl) T.g_lowest T.F_lowest.kp T.bb_lowest .nil pass0 (pa_cons (pe_op op_fdivW (pe_meth0 (pv 2) T.cl_Walk T.m_Walk_climb (ok_Walk_climb T) (hr.mono (by decide)) T.bb_Walk_climb .nil pass0) (pe_meth0 (pe_ix (ixL (K := K)) (pv 0) pe_int (fun _ _ => rfl)) T.cl T.m_Dark_length (ok_Dark_length T) (hr.mono (by decide)) T.bb_Dark_length .nil pass0)) (pa_cons (pe_op op_fdivW (pe_meth0 (pv 2) T.cl_Walk T.m_Walk_period (ok_Walk_period T) (hr.mono (by decide)) T.bb_Walk_period .nil pass0) (pe_callB (lenK (K := K)) (by rfl) T.b_len (by decide +kernel) (pa_cons (pv 0) pa_nil))) pa_nil))))))), ?_⟩
    refine ⟨_, rfl, _, rfl, fun w dx hwn hdx hne => ?_⟩
    have S2 := same_made (o := HO.ins Z.C_Walk dx []) hwn hdx
    have hD2 := hD.same S2
    have hdw : ∀ d ∈ ds, d ≠ w := fun d hd e => by
      obtain ⟨i, hi, e1⟩ := List.getElem_of_mem hd
      have hi' : ds[i]? = some d := by rw [List.getElem?_eq_getElem hi, e1]
      obtain ⟨ls, _, DD⟩ := hD.get hi'
      obtain ⟨dx', la, vs, q1, _⟩ := DD.ex
      rw [e, hwn] at q1; cases q1
    refine ⟨w, hp, dx, ds, sd, L, 0, hs, rfl, upd_same, Same.sqL S2 hh, hD2, hd0, hd1, hsd, by decide, hdw, fun H3 pl tb ps tl st W E hm WA k3 => ⟨rfl, ?_⟩⟩
    have S3 : Same H H3 := fun b o e => k3 b o (S2 b o e) (fun e' => by
      subst e'
      rw [e] at hwn; cases hwn)
    obtain ⟨dxw, tvs, q1, q2, q3, q4⟩ := id WA.ex
    have hl := hD.1
    have hwl := W.len
    have hkn := knOk hD sd
    have hN : tl.length < 4000 := by
      have h1 := marks_le (by rw [List.length_map]; omega) W (n := tl.length) (by have := W.len; omega) hm
      have h2 := cand_len hkn (L := L) 0
      have h3 : (hs.map (sideOf sd)).length * 60 ≤ 60 * 60 := Nat.mul_le_mul_right 60 (by rw [List.length_map]; omega)
      omega
    obtain ⟨d0, hd00⟩ : ∃ d0, ds[0]? = some d0 := ⟨ds[0], List.getElem?_eq_getElem hd0⟩
    obtain ⟨ls0, hls0, D0⟩ := (hD.same S3).get hd00
    have hix : atI (refs ds) 0 = some (.ref d0) := by
      refine at_of (j := 0) rfl ?_
      show (ds.map V.ref)[0]? = _
      rw [List.getElem?_map, hd00]; rfl
    obtain ⟨dx0, la0, vs0, e1, e2, e3⟩ := id D0.ex
    cases st with
    | none =>
      refine ⟨fun _ _ => False, ?_, fun _ _ z => z.elim⟩
      exact ⟨_, rfl, w, Z.C_Walk, dxw, _, _, rfl, q1, T.cl_Walk, T.nWalk_start, wf_start _ _ _, rfl, _, rfl, iteT (k H3 .non none S3 .non (.inl ⟨rfl, ps.length, behind_none W E (Nat.le_refl _)⟩))⟩
    | some s =>
      refine ⟨fun σ' H' => σ' = [some (.ref hp), some (.str sd), some (.ref w)] ∧ H' = H3, ?_, ?_⟩
      · exact ⟨_, rfl, w, Z.C_Walk, dxw, _, _, rfl, q1, T.cl_Walk, T.nWalk_start, wf_start _ _ _, rfl, _, rfl, iteF ⟨rfl, rfl⟩⟩
      rintro σ4 H4 ⟨rfl, rfl⟩
      obtain ⟨hs1, hs2, a, b, ha, hb, hab⟩ := id E
      have hmL : (hs.map (sideOf sd)).length = ds.length := by rw [List.length_map]; omega
      have hm0 : 0 < ds.length := hd0
      obtain ⟨p, hp0⟩ : ∃ p, tl.length - s = p * ds.length := by
        rw [hmL] at hs2
        have h1 := Nat.div_add_mod tl.length ds.length
        have h2 := Nat.div_add_mod s ds.length
        refine ⟨tl.length / ds.length - s / ds.length, ?_⟩
        rw [Nat.sub_mul, Nat.mul_comm (tl.length / ds.length), Nat.mul_comm (s / ds.length)]
        omega
      have hpp : 0 < p := by
        rcases Nat.eq_zero_or_pos p with e | e
        · subst e; omega
        · exact e
      have hpl : p < 4000 := by
        have : p * 1 ≤ p * ds.length := Nat.mul_le_mul_left _ hm0
        omega
      have hper : ((tl.length : Int) - s) / (ds.length : Int) = (p : Int) := by
        have e : (tl.length : Int) - s = (p : Int) * (ds.length : Int) := by
          have : ((tl.length - s : Nat) : Int) = ((p * ds.length : Nat) : Int) := by rw [hp0]
          push_cast at this
          omega
        rw [e, Int.mul_ediv_cancel _ (by omega)]
      have hsm : ∀ i, i < ps.length → (ps.getD i 0).natAbs < 2 ^ 391 := fun i hi => by
        have q1 := W.small D0.pos D0.big hkn i (ps.getD i 0) (by rw [List.getD_eq_getElem?_getD, List.getElem?_eq_getElem hi]; rfl)
        have q2 : i * 2 ^ 312 ≤ 2 ^ 390 := Nat.le_trans (Nat.mul_le_mul_right _ (by omega : i ≤ 4000)) (by decide)
        have q3 : (2 : Nat) ^ 391 = 2 ^ 390 + 2 ^ 390 := by rw [Nat.pow_succ, Nat.mul_two]
        have q4 : (0 : Int).natAbs = 0 := rfl
        omega
      have hcl : ((ps.getD tl.length 0 - ps.getD s 0) / L).natAbs < 2 ^ 393 := div_lt D0.pos (sub_lt (hsm _ (by omega)) (hsm _ (by omega)))
      have hno1 := wf_no pl tb (stV (some s)) (m := "climb") (by decide +kernel) (by decide +kernel) (by decide +kernel)
      have hno2 := wf_no pl tb (stV (some s)) (m := "period") (by decide +kernel) (by decide +kernel) (by decide +kernel)
      have hh4 := Same.sqL S3 hh
      refine ⟨_, rfl, w, dxw, _, rfl, q1, hno1, w, pl, tb, ps, tl, s, rfl, WA, hwl, hs1, ?_⟩
      refine ⟨_, rfl, _, _, _, _, rfl, rfl, hh4, hix, d0, dx0, _, rfl, e1, df_no _ _ (by decide +kernel) (by decide +kernel), d0, L, ls0, rfl, D0, _, _, rfl, rfl, wide_div D0.pos D0.big (by decide) (by decide), ?_⟩
      have hdl : ((refs ds).length : Int) = (ds.length : Int) := by show ((ds.map V.ref).length : Int) = _; rw [List.length_map]
      refine ⟨_, rfl, w, dxw, _, rfl, q1, hno2, w, pl, tb, ps, tl, s, rfl, WA, _, rfl, hp, _, rfl, .inl hh4, _, _, rfl, rfl, wide_div (b := 10) (by rw [hdl]; omega) (by rw [hdl]; exact Nat.lt_of_le_of_lt (by omega : (ds.length : Int).natAbs ≤ 60) (by decide)) (by decide) (by decide), ?_⟩
      have ep : (fun i j => V.int (i / j)) ((tl.length : Int) - s) ((refs ds).length : Int) = .int (p : Int) := by rw [hdl]; show V.int _ = _; rw [hper]
      have hpb : (p : Int).natAbs < 2 ^ 393 := Nat.lt_of_lt_of_le (by omega : _ < 4000) (by decide)
      refine ⟨(ps.getD tl.length 0 - ps.getD s 0) / L, (p : Int), (by rw [← ep]; rfl), by omega, Nat.lt_of_lt_of_le (by omega : (p : Int).natAbs < 4000) (by decide), fun H5 r S5 hr5 => ?_⟩
      obtain ⟨c1, c2, c3, c4⟩ := low_terms (a := (ps.getD tl.length 0 - ps.getD s 0) / L) (b := (p : Int)) (by omega)
      have ga : ps.getD s 0 = a := by rw [List.getD_eq_getElem?_getD, ha]; rfl
      have gb : ps.getD tl.length 0 = b := by rw [List.getD_eq_getElem?_getD, hb]; rfl
      refine k H5 r (some _) (S3.trans S5) hr5 (.inr ⟨_, rfl, ⟨c2, c1, s, p, ps.getD s 0, (ps.getD tl.length 0 - ps.getD s 0) / L, hpp, behind_in W (by omega), ?_, c3⟩, lowQ_size hcl hpb⟩)
      rw [hmL, ← hp0, show s + (tl.length - s) = tl.length by omega, behind_in W (by omega)]
      have q1 := Int.mul_ediv_add_emod (ps.getD tl.length 0 - ps.getD s 0) L
      have q2 : (ps.getD tl.length 0 - ps.getD s 0) % L = 0 := Int.emod_eq_zero_of_dvd (Int.dvd_of_emod_eq_zero (by rw [Int.sub_emod, ga, gb, hab, Int.sub_self, Int.zero_emod]))
      rw [Int.mul_comm] at q1
      congr 1
      omega
end
end KA
namespace KA
open PySem PySem.Spec PyProof.Rows L2 DP
/-! ### a round as one leading -/
noncomputable def rf (sd : Str) (L : Int) : List (List Lk) → Int → Int
  | [] => fun x => x
  | ls :: r => fun x => rf sd L r (bst sd ls x L)
def Filled (kn : List (List Lk)) : Prop := ∀ ls ∈ kn, ls ≠ []
theorem bst_hand {sd : Str} (hs : SideOk sd) {L : Int} (hL : 0 < L) {ls : List Lk} (h : ls ≠ []) : Hand L (fun x => bst sd ls x L) :=
  ⟨fun x y hxy => best_mono hL (bst_is hs h x L) (bst_is hs h y L) hxy, fun x k => bst_of (best_shift hL k (bst_is hs h x L))⟩
theorem rf_hand {sd : Str} (hs : SideOk sd) {L : Int} (hL : 0 < L) : ∀ {kn : List (List Lk)}, Filled kn → Hand L (rf sd L kn)
  | [], _ => ⟨fun _ _ h => h, fun _ _ => rfl⟩
  | ls :: r, h => by
    have F := bst_hand hs hL (h ls List.mem_cons_self)
    have G := rf_hand hs hL (kn := r) fun l hl => h l (List.mem_cons_of_mem _ hl)
    refine ⟨fun x y hxy => G.mono _ _ (F.mono _ _ hxy), fun x k => ?_⟩
    show rf sd L r (bst sd ls (x + k * L) L) = _
    have e : bst sd ls (x + k * L) L = bst sd ls x L + k * L := F.turn x k
    rw [e]
    exact G.turn _ _
theorem rf_append (sd : Str) (L : Int) : ∀ (a b : List (List Lk)) (x : Int), rf sd L (a ++ b) x = rf sd L b (rf sd L a x)
  | [], _, _ => rfl
  | _ :: a, b, x => rf_append sd L a b _
theorem it_part {sd : Str} (hs : SideOk sd) {L : Int} {kn : List (List Lk)} (h : Filled kn) {x y : Int} {n : Nat} (hy : it sd L kn x (n * kn.length) = some y) : ∀ i, i ≤ kn.length → it sd L kn x (n * kn.length + i) = some (rf sd L (kn.take i) y)
  | 0, _ => by simpa [rf] using hy
  | i + 1, hi => by
    have h1 := it_part hs h hy i (by omega)
    have e : (n * kn.length + i) % kn.length = i := by
      rw [Nat.mul_comm, Nat.mul_add_mod, Nat.mod_eq_of_lt (by omega)]
    have hg : kn[i]? = some (kn.getD i []) := by rw [List.getD_eq_getElem?_getD, List.getElem?_eq_getElem (by omega)]; rfl
    show it sd L kn x (n * kn.length + i + 1) = _
    rw [it_succ, h1, e, take_snoc hg, rf_append]
    exact stp_some hs (h _ (List.mem_of_getElem? hg))
theorem it_rf {sd : Str} (hs : SideOk sd) {L : Int} {kn : List (List Lk)} (h : Filled kn) (x : Int) : ∀ n, it sd L kn x (n * kn.length) = some (itf (rf sd L kn) x n)
  | 0 => by rw [Nat.zero_mul]; rfl
  | n + 1 => by
    have h1 := it_part (L := L) hs h (it_rf (L := L) hs h x n) kn.length (Nat.le_refl _)
    rw [List.take_length] at h1
    rw [Nat.succ_mul]
    exact h1
theorem it_full {sd : Str} (hs : SideOk sd) {L : Int} {kn : List (List Lk)} (h : Filled kn) (h0 : 0 < kn.length) (x : Int) (n : Nat) : it sd L kn x n ≠ none := fun e => by
  have h1 := it_none e (n * kn.length - n)
  have h2 : n ≤ n * kn.length := Nat.le_mul_of_pos_right _ h0
  rw [show n + (n * kn.length - n) = n * kn.length by omega, it_rf hs h] at h1
  cases h1
theorem it_gap {sd : Str} {L : Int} {kn : List (List Lk)} (h : ¬ Filled kn) (x : Int) : ∃ n, ∀ m, n ≤ m → it sd L kn x m = none := by
  have : ∃ ls, ls ∈ kn ∧ ls = [] := Classical.byContradiction fun hno => h fun ls hl e => hno ⟨ls, hl, e⟩
  obtain ⟨ls, hl, rfl⟩ := this
  obtain ⟨i, hi, e⟩ := List.getElem_of_mem hl
  have h1 : it sd L kn x (i + 1) = none := by
    rw [it_succ, Nat.mod_eq_of_lt hi]
    have e2 : kn.getD i [] = [] := by rw [List.getD_eq_getElem?_getD, List.getElem?_eq_getElem hi, e]; rfl
    rw [e2]
    cases it sd L kn x i with
    | none => rfl
    | some y => exact stp_nil
  exact ⟨i + 1, fun m hm => by
    have := it_none h1 (m - (i + 1))
    rwa [show i + 1 + (m - (i + 1)) = m by omega] at this⟩
/-- a round's pace is its one leading's -/
theorem RPace.of {sd : Str} (hs : SideOk sd) {L : Int} (hL : 0 < L) {kn : List (List Lk)} (h : Filled kn) (h0 : 0 < kn.length) {pr : Pr} (P : RPace sd L kn pr) : PaceOf L (rf sd L kn) pr := by
  obtain ⟨n, p, x, c, p0, e1, e2, e3⟩ := P.lap
  have hm : n % kn.length = (n + p * kn.length) % kn.length := by rw [Nat.add_mul_mod_self_right]
  have ht := it_turn hs hL hm (k := c) (by rw [e2, e1]; rfl)
  obtain ⟨r, q, hr⟩ : ∃ r q, n + r = q * kn.length := by
    refine ⟨kn.length * (n + 1) - n, n + 1, ?_⟩
    have : n + 1 ≤ kn.length * (n + 1) := Nat.le_mul_of_pos_left _ h0
    rw [Nat.mul_comm (n + 1)]
    omega
  have h2 := ht r
  rw [hr, show n + p * kn.length + r = (q + p) * kn.length by rw [Nat.add_mul, ← hr]; omega, it_rf hs h, it_rf hs h] at h2
  have h3 := Option.some.inj h2
  refine ⟨P.pos, P.cop, itf (rf sd L kn) 0 q, c, p, p0, ?_, e3⟩
  rw [← itf_add]
  exact h3
/-- what paces tells of a side -/
def PaceIs (sd : Str) (L : Int) (kn : List (List Lk)) (o : Option Pr) : Prop := (¬ Filled kn → o = none) ∧ (Filled kn → ∃ pr, o = some pr ∧ PaceOf L (rf sd L kn) pr ∧ SzQ 393 pr)
theorem PaceIs.one {sd : Str} (hs : SideOk sd) {L : Int} (hL : 0 < L) {kn : List (List Lk)} {o o' : Option Pr} (h : PaceIs sd L kn o) (h' : PaceIs sd L kn o') : o = o' := by
  by_cases c : Filled kn
  · obtain ⟨p, rfl, P, _⟩ := h.2 c
    obtain ⟨p', rfl, P', _⟩ := h'.2 c
    rw [P.one hL (rf_hand hs hL c) P']
  · rw [h.1 c, h'.1 c]
/-- from one round to another whose leading goes along -/
theorem PaceIs.map {sd sd' : Str} (hs' : SideOk sd') {L L' : Int} (hL' : 0 < L') {kn kn' : List (List Lk)} {o o' : Option Pr} (g : Pr → Pr) (hf : Filled kn ↔ Filled kn') (hg : ∀ pr, Filled kn → PaceOf L (rf sd L kn) pr → PaceOf L' (rf sd' L' kn') (g pr)) (h : PaceIs sd L kn o) (h' : PaceIs sd' L' kn' o') : o' = o.map g := by
  by_cases c : Filled kn
  · obtain ⟨p, rfl, P, _⟩ := h.2 c
    obtain ⟨p', rfl, P', _⟩ := h'.2 (hf.mp c)
    rw [P'.one hL' (rf_hand hs' hL' (hf.mp c)) (hg p c P)]; rfl
  · rw [h.1 c, h'.1 fun q => c (hf.mpr q)]; rfl
/-- begun at another hand -/
theorem turned_filled (kn : List (List Lk)) (k : Nat) : Filled kn ↔ Filled (kn.drop k ++ kn.take k) := by
  have : ∀ ls, ls ∈ kn ↔ ls ∈ kn.drop k ++ kn.take k := fun ls => by
    rw [List.mem_append]
    constructor
    · intro h
      rw [← List.take_append_drop k kn] at h
      exact (List.mem_append.mp h).symm
    · rintro (h | h)
      · exact List.mem_of_mem_drop h
      · exact List.mem_of_mem_take h
  exact ⟨fun h ls hl => h ls ((this ls).mpr hl), fun h ls hl => h ls ((this ls).mp hl)⟩
theorem conj_itf {f g A : Int → Int} (h : ∀ x, g (A x) = A (f x)) (x : Int) : ∀ n, itf g (A x) n = A (itf f x n)
  | 0 => rfl
  | n + 1 => by
    show g (itf g (A x) n) = A (f (itf f x n))
    rw [conj_itf h x n, h]
theorem turned_pace {sd : Str} (hs : SideOk sd) {L : Int} (hL : 0 < L) {kn : List (List Lk)} (k : Nat) {pr : Pr} (c : Filled kn) (P : PaceOf L (rf sd L kn) pr) : PaceOf L (rf sd L (kn.drop k ++ kn.take k)) pr := by
  obtain ⟨x, c', p, p0, h1, h2⟩ := P.lap
  have F := rf_hand hs hL (kn := kn.take k) fun ls hl => c ls (List.mem_of_mem_take hl)
  refine ⟨P.pos, P.cop, rf sd L (kn.take k) x, c', p, p0, ?_, h2⟩
  have hc : ∀ y, rf sd L (kn.drop k ++ kn.take k) (rf sd L (kn.take k) y) = rf sd L (kn.take k) (rf sd L kn y) := fun y => by
    rw [rf_append, ← rf_append sd L (kn.take k) (kn.drop k), List.take_append_drop]
  rw [conj_itf hc, h1, F.turn]
/-- drawn out and moved -/
def outL (t d : Int) (l : Lk) : Lk := (l.1, l.2.1 * t + d, l.2.2 * t + d)
theorem plc_out {sd : Str} {L t d : Int} (hL : 0 < L) (ht : 0 < t) (l : Lk) (z : Int) : plc sd (outL t d l) (z * t + d) (L * t) = plc sd l z L * t + d := by
  unfold plc outL
  have e1 : ∀ u v : Int, (u * t + d - (v * t + d)) / (L * t) = (u - v) / L := fun u v => by
    rw [show u * t + d - (v * t + d) = (u - v) * t by grind, Int.mul_ediv_mul_of_pos_left _ _ ht]
  split
  · show l.2.2 * t + d + (z * t + d - (l.2.1 * t + d)) / (L * t) * (L * t) = _
    rw [e1]; grind
  · show l.2.2 * t + d - (l.2.1 * t + d - (z * t + d)) / (L * t) * (L * t) = _
    rw [e1]; grind
theorem bst_out {sd : Str} (hs : SideOk sd) {L t d : Int} (hL : 0 < L) (ht : 0 < t) {ls : List Lk} (h : ls ≠ []) (z : Int) : bst sd (ls.map (outL t d)) (z * t + d) (L * t) = bst sd ls z L * t + d := by
  obtain ⟨⟨l, hl, e⟩, h2⟩ := bst_is hs h z L
  refine bst_of ⟨⟨_, List.mem_map.mpr ⟨l, hl, rfl⟩, by rw [plc_out hL ht, e]⟩, fun q hq => ?_⟩
  obtain ⟨l', hl', rfl⟩ := List.mem_map.mp hq
  have h3 := h2 l' hl'
  rw [plc_out hL ht]
  split
  · rename_i c
    rw [if_pos c] at h3
    have := Int.mul_le_mul_of_nonneg_right h3 (Int.le_of_lt ht)
    omega
  · rename_i c
    rw [if_neg c] at h3
    have := Int.mul_le_mul_of_nonneg_right h3 (Int.le_of_lt ht)
    omega
theorem side_out (sd : Str) (t d : Int) (ls : List Lk) : sideOf sd (ls.map (outL t d)) = (sideOf sd ls).map (outL t d) := by
  unfold sideOf
  rw [List.filter_map]
  rfl
theorem rf_out {sd : Str} (hs : SideOk sd) {L t d : Int} (hL : 0 < L) (ht : 0 < t) : ∀ {kn : List (List Lk)}, Filled kn → ∀ z, rf sd (L * t) (kn.map (List.map (outL t d))) (z * t + d) = rf sd L kn z * t + d
  | [], _, _ => rfl
  | ls :: r, h, z => by
    show rf sd (L * t) (r.map (List.map (outL t d))) (bst sd (ls.map (outL t d)) (z * t + d) (L * t)) = _
    rw [bst_out hs hL ht (h ls List.mem_cons_self), rf_out hs hL ht (fun l hl => h l (List.mem_cons_of_mem _ hl))]; rfl
theorem out_filled (kn : List (List Lk)) (t d : Int) : Filled kn ↔ Filled (kn.map (List.map (outL t d))) := by
  constructor
  · intro h ls hl
    obtain ⟨l, hl', rfl⟩ := List.mem_map.mp hl
    intro e
    exact h l hl' (List.map_eq_nil_iff.mp e)
  · intro h ls hl e
    exact h _ (List.mem_map.mpr ⟨ls, hl, rfl⟩) (by rw [e]; rfl)
theorem out_pace {sd : Str} (hs : SideOk sd) {L t d : Int} (hL : 0 < L) (ht : 0 < t) {kn : List (List Lk)} {pr : Pr} (c : Filled kn) (P : PaceOf L (rf sd L kn) pr) : PaceOf (L * t) (rf sd (L * t) (kn.map (List.map (outL t d)))) pr := by
  obtain ⟨x, c', p, p0, h1, h2⟩ := P.lap
  refine ⟨P.pos, P.cop, x * t + d, c', p, p0, ?_, h2⟩
  have := conj_itf (f := rf sd L kn) (g := rf sd (L * t) (kn.map (List.map (outL t d)))) (A := fun z => z * t + d) (rf_out hs hL ht c) x p
  rw [this, h1]
  grind
/-- behind any uses, drawn out and moved -/
theorem it_out {sd : Str} (hs : SideOk sd) {L t d : Int} (hL : 0 < L) (ht : 0 < t) (kn : List (List Lk)) (x : Int) : ∀ n, it sd (L * t) (kn.map (List.map (outL t d))) (x * t + d) n = (it sd L kn x n).map fun z => z * t + d
  | 0 => rfl
  | n + 1 => by
    rw [it_succ, it_succ, it_out hs hL ht kn x n, List.length_map]
    have e : (kn.map (List.map (outL t d))).getD (n % kn.length) [] = (kn.getD (n % kn.length) []).map (outL t d) := by
      rw [List.getD_eq_getElem?_getD, List.getElem?_map, List.getD_eq_getElem?_getD]
      cases kn[n % kn.length]? <;> rfl
    rw [e]
    cases it sd L kn x n with
    | none => rfl
    | some y =>
      show stp sd (L * t) _ (y * t + d) = _
      by_cases c : kn.getD (n % kn.length) [] = []
      · rw [c]
        show stp sd (L * t) [] _ = (stp sd L [] y).map _
        rw [stp_nil, stp_nil]; rfl
      · have c2 : (kn.getD (n % kn.length) []).map (outL t d) ≠ [] := fun e => c (List.map_eq_nil_iff.mp e)
        rw [stp_some hs c2, bst_out hs hL ht c]
        show _ = (stp sd L _ y).map _
        rw [stp_some hs c]; rfl
/-- one hand's looks some turns farther -/
def farL (k L : Int) (l : Lk) : Lk := (l.1, l.2.1, l.2.2 + k * L)
theorem bst_far {sd : Str} (hs : SideOk sd) {L k : Int} {ls : List Lk} (h : ls ≠ []) (z : Int) : bst sd (ls.map (farL k L)) z L = bst sd ls z L + k * L := by
  have ep : ∀ l : Lk, plc sd (farL k L l) z L = plc sd l z L + k * L := fun l => by
    unfold plc farL
    split
    · show l.2.2 + k * L + (z - l.2.1) / L * L = _; omega
    · show l.2.2 + k * L - (l.2.1 - z) / L * L = _; omega
  obtain ⟨⟨l, hl, e⟩, h2⟩ := bst_is hs h z L
  refine bst_of ⟨⟨_, List.mem_map.mpr ⟨l, hl, rfl⟩, by rw [ep, e]⟩, fun q hq => ?_⟩
  obtain ⟨l', hl', rfl⟩ := List.mem_map.mp hq
  have h3 := h2 l' hl'
  rw [ep]
  split
  · rename_i c
    rw [if_pos c] at h3; omega
  · rename_i c
    rw [if_neg c] at h3; omega
theorem side_far (sd : Str) (k L : Int) (ls : List Lk) : sideOf sd (ls.map (farL k L)) = (sideOf sd ls).map (farL k L) := by
  unfold sideOf
  rw [List.filter_map]
  rfl
theorem rf_far {sd : Str} (hs : SideOk sd) {L : Int} (hL : 0 < L) (k : Int) : ∀ {kn : List (List Lk)} (i : Nat) (ls : List Lk), kn[i]? = some ls → Filled kn → ∀ z, rf sd L (kn.set i (ls.map (farL k L))) z = rf sd L kn z + k * L
  | [], _, _, h, _, _ => by simp at h
  | l :: r, 0, ls, h, c, z => by
    have e : l = ls := Option.some.inj h
    subst e
    show rf sd L r (bst sd (l.map (farL k L)) z L) = rf sd L r (bst sd l z L) + k * L
    rw [bst_far hs (c l List.mem_cons_self), (rf_hand hs hL (kn := r) fun q hq => c q (List.mem_cons_of_mem _ hq)).turn]
  | l :: r, i + 1, ls, h, c, z => rf_far hs hL k (kn := r) i ls h (fun q hq => c q (List.mem_cons_of_mem _ hq)) (bst sd l z L)
theorem far_filled {kn : List (List Lk)} {i : Nat} {ls : List Lk} (h : kn[i]? = some ls) (k L : Int) : Filled kn ↔ Filled (kn.set i (ls.map (farL k L))) := by
  have hi := (List.getElem?_eq_some_iff.mp h).1
  constructor
  · intro c q hq e
    rcases List.mem_or_eq_of_mem_set hq with h1 | h1
    · exact c q h1 e
    · rw [h1] at e
      exact c ls (List.mem_of_getElem? h) (List.map_eq_nil_iff.mp e)
  · intro c q hq e
    obtain ⟨j, hj, ej⟩ := List.getElem_of_mem hq
    by_cases eij : i = j
    · subst eij
      rw [List.getElem?_eq_getElem hi, ej] at h
      have e2 : q = ls := Option.some.inj h
      refine c (ls.map (farL k L)) (List.mem_of_getElem? (i := i) (by rw [List.getElem?_set_self hi])) ?_
      rw [← e2, e]; rfl
    · exact c q (List.mem_of_getElem? (i := j) (by rw [List.getElem?_set_ne eij, List.getElem?_eq_getElem hj, ej])) e
theorem far_pace {sd : Str} (hs : SideOk sd) {L : Int} (hL : 0 < L) (k : Int) {kn : List (List Lk)} {i : Nat} {ls : List Lk} (h : kn[i]? = some ls) {pr : Pr} (c : Filled kn) (P : PaceOf L (rf sd L kn) pr) : PaceOf L (rf sd L (kn.set i (ls.map (farL k L)))) (pr.1 + k * pr.2, pr.2) := by
  have e : rf sd L (kn.set i (ls.map (farL k L))) = fun x => rf sd L kn x + k * L := funext fun z => rf_far hs hL k i ls h c z
  rw [e]
  exact pace_farther (rf_hand hs hL c) P k
/-! ### heard or handed -/
theorem stp_heard {sd : Str} (hs : SideOk sd) {L : Int} (hL : 0 < L) (ls : List Lk) (y : Int) : stp sd L (sideOf sd (heardAll L ls)) y = stp sd L (sideOf sd ls) y := by
  by_cases h : sideOf sd (heardAll L ls) = []
  · rw [h, (side_nil heardAll_mem).mp h]
  · have b := bst_is hs h y L
    rw [stp_best b, stp_best (best_home hL heardAll_mem b)]
theorem it_heard {sd : Str} (hs : SideOk sd) {L : Int} (hL : 0 < L) {lots : List (List Lk)} (h0 : 0 < lots.length) (x : Int) (n : Nat) : it sd L ((lots.map (heardAll L)).map (sideOf sd)) x n = it sd L (lots.map (sideOf sd)) x n := by
  refine it_alike (by simp) (fun i y hi => ?_) (by simpa using h0) n
  rw [List.length_map, List.length_map] at hi
  have e1 : ((lots.map (heardAll L)).map (sideOf sd)).getD i [] = sideOf sd (heardAll L lots[i]) := by
    rw [List.getD_eq_getElem?_getD, List.getElem?_map, List.getElem?_map, List.getElem?_eq_getElem hi]; rfl
  have e2 : (lots.map (sideOf sd)).getD i [] = sideOf sd lots[i] := by
    rw [List.getD_eq_getElem?_getD, List.getElem?_map, List.getElem?_eq_getElem hi]; rfl
  rw [e1, e2, stp_heard hs hL]
theorem heard_filled {sd : Str} {L : Int} (lots : List (List Lk)) : Filled ((lots.map (heardAll L)).map (sideOf sd)) ↔ Filled (lots.map (sideOf sd)) := by
  have key : ∀ ls : List Lk, sideOf sd (heardAll L ls) = [] ↔ sideOf sd ls = [] := fun ls => side_nil heardAll_mem
  constructor
  · intro h q hq e
    obtain ⟨ls, hl, rfl⟩ := List.mem_map.mp hq
    exact h _ (List.mem_map.mpr ⟨_, List.mem_map.mpr ⟨ls, hl, rfl⟩, rfl⟩) ((key ls).mpr e)
  · intro h q hq e
    obtain ⟨l0, hl0, rfl⟩ := List.mem_map.mp hq
    obtain ⟨ls, hl, rfl⟩ := List.mem_map.mp hl0
    exact h _ (List.mem_map.mpr ⟨ls, hl, rfl⟩) ((key ls).mp e)
theorem rf_heard {sd : Str} (hs : SideOk sd) {L : Int} (hL : 0 < L) : ∀ {lots : List (List Lk)}, Filled (lots.map (sideOf sd)) → rf sd L ((lots.map (heardAll L)).map (sideOf sd)) = rf sd L (lots.map (sideOf sd))
  | [], _ => rfl
  | ls :: r, h => funext fun x => by
    show rf sd L ((r.map (heardAll L)).map (sideOf sd)) (bst sd (sideOf sd (heardAll L ls)) x L) = rf sd L (r.map (sideOf sd)) (bst sd (sideOf sd ls) x L)
    have h1 := h (sideOf sd ls) List.mem_cons_self
    have h2 : sideOf sd (heardAll L ls) ≠ [] := fun e => h1 ((side_nil heardAll_mem).mp e)
    have e := stp_heard hs hL ls x
    rw [stp_some hs h1, stp_some hs h2] at e
    rw [Option.some.inj e, rf_heard hs hL fun q hq => h q (List.mem_cons_of_mem _ hq)]
theorem PaceIs.heard {sd : Str} (hs : SideOk sd) {L : Int} (hL : 0 < L) {lots : List (List Lk)} {o : Option Pr} (h : PaceIs sd L ((lots.map (heardAll L)).map (sideOf sd)) o) : PaceIs sd L (lots.map (sideOf sd)) o := by
  refine ⟨fun c => h.1 fun q => c ((heard_filled lots).mp q), fun c => ?_⟩
  obtain ⟨pr, e, P, z⟩ := h.2 ((heard_filled lots).mpr c)
  rw [rf_heard hs hL c] at P
  exact ⟨pr, e, P, z⟩
theorem PaceOpt.is {sd : Str} (hs : SideOk sd) {L : Int} (hL : 0 < L) {kn : List (List Lk)} (h0 : 0 < kn.length) {o : Option Pr} (h : PaceOpt sd L kn o) : PaceIs sd L kn o := by
  rcases h with ⟨rfl, n, hn⟩ | ⟨pr, rfl, RP, z⟩
  · exact ⟨fun _ => rfl, fun c => absurd hn (it_full hs c h0 0 n)⟩
  · refine ⟨fun c => ?_, fun c => ⟨pr, rfl, RP.of hs hL c h0, z⟩⟩
    obtain ⟨n, p, x, c', p0, e1, e2, e3⟩ := RP.lap
    obtain ⟨m, hm⟩ := it_gap (sd := sd) (L := L) c 0
    exfalso
    have ht := it_turn hs hL (kn := kn) (s := n) (t := n + p * kn.length) (k := c') (x := 0) (by rw [Nat.add_mul_mod_self_right]) (by rw [e2, e1]; rfl)
    have all : ∀ j : Nat, it sd L kn 0 (n + j * (p * kn.length)) ≠ none := by
      intro j
      induction j with
      | zero => rw [Nat.zero_mul, Nat.add_zero, e1]; exact fun e => by cases e
      | succ j ih =>
        have := ht (j * (p * kn.length))
        rw [show n + p * kn.length + j * (p * kn.length) = n + (j + 1) * (p * kn.length) by rw [Nat.succ_mul]; omega] at this
        rw [this]
        intro e
        cases hq : it sd L kn 0 (n + j * (p * kn.length)) with
        | none => exact ih hq
        | some v => rw [hq] at e; cases e
    have hp1 : 1 ≤ p * kn.length := Nat.mul_pos p0 h0
    refine all m (hm _ ?_)
    have : m * 1 ≤ m * (p * kn.length) := Nat.mul_le_mul_left _ hp1
    omega
def encPs (o1 o2 : Option Pr) : PyData := .tuple [encO o1, encO o2]
def spPaces (Z : Ad) (K : PySem.W.Frag) : Sp := fun vs H Q _ => ∃ (hp : Addr) (ds : List Addr) (L : Int) (lots : List (List Lk)), vs = [.ref hp] ∧ SqL K H hp (refs ds) ∧ Darks Z K H ds L (lots.map (heardAll L)) ∧ 0 < ds.length ∧ ds.length ≤ 60 ∧
  ∀ H' r o1 o2, Same H H' → Dp K H' r (encPs o1 o2) → PaceIs "slow" L (lots.map (sideOf "slow")) o1 → PaceIs "fast" L (lots.map (sideOf "fast")) o2 → Q r H'
section
variable {P : Program} {w : World} {K : PySem.W.Frag} {mg : Str → Option Value} {base : Heap} {Z : Ad}
theorem ok_paces (T : Tx K w mg Z) : FnOk P w K mg base CX0 7 Z.a_paces Z.d_paces P_paces (spPaces Z K) := by
  refine T.F_paces.ok scpaces (fun vs H Q E h => ?_) (fun cdv A outer s H vs Q E hr h => ?_)
  · obtain ⟨hp, ds, L, lots, rfl, _⟩ := h
    rfl
  · obtain ⟨hp, ds, L, lots, rfl, hh, hD, hd0, hd1, k⟩ := h
    have hlen : lots.length = ds.length := by have := hD.1; rw [List.length_map] at this; omega
    obtain ⟨d0, hd00⟩ : ∃ d0, ds[0]? = some d0 := ⟨ds[0], List.getElem?_eq_getElem hd0⟩
    obtain ⟨ls0, hls0, D0⟩ := hD.get hd00
    have hL := D0.pos
    refine ⟨_, (pss_cons (ps_expr (pe_call (ok_check_round T) (hr.mono (by decide)) (by rfl) T.g_check_round T.F_check_round.kp T.bb_check_round .nil pass0 (pa_cons (pv 0) pa_nil)))
      (pss_one (ps_ret (pe_tup (pa_cons (pe_call (ok_side_pace T) (hr.mono (by decide)) (by rfl) T.g_side_pace T.F_side_pace.kp T.bb_side_pace .nil pass0 (pa_cons (pv 0) (pa_cons (pe_glob rfl T.g_SLOW T.r_SLOW) pa_nil))) (pa_cons (pe_call (ok_side_pace T) (hr.mono (by decide)) (by rfl) T.g_side_pace T.F_side_pace.kp T.bb_side_pace .nil pass0 (pa_cons (pv 0) (pa_cons (pe_glob rfl T.g_FAST T.r_FAST) pa_nil))) pa_nil)))))), ?_⟩
    refine ⟨_, rfl, hp, ds, L, _, rfl, hh, hD, hd0, fun H1 S1 => ?_⟩
    refine ⟨_, rfl, hp, ds, "slow", L, lots.map (heardAll L), rfl, Same.sqL S1 hh, hD.same S1, hd0, hd1, .inl rfl, fun H2 r1 o1 S2 h1 P1 => ?_⟩
    refine ⟨_, rfl, hp, ds, "fast", L, lots.map (heardAll L), rfl, Same.sqL (S1.trans S2) hh, hD.same (S1.trans S2), hd0, hd1, .inr rfl, fun H3 r2 o2 S3 h2 P2 => ?_⟩
    refine ⟨(by show 2 ≤ sizeLine; decide), fun q hq => ?_⟩
    have S4 := same_upd (o := HO.tup [r1, r2]) hq
    exact k _ _ o1 o2 (((S1.trans S2).trans S3).trans S4) (.tup (SqT.of upd_same) (.cons (dp_mono (S3.trans S4) _ _ h1) (.cons (dp_mono S4 _ _ h2) .nil))) (PaceIs.heard (.inl rfl) hL (P1.is (.inl rfl) hL (by rw [List.length_map, List.length_map]; omega))) (PaceIs.heard (.inr rfl) hL (P2.is (.inr rfl) hL (by rw [List.length_map, List.length_map]; omega)))
end
end KA
namespace KA
open PySem PySem.Spec PyProof.Rows L2 DP
/-! ### looks in order, each once -/
def leL (a b : Lk) : Bool := PySem.W.dataLe false encL a b
theorem leL_iff {a b : Lk} : leL a b = true ↔ (listOrd itemOrd).kle (PySem.W.keyToks (encL a)) (PySem.W.keyToks (encL b)) := by
  show (!PyProof.Rows.lexLt itemOrd (PySem.W.keyToks (encL b)) (PySem.W.keyToks (encL a))) = true ↔ PyProof.Rows.lexLt itemOrd (PySem.W.keyToks (encL b)) (PySem.W.keyToks (encL a)) = false
  cases PyProof.Rows.lexLt itemOrd (PySem.W.keyToks (encL b)) (PySem.W.keyToks (encL a)) <;> simp
theorem leL_trans (a b c : Lk) (h1 : leL a b = true) (h2 : leL b c = true) : leL a c = true := leL_iff.mpr (KeyOrd.kle_trans (leL_iff.mp h1) (leL_iff.mp h2))
theorem leL_total (a b : Lk) : (leL a b || leL b a) = true := by
  rw [Bool.or_eq_true]
  cases e : (listOrd itemOrd).blt (PySem.W.keyToks (encL b)) (PySem.W.keyToks (encL a)) with
  | false => exact .inl (leL_iff.mpr e)
  | true => exact .inr (leL_iff.mpr (KeyOrd.kle_of_klt (O := listOrd itemOrd) e))
theorem toks_inj {a b : Lk} (h : PySem.W.keyToks (encL a) = PySem.W.keyToks (encL b)) : a = b := by
  obtain ⟨⟨a1⟩, a2, a3⟩ := a
  obtain ⟨⟨b1⟩, b2, b3⟩ := b
  simp [encL, PySem.W.keyToks, PySem.W.keyToksAll] at h
  obtain ⟨h1, h2, h3⟩ := h
  rw [h1, h2, h3]
theorem leL_anti (a b : Lk) (h1 : leL a b = true) (h2 : leL b a = true) : a = b := toks_inj (KeyOrd.kle_antisymm (leL_iff.mp h1) (leL_iff.mp h2))
structure Canon (ms : List Lk) (S : Lk → Prop) : Prop where
  nd : ms.Nodup
  srt : ms.Pairwise (fun a b => leL a b = true)
  mem : ∀ o, o ∈ ms ↔ S o
theorem Canon.eq {ms ns : List Lk} {S S' : Lk → Prop} (a : Canon ms S) (b : Canon ns S') (h : ∀ o, S o ↔ S' o) : ms = ns :=
  List.Perm.eq_of_pairwise (fun x y _ _ h1 h2 => leL_anti x y h1 h2) a.srt b.srt ((List.perm_ext_iff_of_nodup a.nd b.nd).mpr fun o => (a.mem o).trans ((h o).trans (b.mem o).symm))
theorem Canon.iff {ms : List Lk} {S S' : Lk → Prop} (a : Canon ms S) (h : ∀ o, S o ↔ S' o) : Canon ms S' := ⟨a.nd, a.srt, fun o => (a.mem o).trans (h o)⟩
theorem canon_nil : Canon [] (fun _ => False) := ⟨.nil, .nil, fun o => by simp⟩
theorem canon_sort {ms : List Lk} (nd : ms.Nodup) : Canon (ms.mergeSort leL) (fun o => o ∈ ms) := ⟨(List.mergeSort_perm _ _).nodup_iff.mpr nd, List.pairwise_mergeSort leL_trans leL_total _, fun o => (List.mergeSort_perm _ _).mem_iff⟩
theorem heard_canon {L : Int} {hs : List Lk} {S : Lk → Prop} (c : Canon hs S) (l : Lk) : Canon (heard L hs l) (fun o => S o ∨ o = home L l) := by
  refine ⟨?_, ?_, fun o => ?_⟩
  · unfold heard
    split
    · exact c.nd
    · rename_i h
      exact (List.mergeSort_perm _ _).nodup_iff.mpr (List.nodup_append.mpr ⟨c.nd, List.pairwise_singleton _ _, fun a ha b hb e => h (by rw [List.mem_singleton] at hb; rw [← hb, ← e]; exact ha)⟩)
  · unfold heard
    split
    · exact c.srt
    · exact List.pairwise_mergeSort leL_trans leL_total _
  · rw [heard_mem, c.mem]
theorem fold_canon {L : Int} : ∀ (ls hs : List Lk) {S : Lk → Prop}, Canon hs S → Canon (ls.foldl (heard L) hs) (fun o => S o ∨ ∃ l ∈ ls, o = home L l)
  | [], hs, S, c => c.iff fun o => by simp
  | l :: ls, hs, S, c => (fold_canon ls _ (heard_canon c l)).iff fun o => by
    constructor
    · rintro ((h | h) | ⟨q, hq, h⟩)
      · exact .inl h
      · exact .inr ⟨l, List.mem_cons_self, h⟩
      · exact .inr ⟨q, List.mem_cons_of_mem _ hq, h⟩
    · rintro (h | ⟨q, hq, h⟩)
      · exact .inl (.inl h)
      · rcases List.mem_cons.mp hq with e | e
        · exact .inl (.inr (e ▸ h))
        · exact .inr ⟨q, e, h⟩
theorem fold0_canon (L : Int) (ls : List Lk) : Canon (ls.foldl (heard L) []) (fun o => ∃ l ∈ ls, o = home L l) := (fold_canon ls [] canon_nil).iff fun o => by simp
theorem filter_canon {hs : List Lk} {S : Lk → Prop} (c : Canon hs S) (q : Lk → Bool) : Canon (hs.filter q) (fun o => S o ∧ q o = true) := ⟨c.nd.filter _, c.srt.filter _, fun o => by rw [List.mem_filter, c.mem]⟩
/-! ### a set of looks, sorted -/
def keyL (l : Lk) : List Key := [.inr l.1, .inl l.2.1, .inl l.2.2]
theorem keyL_inj {a b : Lk} (h : keyL a = keyL b) : a = b := by
  obtain ⟨a1, a2, a3⟩ := a
  obtain ⟨b1, b2, b3⟩ := b
  simp [keyL] at h
  obtain ⟨h1, h2, h3⟩ := h
  rw [h1, h2, h3]
section
variable {K : PySem.W.Frag} {H : Hp}
theorem look_rows : ∀ {ls : List Lk} {xs : List V}, DpAll K H xs (ls.map encL) → ∃ ks : List (Addr × List Key), xs = ks.map (fun p => V.ref p.1) ∧ ks.map Prod.snd = ls.map keyL ∧ SD.Stand K H ks
  | [], xs, h => by
    have h' : DpAll K H xs [] := h
    cases h'
    exact ⟨[], rfl, rfl, fun p hp => by cases hp⟩
  | l :: ls, xs, h => by
    have h' : DpAll K H xs (encL l :: ls.map encL) := h
    cases h' with
    | cons h1 h2 =>
      obtain ⟨ks, e1, e2, st⟩ := look_rows h2
      obtain ⟨a, rfl, ha⟩ := dp_look h1
      refine ⟨(a, keyL l) :: ks, by rw [e1]; rfl, by rw [List.map_cons, e2]; rfl, fun p hp => ?_⟩
      rcases List.mem_cons.mp hp with e | e
      · rw [e]; exact ha
      · exact st p e
theorem rows_look : ∀ {ms : List Lk} {M : List (Addr × List Key)}, M.map Prod.snd = ms.map keyL → SD.Stand K H M → DpAll K H (M.map fun p => V.ref p.1) (ms.map encL)
  | [], [], _, _ => .nil
  | [], _ :: _, e, _ => by cases e
  | _ :: _, [], e, _ => by cases e
  | l :: ms, p :: M, e, st => by
    injection e with e1 e2
    have h1 := st p List.mem_cons_self
    rw [e1] at h1
    exact .cons (.tup h1 (.cons (.str _) (.cons (.int _) (.cons (.int _) .nil)))) (rows_look e2 fun q hq => st q (List.mem_cons_of_mem _ hq))
theorem keys_back : ∀ {ks : List (List Key)} {ls : List Lk}, (∀ k ∈ ks, ∃ l ∈ ls, k = keyL l) → ∃ ms : List Lk, ks = ms.map keyL ∧ ∀ m ∈ ms, m ∈ ls
  | [], _, _ => ⟨[], rfl, fun _ h => by cases h⟩
  | k :: ks, ls, h => by
    obtain ⟨l, hl, e⟩ := h k List.mem_cons_self
    obtain ⟨ms, e2, h2⟩ := keys_back (ks := ks) (ls := ls) fun q hq => h q (List.mem_cons_of_mem _ hq)
    refine ⟨l :: ms, by rw [e, e2]; rfl, fun m hm => ?_⟩
    rcases List.mem_cons.mp hm with z | z
    · rw [z]; exact hl
    · exact h2 m z
/-- sorted(set(looks)) -/
theorem set_sorted {P : Program} {w : World} {l : Addr} {xs : List V} {ls : List Lk} (hl : SqL K H l xs) (hd : DpAll K H xs (ls.map encL)) (hlen : ls.length < 64) {Q : VK}
    (q : ∀ p ys H' ms, Same H H' → H p = none → H' p = some (.lst ys) → DpAll K H' ys (ms.map encL) → Canon ms (fun o => o ∈ ls) → Q (.ref p) H') :
    SD.rSetD K P w [.ref l] H (fun v H' => SD.rSortSetD K P w [v] H' Q) := by
  obtain ⟨ks, e1, e2, st⟩ := look_rows hd
  have hkl : ks.length = ls.length := by rw [← List.length_map (f := Prod.snd), e2, List.length_map]
  subst e1
  refine ⟨l, ks, rfl, hl, st, by rw [hkl]; exact hlen, fun a M ha hM hall hone => ?_⟩
  have S1 := same_upd (o := SD.SetDO P w a M) ha
  have stM : SD.Stand K (upd H a (SD.SetDO P w a M)) M := SD.Stand.same (fun p hp => st p (hM p hp)) S1
  have inl : ∀ p ∈ M, ∃ l ∈ ls, p.2 = keyL l := fun p hp => by
    have h1 : p.2 ∈ ks.map Prod.snd := List.mem_map.mpr ⟨p, hM p hp, rfl⟩
    rw [e2] at h1
    obtain ⟨l, hl, e⟩ := List.mem_map.mp h1
    exact ⟨l, hl, e.symm⟩
  refine ⟨a, M, rfl, upd_same, stM, ⟨fun p hp p2 hp2 => ?_, fun p hp => ?_⟩, fun N p pm hp => ?_⟩
  · obtain ⟨l1, _, e1⟩ := inl p hp
    obtain ⟨l2, _, e2⟩ := inl p2 hp2
    unfold SD.encK
    rw [e1, e2]
    simp [keyL, SD.kD, PySem.W.alike, PySem.W.alikeAll]
  · obtain ⟨l1, _, e1⟩ := inl p hp
    rw [e1]; simp [keyL]
  · obtain ⟨ms, em, hms⟩ := keys_back (ks := N.map Prod.snd) (ls := ls) fun k hk => by
      obtain ⟨p, hp, e⟩ := List.mem_map.mp hk
      obtain ⟨l, hl, e2⟩ := inl p (pm.mem_iff.mp hp)
      exact ⟨l, hl, by rw [← e, e2]⟩
    have ndk : (ms.map keyL).Nodup := by rw [← em]; exact (pm.map Prod.snd).nodup_iff.mpr hone
    have nd : ms.Nodup := List.Pairwise.of_map keyL (fun _ _ hne e => hne (congrArg keyL e)) ndk
    have hsort : (N.mergeSort (PySem.W.dataLe false SD.encK)).map Prod.snd = (ms.mergeSort leL).map keyL := by
      rw [List.map_mergeSort (f := Prod.snd) (r := PySem.W.dataLe false SD.encK) (s := fun a b => PySem.W.dataLe false SD.encK (0, a) (0, b)) (fun a _ b _ => rfl), em]
      rw [List.map_mergeSort (f := keyL) (r := leL) (s := fun a b => PySem.W.dataLe false SD.encK (0, a) (0, b)) (fun a _ b _ => rfl)]
    have S2 := same_upd (o := HO.lst ((N.mergeSort (PySem.W.dataLe false SD.encK)).map fun q => V.ref q.1)) hp
    refine q p _ _ (ms.mergeSort leL) (S1.trans S2) (S1.free hp) upd_same (rows_look hsort (SD.Stand.same (fun r hr => stM r (pm.mem_iff.mp ((List.mergeSort_perm _ _).mem_iff.mp hr))) S2)) ((canon_sort nd).iff fun o => ⟨hms o, fun ho => ?_⟩)
    have h1 : keyL o ∈ ks.map Prod.snd := by rw [e2]; exact List.mem_map.mpr ⟨o, ho, rfl⟩
    obtain ⟨p2, hp2, e3⟩ := List.mem_map.mp h1
    have h2 := hall p2 hp2
    rw [e3, ← (pm.map Prod.snd).mem_iff, em] at h2
    obtain ⟨m, hm, e4⟩ := List.mem_map.mp h2
    rw [← keyL_inj e4]; exact hm
end
end KA
namespace KA
open PySem PySem.Spec PyProof.Rows L2 DP
def spWide : Sp := fun vs H Q _ => ∃ (t g : Addr) (n : Nat), vs = [.ref t] ∧ Tray H t g n ∧ n < 2 ^ 58 ∧
  ∀ (H' : Hp) (r : Int), 0 < r → r ≤ 10 ^ 30 → At H H' t g (n + 2) → Q (.int r) H'
def spHidden (K : PySem.W.Frag) : Sp := fun vs H Q _ => ∃ (t g : Addr) (n : Nat) (L m : Int), vs = [.ref t, .int L, .int m] ∧ Tray H t g n ∧ n < 2 ^ 50 ∧ 0 < L ∧ L ≤ 10 ^ 30 ∧ 0 < m ∧ m ≤ 50 ∧
  ∀ (H' : Hp) (p : Addr) (prs : List Pr), H p = none → At H H' t g (n + 200) → LAt K H' p (prs.map encP) → Rises L prs → (prs.length : Int) ≤ m → Q (.ref p) H'
section
variable {P : Program} {w : World} {K : PySem.W.Frag} {mg : Str → Option Value} {base : Heap} {Z : Ad}
theorem ok_law_wide (T : Tx K w mg Z) : FnOk P w K mg base CX0 2 Z.a_law_wide Z.d_law_wide P_law_wide (spWide) := by
  refine T.F_law_wide.ok sclaw_wide (fun vs H Q E h => ?_) (fun cdv A outer s H vs Q E hr h => ?_)
  · obtain ⟨t, g, n, rfl, _⟩ := h
    rfl
  · obtain ⟨t, g, n, rfl, hT, hn, k⟩ := h
    have A0 : At H H t g n := ⟨hT, Keep.refl _ _ _⟩
    have hb : ∀ j, j ≤ n + 2 → j < 2 ^ 60 := fun j hj => Nat.lt_of_le_of_lt hj (Nat.lt_of_lt_of_le (Nat.add_lt_add_right hn 2) (by decide))
    have e30 : (10 : Int) ^ (30 : Int).toNat = 1000000000000000000000000000000 := by decide
    have e30' : (10 : Int) ^ 30 = 1000000000000000000000000000000 := by decide
    have e6 : (10 : Int) ^ (6 : Int).toNat = 1000000 := by decide
    refine ⟨_, (pss_one (ps_ret (pe_op op_add pe_int (pe_call (ok_law_draw T) (hr.mono (by decide)) (by rfl) T.g_law_draw T.F_law_draw.kp T.bb_law_draw .nil pass0 (pa_cons (pv 0) (pa_cons (pe_ix (ixL (K := K)) (pe_lst (pa_cons pe_int (pa_cons pe_int (pa_cons pe_int (pa_cons (pe_op op_powW pe_int pe_int) (pa_cons (pe_op op_sub (pe_op op_powW pe_int pe_int) pe_int) pa_nil)))))) (pe_call (ok_law_draw T) (hr.mono (by decide)) (by rfl) T.g_law_draw T.F_law_draw.kp T.bb_law_draw .nil pass0 (pa_cons (pv 0) (pa_cons pe_int pa_nil))) (fun _ _ => rfl)) pa_nil)))))), ?_⟩
    refine ⟨_, rfl, _, _, rfl, rfl, ⟨by decide, by decide, by decide⟩, _, _, rfl, rfl, ⟨by decide, by decide, by decide⟩, _, _, rfl, rfl, (by show 5 ≤ sizeLine; decide), fun q hq => ?_⟩
    obtain ⟨qt, qg⟩ := hT.at_ne hq
    have A1 := A0.new (o := HO.lst [V.int 3, .int 12, .int 200, .int ((10 : Int) ^ (6 : Int).toNat), .int ((10 : Int) ^ (30 : Int).toNat - 1)]) hq
    refine ⟨_, rfl, t, g, n, 5, rfl, A1.T, by decide, by decide, hb _ (by omega), fun H2 c c0 c1 T2 k2 => ?_⟩
    obtain ⟨z, hz, hz0, hz1⟩ : ∃ z : Int, atI [V.int 3, .int 12, .int 200, .int ((10 : Int) ^ (6 : Int).toNat), .int ((10 : Int) ^ (30 : Int).toNat - 1)] c = some (.int z) ∧ 0 < z ∧ z < 1000000000000000000000000000000 := by
      have : c = 0 ∨ c = 1 ∨ c = 2 ∨ c = 3 ∨ c = 4 := by omega
      rcases this with e | e | e | e | e <;> rw [e]
      · exact ⟨3, rfl, by decide, by decide⟩
      · exact ⟨12, rfl, by decide, by decide⟩
      · exact ⟨200, rfl, by decide, by decide⟩
      · exact ⟨_, rfl, by rw [e6]; decide, by rw [e6]; decide⟩
      · exact ⟨_, rfl, by rw [e30]; decide, by rw [e30]; decide⟩
    refine ⟨q, _, _, _, rfl, rfl, SqL.of (k2 _ _ upd_same qt qg), hz, ?_⟩
    refine ⟨t, g, n + 1, z, rfl, T2, hz0, Nat.lt_of_le_of_lt (by omega : z.natAbs ≤ 1000000000000000000000000000000) (by decide), hb _ (by omega), fun H3 r r0 r1 T3 k3 => ?_⟩
    exact ⟨_, _, rfl, rfl, k _ _ (by omega) (by rw [e30']; omega) ((A1.step T2 k2).step T3 k3)⟩
theorem ok_law_hidden (T : Tx K w mg Z) : FnOk P w K mg base CX0 3 Z.a_law_hidden Z.d_law_hidden P_law_hidden (spHidden K) := by
  refine T.F_law_hidden.ok sclaw_hidden (fun vs H Q E h => ?_) (fun cdv A outer s H vs Q E hr h => ?_)
  · obtain ⟨t, g, n, L, m, rfl, _⟩ := h
    rfl
  · obtain ⟨t, g, n, L, m, rfl, hT, hn, hL, hL30, hm0, hm50, k⟩ := h
    have hLb := bigL hL hL30
    have hb : ∀ j, j ≤ n + 200 → j < 2 ^ 60 := fun j hj => Nat.lt_of_le_of_lt hj (Nat.lt_of_lt_of_le (Nat.add_lt_add_right hn 200) (by decide))
    have A0 : At H H t g n := ⟨hT, Keep.refl _ _ _⟩
    refine ⟨_, (pss_cons (ps_set (i := 3) sclaw_hidden.nd rfl (Or.inl rfl) (pe_callB (sortedSetK (w := w) rfl) (by rfl) T.b_sorted (by decide +kernel) (pa_cons (pe_callTy (setIK (K := K) (w := w) rfl) (by rfl) T.b_set (by decide +kernel) (pa_cons (pe_lc (own := [("k", 4)]) (g := gName 4) (tt := tYes) rfl sclaw_hidden.nd (pi_range1 (by rfl) T.b_range (pa_cons (pe_op op_add pe_int (pe_call (ok_law_draw T) (hr.mono (by decide)) (by rfl) T.g_law_draw T.F_law_draw.kp T.bb_law_draw .nil pass0 (pa_cons (pv 0) (pa_cons (pv 2) pa_nil)))) pa_nil)) (blkOk_by (own := [("k", 4)]) (N := N_law_hidden) (sc := defScope slaw_hidden) (by decide +kernel)) (fun _ _ _ _ _ => (pg_name (i := 4) sclaw_hidden.nd rfl (Or.inl rfl))) (fun _ _ _ _ _ => pts_nil) (fun _ _ _ _ _ => (pe_call (ok_law_draw T) (hr.mono (by decide)) (by rfl) T.g_law_draw T.F_law_draw.kp T.bb_law_draw .nil pass0 (pa_cons (pv 0) (pa_cons (pv 1) pa_nil))))) pa_nil)) pa_nil)))
      (pss_cons (ps_set (i := 5) sclaw_hidden.nd rfl (Or.inr rfl) (pe_op op_sub (pe_call (ok_law_draw T) (hr.mono (by decide)) (by rfl) T.g_law_draw T.F_law_draw.kp T.bb_law_draw .nil pass0 (pa_cons (pv 0) (pa_cons (pe_op op_add (pe_op op_mulW pe_int (pv 1)) pe_int) pa_nil))) (pe_op op_mulW pe_int (pv 1))))
      (pss_cons (ps_set (i := 6) sclaw_hidden.nd rfl (Or.inl rfl) (pe_callB (sortK (K := K)) (by rfl) T.b_sorted (by decide +kernel) (pa_cons (pe_lc (own := [("spot", 7)]) (g := gName 7) (tt := tYes) rfl sclaw_hidden.nd (pi_list (pv 3)) (blkOk_by (own := [("spot", 7)]) (N := N_law_hidden) (sc := defScope slaw_hidden) (by decide +kernel)) (fun _ _ _ _ _ => (pg_name (i := 7) sclaw_hidden.nd rfl (Or.inl rfl))) (fun _ _ _ _ _ => pts_nil) (fun _ _ _ _ _ => (pe_call (ok_law_draw T) (hr.mono (by decide)) (by rfl) T.g_law_draw T.F_law_draw.kp T.bb_law_draw .nil pass0 (pa_cons (pv 0) (pa_cons (pe_op op_add (pv 1) pe_int) pa_nil))))) pa_nil)))
      (pss_one (ps_ret (pe_lc (own := [("spot", 7), ("up", 8)]) (g := gTup K 2 (gCons (gName 7) (gCons (gName 8) gNil))) (tt := tYes) rfl sclaw_hidden.nd (pi_zip (by rfl) T.b_zip (pa_cons (pv 3) (pa_cons (pv 6) pa_nil))) (blkOk_by (own := [("spot", 7), ("up", 8)]) (N := N_law_hidden) (sc := defScope slaw_hidden) (by decide +kernel)) (fun _ _ _ _ _ => (tupK (K := K) (by rfl) (pgs_cons (pg_name (i := 7) sclaw_hidden.nd rfl (Or.inl rfl)) (pgs_cons (pg_name (i := 8) sclaw_hidden.nd rfl (Or.inl rfl)) pgs_nil)))) (fun _ _ _ _ _ => pts_nil) (fun _ _ _ _ _ => (pe_tup (pa_cons (pv 7) (pa_cons (pe_op op_add (pv 5) (pv 8)) pa_nil)))))))))), ?_⟩
    -- spots
    refine ⟨_, rfl, _, rfl, t, g, n, m, rfl, hT, hm0, Nat.lt_of_le_of_lt (by omega : m.natAbs ≤ 50) (by decide), hb _ (by omega), fun H1 r r0 r1 T1 k1 => ?_⟩
    have A1 := A0.step T1 k1
    refine ⟨_, _, rfl, rfl, 1 + r, rfl, by omega, by omega, fun D hD => ?_⟩
    obtain ⟨Dt, Dg⟩ := A1.T.at_ne hD
    have hDH := A1.free hD
    refine lc_range (lo := 0) (n := (1 + r).toNat) (fun i H' => At H H' t g (n + 1 + i) ∧ ∃ ns : List Int, H' D = some (.lst (ns.map V.int)) ∧ ns.length = i ∧ ∀ x ∈ ns, 0 ≤ x ∧ x < L) ⟨A1.new hD, [], upd_same, rfl, fun _ z => absurd z (by simp)⟩ ?_ ?_
    · rintro i H' hi ⟨A, ns, hd, hl, hx⟩
      have hi6 : i < 50 := by omega
      refine ⟨rfl, yes_ite ?_⟩
      refine ⟨_, rfl, _, rfl, t, g, n + 1 + i, L, rfl, A.T, hL, lt_up hLb (by decide), hb _ (by omega), fun H2 r r0 r1 T2 k2 => ?_⟩
      have hd2 := k2 _ _ hd Dt Dg
      refine ⟨_, hd2, small1000 (by simp; omega), ((A.step T2 k2).acc hDH Dt Dg).up (by omega), ns ++ [r], ?_, by simp [hl], fun x hx' => ?_⟩
      · rw [List.map_append]; exact upd_same
      · rcases List.mem_append.mp hx' with h | h
        · exact hx x h
        · rw [List.mem_singleton] at h; subst h; exact ⟨r0, r1⟩
    rintro H2 ⟨A2, ns, hd, hnl, hx⟩
    refine ⟨D, ns, rfl, SqL.of hd, by omega, fun q c hc hq => ?_⟩
    refine ⟨q, _, c, rfl, upd_same, by omega, fun ss p hpw hmem hsl hp => ?_⟩
    have A3 := (A2.new (o := SetO w q (fun j => decide (j ∈ ns)) c) hq).new (o := HO.lst (ss.map V.int)) hp
    have hpH : H p = none := (A2.new (o := SetO w q (fun j => decide (j ∈ ns)) c) hq).free hp
    obtain ⟨pt, pg⟩ := (A2.new (o := SetO w q (fun j => decide (j ∈ ns)) c) hq).T.at_ne hp
    generalize eH3 : upd (upd H2 q (SetO w q (fun j => decide (j ∈ ns)) c)) p (.lst (ss.map V.int)) = H3 at A3 ⊢
    have hp3 : H3 p = some (.lst (ss.map V.int)) := by rw [← eH3]; exact upd_same
    have hss : ∀ x ∈ ss, 0 ≤ x ∧ x < L := fun x hx' => hx x (of_decide_eq_true ((hmem x).mp hx'))
    have hss6 : ss.length ≤ m.toNat := by rw [hsl]; omega
    have hssne : ss ≠ [] := by
      cases ns with
      | nil => simp at hnl; omega
      | cons y r =>
        intro e
        have : y ∈ ss := (hmem y).mpr (by simp)
        rw [e] at this; cases this
    have A3' : At H H3 t g (n + 60) := A3.up (by omega)
    -- base
    have b4 : (4 * L).natAbs < 2 ^ 103 := by rw [Int.natAbs_mul]; exact Nat.lt_of_lt_of_le (Nat.mul_lt_mul_of_le_of_lt (Nat.le_refl 4) hLb (by decide)) (by decide)
    refine ⟨_, rfl, _, rfl, _, _, rfl, rfl, wide_mul (a := 10) (by decide) hLb (by decide) (by decide) (by decide), _, _, rfl, rfl, t, g, n + 60, 4 * L + 1, rfl, A3'.T, by omega, lt_up (add_lt b4 (show (1 : Int).natAbs < 2 ^ 103 by decide)) (by decide), hb _ (by omega), fun H4 r' r0' r1' T4 k4 => ?_⟩
    have A4 := A3'.step T4 k4
    have hp4 := k4 _ _ hp3 pt pg
    refine ⟨_, rfl, _, _, rfl, rfl, wide_mul (a := 10) (by decide) hLb (by decide) (by decide) (by decide), _, _, rfl, rfl, ?_⟩
    have hbb : (r' - 2 * L).natAbs < 2 ^ 104 := by
      have e1 : (2 : Nat) ^ 104 = 2 ^ 100 * 16 := by decide
      rw [e1]; clear b4; omega
    -- ups
    refine ⟨_, rfl, p, rfl, ⟨_, SqL.of hp4⟩, fun D2 hD2 => ?_⟩
    obtain ⟨D2t, D2g⟩ := A4.T.at_ne hD2
    have hD2H := A4.free hD2
    have hD2p : p ≠ D2 := ne_of_none hp4 hD2
    refine lc_list (K := K) (a := p) (xs := ss.map V.int) (fun i H' => At H H' t g (n + 61 + i) ∧ H' p = some (.lst (ss.map V.int)) ∧ ∃ ns : List Int, H' D2 = some (.lst (ns.map V.int)) ∧ ns.length = i ∧ ∀ x ∈ ns, 0 ≤ x ∧ x ≤ L)
      ⟨(A4.new hD2).up (by omega), (upd_ne hD2p).trans hp4, [], upd_same, rfl, fun _ z => absurd z (by simp)⟩ (fun i H' _ ⟨_, h, _⟩ => SqL.of h) ?_ ?_
    · rintro i y H' hi ⟨A, hpk, ns2, hd, hl, hx2⟩
      have hi6 : i < 50 := by
        have := (List.getElem?_eq_some_iff.mp hi).1
        rw [List.length_map] at this; omega
      refine ⟨rfl, yes_ite ?_⟩
      refine ⟨_, rfl, _, rfl, _, _, rfl, rfl, t, g, n + 61 + i, L + 1, rfl, A.T, by omega, lt_up (add_lt hLb (show (1 : Int).natAbs < 2 ^ 100 by decide)) (by decide), hb _ (by omega), fun H4 r r0 r1 T4 k4 => ?_⟩
      have hd2 := k4 _ _ hd D2t D2g
      refine ⟨_, hd2, small1000 (by simp; omega), ((A.step T4 k4).acc hD2H D2t D2g).up (by omega), (upd_ne hD2p).trans (k4 _ _ hpk pt pg), ns2 ++ [r], ?_, by simp [hl], fun x hx' => ?_⟩
      · rw [List.map_append]; exact upd_same
      · rcases List.mem_append.mp hx' with h | h
        · exact hx2 x h
        · rw [List.mem_singleton] at h; subst h; exact ⟨r0, by omega⟩
    rintro H7 ⟨A7, hp7, ns2, hd2, hnl2, hx2⟩
    rw [List.length_map] at A7 hnl2
    refine ⟨D2, ns2, rfl, SqL.of hd2, by omega, fun rs p2 hperm hsrt hp2 => ?_⟩
    have hrl : rs.length = ss.length := by rw [hperm.length_eq, hnl2]
    have hrs : ∀ x ∈ rs, 0 ≤ x ∧ x ≤ L := fun x hx' => hx2 x (hperm.mem_iff.mp hx')
    obtain ⟨p2t, p2g⟩ := A7.T.at_ne hp2
    have hp2p : p ≠ p2 := ne_of_none hp7 hp2
    have A8 : At H (upd H7 p2 (.lst (rs.map V.int))) t g (n + 200) := (A7.new hp2).up (by omega)
    have hp8 : (upd H7 p2 (.lst (rs.map V.int))) p = some (.lst (ss.map V.int)) := (upd_ne hp2p).trans hp7
    have hq8 : (upd H7 p2 (.lst (rs.map V.int))) p2 = some (.lst (rs.map V.int)) := upd_same
    generalize upd H7 p2 (.lst (rs.map V.int)) = H8 at A8 hp8 hq8 ⊢
    refine ⟨_, rfl, _, rfl, p, p2, ss.map V.int, rs.map V.int, rfl, SqL.of hp8, SqL.of hq8, fun D3 hD3 => ?_⟩
    obtain ⟨D3t, D3g⟩ := A8.T.at_ne hD3
    have hD3H := A8.free hD3
    have hzl : (List.zipWith (fun s u => ((s, r' - 2 * L + u) : Pr)) ss rs).length = ss.length := by rw [List.length_zipWith, hrl]; omega
    refine lc_zip (K := K) (a := p) (b := p2) (by simp [hrl]) (fun i H' => Same H8 H' ∧ ∃ vs, H' D3 = some (.lst vs) ∧ vs.length = i ∧ DpAll K H' vs (((List.zipWith (fun s u => ((s, r' - 2 * L + u) : Pr)) ss rs).take i).map encP))
      ⟨same_upd hD3, [], upd_same, rfl, .nil⟩ (fun i H' ⟨S, _⟩ => ⟨SqL.of (S _ _ hp8), SqL.of (S _ _ hq8)⟩) ?_ ?_
    · rintro i x' y' Tt H' hx hy ⟨S, vs, hd, hvl, hds⟩ hTt
      obtain ⟨x, hx', rfl⟩ := map_at hx
      obtain ⟨y, hy', rfl⟩ := map_at hy
      have hi' : i < ss.length := (List.getElem?_eq_some_iff.mp hx').1
      refine ⟨Tt, _, rfl, SqT.of upd_same, rfl, _, _, rfl, _, _, rfl, rfl, rfl, yes_ite ?_⟩
      have S1 := same_upd (o := HO.tup [V.int x, .int y]) hTt
      refine ⟨_, rfl, _, rfl, _, rfl, _, _, rfl, rfl, (by show 2 ≤ sizeLine; decide), fun q4 hq4 => ?_⟩
      have S2 := S1.trans (same_upd (o := HO.tup [V.int x, .int (r' - 2 * L + y)]) hq4)
      have hd2 := S2 _ _ hd
      have hz : (List.zipWith (fun s u => ((s, r' - 2 * L + u) : Pr)) ss rs)[i]? = some (x, r' - 2 * L + y) := by
        simp [List.getElem?_zipWith, hx', hy']
      refine ⟨vs, hd2, small1000 (by omega), same_set (S.trans S2) hD3, _, upd_same, by simp [hvl], ?_⟩
      rw [take_snoc hz, List.map_append]
      exact acc_step hd2 (noLs_map noL_encP _) rfl (dpAll_mono S2 _ _ hds) (.tup (SqT.of upd_same) (.cons (.int _) (.cons (.int _) .nil)))
    · rintro H' ⟨S, vs, hd, hvl, hds⟩
      rw [List.length_map, List.take_of_length_le (by rw [hzl]; exact Nat.le_refl _)] at hds
      have hof : ∀ s ∈ List.zipWith (fun s u => ((s, r' - 2 * L + u) : Pr)) ss rs, ∃ (i : Nat) (h1 : i < ss.length) (h2 : i < rs.length), s = (ss[i], r' - 2 * L + rs[i]) := fun s hs => by
        obtain ⟨i, hi, e⟩ := List.getElem_of_mem hs
        rw [List.getElem_zipWith] at e
        rw [hzl] at hi
        exact ⟨i, hi, by omega, e.symm⟩
      refine k H' D3 _ hD3H (A8.sm S) ⟨vs, hd, hds⟩ ⟨fun e => ?_, ?_, fun s hs => ?_, r' - 2 * L, hbb, fun s hs => ?_⟩ (by rw [hzl]; omega)
      · have := congrArg List.length e
        rw [hzl] at this
        exact hssne (List.eq_nil_of_length_eq_zero this)
      · rw [List.pairwise_iff_getElem]
        intro i j hi hj hij
        rw [List.getElem_zipWith, List.getElem_zipWith]
        rw [hzl] at hi hj
        have h1 := (List.pairwise_iff_getElem.mp hpw) i j hi hj hij
        have h2 := (List.pairwise_iff_getElem.mp hsrt) i j (by omega) (by omega) hij
        exact ⟨h1, by show r' - 2 * L + rs[i]'(by omega) ≤ r' - 2 * L + rs[j]'(by omega); omega⟩
      · obtain ⟨i, h1, h2, rfl⟩ := hof s hs
        exact hss _ (List.getElem_mem h1)
      · obtain ⟨i, h1, h2, rfl⟩ := hof s hs
        have := hrs _ (List.getElem_mem h2)
        exact ⟨by show r' - 2 * L ≤ r' - 2 * L + rs[i]; omega, by show r' - 2 * L + rs[i] ≤ r' - 2 * L + L; omega⟩
end
end KA
namespace KA
open PySem PySem.Spec PyProof.Rows L2 DP
def fr1 (s : Pr) : Lk := ("from", s.1, s.2)
def frs (ss : List Pr) : List Lk := ss.map fr1
/-- where steps lead -/
noncomputable def ld (L : Int) (ss : List Pr) (x : Int) : Int := bst "slow" (frs ss) x L
def leads (L : Int) (steps : List Pr) (x : Int) : List Int := steps.map fun s => s.2 + (x - s.1) / L * L
theorem frs_ne {ss : List Pr} (h : 0 < ss.length) : frs ss ≠ [] := fun e => by
  have e2 : ss = [] := List.map_eq_nil_iff.mp e
  rw [e2] at h; cases h
theorem ld_hand {L : Int} (hL : 0 < L) {ss : List Pr} (h0 : 0 < ss.length) : Hand L (ld L ss) := bst_hand (.inl rfl) hL (frs_ne h0)
theorem max_ld {L x m : Int} {ss : List Pr} (h1 : m ∈ leads L ss x) (h2 : ∀ y ∈ leads L ss x, y ≤ m) : ld L ss x = m := by
  refine bst_of ⟨?_, fun l hl => ?_⟩
  · obtain ⟨s, hs, e⟩ := List.mem_map.mp h1
    exact ⟨fr1 s, List.mem_map.mpr ⟨s, hs, rfl⟩, by rw [plc_slow]; exact e⟩
  · obtain ⟨s, hs, rfl⟩ := List.mem_map.mp hl
    rw [if_pos rfl, plc_slow]
    exact h2 _ (List.mem_map.mpr ⟨s, hs, rfl⟩)
theorem near_by {L : Int} (hL : 0 < L) {ss : List Pr} (h0 : 0 < ss.length) {n : Nat} (hsz : ∀ s ∈ ss, SzQ n s) (x : Int) : (ld L ss x - x).natAbs ≤ 2 ^ (n + 1) + L.natAbs := by
  obtain ⟨⟨l, hl, e⟩, _⟩ := bst_is (sd := "slow") (.inl rfl) (frs_ne h0) x L
  obtain ⟨s, hs, rfl⟩ := List.mem_map.mp hl
  have h1 := plc_near hL "slow" (fr1 s) x
  rw [e] at h1
  have h1' : (bst "slow" (frs ss) x L - x).natAbs ≤ (s.2 - s.1).natAbs + L.natAbs := h1
  have h2 : (s.2 - s.1).natAbs < 2 ^ (n + 1) := sub_lt (hsz s hs).2 (hsz s hs).1
  show (bst "slow" (frs ss) x L - x).natAbs ≤ _
  omega
def spLead (K : PySem.W.Frag) : Sp := fun vs H Q _ => ∃ (v : V) (L x : Int) (ss : List Pr), vs = [.int L, v, .int x] ∧ Dp K H v (.list (ss.map encP)) ∧ 0 < L ∧ L.natAbs < 2 ^ 200 ∧ x.natAbs < 2 ^ 400 ∧ 0 < ss.length ∧ ss.length ≤ 100 ∧ (∀ s ∈ ss, SzQ 300 s) ∧ ∀ H', Same H H' → Q (.int (ld L ss x)) H'
def TrueL (L : Int) (ss : List Pr) (l : Lk) : Prop := WordOk l.1 ∧ Fits (ld L ss) l ∧ Sized 112 l
theorem true_low {L : Int} {ss : List Pr} {x sl : Int} (h0 : 0 ≤ sl) : Fits (ld L ss) ("from", x, ld L ss x - sl) := by
  refine ⟨fun _ => by show ld L ss x - sl ≤ ld L ss x; omega, fun h => ?_⟩
  have e : onSide "fast" "from" = false := by decide +kernel
  have h' : onSide "fast" "from" = true := h
  rw [e] at h'; cases h'
theorem true_high {L : Int} {ss : List Pr} {x sl : Int} (h0 : 0 ≤ sl) : Fits (ld L ss) ("upto", x, ld L ss x + sl) := by
  refine ⟨fun h => ?_, fun _ => by show ld L ss x ≤ ld L ss x + sl; omega⟩
  have e : onSide "slow" "upto" = false := by decide +kernel
  have h' : onSide "slow" "upto" = true := h
  rw [e] at h'; cases h'
theorem true_at {L : Int} {ss : List Pr} {x : Int} : Fits (ld L ss) ("at", x, ld L ss x) := ⟨fun _ => Int.le_refl _, fun _ => Int.le_refl _⟩
/-- a true look at home -/
def TrueH (L : Int) (ss : List Pr) (l : Lk) : Prop := TrueL L ss l ∧ 0 ≤ l.2.1 ∧ l.2.1 < L
def StepsH (L : Int) (ss : List Pr) : Prop := 0 < ss.length ∧ ss.length ≤ 50 ∧ ∀ s ∈ ss, SzQ 105 s ∧ 0 ≤ s.1 ∧ s.1 < L
def spSeen (K : PySem.W.Frag) : Sp := fun vs H Q _ => ∃ (t g p : Addr) (n : Nat) (L m : Int) (ss : List Pr), vs = [.ref t, .int L, .ref p, .int m] ∧ Tray H t g n ∧ n < 2 ^ 50 ∧ 0 < L ∧ L ≤ 10 ^ 30 ∧ LAt K H p (ss.map encP) ∧ p ≠ t ∧ p ≠ g ∧ StepsH L ss ∧ 0 ≤ m ∧ m ≤ 24 ∧
  ∀ (H' : Hp) (r : Addr) (ls : List Lk) (S : Lk → Prop), H r = none → At H H' t g (n + 300) → LAt K H' r (ls.map encL) → (ls.length : Int) ≤ m → Canon ls S → (∀ l ∈ ls, TrueH L ss l) → Q (.ref r) H'
section
variable {P : Program} {w : World} {K : PySem.W.Frag} {mg : Str → Option Value} {base : Heap} {Z : Ad}
theorem ok_law_goal (T : Tx K w mg Z) : FnOk P w K mg base CX0 1 Z.a_law_goal Z.d_law_goal P_law_goal (spLead K) := by
  refine T.F_law_goal.ok sclaw_goal (fun vs H Q E h => ?_) (fun cdv A outer s H vs Q E hr h => ?_)
  · obtain ⟨v, L, x, steps, rfl, _⟩ := h
    rfl
  · obtain ⟨v, L, x, steps, rfl, hv, hL, hLb, hx, hne, hlen, hst, k⟩ := h
    obtain ⟨a, xs, rfl, ha, hd⟩ := dp_list hv
    have hxl : xs.length = steps.length := by rw [dpAll_len hd, List.length_map]
    refine ⟨_, (pss_one (ps_ret (pe_callB (maxK (K := K) rfl) (by rfl) T.b_max (by decide +kernel) (pa_cons (pe_lc (own := [("spot", 3), ("y", 4)]) (g := gTup K 2 (gCons (gName 3) (gCons (gName 4) gNil))) (tt := tYes) rfl sclaw_goal.nd (pi_list (pv 1)) (blkOk_by (own := [("spot", 3), ("y", 4)]) (N := N_law_goal) (sc := defScope slaw_goal) (by decide +kernel)) (fun _ _ _ _ _ => (tupK (K := K) (by rfl) (pgs_cons (pg_name (i := 3) sclaw_goal.nd rfl (Or.inl rfl)) (pgs_cons (pg_name (i := 4) sclaw_goal.nd rfl (Or.inl rfl)) pgs_nil)))) (fun _ _ _ _ _ => pts_nil) (fun _ _ _ _ _ => (pe_op op_add (pv 4) (pe_op op_mulW (pe_op op_fdivW (pe_op op_sub (pv 2) (pv 3)) (pv 0)) (pv 0))))) pa_nil)))), ?_⟩
    refine ⟨_, rfl, a, rfl, ⟨_, ha⟩, fun D hD => ?_⟩
    refine lc_list (K := K) (a := a) (xs := xs) (fun i H' => Same H H' ∧ H' D = some (.lst ((leads L (steps.take i) x).map V.int))) ⟨same_upd hD, upd_same⟩ (fun i H' _ ⟨S, _⟩ => Same.sqL S ha) ?_ ?_
    · rintro i y H' hi ⟨S, hD'⟩
      obtain ⟨d, hdi, hdy⟩ := dpAll_get hd hi
      obtain ⟨l, hl, rfl⟩ := map_at hdi
      have s0 := (hst l (List.mem_of_getElem? hl)).1
      obtain ⟨p, rfl, hp⟩ := dp_pair (dp_mono S _ _ hdy)
      refine ⟨_, _, rfl, hp, rfl, _, _, rfl, _, _, rfl, rfl, rfl, yes_ite ?_⟩
      refine ⟨_, rfl, _, rfl, _, rfl, _, _, rfl, rfl, _, rfl, _, _, rfl, rfl, wide_div hL hLb (by decide) (by decide), _, rfl, _, _, rfl, rfl, wide_mul (div_lt hL (sub_lt hx (lt_up s0 (by decide)))) hLb (by decide) (by decide) (by decide), _, _, rfl, rfl, ?_⟩
      refine ⟨_, hD', ?_, same_set S hD, ?_⟩
      · have : i < steps.length := (List.getElem?_eq_some_iff.mp hl).1
        exact small1000 (by simp [leads]; omega)
      · have e : leads L (steps.take (i + 1)) x = leads L (steps.take i) x ++ [l.2 + (x - l.1) / L * L] := by
          unfold leads; rw [take_snoc hl, List.map_append]; rfl
        rw [e, List.map_append]
        exact upd_same
    · rintro H' ⟨S, hD'⟩
      rw [List.take_of_length_le (by rw [hxl]; exact Nat.le_refl _)] at hD'
      refine ⟨D, leads L steps x, rfl, SqL.of hD', ?_, fun m h1 h2 => ?_⟩
      · simpa [leads] using hne
      · rw [← max_ld h1 h2]
        exact k H' S
end
end KA
namespace KA
open PySem PySem.Spec PyProof.Rows L2 DP
def spDrop (Z : Ad) (K : PySem.W.Frag) : Sp := fun vs H Q _ => ∃ (d : Addr) (L : Int) (ls : List Lk) (l : Lk), vs = [.ref d, .str l.1, .int l.2.1, .int l.2.2] ∧ DarkAt Z K H d L ls ∧ WordOk l.1 ∧ Sized 300 l ∧ home L l ∈ ls ∧
  ∀ H', DarkAt Z K H' d L (ls.filter fun o => !decide (o = home L l)) → (∀ la dx, H' d = some (.ins Z.C dx (df L la)) → H la = none) → (∀ b o, H b = some o → b ≠ d → H' b = some o) → Q .non H'
def spDarkP (Z : Ad) (K : PySem.W.Frag) : Sp := fun vs H Q _ => ∃ (t g p : Addr) (n : Nat) (L : Int) (ls : List Lk), vs = [.ref t, .int L, .ref p] ∧ Tray H t g n ∧ n < 2 ^ 55 ∧ 0 < L ∧ L ≤ 10 ^ 30 ∧ LAt K H p (ls.map encL) ∧ p ≠ t ∧ p ≠ g ∧ ls.length ≤ 24 ∧ (∀ l ∈ ls, WordOk l.1 ∧ Sized 112 l) ∧ (∃ f, Hand L f ∧ ∀ l ∈ ls, Fits f l) ∧
  ∀ (H' : Hp) (d : Addr), H d = none → At H H' t g (n + 100) → DarkAt Z K H' d L (heardAll L ls) → (∀ la dx, H' d = some (.ins Z.C dx (df L la)) → H la = none) → Q (.ref d) H'
theorem seqIx_nat {n k : Nat} (h : k < n) : seqIndex? (k : Int) n = some k := by
  unfold seqIndex?
  simp
  omega
/-- a Dark, a list changed that is none of it -/
theorem DarkAt.acc {Z : Ad} {K : PySem.W.Frag} {H : Hp} {d F : Addr} {L : Int} {ls : List Lk} {xs : List V} {o : HO} (D : DarkAt Z K H d L ls) (hF : H F = some (.lst xs)) (hne : ∀ la dx, H d = some (.ins Z.C dx (df L la)) → la ≠ F) : DarkAt Z K (upd H F o) d L ls := by
  obtain ⟨dx, la, vs, e1, e2, e3⟩ := D.ex
  have hdF : d ≠ F := fun e => by rw [e, hF] at e1; cases e1
  exact ⟨⟨dx, la, vs, (upd_ne hdF).trans e1, (upd_ne (hne la dx e1)).trans e2, dpAll_tups (Tups.upd_lst hF) _ _ (noLs_map noL_encL ls) e3⟩, D.pos, D.big, D.ok, D.len⟩
theorem perm_pop {α : Type} : ∀ {l : List α} {k : Nat} {a : α}, l[k]? = some a → (a :: l.eraseIdx k).Perm l
  | [], k, a, h => by simp at h
  | x :: l, 0, a, h => by
    rw [List.getElem?_cons_zero] at h
    obtain rfl := Option.some.inj h
    exact .refl _
  | x :: l, k + 1, a, h => by
    rw [List.getElem?_cons_succ] at h
    exact (List.Perm.swap x a _).trans ((perm_pop h).cons x)
theorem map_erase {α β : Type} (f : α → β) : ∀ (l : List α) (k : Nat), (l.map f).eraseIdx k = (l.eraseIdx k).map f
  | [], _ => rfl
  | _ :: _, 0 => rfl
  | x :: l, k + 1 => by
    show f x :: (l.map f).eraseIdx k = f x :: (l.eraseIdx k).map f
    rw [map_erase f l k]
theorem dpAll_erase {K : PySem.W.Frag} {H : Hp} : ∀ {vs : List V} {ds : List PyData} (k : Nat), DpAll K H vs ds → DpAll K H (vs.eraseIdx k) (ds.eraseIdx k)
  | _, _, _, .nil => by rw [List.eraseIdx_nil, List.eraseIdx_nil]; exact .nil
  | _, _, 0, .cons a b => b
  | _, _, k + 1, .cons a b => .cons a (dpAll_erase k b)
section
variable {P : Program} {w : World} {K : PySem.W.Frag} {mg : Str → Option Value} {base : Heap} {Z : Ad}
theorem ok_Dark_drop (T : Tx K w mg Z) : FnOk P w K mg base CX0 5 Z.a_Dark_drop Z.d_Dark_drop P_Dark_drop (spDrop Z K) := by
  refine T.F_Dark_drop.ok scDark_drop (fun vs H Q E h => ?_) (fun cdv A outer s H vs Q E hr h => ?_)
  · obtain ⟨d, L, ls, l, rfl, _⟩ := h
    rfl
  · obtain ⟨d, L, ls, l, rfl, D, hw, hl, hin, k⟩ := h
    obtain ⟨dx, la, xs, h1, h2, h3⟩ := id D.ex
    have hxl : xs.length = ls.length := by rw [dpAll_len h3, List.length_map]
    have hwd : ∀ l ∈ ls, WordOk l.1 := fun l hl => (D.ok l hl).1
    refine ⟨_, (pss_cons (ps_set (i := 4) scDark_drop.nd rfl (Or.inr rfl) (pe_meth (pv 0) T.cl T.m_Darkhome (ok_Darkhome T) (hr.mono (by decide)) T.bb_Darkhome .nil pass0 (pa_cons (pv 1) (pa_cons (pv 2) (pa_cons (pv 3) pa_nil)))))
      (C8.pss_cut (ps_if (pt_cmpR (notInDK (K := K) (rooms hr)) (pv 4) (fldK (K := K) (pv 0) rfl) (by rfl)) (pss_one ps_never) pss_nil)
      (pss_one (ps_fld (pv 0) (pe_lc (own := [("other", 5)]) (g := gName 5) (tt := _) rfl scDark_drop.nd (pi_list (fldK (K := K) (pv 0) rfl)) (blkOk_by (own := [("other", 5)]) (N := N_Dark_drop) (sc := defScope sDark_drop) (by decide +kernel)) (fun _ _ _ _ _ => (pg_name (i := 5) scDark_drop.nd rfl (Or.inl rfl))) (fun _ _ _ _ _ => (pts_one (pt_cmpR (neDK (K := K) hr.units) (pv 5) (pv 4) (nomark _)))) (fun _ _ _ _ _ => (pv 5))) rfl)))), ?_⟩
    refine ⟨_, rfl, d, dx, _, rfl, h1, df_no _ _ (by decide +kernel) (by decide +kernel), _, rfl, _, rfl, _, rfl, d, L, ls, l, rfl, D, hw, hl, fun H1 r S hr => ?_⟩
    refine ⟨fun σ' H' => σ' = [some (.ref d), some (.str l.1), some (.int l.2.1), some (.int l.2.2), some r, none] ∧ H' = H1, ?_, ?_⟩
    · refine ⟨_, rfl, _, rfl, d, Z.C, dx, _, _, rfl, S _ _ h1, T.cl, T.n_looks, df_looks _ _, encL (home L l), ls.map encL, hr, .lst (SqL.of (S _ _ h2)) (dpAll_mono S _ _ h3), shaped_look hw, shaped_looks hwd, _, rfl, ?_⟩
      rw [any_look]
      have e : (!decide (home L l ∈ ls)) = false := by simp [hin]
      rw [e]
      exact iteF ⟨rfl, rfl⟩
    · rintro σ' H' ⟨rfl, rfl⟩
      have h1' := S _ _ h1
      have h2' := S _ _ h2
      have h3' := dpAll_mono S _ _ h3
      refine ⟨_, rfl, d, Z.C, dx, _, _, rfl, h1', T.cl, T.n_looks, df_looks _ _, la, rfl, ⟨_, SqL.of h2'⟩, fun D1 hD => ?_⟩
      refine lc_list (K := K) (a := la) (xs := xs) (fun i H2 => Same H' H2 ∧ ∃ ys, H2 D1 = some (.lst ys) ∧ ys.length ≤ i ∧ DpAll K H2 ys (((ls.take i).filter fun o => !decide (o = home L l)).map encL)) ⟨same_upd hD, [], upd_same, Nat.le_refl _, .nil⟩ (fun i H2 _ ⟨S2, _⟩ => SqL.of (S2 _ _ h2')) ?_ ?_
      · rintro i y H2 hi ⟨S2, ys, hd, hyl, hds⟩
        obtain ⟨e, hdi, hdy⟩ := dpAll_get h3' hi
        obtain ⟨o, ho, rfl⟩ := map_at hdi
        have hok := D.ok o (List.mem_of_getElem? ho)
        have hdy2 := dp_mono S2 _ _ hdy
        have hi' : i < ls.length := (List.getElem?_eq_some_iff.mp ho).1
        refine ⟨rfl, _, rfl, _, rfl, encL o, encL (home L l), hdy2, dp_mono S2 _ _ hr, shaped_look hok.1, shaped_look hw, _, rfl, ?_⟩
        rw [eqv_look]
        have e2 : (ls.take (i + 1)).filter (fun o => !decide (o = home L l)) = (ls.take i).filter (fun o => !decide (o = home L l)) ++ (if (!decide (o = home L l)) = true then [o] else []) := by
          rw [take_snoc ho, List.filter_append]
          cases c : (!decide (o = home L l)) <;> simp [c]
        cases c : (!decide (o = home L l)) with
        | false =>
          refine iteF ⟨S2, ys, hd, by omega, ?_⟩
          rw [e2, c]
          simpa using hds
        | true =>
          refine iteT ⟨_, rfl, ys, hd, small1000 (by have := D.len; omega), same_set S2 hD, _, upd_same, by simp; omega, ?_⟩
          rw [e2, c, if_pos rfl, List.map_append]
          exact acc_step hd (noLs_map noL_encL _) rfl hds hdy2
      · rintro H2 ⟨S2, ys, hd, hyl, hds⟩
        rw [List.take_of_length_le (by rw [hxl]; exact Nat.le_refl _)] at hds
        have h1'' := S2 _ _ h1'
        have hdD : d ≠ D1 := ne_of_none h1' hD
        refine ⟨_, rfl, d, Z.C, dx, df L la, rfl, h1'', T.cl, T.n_looks, (by show 2 < 1000; decide), ?_⟩
        refine k _ ⟨⟨dx, D1, ys, Eq.trans upd_same (congrArg (fun q => some (HO.ins Z.C dx q)) (df_put3 L la D1)), (upd_ne (Ne.symm hdD)).trans hd, dpAll_tups (Tups.upd_ins h1'') _ _ (noLs_map noL_encL _) hds⟩, D.pos, D.big, fun o ho => D.ok o (List.mem_filter.mp ho).1, Nat.le_trans (List.length_filter_le _ _) D.len⟩ (fun la' dx' e => ?_) fun b o e hb => (upd_ne hb).trans (S2 _ _ (S _ _ e))
        rw [upd_same, df_put3] at e
        rw [← df_inj e]
        exact S.free hD
end
end KA
namespace KA
open PySem PySem.Spec PyProof.Rows L2 DP
/-- several Darks -/
def DarksAt (Z : Ad) (K : PySem.W.Frag) (H : Hp) (ds : List Addr) (L : Int) (hs : List (List Lk)) (t g : Addr) : Prop := Darks Z K H ds L hs ∧ ∀ d ∈ ds, Off Z H d L t g
theorem DarksAt.keep {Z : Ad} {K : PySem.W.Frag} {H H' : Hp} {t g : Addr} {ds : List Addr} {n : Nat} {L : Int} {hs : List (List Lk)} (D : DarksAt Z K H ds L hs t g) (T : Tray H t g n) (k : Keep t g H H') : DarksAt Z K H' ds L hs t g :=
  ⟨⟨D.1.1, fun i d ls h1 h2 => ((D.1.2 i d ls h1 h2).keep T k (D.2 d (List.mem_of_getElem? h1))).1⟩, fun d hd => by
    obtain ⟨i, hi, rfl⟩ := List.getElem_of_mem hd
    obtain ⟨ls, _, DD⟩ := D.1.get (List.getElem?_eq_getElem hi)
    exact (DD.keep T k (D.2 _ hd)).2⟩
theorem DarksAt.same {Z : Ad} {K : PySem.W.Frag} {H H' : Hp} {t g : Addr} {ds : List Addr} {L : Int} {hs : List (List Lk)} (D : DarksAt Z K H ds L hs t g) (S : Same H H') : DarksAt Z K H' ds L hs t g :=
  ⟨D.1.same S, fun d hd => by
    obtain ⟨i, hi, rfl⟩ := List.getElem_of_mem hd
    obtain ⟨ls, _, DD⟩ := D.1.get (List.getElem?_eq_getElem hi)
    exact (D.2 _ hd).same DD S⟩
theorem DarksAt.acc {Z : Ad} {K : PySem.W.Frag} {H : Hp} {t g D : Addr} {ds : List Addr} {L : Int} {hs : List (List Lk)} {xs : List V} {o : HO} (h : DarksAt Z K H ds L hs t g) (hD : H D = some (.lst xs)) (hne : ∀ d ∈ ds, ∀ la dx, H d = some (.ins Z.C dx (df L la)) → la ≠ D) : DarksAt Z K (upd H D o) ds L hs t g ∧ ∀ d ∈ ds, ∀ la dx, (upd H D o) d = some (.ins Z.C dx (df L la)) → la ≠ D := by
  have hdD : ∀ d ∈ ds, d ≠ D := fun d hd e => by
    obtain ⟨i, hi, e1⟩ := List.getElem_of_mem hd
    obtain ⟨ls, _, DD⟩ := h.1.get (show ds[i]? = some d by rw [List.getElem?_eq_getElem hi, e1])
    obtain ⟨dx', la', _, h1, _⟩ := DD.ex
    rw [e, hD] at h1; cases h1
  refine ⟨⟨⟨h.1.1, fun i d ls h1 h2 => ?_⟩, fun d hd la dx e => ?_⟩, fun d hd la dx e => ?_⟩
  · have DD := h.1.2 i d ls h1 h2
    have hm := List.mem_of_getElem? h1
    obtain ⟨dx, la, vs, e1, e2, e3⟩ := DD.ex
    exact ⟨⟨dx, la, vs, (upd_ne (hdD d hm)).trans e1, (upd_ne (hne d hm la dx e1)).trans e2, dpAll_tups (Tups.upd_lst hD) _ _ (noLs_map noL_encL ls) e3⟩, DD.pos, DD.big, DD.ok, DD.len⟩
  · rw [upd_ne (hdD d hd)] at e
    exact h.2 d hd la dx e
  · rw [upd_ne (hdD d hd)] at e
    exact hne d hd la dx e
theorem cut_take {xs : List V} {k : Nat} : cutV xs none (some (k : Int)) = xs.take k := by
  unfold cutV
  rw [HT.sIx_none, HT.sIx_nat, List.drop_zero, Nat.sub_zero, List.take_eq_take_iff]
  omega
def dO : Option Int → PyData
  | none => .none
  | some i => .int i
theorem dp_oV {K : PySem.W.Frag} {H : Hp} : ∀ o, Dp K H (oV o) (dO o)
  | none => .non
  | some i => .int i
theorem shaped_dO : ∀ o, SeqAt.shaped (dO o) = true
  | none => rfl
  | some i => rfl
theorem eqv_dO (o : Option Int) : PyData.eqv (dO o) (dO o) = true := by
  cases o <;> simp [dO, PyData.eqv]
/-- lists of looks, not the deck -/
def LotsAt (K : PySem.W.Frag) (H : Hp) (as : List Addr) (lots : List (List Lk)) (t g : Addr) : Prop := Lots K H as lots ∧ ∀ a ∈ as, a ≠ t ∧ a ≠ g
theorem LotsAt.keep {K : PySem.W.Frag} {H H' : Hp} {t g : Addr} {as : List Addr} {n : Nat} {lots : List (List Lk)} (D : LotsAt K H as lots t g) (T : Tray H t g n) (k : Keep t g H H') : LotsAt K H' as lots t g :=
  ⟨D.1.to (Keep.tups T k) fun a ha o e => k _ _ e (D.2 a ha).1 (D.2 a ha).2, D.2⟩
theorem LotsAt.same {K : PySem.W.Frag} {H H' : Hp} {t g : Addr} {as : List Addr} {lots : List (List Lk)} (D : LotsAt K H as lots t g) (S : Same H H') : LotsAt K H' as lots t g := ⟨D.1.same S, D.2⟩
theorem LotsAt.acc {K : PySem.W.Frag} {H : Hp} {t g F : Addr} {as : List Addr} {lots : List (List Lk)} {xs : List V} {o : HO} (D : LotsAt K H as lots t g) (hF : H F = some (.lst xs)) (hne : ∀ a ∈ as, a ≠ F) : LotsAt K (upd H F o) as lots t g :=
  ⟨D.1.to (Tups.upd_lst hF) fun a ha o e => (upd_ne (hne a ha)).trans e, D.2⟩
theorem at_set {α : Type} {l : List α} {i j : Nat} {a x : α} (h : (l.set j a)[i]? = some x) : (i = j ∧ x = a ∧ j < l.length) ∨ (i ≠ j ∧ l[i]? = some x) := by
  rw [List.getElem?_set] at h
  by_cases e : j = i
  · rw [if_pos e] at h
    split at h
    · refine .inl ⟨e.symm, (Option.some.inj h).symm, by assumption⟩
    · cases h
  · rw [if_neg e] at h
    exact .inr ⟨fun q => e q.symm, h⟩
theorem LotsAt.set {K : PySem.W.Frag} {H : Hp} {t g a : Addr} {as : List Addr} {lots : List (List Lk)} {ls : List Lk} (D : LotsAt K H as lots t g) {i j : Nat} (h1 : as[i]? = some a) (h2 : lots[i]? = some ls) : LotsAt K H (as.set j a) (lots.set j ls) t g := by
  refine ⟨⟨by rw [List.length_set, List.length_set]; exact D.1.1, fun i' b l e1 e2 => ?_⟩, fun b hb => ?_⟩
  · rcases at_set e1 with ⟨q1, q2, _⟩ | ⟨q1, q2⟩
    · rcases at_set e2 with ⟨p1, p2, _⟩ | ⟨p1, p2⟩
      · rw [q2, p2]; exact D.1.2 i a ls h1 h2
      · exact absurd q1 p1
    · rcases at_set e2 with ⟨p1, p2, _⟩ | ⟨p1, p2⟩
      · exact absurd p1 q1
      · exact D.1.2 i' b l q2 p2
  · rcases List.mem_or_eq_of_mem_set hb with h | h
    · exact D.2 b h
    · rw [h]; exact D.2 a (List.mem_of_getElem? h1)
theorem DarksAt.set {Z : Ad} {K : PySem.W.Frag} {H : Hp} {t g d : Addr} {ds : List Addr} {L : Int} {hs : List (List Lk)} {ls : List Lk} (D : DarksAt Z K H ds L hs t g) {i j : Nat} (h1 : ds[i]? = some d) (h2 : hs[i]? = some ls) : DarksAt Z K H (ds.set j d) L (hs.set j ls) t g := by
  refine ⟨⟨by rw [List.length_set, List.length_set]; exact D.1.1, fun i' b l e1 e2 => ?_⟩, fun b hb => ?_⟩
  · rcases at_set e1 with ⟨q1, q2, _⟩ | ⟨q1, q2⟩
    · rcases at_set e2 with ⟨p1, p2, _⟩ | ⟨p1, p2⟩
      · rw [q2, p2]; exact D.1.2 i d ls h1 h2
      · exact absurd q1 p1
    · rcases at_set e2 with ⟨p1, p2, _⟩ | ⟨p1, p2⟩
      · exact absurd p1 q1
      · exact D.1.2 i' b l q2 p2
  · rcases List.mem_or_eq_of_mem_set hb with h | h
    · exact D.2 b h
    · rw [h]; exact D.2 d (List.mem_of_getElem? h1)
theorem DarksAt.snoc {Z : Ad} {K : PySem.W.Frag} {H : Hp} {t g d : Addr} {ds : List Addr} {L : Int} {hs : List (List Lk)} {ls : List Lk} (D : DarksAt Z K H ds L hs t g) (h : DarkAt Z K H d L ls) (o : Off Z H d L t g) : DarksAt Z K H (ds ++ [d]) L (hs ++ [ls]) t g := by
  have hl := D.1.1
  refine ⟨⟨by simp [hl], fun i b l h1 h2 => ?_⟩, fun b hb => ?_⟩
  · by_cases hi : i < ds.length
    · rw [List.getElem?_append_left hi] at h1
      rw [List.getElem?_append_left (by omega)] at h2
      exact D.1.2 i b l h1 h2
    · have h3 := (List.getElem?_eq_some_iff.mp h1).1
      rw [List.length_append, List.length_singleton] at h3
      have e : i = ds.length := by omega
      subst e
      rw [List.getElem?_append_right (Nat.le_refl _), Nat.sub_self] at h1
      rw [List.getElem?_append_right (by omega), hl, Nat.sub_self] at h2
      have e1 : d = b := Option.some.inj h1
      have e2 : ls = l := Option.some.inj h2
      subst e1 e2
      exact h
  · rcases List.mem_append.mp hb with h' | h'
    · exact D.2 b h'
    · rw [List.mem_singleton] at h'; subst h'; exact o
theorem LotsAt.snoc {K : PySem.W.Frag} {H : Hp} {t g a : Addr} {as : List Addr} {lots : List (List Lk)} {ls : List Lk} (D : LotsAt K H as lots t g) (h : LkAt K H a ls) (o : a ≠ t ∧ a ≠ g) : LotsAt K H (as ++ [a]) (lots ++ [ls]) t g := ⟨D.1.snoc h, fun b hb => by
  rcases List.mem_append.mp hb with h' | h'
  · exact D.2 b h'
  · rw [List.mem_singleton] at h'; subst h'; exact o⟩
theorem refs_set (as : List Addr) (j : Nat) (a : Addr) : (refs as).set j (.ref a) = refs (as.set j a) := by
  unfold refs; rw [List.map_set]
theorem atI_refs {as : List Addr} {i : Nat} {j : Int} {a : Addr} (e : j = (i : Int)) (h : as[i]? = some a) : atI (refs as) j = some (.ref a) := by
  refine at_of (j := i) e ?_
  show (as.map V.ref)[i]? = _
  rw [List.getElem?_map, h]; rfl
theorem ixN_last {n : Nat} (h : 0 < n) : ixN n (-1) = some (n - 1) := by
  unfold ixN
  rw [if_neg (by decide), if_pos (by omega)]
  congr 1
  omega
theorem ixN_nat {n k : Nat} (h : k < n) : ixN n (k : Int) = some k := by
  unfold ixN
  rw [if_pos (by omega), if_pos (by omega)]; rfl
theorem Off.none {Z : Ad} {K : PySem.W.Frag} {H : Hp} {d x : Addr} {L : Int} {ls : List Lk} (D : DarkAt Z K H d L ls) (hx : H x = none) : Off Z H d L x x := fun la dx e => by
  obtain ⟨dx', la', vs, h1, h2, _⟩ := D.ex
  rw [h1] at e
  rw [← df_inj e]
  exact ⟨ne_of_none h2 hx, ne_of_none h2 hx⟩
/-- a list of Darks at D, D none of their parts -/
structure Row (Z : Ad) (K : PySem.W.Frag) (H : Hp) (t g D : Addr) (ds : List Addr) (L : Int) (hs : List (List Lk)) : Prop where
  l : H D = some (.lst (refs ds))
  dk : DarksAt Z K H ds L hs t g
  off : ∀ d ∈ ds, Off Z H d L D D
section
variable {Z : Ad} {K : PySem.W.Frag} {H H' H1 : Hp} {t g D d : Addr} {ds : List Addr} {L : Int} {hs : List (List Lk)} {ls : List Lk} {n : Nat}
theorem Row.new (L : Int) (hD : H D = none) : Row Z K (upd H D (.lst [])) t g D [] L [] := ⟨upd_same, ⟨⟨rfl, fun _ _ _ z => by simp at z⟩, fun _ z => by cases z⟩, fun _ z => by cases z⟩
theorem Darks.mem (D : Darks Z K H ds L hs) (h : d ∈ ds) : ∃ ls, DarkAt Z K H d L ls := by
  obtain ⟨i, hi, e⟩ := List.getElem_of_mem h
  obtain ⟨ls, _, DD⟩ := D.get (show ds[i]? = some d by rw [List.getElem?_eq_getElem hi, e])
  exact ⟨ls, DD⟩
theorem Row.same (R : Row Z K H t g D ds L hs) (S : Same H H') : Row Z K H' t g D ds L hs := ⟨S _ _ R.l, R.dk.same S, fun d hd => by
  obtain ⟨ls, DD⟩ := R.dk.1.mem hd
  exact (R.off d hd).same DD S⟩
theorem Off.keep {x : Addr} (O : Off Z H d L x x) (DD : DarkAt Z K H d L ls) (T : Tray H t g n) (k : Keep t g H H') : Off Z H' d L x x := fun la dx e => by
  obtain ⟨dx', la', vs, h1, _⟩ := DD.ex
  have hd : d ≠ t ∧ d ≠ g := by
    obtain ⟨⟨gs, f, c, e1, e2, r⟩, hne⟩ := T
    refine ⟨?_, ?_⟩ <;> rintro rfl
    · rw [h1] at e1; cases e1
    · rw [h1] at e2; cases e2
  rw [k _ _ h1 hd.1 hd.2] at e
  rw [← df_inj e]
  exact O la' dx' h1
theorem Row.keep (R : Row Z K H t g D ds L hs) (T : Tray H t g n) (k : Keep t g H H') (h1 : D ≠ t) (h2 : D ≠ g) : Row Z K H' t g D ds L hs := ⟨k _ _ R.l h1 h2, R.dk.keep T k, fun d hd => by
  obtain ⟨ls, DD⟩ := R.dk.1.mem hd
  exact (R.off d hd).keep DD T k⟩
theorem Row.step (R : Row Z K H t g D ds L hs) (T : Tray H t g n) (S : Same H H1) (DD : DarkAt Z K H1 d L ls) (F : ∀ la dx, H1 d = some (.ins Z.C dx (df L la)) → H la = none) : Row Z K (upd H1 D (.lst (refs ds ++ [V.ref d]))) t g D (ds ++ [d]) L (hs ++ [ls]) := by
  have R1 := R.same S
  have o1 : Off Z H1 d L t g := fun la dx e => T.at_ne (F la dx e)
  have o2 : Off Z H1 d L D D := fun la dx e => by
    have := ne_of_none R.l (F la dx e)
    exact ⟨Ne.symm this, Ne.symm this⟩
  have dk := R1.dk.snoc DD o1
  have off : ∀ d' ∈ ds ++ [d], Off Z H1 d' L D D := fun d' hd => by
    rcases List.mem_append.mp hd with h | h
    · exact R1.off d' h
    · rw [List.mem_singleton] at h; subst h; exact o2
  refine ⟨by rw [upd_same]; simp [refs], (dk.acc R1.l fun d' hd la dx e => (off d' hd la dx e).1).1, fun d' hd la dx e => ?_⟩
  have hne : d' ≠ D := fun q => by rw [q, upd_same] at e; cases e
  rw [upd_ne hne] at e
  exact off d' hd la dx e
theorem Row.of (dk : DarksAt Z K H ds L hs t g) (hD : H D = none) : Row Z K (upd H D (.lst (refs ds))) t g D ds L hs := ⟨upd_same, dk.same (same_upd hD), fun d hd => by
  obtain ⟨ls, DD⟩ := dk.1.mem hd
  exact (Off.none DD hD).same DD (same_upd hD)⟩
theorem Darks.set1 (Dk : Darks Z K H ds L hs) (DD : DarkAt Z K H d L ls) (k : Nat) : Darks Z K H (ds.set k d) L (hs.set k ls) := by
  refine ⟨by rw [List.length_set, List.length_set]; exact Dk.1, fun i b l e1 e2 => ?_⟩
  rcases at_set e1 with ⟨q1, q2, _⟩ | ⟨q1, q2⟩
  · rcases at_set e2 with ⟨p1, p2, _⟩ | ⟨p1, p2⟩
    · rw [q2, p2]; exact DD
    · exact absurd q1 p1
  · rcases at_set e2 with ⟨p1, p2, _⟩ | ⟨p1, p2⟩
    · exact absurd p1 q1
    · exact Dk.2 i b l q2 p2
theorem Row.set (R : Row Z K H t g D ds L hs) (T : Tray H t g n) (S : Same H H1) (DD : DarkAt Z K H1 d L ls) (F : ∀ la dx, H1 d = some (.ins Z.C dx (df L la)) → H la = none) (k : Nat) : Row Z K (upd H1 D (.lst ((refs ds).set k (V.ref d)))) t g D (ds.set k d) L (hs.set k ls) := by
  have R1 := R.same S
  have o1 : Off Z H1 d L t g := fun la dx e => T.at_ne (F la dx e)
  have o2 : Off Z H1 d L D D := fun la dx e => by
    have := ne_of_none R.l (F la dx e)
    exact ⟨Ne.symm this, Ne.symm this⟩
  have dk : DarksAt Z K H1 (ds.set k d) L (hs.set k ls) t g := ⟨R1.dk.1.set1 DD k, fun d' hd => by
    rcases List.mem_or_eq_of_mem_set hd with h | h
    · exact R1.dk.2 d' h
    · rw [h]; exact o1⟩
  have off : ∀ d' ∈ ds.set k d, Off Z H1 d' L D D := fun d' hd => by
    rcases List.mem_or_eq_of_mem_set hd with h | h
    · exact R1.off d' h
    · rw [h]; exact o2
  refine ⟨by rw [upd_same, refs, refs, List.map_set], (dk.acc R1.l fun d' hd la dx e => (off d' hd la dx e).1).1, fun d' hd la dx e => ?_⟩
  have hne : d' ≠ D := fun q => by rw [q, upd_same] at e; cases e
  rw [upd_ne hne] at e
  exact off d' hd la dx e
/-- begun at another hand -/
theorem Darks.turned {hs0 : List (List Lk)} (Dk : Darks Z K H ds L (hs0.map (heardAll L))) (k : Nat) : Darks Z K H (ds.drop k ++ ds.take k) L ((hs0.drop k ++ hs0.take k).map (heardAll L)) := by
  have hl := Dk.1
  rw [List.length_map] at hl
  rw [List.map_append, List.map_drop, List.map_take]
  refine ⟨by simp [hl], fun i b l h1 h2 => ?_⟩
  by_cases hi : i < (ds.drop k).length
  · rw [List.getElem?_append_left hi, List.getElem?_drop] at h1
    rw [List.getElem?_append_left (by simp at hi ⊢; omega), List.getElem?_drop] at h2
    exact Dk.2 _ b l h1 h2
  · rw [List.getElem?_append_right (by omega)] at h1
    rw [List.getElem?_append_right (by simp at hi ⊢; omega)] at h2
    have e : ((hs0.map (heardAll L)).drop k).length = (ds.drop k).length := by simp [hl]
    rw [e] at h2
    obtain ⟨h3, h3'⟩ := List.getElem?_eq_some_iff.mp h1
    rw [List.length_take] at h3
    rw [List.getElem?_take_of_lt (by omega)] at h1 h2
    exact Dk.2 _ b l h1 h2
end
end KA
namespace KA
open PySem PySem.Spec PyProof.Rows L2 DP
/-- looks of the law's making: sorted, each once, at home, that some hand fits -/
structure Gaze (L : Int) (ls : List Lk) : Prop where
  len : ls.length ≤ 24
  ok : ∀ l ∈ ls, WordOk l.1 ∧ Sized 112 l
  fit : ∃ f, Hand L f ∧ ∀ l ∈ ls, Fits f l
  home : ∀ l ∈ ls, 0 ≤ l.2.1 ∧ l.2.1 < L
  can : ∃ S, Canon ls S
theorem Gaze.of {L : Int} (hL : 0 < L) {ss : List Pr} (h0 : 0 < ss.length) {ls : List Lk} {S : Lk → Prop} (hl : ls.length ≤ 24) (C : Canon ls S) (h : ∀ l ∈ ls, TrueH L ss l) : Gaze L ls :=
  ⟨hl, fun l m => ⟨(h l m).1.1, (h l m).1.2.2⟩, ⟨ld L ss, ld_hand hL h0, fun l m => (h l m).1.2.1⟩, fun l m => (h l m).2, S, C⟩
theorem Gaze.filter {L : Int} {ls : List Lk} (G : Gaze L ls) (q : Lk → Bool) : Gaze L (ls.filter q) := by
  obtain ⟨f, F, hf⟩ := G.fit
  obtain ⟨S, C⟩ := G.can
  exact ⟨Nat.le_trans (List.length_filter_le _ _) G.len, fun l m => G.ok l (List.mem_filter.mp m).1, ⟨f, F, fun l m => hf l (List.mem_filter.mp m).1⟩, fun l m => G.home l (List.mem_filter.mp m).1, _, filter_canon C q⟩
theorem rises_steps {L : Int} (hLb : L.natAbs < 2 ^ 100) {prs : List Pr} (R : Rises L prs) (hl : prs.length ≤ 50) : StepsH L prs := by
  refine ⟨List.length_pos_iff.mpr R.ne, hl, fun s hs => ?_⟩
  obtain ⟨b, hb, ht⟩ := R.turn
  obtain ⟨h1, h2⟩ := R.on s hs
  obtain ⟨h3, h4⟩ := ht s hs
  have e1 : (2 : Nat) ^ 105 = 2 ^ 100 * 32 := by decide
  have e2 : (2 : Nat) ^ 104 = 2 ^ 100 * 16 := by decide
  rw [e2] at hb
  refine ⟨⟨?_, ?_⟩, h1, h2⟩
  · rw [e1]
    generalize (2 : Nat) ^ 100 = B at hLb hb ⊢
    omega
  · rw [e1]
    generalize (2 : Nat) ^ 100 = B at hLb hb ⊢
    omega
def spGazes (K : PySem.W.Frag) : Sp := fun vs H Q _ => ∃ (t g : Addr) (n : Nat) (L m : Int), vs = [.ref t, .int L, .int m] ∧ Tray H t g n ∧ n < 2 ^ 45 ∧ 0 < L ∧ L ≤ 10 ^ 30 ∧ 0 < m ∧ m ≤ 6 ∧
  ∀ (H' : Hp) (F : Addr) (as : List Addr) (lots : List (List Lk)), H F = none → At H H' t g (n + 4000) → H' F = some (.lst (refs as)) → LotsAt K H' as lots t g → (∀ a ∈ as, a ≠ F) → 0 < lots.length → (lots.length : Int) ≤ m → (∀ ls ∈ lots, Gaze L ls) → Q (.ref F) H'
section
variable {P : Program} {w : World} {K : PySem.W.Frag} {mg : Str → Option Value} {base : Heap} {Z : Ad}
end
end KA
namespace KA
open PySem PySem.Spec PyProof.Rows L2 DP
/-! ### how many a set has -/
def rLenSet (w : World) : List V → Hp → VK → Prop := fun vs H Q => ∃ (a : Addr) (S : Int → Bool) (n : Nat), vs = [V.ref a] ∧ H a = some (SetO w a S n) ∧ ((∃ ks : List Int, ks.Nodup ∧ (∀ k, S k = true ↔ k ∈ ks) ∧ ks.length = n) → Q (.int n) H)
theorem cr_lenSet {X : Cx} : CallR X (.builtin "len") (rLenSet X.w) := by
  intro pins s σ H vs us Q I r h
  obtain ⟨a, S, n, rfl, ha, q⟩ := h
  obtain ⟨o, es, ep, t, ho, hex, hd, _, hnd, hk, hsz, hf, hn, _⟩ := setO_get I ha
  rw [Vals.ref1 r]
  refine call_len_set ho hex hd hf (by unfold scanBound at hsz; omega) ⟨.int n, H, I.tok _, ⟨_, by rw [hn]⟩, q ⟨es.toList.map keyOf, hnd, hk, by rw [List.length_map, Array.length_toList]; exact hn⟩⟩
theorem lenSetK {X : Cx} {w : World} (hw : X.w = w := by rfl) : CallR X (.builtin "len") (rLenSet w) := by subst hw; exact cr_lenSet
/-! ### no pace under more than the places that were looked at -/
theorem dvd_cop {q n d : Int} (h : Int.gcd q n = 1) (hd : n ∣ q * d) : n ∣ d := by
  have h1 : n.natAbs ∣ q.natAbs * d.natAbs := by
    rw [← Int.natAbs_mul]; exact Int.natAbs_dvd_natAbs.mpr hd
  have h2 : Nat.Coprime n.natAbs q.natAbs := by
    show Nat.gcd _ _ = 1
    rw [Nat.gcd_comm]; exact h
  exact Int.natAbs_dvd_natAbs.mp (h2.dvd_of_dvd_mul_left h1)
/-- more members than places cannot be -/
theorem pig : ∀ (n : Nat) (ks : List Int) (c : Nat → Int), (∀ i, i < n → c i ∈ ks) → (∀ i j, i < j → j < n → c i ≠ c j) → n ≤ ks.length
  | 0, _, _, _, _ => Nat.zero_le _
  | n + 1, ks, c, h1, h2 => by
    have hm := h1 n (by omega)
    have h := pig n (ks.erase (c n)) c (fun i hi => (List.mem_erase_of_ne (h2 i n hi (by omega))).mpr (h1 i (by omega))) (fun i j a b => h2 i j a (by omega))
    rw [List.length_erase_of_mem hm] at h
    have : 0 < ks.length := List.length_pos_of_mem hm
    omega
section
variable {L : Int} {f : Int → Int} {pr : Int × Int}
/-- no two of a round's places are one -/
theorem orbit_ne (hL : 0 < L) (F : Hand L f) (P : PaceOf L f pr) (x : Int) {i j : Nat} (hij : i < j) (hj : ((j - i : Nat) : Int) < pr.2) : itf f x i % L ≠ itf f x j % L := fun e => by
  obtain ⟨k, hk⟩ : ∃ k, itf f x j = itf f x i + k * L := by
    refine ⟨itf f x j / L - itf f x i / L, ?_⟩
    have q1 := Int.mul_ediv_add_emod (itf f x i) L
    have q2 := Int.mul_ediv_add_emod (itf f x j) L
    have : (itf f x j / L - itf f x i / L) * L = L * (itf f x j / L) - L * (itf f x i / L) := by grind
    omega
  have e1 : itf f (itf f x i) (j - i) = itf f x i + k * L := by
    rw [← itf_add, show i + (j - i) = j by omega, hk]
  have e2 := P.all hL F e1
  have d : pr.2 ∣ pr.1 * ((j - i : Nat) : Int) := ⟨k, by rw [e2, Int.mul_comm]⟩
  have d2 : pr.2 ∣ ((j - i : Nat) : Int) := dvd_cop P.cop d
  have := Int.le_of_dvd (by omega) d2
  omega
/-- a leading whose looked-at places tell its own: no more under the pace than places -/
theorem pace_few (hL : 0 < L) (F : Hand L f) (P : PaceOf L f pr) (ks : List Int) (c : Int → Int) (h1 : ∀ z, c z ∈ ks) (h2 : ∀ z y, c z = c y → f z % L = f y % L) : pr.2 ≤ ks.length := by
  have hp := P.pos
  have := pig pr.2.toNat ks (fun i => c (itf f 0 i)) (fun i _ => h1 _) (fun i j a b e => by
    have := h2 _ _ e
    exact orbit_ne hL F P 0 (i := i + 1) (j := j + 1) (by omega) (by omega) this)
  omega
theorem pace_le (hL : 0 < L) (P : PaceOf L f pr) {s : Int} (h : ∀ x, f x ≤ x + s) : pr.1 * L ≤ s * pr.2 := by
  obtain ⟨x, c, p, p0, h1, h2⟩ := P.lap
  have hn : ∀ n : Nat, itf f x n ≤ x + n * s := by
    intro n
    induction n with
    | zero => simp [itf]
    | succ n ih =>
      have := h (itf f x n)
      show f (itf f x n) ≤ _
      push_cast
      have e : ((n : Int) + 1) * s = n * s + s := by grind
      omega
  have h3 := hn p
  rw [h1] at h3
  have hp := P.pos
  have h4 : c * L * pr.2 ≤ p * s * pr.2 := Int.mul_le_mul_of_nonneg_right (by omega) (by omega)
  have e1 : c * L * pr.2 = pr.1 * L * p := by grind
  have e2 : (p : Int) * s * pr.2 = s * pr.2 * p := by grind
  rw [e1, e2] at h4
  exact Int.le_of_mul_le_mul_right h4 (by omega)
theorem pace_ge (hL : 0 < L) (P : PaceOf L f pr) {s : Int} (h : ∀ x, x + s ≤ f x) : s * pr.2 ≤ pr.1 * L := by
  obtain ⟨x, c, p, p0, h1, h2⟩ := P.lap
  have hn : ∀ n : Nat, x + n * s ≤ itf f x n := by
    intro n
    induction n with
    | zero => simp [itf]
    | succ n ih =>
      have := h (itf f x n)
      show _ ≤ f (itf f x n)
      push_cast
      have e : ((n : Int) + 1) * s = n * s + s := by grind
      omega
  have h3 := hn p
  rw [h1] at h3
  have hp := P.pos
  have h4 : p * s * pr.2 ≤ c * L * pr.2 := Int.mul_le_mul_of_nonneg_right (by omega) (by omega)
  have e1 : c * L * pr.2 = pr.1 * L * p := by grind
  have e2 : (p : Int) * s * pr.2 = s * pr.2 * p := by grind
  rw [e1, e2] at h4
  exact Int.le_of_mul_le_mul_right h4 (by omega)
end
theorem same_class {sd : Str} (hs : SideOk sd) {L : Int} (hL : 0 < L) {ls : List Lk} {z y : Int} {l l' : Lk} (b : IsBest sd ls z L (plc sd l z L)) (b' : IsBest sd ls y L (plc sd l' y L)) (hl : l ∈ ls) (hl' : l' ∈ ls) (e : l.2.1 % L = l'.2.1 % L) : plc sd l z L % L = plc sd l' y L % L := by
  obtain ⟨k, hk⟩ : ∃ k, l'.2.1 = l.2.1 + k * L := by
    refine ⟨l'.2.1 / L - l.2.1 / L, ?_⟩
    have q1 := Int.mul_ediv_add_emod l.2.1 L
    have q2 := Int.mul_ediv_add_emod l'.2.1 L
    have : (l'.2.1 / L - l.2.1 / L) * L = L * (l'.2.1 / L) - L * (l.2.1 / L) := by grind
    omega
  have h1 := b.2 l' hl'
  have h2 := b'.2 l hl
  have d1 : ∀ u : Int, (u - l'.2.1) / L = (u - l.2.1) / L - k := fun u => by
    rw [hk, show u - (l.2.1 + k * L) = u - l.2.1 + (-k) * L by grind, Int.add_mul_ediv_right _ _ (by omega)]; omega
  have d2 : ∀ u : Int, (l'.2.1 - u) / L = (l.2.1 - u) / L + k := fun u => by
    rw [hk, show l.2.1 + k * L - u = l.2.1 - u + k * L by grind, Int.add_mul_ediv_right _ _ (by omega)]
  rcases hs with rfl | rfl
  · rw [if_pos rfl] at h1 h2
    rw [plc_slow, plc_slow] at h1 h2 ⊢
    rw [d1] at h1 h2 ⊢
    have e1 : ((z - l.2.1) / L - k) * L = (z - l.2.1) / L * L - k * L := by grind
    have e2 : ((y - l.2.1) / L - k) * L = (y - l.2.1) / L * L - k * L := by grind
    rw [e1] at h1
    rw [e2] at h2 ⊢
    have e3 : l'.2.2 = l.2.2 + k * L := by omega
    rw [e3, show l.2.2 + k * L + ((y - l.2.1) / L * L - k * L) = l.2.2 + (y - l.2.1) / L * L by omega, Int.add_mul_emod_self_right, Int.add_mul_emod_self_right]
  · rw [if_neg slow_ne] at h1 h2
    rw [plc_fast, plc_fast] at h1 h2 ⊢
    rw [d2] at h1 h2 ⊢
    have e1 : ((l.2.1 - z) / L + k) * L = (l.2.1 - z) / L * L + k * L := by grind
    have e2 : ((l.2.1 - y) / L + k) * L = (l.2.1 - y) / L * L + k * L := by grind
    rw [e1] at h1
    rw [e2] at h2 ⊢
    have e3 : l'.2.2 = l.2.2 + k * L := by omega
    rw [e3, show l.2.2 + k * L - ((l.2.1 - y) / L * L + k * L) = l.2.2 + (-((l.2.1 - y) / L)) * L by grind, show l.2.2 - (l.2.1 - z) / L * L = l.2.2 + (-((l.2.1 - z) / L)) * L by grind, Int.add_mul_emod_self_right, Int.add_mul_emod_self_right]
theorem few_places {sd : Str} (hs : SideOk sd) {L : Int} (hL : 0 < L) {ls : List Lk} (h : ls ≠ []) {pr : Pr} (P : PaceOf L (fun x => bst sd ls x L) pr) (ks : List Int) (hk : ∀ l ∈ ls, l.2.1 % L ∈ ks) : pr.2 ≤ ks.length := by
  have ex : ∀ z, ∃ l, l ∈ ls ∧ plc sd l z L = bst sd ls z L := fun z => by
    obtain ⟨⟨l, hl, e⟩, _⟩ := bst_is hs h z L
    exact ⟨l, hl, e⟩
  refine pace_few hL (bst_hand hs hL h) P ks (fun z => (ex z).choose.2.1 % L) (fun z => hk _ (ex z).choose_spec.1) fun z y e => ?_
  have b1 := bst_is hs h z L
  have b2 := bst_is hs h y L
  rw [← (ex z).choose_spec.2] at b1 ⊢
  rw [← (ex y).choose_spec.2] at b2 ⊢
  exact same_class hs hL b1 b2 (ex z).choose_spec.1 (ex y).choose_spec.1 e
end KA
namespace KA
open PySem PySem.Spec PyProof.Rows L2 DP
/-! ### behind some rounds all are home -/
section
variable {L : Int} {f : Int → Int} {pr : Int × Int}
theorem lap_up (F : Hand L f) {y p : Int} {q : Nat} (h : y + p * L < itf f y q) : ∀ s : Nat, y + (s + 1 : Nat) * (p * L) < itf f y ((s + 1) * q)
  | 0 => by simpa using h
  | s + 1 => by
    have ih := lap_up F h s
    have e : (s + 1 + 1) * q = (s + 1) * q + q := by rw [Nat.succ_mul]
    rw [e, itf_add]
    have h1 := itf_mono F (Int.le_of_lt ih) q
    have e2 : y + ((s + 1 : Nat) : Int) * (p * L) = y + (((s + 1 : Nat) : Int) * p) * L := by grind
    rw [e2, itf_shift F] at h1
    have e3 : ((s + 1 + 1 : Nat) : Int) * (p * L) = p * L + (((s + 1 : Nat) : Int) * p) * L := by push_cast; grind
    rw [e3]
    omega
theorem lap_dn (F : Hand L f) {y p : Int} {q : Nat} (h : itf f y q < y + p * L) : ∀ s : Nat, itf f y ((s + 1) * q) < y + (s + 1 : Nat) * (p * L)
  | 0 => by simpa using h
  | s + 1 => by
    have ih := lap_dn F h s
    have e : (s + 1 + 1) * q = (s + 1) * q + q := by rw [Nat.succ_mul]
    rw [e, itf_add]
    have h1 := itf_mono F (Int.le_of_lt ih) q
    have e2 : y + ((s + 1 : Nat) : Int) * (p * L) = y + (((s + 1 : Nat) : Int) * p) * L := by grind
    rw [e2, itf_shift F] at h1
    have e3 : ((s + 1 + 1 : Nat) : Int) * (p * L) = p * L + (((s + 1 : Nat) : Int) * p) * L := by push_cast; grind
    rw [e3]
    omega
/-- who comes round at all comes round in the pace's rounds -/
theorem PaceOf.home (hL : 0 < L) (F : Hand L f) (P : PaceOf L f pr) {y k : Int} {m : Nat} (h0 : 0 < m) (h : itf f y m = y + k * L) : itf f y pr.2.toNat = y + pr.1 * L := by
  have h1 := P.all hL F h
  have hp := P.pos
  obtain ⟨t, ht⟩ := dvd_cop P.cop (show pr.2 ∣ pr.1 * (m : Int) from ⟨k, by rw [h1, Int.mul_comm]⟩)
  have t0 : 0 < t := by
    by_cases c : 0 < t
    · exact c
    · exfalso
      have := Int.mul_nonpos_of_nonneg_of_nonpos (show 0 ≤ pr.2 by omega) (show t ≤ 0 by omega)
      omega
  have hk : k = pr.1 * t := by
    have e : k * pr.2 = (pr.1 * t) * pr.2 := by rw [← h1, ht]; grind
    exact Int.eq_of_mul_eq_mul_right (by omega) e
  obtain ⟨s, hs⟩ : ∃ s : Nat, t = ((s + 1 : Nat) : Int) := ⟨(t - 1).toNat, by omega⟩
  have hm : m = (s + 1) * pr.2.toNat := by
    have e : (m : Int) = (((s + 1) * pr.2.toNat : Nat) : Int) := by
      push_cast
      rw [ht, hs, Int.toNat_of_nonneg (by omega), Int.mul_comm]
      push_cast
      rfl
    exact Int.ofNat_inj.mp e
  rw [hm, hk, hs] at h
  have e4 : pr.1 * ((s + 1 : Nat) : Int) * L = ((s + 1 : Nat) : Int) * (pr.1 * L) := by grind
  rw [e4] at h
  rcases Int.lt_trichotomy (itf f y pr.2.toNat) (y + pr.1 * L) with c | c | c
  · have := lap_dn F c s; omega
  · exact c
  · have := lap_up F c s; omega
/-- behind more rounds than places one is home -/
theorem home_soon (hL : 0 < L) (F : Hand L f) (P : PaceOf L f pr) (ks : List Int) (hk : ∀ z, f z % L ∈ ks) (x : Int) {n : Nat} (hn : ks.length < n) : itf f (itf f x n) pr.2.toNat = itf f x n + pr.1 * L := by
  obtain ⟨i, j, hij, hj, e⟩ : ∃ i j, i < j ∧ j < n ∧ itf f x (i + 1) % L = itf f x (j + 1) % L := by
    by_cases c : ∃ i j, i < j ∧ j < n ∧ itf f x (i + 1) % L = itf f x (j + 1) % L
    · exact c
    · exfalso
      have := pig n ks (fun i => itf f x (i + 1) % L) (fun i _ => hk _) (fun i j h1 h2 e => c ⟨i, j, h1, h2, e⟩)
      omega
  obtain ⟨k, hk'⟩ : ∃ k, itf f x (j + 1) = itf f x (i + 1) + k * L := by
    refine ⟨itf f x (j + 1) / L - itf f x (i + 1) / L, ?_⟩
    have q1 := Int.mul_ediv_add_emod (itf f x (i + 1)) L
    have q2 := Int.mul_ediv_add_emod (itf f x (j + 1)) L
    have : (itf f x (j + 1) / L - itf f x (i + 1) / L) * L = L * (itf f x (j + 1) / L) - L * (itf f x (i + 1) / L) := by grind
    omega
  have h1 : itf f (itf f x n) (j - i) = itf f x n + k * L := by
    rw [← itf_add, show n + (j - i) = (j + 1) + (n - (i + 1)) by omega, itf_add, hk', itf_shift F, ← itf_add, show i + 1 + (n - (i + 1)) = n by omega]
  exact P.home hL F (by omega) h1
end
/-- a hand without looks of the side: no round leads anywhere -/
theorem it_nowhere {sd : Str} {L : Int} {kn : List (List Lk)} (h : ¬ Filled kn) (x : Int) {m : Nat} (hm : kn.length ≤ m) : it sd L kn x m = none := by
  obtain ⟨i, hi, e⟩ : ∃ i, i < kn.length ∧ kn.getD i [] = [] := by
    by_cases c : ∃ i, i < kn.length ∧ kn.getD i [] = []
    · exact c
    · exfalso
      refine h fun ls hl e => ?_
      obtain ⟨i, hi, e2⟩ := List.getElem_of_mem hl
      exact c ⟨i, hi, by rw [List.getD_eq_getElem?_getD, List.getElem?_eq_getElem hi, e2]; exact e⟩
  have h1 : it sd L kn x (i + 1) = none := by
    rw [it_succ, Nat.mod_eq_of_lt hi, e]
    cases it sd L kn x i with
    | none => rfl
    | some y => exact stp_nil
  have := it_none h1 (m - (i + 1))
  rwa [show i + 1 + (m - (i + 1)) = m by omega] at this
theorem bst_near {sd : Str} (hs : SideOk sd) {L : Int} (hL : 0 < L) (hLb : L.natAbs < 2 ^ 100) {ls : List Lk} (h : ls ≠ []) (ho : ∀ l ∈ ls, Sized 112 l) (x : Int) : (bst sd ls x L - x).natAbs ≤ 2 ^ 114 := by
  obtain ⟨⟨l, hl, e⟩, _⟩ := bst_is hs h x L
  have h1 := plc_near hL sd l x
  rw [e] at h1
  have h2 := sub_lt (ho l hl).2 (ho l hl).1
  have e1 : (2 : Nat) ^ 114 = 2 ^ 113 + 2 ^ 113 := by rw [Nat.pow_succ, Nat.mul_two]
  have e2 : (2 : Nat) ^ 100 ≤ 2 ^ 113 := Nat.pow_le_pow_right (by decide) (by decide)
  have h2' : (l.2.2 - l.2.1).natAbs < 2 ^ 113 := h2
  rw [e1]
  generalize (2 : Nat) ^ 113 = W at e2 h2' ⊢
  omega
theorem rf_near {sd : Str} (hs : SideOk sd) {L : Int} (hL : 0 < L) (hLb : L.natAbs < 2 ^ 100) : ∀ {kn : List (List Lk)}, Filled kn → (∀ ls ∈ kn, ∀ l ∈ ls, Sized 112 l) → ∀ x, (rf sd L kn x - x).natAbs ≤ kn.length * 2 ^ 114
  | [], _, _, x => by
    show (x - x).natAbs ≤ _
    omega
  | ls :: r, h, ho, x => by
    have a := bst_near hs hL hLb (h ls List.mem_cons_self) (ho ls List.mem_cons_self) x
    have b := rf_near hs hL hLb (kn := r) (fun q hq => h q (List.mem_cons_of_mem _ hq)) (fun q hq => ho q (List.mem_cons_of_mem _ hq)) (bst sd ls x L)
    show (rf sd L r (bst sd ls x L) - x).natAbs ≤ (r.length + 1) * 2 ^ 114
    rw [Nat.add_mul, Nat.one_mul]
    generalize (2 : Nat) ^ 114 = W at a b ⊢
    generalize r.length * W = Y at b ⊢
    omega
theorem itf_size {sd : Str} (hs : SideOk sd) {L : Int} (hL : 0 < L) (hLb : L.natAbs < 2 ^ 100) {kn : List (List Lk)} (h : Filled kn) (ho : ∀ ls ∈ kn, ∀ l ∈ ls, Sized 112 l) (h6 : kn.length ≤ 6) (x : Int) : ∀ n, (itf (rf sd L kn) x n).natAbs ≤ x.natAbs + n * 2 ^ 117
  | 0 => by show x.natAbs ≤ _; omega
  | n + 1 => by
    have ih := itf_size hs hL hLb h ho h6 x n
    have a := rf_near hs hL hLb h ho (itf (rf sd L kn) x n)
    have b : kn.length * 2 ^ 114 ≤ 6 * 2 ^ 114 := Nat.mul_le_mul_right _ h6
    have e : (2 : Nat) ^ 117 = 8 * 2 ^ 114 := by rw [show (117 : Nat) = 114 + 3 by rfl, Nat.pow_add, Nat.mul_comm]
    show (rf sd L kn (itf (rf sd L kn) x n)).natAbs ≤ _
    rw [Nat.add_mul, Nat.one_mul]
    generalize n * 2 ^ 117 = Y at ih ⊢
    rw [e]
    generalize (2 : Nat) ^ 114 = W at a b ⊢
    generalize kn.length * W = U at a b
    omega
/-- where a round leads, but for turns -/
theorem rf_class {sd : Str} (hs : SideOk sd) {L : Int} {kn : List (List Lk)} (h : Filled kn) (h0 : 0 < kn.length) (hl : ∀ ls ∈ kn, ls.length ≤ 24) : ∃ ks : List Int, ks.length ≤ 24 ∧ ∀ z, rf sd L kn z % L ∈ ks := by
  have hne : kn ≠ [] := List.length_pos_iff.mp h0
  obtain ⟨init, last, e⟩ : ∃ a b, kn = a ++ [b] := ⟨kn.dropLast, kn.getLast hne, (List.dropLast_concat_getLast hne).symm⟩
  have hm : last ∈ kn := by rw [e]; simp
  refine ⟨last.map fun l => l.2.2 % L, by rw [List.length_map]; exact hl _ hm, fun z => ?_⟩
  rw [e, rf_append]
  obtain ⟨⟨l, hl', e2⟩, _⟩ := bst_is hs (h _ hm) (rf sd L init z) L
  show bst sd last (rf sd L init z) L % L ∈ _
  refine List.mem_map.mpr ⟨l, hl', ?_⟩
  rw [← e2]
  rcases hs with rfl | rfl
  · rw [plc_slow, Int.add_mul_emod_self_right]
  · rw [plc_fast, show l.2.2 - (l.2.1 - rf "fast" L init z) / L * L = l.2.2 + (-((l.2.1 - rf "fast" L init z) / L)) * L by grind, Int.add_mul_emod_self_right]
def sdW (wy : Int) : Str := if wy = 0 then "slow" else "fast"
theorem sdW_ok (wy : Int) : SideOk (sdW wy) := by
  unfold sdW
  split
  · exact .inl rfl
  · exact .inr rfl
def spLed (Z : Ad) (K : PySem.W.Frag) : Sp := fun vs H Q _ => ∃ (hp : Addr) (ds : List Addr) (L x rd wy : Int) (lots : List (List Lk)), vs = [.ref hp, .int x, .int rd, .int wy] ∧ SqL K H hp (refs ds) ∧ Darks Z K H ds L (lots.map (heardAll L)) ∧ 0 < ds.length ∧ ds.length ≤ 60 ∧ x.natAbs < 2 ^ 390 ∧ 0 ≤ rd ∧ rd.natAbs < 2 ^ 250 ∧
  ∀ H', Same H H' → Q (oV (it (sdW wy) L (lots.map (sideOf (sdW wy))) x (rd.toNat * lots.length))) H'
def spKeeps (K : PySem.W.Frag) : Sp := fun vs H Q _ => ∃ (v : V) (L x y rd : Int) (pr : Pr), vs = [.int L, .int x, .int y, .int rd, v] ∧ Dp K H v (encP pr) ∧ SzQ 393 pr ∧ L.natAbs < 2 ^ 100 ∧ x.natAbs < 2 ^ 390 ∧ y.natAbs < 2 ^ 390 ∧ rd.natAbs < 2 ^ 250 ∧ Q (.bl (decide ((if pr.2 * (y - x) - rd * pr.1 * L < 0 then -(pr.2 * (y - x) - rd * pr.1 * L) else pr.2 * (y - x) - rd * pr.1 * L) ≤ pr.2 * L))) H
section
variable {P : Program} {w : World} {K : PySem.W.Frag} {mg : Str → Option Value} {base : Heap} {Z : Ad}
end
end KA
namespace KA
open PySem PySem.Spec PyProof.Rows L2 DP
theorem word_ne {x : Str} (h : WordOk x) : (!decide (V.str x = V.str "upto")) = onSide "slow" x ∧ (!decide (V.str x = V.str "from")) = onSide "fast" x := by
  rcases h with e | e | e <;> subst e <;> decide +kernel
theorem it_small {sd : Str} (hs : SideOk sd) {L : Int} (hL : 0 < L) (hLb : L.natAbs < 2 ^ 200) {kn : List (List Lk)} (hk : KnOk kn) {x : Int} : ∀ (i : Nat) (y : Int), it sd L kn x i = some y → y.natAbs ≤ x.natAbs + i * 2 ^ 312
  | 0, y, h => by
    have e : x = y := Option.some.inj h
    subst e; omega
  | i + 1, y, h => by
    rw [it_succ] at h
    cases e : it sd L kn x i with
    | none => rw [e] at h; cases h
    | some z =>
      rw [e] at h
      have h' : stp sd L (kn.getD (i % kn.length) []) z = some y := h
      have q1 := it_small hs hL hLb hk i z e
      by_cases hn : kn.getD (i % kn.length) [] = []
      · rw [hn, stp_nil] at h'; cases h'
      · rw [stp_some hs hn] at h'
        obtain ⟨⟨l, hl, el⟩, _⟩ := bst_is hs hn z L
        have ey : plc sd l z L = y := el.trans (Option.some.inj h')
        have q2 := step_near hL hLb ((hk.get _).2 _ hl).2 sd z
        rw [ey] at q2
        rw [Nat.add_mul, Nat.one_mul]
        generalize (2 : Nat) ^ 312 = B at q1 q2 ⊢
        generalize i * B = c at q1 ⊢
        omega
theorem knSide {kn : List (List Lk)} (h : KnOk kn) (sd : Str) : KnOk (kn.map (sideOf sd)) := fun ls hm => by
  obtain ⟨l0, hl0, rfl⟩ := List.mem_map.mp hm
  exact ⟨Nat.le_trans (List.length_filter_le _ _) (h l0 hl0).1, fun l hl => (h l0 hl0).2 l (List.mem_filter.mp hl).1⟩
theorem shaped_ints (ns : List Int) : SeqAt.shaped (.list (ns.map .int)) = true := by
  have h1 : ∀ ns : List Int, PyData.canLayAll0 (ns.map .int) = true := by
    intro ns
    induction ns with
    | nil => rfl
    | cons a r ih => simp [PyData.canLayAll0, PyData.canLay0, ih]
  have h2 : ∀ ns : List Int, PyData.depthAll (ns.map .int) = 0 := PySem.W.depth_ints
  unfold SeqAt.shaped
  simp [PyData.canLay0, PyData.depth, h1, h2]
theorem eqv_shaped {d : PyData} (h : SeqAt.shaped d = true) : PyData.eqv d d = true := SeqAt.eqv_refl d (SeqAt.canLay_of_shaped h)
/-- lists of looks, as data -/
def gD (lots : List (List Lk)) : PyData := .list (lots.map fun ls => .list (ls.map encL))
theorem shaped_gD {lots : List (List Lk)} (h : ∀ ls ∈ lots, ∀ l ∈ ls, WordOk l.1) : SeqAt.shaped (gD lots) = true := by
  have h1 : ∀ lots : List (List Lk), (∀ ls ∈ lots, ∀ l ∈ ls, WordOk l.1) → PyData.canLayAll0 (lots.map fun ls => .list (ls.map encL)) = true := by
    intro lots
    induction lots with
    | nil => intro _; rfl
    | cons a r ih =>
      intro h
      rw [List.map_cons, PyData.canLayAll0, PyData.canLay0, lay_looks a (h a List.mem_cons_self), ih fun q hq => h q (List.mem_cons_of_mem _ hq)]; rfl
  have h2 : ∀ lots : List (List Lk), PyData.depthAll (lots.map fun ls => PyData.list (ls.map encL)) ≤ 2 := by
    intro lots
    induction lots with
    | nil => simp [PyData.depthAll]
    | cons a r ih =>
      rw [List.map_cons, PyData.depthAll, PyData.depth]
      have := depth_looks a
      omega
  unfold SeqAt.shaped gD
  rw [PyData.canLay0, h1 lots h, PyData.depth]
  have := h2 lots
  simp; omega
theorem home_id {L : Int} {l : Lk} (h0 : 0 ≤ l.2.1) (h1 : l.2.1 < L) : home L l = l := by
  unfold home
  rw [Int.ediv_eq_zero_of_lt h0 h1]
  simp
theorem Gaze.heard {L : Int} {ls : List Lk} (G : Gaze L ls) : heardAll L ls = ls := by
  obtain ⟨S, C⟩ := G.can
  refine (fold0_canon L ls).eq C fun o => ?_
  rw [← C.mem]
  constructor
  · rintro ⟨l, hl, e⟩
    rw [e, home_id (G.home l hl).1 (G.home l hl).2]; exact hl
  · intro h
    exact ⟨o, h, (home_id (G.home o h).1 (G.home o h).2).symm⟩
theorem lotsD {K : PySem.W.Frag} {H : Hp} : ∀ {as : List Addr} {lots : List (List Lk)}, Lots K H as lots → DpAll K H (refs as) (lots.map fun ls => .list (ls.map encL))
  | [], [], _ => .nil
  | [], _ :: _, h => by have := h.1; simp at this
  | _ :: _, [], h => by have := h.1; simp at this
  | a :: as, ls :: lots, h => .cons (h.2 0 a ls rfl rfl).dp (lotsD ⟨by have := h.1; simpa using this, fun i b l h1 h2 => h.2 (i + 1) b l h1 h2⟩)
/-- who comes round first does so in the pace's own rounds -/
theorem first_home {L : Int} {f : Int → Int} (hL : 0 < L) (F : Hand L f) {y t : Int} {m : Nat} (h0 : 0 < m) (h : itf f y m = y + t * L) (hd : ∀ s, 0 < s → s < m → itf f y s % L ≠ y % L) : PaceOf L f (t, (m : Int)) := by
  obtain ⟨c1, c2, c3, c4⟩ := low_terms (a := t) (b := (m : Int)) (by omega)
  have P : PaceOf L f (lowT t m) := ⟨c2, c1, y, t, m, h0, h, c3⟩
  have hh := P.home hL F h0 h
  have e2 : (lowT t (m : Int)).2 = m := by
    have p := P.pos
    have q : (lowT t (m : Int)).2 ≤ m := c4
    by_cases c : (lowT t (m : Int)).2.toNat < m
    · refine absurd ?_ (hd _ (by omega) c)
      rw [hh, Int.add_mul_emod_self_right]
    · omega
  have e1 : (lowT t (m : Int)).1 = t := by
    have c3' : (lowT t (m : Int)).1 * m = t * (lowT t (m : Int)).2 := c3
    rw [e2] at c3'
    exact Int.eq_of_mul_eq_mul_right (by omega) c3'
  have e : lowT t (m : Int) = (t, (m : Int)) := Prod.ext e1 e2
  rwa [e] at P
def spEnds (K : PySem.W.Frag) : Sp := fun vs H Q _ => ∃ (v : V) (L x wy : Int) (ls : List Lk), vs = [.int L, v, .int x, .int wy] ∧ Dp K H v (.list (ls.map encL)) ∧ 0 < L ∧ L.natAbs < 2 ^ 200 ∧ x.natAbs < 2 ^ 400 ∧ (∀ l ∈ ls, WordOk l.1 ∧ Sized 400 l) ∧ ls.length ≤ 100 ∧ (wy = 0 ∨ wy = 1) ∧
  ∀ H', Same H H' → Q (oV (stp (sdW wy) L (sideOf (sdW wy) ls) x)) H'
theorem sdW0 : sdW 0 = "slow" := if_pos rfl
theorem sdW1 : sdW 1 = "fast" := if_neg (by decide)
/-- what the law's going has met -/
def Met (K : PySem.W.Frag) (H : Hp) (sd : Str) (L : Int) (kn : List (List Lk)) (es : List (Key × V)) (i : Nat) : Prop := es.length = i ∧ ∀ j, j < i → ∃ p y, it sd L kn 0 (j * kn.length) = some y ∧ es[j]? = some (.inl (y % L), .ref p) ∧ SqT K H p [.int y, .int (j : Int)]
def spPaceP (K : PySem.W.Frag) : Sp := fun vs H Q _ => ∃ (F : Addr) (as : List Addr) (L wy : Int) (lots : List (List Lk)), vs = [.int L, .ref F, .int wy] ∧ SqL K H F (refs as) ∧ Lots K H as lots ∧ 0 < L ∧ L ≤ 10 ^ 30 ∧ 0 < lots.length ∧ lots.length ≤ 6 ∧ (∀ ls ∈ lots, Gaze L ls) ∧ (wy = 0 ∨ wy = 1) ∧
  ∀ H' r o, Same H H' → Dp K H' r (encO o) → PaceIs (sdW wy) L (lots.map (sideOf (sdW wy))) o → Q r H'
theorem valE_at {es : List (Key × V)} {k : Key} {v : V} (h : valV es k = some v) : ∃ j : Nat, es[j]? = some (k, v) := by
  unfold valV at h
  obtain ⟨kv, h1, h2⟩ := Option.map_eq_some_iff.mp h
  have hm := List.mem_of_find?_eq_some h1
  have hk0 : decide (kv.1 = k) = true := List.find?_some (p := fun (q : Key × V) => decide (q.1 = k)) h1
  have hk := of_decide_eq_true hk0
  obtain ⟨j, hj, e⟩ := List.getElem_of_mem hm
  refine ⟨j, ?_⟩
  rw [List.getElem?_eq_getElem hj, e]
  obtain ⟨a, b⟩ := kv
  cases hk; cases h2; rfl
theorem valE_no {es : List (Key × V)} {k : Key} (h : valV es k = none) : ∀ (j : Nat) (v : V), es[j]? ≠ some (k, v) := fun j v e => by
  unfold valV at h
  have h1 := Option.map_eq_none_iff.mp h
  have h2 := List.find?_eq_none.mp h1 (k, v) (List.mem_of_getElem? e)
  simp at h2
section
variable {P : Program} {w : World} {K : PySem.W.Frag} {mg : Str → Option Value} {base : Heap} {Z : Ad}
end
end KA
namespace KA
open PySem PySem.Spec PyProof.Rows L2 DP
/-! ### rings of looks -/
/-- whole turns: the greatest number not above (slow), the least not below -/
def fl (sd : Str) (d L : Int) : Int := if sd = "slow" then d / L else -(-d / L)
theorem fl_shift {L : Int} (hL : 0 < L) (sd : Str) (d k : Int) : fl sd (d + k * L) L = fl sd d L + k := by
  unfold fl
  split
  · rw [Int.add_mul_ediv_right _ _ (by omega)]
  · rw [show -(d + k * L) = -d + (-k) * L by grind, Int.add_mul_ediv_right _ _ (by omega)]; omega
theorem plc_fl (sd : Str) (l : Lk) (x L : Int) : plc sd l x L = l.2.2 + fl sd (x - l.2.1) L * L := by
  unfold plc fl
  split
  · rfl
  · rw [show -(x - l.2.1) = l.2.1 - x by omega]; grind
def gap (sd : Str) (L : Int) (a b : Lk) : Int := fl sd (a.2.2 - b.2.1) L
def csum (f : Lk → Lk → Int) : Lk → List Lk → Int
  | _, [] => 0
  | p, l :: r => f p l + csum f l r
def lst0 : Lk → List Lk → Lk
  | p, [] => p
  | _, l :: r => lst0 l r
theorem lst0_app : ∀ (u v : List Lk) (p : Lk), lst0 p (u ++ v) = lst0 (lst0 p u) v
  | [], _, _ => rfl
  | l :: u, v, _ => lst0_app u v l
theorem csum_app (f : Lk → Lk → Int) : ∀ (u v : List Lk) (p : Lk), csum f p (u ++ v) = csum f p u + csum f (lst0 p u) v
  | [], v, p => by simp [csum, lst0]
  | l :: u, v, p => by
    have := csum_app f u v l
    show f p l + csum f l (u ++ v) = f p l + csum f l u + csum f (lst0 l u) v
    omega
/-- from each look to the next one, from the last to the first -/
def cyc (f : Lk → Lk → Int) : List Lk → Int
  | [] => 0
  | a :: r => csum f (lst0 a r) (a :: r)
theorem cyc_of (f : Lk → Lk → Int) (p : Lk) {rl : List Lk} (h : rl ≠ []) : cyc f rl = csum f (lst0 p rl) rl := by
  cases rl with
  | nil => exact absurd rfl h
  | cons a r => rfl
theorem lst0_any (p q : Lk) {u : List Lk} (h : u ≠ []) : lst0 p u = lst0 q u := by
  cases u with
  | nil => exact absurd rfl h
  | cons a r => rfl
theorem cyc_rot (f : Lk → Lk → Int) (u v : List Lk) : cyc f (u ++ v) = cyc f (v ++ u) := by
  by_cases hu : u = []
  · subst hu; simp
  by_cases hv : v = []
  · subst hv; simp
  obtain ⟨p, hp⟩ : ∃ p : Lk, p = p := ⟨("", 0, 0), rfl⟩
  obtain ⟨U, hU⟩ : ∃ U, ∀ x, lst0 x u = U := ⟨lst0 p u, fun x => lst0_any x p hu⟩
  obtain ⟨W, hW⟩ : ∃ W, ∀ x, lst0 x v = W := ⟨lst0 p v, fun x => lst0_any x p hv⟩
  rw [cyc_of f p (by simp [hu]), cyc_of f p (by simp [hv]), csum_app, csum_app, lst0_app, lst0_app]
  simp only [hU, hW]
  omega
theorem cyc_twice (f : Lk → Lk → Int) {u : List Lk} (hu : u ≠ []) : cyc f (u ++ u) = 2 * cyc f u := by
  obtain ⟨p, hp⟩ : ∃ p : Lk, p = p := ⟨("", 0, 0), rfl⟩
  obtain ⟨U, hU⟩ : ∃ U, ∀ x, lst0 x u = U := ⟨lst0 p u, fun x => lst0_any x p hu⟩
  rw [cyc_of f p (by simp [hu]), cyc_of f p hu, csum_app, lst0_app]
  simp only [hU]
  omega
theorem lst0_get : ∀ (r : List Lk) (a : Lk), (a :: r)[r.length]? = some (lst0 a r)
  | [], a => rfl
  | b :: r, a => by
    rw [List.length_cons, List.getElem?_cons_succ]
    exact lst0_get r b
theorem lst0_last {rl : List Lk} (h : rl ≠ []) (p : Lk) : rl[rl.length - 1]? = some (lst0 p rl) := by
  cases rl with
  | nil => exact absurd rfl h
  | cons a r => exact lst0_get r a
theorem lst0_take {rl : List Lk} {j : Nat} {l : Lk} (p : Lk) (h : rl[j]? = some l) : lst0 p (rl.take (j + 1)) = l := by
  rw [take_snoc h, lst0_app]; rfl
theorem tele {sd : Str} {L : Int} (hL : 0 < L) : ∀ (r : List Lk) (a : Lk) (ys : Nat → Int), (∀ i l, (a :: r)[i]? = some l → ys (i + 1) = plc sd l (ys i) L) → csum (gap sd L) a r = fl sd (ys r.length - (lst0 a r).2.1) L - fl sd (ys 0 - a.2.1) L
  | [], a, ys, h => by simp [csum, lst0]
  | b :: r, a, ys, h => by
    have ih := tele hL r b (fun i => ys (i + 1)) fun i l e => h (i + 1) l (by simpa using e)
    have h0 := h 0 a rfl
    rw [plc_fl] at h0
    have e1 : fl sd (ys 1 - b.2.1) L = gap sd L a b + fl sd (ys 0 - a.2.1) L := by
      unfold gap
      rw [show ys 1 = ys (0 + 1) from rfl, h0, show a.2.2 + fl sd (ys 0 - a.2.1) L * L - b.2.1 = (a.2.2 - b.2.1) + fl sd (ys 0 - a.2.1) L * L by omega, fl_shift hL]
    have ih' : csum (gap sd L) b r = fl sd (ys (r.length + 1) - (lst0 b r).2.1) L - fl sd (ys 1 - b.2.1) L := ih
    show gap sd L a b + csum (gap sd L) b r = fl sd (ys (r.length + 1) - (lst0 b r).2.1) L - _
    omega
theorem cyc_tele {sd : Str} {L : Int} (hL : 0 < L) {a : Lk} {r : List Lk} {ys : Nat → Int} {c : Int} (h : ∀ i l, (a :: r)[i]? = some l → ys (i + 1) = plc sd l (ys i) L) (hc : ys (r.length + 1) = ys 0 + c * L) : cyc (gap sd L) (a :: r) = c := by
  have h1 := tele hL r a ys h
  have h2 := h r.length _ (lst0_get r a)
  rw [plc_fl, hc] at h2
  have h3 := fl_shift hL sd (ys 0 - a.2.1) c
  have h4 : gap sd L (lst0 a r) a = fl sd (ys 0 - a.2.1) L + c - fl sd (ys r.length - (lst0 a r).2.1) L := by
    have h5 := fl_shift hL sd ((lst0 a r).2.2 - a.2.1) (fl sd (ys r.length - (lst0 a r).2.1) L)
    rw [show (lst0 a r).2.2 - a.2.1 + fl sd (ys r.length - (lst0 a r).2.1) L * L = ys 0 - a.2.1 + c * L by omega, h3] at h5
    unfold gap
    omega
  show gap sd L (lst0 a r) a + csum (gap sd L) a r = c
  omega
/-- a ring that shows a pace -/
structure RingIs (sd : Str) (L : Int) (kn : List (List Lk)) (pr : Pr) (rl : List Lk) : Prop where
  len : rl.length = pr.2.toNat * kn.length
  on : ∀ i l, rl[i]? = some l → l ∈ kn.getD (i % kn.length) []
  sum : cyc (gap sd L) rl = pr.1
theorem getD_turned {α : Type} (kn : List (List α)) (h0 : 0 < kn.length) (s n : Nat) : (kn.drop (s % kn.length) ++ kn.take (s % kn.length)).getD (n % kn.length) [] = kn.getD ((s + n) % kn.length) [] := by
  have ht := Nat.mod_lt s h0
  have hn := Nat.mod_lt n h0
  have e : (s + n) % kn.length = (s % kn.length + n % kn.length) % kn.length := Nat.add_mod ..
  rw [e]
  generalize s % kn.length = t at ht ⊢
  generalize n % kn.length = j at hn ⊢
  rw [List.getD_eq_getElem?_getD, List.getD_eq_getElem?_getD]
  by_cases c : t + j < kn.length
  · rw [Nat.mod_eq_of_lt c, List.getElem?_append_left (by rw [List.length_drop]; omega), List.getElem?_drop]
  · rw [show (t + j) % kn.length = t + j - kn.length by rw [Nat.mod_eq_sub_mod (by omega), Nat.mod_eq_of_lt (by omega)], List.getElem?_append_right (by rw [List.length_drop]; omega), List.length_drop, List.getElem?_take_of_lt (by omega)]
    congr 2
    omega
theorem it_from {sd : Str} {L : Int} {kn : List (List Lk)} (h0 : 0 < kn.length) {x a : Int} {s : Nat} (h : it sd L kn x s = some a) : ∀ n, it sd L kn x (s + n) = it sd L (kn.drop (s % kn.length) ++ kn.take (s % kn.length)) a n
  | 0 => h
  | n + 1 => by
    show it sd L kn x (s + n + 1) = _
    have hl : (kn.drop (s % kn.length) ++ kn.take (s % kn.length)).length = kn.length := by
      have := Nat.mod_lt s h0
      simp; omega
    rw [it_succ, it_succ, it_from h0 h n, hl, getD_turned kn h0]
theorem turned_back {sd : Str} (hs : SideOk sd) {L : Int} (hL : 0 < L) {kn : List (List Lk)} (k : Nat) {pr : Pr} (c : Filled kn) (P : PaceOf L (rf sd L (kn.drop k ++ kn.take k)) pr) : PaceOf L (rf sd L kn) pr := by
  have := turned_pace hs hL (kn.drop k).length ((turned_filled kn k).mp c) P
  rwa [List.drop_left, List.take_left, List.take_append_drop] at this
theorem walk_ring {sd : Str} (hs : SideOk sd) {L : Int} (hL : 0 < L) {kn : List (List Lk)} (h0 : 0 < kn.length) {x : Int} {ps : List Int} {tl : List Lk} {s k : Nat} (W : WalkOk sd L kn x ps tl) (E : EndOk L kn ps tl (some s)) (hm : (marks L kn.length ps tl.length).Nodup) (hk : (s + k) % kn.length = 0) (hkm : k ≤ tl.length - s) :
    Filled kn ∧ ∃ pr, PaceOf L (rf sd L kn) pr ∧ RingIs sd L kn pr ((tl.drop s).drop k ++ (tl.drop s).take k) := by
  obtain ⟨e1, e2, a, b, ha, hb, hab⟩ := E
  have hwl := W.len
  obtain ⟨p, hp⟩ : ∃ p, tl.length - s = p * kn.length := by
    have h1 := Nat.div_add_mod tl.length kn.length
    have h2 := Nat.div_add_mod s kn.length
    refine ⟨tl.length / kn.length - s / kn.length, ?_⟩
    rw [Nat.sub_mul, Nat.mul_comm (tl.length / kn.length), Nat.mul_comm (s / kn.length)]
    omega
  have hpp : 0 < p := by
    rcases Nat.eq_zero_or_pos p with e | e
    · subst e; omega
    · exact e
  have hpm : kn.length ≤ p * kn.length := Nat.le_mul_of_pos_left _ hpp
  obtain ⟨c, hc⟩ : ∃ c, b = a + c * L := by
    refine ⟨b / L - a / L, ?_⟩
    have q1 := Int.mul_ediv_add_emod a L
    have q2 := Int.mul_ediv_add_emod b L
    have : (b / L - a / L) * L = L * (b / L) - L * (a / L) := by grind
    omega
  have ia := W.it s a ha
  have ib := W.it _ b hb
  have hfil : Filled kn := by
    by_cases hf : Filled kn
    · exact hf
    · rw [it_nowhere hf x (by omega)] at ib; cases ib
  refine ⟨hfil, (c, (p : Int)), ?_, ?_⟩
  · refine turned_back hs hL (s % kn.length) hfil ?_
    have hfS := (turned_filled kn (s % kn.length)).mp hfil
    have hlS : (kn.drop (s % kn.length) ++ kn.take (s % kn.length)).length = kn.length := by
      have := Nat.mod_lt s h0
      simp; omega
    have hit : ∀ j, it sd L kn x (s + j * kn.length) = some (itf (rf sd L (kn.drop (s % kn.length) ++ kn.take (s % kn.length))) a j) := fun j => by
      rw [it_from h0 ia, ← it_rf hs hfS a j, hlS]
    refine first_home hL (rf_hand hs hL hfS) (y := a) hpp ?_ fun j j0 j1 => ?_
    · have := hit p
      rw [← hp, show s + (tl.length - s) = tl.length by omega, ib] at this
      rw [← Option.some.inj this, hc]
    · intro q
      have hj : j * kn.length < p * kn.length := Nat.mul_lt_mul_of_pos_right j1 h0
      have hj0 : 0 < j * kn.length := Nat.mul_pos j0 h0
      have h1 := hit j
      rw [behind_in W (by omega)] at h1
      rw [← Option.some.inj h1] at q
      have ga : ps.getD s 0 = a := by rw [List.getD_eq_getElem?_getD, ha]; rfl
      have hmk : mark L kn.length ps s = mark L kn.length ps (s + j * kn.length) := by
        unfold mark
        rw [Nat.add_mul_mod_self_right, q, ga]
      unfold marks at hm
      have h9 := List.pairwise_iff_getElem.mp hm s (s + j * kn.length) (by simp; omega) (by simp; omega) (by omega)
      rw [List.getElem_map, List.getElem_map, List.getElem_range, List.getElem_range] at h9
      exact h9 hmk
  · have hul : (tl.drop s).length = p * kn.length := by rw [List.length_drop]; exact hp
    refine ⟨?_, fun i l h => ?_, ?_⟩
    · rw [List.length_append, List.length_drop, List.length_take, hul]
      show _ = (p : Int).toNat * _
      rw [Int.toNat_natCast]; omega
    · by_cases hi : i < ((tl.drop s).drop k).length
      · rw [List.getElem?_append_left hi, List.getElem?_drop, List.getElem?_drop] at h
        have := (W.step _ l h).1
        rwa [show s + (k + i) = (s + k) + i by omega, Nat.add_mod, hk, Nat.zero_add, Nat.mod_mod] at this
      · rw [List.getElem?_append_right (by omega)] at h
        have hlt := (List.getElem?_eq_some_iff.mp h).1
        rw [List.length_take] at hlt
        rw [List.length_drop, hul] at hi hlt h
        rw [List.getElem?_take_of_lt (by omega), List.getElem?_drop] at h
        have := (W.step _ l h).1
        have e3 : (s + (i - (p * kn.length - k))) % kn.length = i % kn.length := by
          rw [← Nat.add_mul_mod_self_right (s + (i - (p * kn.length - k))) p kn.length, show s + (i - (p * kn.length - k)) + p * kn.length = (s + k) + i by omega, Nat.add_mod, hk, Nat.zero_add, Nat.mod_mod]
        rwa [e3] at this
    · rw [cyc_rot, List.take_append_drop]
      cases e : tl.drop s with
      | nil => rw [e] at hul; simp at hul; omega
      | cons u r =>
        rw [e] at hul
        refine cyc_tele hL (ys := fun i => ps.getD (s + i) 0) (fun i l h => ?_) ?_
        · rw [← e, List.getElem?_drop] at h
          obtain ⟨_, y, z, h1, h2, h3, _⟩ := W.step _ l h
          show ps.getD (s + (i + 1)) 0 = plc sd l (ps.getD (s + i) 0) L
          rw [List.getD_eq_getElem?_getD, List.getD_eq_getElem?_getD, h1, show s + (i + 1) = s + i + 1 by omega, h2]
          exact h3.symm
        · show ps.getD (s + (r.length + 1)) 0 = ps.getD (s + 0) 0 + c * L
          rw [List.length_cons] at hul
          rw [show s + (r.length + 1) = tl.length by omega, Nat.add_zero, List.getD_eq_getElem?_getD, List.getD_eq_getElem?_getD, ha, hb]
          exact hc
end KA
namespace KA
open PySem PySem.Spec PyProof.Rows L2 DP
def spCheckSide : Sp := fun vs H Q _ => ∃ (sd : Str), vs = [.str sd] ∧ SideOk sd ∧ ∀ H', Same H H' → Q .non H'
/-- looks of the hands by turns, of the side -/
def RingOn (sd : Str) (hs : List (List Lk)) (rl : List Lk) : Prop := ∀ i l, rl[i]? = some l → l ∈ (hs.map (sideOf sd)).getD (i % hs.length) []
def spCheckRing (Z : Ad) (K : PySem.W.Frag) : Sp := fun vs H Q _ => ∃ (hp rp : Addr) (ds : List Addr) (sd : Str) (L : Int) (hs : List (List Lk)) (rl : List Lk) (q : Nat), vs = [.ref hp, .str sd, .ref rp] ∧ SqL K H hp (refs ds) ∧ Darks Z K H ds L hs ∧ 0 < ds.length ∧ ds.length ≤ 60 ∧ SideOk sd ∧ Dp K H (.ref rp) (.list (rl.map encL)) ∧ rl.length = q * hs.length ∧ 0 < q ∧ rl.length ≤ 10000 ∧ RingOn sd hs rl ∧ ∀ H', Same H H' → Q .non H'
def spRingPace (Z : Ad) (K : PySem.W.Frag) : Sp := fun vs H Q _ => ∃ (hp rp : Addr) (ds : List Addr) (sd : Str) (L : Int) (hs : List (List Lk)) (rl : List Lk) (q : Nat), vs = [.ref hp, .str sd, .ref rp] ∧ SqL K H hp (refs ds) ∧ Darks Z K H ds L hs ∧ 0 < ds.length ∧ ds.length ≤ 60 ∧ SideOk sd ∧ Dp K H (.ref rp) (.list (rl.map encL)) ∧ rl.length = q * hs.length ∧ 0 < q ∧ rl.length ≤ 10000 ∧ RingOn sd hs rl ∧
  ∀ H' r, Same H H' → Dp K H' r (encP (lowT (cyc (gap sd L) rl) (q : Int))) → Q r H'
/-- what ring tells -/
def spRing (Z : Ad) (K : PySem.W.Frag) : Sp := fun vs H Q _ => ∃ (hp : Addr) (ds : List Addr) (sd : Str) (L : Int) (hs : List (List Lk)), vs = [.ref hp, .str sd] ∧ SqL K H hp (refs ds) ∧ Darks Z K H ds L hs ∧ 0 < ds.length ∧ ds.length ≤ 60 ∧ SideOk sd ∧
  (∀ H', Same H H' → ¬ Filled (hs.map (sideOf sd)) → Q .non H') ∧
  ∀ H' p xs rl pr, Same H H' → H p = none → H' p = some (.lst xs) → DpAll K H' xs (rl.map encL) → Filled (hs.map (sideOf sd)) → PaceOf L (rf sd L (hs.map (sideOf sd))) pr → RingIs sd L (hs.map (sideOf sd)) pr rl → rl.length < 4000 → Q (.ref p) H'
theorem dpAll_drop {K : PySem.W.Frag} {H : Hp} : ∀ (n : Nat) {vs : List V} {ds : List PyData}, DpAll K H vs ds → DpAll K H (vs.drop n) (ds.drop n)
  | 0, _, _, h => h
  | _ + 1, _, _, .nil => .nil
  | n + 1, _, _, .cons _ b => dpAll_drop n b
theorem dpAll_take {K : PySem.W.Frag} {H : Hp} : ∀ (n : Nat) {vs : List V} {ds : List PyData}, DpAll K H vs ds → DpAll K H (vs.take n) (ds.take n)
  | 0, _, _, _ => by rw [List.take_zero, List.take_zero]; exact .nil
  | _ + 1, _, _, .nil => .nil
  | n + 1, _, _, .cons a b => .cons a (dpAll_take n b)
theorem skip_ok {s m : Nat} (hm : 0 < m) : ∃ k : Nat, (-(s : Int)) % (m : Int) = (k : Int) ∧ (s + k) % m = 0 ∧ k < m := by
  have h0 := Int.emod_nonneg (-(s : Int)) (show (m : Int) ≠ 0 by omega)
  have h1 := Int.emod_lt_of_pos (-(s : Int)) (show (0 : Int) < m by omega)
  obtain ⟨k, hk⟩ := Int.eq_ofNat_of_zero_le h0
  refine ⟨k, hk, ?_, by omega⟩
  have h2 : ((s : Int) + k) % (m : Int) = 0 := by
    rw [← hk, Int.add_emod, Int.emod_emod, ← Int.add_emod, Int.add_right_neg, Int.zero_emod]
  have h3 : (((s + k) % m : Nat) : Int) = 0 := by push_cast; exact h2
  omega
theorem side_in {sd : Str} (h : SideOk sd) : inV (V.str sd) [V.str "slow", .str "fast"] = true := by
  rcases h with rfl | rfl <;> decide +kernel
theorem ringOn_ok {Z : Ad} {K : PySem.W.Frag} {H : Hp} {ds : List Addr} {L : Int} {hs : List (List Lk)} (D : Darks Z K H ds L hs) {sd : Str} {rl : List Lk} (h : RingOn sd hs rl) {i : Nat} {l : Lk} (e : rl[i]? = some l) : WordOk l.1 ∧ Sized 310 l := ((knOk D sd).get _).2 l (h i l e)
section
variable {P : Program} {w : World} {K : PySem.W.Frag} {mg : Str → Option Value} {base : Heap} {Z : Ad}
theorem ok_check_side (T : Tx K w mg Z) : FnOk P w K mg base CX0 1 Z.a_check_side Z.d_check_side P_check_side (spCheckSide) := by
  refine T.F_check_side.ok sccheck_side (fun vs H Q E h => ?_) (fun cdv A outer s H vs Q E hr h => ?_)
  · obtain ⟨sd, rfl, _⟩ := h
    rfl
  · obtain ⟨sd, rfl, hsd, k⟩ := h
    refine ⟨_, (pss_one (ps_if (pt_cmpR (notInS (K := K)) (pv 0) (pe_tup (pa_cons (pe_glob rfl T.g_SLOW T.r_SLOW) (pa_cons (pe_glob rfl T.g_FAST T.r_FAST) pa_nil))) (by rfl)) (pss_one ps_never) pss_nil)), ?_⟩
    refine ⟨_, rfl, (by show 2 ≤ sizeLine; decide), fun q hq => ⟨_, _, rfl, .inr (SqT.of upd_same), rfl, rfl, _, rfl, ?_⟩⟩
    have e2 : (if true = true then !inV (V.str sd) [V.str "slow", .str "fast"] else inV (V.str sd) [V.str "slow", .str "fast"]) = false := by rw [if_pos rfl, side_in hsd]; rfl
    rw [e2]
    exact iteF (k _ (same_upd hq))
theorem ok_check_ring (T : Tx K w mg Z) : FnOk P w K mg base CX0 3 Z.a_check_ring Z.d_check_ring P_check_ring (spCheckRing Z K) := by
  refine T.F_check_ring.ok sccheck_ring (fun vs H Q E h => ?_) (fun cdv A outer s H vs Q E hr h => ?_)
  · obtain ⟨hp, rp, ds, sd, L, hs, rl, q, rfl, _⟩ := h
    rfl
  · obtain ⟨hp, rp, ds, sd, L, hs, rl, q, rfl, hh, hD, hd0, hd60, hsd, hrg, hlen, hq, hl4, hon, k⟩ := h
    obtain ⟨a, vs, ea, sq, hdl⟩ := dp_list hrg
    injection ea with ea
    subst ea
    have hvl : vs.length = rl.length := by rw [dpAll_len hdl, List.length_map]
    have hds : ds.length = hs.length := hD.1
    have hrd : ((refs ds).length : Int) = (hs.length : Int) := by show ((ds.map V.ref).length : Int) = _; rw [List.length_map, hds]
    have hpos : 0 < rl.length := by rw [hlen]; exact Nat.mul_pos hq (by omega)
    refine ⟨_, (C8.pss_cut (ps_if (PW.pt (pw_or (pt_not (pt_truth (pv 2) (by intro _; rfl))) (pw_or1 (pt_cmpR op_ne (pe_op op_mod (pe_callB (lenK (K := K)) (by rfl) T.b_len (by decide +kernel) (pa_cons (pv 2) pa_nil)) (pe_callB (lenK (K := K)) (by rfl) T.b_len (by decide +kernel) (pa_cons (pv 0) pa_nil))) pe_int (nomark _))))) (pss_one ps_never) pss_nil)
      (pss_cons (ps_set (i := 3) sccheck_ring.nd rfl (Or.inl rfl) (pe_call (ok_round_looks T) (hr.mono (by decide)) (by rfl) T.g_round_looks T.F_round_looks.kp T.bb_round_looks .nil pass0 (pa_cons (pv 0) (pa_cons (pv 1) pa_nil))))
      (pss_one (ps_for PassesOwn.never rfl (pi_enum (by rfl) T.b_enumerate (pa_cons (pv 2) pa_nil)) (tupK (K := K) (by rfl) (pgs_cons (pg_name (i := 4) sccheck_ring.nd rfl (Or.inl rfl)) (pgs_cons (pg_name (i := 5) sccheck_ring.nd rfl (Or.inl rfl)) pgs_nil))) (pss_one (ps_if (pt_cmpR (notInDK (K := K) (rooms hr)) (pv 5) (pe_ix (ixL (K := K)) (pv 3) (pe_op op_mod (pv 4) (pe_callB (lenK (K := K)) (by rfl) T.b_len (by decide +kernel) (pa_cons (pv 0) pa_nil))) (fun _ _ => rfl)) (by rfl)) (pss_one ps_never) pss_nil)))))), ?_⟩
    refine ⟨fun σ' H' => σ' = [some (.ref hp), some (.str sd), some (.ref rp), none, none, none] ∧ H' = H, ?_, ?_⟩
    · refine ⟨_, rfl, _, .inl ⟨vs, sq, rfl⟩, ?_⟩
      cases e : vs with
      | nil => rw [e] at hvl; simp at hvl; omega
      | cons v vs' =>
        rw [e] at sq hvl
        refine iteF ⟨_, rfl, rp, _, rfl, .inl sq, _, rfl, hp, _, rfl, .inl hh, _, _, rfl, rfl, (by rw [hrd]; omega), rfl, _, rfl, ?_⟩
        have e0 : (((v :: vs').length : Nat) : Int) % ((refs ds).length : Int) = 0 := by
          rw [hrd, hvl, hlen]
          push_cast
          exact Int.mul_emod_left _ _
        have e1 : (!decide (V.int ((((v :: vs').length : Nat) : Int) % ((refs ds).length : Int)) = V.int 0)) = false := by rw [e0]; simp
        rw [e1]
        exact iteF ⟨rfl, rfl⟩
    rintro σ1 H1 ⟨rfl, rfl⟩
    refine ⟨_, rfl, _, rfl, hp, ds, sd, L, hs, rfl, hh, hD, hsd, by omega, fun H2 p as hpn has S gp hlo => ?_⟩
    have sq2 := Same.sqL S sq
    have hdl2 := dpAll_mono S _ _ hdl
    refine ⟨_, rfl, rp, vs, rfl, sq2, ?_⟩
    refine for_enum (K := K) (a := rp) (xs := vs) (fun i σ' H' => ∃ u4 u5, σ' = [some (.ref hp), some (.str sd), some (.ref rp), some (.ref p), u4, u5] ∧ Same H2 H') ⟨_, _, rfl, fun _ _ e => e⟩ (fun i σ' H' _ ⟨_, _, _, S⟩ => Same.sqL S sq2) ?_ (fun σ' H' ⟨_, _, _, S3⟩ => k H' (S.trans S3))
    rintro i y T' σ' H3 hi ⟨u4, u5, rfl, S3⟩ hT'
    have S4 := S3.trans (same_upd (o := HO.tup [V.int (i : Nat), y]) hT')
    obtain ⟨d, hdi, hdy⟩ := dpAll_get hdl2 hi
    obtain ⟨l, hl, rfl⟩ := map_at hdi
    have hwl := ringOn_ok hD hon hl
    have him : i % hs.length < hs.length := Nat.mod_lt _ (by omega)
    obtain ⟨b, hb⟩ : ∃ b, as[i % hs.length]? = some b := ⟨as[i % hs.length]'(by have := hlo.1; rw [List.length_map] at this; omega), List.getElem?_eq_getElem _⟩
    obtain ⟨ls, hls, hlk⟩ := (hlo.same S4).get hb
    have hin : l ∈ ls := by
      have := hon i l hl
      rwa [List.getD_eq_getElem?_getD, hls] at this
    have hwls : ∀ o ∈ ls, WordOk o.1 := fun o ho => (((knOk hD sd) ls (List.mem_of_getElem? hls)).2 o ho).1
    refine ⟨_, _, rfl, SqT.of upd_same, rfl, _, _, rfl, _, _, rfl, rfl, ?_⟩
    refine ⟨_, rfl, _, rfl, _, rfl, _, rfl, hp, _, rfl, .inl (Same.sqL (S.trans S4) hh), _, _, rfl, rfl, (by rw [hrd]; omega), p, _, _, _, rfl, rfl, SqL.of (S4 _ _ gp), ?_, encL l, ls.map encL, dp_mono S4 _ _ hdy, hlk.dp, shaped_look hwl.1, shaped_looks hwls, _, rfl, ?_⟩
    · refine at_of (j := i % hs.length) (by rw [hrd]; push_cast; rfl) ?_
      show (as.map V.ref)[_]? = _
      rw [List.getElem?_map, hb]; rfl
    · rw [any_look]
      have e : (!decide (l ∈ ls)) = false := by simp [hin]
      rw [e]
      exact iteF ⟨_, _, rfl, S4⟩
theorem ok_ring_pace (T : Tx K w mg Z) : FnOk P w K mg base CX0 4 Z.a_ring_pace Z.d_ring_pace P_ring_pace (spRingPace Z K) := by
  refine T.F_ring_pace.ok scring_pace (fun vs H Q E h => ?_) (fun cdv A outer s H vs Q E hr h => ?_)
  · obtain ⟨hp, rp, ds, sd, L, hs, rl, q, rfl, _⟩ := h
    rfl
  · obtain ⟨hp, rp, ds, sd, L, hs, rl, q, rfl, hh, hD, hd0, hd60, hsd, hrg, hlen, hq, hl4, hon, k⟩ := h
    have hds : ds.length = hs.length := hD.1
    have hrd : ((refs ds).length : Int) = (hs.length : Int) := by show ((ds.map V.ref).length : Int) = _; rw [List.length_map, hds]
    have hpos : 0 < rl.length := by rw [hlen]; exact Nat.mul_pos hq (by omega)
    have hne : rl ≠ [] := List.length_pos_iff.mp hpos
    refine ⟨_, (pss_cons (ps_expr (pe_call (ok_check_side T) (hr.mono (by decide)) (by rfl) T.g_check_side T.F_check_side.kp T.bb_check_side .nil pass0 (pa_cons (pv 1) pa_nil)))
      (pss_cons (ps_expr (pe_call (ok_check_round T) (hr.mono (by decide)) (by rfl) T.g_check_round T.F_check_round.kp T.bb_check_round .nil pass0 (pa_cons (pv 0) pa_nil)))
      (pss_cons (ps_expr (pe_call (ok_check_ring T) (hr.mono (by decide)) (by rfl) T.g_check_ring T.F_check_ring.kp T.bb_check_ring .nil pass0 (pa_cons (pv 0) (pa_cons (pv 1) (pa_cons (pv 2) pa_nil)))))
      (pss_cons (ps_set (i := 3) scring_pace.nd rfl (Or.inl rfl) (pe_meth0 (pe_ix (ixL (K := K)) (pv 0) pe_int (fun _ _ => rfl)) T.cl T.m_Dark_length (ok_Dark_length T) (hr.mono (by decide)) T.bb_Dark_length .nil pass0))
      (pss_cons (ps_set (i := 4) scring_pace.nd rfl (Or.inl rfl) pe_int)
      (pss_cons (ps_for PassesOwn.never rfl (pi_enum (by rfl) T.b_enumerate (pa_cons (pv 2) pa_nil)) (tupK (K := K) (by rfl) (pgs_cons (pg_name (i := 5) scring_pace.nd rfl (Or.inl rfl)) (pgs_cons (pg_name (i := 6) scring_pace.nd rfl (Or.inl rfl)) pgs_nil))) (pss_cons (ps_set (i := 7) scring_pace.nd rfl (Or.inl rfl) (pe_op op_sub (pe_ix (ixT (K := K)) (pe_ix (ixL (K := K)) (pv 2) (pe_op op_sub (pv 5) pe_int) (fun _ _ => rfl)) pe_int (fun _ _ => rfl)) (pe_ix (ixT (K := K)) (pv 6) pe_int (fun _ _ => rfl))))
      (pss_one (ps_set (i := 4) scring_pace.nd rfl (Or.inl rfl) (pe_op op_add (pv 4) (pe_ifExp (pt_cmpR op_eq (pv 1) (pe_glob rfl T.g_SLOW T.r_SLOW) (nomark _)) (pe_op op_fdivW (pv 7) (pv 3)) (pe_un un_neg (pe_op op_fdivW (pe_un un_neg (pv 7)) (pv 3)))))))))
      (pss_one (ps_ret (pe_call (ok_lowest T) (hr.mono (by decide)) (by rfl) T.g_lowest T.F_lowest.kp T.bb_lowest .nil pass0 (pa_cons (pv 4) (pa_cons (pe_op op_fdivW (pe_callB (lenK (K := K)) (by rfl) T.b_len (by decide +kernel) (pa_cons (pv 2) pa_nil)) (pe_callB (lenK (K := K)) (by rfl) T.b_len (by decide +kernel) (pa_cons (pv 0) pa_nil))) pa_nil))))))))))), ?_⟩
    refine ⟨_, rfl, sd, rfl, hsd, fun H1 S1 => ?_⟩
    refine ⟨_, rfl, hp, ds, L, hs, rfl, Same.sqL S1 hh, hD.same S1, hd0, fun H2 S2 => ?_⟩
    have S12 := S1.trans S2
    refine ⟨_, rfl, _, rfl, _, rfl, hp, rp, ds, sd, L, hs, rl, q, rfl, Same.sqL S12 hh, hD.same S12, hd0, hd60, hsd, dp_mono S12 _ _ hrg, hlen, hq, hl4, hon, fun H3 S3 => ?_⟩
    have S13 := S12.trans S3
    obtain ⟨a, vs, ea, sq, hdl⟩ := dp_list (dp_mono S13 _ _ hrg)
    injection ea with ea
    subst ea
    have hvl : vs.length = rl.length := by rw [dpAll_len hdl, List.length_map]
    obtain ⟨d0, hd00⟩ : ∃ d0, ds[0]? = some d0 := ⟨ds[0], List.getElem?_eq_getElem hd0⟩
    have hD3 := hD.same S13
    obtain ⟨ls0, hls0, D0⟩ := hD3.get hd00
    have hix : atI (refs ds) 0 = some (.ref d0) := by
      refine at_of (j := 0) rfl ?_
      show (ds.map V.ref)[0]? = _
      rw [List.getElem?_map, hd00]; rfl
    obtain ⟨dx0, la0, vs0, e1, e2, e3⟩ := id D0.ex
    have hL := D0.pos
    have hLb := D0.big
    refine ⟨_, rfl, _, _, _, _, rfl, rfl, Same.sqL S13 hh, hix, d0, dx0, _, rfl, e1, df_no _ _ (by decide +kernel) (by decide +kernel), d0, L, ls0, rfl, D0, ?_⟩
    obtain ⟨la, hla⟩ : ∃ la, rl[rl.length - 1]? = some la := ⟨rl[rl.length - 1], List.getElem?_eq_getElem (by omega)⟩
    have hcy : cyc (gap sd L) rl = csum (gap sd L) la rl := by
      rw [cyc_of _ la hne, ← Option.some.inj (hla.symm.trans (lst0_last hne la))]
    refine ⟨_, rfl, rp, vs, rfl, sq, ?_⟩
    refine for_enum (K := K) (a := rp) (xs := vs) (fun i σ' H' => ∃ u5 u6 u7, σ' = [some (.ref hp), some (.str sd), some (.ref rp), some (.int L), some (.int (csum (gap sd L) la (rl.take i))), u5, u6, u7] ∧ Same H3 H') ⟨_, _, _, rfl, fun _ _ e => e⟩ (fun i σ' H' _ ⟨_, _, _, _, S⟩ => Same.sqL S sq) ?_ ?_
    · rintro i y T' σ' H4 hi ⟨u5, u6, u7, rfl, S4⟩ hT'
      have S5 := S4.trans (same_upd (o := HO.tup [V.int (i : Nat), y]) hT')
      obtain ⟨d, hdi, hdy⟩ := dpAll_get hdl hi
      obtain ⟨l, hl, rfl⟩ := map_at hdi
      have hil := (List.getElem?_eq_some_iff.mp hl).1
      obtain ⟨yp, rfl, hyp⟩ := dp_look (dp_mono S5 _ _ hdy)
      -- the look ahead of it
      obtain ⟨v, hv, hvl2⟩ : ∃ v, atI vs ((i : Int) - 1) = some v ∧ Dp K H3 v (encL (lst0 la (rl.take i))) := by
        cases i with
        | zero =>
          obtain ⟨v, hv, hd⟩ := dpAll_get' hdl (show (rl.map encL)[rl.length - 1]? = some (encL la) by rw [List.getElem?_map, hla]; rfl)
          refine ⟨v, ?_, hd⟩
          rw [show ((0 : Nat) : Int) - 1 = -1 by rfl, atI_last (by omega), hvl]; exact hv
        | succ j =>
          obtain ⟨l', hl'⟩ : ∃ l', rl[j]? = some l' := ⟨rl[j], List.getElem?_eq_getElem (by omega)⟩
          obtain ⟨v, hv, hd⟩ := dpAll_get' hdl (show (rl.map encL)[j]? = some (encL l') by rw [List.getElem?_map, hl']; rfl)
          refine ⟨v, at_of (j := j) (by push_cast; omega) hv, ?_⟩
          rw [lst0_take la hl']; exact hd
      have hwl := ringOn_ok hD hon hl
      have hwp : Sized 310 (lst0 la (rl.take i)) := by
        cases i with
        | zero => exact (ringOn_ok hD hon hla).2
        | succ j =>
          obtain ⟨l', hl'⟩ : ∃ l', rl[j]? = some l' := ⟨rl[j], List.getElem?_eq_getElem (by omega)⟩
          rw [lst0_take la hl']; exact (ringOn_ok hD hon hl').2
      obtain ⟨vp, rfl, hvp⟩ := dp_look (dp_mono S5 _ _ hvl2)
      refine ⟨_, _, rfl, SqT.of upd_same, rfl, _, _, rfl, _, _, rfl, rfl, ?_⟩
      refine ⟨_, rfl, _, rfl, _, _, rfl, rfl, _, _, _, _, rfl, rfl, Same.sqL S5 sq, hv, _, _, _, _, rfl, rfl, hvp, rfl, _, rfl, _, _, _, _, rfl, rfl, hyp, rfl, _, _, rfl, rfl, ?_⟩
      have e6 : csum (gap sd L) la (rl.take (i + 1)) = csum (gap sd L) la (rl.take i) + fl sd ((lst0 la (rl.take i)).2.2 - l.2.1) L := by
        rw [take_snoc hl, csum_app]
        show _ + (gap sd L _ l + 0) = _
        unfold gap; omega
      rw [e6]
      refine ⟨_, rfl, _, rfl, rfl, _, rfl, ?_⟩
      rcases hsd with rfl | rfl
      · rw [show fl "slow" ((lst0 la (rl.take i)).2.2 - l.2.1) L = ((lst0 la (rl.take i)).2.2 - l.2.1) / L from if_pos rfl]
        exact iteT ⟨_, rfl, _, rfl, _, _, rfl, rfl, wide_div hL hLb (by decide) (by decide), _, _, rfl, rfl, _, _, _, rfl, S5⟩
      · rw [show fl "fast" ((lst0 la (rl.take i)).2.2 - l.2.1) L = -(-((lst0 la (rl.take i)).2.2 - l.2.1) / L) from if_neg slow_ne]
        exact iteF ⟨_, rfl, _, rfl, _, rfl, _, _, rfl, rfl, wide_div hL hLb (by decide) (by decide), _, rfl, _, _, rfl, rfl, _, _, _, rfl, S5⟩
    · rintro σ' H4 ⟨u5, u6, u7, rfl, S4⟩
      rw [hvl, List.take_length, ← hcy]
      have ediv : ((vs.length : Nat) : Int) / ((refs ds).length : Int) = (q : Int) := by
        rw [hrd, hvl, hlen]
        push_cast
        exact Int.mul_ediv_cancel _ (by omega)
      have hqb : (q : Int).natAbs < 2 ^ 1000 := by
        have : q * 1 ≤ q * hs.length := Nat.mul_le_mul_left _ (by omega)
        exact Nat.lt_of_le_of_lt (by omega : (q : Int).natAbs ≤ 10000) (by decide)
      refine ⟨_, rfl, _, rfl, rp, vs, rfl, .inl (Same.sqL S4 sq), _, rfl, hp, _, rfl, .inl (Same.sqL (S13.trans S4) hh), _, _, rfl, rfl, wide_div (b := 10) (by rw [hrd]; omega) (by rw [hrd]; exact Nat.lt_of_le_of_lt (by omega : (hs.length : Int).natAbs ≤ 60) (by decide)) (by decide) (by decide), ?_⟩
      have ev : (fun i j => V.int (i / j)) ((vs.length : Nat) : Int) ((refs ds).length : Int) = V.int (q : Int) := by show V.int _ = _; rw [ediv]
      refine ⟨cyc (gap sd L) rl, (q : Int), (by rw [← ev]; rfl), by omega, hqb, fun H5 r S5 hr5 => ?_⟩
      exact k H5 r ((S13.trans S4).trans S5) hr5
theorem ok_ring (T : Tx K w mg Z) : FnOk P w K mg base CX0 6 Z.a_ring Z.d_ring P_ring (spRing Z K) := by
  refine T.F_ring.ok scring (fun vs H Q E h => ?_) (fun cdv A outer s H vs Q E hr h => ?_)
  · obtain ⟨hp, ds, sd, L, hs, rfl, _⟩ := h
    rfl
  · obtain ⟨hp, ds, sd, L, hs, rfl, hh, hD, hd0, hd1, hsd, k0, k1⟩ := h
    refine ⟨_, (pss_cons (ps_expr (pe_call (ok_check_side T) (hr.mono (by decide)) (by rfl) T.g_check_side T.F_check_side.kp T.bb_check_side .nil pass0 (pa_cons (pv 1) pa_nil)))
      (pss_cons (ps_expr (pe_call (ok_check_round T) (hr.mono (by decide)) (by rfl) T.g_check_round T.F_check_round.kp T.bb_check_round .nil pass0 (pa_cons (pv 0) pa_nil)))
      (pss_cons (ps_set (i := 2) scring.nd rfl (Or.inl rfl) (pe_make T.mk_Walk (ok_Walk_init T) (hr.mono (by decide)) (by rfl) T.g_Walk T.bb_Walk_init .nil pass0 (pa_cons (pv 0) (pa_cons (pv 1) (pa_cons pe_int pa_nil)))))
      (C8.pss_cut (ps_if (pt_cmpR op_isN (fldK (K := K) (pv 2) rfl) pe_non (nomark _)) (pss_one (ps_ret pe_non)) pss_nil)
      (pss_cons (ps_set (i := 3) scring.nd rfl (Or.inl rfl) (pe_slice (slL (K := K)) (fldK (K := K) (pv 2) rfl) (po_some (fldK (K := K) (pv 2) rfl)) po_none))
      (pss_cons (ps_set (i := 4) scring.nd rfl (Or.inl rfl) (pe_op op_mod (pe_un un_neg (fldK (K := K) (pv 2) rfl)) (pe_callB (lenK (K := K)) (by rfl) T.b_len (by decide +kernel) (pa_cons (pv 0) pa_nil))))
      (pss_one (ps_ret (pe_op op_cat (pe_slice (slL (K := K)) (pv 3) (po_some (pv 4)) po_none) (pe_slice (slL (K := K)) (pv 3) po_none (po_some (pv 4)))))))))))), ?_⟩
    refine ⟨_, rfl, sd, rfl, hsd, fun H0 S0 => ?_⟩
    refine ⟨_, rfl, hp, ds, L, hs, rfl, Same.sqL S0 hh, hD.same S0, hd0, fun H1 S1' => ?_⟩
    have S1 := S0.trans S1'
    refine ⟨_, rfl, _, rfl, fun w dx hwn hdx hne => ?_⟩
    have S2 := S1.trans (same_made (o := HO.ins Z.C_Walk dx []) hwn hdx)
    have hD2 := hD.same S2
    have hdw : ∀ d ∈ ds, d ≠ w := fun d hd e => by
      obtain ⟨i, hi, e1⟩ := List.getElem_of_mem hd
      have hi' : ds[i]? = some d := by rw [List.getElem?_eq_getElem hi, e1]
      obtain ⟨ls, _, DD⟩ := (hD.same S1).get hi'
      obtain ⟨dx', la, vs, q1, _⟩ := DD.ex
      rw [e, hwn] at q1; cases q1
    refine ⟨w, hp, dx, ds, sd, L, 0, hs, rfl, upd_same, Same.sqL S2 hh, hD2, hd0, hd1, hsd, by decide, hdw, fun H3 pl tb ps tl st W E hm WA k3 => ⟨rfl, ?_⟩⟩
    have S3 : Same H H3 := fun b o e => k3 b o (S2 b o e) (fun e' => by
      subst e'
      rw [S1 _ _ e] at hwn; cases hwn)
    obtain ⟨dxw, tvs, q1, q2, q3, q4⟩ := id WA.ex
    have hds := hD.1
    have hwl := W.len
    have hkn := knOk hD sd
    have hml : (hs.map (sideOf sd)).length = hs.length := List.length_map _
    have hN : tl.length < 4000 := by
      have h1 := marks_le (by omega) W (n := tl.length) (by have := W.len; omega) hm
      have h2 := cand_len hkn (L := L) 0
      have h3 : (hs.map (sideOf sd)).length * 60 ≤ 60 * 60 := Nat.mul_le_mul_right 60 (by omega)
      omega
    have hLp : 0 < L := by
      obtain ⟨ls, _, DD⟩ := hD.get (List.getElem?_eq_getElem hd0)
      exact DD.pos
    cases st with
    | none =>
      refine ⟨fun _ _ => False, ?_, fun _ _ z => z.elim⟩
      refine ⟨_, rfl, w, Z.C_Walk, dxw, _, _, rfl, q1, T.cl_Walk, T.nWalk_start, wf_start _ _ _, rfl, _, rfl, iteT (k0 H3 S3 fun c => ?_)⟩
      exact it_full hsd c (by omega) 0 _ (behind_none W E (Nat.le_refl _))
    | some s =>
      refine ⟨fun σ' H' => σ' = [some (.ref hp), some (.str sd), some (.ref w), none, none] ∧ H' = H3, ?_, ?_⟩
      · exact ⟨_, rfl, w, Z.C_Walk, dxw, _, _, rfl, q1, T.cl_Walk, T.nWalk_start, wf_start _ _ _, rfl, _, rfl, iteF ⟨rfl, rfl⟩⟩
      rintro σ4 H4 ⟨rfl, rfl⟩
      have hs1 := E.1
      have htl : tvs.length = tl.length := by rw [dpAll_len q4, List.length_map]
      refine ⟨_, rfl, w, Z.C_Walk, dxw, _, _, rfl, q1, T.cl_Walk, T.nWalk_told_by, wf_told _ _ _, _, rfl, w, Z.C_Walk, dxw, _, _, rfl, q1, T.cl_Walk, T.nWalk_start, wf_start _ _ _, (s : Int), rfl, tb, tvs, rfl, SqL.of q3, fun u hu => ?_⟩
      rw [cut_from]
      have S4 := same_upd (o := HO.lst (tvs.drop s)) hu
      have gu : (upd H4 u (.lst (tvs.drop s))) u = some (.lst (tvs.drop s)) := upd_same
      generalize upd H4 u (.lst (tvs.drop s)) = H5 at S4 gu ⊢
      have hrd : ((refs ds).length : Int) = ((hs.map (sideOf sd)).length : Int) := by show ((ds.map V.ref).length : Int) = _; rw [List.length_map]; omega
      obtain ⟨k, ek, hk0, hkm⟩ := skip_ok (s := s) (m := (hs.map (sideOf sd)).length) (by omega)
      have hE := E
      obtain ⟨_, e2, _⟩ := hE
      have hkl : k ≤ tl.length - s := by
        have h1 := Nat.div_add_mod tl.length (hs.map (sideOf sd)).length
        have h2 := Nat.div_add_mod s (hs.map (sideOf sd)).length
        have h3 : (hs.map (sideOf sd)).length * (s / (hs.map (sideOf sd)).length) < (hs.map (sideOf sd)).length * (tl.length / (hs.map (sideOf sd)).length) := by omega
        have h4 := Nat.lt_of_mul_lt_mul_left h3
        have h5 : (hs.map (sideOf sd)).length * (s / (hs.map (sideOf sd)).length + 1) ≤ (hs.map (sideOf sd)).length * (tl.length / (hs.map (sideOf sd)).length) := Nat.mul_le_mul_left _ h4
        rw [Nat.mul_add, Nat.mul_one] at h5
        omega
      refine ⟨_, rfl, w, Z.C_Walk, dxw, _, _, rfl, S4 _ _ q1, T.cl_Walk, T.nWalk_start, wf_start _ _ _, _, rfl, _, rfl, hp, _, rfl, .inl (Same.sqL (S3.trans S4) hh), _, _, rfl, rfl, (by rw [hrd]; omega), ?_⟩
      have ekv : (-(s : Int)) % ((refs ds).length : Int) = (k : Int) := by rw [hrd]; exact ek
      refine ⟨_, rfl, _, rfl, (k : Int), (by rw [← ekv]), u, _, rfl, SqL.of gu, fun p1 hp1 => ?_⟩
      rw [cut_from]
      have S5 := same_upd (o := HO.lst ((tvs.drop s).drop k)) hp1
      have g1 : (upd H5 p1 (.lst ((tvs.drop s).drop k))) p1 = some (.lst ((tvs.drop s).drop k)) := upd_same
      generalize upd H5 p1 (.lst ((tvs.drop s).drop k)) = H6 at S5 g1 ⊢
      refine ⟨_, rfl, _, rfl, (k : Int), (by rw [← ekv]), u, _, rfl, SqL.of (S5 _ _ gu), fun p2 hp2 => ?_⟩
      rw [cut_take]
      have S6 := same_upd (o := HO.lst ((tvs.drop s).take k)) hp2
      refine ⟨p1, p2, _, _, rfl, rfl, S6 _ _ g1, upd_same, Nat.le_of_lt (Nat.lt_of_le_of_lt (by simp; omega : _ ≤ 8000) (by decide)), fun p3 hp3 => ?_⟩
      have S7 := same_upd (o := HO.lst ((tvs.drop s).drop k ++ (tvs.drop s).take k)) hp3
      have S37 := S4.trans (S5.trans (S6.trans S7))
      obtain ⟨hf, pr, PP, RI⟩ := walk_ring hsd hLp (by omega) W E hm hk0 hkl
      have dd := dpAll_mono S37 _ _ q4
      refine k1 _ p3 _ ((tl.drop s).drop k ++ (tl.drop s).take k) pr (S3.trans S37) ((S3.trans (S4.trans (S5.trans S6))).free hp3) upd_same ?_ hf PP RI (by simp; omega)
      rw [List.map_append, List.map_drop, List.map_take, List.map_drop]
      exact dpAll_app (dpAll_drop k (dpAll_drop s dd)) (dpAll_take k (dpAll_drop s dd))
end
end KA
namespace KA
open PySem PySem.Spec PyProof.Rows L2 DP
/-! ### paces as data, rounds put together -/
theorem noL_encPs (o o' : Option Pr) : noL (encPs o o') = true := by
  cases o <;> cases o' <;> rfl
theorem shaped_encO (o : Option Pr) : SeqAt.shaped (encO o) = true := by
  unfold SeqAt.shaped
  cases o <;> simp [encO, encP, PyData.canLay0, PyData.canLayAll0, PyData.depth, PyData.depthAll]
theorem shaped_encPs (o o' : Option Pr) : SeqAt.shaped (encPs o o') = true := by
  unfold SeqAt.shaped
  cases o <;> cases o' <;> simp [encPs, encO, encP, PyData.canLay0, PyData.canLayAll0, PyData.depth, PyData.depthAll]
theorem depth_encPs (o o' : Option Pr) : (encPs o o').depth < 4 := by
  cases o <;> cases o' <;> simp [encPs, encO, encP, PyData.depth, PyData.depthAll]
theorem dp_encPs {K : PySem.W.Frag} {H : Hp} {v : V} {o o' : Option Pr} (h : Dp K H v (encPs o o')) : ∃ a x y, v = .ref a ∧ SqT K H a [x, y] ∧ Dp K H x (encO o) ∧ Dp K H y (encO o') := by
  have h' : Dp K H v (.tuple [encO o, encO o']) := h
  cases h' with
  | tup s a =>
    cases a with
    | cons a1 a =>
      cases a with
      | cons a2 a =>
        cases a
        exact ⟨_, _, _, rfl, s, a1, a2⟩
theorem dp_non {K : PySem.W.Frag} {H : Hp} {v : V} (h : Dp K H v .none) : v = .non := by
  cases h; rfl
/-- the told pair's one -/
theorem dp_way {K : PySem.W.Frag} {H : Hp} {v : V} {o1 o2 : Option Pr} (h : Dp K H v (encPs o1 o2)) (wy : Int) (hw : wy = 0 ∨ wy = 1) : ∃ a x y z, v = .ref a ∧ SqT K H a [x, y] ∧ atI [x, y] wy = some z ∧ Dp K H z (encO (if wy = 0 then o1 else o2)) := by
  obtain ⟨a, x, y, e, s, h1, h2⟩ := dp_encPs h
  rcases hw with rfl | rfl
  · exact ⟨a, x, y, x, e, s, rfl, h1⟩
  · exact ⟨a, x, y, y, e, s, rfl, h2⟩
theorem low_self {p : Pr} (h : 0 < p.2) (hc : Int.gcd p.1 p.2 = 1) : lowT p.1 p.2 = p := by
  unfold lowT
  rw [hc]
  simp
section
variable {Z : Ad} {K : PySem.W.Frag} {H H' H1 : Hp} {t g D d : Addr} {ds es : List Addr} {L : Int} {hs js : List (List Lk)} {ls : List Lk} {n : Nat}
theorem Row.stepK (R : Row Z K H t g D ds L hs) (T : Tray H t g n) (k : Keep t g H H1) (h1 : D ≠ t) (h2 : D ≠ g) (DD : DarkAt Z K H1 d L ls) (F : ∀ la dx, H1 d = some (.ins Z.C dx (df L la)) → H la = none) : Row Z K (upd H1 D (.lst (refs ds ++ [V.ref d]))) t g D (ds ++ [d]) L (hs ++ [ls]) := by
  have R1 := R.keep T k h1 h2
  have o1 : Off Z H1 d L t g := fun la dx e => T.at_ne (F la dx e)
  have o2 : Off Z H1 d L D D := fun la dx e => by
    have := ne_of_none R.l (F la dx e)
    exact ⟨Ne.symm this, Ne.symm this⟩
  have dk := R1.dk.snoc DD o1
  have off : ∀ d' ∈ ds ++ [d], Off Z H1 d' L D D := fun d' hd => by
    rcases List.mem_append.mp hd with h | h
    · exact R1.off d' h
    · rw [List.mem_singleton] at h; subst h; exact o2
  refine ⟨by rw [upd_same]; simp [refs], (dk.acc R1.l fun d' hd la dx e => (off d' hd la dx e).1).1, fun d' hd la dx e => ?_⟩
  have hne : d' ≠ D := fun q => by rw [q, upd_same] at e; cases e
  rw [upd_ne hne] at e
  exact off d' hd la dx e
theorem Darks.app (a : Darks Z K H ds L hs) (b : Darks Z K H es L js) : Darks Z K H (ds ++ es) L (hs ++ js) := by
  have h1 := a.1
  have h2 := b.1
  refine ⟨by simp [h1, h2], fun i x l e1 e2 => ?_⟩
  by_cases hi : i < ds.length
  · rw [List.getElem?_append_left hi] at e1
    rw [List.getElem?_append_left (by omega)] at e2
    exact a.2 i x l e1 e2
  · rw [List.getElem?_append_right (by omega)] at e1
    rw [List.getElem?_append_right (by omega), ← h1] at e2
    exact b.2 _ x l e1 e2
theorem Darks.part (a : Darks Z K H ds L hs) (k : Nat) : Darks Z K H (ds.take k) L (hs.take k) ∧ Darks Z K H (ds.drop k) L (hs.drop k) := by
  have h1 := a.1
  refine ⟨⟨by simp [h1], fun i x l e1 e2 => ?_⟩, ⟨by simp [h1], fun i x l e1 e2 => ?_⟩⟩
  · have hi := (List.getElem?_eq_some_iff.mp e1).1
    rw [List.length_take] at hi
    rw [List.getElem?_take_of_lt (by omega)] at e1 e2
    exact a.2 i x l e1 e2
  · rw [List.getElem?_drop] at e1 e2
    exact a.2 _ x l e1 e2
theorem Darks.rep (a : Darks Z K H ds L hs) : ∀ k : Nat, Darks Z K H (List.replicate k ds).flatten L (List.replicate k hs).flatten
  | 0 => ⟨rfl, fun i x l e1 e2 => by simp at e1⟩
  | k + 1 => by
    rw [List.replicate_succ, List.replicate_succ, List.flatten_cons, List.flatten_cons]
    exact a.app (Darks.rep a k)
theorem Darks.one (D : DarkAt Z K H d L ls) : Darks Z K H [d] L [ls] := ⟨rfl, fun i x l e1 e2 => by
  cases i with
  | zero =>
    obtain rfl := Option.some.inj e1
    obtain rfl := Option.some.inj e2
    exact D
  | succ i => simp at e1⟩
theorem refs_rep (ds : List Addr) : ∀ k : Nat, (List.replicate k (refs ds)).flatten = refs (List.replicate k ds).flatten
  | 0 => rfl
  | k + 1 => by
    rw [List.replicate_succ, List.replicate_succ, List.flatten_cons, List.flatten_cons, refs_rep ds k]
    simp [refs]
end
theorem rep_len {α : Type} (xs : List α) : ∀ k : Nat, (List.replicate k xs).flatten.length = k * xs.length
  | 0 => by simp
  | k + 1 => by rw [List.replicate_succ, List.flatten_cons, List.length_append, rep_len xs k, Nat.succ_mul]; omega
theorem rep_map {α β : Type} (f : α → β) (xs : List α) : ∀ k : Nat, (List.replicate k xs).flatten.map f = (List.replicate k (xs.map f)).flatten
  | 0 => rfl
  | k + 1 => by rw [List.replicate_succ, List.replicate_succ, List.flatten_cons, List.flatten_cons, List.map_append, rep_map f xs k]
theorem rep_filled {kn : List (List Lk)} {k : Nat} (hk : 0 < k) : Filled kn ↔ Filled (List.replicate k kn).flatten := by
  have : ∀ ls, ls ∈ (List.replicate k kn).flatten ↔ ls ∈ kn := fun ls => by
    rw [List.mem_flatten]
    constructor
    · rintro ⟨l, h1, h2⟩
      rw [(List.mem_replicate.mp h1).2] at h2; exact h2
    · intro h
      exact ⟨kn, List.mem_replicate.mpr ⟨by omega, rfl⟩, h⟩
  exact ⟨fun h ls hl => h ls ((this ls).mp hl), fun h ls hl => h ls ((this ls).mpr hl)⟩
theorem rf_rep (sd : Str) (L : Int) (kn : List (List Lk)) : ∀ (k : Nat) (x : Int), rf sd L (List.replicate k kn).flatten x = itf (rf sd L kn) x k
  | 0, _ => rfl
  | k + 1, x => by
    rw [List.replicate_succ', List.flatten_append, rf_append, rf_rep sd L kn k x]
    simp [itf]
theorem itf_itf (f : Int → Int) (k : Nat) (x : Int) : ∀ p : Nat, itf (fun y => itf f y k) x p = itf f x (p * k)
  | 0 => by simp [itf]
  | p + 1 => by
    show itf f (itf (fun y => itf f y k) x p) k = _
    rw [itf_itf f k x p, ← itf_add, Nat.succ_mul]
/-- the pace of so many rounds at once -/
theorem PaceOf.times {L : Int} {f : Int → Int} (F : Hand L f) {pr : Pr} (P : PaceOf L f pr) (k : Nat) : PaceOf L (fun y => itf f y k) (lowT (pr.1 * k) pr.2) := by
  obtain ⟨x, c, p, p0, h1, h2⟩ := P.lap
  obtain ⟨c1, c2, c3, c4⟩ := low_terms (a := pr.1 * k) (b := pr.2) P.pos
  refine ⟨c2, c1, x, k * c, p, p0, ?_, ?_⟩
  · rw [itf_itf, Nat.mul_comm, itf_laps F h1]; grind
  · have hp := P.pos
    have e : ((lowT (pr.1 * k) pr.2).1 * p) * pr.2 = (k * c * (lowT (pr.1 * k) pr.2).2) * pr.2 := by
      have c3' : (lowT (pr.1 * k) pr.2).1 * pr.2 = pr.1 * k * (lowT (pr.1 * k) pr.2).2 := c3
      generalize (lowT (pr.1 * k) pr.2).1 = u at c3' ⊢
      generalize (lowT (pr.1 * k) pr.2).2 = v at c3' ⊢
      grind
    exact Int.eq_of_mul_eq_mul_right (by omega) e
theorem rep_pace {sd : Str} (hs : SideOk sd) {L : Int} (hL : 0 < L) {kn : List (List Lk)} (c : Filled kn) {pr : Pr} (P : PaceOf L (rf sd L kn) pr) (k : Nat) : PaceOf L (rf sd L (List.replicate k kn).flatten) (lowT (pr.1 * k) pr.2) := by
  have e : rf sd L (List.replicate k kn).flatten = fun y => itf (rf sd L kn) y k := funext fun x => rf_rep sd L kn k x
  rw [e]
  exact P.times (rf_hand hs hL c) k
theorem PaceIs.self {sd : Str} {L : Int} {kn kn' : List (List Lk)} (hs : SideOk sd) (hL : 0 < L) {o o' : Option Pr} (hf : Filled kn ↔ Filled kn') (hg : ∀ pr, Filled kn → PaceOf L (rf sd L kn) pr → PaceOf L (rf sd L kn') pr) (h : PaceIs sd L kn o) (h' : PaceIs sd L kn' o') : o' = o := by
  have := PaceIs.map hs hL id hf hg h h'
  rw [this]; cases o <;> rfl
theorem PaceIs.pos {sd : Str} {L : Int} {kn : List (List Lk)} {o : Option Pr} (h : PaceIs sd L kn o) : ∀ p, o = some p → SzQ 393 p ∧ 0 < p.2 ∧ Int.gcd p.1 p.2 = 1 ∧ PaceOf L (rf sd L kn) p ∧ Filled kn := fun p e => by
  by_cases c : Filled kn
  · obtain ⟨q, e2, P, z⟩ := h.2 c
    rw [e2] at e
    obtain rfl := Option.some.inj e
    exact ⟨z, P.pos, P.cop, P, c⟩
  · rw [h.1 c] at e; cases e
/-- a ring begun at a look further on -/
theorem ringOn_turn {sd : Str} {hs : List (List Lk)} (h0 : 0 < hs.length) {rl : List Lk} {q : Nat} (hlen : rl.length = q * hs.length) (h : RingOn sd hs rl) {k : Nat} (hk : k < rl.length) : RingOn sd (hs.drop (k % hs.length) ++ hs.take (k % hs.length)) (rl.drop k ++ rl.take k) := by
  intro i l e
  have hl : (hs.drop (k % hs.length) ++ hs.take (k % hs.length)).length = hs.length := by
    have := Nat.mod_lt k h0
    simp; omega
  have hml : (hs.map (sideOf sd)).length = hs.length := List.length_map _
  rw [hl, List.map_append, List.map_drop, List.map_take]
  have hg := getD_turned (hs.map (sideOf sd)) (by omega) k i
  rw [hml] at hg
  rw [hg]
  by_cases hi : i < (rl.drop k).length
  · rw [List.getElem?_append_left hi, List.getElem?_drop] at e
    exact h _ l e
  · rw [List.getElem?_append_right (by omega)] at e
    have hlt := (List.getElem?_eq_some_iff.mp e).1
    rw [List.length_take] at hlt
    rw [List.length_drop] at hi hlt e
    rw [List.getElem?_take_of_lt (by omega)] at e
    have := h _ l e
    have e3 : (i - (rl.length - k)) % hs.length = (k + i) % hs.length := by
      rw [← Nat.add_mul_mod_self_right (i - (rl.length - k)) q hs.length, ← hlen, show i - (rl.length - k) + rl.length = k + i by omega]
    rwa [e3] at this
theorem RingIs.onL {sd : Str} {L : Int} {hs : List (List Lk)} {pr : Pr} {rl : List Lk} (R : RingIs sd L (hs.map (sideOf sd)) pr rl) : RingOn sd hs rl := fun i l e => by
  have := R.on i l e
  rwa [List.length_map] at this
theorem RingIs.lenL {sd : Str} {L : Int} {hs : List (List Lk)} {pr : Pr} {rl : List Lk} (R : RingIs sd L (hs.map (sideOf sd)) pr rl) : rl.length = pr.2.toNat * hs.length := by
  have := R.len
  rwa [List.length_map] at this
end KA
namespace KA
open PySem PySem.Spec PyProof.Rows L2 DP
/-! ### a comprehension in a comprehension -/
theorem lookup_relabel_free {env : Env} : ∀ {names : List (Str × NameKind)} {x : Str}, (names.lookup x = some .cell ∨ names.lookup x = some .free) →
    (names.map fun (n, k) => if (k == NameKind.free && env.scope.kind == .function && env.kindOf n == some .cell) then (n, NameKind.cell) else (n, k)).lookup x = some .cell ∨
    (names.map fun (n, k) => if (k == NameKind.free && env.scope.kind == .function && env.kindOf n == some .cell) then (n, NameKind.cell) else (n, k)).lookup x = some .free
  | [], _, h => by simp at h
  | (n, k) :: r, x, h => by
    have ih := @lookup_relabel_free env r x
    show List.lookup x ((if (k == NameKind.free && env.scope.kind == .function && env.kindOf n == some .cell) = true then (n, NameKind.cell) else (n, k)) :: _) = _ ∨ List.lookup x ((if (k == NameKind.free && env.scope.kind == .function && env.kindOf n == some .cell) = true then (n, NameKind.cell) else (n, k)) :: _) = _
    cases hx : x == n with
    | true =>
      simp only [List.lookup_cons, hx] at h
      by_cases hc : (k == NameKind.free && env.scope.kind == .function && env.kindOf n == some .cell) = true
      · rw [if_pos hc]; left; simp [List.lookup_cons, hx]
      · rw [if_neg hc]; simp only [List.lookup_cons, hx]; exact h
    | false =>
      simp only [List.lookup_cons, hx] at h
      by_cases hc : (k == NameKind.free && env.scope.kind == .function && env.kindOf n == some .cell) = true
      · rw [if_pos hc]; simp only [List.lookup_cons, hx]; exact ih h
      · rw [if_neg hc]; simp only [List.lookup_cons, hx]; exact ih h
theorem blkOk_in {N : List Str} {sc scope : Scope} {own : List (Str × Nat)} {env : Env} (h : blkC N sc scope own = true) : BlkOk N (relabel sc env) scope own := by
  have o := blkOk_by h
  exact ⟨o.kind, o.uniq, o.ix, fun y hy e => lookup_relabel_free (o.free y hy e), o.own⟩
theorem pi_listK {X : Cx} {K : PySem.W.Frag} {tg l : Expr} {tl : TE} (hl : PE X l tl) (h : X.K = K := by rfl) : PI X tg l (iList K tl) := by subst h; exact pi_list hl
end KA
namespace KA
open PySem PySem.Spec PyProof.Rows L2 DP
/-! ### the fewest uses, the most uses -/
/-- whether so many uses lead so far: surely, or perhaps -/
def comesB (f : Nat → Option Int) (all : Bool) (y : Int) (n : Nat) : Bool := match f n with
  | none => !all
  | some m => decide (y ≤ m)
def LeastN (p : Nat → Bool) : Option Nat → Prop
  | none => ∀ n, p n = false
  | some n => p n = true ∧ ∀ k, k < n → p k = false
theorem it_before {sd : Str} {L : Int} {kn : List (List Lk)} {x : Int} {n : Nat} {m : Int} (h : it sd L kn x n = some m) {k : Nat} (hk : k ≤ n) : ∃ m', it sd L kn x k = some m' := by
  cases c : it sd L kn x k with
  | some m' => exact ⟨m', rfl⟩
  | none =>
    have := it_none c (n - k)
    rw [show k + (n - k) = n by omega, h] at this
    cases this
theorem least_slow {L x y : Int} {kn : List (List Lk)} : ∀ {r : Option Nat}, IsReach (it "slow" L kn x) y r → LeastN (comesB (it "slow" L kn x) true y) r
  | none, h => fun n => by
    unfold comesB
    cases c : it "slow" L kn x n with
    | none => rfl
    | some m => exact decide_eq_false (by have := h n m c; omega)
  | some n, ⟨⟨m, e, h1⟩, h2⟩ => by
    refine ⟨by unfold comesB; rw [e]; exact decide_eq_true h1, fun k hk => ?_⟩
    unfold comesB
    cases c : it "slow" L kn x k with
    | none => rfl
    | some m => exact decide_eq_false (by have := h2 k hk m c; omega)
theorem least_fast {L x y : Int} {kn : List (List Lk)} {n : Nat} (h : IsReach (it "fast" L kn x) y (some n)) : LeastN (comesB (it "fast" L kn x) false y) (some n) := by
  obtain ⟨⟨m, e, h1⟩, h2⟩ := h
  refine ⟨by unfold comesB; rw [e]; exact decide_eq_true h1, fun k hk => ?_⟩
  unfold comesB
  obtain ⟨m', e'⟩ := it_before e (Nat.le_of_lt hk)
  rw [e']
  exact decide_eq_false (by have := h2 k hk m' e'; omega)
section
variable {sd : Str} {L : Int} {kn : List (List Lk)} {x y : Int} {ps : List Int} {tl : List Lk}
theorem least_off (W : WalkOk "fast" L kn x ps tl) (h : EndOk L kn ps tl none) (hb : IsReach (it "fast" L kn x) y none) : LeastN (comesB (it "fast" L kn x) false y) (some ps.length) := by
  refine ⟨by unfold comesB; rw [behind_none W h (Nat.le_refl _)]; rfl, fun k hk => ?_⟩
  unfold comesB
  rw [behind_in W hk]
  exact decide_eq_false (by have := hb k _ (behind_in W hk); omega)
theorem least_never (hs : SideOk "fast") (hL : 0 < L) (W : WalkOk "fast" L kn x ps tl) {s : Nat} (h : EndOk L kn ps tl (some s)) (hb : IsReach (it "fast" L kn x) y none) : LeastN (comesB (it "fast" L kn x) false y) none := fun n => by
  have hl := W.len
  have h1 := h.1
  obtain ⟨m, e⟩ : ∃ m, it "fast" L kn x n = some m := by
    by_cases hn : n < ps.length
    · exact ⟨_, behind_in W hn⟩
    · obtain ⟨t, r, _, _, e⟩ := walk_at hs hL W h (by omega : s ≤ n)
      exact ⟨_, e⟩
  unfold comesB
  rw [e]
  exact decide_eq_false (by have := hb n m e; omega)
/-- places of a walk by looks that are not great -/
theorem walk_near (hL : 0 < L) (hLb : L.natAbs < 2 ^ 110) (hk : ∀ ls ∈ kn, ∀ l ∈ ls, Sized 114 l) (W : WalkOk sd L kn x ps tl) : ∀ (i : Nat) (z : Int), ps[i]? = some z → z.natAbs ≤ x.natAbs + i * 2 ^ 116
  | 0, z, h => by
    rw [W.zero] at h
    rw [← Option.some.inj h]; omega
  | i + 1, z, h => by
    have hi := (List.getElem?_eq_some_iff.mp h).1
    have hl := W.len
    obtain ⟨hm, y0, z', h1, h2, h3, _⟩ := W.step i _ (List.getElem?_eq_getElem (by omega : i < tl.length))
    rw [h2] at h
    rw [← Option.some.inj h, ← h3]
    have q1 := walk_near hL hLb hk W i y0 h1
    have hsz : Sized 114 (tl[i]'(by omega)) := by
      by_cases c : i % kn.length < kn.length
      · rw [List.getD_eq_getElem?_getD, List.getElem?_eq_getElem c] at hm
        exact hk _ (List.getElem_mem c) _ hm
      · rw [List.getD_eq_getElem?_getD, List.getElem?_eq_none (by omega)] at hm
        cases hm
    have q2 := plc_near hL sd (tl[i]'(by omega)) y0
    have q3 : ((tl[i]'(by omega)).2.2 - (tl[i]'(by omega)).2.1).natAbs < 2 ^ 115 := sub_lt hsz.2 hsz.1
    rw [Nat.add_mul, Nat.one_mul]
    have p1 : (2 : Nat) ^ 116 = 2 ^ 115 + 2 ^ 115 := by rw [Nat.pow_succ, Nat.mul_two]
    have p2 : (2 : Nat) ^ 115 = 2 ^ 110 * 32 := by decide
    have p3 : 1 ≤ (2 : Nat) ^ 110 := Nat.one_le_two_pow
    generalize i * 2 ^ 116 = c at q1 ⊢
    rw [p1]
    generalize plc sd (tl[i]'(by omega)) y0 L = v at q2 ⊢
    generalize (tl[i]'(by omega)).2.2 - (tl[i]'(by omega)).2.1 = u at q2 q3
    omega
/-- a first use that comes so far is none beyond all bounds -/
theorem reach_bound (hs : SideOk sd) (hL : 0 < L) (hLb : L.natAbs < 2 ^ 110) (hk : ∀ ls ∈ kn, ∀ l ∈ ls, Sized 114 l) (W : WalkOk sd L kn x ps tl) {st : Option Nat} (E : EndOk L kn ps tl st) (hN : tl.length < 4000) (hx : x.natAbs < 2 ^ 200) (hy : y.natAbs < 2 ^ 200) {n : Nat} (hr : IsReach (it sd L kn x) y (some n)) : n < 2 ^ 260 := by
  have hl := W.len
  obtain ⟨⟨m, e, h1⟩, h2⟩ := hr
  by_cases hn : n < ps.length
  · exact Nat.lt_of_lt_of_le (by omega : n < 4001) (by decide)
  cases st with
  | none => rw [behind_none W E (by omega)] at e; cases e
  | some s =>
    have hs1 := E.1
    by_cases c : ps.getD tl.length 0 - ps.getD s 0 ≤ 0
    · exfalso
      obtain ⟨t, r, hr, _, e'⟩ := walk_at hs hL W E (by omega : s ≤ n)
      rw [e] at e'
      have e2 := Option.some.inj e'
      have h3 := h2 (s + r) (by omega) _ (behind_in W (by omega))
      have h4 : (t : Int) * (ps.getD tl.length 0 - ps.getD s 0) ≤ 0 := Int.mul_nonpos_of_nonneg_of_nonpos (by omega) c
      omega
    · have hps : (ps.getD s 0).natAbs ≤ x.natAbs + s * 2 ^ 116 := walk_near hL hLb hk W s _ (by rw [List.getD_eq_getElem?_getD, List.getElem?_eq_getElem (by omega)]; rfl)
      obtain ⟨T, hT⟩ : ∃ T, T = (y - ps.getD s 0).natAbs := ⟨_, rfl⟩
      have e3 := behind_laps hs hL W E T 0 (by omega)
      rw [Nat.add_zero] at e3
      have h5 : (T : Int) * 1 ≤ (T : Int) * (ps.getD tl.length 0 - ps.getD s 0) := Int.mul_le_mul_of_nonneg_left (by omega) (by omega)
      have h6 : n ≤ s + T * (tl.length - s) := by
        by_cases c2 : n ≤ s + T * (tl.length - s)
        · exact c2
        · exfalso
          have := h2 _ (by omega) _ e3
          omega
      have h7 : T * (tl.length - s) ≤ T * 4000 := Nat.mul_le_mul_left _ (by omega)
      have h8 : s * 2 ^ 116 ≤ 4000 * 2 ^ 116 := Nat.mul_le_mul_right _ (by omega)
      have h8' : s * 2 ^ 116 ≤ 2 ^ 200 := Nat.le_trans h8 (by decide +kernel)
      clear h8
      have h10 : T < 2 ^ 202 := by
        have h9 : T ≤ y.natAbs + (x.natAbs + s * 2 ^ 116) := by rw [hT]; exact Nat.le_trans (Int.natAbs_sub_le _ _) (Nat.add_le_add_left hps _)
        exact Nat.lt_of_le_of_lt h9 (Nat.lt_of_lt_of_le (Nat.add_lt_add_of_lt_of_le hy (Nat.add_le_add (Nat.le_of_lt hx) h8')) (by decide +kernel))
      have h11 : 4000 + 2 ^ 202 * 4000 < (2 : Nat) ^ 260 := by decide +kernel
      generalize (2 : Nat) ^ 260 = A at h11 ⊢
      generalize (2 : Nat) ^ 202 = B at h10 h11
      omega
end
def natsL (n : Nat) : List Int := (List.range n).map Int.ofNat
theorem natsL_snoc (n : Nat) : natsL (n + 1) = natsL n ++ [(n : Int)] := by unfold natsL; rw [List.range_succ, List.map_append]; rfl
theorem natsL_mem {n : Nat} {z : Int} : z ∈ natsL n ↔ 0 ≤ z ∧ z < n := by
  unfold natsL
  rw [List.mem_map]
  constructor
  · rintro ⟨k, hk, rfl⟩
    have := List.mem_range.mp hk
    exact ⟨Int.natCast_nonneg _, by show (k : Int) < n; omega⟩
  · rintro ⟨a, b⟩
    exact ⟨z.toNat, List.mem_range.mpr (by omega), Int.toNat_of_nonneg a⟩
theorem at_intsL {hs : List Int} {i : Nat} {y : V} (h : (hs.map V.int)[i]? = some y) : ∃ z, hs[i]? = some z ∧ y = V.int z := by
  rw [List.getElem?_map] at h
  cases c : hs[i]? with
  | none => rw [c] at h; cases h
  | some z => rw [c] at h; exact ⟨z, rfl, (Option.some.inj h).symm⟩
def spFew (Z : Ad) (K : PySem.W.Frag) : Sp := fun vs H Q _ => ∃ (hp : Addr) (ds : List Addr) (L x y : Int) (hs : List (List Lk)), vs = [.ref hp, .int x, .int y] ∧ SqL K H hp (refs ds) ∧ Darks Z K H ds L hs ∧ 0 < ds.length ∧ ds.length ≤ 60 ∧ x.natAbs < 2 ^ 200 ∧ y.natAbs < 2 ^ 200 ∧ L.natAbs < 2 ^ 110 ∧ (∀ ls ∈ hs, ∀ l ∈ ls, Sized 114 l) ∧
  ∀ H' r, Same H H' → LeastN (comesB (it "fast" L (hs.map (sideOf "fast")) x) false y) r → (∀ n, r = some n → n < 2 ^ 260) → Q (uV r) H'
section
variable {P : Program} {w : World} {K : PySem.W.Frag} {mg : Str → Option Value} {base : Heap} {Z : Ad}
theorem ok_fewest_uses (T : Tx K w mg Z) : FnOk P w K mg base CX0 6 Z.a_fewest_uses Z.d_fewest_uses P_fewest_uses (spFew Z K) := by
  refine T.F_fewest_uses.ok scfewest_uses (fun vs H Q E h => ?_) (fun cdv A outer s H vs Q E hr h => ?_)
  · obtain ⟨hp, ds, L, x, y, hs, rfl, _⟩ := h
    rfl
  · obtain ⟨hp, ds, L, x, y, hs, rfl, hh, hD, hd0, hd1, hx, hyb, hLb, hsz, k⟩ := h
    refine ⟨_, (pss_cons (ps_expr (pe_call (ok_check_round T) (hr.mono (by decide)) (by rfl) T.g_check_round T.F_check_round.kp T.bb_check_round .nil pass0 (pa_cons (pv 0) pa_nil)))
      (pss_cons (ps_set (i := 3) scfewest_uses.nd rfl (Or.inl rfl) (pe_make T.mk_Walk (ok_Walk_init T) (hr.mono (by decide)) (by rfl) T.g_Walk T.bb_Walk_init .nil pass0 (pa_cons (pv 0) (pa_cons (pe_glob rfl T.g_FAST T.r_FAST) (pa_cons (pv 1) pa_nil)))))
      (pss_cons (ps_set (i := 4) scfewest_uses.nd rfl (Or.inl rfl) (pe_meth (pv 3) T.cl_Walk T.m_Walk_reach (ok_Walk_reach T) (hr.mono (by decide)) T.bb_Walk_reach .nil pass0 (pa_cons (pv 2) pa_nil)))
      (C8.pss_cut (ps_if (PW.pt (pw_and (pt_cmpR op_isN (pv 4) pe_non (nomark _)) (pw_and1 (pt_cmpR op_isN (fldK (K := K) (pv 3) rfl) pe_non (nomark _))))) (pss_one (ps_ret (pe_callB (lenK (K := K)) (by rfl) T.b_len (by decide +kernel) (pa_cons (fldK (K := K) (pv 3) rfl) pa_nil)))) pss_nil)
      (pss_one (ps_ret (pv 4))))))), ?_⟩
    refine ⟨_, rfl, hp, ds, L, hs, rfl, hh, hD, hd0, fun H1 S1 => ?_⟩
    refine ⟨_, rfl, _, rfl, fun w dx hwn hdx hne => ?_⟩
    have S2 := S1.trans (same_made (o := HO.ins Z.C_Walk dx []) hwn hdx)
    have hD2 := hD.same S2
    have hdw : ∀ d ∈ ds, d ≠ w := fun d hd e => by
      obtain ⟨i, hi, e1⟩ := List.getElem_of_mem hd
      have hi' : ds[i]? = some d := by rw [List.getElem?_eq_getElem hi, e1]
      obtain ⟨ls, _, DD⟩ := (hD.same S1).get hi'
      obtain ⟨dx', la, vs, q1, _⟩ := DD.ex
      rw [e, hwn] at q1; cases q1
    refine ⟨w, hp, dx, ds, "fast", L, x, hs, rfl, upd_same, Same.sqL S2 hh, hD2, hd0, hd1, .inr rfl, lt_up hx (by decide), hdw, fun H3 pl tb ps tl st W E hm WA k3 => ⟨rfl, ?_⟩⟩
    have S3 : Same H H3 := fun b o e => k3 b o (S2 b o e) (fun e' => by
      subst e'
      rw [S1 _ _ e] at hwn; cases hwn)
    obtain ⟨dxw, tvs, q1, q2, q3, q4⟩ := id WA.ex
    have hl := hD.1
    have hkn := knOk hD "fast"
    have hN : tl.length < 4000 := by
      have h1 := marks_le (by rw [List.length_map]; omega) W (n := tl.length) (by have := W.len; omega) hm
      have h2 := cand_len hkn (L := L) x
      have h3 : (hs.map (sideOf "fast")).length * 60 ≤ 60 * 60 := Nat.mul_le_mul_right 60 (by rw [List.length_map]; omega)
      omega
    obtain ⟨d0, hd00⟩ : ∃ d0, ds[0]? = some d0 := ⟨ds[0], List.getElem?_eq_getElem hd0⟩
    obtain ⟨ls0, hls0, D0⟩ := hD.get hd00
    have hszS : ∀ ls ∈ hs.map (sideOf "fast"), ∀ l ∈ ls, Sized 114 l := fun ls hls l hl' => by
      obtain ⟨q, hq, rfl⟩ := List.mem_map.mp hls
      exact hsz q hq l (mem_side.mp hl').1
    have hw := W.len
    refine ⟨_, rfl, w, dxw, _, rfl, q1, wf_no _ _ _ (by decide +kernel) (by decide +kernel) (by decide +kernel), _, rfl, w, pl, tb, "fast", L, x, y, hs.map (sideOf "fast"), ps, tl, st, rfl, WA, W, E, .inr rfl, D0.pos, D0.big, hkn, lt_up hx (by decide), hN, lt_up hyb (by decide), fun H4 r S4 hr4 => ?_⟩
    have S34 := S3.trans S4
    cases r with
    | some n =>
      refine ⟨fun σ' H' => σ' = [some (.ref hp), some (.int x), some (.int y), some (.ref w), some (.int (n : Int))] ∧ H' = H4, ?_, ?_⟩
      · exact ⟨_, rfl, rfl, _, rfl, iteF (iteF ⟨rfl, rfl⟩)⟩
      rintro σ5 H5 ⟨rfl, rfl⟩
      exact ⟨_, rfl, k H5 (some n) S34 (least_fast hr4) fun n' e => by
        obtain rfl := Option.some.inj e
        exact reach_bound (.inr rfl) D0.pos hLb hszS W E hN hx hyb hr4⟩
    | none =>
      cases st with
      | none =>
        refine ⟨fun σ' H' => False, ?_, fun _ _ z => z.elim⟩
        refine ⟨_, rfl, rfl, _, rfl, iteT ⟨_, rfl, w, Z.C_Walk, dxw, _, _, rfl, S4 _ _ q1, T.cl_Walk, T.nWalk_start, wf_start _ _ _, rfl, _, rfl, iteT ?_⟩⟩
        refine ⟨_, rfl, w, Z.C_Walk, dxw, _, _, rfl, S4 _ _ q1, T.cl_Walk, T.nWalk_places, wf_places _ _ _, pl, ps.map V.int, rfl, .inl (SqL.of (S4 _ _ q2)), ?_⟩
        rw [List.length_map]
        exact k H4 (some ps.length) S34 (least_off W E hr4) fun n' e => by
          obtain rfl := Option.some.inj e
          exact Nat.lt_of_lt_of_le (by omega : ps.length < 4001) (by decide)
      | some s =>
        refine ⟨fun σ' H' => σ' = [some (.ref hp), some (.int x), some (.int y), some (.ref w), some .non] ∧ H' = H4, ?_, ?_⟩
        · exact ⟨_, rfl, rfl, _, rfl, iteT ⟨_, rfl, w, Z.C_Walk, dxw, _, _, rfl, S4 _ _ q1, T.cl_Walk, T.nWalk_start, wf_start _ _ _, rfl, _, rfl, iteF ⟨rfl, rfl⟩⟩⟩
        rintro σ5 H5 ⟨rfl, rfl⟩
        exact ⟨_, rfl, k H5 none S34 (least_never (.inr rfl) D0.pos W E hr4) fun n' e => by cases e⟩
end
end KA
namespace KA
open PySem PySem.Spec PyProof.Rows L2 DP
/-! ### rings refused -/
def Outs (CL : Addr) (H : Hp) (E : XK) (v : V) : Prop := ∀ (dd : Addr) (H' : Hp), Same H H' → H' dd = some (.xd [(("what" : Str), v)]) → H dd = none → E (.ref CL) (some dd) H'
theorem Outs.after {CL : Addr} {H H1 : Hp} {E : XK} {v : V} (h : Outs CL H E v) (S : Same H H1) : Outs CL H1 E v := fun dd H' S' h1 h2 => h dd H' (S.trans S') h1 (S.free h2)
def dU : Option Nat → PyData
  | none => .none
  | some n => .int (n : Int)
theorem dp_uV {K : PySem.W.Frag} {H : Hp} : ∀ o, Dp K H (uV o) (dU o)
  | none => .non
  | some n => .int _
def dl : Lk := ("at", 0, 0)
/-- what looks are refused with as a ring -/
def ringRef (sd : Str) (hs : List (List Lk)) (rl : List Lk) : Option (Option Nat) :=
  if rl = [] ∨ rl.length % hs.length ≠ 0 then some none else ((List.range rl.length).find? fun i => !decide (rl.getD i dl ∈ (hs.map (sideOf sd)).getD (i % hs.length) [])).map some
theorem ringRef_bad {sd : Str} {hs : List (List Lk)} {rl : List Lk} (h : rl = [] ∨ rl.length % hs.length ≠ 0) : ringRef sd hs rl = some none := if_pos h
theorem getD_of {rl : List Lk} {i : Nat} {l : Lk} (h : rl[i]? = some l) : rl.getD i dl = l := by rw [List.getD_eq_getElem?_getD, h]; rfl
theorem ringRef_none {sd : Str} {hs : List (List Lk)} {rl : List Lk} (h : ringRef sd hs rl = none) : 0 < rl.length ∧ rl.length % hs.length = 0 ∧ RingOn sd hs rl := by
  unfold ringRef at h
  by_cases c : rl = [] ∨ rl.length % hs.length ≠ 0
  · rw [if_pos c] at h; cases h
  · rw [if_neg c, Option.map_eq_none_iff, List.find?_eq_none] at h
    refine ⟨List.length_pos_iff.mpr fun e => c (.inl e), by
      by_cases e : rl.length % hs.length = 0
      · exact e
      · exact absurd (.inr e) c, fun i l hi => ?_⟩
    have h1 := h i (List.mem_range.mpr (List.getElem?_eq_some_iff.mp hi).1)
    rw [getD_of hi] at h1
    simpa using h1
theorem ringRef_at {sd : Str} {hs : List (List Lk)} {rl : List Lk} (h1 : rl ≠ []) (h2 : rl.length % hs.length = 0) {i : Nat} {l : Lk} (hi : rl[i]? = some l) (hn : l ∉ (hs.map (sideOf sd)).getD (i % hs.length) []) (hb : ∀ j l', j < i → rl[j]? = some l' → l' ∈ (hs.map (sideOf sd)).getD (j % hs.length) []) : ringRef sd hs rl = some (some i) := by
  unfold ringRef
  rw [if_neg (fun c => c.elim h1 fun e => e h2), Option.map_eq_some_iff]
  refine ⟨i, ?_, rfl⟩
  rw [List.find?_range_eq_some]
  refine ⟨?_, List.mem_range.mpr (List.getElem?_eq_some_iff.mp hi).1, fun j hj => ?_⟩
  · rw [getD_of hi]; simpa using hn
  · have hjl : j < rl.length := by
      have := (List.getElem?_eq_some_iff.mp hi).1
      omega
    obtain ⟨l', hl'⟩ : ∃ l', rl[j]? = some l' := ⟨_, List.getElem?_eq_getElem hjl⟩
    rw [getD_of hl']
    simpa using hb j l' hj hl'
def spCheckRingJ (Z : Ad) (K : PySem.W.Frag) (Y : AdX) : Sp := fun vs H Q E => ∃ (hp rp : Addr) (ds : List Addr) (sd : Str) (L : Int) (hs : List (List Lk)) (rl : List Lk) (w : Option Nat), vs = [.ref hp, .str sd, .ref rp] ∧ SqL K H hp (refs ds) ∧ Darks Z K H ds L hs ∧ 0 < ds.length ∧ ds.length ≤ 60 ∧ SideOk sd ∧ Dp K H (.ref rp) (.list (rl.map encL)) ∧ (∀ l ∈ rl, WordOk l.1) ∧
  ringRef sd hs rl = some w ∧ Outs Y.c_NoRing H E (uV w)
def spRingPaceJ0 (Z : Ad) (K : PySem.W.Frag) (Y : AdX) : Sp := spCheckRingJ Z K Y
def spRingPaceJ (Z : Ad) (K : PySem.W.Frag) (Y : AdX) : Sp := fun vs H Q E => spRingPaceJ0 Z K Y vs H Q E ∨ spRingPace Z K vs H Q E
section
variable {P : Program} {w : World} {K : PySem.W.Frag} {mg : Str → Option Value} {base : Heap} {Z : Ad} {Y : AdX}
theorem okX_check_ring (T : Tx K w mg Z) (X : Ex P K mg Y) : FnOk P w K mg base (L2.CX P w) 4 Z.a_check_ring Z.d_check_ring P_check_ring (spCheckRingJ Z K Y) := by
  refine T.F_check_ring.okX sccheck_ring (fun vs H Q E h => ?_) (fun cdv A outer s H vs Q E hr h => ?_)
  · obtain ⟨hp, rp, ds, sd, L, hs, rl, w, rfl, _⟩ := h
    rfl
  · obtain ⟨hp, rp, ds, sd, L, hs, rl, w, rfl, hh, hD, hd0, hd60, hsd, hrg, hw, hrr, kx⟩ := h
    obtain ⟨a, vs, ea, sq, hdl⟩ := dp_list hrg
    injection ea with ea
    subst ea
    have hvl : vs.length = rl.length := by rw [dpAll_len hdl, List.length_map]
    have hds : ds.length = hs.length := hD.1
    have hrd : ((refs ds).length : Int) = (hs.length : Int) := by show ((ds.map V.ref).length : Int) = _; rw [List.length_map, hds]
    refine ⟨_, (C8.pss_cut (ps_if (PW.pt (pw_or (pt_not (pt_truth (pv 2) (by intro _; rfl))) (pw_or1 (pt_cmpR op_ne (pe_op op_mod (pe_callB (lenK (K := K)) (by rfl) T.b_len (by decide +kernel) (pa_cons (pv 2) pa_nil)) (pe_callB (lenK (K := K)) (by rfl) T.b_len (by decide +kernel) (pa_cons (pv 0) pa_nil))) pe_int (nomark _))))) (pss_one (ps_raise rfl (takes_of rfl rfl rfl rfl) (pmk_err X.NoRing X.g_NoRing T.b_super hr (pa_cons pe_non pa_nil)))) pss_nil)
      (pss_cons (ps_set (i := 3) sccheck_ring.nd rfl (Or.inl rfl) (pe_call (ok_round_looks T) (hr.mono (by decide)) (by rfl) T.g_round_looks T.F_round_looks.kp T.bb_round_looks .nil pass0 (pa_cons (pv 0) (pa_cons (pv 1) pa_nil))))
      (pss_one (ps_for (passes_of rfl) rfl (pi_enum (by rfl) T.b_enumerate (pa_cons (pv 2) pa_nil)) (tupK (K := K) (by rfl) (pgs_cons (pg_name (i := 4) sccheck_ring.nd rfl (Or.inl rfl)) (pgs_cons (pg_name (i := 5) sccheck_ring.nd rfl (Or.inl rfl)) pgs_nil))) (pss_one (ps_if (pt_cmpR (notInDK (K := K) (rooms hr)) (pv 5) (pe_ix (ixL (K := K)) (pv 3) (pe_op op_mod (pv 4) (pe_callB (lenK (K := K)) (by rfl) T.b_len (by decide +kernel) (pa_cons (pv 0) pa_nil))) (fun _ _ => rfl)) (by rfl)) (pss_one (ps_raise rfl (takes_of rfl rfl rfl rfl) (pmk_err X.NoRing X.g_NoRing T.b_super hr (pa_cons (pv 4) pa_nil)))) pss_nil)))))), ?_⟩
    refine ⟨fun σ' H' => σ' = [some (.ref hp), some (.str sd), some (.ref rp), none, none, none] ∧ H' = H ∧ rl ≠ [] ∧ rl.length % hs.length = 0, ?_, ?_⟩
    · have bad : (rl = [] ∨ rl.length % hs.length ≠ 0) → Outs Y.c_NoRing H E .non := fun c => by
        rw [ringRef_bad c] at hrr
        have e : w = none := (Option.some.inj hrr).symm
        rw [e] at kx
        exact kx
      refine ⟨_, rfl, _, .inl ⟨vs, sq, rfl⟩, ?_⟩
      cases e : vs with
      | nil =>
        have e0 : rl = [] := List.eq_nil_of_length_eq_zero (by rw [← hvl, e]; rfl)
        exact iteT ⟨_, rfl, fun dd hdd => bad (.inl e0) dd _ (same_upd hdd) upd_same hdd⟩
      | cons v vs' =>
        rw [e] at sq hvl
        have hne : rl ≠ [] := fun e0 => by rw [e0] at hvl; simp at hvl
        refine iteF ⟨_, rfl, rp, _, rfl, .inl sq, _, rfl, hp, _, rfl, .inl hh, _, _, rfl, rfl, (by rw [hrd]; omega), rfl, _, rfl, ?_⟩
        have em : (((v :: vs').length : Nat) : Int) % ((refs ds).length : Int) = ((rl.length % hs.length : Nat) : Int) := by
          rw [hrd, hvl]; push_cast; rfl
        by_cases c : rl.length % hs.length = 0
        · have e1 : (!decide (V.int ((((v :: vs').length : Nat) : Int) % ((refs ds).length : Int)) = V.int 0)) = false := by rw [em, c]; simp
          rw [e1]
          exact iteF ⟨rfl, rfl, hne, c⟩
        · have e1 : (!decide (V.int ((((v :: vs').length : Nat) : Int) % ((refs ds).length : Int)) = V.int 0)) = true := by
            rw [em]
            simp
            omega
          rw [e1]
          exact iteT ⟨_, rfl, fun dd hdd => bad (.inr c) dd _ (same_upd hdd) upd_same hdd⟩
    rintro σ1 H1 ⟨rfl, rfl, hne, hmod⟩
    refine ⟨_, rfl, _, rfl, hp, ds, sd, L, hs, rfl, hh, hD, hsd, by omega, fun H2 p as hpn has S gp hlo => ?_⟩
    have sq2 := Same.sqL S sq
    have hdl2 := dpAll_mono S _ _ hdl
    refine ⟨_, rfl, rp, vs, rfl, sq2, ?_⟩
    refine for_enum (K := K) (a := rp) (xs := vs) (fun i σ' H' => ∃ u4 u5, σ' = [some (.ref hp), some (.str sd), some (.ref rp), some (.ref p), u4, u5] ∧ Same H2 H' ∧ ∀ j l, j < i → rl[j]? = some l → l ∈ (hs.map (sideOf sd)).getD (j % hs.length) []) ⟨_, _, rfl, fun _ _ e => e, fun j l h => absurd h (by omega)⟩ (fun i σ' H' _ ⟨_, _, _, S, _⟩ => Same.sqL S sq2) ?_ (fun σ' H' ⟨_, _, _, S3, hb⟩ => ?_)
    · rintro i y T' σ' H3 hi ⟨u4, u5, rfl, S3, hb⟩ hT'
      have S4 := S3.trans (same_upd (o := HO.tup [V.int (i : Nat), y]) hT')
      obtain ⟨d, hdi, hdy⟩ := dpAll_get hdl2 hi
      obtain ⟨l, hl, rfl⟩ := map_at hdi
      have hwl := hw l (List.mem_of_getElem? hl)
      have him : i % hs.length < hs.length := Nat.mod_lt _ (by omega)
      obtain ⟨b, hb'⟩ : ∃ b, as[i % hs.length]? = some b := ⟨as[i % hs.length]'(by have := hlo.1; rw [List.length_map] at this; omega), List.getElem?_eq_getElem _⟩
      obtain ⟨ls, hls, hlk⟩ := (hlo.same S4).get hb'
      have els : (hs.map (sideOf sd)).getD (i % hs.length) [] = ls := by rw [List.getD_eq_getElem?_getD, hls]; rfl
      have hwls : ∀ o ∈ ls, WordOk o.1 := fun o ho => (((knOk hD sd) ls (List.mem_of_getElem? hls)).2 o ho).1
      refine ⟨_, _, rfl, SqT.of upd_same, rfl, _, _, rfl, _, _, rfl, rfl, ?_⟩
      refine ⟨_, rfl, _, rfl, _, rfl, _, rfl, hp, _, rfl, .inl (Same.sqL (S.trans S4) hh), _, _, rfl, rfl, (by rw [hrd]; omega), p, _, _, _, rfl, rfl, SqL.of (S4 _ _ gp), ?_, encL l, ls.map encL, dp_mono S4 _ _ hdy, hlk.dp, shaped_look hwl, shaped_looks hwls, _, rfl, ?_⟩
      · refine at_of (j := i % hs.length) (by rw [hrd]; push_cast; rfl) ?_
        show (as.map V.ref)[_]? = _
        rw [List.getElem?_map, hb']; rfl
      · rw [any_look]
        by_cases hin : l ∈ ls
        · have e : (!decide (l ∈ ls)) = false := by simp [hin]
          rw [e]
          refine iteF ⟨_, _, rfl, S4, fun j l' hj hj' => ?_⟩
          by_cases q : j < i
          · exact hb j l' q hj'
          · obtain rfl : j = i := by omega
            rw [hl] at hj'
            rw [← Option.some.inj hj', els]; exact hin
        · have e : (!decide (l ∈ ls)) = true := by simp [hin]
          rw [e]
          have e2 := ringRef_at (sd := sd) hne hmod hl (by rw [els]; exact hin) hb
          rw [e2] at hrr
          have ew : w = some i := (Option.some.inj hrr).symm
          rw [ew] at kx
          exact iteT ⟨_, rfl, _, rfl, fun dd hdd => kx dd _ ((S.trans S4).trans (same_upd hdd)) upd_same ((S.trans S4).free hdd)⟩
    · exfalso
      have hon : RingOn sd hs rl := fun i l hi => hb i l (by rw [hvl]; exact (List.getElem?_eq_some_iff.mp hi).1) hi
      unfold ringRef at hrr
      rw [if_neg (fun c => c.elim hne fun e => e hmod), Option.map_eq_some_iff] at hrr
      obtain ⟨i, h1, _⟩ := hrr
      rw [List.find?_range_eq_some] at h1
      obtain ⟨l, hl⟩ : ∃ l, rl[i]? = some l := ⟨_, List.getElem?_eq_getElem (List.mem_range.mp h1.2.1)⟩
      have h2 := h1.1
      rw [getD_of hl] at h2
      have := hon i l hl
      rw [decide_eq_true this] at h2
      exact absurd h2 (by decide)
theorem okX_ring_pace0 (T : Tx K w mg Z) (X : Ex P K mg Y) : FnOk P w K mg base (L2.CX P w) 5 Z.a_ring_pace Z.d_ring_pace P_ring_pace (spRingPaceJ0 Z K Y) := by
  refine T.F_ring_pace.okX scring_pace (fun vs H Q E h => ?_) (fun cdv A outer s H vs Q E hr h => ?_)
  · obtain ⟨hp, rp, ds, sd, L, hs, rl, w0, rfl, _⟩ := h
    rfl
  · obtain ⟨hp, rp, ds, sd, L, hs, rl, w0, rfl, hh, hD, hd0, hd1, hsd, hrl, hw, hr0, kx⟩ := h
    refine ⟨_, (pss_cons (ps_expr (pe_call (ok_check_side T) (hr.mono (by decide)) (by rfl) T.g_check_side T.F_check_side.kp T.bb_check_side .nil pass0 (pa_cons (pv 1) pa_nil)))
      (pss_cons (ps_expr (pe_call (ok_check_round T) (hr.mono (by decide)) (by rfl) T.g_check_round T.F_check_round.kp T.bb_check_round .nil pass0 (pa_cons (pv 0) pa_nil)))
      (pss_cons (ps_expr (pe_call (okX_check_ring T X) (hr.mono (by decide)) (by rfl) T.g_check_ring T.F_check_ring.kp T.bb_check_ring .nil (passes_call (takes_of rfl rfl rfl rfl) (fun _ _ _ _ h => h)) (pa_cons (pv 0) (pa_cons (pv 1) (pa_cons (pv 2) pa_nil)))))
      (pss_cons (ps_set (i := 3) scring_pace.nd rfl (Or.inl rfl) (pe_meth0 (pe_ix (ixL (K := K)) (pv 0) pe_int (fun _ _ => rfl)) T.cl T.m_Dark_length (ok_Dark_length T) (hr.mono (by decide)) T.bb_Dark_length .nil pass0))
      (pss_cons (ps_set (i := 4) scring_pace.nd rfl (Or.inl rfl) pe_int)
      (pss_cons (ps_for (passes_of rfl) rfl (pi_enum (by rfl) T.b_enumerate (pa_cons (pv 2) pa_nil)) (tupK (K := K) (by rfl) (pgs_cons (pg_name (i := 5) scring_pace.nd rfl (Or.inl rfl)) (pgs_cons (pg_name (i := 6) scring_pace.nd rfl (Or.inl rfl)) pgs_nil))) (pss_cons (ps_set (i := 7) scring_pace.nd rfl (Or.inl rfl) (pe_op op_sub (pe_ix (ixT (K := K)) (pe_ix (ixL (K := K)) (pv 2) (pe_op op_sub (pv 5) pe_int) (fun _ _ => rfl)) pe_int (fun _ _ => rfl)) (pe_ix (ixT (K := K)) (pv 6) pe_int (fun _ _ => rfl))))
      (pss_one (ps_set (i := 4) scring_pace.nd rfl (Or.inl rfl) (pe_op op_add (pv 4) (pe_ifExp (pt_cmpR op_eq (pv 1) (pe_glob rfl T.g_SLOW T.r_SLOW) (nomark _)) (pe_op op_fdivW (pv 7) (pv 3)) (pe_un un_neg (pe_op op_fdivW (pe_un un_neg (pv 7)) (pv 3)))))))))
      (pss_one (ps_ret (pe_call (ok_lowest T) (hr.mono (by decide)) (by rfl) T.g_lowest T.F_lowest.kp T.bb_lowest .nil pass0 (pa_cons (pv 4) (pa_cons (pe_op op_fdivW (pe_callB (lenK (K := K)) (by rfl) T.b_len (by decide +kernel) (pa_cons (pv 2) pa_nil)) (pe_callB (lenK (K := K)) (by rfl) T.b_len (by decide +kernel) (pa_cons (pv 0) pa_nil))) pa_nil))))))))))), ?_⟩
    refine ⟨_, rfl, sd, rfl, hsd, fun H0 S0 => ?_⟩
    refine ⟨_, rfl, hp, ds, L, hs, rfl, Same.sqL S0 hh, hD.same S0, hd0, fun H1 S1 => ?_⟩
    have S := S0.trans S1
    exact ⟨_, rfl, _, rfl, _, rfl, hp, rp, ds, sd, L, hs, rl, w0, rfl, Same.sqL S hh, hD.same S, hd0, hd1, hsd, dp_mono S _ _ hrl, hw, hr0, Outs.after kx S⟩
theorem okX_ring_pace (T : Tx K w mg Z) (X : Ex P K mg Y) : FnOk P w K mg base (L2.CX P w) 5 Z.a_ring_pace Z.d_ring_pace P_ring_pace (spRingPaceJ Z K Y) :=
  KW.ok_or (okX_ring_pace0 T X) (KW.ok_may ((ok_ring_pace T).mono (by decide)))
end
end KA
namespace KA
open PySem PySem.Spec PyProof.Rows L2 DP
def spLookH (K : PySem.W.Frag) : Sp := fun vs H Q _ => ∃ (t g p : Addr) (n : Nat) (L : Int) (ss : List Pr), vs = [.ref t, .int L, .ref p] ∧ Tray H t g n ∧ n < 2 ^ 50 ∧ 0 < L ∧ L ≤ 10 ^ 30 ∧ LAt K H p (ss.map encP) ∧ p ≠ t ∧ p ≠ g ∧ StepsH L ss ∧
  ∀ (H' : Hp) (r : V) (l : Lk), At H H' t g (n + 6) → Dp K H' r (encL l) → TrueH L ss l → Q r H'
section
variable {P : Program} {w : World} {K : PySem.W.Frag} {mg : Str → Option Value} {base : Heap} {Z : Ad}
theorem ok_law_look (T : Tx K w mg Z) : FnOk P w K mg base CX0 2 Z.a_law_look Z.d_law_look P_law_look (spLookH K) := by
  refine T.F_law_look.ok sclaw_look (fun vs H Q E h => ?_) (fun cdv A outer s H vs Q E hr h => ?_)
  · obtain ⟨t, g, p, n, L, ss, rfl, _⟩ := h
    rfl
  · obtain ⟨t, g, p, n, L, ss, rfl, hT, hn, hL, hL30, lp, pt, pg, ⟨hs0, hs50, hss⟩, k⟩ := h
    have hLb := bigL hL hL30
    have hb6 : ∀ j, j ≤ n + 300 → j < 2 ^ 60 := fun j hj => Nat.lt_of_le_of_lt hj (Nat.lt_of_lt_of_le (Nat.add_lt_add_right hn 300) (by decide))
    have A3 : At H H t g n := ⟨hT, Keep.refl _ _ _⟩
    have nls := noLs_map noL_encP ss
    have hss3 : ∀ s ∈ ss, SzQ 300 s := fun s hs => ⟨lt_up (hss s hs).1.1 (by decide), lt_up (hss s hs).1.2 (by decide)⟩
    refine ⟨_, (pss_cons (ps_set (i := 3) sclaw_look.nd rfl (Or.inl rfl) (pe_ix (ixL (K := K)) (pe_lst (pa_cons (pe_ix (ixT (K := K)) (pe_ix (ixL (K := K)) (pv 2) (pe_call (ok_law_draw T) (hr.mono (by decide)) (by rfl) T.g_law_draw T.F_law_draw.kp T.bb_law_draw .nil pass0 (pa_cons (pv 0) (pa_cons (pe_callB (lenK (K := K)) (by rfl) T.b_len (by decide +kernel) (pa_cons (pv 2) pa_nil)) pa_nil))) (fun _ _ => rfl)) pe_int (fun _ _ => rfl)) (pa_cons (pe_call (ok_law_draw T) (hr.mono (by decide)) (by rfl) T.g_law_draw T.F_law_draw.kp T.bb_law_draw .nil pass0 (pa_cons (pv 0) (pa_cons (pv 1) pa_nil))) pa_nil))) (pe_call (ok_law_draw T) (hr.mono (by decide)) (by rfl) T.g_law_draw T.F_law_draw.kp T.bb_law_draw .nil pass0 (pa_cons (pv 0) (pa_cons pe_int pa_nil))) (fun _ _ => rfl)))
      (pss_cons (ps_set (i := 4) sclaw_look.nd rfl (Or.inl rfl) (pe_call (ok_law_goal T) (hr.mono (by decide)) (by rfl) T.g_law_goal T.F_law_goal.kp T.bb_law_goal .nil pass0 (pa_cons (pv 1) (pa_cons (pv 2) (pa_cons (pv 3) pa_nil)))))
      (pss_cons (ps_set (i := 5) sclaw_look.nd rfl (Or.inl rfl) (pe_lst (pa_cons (pe_tup (pa_cons pe_str (pa_cons (pv 3) (pa_cons (pv 4) pa_nil)))) (pa_cons (pe_tup (pa_cons pe_str (pa_cons (pv 3) (pa_cons (pe_op op_sub (pv 4) (pe_call (ok_law_draw T) (hr.mono (by decide)) (by rfl) T.g_law_draw T.F_law_draw.kp T.bb_law_draw .nil pass0 (pa_cons (pv 0) (pa_cons pe_int pa_nil)))) pa_nil)))) (pa_cons (pe_tup (pa_cons pe_str (pa_cons (pv 3) (pa_cons (pe_op op_add (pv 4) (pe_call (ok_law_draw T) (hr.mono (by decide)) (by rfl) T.g_law_draw T.F_law_draw.kp T.bb_law_draw .nil pass0 (pa_cons (pv 0) (pa_cons pe_int pa_nil)))) pa_nil)))) pa_nil)))))
      (pss_one (ps_ret (pe_ix (ixL (K := K)) (pv 5) (pe_call (ok_law_draw T) (hr.mono (by decide)) (by rfl) T.g_law_draw T.F_law_draw.kp T.bb_law_draw .nil pass0 (pa_cons (pv 0) (pa_cons pe_int pa_nil))) (fun _ _ => rfl))))))), ?_⟩
    obtain ⟨ps, p1, p2⟩ := id lp
    have hpl : ps.length = ss.length := by rw [dpAll_len p2, List.length_map]
    refine ⟨_, rfl, _, rfl, _, rfl, p, _, rfl, .inl (SqL.of p1), t, g, n, (ps.length : Int), rfl, A3.T, by omega, Nat.lt_of_le_of_lt (by omega : ((ps.length : Int)).natAbs ≤ 50) (by decide), hb6 _ (by omega), fun H4 c c0 c1 T4 k4 => ?_⟩
    have A4 := A3.step T4 k4
    have lp4 := lp.keep A3.T k4 pt pg nls
    obtain ⟨j, rfl⟩ := Int.eq_ofNat_of_zero_le c0
    have hj : j < ps.length := by omega
    have hpj : ps[j]? = some ps[j] := List.getElem?_eq_getElem hj
    have p1' := k4 _ _ p1 pt pg
    have p2' := dpAll_tups (Keep.tups A3.T k4) _ _ nls p2
    obtain ⟨d, hdj, hdy⟩ := dpAll_get p2' hpj
    obtain ⟨s, hs, rfl⟩ := map_at hdj
    have hsm := List.mem_of_getElem? hs
    obtain ⟨sa, hsa, hsq⟩ := dp_pair hdy
    refine ⟨p, _, _, ps[j], rfl, rfl, SqL.of p1', at_of (j := j) rfl hpj, _, _, _, _, hsa, rfl, hsq, rfl, ?_⟩
    refine ⟨_, rfl, _, rfl, t, g, n + 1, L, rfl, T4, hL, lt_up hLb (by decide), hb6 _ (by omega), fun H5 r r0 r1 T5 k5 => ?_⟩
    refine ⟨(by show 2 ≤ sizeLine; decide), fun q hq => ?_⟩
    obtain ⟨qt, qg⟩ := T5.at_ne hq
    have A5 := (A4.step T5 k5).new (o := HO.lst [V.int s.1, .int r]) hq
    have Sq := same_upd (o := HO.lst [V.int s.1, .int r]) hq
    have lp5 := (lp4.keep T4 k5 pt pg nls).same Sq
    refine ⟨_, rfl, t, g, n + 2, 2, rfl, A5.T, by decide, by decide, hb6 _ (by omega), fun H6 c' c'0 c'1 T6 k6 => ?_⟩
    obtain ⟨x, hx, hx0, hx1⟩ : ∃ x : Int, atI [V.int s.1, .int r] c' = some (.int x) ∧ 0 ≤ x ∧ x < L := by
      have : c' = 0 ∨ c' = 1 := by omega
      rcases this with e | e <;> rw [e]
      · exact ⟨_, rfl, (hss s hsm).2.1, (hss s hsm).2.2⟩
      · exact ⟨_, rfl, r0, r1⟩
    refine ⟨q, _, _, _, rfl, rfl, SqL.of (k6 _ _ upd_same qt qg), hx, ?_⟩
    have A6 := A5.step T6 k6
    have lp6 := lp5.keep A5.T k6 pt pg nls
    have hxb : x.natAbs < 2 ^ 100 := by omega
    refine ⟨_, rfl, _, rfl, _, rfl, .ref p, L, x, ss, rfl, lp6.dp, hL, lt_up hLb (by decide), lt_up hxb (by decide), hs0, by omega, hss3, fun H7 S7 => ?_⟩
    have A7 := A6.sm S7
    have hnear := near_by hL hs0 (fun s hs => (hss s hs).1) x
    have hyb : (ld L ss x).natAbs < 2 ^ 108 := by
      have e : (2 : Nat) ^ 108 = 2 ^ 106 + 2 ^ 106 + 2 ^ 106 + 2 ^ 106 := by decide
      have e2 : (2 : Nat) ^ 100 ≤ 2 ^ 106 := Nat.pow_le_pow_right (by decide) (by decide)
      have hnear' : (ld L ss x - x).natAbs ≤ 2 ^ 106 + L.natAbs := hnear
      rw [e]
      generalize (2 : Nat) ^ 106 = W at e2 hnear' ⊢
      generalize (2 : Nat) ^ 100 = B at e2 hLb hxb
      omega
    have near3 : ∀ z : Int, 0 ≤ z → z < 3 → (ld L ss x - z).natAbs < 2 ^ 112 ∧ (ld L ss x + z).natAbs < 2 ^ 112 := fun z z0 z1 => by
      have e : (2 : Nat) ^ 112 = 16 * 2 ^ 108 := by decide
      have e0 : 0 < (2 : Nat) ^ 108 := Nat.two_pow_pos _
      rw [e]
      generalize (2 : Nat) ^ 108 = W at hyb e0 ⊢
      omega
    refine ⟨_, rfl, _, rfl, (by show 3 ≤ sizeLine; decide), fun a1 ha1 => ?_⟩
    obtain ⟨a1t, a1g⟩ := A7.T.at_ne ha1
    have A8 := A7.new (o := HO.tup [V.str "at", .int x, .int (ld L ss x)]) ha1
    have h1 : Dp K (upd H7 a1 (HO.tup [V.str "at", .int x, .int (ld L ss x)])) (.ref a1) (encL (("at", x, ld L ss x) : Lk)) := (fun h => .tup (SqT.of h) (.cons (.str _) (.cons (.int _) (.cons (.int _) .nil)))) upd_same
    generalize upd H7 a1 (HO.tup [V.str "at", .int x, .int (ld L ss x)]) = H8 at A8 h1 ⊢
    refine ⟨_, rfl, _, rfl, _, rfl, t, g, n + 3, 3, rfl, A8.T, by decide, by decide, hb6 _ (by omega), fun H9 s1 s10 s11 T9 k9 => ?_⟩
    have A9 := A8.step T9 k9
    have h1 := dp_tups (Keep.tups A8.T k9) _ _ (noL_encL _) h1
    refine ⟨_, _, rfl, rfl, (by show 3 ≤ sizeLine; decide), fun a2 ha2 => ?_⟩
    have S2 := same_upd (o := HO.tup [V.str "from", .int x, .int (ld L ss x - s1)]) ha2
    have A10 := A9.new (o := HO.tup [V.str "from", .int x, .int (ld L ss x - s1)]) ha2
    have h2 : Dp K (upd H9 a2 (HO.tup [V.str "from", .int x, .int (ld L ss x - s1)])) (.ref a2) (encL (("from", x, ld L ss x - s1) : Lk)) := (fun h => .tup (SqT.of h) (.cons (.str _) (.cons (.int _) (.cons (.int _) .nil)))) upd_same
    have h1 := dp_mono S2 _ _ h1
    generalize upd H9 a2 (HO.tup [V.str "from", .int x, .int (ld L ss x - s1)]) = H10 at A10 h1 h2 ⊢
    refine ⟨_, rfl, _, rfl, _, rfl, t, g, n + 4, 3, rfl, A10.T, by decide, by decide, hb6 _ (by omega), fun H11 s2 s20 s21 T11 k11 => ?_⟩
    have A11 := A10.step T11 k11
    have h1 := dp_tups (Keep.tups A10.T k11) _ _ (noL_encL _) h1
    have h2 := dp_tups (Keep.tups A10.T k11) _ _ (noL_encL _) h2
    refine ⟨_, _, rfl, rfl, (by show 3 ≤ sizeLine; decide), fun a3 ha3 => ?_⟩
    have S3 := same_upd (o := HO.tup [V.str "upto", .int x, .int (ld L ss x + s2)]) ha3
    have A12 := A11.new (o := HO.tup [V.str "upto", .int x, .int (ld L ss x + s2)]) ha3
    have h3 : Dp K (upd H11 a3 (HO.tup [V.str "upto", .int x, .int (ld L ss x + s2)])) (.ref a3) (encL (("upto", x, ld L ss x + s2) : Lk)) := (fun h => .tup (SqT.of h) (.cons (.str _) (.cons (.int _) (.cons (.int _) .nil)))) upd_same
    have h1 := dp_mono S3 _ _ h1
    have h2 := dp_mono S3 _ _ h2
    generalize upd H11 a3 (HO.tup [V.str "upto", .int x, .int (ld L ss x + s2)]) = H12 at A12 h1 h2 h3 ⊢
    refine ⟨(by show 3 ≤ sizeLine; decide), fun q3 hq3 => ?_⟩
    obtain ⟨q3t, q3g⟩ := A12.T.at_ne hq3
    have S4 := same_upd (o := HO.lst [V.ref a1, .ref a2, .ref a3]) hq3
    have A13 := A12.new (o := HO.lst [V.ref a1, .ref a2, .ref a3]) hq3
    have g3 : (upd H12 q3 (HO.lst [V.ref a1, .ref a2, .ref a3])) q3 = some (.lst [V.ref a1, .ref a2, .ref a3]) := upd_same
    have h1 := dp_mono S4 _ _ h1
    have h2 := dp_mono S4 _ _ h2
    have h3 := dp_mono S4 _ _ h3
    generalize upd H12 q3 (HO.lst [V.ref a1, .ref a2, .ref a3]) = H13 at A13 h1 h2 h3 g3 ⊢
    refine ⟨_, rfl, _, rfl, t, g, n + 5, 3, rfl, A13.T, by decide, by decide, hb6 _ (by omega), fun H14 c3 c30 c31 T14 k14 => ?_⟩
    have A14 := A13.step T14 k14
    have h1 := dp_tups (Keep.tups A13.T k14) _ _ (noL_encL _) h1
    have h2 := dp_tups (Keep.tups A13.T k14) _ _ (noL_encL _) h2
    have h3 := dp_tups (Keep.tups A13.T k14) _ _ (noL_encL _) h3
    have g3 := k14 _ _ g3 q3t q3g
    have xb : x.natAbs < 2 ^ 112 := lt_up hxb (by decide)
    have : c3 = 0 ∨ c3 = 1 ∨ c3 = 2 := by omega
    rcases this with e | e | e <;> subst e
    · exact ⟨q3, _, _, _, rfl, rfl, SqL.of g3, rfl, k _ _ ("at", x, ld L ss x) A14 h1 ⟨⟨.inl rfl, true_at, xb, lt_up hyb (by decide)⟩, hx0, hx1⟩⟩
    · exact ⟨q3, _, _, _, rfl, rfl, SqL.of g3, rfl, k _ _ ("from", x, ld L ss x - s1) A14 h2 ⟨⟨.inr (.inl rfl), true_low s10, xb, (near3 s1 s10 s11).1⟩, hx0, hx1⟩⟩
    · exact ⟨q3, _, _, _, rfl, rfl, SqL.of g3, rfl, k _ _ ("upto", x, ld L ss x + s2) A14 h3 ⟨⟨.inr (.inr rfl), true_high s20, xb, (near3 s2 s20 s21).2⟩, hx0, hx1⟩⟩
end
end KA
namespace KA
open PySem PySem.Spec PyProof.Rows L2 DP
/-! ### the first look of a ring that stands no more -/
/-- whether the look of this number stands no more -/
def goneB (lots : List (List Lk)) (rl : List Lk) (k : Nat) : Bool := match rl[k]? with
  | none => false
  | some l => !decide (l ∈ lots.getD (k % lots.length) [])
def goneL (lots : List (List Lk)) (rl : List Lk) (n : Nat) : List Int := ((List.range n).filter (goneB lots rl)).map fun k : Nat => (k : Int)
theorem goneL_succ (lots : List (List Lk)) (rl : List Lk) (n : Nat) : goneL lots rl (n + 1) = goneL lots rl n ++ (if goneB lots rl n = true then [(n : Int)] else []) := by
  unfold goneL
  rw [List.range_succ, List.filter_append, List.map_append]
  congr 1
  by_cases h : goneB lots rl n = true
  · simp [h]
  · simp [h]
theorem goneL_len (lots : List (List Lk)) (rl : List Lk) (n : Nat) : (goneL lots rl n).length ≤ n := by
  unfold goneL
  rw [List.length_map]
  exact Nat.le_trans (List.length_filter_le _ _) (by simp)
def missN (lots : List (List Lk)) (rl : List Lk) : Option Nat := (List.range rl.length).find? (goneB lots rl)
def mV : Option Nat → V
  | none => .non
  | some n => .int (n : Int)
theorem miss_head (lots : List (List Lk)) (rl : List Lk) : (missN lots rl = none ∧ goneL lots rl rl.length = []) ∨ ∃ k r, missN lots rl = some k ∧ goneL lots rl rl.length = (k : Int) :: r := by
  unfold missN goneL
  rw [← List.head?_filter]
  cases h : (List.range rl.length).filter (goneB lots rl) with
  | nil => exact .inl ⟨rfl, rfl⟩
  | cons k r => exact .inr ⟨k, r.map fun k : Nat => (k : Int), rfl, rfl⟩
def spMissing (K : PySem.W.Frag) : Sp := fun vs H Q _ => ∃ (F p : Addr) (as : List Addr) (lots : List (List Lk)) (rl : List Lk), vs = [.ref F, .ref p] ∧ SqL K H F (refs as) ∧ Lots K H as lots ∧ 0 < lots.length ∧ (∀ ls ∈ lots, ∀ l ∈ ls, WordOk l.1) ∧ LkAt K H p rl ∧ (∀ l ∈ rl, WordOk l.1) ∧ rl.length ≤ 4000 ∧
  ∀ H', Same H H' → Q (mV (missN lots rl)) H'
section
variable {P : Program} {w : World} {K : PySem.W.Frag} {mg : Str → Option Value} {base : Heap} {Z : Ad}
theorem ok_law_missing (T : Tx K w mg Z) : FnOk P w K mg base CX0 1 Z.a_law_missing Z.d_law_missing P_law_missing (spMissing K) := by
  refine T.F_law_missing.ok sclaw_missing (fun vs H Q E h => ?_) (fun cdv A outer s H vs Q E hr h => ?_)
  · obtain ⟨F, p, as, lots, rl, rfl, _⟩ := h
    rfl
  · obtain ⟨F, p, as, lots, rl, rfl, hF, hlo, h0, hwl, hp, hwr, hl, k⟩ := h
    obtain ⟨vs, p1, p2⟩ := id hp
    have hvl : vs.length = rl.length := by rw [dpAll_len p2, List.length_map]
    have hal : as.length = lots.length := hlo.1
    have hrd : ((refs as).length : Int) = (lots.length : Int) := by show ((as.map V.ref).length : Int) = _; rw [List.length_map, hal]
    refine ⟨_, (pss_cons (ps_setLc (i := 2) (own := [("k", 3)]) (g := gName 3) (tt := _) rfl sclaw_missing.nd rfl rfl (sw_true rfl rfl rfl (by decide +kernel)) (pi_range1 (by rfl) T.b_range (pa_cons (pe_callB (lenK (K := K)) (by rfl) T.b_len (by decide +kernel) (pa_cons (pv 1) pa_nil)) pa_nil)) (blkOk_by (own := [("k", 3)]) (N := N_law_missing) (sc := defScope slaw_missing) (by decide +kernel)) (fun _ _ _ _ _ => (pg_name (i := 3) sclaw_missing.nd rfl (Or.inl rfl))) (fun _ _ _ _ _ => (pts_one (pt_cmpR (notInDK (K := K) (rooms hr)) (pe_ix (ixL (K := K)) (pv 1) (pv 3) (fun _ _ => rfl)) (pe_ix (ixL (K := K)) (pv 0) (pe_op op_mod (pv 3) (pe_callB (lenK (K := K)) (by rfl) T.b_len (by decide +kernel) (pa_cons (pv 0) pa_nil))) (fun _ _ => rfl)) (by rfl)))) (fun _ _ _ _ _ => (pv 3)))
      (pss_one (ps_ret (pe_ifExp (pt_cmpR (neDK (K := K) hr.units) (pv 2) (pe_lst pa_nil) (nomark _)) (pe_ix (ixL (K := K)) (pv 2) pe_int (fun _ _ => rfl)) pe_non)))), ?_⟩
    refine ⟨_, rfl, p, _, rfl, .inl (SqL.of p1), (vs.length : Int), rfl, by omega, Int.lt_of_le_of_lt (by omega : (vs.length : Int) ≤ 4000) (by decide), fun D hD => ?_⟩
    refine lc_range (lo := 0) (n := ((vs.length : Int)).toNat) (fun i H' => Same H H' ∧ H' D = some (.lst ((goneL lots rl i).map V.int))) ⟨same_upd hD, upd_same⟩ ?_ ?_
    · rintro i H' hi ⟨S, gD⟩
      have hi' : i < rl.length := by simpa [hvl] using hi
      have hvi : vs[i]? = some (vs[i]'(by omega)) := List.getElem?_eq_getElem (by omega)
      obtain ⟨d, hdi, hdy⟩ := dpAll_get (dpAll_mono S _ _ p2) hvi
      obtain ⟨l, hl', rfl⟩ := map_at hdi
      have hwl' := hwr l (List.mem_of_getElem? hl')
      have him : i % lots.length < lots.length := Nat.mod_lt _ h0
      obtain ⟨b, hb⟩ : ∃ b, as[i % lots.length]? = some b := ⟨as[i % lots.length]'(by omega), List.getElem?_eq_getElem _⟩
      obtain ⟨ls, hls, hlk⟩ := (hlo.same S).get hb
      have els : lots.getD (i % lots.length) [] = ls := by rw [List.getD_eq_getElem?_getD, hls]; rfl
      have hwls := hwl ls (List.mem_of_getElem? hls)
      have hgl := goneL_len lots rl i
      refine ⟨rfl, ?_⟩
      refine ⟨_, rfl, _, rfl, p, _, _, _, rfl, rfl, SqL.of (S _ _ p1), at_of (j := i) (by simp) hvi, ?_⟩
      refine ⟨_, rfl, _, rfl, _, rfl, F, _, rfl, .inl (Same.sqL S hF), _, _, rfl, rfl, (by rw [hrd]; omega), F, _, _, .ref b, rfl, rfl, Same.sqL S hF, ?_, encL l, ls.map encL, hdy, hlk.dp, shaped_look hwl', shaped_looks hwls, _, rfl, ?_⟩
      · refine at_of (j := i % lots.length) (by rw [hrd]; simp) ?_
        show (as.map V.ref)[_]? = _
        rw [List.getElem?_map, hb]; rfl
      · rw [any_look, goneL_succ]
        have eg : goneB lots rl i = !decide (l ∈ ls) := by
          unfold goneB
          rw [hl', els]
        rw [eg]
        by_cases hin : l ∈ ls
        · have e : (!decide (l ∈ ls)) = false := by simp [hin]
          rw [e]
          exact iteF ⟨S, by simpa using gD⟩
        · have e : (!decide (l ∈ ls)) = true := by simp [hin]
          rw [e]
          refine iteT ⟨_, rfl, _, gD, Nat.lt_of_le_of_lt (by rw [List.length_map]; omega : _ ≤ 4000) (by decide), same_set S hD, ?_⟩
          have e0 : (0 : Int) + (i : Nat) = (i : Nat) := Int.zero_add _
          rw [e0, if_pos rfl, List.map_append]
          exact upd_same
    rintro H1 ⟨S, gD⟩
    have el : ((vs.length : Int)).toNat = rl.length := by rw [hvl]; simp
    rw [el] at gD
    refine ⟨_, rfl, (by show 0 ≤ sizeLine; decide), fun e0 he0 => ?_⟩
    have Se := same_upd (o := HO.lst ([] : List V)) he0
    rcases miss_head lots rl with ⟨e1, e2⟩ | ⟨m, r, e1, e2⟩
    · rw [e2] at gD
      rw [e1] at k
      refine ⟨.list [], .list [], .lst (SqL.of (Se _ _ gD)) .nil, .lst (SqL.of upd_same) .nil, rfl, rfl, _, rfl, iteF (k _ (S.trans Se))⟩
    · rw [e2] at gD
      rw [e1] at k
      refine ⟨.list (((m : Int) :: r).map PyData.int), .list [], .lst (SqL.of (Se _ _ gD)) (dpAll_ints _), .lst (SqL.of upd_same) .nil, shaped_ints _, rfl, _, rfl, iteT ⟨_, rfl, D, _, _, .int (m : Int), rfl, rfl, SqL.of (Se _ _ gD), at_of (j := 0) rfl rfl, k _ (S.trans Se)⟩⟩
end
end KA
namespace KA
open PySem PySem.Spec PyProof.Rows L2 DP
/-! ### a ring judged: its pace, or the number that it is refused with -/
def judD (sd : Str) (L : Int) (hs : List (List Lk)) (rl : List Lk) : PyData := match ringRef sd hs rl with
  | none => encP (lowT (cyc (gap sd L) rl) ((rl.length / hs.length : Nat) : Int))
  | some w => dU w
def spJudged (Z : Ad) (K : PySem.W.Frag) : Sp := fun vs H Q _ => ∃ (hp rp : Addr) (ds : List Addr) (sd : Str) (L : Int) (hs : List (List Lk)) (rl : List Lk), vs = [.ref hp, .str sd, .ref rp] ∧ SqL K H hp (refs ds) ∧ Darks Z K H ds L hs ∧ 0 < ds.length ∧ ds.length ≤ 60 ∧ SideOk sd ∧ Dp K H (.ref rp) (.list (rl.map encL)) ∧ (∀ l ∈ rl, WordOk l.1) ∧ rl.length ≤ 10000 ∧
  ∀ H' r, Same H H' → Dp K H' r (judD sd L hs rl) → Q r H'
section
variable {P : Program} {w : World} {K : PySem.W.Frag} {mg : Str → Option Value} {base : Heap} {Z : Ad} {Y : AdX}
theorem ok_law_judged (T : Tx K w mg Z) (X : Ex P K mg Y) : FnOk P w K mg base CX0 6 Z.a_law_judged Z.d_law_judged P_law_judged (spJudged Z K) := by
  refine T.F_law_judged.ok sclaw_judged (fun vs H Q E h => ?_) (fun cdv A outer s H vs Q E hr h => ?_)
  · obtain ⟨hp, rp, ds, sd, L, hs, rl, rfl, _⟩ := h
    rfl
  · obtain ⟨hp, rp, ds, sd, L, hs, rl, rfl, hh, hD, hd0, hd1, hsd, hrl, hw, hl, k⟩ := h
    refine ⟨_, (pss_cons (ps_set (i := 3) sclaw_judged.nd rfl (Or.inl rfl) pe_non)
      (pss_cons (EK.ps_try_keep (i := 4) (tb := fun W => tAsg (tCallS (spRingPaceJ Z K Y) (WE W) (tCons (tVar 0) (tCons (tVar 1) (tCons (tVar 2) tNil)))) (gName 3)) (Wout := fun _ _ _ _ => False) rfl rfl rfl sclaw_judged.nd rfl rfl ⟨rfl, by decide, Or.inl X.g_NoRing⟩ takes0
        (fun W pn xe tk _ => (pss_one (ps_set (i := 3) sclaw_judged.nd rfl (Or.inl rfl) (pe_callS (okX_ring_pace T X) (hr.mono (by decide)) (by rfl) T.g_ring_pace T.F_ring_pace.kp T.bb_ring_pace (fun σ => passAt tk σ) (pa_cons (pv 0) (pa_cons (pv 1) (pa_cons (pv 2) pa_nil)))))))
        (fun _ _ => (pss_one (ps_set (i := 3) sclaw_judged.nd rfl (Or.inl rfl) (EK.pe_exf (K := K) (pv 4))))))
      (pss_one (ps_ret (pv 3))))), ?_⟩
    have hds : ds.length = hs.length := hD.1
    cases e : ringRef sd hs rl with
    | none =>
      obtain ⟨h0, hm, hon⟩ := ringRef_none e
      have hq := Nat.div_add_mod rl.length hs.length
      rw [hm, Nat.add_zero] at hq
      have hqp : 0 < rl.length / hs.length := by
        refine Nat.pos_of_ne_zero fun z => ?_
        rw [z, Nat.mul_zero] at hq; omega
      refine ⟨_, rfl, _, rfl, _, rfl, .inr ⟨hp, rp, ds, sd, L, hs, rl, rl.length / hs.length, rfl, hh, hD, hd0, hd1, hsd, hrl, by rw [Nat.mul_comm]; exact hq.symm, hqp, hl, hon, fun H' r S d => ?_⟩⟩
      refine ⟨_, rfl, k H' r S ?_⟩
      unfold judD
      rw [e]
      exact d
    | some w0 =>
      refine ⟨_, rfl, _, rfl, _, rfl, .inl ⟨hp, rp, ds, sd, L, hs, rl, w0, rfl, hh, hD, hd0, hd1, hsd, hrl, hw, e, fun dd H1 S1 hd hdn => ⟨true, X.m_NoRing, fun _ a ha => ?_, fun q => Bool.noConfusion q⟩⟩⟩
      have S2 := same_upd (o := EK.ExV (.ref Y.c_NoRing) (some dd) a) ha
      have hh2 : EK.Held K (upd H1 a (EK.ExV (.ref Y.c_NoRing) (some dd) a)) a Y.c_NoRing [(("what" : Str), uV w0)] := ⟨dd, upd_same, S2 _ _ hd, X.x_NoRing⟩
      have S12 := S1.trans S2
      generalize upd H1 a (EK.ExV (.ref Y.c_NoRing) (some dd) a) = H2 at hh2 S12 ⊢
      refine ⟨_, rfl, a, Y.c_NoRing, _, _, rfl, hh2, X.x_NoRing.what, rfl, ?_⟩
      refine ⟨_, rfl, k H2 _ S12 ?_⟩
      unfold judD
      rw [e]
      exact dp_uV w0
end
end KA
namespace KA
open PySem PySem.Spec PyProof.Rows L2 DP
/-! ### rings that were told ahead -/
abbrev OldE := Str × List Lk × Pr
structure Old (L : Int) (n : Nat) (e : OldE) : Prop where
  sd : SideOk e.1
  ne : 0 < e.2.1.length
  len : e.2.1.length % n = 0
  on : ∀ l ∈ e.2.1, WordOk l.1 ∧ onSide e.1 l.1 = true
  small : e.2.1.length ≤ 4000
  pace : lowT (cyc (gap e.1 L) e.2.1) ((e.2.1.length / n : Nat) : Int) = e.2.2
inductive OldsD (K : PySem.W.Frag) (H : Hp) (S : Addr → Prop) : List V → List OldE → Prop
  | nil : OldsD K H S [] []
  | cons {tp p : Addr} {pv : V} {sd : Str} {rl : List Lk} {pr : Pr} {vs : List V} {es : List OldE} : ¬ S tp → ¬ S p → H tp = some (.tup [.str sd, .ref p, pv]) → LkAt K H p rl → Dp K H pv (encP pr) → OldsD K H S vs es → OldsD K H S (.ref tp :: vs) ((sd, rl, pr) :: es)
/-- all but the list of the old ones stands -/
def ButO (O : Addr) (H H' : Hp) : Prop := ∀ b o, H b = some o → b ≠ O → H' b = some o
theorem ButO.trans {O : Addr} {H H1 H2 : Hp} (a : ButO O H H1) (b : ButO O H1 H2) : ButO O H H2 := fun c o e h => b c o (a c o e h) h
theorem ButO.of {O : Addr} {H H' : Hp} (S : Same H H') : ButO O H H' := fun b o e _ => S b o e
theorem ButO.tups {O : Addr} {H H' : Hp} {xs : List V} (k : ButO O H H') (h : H O = some (.lst xs)) : Tups H H' := fun c zs hc => by
  have hcb : c ≠ O := by
    rintro rfl
    rcases hc with e | ⟨q, e⟩ <;> rw [h] at e <;> cases e
  rcases hc with e | ⟨q, e⟩
  · exact .inl (k _ _ e hcb)
  · exact .inr ⟨q, k _ _ e hcb⟩
theorem noL_encP1 (p : Pr) : noL (encP p) = true := rfl
theorem OldsD.but {K : PySem.W.Frag} {H H' : Hp} {S : Addr → Prop} {O : Addr} {xs : List V} (hO : S O) (k : ButO O H H') (h : H O = some (.lst xs)) : ∀ {vs : List V} {es : List OldE}, OldsD K H S vs es → OldsD K H' S vs es
  | _, _, .nil => .nil
  | _, _, .cons n1 n2 g l d r => .cons n1 n2 (k _ _ g fun e => n1 (by rw [e]; exact hO)) (l.to (k.tups h) fun o e => k _ _ e fun e => n2 (by rw [e]; exact hO)) (dp_tups (k.tups h) _ _ rfl d) (r.but hO k h)
theorem OldsD.snoc {K : PySem.W.Frag} {H : Hp} {S : Addr → Prop} {tp p : Addr} {pv : V} {sd : Str} {rl : List Lk} {pr : Pr} (n1 : ¬ S tp) (n2 : ¬ S p) (g : H tp = some (.tup [.str sd, .ref p, pv])) (l : LkAt K H p rl) (d : Dp K H pv (encP pr)) : ∀ {vs : List V} {es : List OldE}, OldsD K H S vs es → OldsD K H S (vs ++ [.ref tp]) (es ++ [(sd, rl, pr)])
  | _, _, .nil => .cons n1 n2 g l d .nil
  | _, _, .cons a b c e f r => .cons a b c e f (r.snoc n1 n2 g l d)
theorem OldsD.length {K : PySem.W.Frag} {H : Hp} {S : Addr → Prop} : ∀ {vs : List V} {es : List OldE}, OldsD K H S vs es → vs.length = es.length
  | _, _, .nil => rfl
  | _, _, .cons _ _ _ _ _ r => by simp [r.length]
theorem OldsD.at {K : PySem.W.Frag} {H : Hp} {S : Addr → Prop} : ∀ {vs : List V} {es : List OldE} {i : Nat} {y : V}, OldsD K H S vs es → vs[i]? = some y → ∃ (tp p : Addr) (pv : V) (sd : Str) (rl : List Lk) (pr : Pr), es[i]? = some (sd, rl, pr) ∧ y = .ref tp ∧ H tp = some (.tup [.str sd, .ref p, pv]) ∧ LkAt K H p rl ∧ Dp K H pv (encP pr)
  | _, _, i, y, .nil, e => by simp at e
  | _, _, 0, y, .cons (tp := tp) (p := p) (pv := pv) (sd := sd) (rl := rl) (pr := pr) _ _ g l d r, e => ⟨tp, p, pv, sd, rl, pr, rfl, (Option.some.inj e).symm, g, l, d⟩
  | _, _, i + 1, y, .cons _ _ _ _ _ r, e => by
    obtain ⟨tp, p, pv, sd, rl, pr, q⟩ := r.at (i := i) (y := y) (by simpa using e)
    exact ⟨tp, p, pv, sd, rl, pr, by simpa using q⟩
theorem darks_but {Z : Ad} {K : PySem.W.Frag} {H H' : Hp} {O : Addr} {xs : List V} {ds : List Addr} {L : Int} {hs : List (List Lk)} (D : Darks Z K H ds L hs) (off : ∀ d ∈ ds, Off Z H d L O O) (k : ButO O H H') (h : H O = some (.lst xs)) : Darks Z K H' ds L hs ∧ ∀ d ∈ ds, Off Z H' d L O O := by
  have one : ∀ {d ls}, d ∈ ds → DarkAt Z K H d L ls → DarkAt Z K H' d L ls ∧ Off Z H' d L O O := fun {d ls} hd DD => by
    obtain ⟨dx, la, vs, h1, h2, h3⟩ := DD.ex
    have hla := (off d hd la dx h1).1
    have hdO : d ≠ O := fun z => by rw [z, h] at h1; cases h1
    have h1' := k _ _ h1 hdO
    refine ⟨⟨⟨dx, la, vs, h1', k _ _ h2 hla, dpAll_tups (k.tups h) _ _ (noLs_map noL_encL _) h3⟩, DD.pos, DD.big, DD.ok, DD.len⟩, fun la2 dx2 e => ?_⟩
    rw [h1'] at e
    rw [← df_inj e]
    exact ⟨hla, hla⟩
  refine ⟨⟨D.1, fun i d ls e1 e2 => (one (List.mem_of_getElem? e1) (D.2 i d ls e1 e2)).1⟩, fun d hd => ?_⟩
  obtain ⟨ls, DD⟩ := D.mem hd
  exact (one hd DD).2
theorem find_congr {α : Type} {p q : α → Bool} : ∀ {l : List α}, (∀ x ∈ l, p x = q x) → l.find? p = l.find? q
  | [], _ => rfl
  | a :: r, h => by
    rw [List.find?_cons, List.find?_cons, h a (by simp), find_congr fun x hx => h x (by simp [hx])]
theorem getD_side (sd : Str) (hs : List (List Lk)) (j : Nat) : (hs.map (sideOf sd)).getD j [] = sideOf sd (hs.getD j []) := by
  rw [List.getD_eq_getElem?_getD, List.getElem?_map, List.getD_eq_getElem?_getD]
  cases hs[j]? <;> rfl
/-- a ring of the right side is refused just with the first look that stands no more -/
theorem ring_miss {L : Int} {hs lots : List (List Lk)} (hl : hs.length = lots.length) (hm : ∀ j l, l ∈ hs.getD j [] ↔ l ∈ lots.getD j []) {sd : Str} {rl : List Lk} {pr : Pr} (o : Old L hs.length (sd, rl, pr)) : ringRef sd hs rl = (missN lots rl).map some := by
  unfold ringRef missN
  have h1 : rl ≠ [] := List.length_pos_iff.mp o.ne
  rw [if_neg (fun c => c.elim h1 fun e => e o.len)]
  congr 1
  refine find_congr fun i hi => ?_
  have hi' := List.mem_range.mp hi
  have e : rl[i]? = some rl[i] := List.getElem?_eq_getElem hi'
  rw [getD_of e, getD_side, hl]
  unfold goneB
  rw [e]
  have hon := (o.on rl[i] (List.getElem_mem hi')).2
  have : (rl[i] ∈ sideOf sd (hs.getD (i % lots.length) [])) ↔ rl[i] ∈ lots.getD (i % lots.length) [] := by
    rw [mem_side, hm]
    exact ⟨fun h => h.1, fun h => ⟨h, hon⟩⟩
  show (!decide _) = !decide _
  rw [decide_eq_decide.mpr this]
/-- what an old ring is judged with -/
theorem old_jud {L : Int} {hs lots : List (List Lk)} (hl : hs.length = lots.length) (hm : ∀ j l, l ∈ hs.getD j [] ↔ l ∈ lots.getD j []) {sd : Str} {rl : List Lk} {pr : Pr} (o : Old L hs.length (sd, rl, pr)) : judD sd L hs rl = match missN lots rl with
    | none => encP pr
    | some k => .int (k : Int) := by
  unfold judD
  rw [ring_miss hl hm o]
  cases h : missN lots rl with
  | none =>
    show encP (lowT (cyc (gap sd L) rl) ((rl.length / hs.length : Nat) : Int)) = encP pr
    exact congrArg encP o.pace
  | some k => rfl
end KA
namespace KA
open PySem PySem.Spec PyProof.Rows L2 DP
theorem lowT_cop {pr : Pr} (h : Int.gcd pr.1 pr.2 = 1) : lowT pr.1 pr.2 = pr := by
  unfold lowT
  rw [h]
  show (pr.1 / 1, pr.2 / 1) = pr
  rw [Int.ediv_one, Int.ediv_one]
/-- a ring that was told -/
theorem told_old {sd : Str} {L : Int} {hs : List (List Lk)} (hsd : SideOk sd) (hn : 0 < hs.length) (hw : ∀ ls ∈ hs, ∀ l ∈ ls, WordOk l.1) {pr : Pr} {rl : List Lk} (P : PaceOf L (rf sd L (hs.map (sideOf sd))) pr) (R : RingIs sd L (hs.map (sideOf sd)) pr rl) (hl : rl.length < 4000) : Old L hs.length (sd, rl, pr) := by
  have hlen := R.lenL
  have hp := P.pos
  refine ⟨hsd, ?_, ?_, fun l hl' => ?_, Nat.le_of_lt hl, ?_⟩
  · show 0 < rl.length
    rw [hlen]; exact Nat.mul_pos (by omega) hn
  · show rl.length % hs.length = 0
    rw [hlen]; exact Nat.mul_mod_left _ _
  · obtain ⟨i, hi, e⟩ := List.getElem_of_mem hl'
    have e' : rl[i]? = some l := by rw [List.getElem?_eq_getElem hi, e]
    have h := R.onL i l e'
    rw [getD_side, mem_side] at h
    refine ⟨?_, h.2⟩
    have h1 := h.1
    rw [List.getD_eq_getElem?_getD] at h1
    cases c : hs[i % hs.length]? with
    | none => rw [c] at h1; cases h1
    | some ls => rw [c] at h1; exact hw ls (List.mem_of_getElem? c) l h1
  · show lowT (cyc (gap sd L) rl) ((rl.length / hs.length : Nat) : Int) = pr
    rw [R.sum, hlen, Nat.mul_div_cancel _ hn]
    have : ((pr.2.toNat : Nat) : Int) = pr.2 := by omega
    rw [this]
    exact lowT_cop P.cop
theorem told_there {sd : Str} {L : Int} {hs lots : List (List Lk)} (hl : hs.length = lots.length) (hm : ∀ j l, l ∈ hs.getD j [] ↔ l ∈ lots.getD j []) {pr : Pr} {rl : List Lk} (R : RingIs sd L (hs.map (sideOf sd)) pr rl) : missN lots rl = none := by
  unfold missN
  rw [List.find?_eq_none]
  intro i hi
  have hi' := List.mem_range.mp hi
  have e : rl[i]? = some rl[i] := List.getElem?_eq_getElem hi'
  have h := R.onL i rl[i] e
  rw [getD_side, mem_side, hm, hl] at h
  unfold goneB
  rw [e]
  show ¬ ((!decide (rl[i] ∈ lots.getD (i % lots.length) [])) = true)
  rw [decide_eq_true h.1]
  decide
theorem shaped_encP1 (p : Pr) : SeqAt.shaped (encP p) = true := shaped_encO (some p)
def spRingsR (Z : Ad) (K : PySem.W.Frag) : Sp := fun vs H Q _ => ∃ (hp F O : Addr) (S : Addr → Prop) (ds as : List Addr) (L : Int) (hs lots : List (List Lk)) (ov : List V) (es : List OldE), vs = [.ref hp, .ref F, .ref O] ∧ S O ∧ (∀ b, S b → H b ≠ none) ∧ H hp = some (.lst (refs ds)) ∧ hp ≠ O ∧ Darks Z K H ds L hs ∧ (∀ d ∈ ds, Off Z H d L O O) ∧ 0 < ds.length ∧ ds.length ≤ 60 ∧ H F = some (.lst (refs as)) ∧ F ≠ O ∧ Lots K H as lots ∧ (∀ a ∈ as, a ≠ O) ∧ hs.length = lots.length ∧ (∀ j l, l ∈ hs.getD j [] ↔ l ∈ lots.getD j []) ∧ (∀ ls ∈ hs, heardAll L ls = ls) ∧ (∀ ls ∈ lots, ∀ l ∈ ls, WordOk l.1) ∧ H O = some (.lst ov) ∧ OldsD K H S ov es ∧ (∀ e ∈ es, Old L hs.length e) ∧ es.length ≤ 100 ∧
  ∀ H' ov' es', ButO O H H' → H' O = some (.lst ov') → OldsD K H' S ov' es' → (∀ e ∈ es', Old L hs.length e) → es'.length ≤ es.length + 2 → Q (.bl true) H'
section
variable {P : Program} {w : World} {K : PySem.W.Frag} {mg : Str → Option Value} {base : Heap} {Z : Ad} {Y : AdX}
theorem ok_law_rings_right (T : Tx K w mg Z) (X : Ex P K mg Y) : FnOk P w K mg base CX0 9 Z.a_law_rings_right Z.d_law_rings_right P_law_rings_right (spRingsR Z K) := by
  refine T.F_law_rings_right.ok sclaw_rings_right (fun vs H Q E h => ?_) (fun cdv A outer s H vs Q E hr h => ?_)
  · obtain ⟨hp, F, O, S, ds, as, L, hs, lots, ov, es, rfl, _⟩ := h
    rfl
  · obtain ⟨hp, F, O, S, ds, as, L, hs, lots, ov, es, rfl, hSO, hSn, ghp, hpO, hD, off, hd0, hd1, gF, FO, lo, aO, hln, hm, hid, hwl, gO, od, hold, hel, k⟩ := h
    have ehs : hs.map (heardAll L) = hs := by
      conv => rhs; rw [← List.map_id hs]
      exact List.map_congr_left fun ls hls => hid ls hls
    have hds : ds.length = hs.length := hD.1
    obtain ⟨d0, hd00⟩ : ∃ d0, ds[0]? = some d0 := ⟨ds[0], List.getElem?_eq_getElem hd0⟩
    obtain ⟨ls0, hls0, D0⟩ := hD.get hd00
    have hL := D0.pos
    have hwh : ∀ ls ∈ hs, ∀ l ∈ ls, WordOk l.1 := fun ls hls l hl => by
      obtain ⟨j, hj, e⟩ := List.getElem_of_mem hls
      have h1 : l ∈ hs.getD j [] := by rw [List.getD_eq_getElem?_getD, List.getElem?_eq_getElem hj, e]; exact hl
      have h2 := (hm j l).mp h1
      rw [List.getD_eq_getElem?_getD] at h2
      cases c : lots[j]? with
      | none => rw [c] at h2; cases h2
      | some ks => rw [c] at h2; exact hwl ks (List.mem_of_getElem? c) l h2
    have up : ∀ {H' : Hp}, ButO O H H' → H' hp = some (.lst (refs ds)) ∧ Darks Z K H' ds L hs ∧ H' F = some (.lst (refs as)) ∧ Lots K H' as lots := fun {H'} b =>
      ⟨b _ _ ghp hpO, (darks_but hD off b gO).1, b _ _ gF FO, lo.to (b.tups gO) fun a ha o e => b _ _ e (aO a ha)⟩
    refine ⟨_, (pss_cons (ps_set (i := 3) sclaw_rings_right.nd rfl (Or.inl rfl) (pe_call (ok_paces T) (hr.mono (by decide)) (by rfl) T.g_paces T.F_paces.kp T.bb_paces .nil pass0 (pa_cons (pv 0) pa_nil)))
      (pss_cons (ps_for PassesOwn.never rfl (pi_range1 (by rfl) T.b_range (pa_cons pe_int pa_nil)) (pg_name (i := 4) sclaw_rings_right.nd rfl (Or.inl rfl)) (pss_cons (ps_set (i := 5) sclaw_rings_right.nd rfl (Or.inl rfl) (pe_ix (ixL (K := K)) (pe_lst (pa_cons pe_str (pa_cons pe_str pa_nil))) (pv 4) (fun _ _ => rfl)))
      (pss_cons (ps_set (i := 6) sclaw_rings_right.nd rfl (Or.inl rfl) (pe_call (ok_ring T) (hr.mono (by decide)) (by rfl) T.g_ring T.F_ring.kp T.bb_ring .nil pass0 (pa_cons (pv 0) (pa_cons (pv 5) pa_nil))))
      (C8.pss_cut (ps_if (pt_cmpR (neDK (K := K) hr.units) (pe_cmpR op_isN (pv 6) pe_non (nomark _)) (pe_cmpR op_isN (pe_ix (ixT (K := K)) (pv 3) (pv 4) (fun _ _ => rfl)) pe_non (nomark _)) (nomark _)) (pss_one (ps_ret pe_bl)) pss_nil)
      (pss_one (ps_if (pt_cmpR op_notN (pv 6) pe_non (nomark _)) (C8.pss_cut (ps_if (PW.pt (pw_or (pt_cmpR op_notN (pe_call (ok_law_missing T) (hr.mono (by decide)) (by rfl) T.g_law_missing T.F_law_missing.kp T.bb_law_missing .nil pass0 (pa_cons (pv 1) (pa_cons (pv 6) pa_nil))) pe_non (nomark _)) (pw_or1 (pt_cmpR (neDK (K := K) hr.units) (pe_call (ok_law_judged T X) (hr.mono (by decide)) (by rfl) T.g_law_judged T.F_law_judged.kp T.bb_law_judged .nil pass0 (pa_cons (pv 0) (pa_cons (pv 5) (pa_cons (pv 6) pa_nil)))) (pe_ix (ixT (K := K)) (pv 3) (pv 4) (fun _ _ => rfl)) (nomark _))))) (pss_one (ps_ret pe_bl)) pss_nil)
      (pss_one (ps_expr (pe_bm PySem.F.plainAttrs_list PySem.F.slot_list_append PySem.F.type_list_append mt_append (pv 2) (pa_cons (pe_tup (pa_cons (pv 5) (pa_cons (pv 6) (pa_cons (pe_ix (ixT (K := K)) (pv 3) (pv 4) (fun _ _ => rfl)) pa_nil)))) pa_nil))))) pss_nil))))))
      (pss_cons (ps_for PassesOwn.never rfl (pi_list (pv 2)) (tupK (K := K) (by rfl) (pgs_cons (pg_name (i := 5) sclaw_rings_right.nd rfl (Or.inl rfl)) (pgs_cons (pg_name (i := 6) sclaw_rings_right.nd rfl (Or.inl rfl)) (pgs_cons (pg_name (i := 7) sclaw_rings_right.nd rfl (Or.inl rfl)) pgs_nil)))) (pss_cons (ps_set (i := 8) sclaw_rings_right.nd rfl (Or.inl rfl) (pe_call (ok_law_missing T) (hr.mono (by decide)) (by rfl) T.g_law_missing T.F_law_missing.kp T.bb_law_missing .nil pass0 (pa_cons (pv 1) (pa_cons (pv 6) pa_nil))))
      (pss_one (ps_if (pt_cmpR (neDK (K := K) hr.units) (pe_call (ok_law_judged T X) (hr.mono (by decide)) (by rfl) T.g_law_judged T.F_law_judged.kp T.bb_law_judged .nil pass0 (pa_cons (pv 0) (pa_cons (pv 5) (pa_cons (pv 6) pa_nil)))) (pe_ifExp (pt_cmpR op_isN (pv 8) pe_non (nomark _)) (pv 7) (pv 8)) (nomark _)) (pss_one (ps_ret pe_bl)) pss_nil))))
      (pss_one (ps_ret pe_bl))))), ?_⟩
    refine ⟨_, rfl, hp, ds, L, hs, rfl, SqL.of ghp, by rw [ehs]; exact hD, hd0, hd1, fun H1 v1 o1 o2 S1 h1 P1 P2 => ?_⟩
    refine ⟨2, rfl, by decide, by decide, ?_⟩
    refine for_range (lo := 0) (n := 2) (fun i σ' H' => ∃ (u4 u5 u6 u7 u8 : Option V) (ov' : List V) (es' : List OldE), σ' = [some (.ref hp), some (.ref F), some (.ref O), some v1, u4, u5, u6, u7, u8] ∧ ButO O H H' ∧ H' O = some (.lst ov') ∧ OldsD K H' S ov' es' ∧ (∀ e ∈ es', Old L hs.length e) ∧ es'.length ≤ es.length + i ∧ Dp K H' v1 (encPs o1 o2))
      ⟨_, _, _, _, _, ov, es, rfl, ButO.of S1, S1 _ _ gO, od.but hSO (ButO.of S1) gO, hold, by omega, h1⟩ ?_ ?_
    · rintro i σ' H2 hi ⟨u4, u5, u6, u7, u8, ov2, es2, rfl, B2, gO2, od2, hold2, hel2, hv2⟩
      obtain ⟨ghp2, hD2, gF2, lo2⟩ := up B2
      have hov2 : ov2.length = es2.length := od2.length
      obtain ⟨sd, o, hsd, hat, PI, hend⟩ : ∃ (sd : Str) (o : Option Pr), SideOk sd ∧ atI [V.str "slow", .str "fast"] (0 + (i : Nat)) = some (.str sd) ∧ PaceIs sd L (hs.map (sideOf sd)) o ∧ ∀ (H' : Hp) (x y : V), Dp K H' x (encO o1) → Dp K H' y (encO o2) → ∃ z, atI [x, y] (0 + (i : Nat)) = some z ∧ Dp K H' z (encO o) := by
        have : i = 0 ∨ i = 1 := by omega
        rcases this with rfl | rfl
        · exact ⟨"slow", o1, .inl rfl, rfl, P1, fun H' x y a b => ⟨x, rfl, a⟩⟩
        · exact ⟨"fast", o2, .inr rfl, rfl, P2, fun H' x y a b => ⟨y, rfl, b⟩⟩
      refine ⟨(by show 2 ≤ sizeLine; decide), fun q hq => ?_⟩
      have Sq := same_upd (o := HO.lst [V.str "slow", .str "fast"]) hq
      refine ⟨_, rfl, q, _, _, .str sd, rfl, rfl, SqL.of upd_same, hat, ?_⟩
      generalize upd H2 q (HO.lst [V.str "slow", .str "fast"]) = H3 at Sq ⊢
      refine ⟨_, rfl, _, rfl, hp, ds, sd, L, hs, rfl, SqL.of (Sq _ _ ghp2), hD2.same Sq, hd0, hd1, hsd, fun H4 S4 hnf => ?_, fun H4 p xs rl pr S4 hpn gp dpp hfil PP RI hl4 => ?_⟩
      · have S24 := Sq.trans S4
        obtain ⟨a, x, y, rfl, hsq, dx, dy⟩ := dp_encPs (dp_mono S24 _ _ hv2)
        obtain ⟨z, hz, dz⟩ := hend H4 x y dx dy
        have eo : o = none := PI.1 hnf
        rw [eo] at dz
        have dz' : Dp K H4 z .none := dz
        cases dz'
        refine ⟨fun σ' H' => σ' = [some (.ref hp), some (.ref F), some (.ref O), some (.ref a), some (.int (0 + (i : Nat))), some (.str sd), some .non, u7, u8] ∧ H' = H4, ?_, ?_⟩
        · exact ⟨_, rfl, rfl, _, rfl, _, rfl, a, _, _, _, rfl, rfl, hsq, hz, rfl, .bool true, .bool true, .bl _, .bl _, rfl, rfl, _, rfl, iteF ⟨rfl, rfl⟩⟩
        rintro σ5 H5 ⟨rfl, rfl⟩
        refine ⟨_, rfl, rfl, _, rfl, iteF ⟨_, _, _, _, _, ov2, es2, rfl, B2.trans (ButO.of S24), S24 _ _ gO2, od2.but hSO (ButO.of S24) gO2, hold2, by omega, dp_mono S24 _ _ hv2⟩⟩
      · have S24 := Sq.trans S4
        obtain ⟨a, x, y, rfl, hsq, dx, dy⟩ := dp_encPs (dp_mono S24 _ _ hv2)
        obtain ⟨z, hz, dz⟩ := hend H4 x y dx dy
        obtain ⟨pr', eo, PP', _⟩ := PI.2 hfil
        have epr : pr' = pr := PP'.one hL (rf_hand hsd hL hfil) PP
        rw [eo, epr] at dz
        have dz' : Dp K H4 z (encP pr) := dz
        obtain ⟨za, ez, _⟩ := dp_pair dz'
        have ol := told_old hsd (by omega) hwh PP RI hl4
        have hms := told_there hln hm RI
        have hju := old_jud hln hm ol
        rw [hms] at hju
        have hlk : LkAt K H4 p rl := ⟨xs, gp, dpp⟩
        have hwr : ∀ l ∈ rl, WordOk l.1 := fun l h => (ol.on l h).1
        refine ⟨fun σ' H' => σ' = [some (.ref hp), some (.ref F), some (.ref O), some (.ref a), some (.int (0 + (i : Nat))), some (.str sd), some (.ref p), u7, u8] ∧ H' = H4, ?_, ?_⟩
        · rw [ez] at hz
          exact ⟨_, rfl, rfl, _, rfl, _, rfl, a, _, _, _, rfl, rfl, hsq, hz, rfl, .bool false, .bool false, .bl _, .bl _, rfl, rfl, _, rfl, iteF ⟨rfl, rfl⟩⟩
        rintro σ5 H5 ⟨rfl, rfl⟩
        refine ⟨_, rfl, rfl, _, rfl, iteT ?_⟩
        refine ⟨fun σ' H' => σ' = [some (.ref hp), some (.ref F), some (.ref O), some (.ref a), some (.int (0 + (i : Nat))), some (.str sd), some (.ref p), u7, u8] ∧ Same H5 H', ?_, ?_⟩
        · refine ⟨_, rfl, _, rfl, F, p, as, lots, rl, rfl, SqL.of (S24 _ _ gF2), lo2.same S24, by omega, hwl, hlk, hwr, by omega, fun H6 S6 => ?_⟩
          rw [hms]
          refine ⟨rfl, _, rfl, iteF ?_⟩
          have S26 := S24.trans S6
          refine ⟨_, rfl, _, rfl, _, rfl, hp, p, ds, sd, L, hs, rl, rfl, SqL.of (S26 _ _ ghp2), hD2.same S26, hd0, hd1, hsd, (hlk.same S6).dp, hwr, by omega, fun H7 r S7 d7 => ?_⟩
          rw [hju] at d7
          have S67 := S6.trans S7
          refine ⟨_, rfl, _, rfl, a, _, _, _, rfl, rfl, Same.sqT S67 hsq, hz, encP pr, encP pr, d7, dp_mono S67 _ _ dz', shaped_encP1 _, shaped_encP1 _, _, rfl, ?_⟩
          rw [SeqAt.eqv_refl _ (SeqAt.canLay_of_shaped (shaped_encP1 pr))]
          exact iteF ⟨rfl, S67⟩
        rintro σ6 H6 ⟨rfl, S6⟩
        have S26 := S24.trans S6
        have gO6 := S26 _ _ gO2
        have od6 := od2.but hSO (ButO.of S26) gO2
        refine ⟨_, rfl, .inl ⟨rfl, _, SqL.of gO6⟩, _, rfl, _, rfl, _, rfl, _, rfl, a, _, _, _, rfl, rfl, Same.sqT S6 hsq, hz, (by show 3 ≤ sizeLine; decide), fun tp htp => ?_⟩
        have St := same_upd (o := HO.tup [V.str sd, .ref p, z]) htp
        have gt : (upd H6 tp (HO.tup [V.str sd, .ref p, z])) tp = some (.tup [V.str sd, .ref p, z]) := upd_same
        have dz7 := dp_mono (S6.trans St) _ _ dz'
        have hlk7 := hlk.same (S6.trans St)
        have gO7 := St _ _ gO6
        have od7 := od6.but hSO (ButO.of St) gO6
        have tpO : tp ≠ O := Ne.symm (ne_of_none gO6 htp)
        have live : ∀ {H' : Hp} {b : Addr}, ButO O H H' → H' O ≠ none → H' b = none → ¬ S b := fun {H' b} B hO' hb s => by
          by_cases e : b = O
          · rw [e] at hb; exact hO' hb
          · cases c : H b with
            | none => exact hSn b s c
            | some o => rw [B _ _ c e] at hb; cases hb
        have tpS : ¬ S tp := live (B2.trans (ButO.of S26)) (by rw [gO6]; nofun) htp
        have pS : ¬ S p := live (B2.trans (ButO.of Sq)) (by rw [Sq _ _ gO2]; nofun) hpn
        have pO : p ≠ O := Ne.symm (ne_of_none (Sq _ _ gO2) hpn)
        have hv7 := dp_mono (S26.trans St) _ _ hv2
        have B7 := B2.trans (ButO.of (S26.trans St))
        generalize upd H6 tp (HO.tup [V.str sd, .ref p, z]) = H7 at St gt dz7 hlk7 gO7 od7 hv7 B7 ⊢
        have Bl : ButO O H7 (upd H7 O (HO.lst (ov2 ++ [V.ref tp]))) := fun b o e h => by rw [upd_ne h]; exact e
        refine ⟨O, ov2, _, rfl, rfl, gO7, small1000 (by omega), _, _, _, _, _, ov2 ++ [V.ref tp], es2 ++ [(sd, rl, pr)], rfl, B7.trans Bl, upd_same, ?_, fun e he => ?_, by simp; omega, ?_⟩
        · exact (od7.but hSO Bl gO7).snoc tpS pS (Bl _ _ gt tpO) (hlk7.to (Bl.tups gO7) fun o e => Bl _ _ e pO) (dp_tups (Bl.tups gO7) _ _ rfl dz7)
        · rcases List.mem_append.mp he with h | h
          · exact hold2 e h
          · rw [List.mem_singleton] at h; subst h; exact ol
        · exact dp_tups (Bl.tups gO7) _ _ (noL_encPs _ _) hv7
    rintro σ2 H2 ⟨u4, u5, u6, u7, u8, ov2, es2, rfl, B2, gO2, od2, hold2, hel2, hv2⟩
    obtain ⟨ghp2, hD2, gF2, lo2⟩ := up B2
    refine ⟨_, rfl, O, rfl, ⟨_, SqL.of gO2⟩, ?_⟩
    refine for_list (K := K) (a := O) (xs := ov2) (fun i σ' H' => ∃ (u4 u5 u6 u7 u8 : Option V), σ' = [some (.ref hp), some (.ref F), some (.ref O), some v1, u4, u5, u6, u7, u8] ∧ Same H2 H') ⟨_, _, _, _, _, rfl, fun _ _ e => e⟩ (fun i σ' H' _ ⟨_, _, _, _, _, _, SS⟩ => SqL.of (SS _ _ gO2)) ?_ ?_
    · rintro i y σ' H3 hi ⟨u4, u5, u6, u7, u8, rfl, S3⟩
      obtain ⟨tp, p, pv, sd, rl, pr, hei, rfl, gt, hlk, dpv⟩ := od2.at hi
      have ol := hold2 _ (List.mem_of_getElem? hei)
      have hju := old_jud hln hm ol
      have hwr : ∀ l ∈ rl, WordOk l.1 := fun l h => (ol.on l h).1
      have hsm : rl.length ≤ 4000 := ol.small
      refine ⟨_, _, rfl, SqT.of (S3 _ _ gt), rfl, _, _, rfl, _, _, rfl, _, _, rfl, rfl, ?_⟩
      refine ⟨_, rfl, _, rfl, F, p, as, lots, rl, rfl, SqL.of (S3 _ _ gF2), lo2.same S3, by omega, hwl, hlk.same S3, hwr, hsm, fun H4 S4 => ?_⟩
      have S34 := S3.trans S4
      refine ⟨_, rfl, _, rfl, _, rfl, hp, p, ds, sd, L, hs, rl, rfl, SqL.of (S34 _ _ ghp2), hD2.same S34, hd0, hd1, ol.sd, (hlk.same S34).dp, hwr, by omega, fun H5 r S5 d5 => ?_⟩
      have S35 := S34.trans S5
      rw [hju] at d5
      cases c : missN lots rl with
      | none =>
        rw [c] at d5
        refine ⟨_, rfl, rfl, _, rfl, iteT ⟨_, rfl, encP pr, encP pr, d5, dp_mono S35 _ _ dpv, shaped_encP1 _, shaped_encP1 _, _, rfl, ?_⟩⟩
        rw [SeqAt.eqv_refl _ (SeqAt.canLay_of_shaped (shaped_encP1 pr))]
        exact iteF ⟨_, _, _, _, _, rfl, S35⟩
      | some m =>
        rw [c] at d5
        refine ⟨_, rfl, rfl, _, rfl, iteF ⟨_, rfl, .int (m : Int), .int (m : Int), d5, .int _, rfl, rfl, _, rfl, ?_⟩⟩
        rw [SeqAt.eqv_refl _ (SeqAt.canLay_of_shaped (show SeqAt.shaped (PyData.int (m : Int)) = true from rfl))]
        exact iteF ⟨_, _, _, _, _, rfl, S35⟩
    rintro σ3 H3 ⟨u4, u5, u6, u7, u8, rfl, S3⟩
    exact k H3 ov2 es2 (B2.trans (ButO.of S3)) (S3 _ _ gO2) (od2.but hSO (ButO.of S3) gO2) hold2 hel2
end
end KA
namespace KA
open PySem PySem.Spec PyProof.Rows L2 DP
def spFresh (Z : Ad) (K : PySem.W.Frag) : Sp := fun vs H Q _ => ∃ (v : V) (L : Int) (ls : List Lk), vs = [.int L, v] ∧ Dp K H v (.list (ls.map encL)) ∧ 0 < L ∧ L.natAbs < 2 ^ 200 ∧ (∀ l ∈ ls, WordOk l.1 ∧ Sized 300 l) ∧ (∀ a ∈ ls, ∀ b ∈ ls, clashB a b L = false) ∧ ls.length ≤ 58 ∧
  ∀ (H' : Hp) (d : Addr), H d = none → Same H H' → DarkAt Z K H' d L (heardAll L ls) → (∀ la dx, H' d = some (.ins Z.C dx (df L la)) → H la = none) → Q (.ref d) H'
section
variable {P : Program} {w : World} {K : PySem.W.Frag} {mg : Str → Option Value} {base : Heap} {Z : Ad}
theorem ok_law_fresh (T : Tx K w mg Z) : FnOk P w K mg base CX0 6 Z.a_law_fresh Z.d_law_fresh P_law_fresh (spFresh Z K) := by
  refine T.F_law_fresh.ok sclaw_fresh (fun vs H Q E h => ?_) (fun cdv A outer s H vs Q E hr h => ?_)
  · obtain ⟨v, L, ls, rfl, _⟩ := h
    rfl
  · obtain ⟨v, L, ls, rfl, hv, hL, hLb, htr, hnc, hlen, k⟩ := h
    obtain ⟨a, xs, rfl, ha, hd⟩ := dp_list hv
    have hxl : xs.length = ls.length := by rw [dpAll_len hd, List.length_map]
    refine ⟨_, (pss_cons (ps_set (i := 2) sclaw_fresh.nd rfl (Or.inl rfl) (pe_make T.mk_Dark (ok_Dark_init T) (hr.mono (by decide)) (by rfl) T.g_Dark T.bb_Dark_init .nil pass0 (pa_cons (pv 0) pa_nil)))
      (pss_cons (ps_for PassesOwn.never rfl (pi_list (pv 1)) (tupK (K := K) (by rfl) (pgs_cons (pg_name (i := 3) sclaw_fresh.nd rfl (Or.inl rfl)) (pgs_cons (pg_name (i := 4) sclaw_fresh.nd rfl (Or.inl rfl)) (pgs_cons (pg_name (i := 5) sclaw_fresh.nd rfl (Or.inl rfl)) pgs_nil)))) (pss_one (ps_expr (pe_meth (pv 2) T.cl T.m_Dark_hear (ok_Dark_hear T) (hr.mono (by decide)) T.bb_Dark_hear .nil pass0 (pa_cons (pv 3) (pa_cons (pv 4) (pa_cons (pv 5) pa_nil)))))))
      (pss_one (ps_ret (pv 2))))), ?_⟩
    refine ⟨_, rfl, fun d dx hdn hdx hne => ?_⟩
    have S0 : Same H (upd (upd H dx (.own d)) d (.ins Z.C dx [])) := fun b o e => by
      rw [upd_ne (ne_of_none e hdn), upd_ne (ne_of_none e hdx)]; exact e
    refine ⟨d, dx, L, rfl, upd_same, hL, hLb, fun H1 D1 f1 k1 => ⟨rfl, ?_⟩⟩
    have S1 : Same H H1 := fun b o e => k1 b o (S0 b o e) (ne_of_none e hdn)
    refine ⟨_, rfl, a, rfl, ⟨_, Same.sqL S1 ha⟩, ?_⟩
    refine for_list (K := K) (a := a) (xs := xs) (fun i σ' H' => ∃ u3 u4 u5, σ' = [some (.int L), some (.ref a), some (.ref d), u3, u4, u5] ∧ Same H H' ∧ DarkAt Z K H' d L ((ls.take i).foldl (heard L) []) ∧ ∀ la dx, H' d = some (.ins Z.C dx (df L la)) → H la = none) ⟨none, none, none, rfl, S1, D1, fun la dx e => S0.free (f1 la dx e)⟩ (fun i σ' H' _ ⟨_, _, _, _, S, _⟩ => Same.sqL S ha) ?_ ?_
    · rintro i y σ' H' hi ⟨u3, u4, u5, rfl, S, D, F⟩
      obtain ⟨e, hdi, hdy⟩ := dpAll_get hd hi
      obtain ⟨l, hl, rfl⟩ := map_at hdi
      have hlm := List.mem_of_getElem? hl
      have hi' : i < ls.length := (List.getElem?_eq_some_iff.mp hl).1
      obtain ⟨p, rfl, hp⟩ := dp_look (dp_mono S _ _ hdy)
      obtain ⟨dx', la, vs, g1, g2, g3⟩ := id D.ex
      have hfl := fold_len (L := L) (ls.take i) []
      refine ⟨_, _, rfl, hp, rfl, _, _, rfl, _, _, rfl, _, _, rfl, rfl, ?_⟩
      refine ⟨_, rfl, d, dx', _, rfl, g1, df_no _ _ (by decide +kernel) (by decide +kernel), ?_⟩
      refine ⟨_, rfl, _, rfl, _, rfl, d, L, _, l, rfl, D, (htr l hlm).1, (htr l hlm).2, ?_, fun o ho => ?_, fun H2 D2 f2 k2 => ?_⟩
      · rw [List.length_take] at hfl; simp at hfl; omega
      · obtain h | ⟨q, hq, e⟩ := (fold_mem _ _ _).mp ho
        · cases h
        · rw [e]
          rw [clash_home hL]
          exact hnc l hlm q (List.mem_of_mem_take hq)
      · refine ⟨_, _, _, rfl, fun b o e => k2 b o (S b o e) (ne_of_none e hdn), ?_⟩
        rw [take_snoc hl, List.foldl_append]
        refine ⟨D2, fun la dx e => ?_⟩
        rcases f2 la dx e with ⟨dx', h⟩ | h
        · exact F la dx' h
        · exact S.free h
    · rintro σ' H' ⟨u3, u4, u5, rfl, S, D, F⟩
      rw [List.take_of_length_le (by rw [hxl]; exact Nat.le_refl _)] at D
      exact ⟨_, rfl, k H' d hdn S D F⟩
end
end KA
namespace KA
open PySem PySem.Spec PyProof.Rows L2 DP
/-! ### one look more, or one less -/
theorem home_in {L : Int} {l : Lk} (h0 : 0 ≤ l.2.1) (h1 : l.2.1 < L) : home L l = l := by
  have e : l.2.1 / L = 0 := Int.ediv_eq_zero_of_lt h0 h1
  show (l.1, l.2.1 - l.2.1 / L * L, l.2.2 - l.2.1 / L * L) = l
  rw [e, Int.zero_mul, Int.sub_zero, Int.sub_zero]
def ButD (t g d : Addr) (H H' : Hp) : Prop := ∀ b o, H b = some o → b ≠ t → b ≠ g → b ≠ d → H' b = some o
theorem ButD.of {t g d : Addr} {H H' : Hp} (k : Keep t g H H') : ButD t g d H H' := fun b o e h1 h2 _ => k b o e h1 h2
theorem ButD.trans {t g d : Addr} {H H1 H2 : Hp} (a : ButD t g d H H1) (b : ButD t g d H1 H2) : ButD t g d H H2 := fun c o e h1 h2 h3 => b c o (a c o e h1 h2 h3) h1 h2 h3
theorem only_tray {H H' : Hp} {t g d C dx : Addr} {fs : List (Str × V)} {n : Nat} (T : Tray H t g n) (k : ∀ b o, H b = some o → b ≠ d → H' b = some o) (h : H d = some (.ins C dx fs)) : Tray H' t g n := by
  obtain ⟨⟨f, c, u, e1, e2, r'⟩, hne'⟩ := T
  refine ⟨⟨f, c, u, k _ _ e1 (fun z => ?_), k _ _ e2 (fun z => ?_), r'⟩, hne'⟩
  · rw [z, h] at e1; cases e1
  · rw [z, h] at e2; cases e2
theorem only_tups {H H' : Hp} {d C dx : Addr} {fs : List (Str × V)} (k : ∀ b o, H b = some o → b ≠ d → H' b = some o) (h : H d = some (.ins C dx fs)) : Tups H H' := fun c zs hc => by
  have hcb : c ≠ d := by
    rintro rfl
    rcases hc with e | ⟨q, e⟩ <;> rw [h] at e <;> cases e
  rcases hc with e | ⟨q, e⟩
  · exact .inl (k _ _ e hcb)
  · exact .inr ⟨q, k _ _ e hcb⟩
def spTurn (Z : Ad) (K : PySem.W.Frag) : Sp := fun vs H Q _ => ∃ (t g d G p : Addr) (n : Nat) (L : Int) (hs ls : List Lk) (ss : List Pr), vs = [.ref t, .ref d, .ref G, .int L, .ref p] ∧ Tray H t g n ∧ n < 2 ^ 50 ∧ 0 < L ∧ L ≤ 10 ^ 30 ∧ DarkAt Z K H d L hs ∧ Off Z H d L t g ∧ LkAt K H G ls ∧ G ≠ t ∧ G ≠ g ∧ LAt K H p (ss.map encP) ∧ p ≠ t ∧ p ≠ g ∧ StepsH L ss ∧ Canon hs (fun o => o ∈ ls) ∧ (∀ l ∈ ls, TrueH L ss l) ∧ ls.length ≤ 22 ∧
  ∀ (H' : Hp) (r : Addr) (hs' ls' : List Lk), Tray H' t g (n + 10) → ButD t g d H H' → DarkAt Z K H' d L hs' → (∀ la dx, H' d = some (.ins Z.C dx (df L la)) → (∃ dx', H d = some (.ins Z.C dx' (df L la))) ∨ H la = none) → LkAt K H' r ls' → (r = G ∨ H r = none) → Canon hs' (fun o => o ∈ ls') → (∀ l ∈ ls', TrueH L ss l) → ls'.length ≤ ls.length + 1 → Q (.ref r) H'
section
variable {P : Program} {w : World} {K : PySem.W.Frag} {mg : Str → Option Value} {base : Heap} {Z : Ad}
theorem ok_law_turn (T : Tx K w mg Z) : FnOk P w K mg base CX0 6 Z.a_law_turn Z.d_law_turn P_law_turn (spTurn Z K) := by
  refine T.F_law_turn.ok sclaw_turn (fun vs H Q E h => ?_) (fun cdv A outer s H vs Q E hr h => ?_)
  · obtain ⟨t, g, d, G, p, n, L, hs, ls, ss, rfl, _⟩ := h
    rfl
  · obtain ⟨t, g, d, G, p, n, L, hs, ls, ss, rfl, hT, hn, hL, hL30, D, O, hG, Gt, Gg, lp, pt, pg, hst, C, htr, hll, k⟩ := h
    have hLb := bigL hL hL30
    have hb6 : ∀ j, j ≤ n + 30 → j < 2 ^ 60 := fun j hj => Nat.lt_of_le_of_lt hj (Nat.lt_of_lt_of_le (Nat.add_lt_add_right hn 30) (by decide))
    have hhl : hs.length ≤ ls.length := nodup_le C.nd fun o ho => (C.mem o).mp ho
    obtain ⟨f, FH, hfit⟩ : ∃ f, Hand L f ∧ ∀ l, TrueH L ss l → Fits f l := ⟨ld L ss, ld_hand hL hst.1, fun l h => h.1.2.1⟩
    have hwls : ∀ l ∈ ls, WordOk l.1 := fun l h => (htr l h).1.1
    refine ⟨_, (pss_cons (ps_set (i := 5) sclaw_turn.nd rfl (Or.inr rfl) (pe_call (ok_law_look T) (hr.mono (by decide)) (by rfl) T.g_law_look T.F_law_look.kp T.bb_law_look .nil pass0 (pa_cons (pv 0) (pa_cons (pv 3) (pa_cons (pv 4) pa_nil)))))
      (C8.pss_cut (ps_if (PW.pt (pw_and (pt_cmpR (neDK (K := K) hr.units) (pv 2) (pe_lst pa_nil) (nomark _)) (pw_and1 (pt_cmpR op_eq (pe_call (ok_law_draw T) (hr.mono (by decide)) (by rfl) T.g_law_draw T.F_law_draw.kp T.bb_law_draw .nil pass0 (pa_cons (pv 0) (pa_cons pe_int pa_nil))) pe_int (nomark _))))) (pss_cons (ps_set (i := 5) sclaw_turn.nd rfl (Or.inr rfl) (pe_ix (ixL (K := K)) (pv 2) (pe_call (ok_law_draw T) (hr.mono (by decide)) (by rfl) T.g_law_draw T.F_law_draw.kp T.bb_law_draw .nil pass0 (pa_cons (pv 0) (pa_cons (pe_callB (lenK (K := K)) (by rfl) T.b_len (by decide +kernel) (pa_cons (pv 2) pa_nil)) pa_nil))) (fun _ _ => rfl)))
      (pss_cons (ps_expr (pe_meth (pv 1) T.cl T.m_Dark_drop (ok_Dark_drop T) (hr.mono (by decide)) T.bb_Dark_drop .nil pass0 (pa_cons (pe_ix (ixT (K := K)) (pv 5) pe_int (fun _ _ => rfl)) (pa_cons (pe_ix (ixT (K := K)) (pv 5) pe_int (fun _ _ => rfl)) (pa_cons (pe_ix (ixT (K := K)) (pv 5) pe_int (fun _ _ => rfl)) pa_nil)))))
      (pss_one (ps_ret (pe_lc (own := [("one", 6)]) (g := gName 6) (tt := _) rfl sclaw_turn.nd (pi_list (pv 2)) (blkOk_by (own := [("one", 6)]) (N := N_law_turn) (sc := defScope slaw_turn) (by decide +kernel)) (fun _ _ _ _ _ => (pg_name (i := 6) sclaw_turn.nd rfl (Or.inl rfl))) (fun _ _ _ _ _ => (pts_one (pt_cmpR (neDK (K := K) hr.units) (pv 6) (pv 5) (nomark _)))) (fun _ _ _ _ _ => (pv 6))))))) pss_nil)
      (C8.pss_cut (ps_if (pt_cmpR (inDK (K := K) (rooms hr)) (pv 5) (pv 2) (by rfl)) (pss_one (ps_ret (pv 2))) pss_nil)
      (pss_cons (ps_expr (pe_meth (pv 1) T.cl T.m_Dark_hear (ok_Dark_hear T) (hr.mono (by decide)) T.bb_Dark_hear .nil pass0 (pa_cons (pe_ix (ixT (K := K)) (pv 5) pe_int (fun _ _ => rfl)) (pa_cons (pe_ix (ixT (K := K)) (pv 5) pe_int (fun _ _ => rfl)) (pa_cons (pe_ix (ixT (K := K)) (pv 5) pe_int (fun _ _ => rfl)) pa_nil)))))
      (pss_one (ps_ret (pe_op op_cat (pv 2) (pe_lst (pa_cons (pv 5) pa_nil))))))))), ?_⟩
    refine ⟨_, rfl, _, rfl, _, rfl, t, g, p, n, L, ss, rfl, hT, hn, hL, hL30, lp, pt, pg, hst, fun H2 r l A2 hr hl => ?_⟩
    obtain ⟨D2, O2⟩ := D.keep hT A2.k O
    obtain ⟨gv, g1, g2⟩ := id hG
    have g12 := A2.k _ _ g1 Gt Gg
    have g22 := dpAll_tups (Keep.tups hT A2.k) _ _ (noLs_map noL_encL ls) g2
    have hgv : gv.length = ls.length := by rw [dpAll_len g2, List.length_map]
    obtain ⟨dx0, la0, vs0, q1, _⟩ := id D.ex
    have hdt : d ≠ t ∧ d ≠ g := by
      obtain ⟨⟨f, c, u, e1, e2, r'⟩, hne'⟩ := hT
      refine ⟨fun z => ?_, fun z => ?_⟩
      · rw [z] at q1; rw [q1] at e1; cases e1
      · rw [z] at q1; rw [q1] at e2; cases e2
    have q12 := A2.k _ _ q1 hdt.1 hdt.2
    have Gd : G ≠ d := fun z => by rw [z, q1] at g1; cases g1
    have back : ∀ {H5 : Hp}, (∀ la dx, H5 d = some (.ins Z.C dx (df L la)) → (∃ dx', H2 d = some (.ins Z.C dx' (df L la))) ∨ H2 la = none) → ∀ la dx, H5 d = some (.ins Z.C dx (df L la)) → (∃ dx', H d = some (.ins Z.C dx' (df L la))) ∨ H la = none := fun f5 la dx e => by
      rcases f5 la dx e with ⟨dx', e'⟩ | e'
      · rw [q12] at e'
        have := df_inj e'
        exact .inl ⟨dx0, by rw [q1, this]⟩
      · exact .inr (A2.free e')
    -- one less
    refine ⟨fun σ' H' => σ' = [some (.ref t), some (.ref d), some (.ref G), some (.int L), some (.ref p), some r, none] ∧ At H H' t g (n + 8) ∧ Keep t g H2 H', ?_, ?_⟩
    · refine ⟨_, rfl, (by show 0 ≤ sizeLine; decide), fun e0 he0 => ?_⟩
      have Se := same_upd (o := HO.lst ([] : List V)) he0
      have ge : (upd H2 e0 (HO.lst ([] : List V))) e0 = some (.lst []) := upd_same
      have Ae := A2.new (o := HO.lst ([] : List V)) he0
      generalize upd H2 e0 (HO.lst ([] : List V)) = H3 at Se ge Ae ⊢
      refine ⟨.list (ls.map encL), .list [], .lst (SqL.of (Se _ _ g12)) (dpAll_mono Se _ _ g22), .lst (SqL.of ge) .nil, shaped_looks hwls, rfl, _, rfl, ?_⟩
      cases els : ls with
      | nil => exact iteF (iteF ⟨rfl, Ae.up (by omega), Keep.of_same Se⟩)
      | cons l0 lr =>
        have hnl : 0 < ls.length := by rw [els]; simp
        refine iteT ⟨_, rfl, t, g, n + 6, 3, rfl, Ae.T, by decide, by decide, hb6 _ (by omega), fun H4 c c0 c1 T4 k4 => ?_⟩
        have A4 := Ae.step T4 k4
        refine ⟨rfl, _, rfl, ite2 (fun _ => ?_) (fun _ => ⟨rfl, A4.up (by omega), (Keep.of_same Se).trans k4⟩)⟩
        have K24 : Keep t g H2 H4 := (Keep.of_same Se).trans k4
        obtain ⟨D4, O4⟩ := D2.keep A2.T K24 O2
        have g14 := K24 _ _ g12 Gt Gg
        have g24 := dpAll_tups (Keep.tups A2.T K24) _ _ (noLs_map noL_encL ls) g22
        refine ⟨_, rfl, _, rfl, _, rfl, G, _, rfl, .inl (SqL.of g14), t, g, n + 7, (gv.length : Int), rfl, T4, by omega, Nat.lt_of_le_of_lt (by omega : ((gv.length : Int)).natAbs ≤ 22) (by decide), hb6 _ (by omega), fun H5 j j0 j1 T5 k5 => ?_⟩
        have K25 := K24.trans k5
        obtain ⟨D5, O5⟩ := D2.keep A2.T K25 O2
        have g15 := K25 _ _ g12 Gt Gg
        have g25 := dpAll_tups (Keep.tups A2.T K25) _ _ (noLs_map noL_encL ls) g22
        obtain ⟨j, rfl⟩ := Int.eq_ofNat_of_zero_le j0
        have hj : j < gv.length := by omega
        have hgj : gv[j]? = some gv[j] := List.getElem?_eq_getElem hj
        obtain ⟨dd, hdj, hdy⟩ := dpAll_get g25 hgj
        obtain ⟨o, ho, rfl⟩ := map_at hdj
        have hom := List.mem_of_getElem? ho
        obtain ⟨sa, esa, hsq⟩ := dp_look hdy
        refine ⟨G, _, _, gv[j], rfl, rfl, SqL.of g15, at_of (j := j) rfl hgj, ?_⟩
        obtain ⟨dx5, la5, vs5, q15, _⟩ := id D5.ex
        have hth := htr o hom
        have hho : home L o = o := home_in hth.2.1 hth.2.2
        refine ⟨_, rfl, d, dx5, _, rfl, q15, df_no _ _ (by decide +kernel) (by decide +kernel), _, rfl, sa, _, _, _, esa, rfl, hsq, rfl, _, rfl, sa, _, _, _, esa, rfl, hsq, rfl, _, rfl, sa, _, _, _, esa, rfl, hsq, rfl, d, L, hs, o, rfl, D5, hth.1.1, hth.1.2.2.up (by decide), by rw [hho]; exact (C.mem o).mpr hom, fun H6 D6 f6 k6 => ?_⟩
        rw [hho] at D6
        have T6 := only_tray T5 k6 q15
        have tu6 := only_tups k6 q15
        have g16 := k6 _ _ g15 Gd
        have g26 := dpAll_tups tu6 _ _ (noLs_map noL_encL ls) g25
        have do6 := dp_tups tu6 _ _ (noL_encL o) hdy
        have B6 : ButD t g d H H6 := (ButD.of (A2.k.trans K25)).trans fun b o e _ _ h3 => k6 b o e h3
        have f6' : ∀ la dx, H6 d = some (.ins Z.C dx (df L la)) → (∃ dx', H d = some (.ins Z.C dx' (df L la))) ∨ H la = none := back fun la dx e => by
          have h := f6 la dx e
          refine .inr ?_
          cases e2 : H2 la with
          | none => rfl
          | some o2 =>
            by_cases ht : la = t
            · obtain ⟨⟨f, c, u, e1, _⟩, _⟩ := T5
              rw [ht, e1] at h; cases h
            · by_cases hg : la = g
              · obtain ⟨⟨f, c, u, _, e1, _⟩, _⟩ := T5
                rw [hg, e1] at h; cases h
              · rw [K25 la o2 e2 ht hg] at h; cases h
        refine ⟨_, rfl, G, rfl, ⟨_, SqL.of g16⟩, fun D0 hD => ?_⟩
        have hDd : D0 ≠ d := fun z => by
          obtain ⟨dxx, laa, vss, qq, _⟩ := D6.ex
          rw [z, qq] at hD; cases hD
        obtain ⟨D0t, D0g⟩ := T6.at_ne hD
        refine lc_list (K := K) (a := G) (xs := gv) (fun i H' => Same H6 H' ∧ ∃ vs, H' D0 = some (.lst vs) ∧ DpAll K H' vs (((ls.take i).filter fun q => !decide (q = o)).map encL)) ⟨same_upd hD, [], upd_same, .nil⟩ (fun i H' _ ⟨S, _⟩ => SqL.of (S _ _ g16)) ?_ ?_
        · rintro i y H7 hi ⟨S7, vs, gD, hds⟩
          obtain ⟨ee, hdi, hdy7⟩ := dpAll_get (dpAll_mono S7 _ _ g26) hi
          obtain ⟨q, hq, rfl⟩ := map_at hdi
          have hqm := List.mem_of_getElem? hq
          have hi' : i < ls.length := (List.getElem?_eq_some_iff.mp hq).1
          have hvl : vs.length ≤ i := by
            rw [dpAll_len hds, List.length_map]
            exact Nat.le_trans (List.length_filter_le _ _) (by rw [List.length_take]; omega)
          refine ⟨rfl, _, rfl, _, rfl, encL q, encL o, hdy7, dp_mono S7 _ _ do6, shaped_look (hwls q hqm), shaped_look hth.1.1, _, rfl, ?_⟩
          rw [eqv_look, take_snoc hq, List.filter_append, List.map_append]
          by_cases hqo : q = o
          · have e1 : (!decide (q = o)) = false := by simp [hqo]
            rw [e1]
            refine iteF ⟨S7, vs, gD, ?_⟩
            have e2 : [q].filter (fun q => !decide (q = o)) = [] := by simp [hqo]
            rw [e2]
            simpa using hds
          · have e1 : (!decide (q = o)) = true := by simp [hqo]
            rw [e1]
            refine iteT ⟨_, rfl, vs, gD, small1000 (by omega), same_set S7 hD, _, upd_same, ?_⟩
            have e2 : [q].filter (fun q => !decide (q = o)) = [q] := by simp [hqo]
            rw [e2]
            exact acc_step gD (noLs_map noL_encL _) rfl hds hdy7
        rintro H7 ⟨S7, vs, gD, hds⟩
        rw [List.take_of_length_le (by omega)] at hds
        refine k H7 D0 _ (ls.filter fun q => !decide (q = o)) ((T6.same S7).up (by omega)) (B6.trans fun b o e _ _ _ => S7 b o e) (D6.same S7) (fun la dx e => ?_) ⟨vs, gD, hds⟩ (.inr ?_) ((filter_canon C _).iff fun q => ?_) (fun q hq => htr q (List.mem_filter.mp hq).1) (Nat.le_trans (List.length_filter_le _ _) (by omega))
        · obtain ⟨dxx, laa, vss, qq, _⟩ := D6.ex
          have e' := S7 _ _ qq
          rw [e] at e'
          have := df_inj e'
          rw [this]
          exact f6' laa dxx qq
        · cases eD : H D0 with
          | none => rfl
          | some oo => rw [B6 D0 oo eD D0t D0g hDd] at hD; cases hD
        · rw [List.mem_filter]
    rintro σ3 H3 ⟨rfl, A3, K3⟩
    obtain ⟨D3, O3⟩ := D2.keep A2.T K3 O2
    have g13 := K3 _ _ g12 Gt Gg
    have g23 := dpAll_tups (Keep.tups A2.T K3) _ _ (noLs_map noL_encL ls) g22
    have hr3 := dp_tups (Keep.tups A2.T K3) _ _ (noL_encL l) hr
    have q13 := K3 _ _ q12 hdt.1 hdt.2
    have old3 : ∀ la dx, H3 d = some (.ins Z.C dx (df L la)) → (∃ dx', H d = some (.ins Z.C dx' (df L la))) ∨ H la = none := fun la dx e => by
      rw [q13] at e
      have := df_inj e
      exact .inl ⟨dx0, by rw [q1, this]⟩
    refine ⟨fun σ' H' => σ' = [some (.ref t), some (.ref d), some (.ref G), some (.int L), some (.ref p), some r, none] ∧ H' = H3 ∧ l ∉ ls, ?_, ?_⟩
    · refine ⟨_, rfl, _, rfl, encL l, ls.map encL, hr3, .lst (SqL.of g13) g23, shaped_look hl.1.1, shaped_looks hwls, _, rfl, ?_⟩
      rw [any_look]
      by_cases hin : l ∈ ls
      · have e : decide (l ∈ ls) = true := by simp [hin]
        rw [e]
        exact iteT ⟨_, rfl, k H3 G hs ls (A3.T.up (by omega)) (ButD.of A3.k) D3 old3 ⟨gv, g13, g23⟩ (.inl rfl) C htr (by omega)⟩
      · have e : decide (l ∈ ls) = false := by simp [hin]
        rw [e]
        exact iteF ⟨rfl, rfl, hin⟩
    rintro σ4 H4 ⟨rfl, rfl, hin⟩
    obtain ⟨sa, rfl, hsq⟩ := dp_look hr3
    have hhl' : home L l = l := home_in hl.2.1 hl.2.2
    refine ⟨_, rfl, d, dx0, _, rfl, q13, df_no _ _ (by decide +kernel) (by decide +kernel), _, rfl, sa, _, _, _, rfl, rfl, hsq, rfl, _, rfl, sa, _, _, _, rfl, rfl, hsq, rfl, _, rfl, sa, _, _, _, rfl, rfl, hsq, rfl, d, L, hs, l, rfl, D3, hl.1.1, hl.1.2.2.up (by decide), by omega, fun o ho => ?_, fun H5 D5 f5 k5 => ?_⟩
    · rw [hhl']
      exact fit_clash hL FH (hfit l hl) (hfit o (htr o ((C.mem o).mp ho)))
    have T5 := only_tray A3.T k5 q13
    have tu5 := only_tups k5 q13
    have g15 := k5 _ _ g13 Gd
    have g25 := dpAll_tups tu5 _ _ (noLs_map noL_encL ls) g23
    have hr5 := dp_tups tu5 _ _ (noL_encL l) hr3
    have B5 : ButD t g d H H5 := (ButD.of A3.k).trans fun b o e _ _ h3 => k5 b o e h3
    refine ⟨_, rfl, _, rfl, (by show 1 ≤ sizeLine; decide), fun q hq => ?_⟩
    have Sq := same_upd (o := HO.lst [V.ref sa]) hq
    refine ⟨G, q, _, _, rfl, rfl, Sq _ _ g15, upd_same, Nat.le_trans (by simp; omega : _ ≤ 100) (by decide), fun c hc => ?_⟩
    have Sc := Sq.trans (same_upd (o := HO.lst (gv ++ [V.ref sa])) hc)
    have hcn : H5 c = none := Sq.free hc
    have hcd : c ≠ d := fun z => by
      obtain ⟨dxx, laa, vss, qq, _⟩ := D5.ex
      rw [z, qq] at hcn; cases hcn
    obtain ⟨ct, cg⟩ := T5.at_ne hcn
    refine k _ c _ (ls ++ [l]) ((T5.same Sc).up (by omega)) (B5.trans fun b o e _ _ _ => Sc b o e) (D5.same Sc) (fun la dx e => ?_) ⟨_, upd_same, ?_⟩ (.inr ?_) ((heard_canon C l).iff fun o => ?_) (fun o ho => ?_) (by simp)
    · obtain ⟨dxx, laa, vss, qq, _⟩ := D5.ex
      have e' := Sc _ _ qq
      rw [e] at e'
      have e2 := df_inj e'
      rw [e2]
      rcases f5 laa dxx qq with ⟨dx', h⟩ | h
      · exact old3 laa dx' h
      · exact .inr (A3.free h)
    · rw [List.map_append]
      exact dpAll_snoc (dpAll_mono Sc _ _ g25) (dp_mono Sc _ _ hr5)
    · cases eD : H c with
      | none => rfl
      | some oo => rw [B5 c oo eD ct cg hcd] at hcn; cases hcn
    · rw [hhl']
      simp
    · rcases List.mem_append.mp ho with h | h
      · exact htr o h
      · rw [List.mem_singleton] at h; subst h; exact hl
end
end KA
namespace KA
open PySem PySem.Spec PyProof.Rows L2 DP
/-! ### all that is told of a round but its rings: fixed by the looks -/
theorem LeastN.one {p : Nat → Bool} : ∀ {r r' : Option Nat}, LeastN p r → LeastN p r' → r = r'
  | none, none, _, _ => rfl
  | none, some n, h, h' => by have := h n; rw [h'.1] at this; cases this
  | some n, none, h', h => by have := h n; rw [h'.1] at this; cases this
  | some n, some m, h, h' => by
    rcases Nat.lt_trichotomy n m with c | c | c
    · have := h'.2 n c; rw [h.1] at this; cases this
    · rw [c]
    · have := h.2 m c; rw [h'.1] at this; cases this
def toldD (o1 o2 : Option Pr) (r1 r2 : Option Nat) (z1 z2 : Option Int) : PyData := .list [encPs o1 o2, dU r1, dU r2, dO z1, dO z2]
theorem shaped_told (o1 o2 : Option Pr) (r1 r2 : Option Nat) (z1 z2 : Option Int) : SeqAt.shaped (toldD o1 o2 r1 r2 z1 z2) = true := by
  cases o1 <;> cases o2 <;> cases r1 <;> cases r2 <;> cases z1 <;> cases z2 <;> rfl
structure ToldIs (L : Int) (hs : List (List Lk)) (x y n : Int) (d : PyData) : Prop where
  ex : ∃ o1 o2 r1 r2, d = toldD o1 o2 r1 r2 (it "slow" L (hs.map (sideOf "slow")) x n.toNat) (it "fast" L (hs.map (sideOf "fast")) x n.toNat) ∧ PaceIs "slow" L (hs.map (sideOf "slow")) o1 ∧ PaceIs "fast" L (hs.map (sideOf "fast")) o2 ∧ LeastN (comesB (it "fast" L (hs.map (sideOf "fast")) x) false y) r1 ∧ IsReach (it "slow" L (hs.map (sideOf "slow")) x) y r2
theorem ToldIs.one {L : Int} (hL : 0 < L) {hs : List (List Lk)} {x y n : Int} {d d' : PyData} (h : ToldIs L hs x y n d) (h' : ToldIs L hs x y n d') : d = d' := by
  obtain ⟨o1, o2, r1, r2, rfl, a1, a2, a3, a4⟩ := h.ex
  obtain ⟨o1', o2', r1', r2', rfl, b1, b2, b3, b4⟩ := h'.ex
  rw [PaceIs.one (.inl rfl) hL a1 b1, PaceIs.one (.inr rfl) hL a2 b2, LeastN.one a3 b3, IsReach.one a4 b4]
theorem ToldIs.shaped {L : Int} {hs : List (List Lk)} {x y n : Int} {d : PyData} (h : ToldIs L hs x y n d) : SeqAt.shaped d = true := by
  obtain ⟨o1, o2, r1, r2, rfl, _⟩ := h.ex
  exact shaped_told _ _ _ _ _ _
def spTold (Z : Ad) (K : PySem.W.Frag) : Sp := fun vs H Q _ => ∃ (hp : Addr) (ds : List Addr) (L x y n : Int) (hs : List (List Lk)), vs = [.ref hp, .int x, .int y, .int n] ∧ SqL K H hp (refs ds) ∧ Darks Z K H ds L hs ∧ 0 < ds.length ∧ ds.length ≤ 60 ∧ x.natAbs < 2 ^ 200 ∧ y.natAbs < 2 ^ 200 ∧ L.natAbs < 2 ^ 110 ∧ (∀ ls ∈ hs, ∀ l ∈ ls, Sized 114 l) ∧ (∀ ls ∈ hs, heardAll L ls = ls) ∧ 0 ≤ n ∧ n.natAbs < 2 ^ 300 ∧
  ∀ H' r d, Same H H' → Dp K H' r d → ToldIs L hs x y n d → Q r H'
section
variable {P : Program} {w : World} {K : PySem.W.Frag} {mg : Str → Option Value} {base : Heap} {Z : Ad}
theorem ok_law_told (T : Tx K w mg Z) : FnOk P w K mg base CX0 9 Z.a_law_told Z.d_law_told P_law_told (spTold Z K) := by
  refine T.F_law_told.ok sclaw_told (fun vs H Q E h => ?_) (fun cdv A outer s H vs Q E hr h => ?_)
  · obtain ⟨hp, ds, L, x, y, n, hs, rfl, _⟩ := h
    rfl
  · obtain ⟨hp, ds, L, x, y, n, hs, rfl, hh, hD, hd0, hd1, hx, hy, hLb, hsz, hid, hn0, hn, k⟩ := h
    have ehs : hs.map (heardAll L) = hs := by
      conv => rhs; rw [← List.map_id hs]
      exact List.map_congr_left fun ls hls => hid ls hls
    refine ⟨_, (pss_cons (ps_set (i := 4) sclaw_told.nd rfl (Or.inl rfl) (pe_lst (pa_cons (pe_call (ok_paces T) (hr.mono (by decide)) (by rfl) T.g_paces T.F_paces.kp T.bb_paces .nil pass0 (pa_cons (pv 0) pa_nil)) (pa_cons (pe_call (ok_fewest_uses T) (hr.mono (by decide)) (by rfl) T.g_fewest_uses T.F_fewest_uses.kp T.bb_fewest_uses .nil pass0 (pa_cons (pv 0) (pa_cons (pv 1) (pa_cons (pv 2) pa_nil)))) (pa_cons (pe_call (ok_most_uses T) (hr.mono (by decide)) (by rfl) T.g_most_uses T.F_most_uses.kp T.bb_most_uses .nil pass0 (pa_cons (pv 0) (pa_cons (pv 1) (pa_cons (pv 2) pa_nil)))) pa_nil)))))
      (pss_one (ps_ret (pe_op op_cat (pv 4) (pe_lst (pa_cons (pe_call (ok_least_behind T) (hr.mono (by decide)) (by rfl) T.g_least_behind T.F_least_behind.kp T.bb_least_behind .nil pass0 (pa_cons (pv 0) (pa_cons (pv 1) (pa_cons (pv 3) pa_nil)))) (pa_cons (pe_call (ok_greatest_behind T) (hr.mono (by decide)) (by rfl) T.g_greatest_behind T.F_greatest_behind.kp T.bb_greatest_behind .nil pass0 (pa_cons (pv 0) (pa_cons (pv 1) (pa_cons (pv 3) pa_nil)))) pa_nil))))))), ?_⟩
    refine ⟨_, rfl, hp, ds, L, hs, rfl, hh, by rw [ehs]; exact hD, hd0, hd1, fun H1 v1 o1 o2 S1 h1 P1 P2 => ?_⟩
    refine ⟨_, rfl, _, rfl, _, rfl, hp, ds, L, x, y, hs, rfl, Same.sqL S1 hh, hD.same S1, hd0, hd1, hx, hy, hLb, hsz, fun H2 r1 S2 hr1 _ => ?_⟩
    have S12 := S1.trans S2
    refine ⟨_, rfl, _, rfl, _, rfl, hp, ds, L, x, y, hs, rfl, Same.sqL S12 hh, hD.same S12, hd0, hd1, lt_up hx (by decide), lt_up hy (by decide), fun H3 r2 S3 hr2 _ => ?_⟩
    have S13 := S12.trans S3
    refine ⟨(by show 3 ≤ sizeLine; decide), fun q hq => ?_⟩
    have Sq := same_upd (o := HO.lst [v1, uV r1, uV r2]) hq
    have gq : (upd H3 q (HO.lst [v1, uV r1, uV r2])) q = some (.lst [v1, uV r1, uV r2]) := upd_same
    have h13 := dp_mono ((S2.trans S3).trans Sq) _ _ h1
    have S14 := S13.trans Sq
    generalize upd H3 q (HO.lst [v1, uV r1, uV r2]) = H4 at Sq gq h13 S14 ⊢
    refine ⟨_, rfl, _, rfl, _, rfl, _, rfl, hp, ds, L, x, n, hs, rfl, Same.sqL S14 hh, hD.same S14, hd0, hd1, lt_up hx (by decide), hn0, hn, fun H5 S5 => ?_⟩
    have S15 := S14.trans S5
    refine ⟨_, rfl, _, rfl, _, rfl, hp, ds, L, x, n, hs, rfl, Same.sqL S15 hh, hD.same S15, hd0, hd1, lt_up hx (by decide), hn0, hn, fun H6 S6 => ?_⟩
    have S16 := S15.trans S6
    generalize ez1 : it "slow" L (hs.map (sideOf "slow")) x n.toNat = z1
    generalize ez2 : it "fast" L (hs.map (sideOf "fast")) x n.toNat = z2
    refine ⟨(by show 2 ≤ sizeLine; decide), fun q2 hq2 => ?_⟩
    have Sq2 := same_upd (o := HO.lst [oV z1, oV z2]) hq2
    refine ⟨q, q2, _, _, rfl, rfl, ((S5.trans S6).trans Sq2) _ _ gq, upd_same, (by show 3 + 2 ≤ sizeLine; decide), fun c hc => ?_⟩
    have Sc := Sq2.trans (same_upd (o := HO.lst ([v1, uV r1, uV r2] ++ [oV z1, oV z2])) hc)
    refine k _ _ (toldD o1 o2 r1 r2 z1 z2) (S16.trans Sc) (.lst (SqL.of upd_same) (.cons (dp_mono ((S5.trans S6).trans Sc) _ _ h13) (.cons (dp_uV _) (.cons (dp_uV _) (.cons (dp_oV _) (.cons (dp_oV _) .nil)))))) ⟨o1, o2, r1, r2, by rw [ez1, ez2], P1, P2, hr1, hr2⟩
end
end KA
namespace KA
open PySem PySem.Spec PyProof.Rows L2 DP
/-! ### what a history holds -/
/-- all stands but what is named -/
def Mv (S : Addr → Prop) (H H' : Hp) : Prop := ∀ b o, H b = some o → ¬ S b → H' b = some o
def NoT (H : Hp) (b : Addr) : Prop := (∃ xs, H b = some (.lst xs)) ∨ ∃ C dx fs, H b = some (.ins C dx fs)
theorem Mv.tups {S : Addr → Prop} {H H' : Hp} (k : Mv S H H') (hS : ∀ b, S b → NoT H b ∨ H b = none) : Tups H H' := fun c zs hc => by
  have hcb : ¬ S c := fun s => by
    rcases hS c s with (⟨xs, h⟩ | ⟨C, dx, fs, h⟩) | h <;> rcases hc with e | ⟨q, e⟩ <;> rw [h] at e <;> cases e
  rcases hc with e | ⟨q, e⟩
  · exact .inl (k _ _ e hcb)
  · exact .inr ⟨q, k _ _ e hcb⟩
theorem Mv.lk {S : Addr → Prop} {K : PySem.W.Frag} {H H' : Hp} {p : Addr} {ls : List Lk} (l : LkAt K H p ls) (k : Mv S H H') (hS : ∀ b, S b → NoT H b ∨ H b = none) (hp : ¬ S p) : LkAt K H' p ls := l.to (k.tups hS) fun o e => k _ _ e hp
theorem Mv.la {S : Addr → Prop} {K : PySem.W.Frag} {H H' : Hp} {p : Addr} {ss : List Pr} (l : LAt K H p (ss.map encP)) (k : Mv S H H') (hS : ∀ b, S b → NoT H b ∨ H b = none) (hp : ¬ S p) : LAt K H' p (ss.map encP) := by
  obtain ⟨vs, h1, h2⟩ := l
  exact ⟨vs, k _ _ h1 hp, dpAll_tups (k.tups hS) _ _ (noLs_map noL_encP _) h2⟩
theorem Mv.dark {S : Addr → Prop} {Z : Ad} {K : PySem.W.Frag} {H H' : Hp} {d : Addr} {L : Int} {ls : List Lk} (D : DarkAt Z K H d L ls) (k : Mv S H H') (hS : ∀ b, S b → NoT H b ∨ H b = none) (hd : ¬ S d) (hla : ∀ la dx, H d = some (.ins Z.C dx (df L la)) → ¬ S la) : DarkAt Z K H' d L ls ∧ ∀ la dx, H' d = some (.ins Z.C dx (df L la)) → ∃ dx', H d = some (.ins Z.C dx' (df L la)) := by
  obtain ⟨dx, la, vs, h1, h2, h3⟩ := D.ex
  have h1' := k _ _ h1 hd
  refine ⟨⟨⟨dx, la, vs, h1', k _ _ h2 (hla la dx h1), dpAll_tups (k.tups hS) _ _ (noLs_map noL_encL _) h3⟩, D.pos, D.big, D.ok, D.len⟩, fun la2 dx2 e => ?_⟩
  rw [h1'] at e
  rw [← df_inj e]
  exact ⟨dx, h1⟩
theorem OldsD.mv {K : PySem.W.Frag} {H H' : Hp} {S S' : Addr → Prop} (k : Mv S' H H') (hS : ∀ b, S' b → NoT H b ∨ H b = none) (sub : ∀ b zs, H b = some (.lst zs) → ¬ S b → ¬ S' b) : ∀ {vs : List V} {es : List OldE}, OldsD K H S vs es → OldsD K H' S vs es
  | _, _, .nil => .nil
  | _, _, .cons n1 n2 g l d r => .cons n1 n2 (k _ _ g fun s => by
      rcases hS _ s with (⟨xs, h⟩ | ⟨C, dx, fs, h⟩) | h <;> rw [h] at g <;> cases g) (Mv.lk l k hS (by
        obtain ⟨vs, e, _⟩ := id l
        exact sub _ _ e n2)) (dp_tups (k.tups hS) _ _ rfl d) (r.mv k hS sub)
def SS (O t GZ : Addr) : Addr → Prop := fun b => b = O ∨ b = t ∨ b = GZ
structure Hist (Z : Ad) (K : PySem.W.Frag) (H : Hp) (t O M GZ P : Addr) (L : Int) (ds gs ps : List Addr) (hs lots : List (List Lk)) (sss : List (List Pr)) (ov : List V) (es : List OldE) (n b : Nat) : Prop where
  m : H M = some (.lst (refs ds))
  gz : H GZ = some (.lst (refs gs))
  p : H P = some (.lst (refs ps))
  o : H O = some (.lst ov)
  mt : M ≠ t ∧ M ≠ O ∧ M ≠ GZ
  gt : GZ ≠ t ∧ GZ ≠ O
  pt : P ≠ t ∧ P ≠ O ∧ P ≠ GZ
  ot : O ≠ t
  dk : Darks Z K H ds L hs
  off : ∀ d ∈ ds, ∀ la dx, H d = some (.ins Z.C dx (df L la)) → la ≠ t ∧ la ≠ O ∧ la ≠ GZ
  dt : ∀ d ∈ ds, d ≠ t
  nd : ds.Nodup
  lo : Lots K H gs lots
  gne : ∀ a ∈ gs, a ≠ t ∧ a ≠ O ∧ a ≠ GZ
  pl : ps.length = ds.length ∧ sss.length = ds.length
  gl : gs.length = ds.length
  ph : ∀ (i : Nat) (p : Addr) (ss : List Pr), ps[i]? = some p → sss[i]? = some ss → LAt K H p (ss.map encP) ∧ (p ≠ t ∧ p ≠ O ∧ p ≠ GZ) ∧ StepsH L ss
  ok : ∀ (i : Nat) (ks ls : List Lk) (ss : List Pr), hs[i]? = some ks → lots[i]? = some ls → sss[i]? = some ss → Canon ks (fun o => o ∈ ls) ∧ (∀ l ∈ ls, TrueH L ss l) ∧ ls.length ≤ b
  od : OldsD K H (SS O t GZ) ov es
  ol : ∀ e ∈ es, Old L n e
  el : es.length ≤ 2 * b
section
variable {Z : Ad} {K : PySem.W.Frag} {H H' : Hp} {t O M GZ P : Addr} {L : Int} {ds gs ps : List Addr} {hs lots : List (List Lk)} {sss : List (List Pr)} {ov : List V} {es : List OldE} {n b : Nat}
/-- all but the drawing stands -/
theorem Hist.mv (h : Hist Z K H t O M GZ P L ds gs ps hs lots sss ov es n b) {S : Addr → Prop} (k : Mv S H H') (hS : ∀ b, S b → NoT H b ∨ H b = none) (sub : ∀ b, S b → b = t) : Hist Z K H' t O M GZ P L ds gs ps hs lots sss ov es n b := by
  have no : ∀ {b}, b ≠ t → ¬ S b := fun hb s => hb (sub _ s)
  have dd : ∀ {i : Nat} {d : Addr} {ls : List Lk}, ds[i]? = some d → hs[i]? = some ls → DarkAt Z K H' d L ls ∧ ∀ la dx, H' d = some (.ins Z.C dx (df L la)) → ∃ dx', H d = some (.ins Z.C dx' (df L la)) := fun {i d ls} e1 e2 => Mv.dark (h.dk.2 i d ls e1 e2) k hS (no (h.dt d (List.mem_of_getElem? e1))) fun la dx e => no (h.off d (List.mem_of_getElem? e1) la dx e).1
  refine ⟨k _ _ h.m (no h.mt.1), k _ _ h.gz (no h.gt.1), k _ _ h.p (no h.pt.1), k _ _ h.o (no h.ot), h.mt, h.gt, h.pt, h.ot, ⟨h.dk.1, fun i d ls e1 e2 => (dd e1 e2).1⟩, fun d hd la dx e => ?_, h.dt, h.nd, h.lo.to (k.tups hS) fun a ha o e => k _ _ e (no (h.gne a ha).1), h.gne, h.pl, h.gl, fun i p ss e1 e2 => ?_, h.ok, ?_, h.ol, h.el⟩
  · obtain ⟨i, hi, e1⟩ := List.getElem_of_mem hd
    have e1' : ds[i]? = some d := by rw [List.getElem?_eq_getElem hi, e1]
    obtain ⟨ls, e2, _⟩ := h.dk.get e1'
    obtain ⟨dx', e'⟩ := (dd e1' e2).2 la dx e
    exact h.off d hd la dx' e'
  · obtain ⟨a1, a2, a3⟩ := h.ph i p ss e1 e2
    exact ⟨Mv.la a1 k hS (no a2.1), a2, a3⟩
  · exact h.od.mv k hS fun c zs _ hc s => hc (.inr (.inl (sub _ s)))
theorem Hist.same (h : Hist Z K H t O M GZ P L ds gs ps hs lots sss ov es n b) (S : Same H H') : Hist Z K H' t O M GZ P L ds gs ps hs lots sss ov es n b := h.mv (S := fun _ => False) (fun b o e _ => S b o e) (fun _ s => s.elim) fun _ s => s.elim
theorem Hist.keep (h : Hist Z K H t O M GZ P L ds gs ps hs lots sss ov es n b) {m : Nat} (T : Tray H t t m) (k : Keep t t H H') : Hist Z K H' t O M GZ P L ds gs ps hs lots sss ov es n b := h.mv (S := fun c => c = t) (fun c o e hc => k c o e hc hc) (fun c s => .inl (.inl (by
  obtain ⟨⟨f, c', u, h1, _⟩, _⟩ := T
  rw [s]; exact ⟨_, h1⟩))) fun _ s => s
/-- after the rings: the old ones have grown -/
theorem Hist.rings (h : Hist Z K H t O M GZ P L ds gs ps hs lots sss ov es n b) {ov' : List V} {es' : List OldE} (k : ButO O H H') (g : H' O = some (.lst ov')) (od : OldsD K H' (SS O t GZ) ov' es') (ol : ∀ e ∈ es', Old L n e) (el : es'.length ≤ 2 * b) : Hist Z K H' t O M GZ P L ds gs ps hs lots sss ov' es' n b := by
  have hS : ∀ c, c = O → NoT H c ∨ H c = none := fun c s => .inl (.inl (by rw [s]; exact ⟨_, h.o⟩))
  have dne : ∀ d ∈ ds, d ≠ O := fun d hd e => by
    obtain ⟨ls, D⟩ := h.dk.mem hd
    obtain ⟨dx, la, vs, e1, _⟩ := D.ex
    rw [e, h.o] at e1; cases e1
  have dd : ∀ {i : Nat} {d : Addr} {ls : List Lk}, ds[i]? = some d → hs[i]? = some ls → DarkAt Z K H' d L ls ∧ ∀ la dx, H' d = some (.ins Z.C dx (df L la)) → ∃ dx', H d = some (.ins Z.C dx' (df L la)) := fun {i d ls} e1 e2 => Mv.dark (S := fun c => c = O) (h.dk.2 i d ls e1 e2) k hS (dne d (List.mem_of_getElem? e1)) fun la dx e => (h.off d (List.mem_of_getElem? e1) la dx e).2.1
  refine ⟨k _ _ h.m h.mt.2.1, k _ _ h.gz h.gt.2, k _ _ h.p h.pt.2.1, g, h.mt, h.gt, h.pt, h.ot, ⟨h.dk.1, fun i d ls e1 e2 => (dd e1 e2).1⟩, fun d hd la dx e => ?_, h.dt, h.nd, h.lo.to (k.tups h.o) fun a ha o e => k _ _ e (h.gne a ha).2.1, h.gne, h.pl, h.gl, fun i p ss e1 e2 => ?_, h.ok, od, ol, el⟩
  · obtain ⟨i, hi, e1⟩ := List.getElem_of_mem hd
    have e1' : ds[i]? = some d := by rw [List.getElem?_eq_getElem hi, e1]
    obtain ⟨ls, e2, _⟩ := h.dk.get e1'
    obtain ⟨dx', e'⟩ := (dd e1' e2).2 la dx e
    exact h.off d hd la dx' e'
  · obtain ⟨a1, a2, a3⟩ := h.ph i p ss e1 e2
    exact ⟨Mv.la (S := fun c => c = O) a1 k hS a2.2.1, a2, a3⟩
end
end KA
namespace KA
open PySem PySem.Spec PyProof.Rows L2 DP
/-! ### a turn of a history -/
section
variable {Z : Ad} {K : PySem.W.Frag} {H H' : Hp} {t O M GZ P : Addr} {L : Int} {ds gs ps : List Addr} {hs lots : List (List Lk)} {sss : List (List Pr)} {ov : List V} {es : List OldE} {n b : Nat}
theorem Hist.turn (h : Hist Z K H t O M GZ P L ds gs ps hs lots sss ov es n b) {N j : Nat} {d G r : Addr} {hs' ls' : List Lk} {ss : List Pr} (T : Tray H t t N) (ed : ds[j]? = some d) (eG : gs[j]? = some G) (es' : sss[j]? = some ss) (B : ButD t t d H H') (D' : DarkAt Z K H' d L hs') (F : ∀ la dx, H' d = some (.ins Z.C dx (df L la)) → (∃ dx', H d = some (.ins Z.C dx' (df L la))) ∨ H la = none) (lk : LkAt K H' r ls') (hr : r = G ∨ H r = none) (C' : Canon hs' (fun o => o ∈ ls')) (tr' : ∀ l ∈ ls', TrueH L ss l) (hl' : ls'.length ≤ b + 1) :
    Hist Z K (upd H' GZ (.lst (refs (gs.set j r)))) t O M GZ P L ds (gs.set j r) ps (hs.set j hs') (lots.set j ls') sss ov es n (b + 1) := by
  have hdm := List.mem_of_getElem? ed
  have hGm := List.mem_of_getElem? eG
  obtain ⟨ls0, e0, D0⟩ := h.dk.get ed
  obtain ⟨dx0, la0, vs0, q1, _⟩ := D0.ex
  obtain ⟨⟨f, c, u, t1, _⟩, _⟩ := T
  have dGZ : d ≠ GZ := fun e => by rw [e, h.gz] at q1; cases q1
  have dl : ∀ {a xs}, H a = some (HO.lst xs) → a ≠ d := fun {a xs} ha e => by rw [e, q1] at ha; cases ha
  have live : ∀ {a}, H a = none → a ≠ t ∧ a ≠ O ∧ a ≠ GZ := fun {a} ha => ⟨fun e => (by rw [e, t1] at ha; cases ha), fun e => (by rw [e, h.o] at ha; cases ha), fun e => (by rw [e, h.gz] at ha; cases ha)⟩
  have S3 : Mv (fun c => c = t ∨ c = d ∨ c = GZ) H (upd H' GZ (.lst (refs (gs.set j r)))) := fun c o e hc => by
    have c1 : c ≠ t := fun z => hc (.inl z)
    have c2 : c ≠ d := fun z => hc (.inr (.inl z))
    have c3 : c ≠ GZ := fun z => hc (.inr (.inr z))
    rw [upd_ne c3]
    exact B c o e c1 c1 c2
  have hS : ∀ c, (c = t ∨ c = d ∨ c = GZ) → NoT H c ∨ H c = none := fun c hc => by
    rcases hc with e | e | e <;> rw [e]
    · exact .inl (.inl ⟨_, t1⟩)
    · exact .inl (.inr ⟨_, _, _, q1⟩)
    · exact .inl (.inl ⟨_, h.gz⟩)
  have no : ∀ {a xs}, H a = some (HO.lst xs) → a ≠ t → a ≠ GZ → ¬ (a = t ∨ a = d ∨ a = GZ) := fun {a xs} ha h1 h2 hc => by
    rcases hc with e | e | e
    · exact h1 e
    · exact dl ha e
    · exact h2 e
  have S2 : Mv (fun c => c = GZ) H' (upd H' GZ (.lst (refs (gs.set j r)))) := fun c o e hc => by rw [upd_ne hc]; exact e
  have gz' : H' GZ = some (.lst (refs gs)) := B _ _ h.gz h.gt.1 h.gt.1 (dl h.gz)
  have hS2 : ∀ c, c = GZ → NoT H' c ∨ H' c = none := fun c e => by rw [e]; exact .inl (.inl ⟨_, gz'⟩)
  have rne : r ≠ t ∧ r ≠ O ∧ r ≠ GZ := by
    rcases hr with e | e
    · rw [e]; exact h.gne G hGm
    · exact live e
  have offj : ∀ la dx, H' d = some (.ins Z.C dx (df L la)) → la ≠ t ∧ la ≠ O ∧ la ≠ GZ := fun la dx e => by
    rcases F la dx e with ⟨dx', e'⟩ | e'
    · exact h.off d hdm la dx' e'
    · exact live e'
  have Dj := Mv.dark D' S2 hS2 dGZ fun la dx e => (offj la dx e).2.2
  have dd : ∀ {i : Nat} {d2 : Addr} {ls : List Lk}, i ≠ j → ds[i]? = some d2 → hs[i]? = some ls → DarkAt Z K (upd H' GZ (.lst (refs (gs.set j r)))) d2 L ls ∧ ∀ la dx, (upd H' GZ (.lst (refs (gs.set j r)))) d2 = some (.ins Z.C dx (df L la)) → ∃ dx', H d2 = some (.ins Z.C dx' (df L la)) := fun {i d2 ls} hij e1 e2 => by
    have DD := h.dk.2 i d2 ls e1 e2
    obtain ⟨dx2, la2, vs2, p1, p2, _⟩ := id DD.ex
    have hm2 := List.mem_of_getElem? e1
    have hne : d2 ≠ d := fun e => by
      rw [e] at e1
      have i1 := (List.getElem?_eq_some_iff.mp e1)
      have i2 := (List.getElem?_eq_some_iff.mp ed)
      obtain ⟨l1, v1⟩ := i1
      obtain ⟨l2, v2⟩ := i2
      rcases Nat.lt_trichotomy i j with c | c | c
      · exact List.pairwise_iff_getElem.mp h.nd i j l1 l2 c (v1.trans v2.symm)
      · exact hij c
      · exact List.pairwise_iff_getElem.mp h.nd j i l2 l1 c (v2.trans v1.symm)
    refine Mv.dark DD S3 hS (fun hc => ?_) fun la dx e hc => ?_
    · rcases hc with e | e | e
      · exact h.dt d2 hm2 e
      · exact hne e
      · rw [e, h.gz] at p1; cases p1
    · have o2 := h.off d2 hm2 la dx e
      rcases hc with e' | e' | e'
      · exact o2.1 e'
      · rw [p1] at e
        have := df_inj e
        rw [← this] at e'
        exact dl p2 e'
      · exact o2.2.2 e'
  have hlk : ∀ {a ks}, LkAt K H a ks → a ≠ t → a ≠ GZ → LkAt K (upd H' GZ (.lst (refs (gs.set j r)))) a ks := fun {a ks} l h1 h2 => by
    obtain ⟨vs, e1, _⟩ := id l
    exact Mv.lk l S3 hS (no e1 h1 h2)
  refine ⟨S3 _ _ h.m (no h.m h.mt.1 h.mt.2.2), upd_same, S3 _ _ h.p (no h.p h.pt.1 h.pt.2.2), S3 _ _ h.o (no h.o h.ot (Ne.symm h.gt.2)), h.mt, h.gt, h.pt, h.ot, ⟨by rw [List.length_set]; exact h.dk.1, fun i d2 ls e1 e2 => ?_⟩, fun d2 hd2 la dx e => ?_, h.dt, h.nd, ⟨by rw [List.length_set, List.length_set]; exact h.lo.1, fun i a ks e1 e2 => ?_⟩, fun a ha => ?_, h.pl, by rw [List.length_set]; exact h.gl, fun i p ss2 e1 e2 => ?_, fun i ks ls2 ss2 e1 e2 e3 => ?_, ?_, h.ol, by have := h.el; omega⟩
  · rcases at_set e2 with ⟨rfl, rfl, _⟩ | ⟨hij, e2'⟩
    · rw [ed] at e1
      rw [← Option.some.inj e1]; exact Dj.1
    · exact (dd hij e1 e2').1
  · obtain ⟨i, hi, e1⟩ := List.getElem_of_mem hd2
    have e1' : ds[i]? = some d2 := by rw [List.getElem?_eq_getElem hi, e1]
    by_cases hij : i = j
    · rw [hij, ed] at e1'
      have e2 := Option.some.inj e1'
      rw [← e2] at e
      obtain ⟨dx', e'⟩ := Dj.2 la dx e
      exact offj la dx' e'
    · obtain ⟨ls, e2, _⟩ := h.dk.get e1'
      obtain ⟨dx', e'⟩ := (dd hij e1' e2).2 la dx e
      exact h.off d2 hd2 la dx' e'
  · rcases at_set e1 with ⟨rfl, rfl, _⟩ | ⟨hij, e1'⟩
    · rcases at_set e2 with ⟨_, rfl, _⟩ | ⟨hij, _⟩
      · exact Mv.lk lk S2 hS2 rne.2.2
      · exact absurd rfl hij
    · rcases at_set e2 with ⟨hij', _⟩ | ⟨_, e2'⟩
      · exact absurd hij' hij
      · have g := h.gne a (List.mem_of_getElem? e1')
        exact hlk (h.lo.2 i a ks e1' e2') g.1 g.2.2
  · rcases List.mem_or_eq_of_mem_set ha with q | q
    · exact h.gne a q
    · rw [q]; exact rne
  · obtain ⟨a1, a2, a3⟩ := h.ph i p ss2 e1 e2
    refine ⟨?_, a2, a3⟩
    obtain ⟨vs, v1, _⟩ := id a1
    exact Mv.la a1 S3 hS (no v1 a2.1 a2.2.2)
  · rcases at_set e1 with ⟨rfl, rfl, _⟩ | ⟨hij, e1'⟩
    · rcases at_set e2 with ⟨_, rfl, _⟩ | ⟨hij, _⟩
      · rw [es'] at e3
        rw [← Option.some.inj e3]
        exact ⟨C', tr', hl'⟩
      · exact absurd rfl hij
    · rcases at_set e2 with ⟨hij', _⟩ | ⟨_, e2'⟩
      · exact absurd hij' hij
      · obtain ⟨c1, c2, c3⟩ := h.ok i ks ls2 ss2 e1' e2' e3
        exact ⟨c1, c2, by omega⟩
  · refine h.od.mv S3 hS fun c zs hc hs1 hs2 => ?_
    rcases hs2 with e | e | e
    · exact hs1 (.inr (.inl e))
    · exact dl hc e
    · exact hs1 (.inr (.inr e))
end
end KA

namespace KA
open PySem PySem.Spec PyProof.Rows L2 DP
def pick {α : Type} (l : List α) (x : α) (ord : List Nat) : List α := ord.map fun k => l.getD k x
theorem pick_snoc {α : Type} (l : List α) (x : α) (a b : List Nat) : pick l x (a ++ b) = pick l x a ++ pick l x b := by unfold pick; rw [List.map_append]
theorem pick_one {α : Type} {l : List α} {x y : α} {k : Nat} (h : l[k]? = some y) : pick l x [k] = [y] := by
  show [l.getD k x] = [y]
  rw [List.getD_eq_getElem?_getD, h]; rfl
theorem darks_pick {Z : Ad} {K : PySem.W.Frag} {H : Hp} {ds : List Addr} {L : Int} {hs : List (List Lk)} (D : Darks Z K H ds L hs) {ord : List Nat} (h : ∀ k ∈ ord, k < ds.length) (x : Addr) : Darks Z K H (pick ds x ord) L (pick hs [] ord) := by
  refine ⟨by simp [pick], fun i d ls e1 e2 => ?_⟩
  obtain ⟨k1, a1, rfl⟩ := map_at e1
  obtain ⟨k2, a2, rfl⟩ := map_at e2
  rw [a1] at a2
  have e := Option.some.inj a2
  subst e
  have hk := h k1 (List.mem_of_getElem? a1)
  have hl := D.1
  refine D.2 k1 _ _ ?_ ?_
  · rw [List.getD_eq_getElem?_getD, List.getElem?_eq_getElem hk]; rfl
  · rw [List.getD_eq_getElem?_getD, List.getElem?_eq_getElem (by omega)]; rfl
def spLaw (K : PySem.W.Frag) : Sp := fun vs H Q _ => ∃ (a : Addr) (ns : List Int), vs = [.ref a] ∧ SqL K H a (ns.map V.int) ∧ ns.length ≤ 63 ∧ ∀ H', Q (.bl true) H'
section
variable {P : Program} {w : World} {K : PySem.W.Frag} {mg : Str → Option Value} {base : Heap} {Z : Ad} {Y : AdX}
theorem ok_law (T : Tx K w mg Z) (X : Ex P K mg Y) : FnOk P w K mg base CX0 10 Z.a_law Z.d_law P_law (spLaw K) := by
  refine T.F_law.ok sclaw (fun vs H Q E h => ?_) (fun cdv A outer s H vs Q E hr h => ?_)
  · obtain ⟨a, ns, rfl, _⟩ := h
    rfl
  · obtain ⟨a, ns, rfl, hS, hlen, k⟩ := h
    refine ⟨_, (pss_cons (ps_for PassesOwn.never rfl (pi_range1 (by rfl) T.b_range (pa_cons (pe_callB (call_max2 rfl) (by rfl) T.b_max (by decide +kernel) (pa_cons pe_int (pa_cons (pe_callB (call_min2 rfl) (by rfl) T.b_min (by decide +kernel) (pa_cons pe_int (pa_cons (pe_callB (lenK (K := K)) (by rfl) T.b_len (by decide +kernel) (pa_cons (pv 0) pa_nil)) pa_nil))) pa_nil))) pa_nil)) (pg_name (i := 1) sclaw.nd rfl (Or.inl rfl)) (pss_cons (ps_set (i := 2) sclaw.nd rfl (Or.inr rfl) (pe_call (ok_law_pot T) (hr.mono (by decide)) (by rfl) T.g_law_pot T.F_law_pot.kp T.bb_law_pot .nil pass0 (pa_cons (pv 0) (pa_cons (pv 1) pa_nil))))
      (C8.pss_cut (ps_set (i := 3) sclaw.nd rfl (Or.inr rfl) (pe_call (ok_law_wide T) (hr.mono (by decide)) (by rfl) T.g_law_wide T.F_law_wide.kp T.bb_law_wide .nil pass0 (pa_cons (pv 2) pa_nil)))
      (C8.pss_cut (ps_set (i := 4) sclaw.nd rfl (Or.inl rfl) (pe_op op_add pe_int (pe_call (ok_law_draw T) (hr.mono (by decide)) (by rfl) T.g_law_draw T.F_law_draw.kp T.bb_law_draw .nil pass0 (pa_cons (pv 2) (pa_cons pe_int pa_nil)))))
      (C8.pss_cut (ps_setLc (i := 5) (own := [("one", 6)]) (g := gName 6) (tt := tYes) rfl sclaw.nd rfl rfl (sw_true rfl rfl rfl (by decide +kernel)) (pi_range1 (by rfl) T.b_range (pa_cons (pv 4) pa_nil)) (blkOk_by (own := [("one", 6)]) (N := N_law) (sc := defScope slaw) (by decide +kernel)) (fun _ _ _ _ _ => (pg_name (i := 6) sclaw.nd rfl (Or.inl rfl))) (fun _ _ _ _ _ => pts_nil) (fun _ _ _ _ _ => (pe_call (ok_law_hidden T) (hr.mono (by decide)) (by rfl) T.g_law_hidden T.F_law_hidden.kp T.bb_law_hidden .nil pass0 (pa_cons (pv 2) (pa_cons (pv 3) (pa_cons pe_int pa_nil))))))
      (C8.pss_cut (ps_set (i := 7) sclaw.nd rfl (Or.inl rfl) (pe_op op_cat (pe_listRg rfl (by rfl) T.b_list (prg_1 (by rfl) T.b_range (pv 4))) (pe_op op_rep (pe_lst (pa_cons pe_int pa_nil)) (pe_call (ok_law_draw T) (hr.mono (by decide)) (by rfl) T.g_law_draw T.F_law_draw.kp T.bb_law_draw .nil pass0 (pa_cons (pv 2) (pa_cons pe_int pa_nil))))))
      (C8.pss_cut (ps_set (i := 8) sclaw.nd rfl (Or.inr rfl) (pe_lc (own := [("one", 6)]) (g := gName 6) (tt := tYes) rfl sclaw.nd (pi_range1 (by rfl) T.b_range (pa_cons (pv 4) pa_nil)) (blkOk_by (own := [("one", 6)]) (N := N_law) (sc := defScope slaw) (by decide +kernel)) (fun _ _ _ _ _ => (pg_name (i := 6) sclaw.nd rfl (Or.inl rfl))) (fun _ _ _ _ _ => pts_nil) (fun _ _ _ _ _ => (pe_make T.mk_Dark (ok_Dark_init T) (hr.mono (by decide)) (by rfl) T.g_Dark T.bb_Dark_init .nil pass0 (pa_cons (pv 3) pa_nil)))))
      (C8.pss_cut (ps_set (i := 9) sclaw.nd rfl (Or.inr rfl) (pe_lc (own := [("one", 6)]) (g := gName 6) (tt := tYes) rfl sclaw.nd (pi_range1 (by rfl) T.b_range (pa_cons (pv 4) pa_nil)) (blkOk_by (own := [("one", 6)]) (N := N_law) (sc := defScope slaw) (by decide +kernel)) (fun _ _ _ _ _ => (pg_name (i := 6) sclaw.nd rfl (Or.inl rfl))) (fun _ _ _ _ _ => pts_nil) (fun _ _ _ _ _ => (pe_lst pa_nil))))
      (C8.pss_cut (ps_set (i := 10) sclaw.nd rfl (Or.inl rfl) (pe_lst pa_nil))
      (pss_one (ps_for PassesOwn.never rfl (pi_range1 (by rfl) T.b_range (pa_cons (pe_call (ok_law_draw T) (hr.mono (by decide)) (by rfl) T.g_law_draw T.F_law_draw.kp T.bb_law_draw .nil pass0 (pa_cons (pv 2) (pa_cons pe_int pa_nil))) pa_nil)) (pg_name (i := 11) sclaw.nd rfl (Or.inl rfl)) (C8.pss_cut (ps_set (i := 12) sclaw.nd rfl (Or.inl rfl) (pe_call (ok_law_draw T) (hr.mono (by decide)) (by rfl) T.g_law_draw T.F_law_draw.kp T.bb_law_draw .nil pass0 (pa_cons (pv 2) (pa_cons (pv 4) pa_nil))))
      (pss_cons (ps_asg (pe_call (ok_law_turn T) (hr.mono (by decide)) (by rfl) T.g_law_turn T.F_law_turn.kp T.bb_law_turn .nil pass0 (pa_cons (pv 2) (pa_cons (pe_ix (ixL (K := K)) (pv 8) (pv 12) (fun _ _ => rfl)) (pa_cons (pe_ix (ixL (K := K)) (pv 9) (pv 12) (fun _ _ => rfl)) (pa_cons (pv 3) (pa_cons (pe_ix (ixL (K := K)) (pv 5) (pv 12) (fun _ _ => rfl)) pa_nil)))))) (pg_sub (pv 9) (pv 12) set_list))
      (C8.pss_cut (ps_setLc (i := 13) (own := [("one", 6)]) (g := gName 6) (tt := tYes) rfl sclaw.nd rfl rfl (sw_true rfl rfl rfl (by decide +kernel)) (pi_list (pv 7)) (blkOk_by (own := [("one", 6)]) (N := N_law) (sc := defScope slaw) (by decide +kernel)) (fun _ _ _ _ _ => (pg_name (i := 6) sclaw.nd rfl (Or.inl rfl))) (fun _ _ _ _ _ => pts_nil) (fun _ _ _ _ _ => (pe_ix (ixL (K := K)) (pv 8) (pv 6) (fun _ _ => rfl))))
      (C8.pss_cut (ps_set (i := 14) sclaw.nd rfl (Or.inr rfl) (pe_lc (own := [("gaze", 15)]) (g := gName 15) (tt := tYes) rfl sclaw.nd (pi_list (pv 9)) (blkOk_by (own := [("gaze", 15)]) (N := N_law) (sc := defScope slaw) (by decide +kernel)) (fun _ _ _ _ _ => (pg_name (i := 15) sclaw.nd rfl (Or.inl rfl))) (fun _ _ _ _ _ => pts_nil) (fun _ _ _ _ _ => (pe_call (ok_law_fresh T) (hr.mono (by decide)) (by rfl) T.g_law_fresh T.F_law_fresh.kp T.bb_law_fresh .nil pass0 (pa_cons (pv 3) (pa_cons (pv 15) pa_nil))))))
      (C8.pss_cut (ps_par (i := 16) (j := 17) (by rfl) sclaw.nd rfl rfl (by decide) rfl rfl (pa_cons (pe_call (ok_law_draw T) (hr.mono (by decide)) (by rfl) T.g_law_draw T.F_law_draw.kp T.bb_law_draw .nil pass0 (pa_cons (pv 2) (pa_cons (pe_op op_mulW pe_int (pv 3)) pa_nil))) (pa_cons (pe_call (ok_law_draw T) (hr.mono (by decide)) (by rfl) T.g_law_draw T.F_law_draw.kp T.bb_law_draw .nil pass0 (pa_cons (pv 2) (pa_cons (pe_op op_powW pe_int pe_int) pa_nil))) pa_nil)) (by rfl))
      (C8.pss_cut (ps_set (i := 18) sclaw.nd rfl (Or.inl rfl) (pe_op op_sub (pe_op op_add (pv 16) (pe_call (ok_law_draw T) (hr.mono (by decide)) (by rfl) T.g_law_draw T.F_law_draw.kp T.bb_law_draw .nil pass0 (pa_cons (pv 2) (pa_cons (pe_op op_mulW pe_int (pv 3)) pa_nil)))) (pv 3)))
      (C8.pss_cut (ps_if (pt_cmpR (neDK (K := K) hr.units) (pe_call (ok_law_told T) (hr.mono (by decide)) (by rfl) T.g_law_told T.F_law_told.kp T.bb_law_told .nil pass0 (pa_cons (pv 13) (pa_cons (pv 16) (pa_cons (pv 18) (pa_cons (pv 17) pa_nil))))) (pe_call (ok_law_told T) (hr.mono (by decide)) (by rfl) T.g_law_told T.F_law_told.kp T.bb_law_told .nil pass0 (pa_cons (pe_lc (own := [("one", 6)]) (g := gName 6) (tt := tYes) rfl sclaw.nd (pi_list (pv 7)) (blkOk_by (own := [("one", 6)]) (N := N_law) (sc := defScope slaw) (by decide +kernel)) (fun _ _ _ _ _ => (pg_name (i := 6) sclaw.nd rfl (Or.inl rfl))) (fun _ _ _ _ _ => pts_nil) (fun _ _ _ _ _ => (pe_ix (ixL (K := K)) (pv 14) (pv 6) (fun _ _ => rfl)))) (pa_cons (pv 16) (pa_cons (pv 18) (pa_cons (pv 17) pa_nil))))) (nomark _)) (pss_one (ps_ret pe_bl)) pss_nil)
      (pss_one (ps_if (pt_not (pt_val (pe_call (ok_law_rings_right T X) (hr.mono (by decide)) (by rfl) T.g_law_rings_right T.F_law_rings_right.kp T.bb_law_rings_right .nil pass0 (pa_cons (pv 13) (pa_cons (pe_lc (own := [("one", 6)]) (g := gName 6) (tt := tYes) rfl sclaw.nd (pi_list (pv 7)) (blkOk_by (own := [("one", 6)]) (N := N_law) (sc := defScope slaw) (by decide +kernel)) (fun _ _ _ _ _ => (pg_name (i := 6) sclaw.nd rfl (Or.inl rfl))) (fun _ _ _ _ _ => pts_nil) (fun _ _ _ _ _ => (pe_ix (ixL (K := K)) (pv 9) (pv 6) (fun _ _ => rfl)))) (pa_cons (pv 10) pa_nil)))))) (pss_one (ps_ret pe_bl)) pss_nil))))))))))))))))))))
      (pss_one (ps_ret pe_bl))), ?_⟩
    refine ⟨_, rfl, a, _, rfl, .inl hS, _, _, rfl, _, _, rfl, ?_⟩
    obtain ⟨m4, hm4⟩ : ∃ m4, m4 = (if ((ns.map V.int).length : Int) < 4 then ((ns.map V.int).length : Int) else 4) := ⟨_, rfl⟩
    obtain ⟨cut, hcut⟩ : ∃ cut, cut = (if (1 : Int) < m4 then m4 else 1) := ⟨_, rfl⟩
    have hm44 : m4 ≤ 4 := by rw [hm4]; split <;> omega
    have hc0 : 0 ≤ cut := by rw [hcut]; split <;> omega
    have hc4 : cut ≤ 4 := by rw [hcut]; split <;> omega
    refine ⟨cut, by rw [hcut, hm4], by omega, by omega, ?_⟩
    refine for_range (lo := 0) (n := cut.toNat) (fun i σ' H' => ∃ (u1 u2 u3 u4 u5 u6 u7 u8 u9 u10 u11 u12 u13 u14 u15 u16 u17 u18 : Option V), σ' = [some (.ref a), u1, u2, u3, u4, u5, u6, u7, u8, u9, u10, u11, u12, u13, u14, u15, u16, u17, u18] ∧ Same H H') ⟨_, _, _, _, _, _, _, _, _, _, _, _, _, _, _, _, _, _, rfl, fun _ _ e => e⟩ ?_ ?_
    rotate_left
    · rintro σ' H' ⟨_, _, _, _, _, _, _, _, _, _, _, _, _, _, _, _, _, _, rfl, _⟩
      exact k H'
    rintro i σ' H1 hi ⟨u1, u2, u3, u4, u5, u6, u7, u8, u9, u10, u11, u12, u13, u14, u15, u16, u17, u18, rfl, S1⟩
    have hi3 : i < 4 := by omega
    refine ⟨_, rfl, _, rfl, a, ns, 0 + (i : Nat), rfl, Same.sqL S1 hS, hlen, by omega, by omega, fun H2 t T2 S2 ht => ?_⟩
    have S12 := S1.trans S2
    have fin : ∀ {H7 : Hp} {nn : Nat}, At H2 H7 t t nn → Same H H7 := fun {H7 nn} A7 b o e => by
      have e1 := S1 b o e
      have hbt : b ≠ t := fun q => by
        subst q
        rw [e1] at ht; cases ht
      exact A7.k _ _ (S2 _ _ e1) hbt hbt
    have A2 : At H2 H2 t t 0 := ⟨T2, Keep.refl _ _ _⟩
    -- wide
    refine ⟨fun σ' H' => ∃ (L : Int), σ' = [some (.ref a), some (.int (0 + (i : Nat))), some (.ref t), some (.int L), u4, u5, u6, u7, u8, u9, u10, u11, u12, u13, u14, u15, u16, u17, u18] ∧ 0 < L ∧ L ≤ 10 ^ 30 ∧ At H2 H' t t 2, ?_, ?_⟩
    · exact ⟨_, rfl, t, t, 0, rfl, T2, by decide, fun H3 L hL hL30 B3 => ⟨L, rfl, hL, hL30, B3⟩⟩
    rintro σ3 H3 ⟨L, rfl, hL, hL30, A3⟩
    have hLb := bigL hL hL30
    have hL2 : L.natAbs < 2 ^ 200 := lt_up hLb (by decide)
    -- many
    refine ⟨fun σ' H' => ∃ (m : Nat), σ' = [some (.ref a), some (.int (0 + (i : Nat))), some (.ref t), some (.int L), some (.int (m : Int)), u5, u6, u7, u8, u9, u10, u11, u12, u13, u14, u15, u16, u17, u18] ∧ 0 < m ∧ m ≤ 3 ∧ At H2 H' t t 3, ?_, ?_⟩
    · refine ⟨_, rfl, t, t, 2, 3, rfl, A3.T, by decide, by decide, by decide, fun H4 r r0 r1 T4 k4 => ⟨_, _, rfl, rfl, (1 + r).toNat, ?_, by omega, by omega, A3.step T4 k4⟩⟩
      have e : (((1 + r).toNat : Nat) : Int) = 1 + r := by omega
      rw [e]; rfl
    rintro σ4 H4 ⟨m, rfl, hm0, hm3, A4⟩
    -- hidden
    refine ⟨fun σ' H' => ∃ (P : Addr) (ps : List Addr) (sss : List (List Pr)), σ' = [some (.ref a), some (.int (0 + (i : Nat))), some (.ref t), some (.int L), some (.int (m : Int)), some (.ref P), u6, u7, u8, u9, u10, u11, u12, u13, u14, u15, u16, u17, u18] ∧ At H2 H' t t 603 ∧ H' P = some (.lst (refs ps)) ∧ P ≠ t ∧ ps.length = m ∧ sss.length = m ∧ ∀ (j : Nat) (p : Addr) (ss : List Pr), ps[j]? = some p → sss[j]? = some ss → LAt K H' p (ss.map encP) ∧ p ≠ t ∧ StepsH L ss, ?_, ?_⟩
    · refine ⟨_, rfl, (m : Int), rfl, by omega, Int.lt_of_le_of_lt (by omega : (m : Int) ≤ 3) (by decide), fun D hD => ?_⟩
      obtain ⟨Dt, _⟩ := A4.T.at_ne hD
      refine lc_range (lo := 0) (n := ((m : Int)).toNat) (fun i H' => At H2 H' t t (3 + 200 * i) ∧ ∃ (ps : List Addr) (sss : List (List Pr)), H' D = some (.lst (refs ps)) ∧ ps.length = i ∧ sss.length = i ∧ ∀ (j : Nat) (p : Addr) (ss : List Pr), ps[j]? = some p → sss[j]? = some ss → LAt K H' p (ss.map encP) ∧ (p ≠ t ∧ p ≠ D) ∧ StepsH L ss) ⟨A4.new hD, [], [], upd_same, rfl, rfl, fun j p ss e => by simp at e⟩ ?_ ?_
      · rintro j H5 hj ⟨A5, ps, sss, gD, hpl, hsl, hps⟩
        have hj3 : j < m := by simpa using hj
        refine ⟨rfl, yes_ite ?_⟩
        refine ⟨_, rfl, _, rfl, t, t, 3 + 200 * j, L, 6, rfl, A5.T, Nat.lt_of_le_of_lt (by omega : _ ≤ 1000) (by decide), hL, hL30, by decide, by decide, fun H6 p prs hp B6 lp R hl => ?_⟩
        obtain ⟨pt, _⟩ := A5.T.at_ne hp
        have pD : p ≠ D := Ne.symm (ne_of_none gD hp)
        have gD6 := B6.k _ _ gD Dt Dt
        refine ⟨_, gD6, small1000 (by simp [refs]; omega), ((A5.step B6.T B6.k).acc (A4.free hD) Dt Dt).up (by omega), ps ++ [p], sss ++ [prs], by show _ = some (HO.lst ((ps ++ [p]).map V.ref)); rw [List.map_append]; exact upd_same, by simp [hpl], by simp [hsl], fun j2 p2 ss2 e1 e2 => ?_⟩
        have to : ∀ {q : Addr} {qs : List Pr}, q ≠ D → LAt K H6 q (qs.map encP) → LAt K (upd H6 D (.lst (refs ps ++ [V.ref p]))) q (qs.map encP) := fun {q qs} hq l => by
          obtain ⟨vs, v1, v2⟩ := l
          exact ⟨vs, by rw [upd_ne hq]; exact v1, dpAll_tups (Tups.upd_lst gD6) _ _ (noLs_map noL_encP _) v2⟩
        by_cases hjj : j2 < j
        · rw [List.getElem?_append_left (by omega)] at e1 e2
          obtain ⟨b1, b2, b3⟩ := hps j2 p2 ss2 e1 e2
          exact ⟨to b2.2 (b1.keep A5.T B6.k b2.1 b2.1 (noLs_map noL_encP _)), b2, b3⟩
        · have hj2 : j2 = j := by
            have := (List.getElem?_eq_some_iff.mp e1).1
            simp at this; omega
          rw [hj2, List.getElem?_append_right (by omega), hpl] at e1
          rw [hj2, List.getElem?_append_right (by omega), hsl] at e2
          simp at e1 e2
          subst e1 e2
          exact ⟨to pD lp, ⟨pt, pD⟩, rises_steps hLb R (by omega)⟩
      rintro H5 ⟨A5, ps, sss, gD, hpl, hsl, hps⟩
      have em : ((m : Int)).toNat = m := by simp
      rw [em] at A5 hpl hsl
      exact ⟨D, ps, sss, rfl, A5.up (by omega), gD, Dt, hpl, hsl, fun j p ss e1 e2 => ⟨(hps j p ss e1 e2).1, (hps j p ss e1 e2).2.1.1, (hps j p ss e1 e2).2.2⟩⟩
    rintro σ5 H5 ⟨P, ps, sss, rfl, A5, gP, Pt, hpl, hsl, hps⟩
    -- order
    refine ⟨fun σ' H' => ∃ (Or : Addr) (ord : List Nat), σ' = [some (.ref a), some (.int (0 + (i : Nat))), some (.ref t), some (.int L), some (.int (m : Int)), some (.ref P), u6, some (.ref Or), u8, u9, u10, u11, u12, u13, u14, u15, u16, u17, u18] ∧ At H5 H' t t 604 ∧ H' Or = some (.lst ((ord.map Int.ofNat).map V.int)) ∧ Or ≠ t ∧ 0 < ord.length ∧ ord.length ≤ 4 ∧ ∀ k ∈ ord, k < m, ?_, ?_⟩
    · have A55 : At H5 H5 t t 603 := ⟨A5.T, Keep.refl _ _ _⟩
      refine ⟨_, rfl, (m : Int), rfl, RgOk.of_le (by omega) (by omega) (by omega) (by omega), fun q hq => ?_⟩
      obtain ⟨qt, _⟩ := A5.T.at_ne hq
      have er : rgV 0 (m : Int) = (natsL m).map V.int := by
        unfold rgV natsL
        simp
      have A6 := A55.new (o := HO.lst (rgV 0 (m : Int))) hq
      have g6 : (upd H5 q (HO.lst (rgV 0 (m : Int)))) q = some (.lst ((natsL m).map V.int)) := by rw [← er]; exact upd_same
      generalize upd H5 q (HO.lst (rgV 0 (m : Int))) = H6 at A6 g6 ⊢
      refine ⟨(by show 1 ≤ sizeLine; decide), fun q2 hq2 => ?_⟩
      obtain ⟨q2t, _⟩ := A6.T.at_ne hq2
      have A7 := A6.new (o := HO.lst [V.int 0]) hq2
      have g7 := (same_upd (o := HO.lst [V.int 0]) hq2) _ _ g6
      have g72 : (upd H6 q2 (HO.lst [V.int 0])) q2 = some (.lst [V.int 0]) := upd_same
      generalize upd H6 q2 (HO.lst [V.int 0]) = H7 at A7 g7 g72 ⊢
      refine ⟨_, rfl, t, t, 603, 2, rfl, A7.T, by decide, by decide, by decide, fun H8 r r0 r1 T8 k8 => ?_⟩
      have A8 := A7.step T8 k8
      have g8 := k8 _ _ g7 qt qt
      have g82 := k8 _ _ g72 q2t q2t
      refine ⟨q2, r, _, rfl, rfl, g82, by omega, by omega, Nat.le_trans (by simp; omega : _ ≤ 100) (by decide), fun q3 hq3 => ?_⟩
      have e3 : (List.replicate r.toNat [V.int 0]).flatten = ((List.replicate r.toNat 0).map Int.ofNat).map V.int := by
        have : r = 0 ∨ r = 1 := by omega
        rcases this with e | e <;> rw [e] <;> rfl
      have S9 := same_upd (o := HO.lst (List.replicate r.toNat [V.int 0]).flatten) hq3
      have A9 := A8.new (o := HO.lst (List.replicate r.toNat [V.int 0]).flatten) hq3
      have g9 : (upd H8 q3 (HO.lst (List.replicate r.toNat [V.int 0]).flatten)) q3 = some (.lst (((List.replicate r.toNat 0).map Int.ofNat).map V.int)) := by rw [← e3]; exact upd_same
      generalize upd H8 q3 (HO.lst (List.replicate r.toNat [V.int 0]).flatten) = H9 at S9 A9 g9 ⊢
      refine ⟨q, q3, _, _, rfl, rfl, S9 _ _ g8, g9, Nat.le_trans (by simp [natsL]; omega : _ ≤ 100) (by decide), fun q4 hq4 => ?_⟩
      obtain ⟨q4t, _⟩ := A9.T.at_ne hq4
      refine ⟨q4, List.range m ++ List.replicate r.toNat 0, rfl, (A9.new hq4).up (by omega), ?_, q4t, by simp; omega, by simp; omega, fun k hk => ?_⟩
      · rw [List.map_append, List.map_append]
        exact upd_same
      · rcases List.mem_append.mp hk with h | h
        · exact List.mem_range.mp h
        · rw [(List.mem_replicate.mp h).2]; exact hm0
    rintro σ6 H6 ⟨Or, ord, rfl, A6, gOr, Ort, ho0, ho4, hom⟩
    have A26 : At H2 H6 t t 604 := A5.step A6.T A6.k
    have gP6 := A6.k _ _ gP Pt Pt
    have hps6 : ∀ (j : Nat) (p : Addr) (ss : List Pr), ps[j]? = some p → sss[j]? = some ss → LAt K H6 p (ss.map encP) ∧ p ≠ t ∧ StepsH L ss := fun j p ss e1 e2 => by
      obtain ⟨b1, b2, b3⟩ := hps j p ss e1 e2
      exact ⟨b1.keep A5.T A6.k b2 b2 (noLs_map noL_encP _), b2, b3⟩
    clear hps gP
    -- made
    refine ⟨fun σ' H' => ∃ (M : Addr) (ds : List Addr), σ' = [some (.ref a), some (.int (0 + (i : Nat))), some (.ref t), some (.int L), some (.int (m : Int)), some (.ref P), u6, some (.ref Or), some (.ref M), u9, u10, u11, u12, u13, u14, u15, u16, u17, u18] ∧ Same H6 H' ∧ Row Z K H' t t M ds L (List.replicate m []) ∧ ds.length = m ∧ ds.Nodup ∧ M ≠ t ∧ ∀ d ∈ ds, H6 d = none, ?_, ?_⟩
    · refine ⟨_, rfl, (m : Int), rfl, by omega, Int.lt_of_le_of_lt (by omega : (m : Int) ≤ 3) (by decide), fun D hD => ?_⟩
      obtain ⟨Dt, _⟩ := A26.T.at_ne hD
      refine lc_range (lo := 0) (n := ((m : Int)).toNat) (fun i H' => Same H6 H' ∧ ∃ ds, Row Z K H' t t D ds L (List.replicate i []) ∧ ds.length = i ∧ ds.Nodup ∧ ∀ d ∈ ds, H6 d = none) ⟨same_upd hD, [], Row.new L hD, rfl, List.nodup_nil, fun d hd => (by cases hd)⟩ ?_ ?_
      · rintro j H7 hj ⟨S7, ds, R7, hdl, nd, dn⟩
        have hj3 : j < m := by simpa using hj
        refine ⟨rfl, yes_ite ?_⟩
        refine ⟨_, rfl, fun d dx hdn hdx hne => ?_⟩
        have S0 : Same H7 (upd (upd H7 dx (.own d)) d (.ins Z.C dx [])) := fun b o e => by
          rw [upd_ne (ne_of_none e hdn), upd_ne (ne_of_none e hdx)]; exact e
        refine ⟨d, dx, L, rfl, upd_same, hL, hL2, fun H8 D8 f8 k8 => ⟨rfl, ?_⟩⟩
        have S8 : Same H7 H8 := fun b o e => k8 b o (S0 b o e) (ne_of_none e hdn)
        refine ⟨_, S8 _ _ R7.l, small1000 (by simp [refs]; omega), same_set (S7.trans S8) hD, ds ++ [d], ?_, by simp [hdl], ?_, fun x hx => ?_⟩
        · rw [List.replicate_succ']
          exact R7.step (A26.T.same S7) S8 D8 fun la dx e => S0.free (f8 la dx e)
        · refine List.nodup_append.mpr ⟨nd, by simp, fun x hx y hy e => ?_⟩
          rw [List.mem_singleton] at hy
          rw [hy] at e
          rw [e] at hx
          obtain ⟨ls, DD⟩ := R7.dk.1.mem hx
          obtain ⟨dx2, la2, vs2, e1, _⟩ := DD.ex
          rw [hdn] at e1; cases e1
        · rcases List.mem_append.mp hx with h | h
          · exact dn x h
          · rw [List.mem_singleton.mp h]; exact S7.free hdn
      rintro H7 ⟨S7, ds, R7, hdl, nd, dn⟩
      have em : ((m : Int)).toNat = m := by simp
      rw [em] at R7 hdl
      exact ⟨D, ds, rfl, S7, R7, hdl, nd, Dt, dn⟩
    rintro σ7 H7 ⟨M, ds, rfl, S7, R7, hdl, nd, Mt, dn⟩
    have T7 := A26.T.same S7
    -- gazes
    refine ⟨fun σ' H' => ∃ (GZ : Addr) (gs : List Addr), σ' = [some (.ref a), some (.int (0 + (i : Nat))), some (.ref t), some (.int L), some (.int (m : Int)), some (.ref P), u6, some (.ref Or), some (.ref M), some (.ref GZ), u10, u11, u12, u13, u14, u15, u16, u17, u18] ∧ Same H7 H' ∧ H' GZ = some (.lst (refs gs)) ∧ Lots K H' gs (List.replicate m []) ∧ gs.length = m ∧ (∀ a ∈ gs, a ≠ t ∧ a ≠ GZ) ∧ GZ ≠ t ∧ H7 GZ = none, ?_, ?_⟩
    · refine ⟨_, rfl, (m : Int), rfl, by omega, Int.lt_of_le_of_lt (by omega : (m : Int) ≤ 3) (by decide), fun D hD => ?_⟩
      obtain ⟨Dt, _⟩ := T7.at_ne hD
      refine lc_range (lo := 0) (n := ((m : Int)).toNat) (fun i H' => Same H7 H' ∧ ∃ gs, H' D = some (.lst (refs gs)) ∧ Lots K H' gs (List.replicate i []) ∧ gs.length = i ∧ ∀ a ∈ gs, a ≠ t ∧ a ≠ D) ⟨same_upd hD, [], upd_same, ⟨rfl, fun _ _ _ z => by simp at z⟩, rfl, fun _ z => by cases z⟩ ?_ ?_
      · rintro j H8 hj ⟨S8, gs, gD, lo, hgl, hgs⟩
        have hj3 : j < m := by simpa using hj
        refine ⟨rfl, yes_ite ?_⟩
        refine ⟨(by show 0 ≤ sizeLine; decide), fun q hq => ?_⟩
        obtain ⟨qt, _⟩ := (T7.same S8).at_ne hq
        have qD : q ≠ D := Ne.symm (ne_of_none gD hq)
        have Sq := same_upd (o := HO.lst ([] : List V)) hq
        have gq : (upd H8 q (HO.lst ([] : List V))) q = some (.lst []) := upd_same
        have lo9 := lo.same Sq
        have gD9 := Sq _ _ gD
        generalize upd H8 q (HO.lst ([] : List V)) = H9 at Sq gq lo9 gD9 ⊢
        refine ⟨_, gD9, small1000 (by simp [refs]; omega), same_set (S8.trans Sq) hD, gs ++ [q], by show _ = some (HO.lst ((gs ++ [q]).map V.ref)); rw [List.map_append]; exact upd_same, ?_, by simp [hgl], fun b hb => ?_⟩
        · rw [List.replicate_succ']
          refine Lots.to (H := H9) (lo9.snoc ⟨[], gq, .nil⟩) (Tups.upd_lst gD9) fun b hb o e => ?_
          have bD : b ≠ D := by
            rcases List.mem_append.mp hb with h | h
            · exact (hgs b h).2
            · rw [List.mem_singleton.mp h]; exact qD
          rw [upd_ne bD]; exact e
        · rcases List.mem_append.mp hb with h | h
          · exact hgs b h
          · rw [List.mem_singleton.mp h]; exact ⟨qt, qD⟩
      rintro H8 ⟨S8, gs, gD, lo, hgl, hgs⟩
      have em : ((m : Int)).toNat = m := by simp
      rw [em] at lo hgl
      exact ⟨D, gs, rfl, S8, gD, lo, hgl, hgs, Dt, hD⟩
    rintro σ8 H8 ⟨GZ, gs, rfl, S8, gGZ, lo8, hgl, hgs, GZt, GZn⟩
    have T8 := T7.same S8
    -- olds
    refine ⟨fun σ' H' => ∃ (O : Addr), σ' = [some (.ref a), some (.int (0 + (i : Nat))), some (.ref t), some (.int L), some (.int (m : Int)), some (.ref P), u6, some (.ref Or), some (.ref M), some (.ref GZ), some (.ref O), u11, u12, u13, u14, u15, u16, u17, u18] ∧ Same H8 H' ∧ H8 O = none ∧ H' O = some (.lst []), ?_, ?_⟩
    · exact ⟨(by show 0 ≤ sizeLine; decide), fun q hq => ⟨q, rfl, same_upd hq, hq, upd_same⟩⟩
    rintro σ9 H9 ⟨O, rfl, S9, On, gO⟩
    obtain ⟨Ot, _⟩ := T8.at_ne On
    have S79 := S8.trans S9
    have S69 := S7.trans S79
    have R9 := R7.same S79
    have T9 := T8.same S9
    have hist : Hist Z K H9 t O M GZ P L ds gs ps (List.replicate m []) (List.replicate m []) sss [] [] ord.length 0 := by
      refine ⟨R9.l, S9 _ _ gGZ, S69 _ _ gP6, gO, ⟨Mt, ne_of_none (S8 _ _ R7.l) On, ne_of_none R7.l GZn⟩, ⟨GZt, ne_of_none gGZ On⟩, ⟨Pt, ne_of_none ((S7.trans S8) _ _ gP6) On, ne_of_none (S7 _ _ gP6) GZn⟩, Ot, R9.dk.1, fun d hd la dx e => ?_, fun d hd e => ?_, nd, lo8.same S9, fun b hb => ?_, ⟨by omega, by omega⟩, by omega, fun j p ss e1 e2 => ?_, fun j kk ll ss e1 e2 e3 => ?_, .nil, fun e he => (by cases he), by simp⟩
      · obtain ⟨ls, DD⟩ := R7.dk.1.mem hd
        obtain ⟨dx2, la2, vs2, e1, e2, _⟩ := DD.ex
        have e1' := S79 _ _ e1
        rw [e] at e1'
        have := df_inj e1'
        rw [this]
        exact ⟨(R7.dk.2 d hd la2 dx2 e1).1, ne_of_none (S8 _ _ e2) On, ne_of_none e2 GZn⟩
      · obtain ⟨ls, DD⟩ := R7.dk.1.mem hd
        obtain ⟨dx2, la2, vs2, e1, e2, _⟩ := DD.ex
        obtain ⟨⟨f, c, u, t1, _⟩, _⟩ := T7
        rw [e, t1] at e1; cases e1
      · obtain ⟨jj, hj, ee⟩ := List.getElem_of_mem hb
        obtain ⟨ls, _, lk⟩ := lo8.get (show gs[jj]? = some b by rw [List.getElem?_eq_getElem hj, ee])
        obtain ⟨vs, v1, _⟩ := lk
        exact ⟨(hgs b hb).1, ne_of_none v1 On, (hgs b hb).2⟩
      · obtain ⟨b1, b2, b3⟩ := hps6 j p ss e1 e2
        obtain ⟨vs, v1, _⟩ := id b1
        exact ⟨b1.same S69, ⟨b2, ne_of_none ((S7.trans S8) _ _ v1) On, ne_of_none (S7 _ _ v1) GZn⟩, b3⟩
      · have h1 : kk = [] := by
          have := List.mem_of_getElem? e1
          exact (List.mem_replicate.mp this).2
        have h2 : ll = [] := by
          have := List.mem_of_getElem? e2
          exact (List.mem_replicate.mp this).2
        subst h1 h2
        exact ⟨canon_nil.iff fun o => (by simp), fun l hl => (by cases hl), Nat.le_refl 0⟩
    have gOr9 := S69 _ _ gOr
    have OrO : Or ≠ t ∧ Or ≠ O ∧ Or ≠ GZ := ⟨Ort, ne_of_none ((S7.trans S8) _ _ gOr) On, ne_of_none (S7 _ _ gOr) GZn⟩
    have A29 : At H2 H9 t t 604 := A26.sm S69
    have dn2 : ∀ d ∈ ds, H2 d = none := fun d hd => A26.free (dn d hd)
    have GZ2 : H2 GZ = none := (A26.sm S7).free GZn
    have O2 : H2 O = none := (A26.sm (S7.trans S8)).free On
    clear R7 R9 lo8 hgs hps6 gGZ gP6 gO T7 T8 dn
    refine ⟨_, rfl, t, t, 604, 21, rfl, A29.T, by decide, by decide, by decide, fun H10 r r0 r1 T10 k10 => ?_⟩
    have h10 := hist.keep A29.T k10
    have A10 := A29.step T10 k10
    have gOr10 := k10 _ _ gOr9 Ort Ort
    refine ⟨r, rfl, by omega, by omega, ?_⟩
    refine for_range (lo := 0) (n := r.toNat) (fun q σ' H' => ∃ (u11 u12 u13 u14 u16 u17 u18 : Option V) (gs : List Addr) (hs lots : List (List Lk)) (ov : List V) (es : List OldE), σ' = [some (.ref a), some (.int (0 + (i : Nat))), some (.ref t), some (.int L), some (.int (m : Int)), some (.ref P), u6, some (.ref Or), some (.ref M), some (.ref GZ), some (.ref O), u11, u12, u13, u14, u15, u16, u17, u18] ∧ At H2 H' t t (605 + 40 * q) ∧ Hist Z K H' t O M GZ P L ds gs ps hs lots sss ov es ord.length q ∧ H' Or = some (.lst ((ord.map Int.ofNat).map V.int))) ⟨_, _, _, _, _, _, _, gs, _, _, _, _, rfl, A10, h10, gOr10⟩ ?_ ?_
    rotate_left
    · rintro σ' H' ⟨u11, u12, u13, u14, u16, u17, u18, gs, hs, lots, ov, es, rfl, A11, _⟩
      exact ⟨_, _, _, _, _, _, _, _, _, _, _, _, _, _, _, _, _, _, rfl, fin A11⟩
    clear hist h10 A10 gOr10 gOr9 k10 T10 T9 A29 hgl gs
    rintro q σ' H3 hq ⟨u11, u12, u13, u14, u16, u17, u18, gs, hs, lots, ov, es, rfl, A3, h3, gO3⟩
    have hq20 : q < 21 := by omega
    have hN : ∀ z, z ≤ 1500 → z < 2 ^ 50 := fun z hz => Nat.lt_of_le_of_lt hz (by decide)
    -- at
    refine ⟨fun σ' H' => ∃ (v11 : Option V) (j : Nat), σ' = [some (.ref a), some (.int (0 + (i : Nat))), some (.ref t), some (.int L), some (.int (m : Int)), some (.ref P), u6, some (.ref Or), some (.ref M), some (.ref GZ), some (.ref O), v11, some (.int (j : Int)), u13, u14, u15, u16, u17, u18] ∧ j < m ∧ At H2 H' t t (606 + 40 * q) ∧ Hist Z K H' t O M GZ P L ds gs ps hs lots sss ov es ord.length q ∧ H' Or = some (.lst ((ord.map Int.ofNat).map V.int)), ?_, ?_⟩
    · refine ⟨_, rfl, _, rfl, t, t, 605 + 40 * q, (m : Int), rfl, A3.T, by omega, Nat.lt_of_le_of_lt (by omega : ((m : Int)).natAbs ≤ 3) (by decide), Nat.lt_trans (hN _ (by omega)) (by decide), fun H4 c c0 c1 T4 k4 => ?_⟩
      obtain ⟨j, rfl⟩ := Int.eq_ofNat_of_zero_le c0
      exact ⟨_, j, rfl, by omega, (A3.step T4 k4).up (by omega), h3.keep A3.T k4, k4 _ _ gO3 Ort Ort⟩
    rintro σ4 H4 ⟨v11, j, rfl, hj, A4, h4, gO4⟩
    clear A3 h3 gO3
    obtain ⟨d, ed⟩ : ∃ d, ds[j]? = some d := ⟨_, List.getElem?_eq_getElem (by omega)⟩
    obtain ⟨G, eG⟩ : ∃ G, gs[j]? = some G := ⟨_, List.getElem?_eq_getElem (by have := h4.gl; omega)⟩
    obtain ⟨p, ep⟩ : ∃ p, ps[j]? = some p := ⟨_, List.getElem?_eq_getElem (by omega)⟩
    obtain ⟨ss, ess⟩ : ∃ ss, sss[j]? = some ss := ⟨_, List.getElem?_eq_getElem (by omega)⟩
    obtain ⟨ks, eks, DD⟩ := h4.dk.get ed
    obtain ⟨ls, els, lkG⟩ := h4.lo.get eG
    obtain ⟨lp, pne, hst⟩ := h4.ph j p ss ep ess
    obtain ⟨C, htr, hll⟩ := h4.ok j ks ls ss eks els ess
    have Gne := h4.gne G (List.mem_of_getElem? eG)
    refine ⟨_, rfl, _, rfl, _, rfl, M, _, _, .ref d, rfl, rfl, SqL.of h4.m, atI_refs rfl ed, _, rfl, _, rfl, GZ, _, _, .ref G, rfl, rfl, SqL.of h4.gz, atI_refs rfl eG, _, rfl, _, rfl, _, rfl, P, _, _, .ref p, rfl, rfl, SqL.of h4.p, atI_refs rfl ep, ?_⟩
    refine ⟨t, t, d, G, p, 606 + 40 * q, L, ks, ls, ss, rfl, A4.T, hN _ (by omega), hL, hL30, DD, fun la dx e => ⟨(h4.off d (List.mem_of_getElem? ed) la dx e).1, (h4.off d (List.mem_of_getElem? ed) la dx e).1⟩, lkG, Gne.1, Gne.1, lp, pne.1, pne.1, hst, C, htr, by omega, fun H5 r5 ks' ls' T5 B5 D5 F5 lk5 hr5 C5 tr5 hl5 => ?_⟩
    have gz5 : H5 GZ = some (.lst (refs gs)) := B5 _ _ h4.gz h4.gt.1 h4.gt.1 (fun e => by
      obtain ⟨dx2, la2, vs2, e1, _⟩ := DD.ex
      rw [← e, h4.gz] at e1; cases e1)
    have gO5 : H5 Or = some (.lst ((ord.map Int.ofNat).map V.int)) := B5 _ _ gO4 Ort Ort (fun e => by
      obtain ⟨dx2, la2, vs2, e1, _⟩ := DD.ex
      rw [← e, gO4] at e1; cases e1)
    have h6 := h4.turn A4.T ed eG ess B5 D5 F5 lk5 hr5 C5 tr5 (by omega)
    refine ⟨_, rfl, _, rfl, GZ, _, _, j, rfl, rfl, gz5, ixN_nat (by have := h4.gl; simp [refs]; omega), ?_⟩
    rw [refs_set]
    have A6 : At H2 (upd H5 GZ (.lst (refs (gs.set j r5)))) t t (616 + 40 * q) := by
      have A5 : At H2 H5 t t (616 + 40 * q) := ⟨T5.up (by omega), fun b o e h1 h2 => B5 b o (A4.k b o e h1 h2) h1 h2 (fun z => by
        rw [z, dn2 d (List.mem_of_getElem? ed)] at e; cases e)⟩
      exact A5.acc GZ2 GZt GZt
    have gO6 : (upd H5 GZ (.lst (refs (gs.set j r5)))) Or = some (.lst ((ord.map Int.ofNat).map V.int)) := by rw [upd_ne OrO.2.2]; exact gO5
    generalize upd H5 GZ (.lst (refs (gs.set j r5))) = H6' at h6 A6 gO6 ⊢
    -- row
    refine ⟨fun σ' H' => ∃ (D : Addr), σ' = [some (.ref a), some (.int (0 + (i : Nat))), some (.ref t), some (.int L), some (.int (m : Int)), some (.ref P), u6, some (.ref Or), some (.ref M), some (.ref GZ), some (.ref O), v11, some (.int (j : Int)), some (.ref D), u14, u15, u16, u17, u18] ∧ Same H6' H' ∧ H6' D = none ∧ H' D = some (.lst (refs (pick ds t ord))), ?_, ?_⟩
    · refine ⟨_, rfl, Or, rfl, ⟨_, SqL.of gO6⟩, fun D hD => ?_⟩
      refine lc_list (K := K) (a := Or) (xs := (ord.map Int.ofNat).map V.int) (fun i H' => Same H6' H' ∧ H' D = some (.lst (refs (pick ds t (ord.take i))))) ⟨same_upd hD, upd_same⟩ (fun i H' _ ⟨S, _⟩ => SqL.of (S _ _ gO6)) ?_ ?_
      · rintro i y H7 hi ⟨S7, gD⟩
        rw [List.map_map] at hi
        obtain ⟨kk, hk, rfl⟩ := map_at hi
        have hkm := hom kk (List.mem_of_getElem? hk)
        have hi' : i < ord.length := (List.getElem?_eq_some_iff.mp hk).1
        obtain ⟨d2, ed2⟩ : ∃ d2, ds[kk]? = some d2 := ⟨_, List.getElem?_eq_getElem (by omega)⟩
        refine ⟨rfl, yes_ite ⟨_, rfl, _, rfl, M, _, _, .ref d2, rfl, rfl, SqL.of (S7 _ _ h6.m), atI_refs rfl ed2, _, gD, small1000 (by simp [refs, pick]; omega), same_set S7 hD, ?_⟩⟩
        rw [take_snoc hk, pick_snoc, pick_one ed2]
        show _ = some (HO.lst ((_ ++ [d2]).map V.ref))
        rw [List.map_append]
        exact upd_same
      rintro H7 ⟨S7, gD⟩
      rw [List.take_of_length_le (by simp)] at gD
      exact ⟨D, rfl, S7, hD, gD⟩
    rintro σ7 H7 ⟨Rw, rfl, S7, Rn, gR⟩
    have h7 := h6.same S7
    have A7 := A6.sm S7
    have gO7 := S7 _ _ gO6
    -- new
    refine ⟨fun σ' H' => ∃ (N : Addr) (ds2 : List Addr), σ' = [some (.ref a), some (.int (0 + (i : Nat))), some (.ref t), some (.int L), some (.int (m : Int)), some (.ref P), u6, some (.ref Or), some (.ref M), some (.ref GZ), some (.ref O), v11, some (.int (j : Int)), some (.ref Rw), some (.ref N), u15, u16, u17, u18] ∧ Same H7 H' ∧ Row Z K H' t t N ds2 L ((lots.set j ls').map (heardAll L)) ∧ ds2.length = m, ?_, ?_⟩
    · refine ⟨_, rfl, GZ, rfl, ⟨_, SqL.of h7.gz⟩, fun D hD => ?_⟩
      have hg7 : (gs.set j r5).length = m := by rw [h7.gl]; exact hdl
      refine lc_list (K := K) (a := GZ) (xs := refs (gs.set j r5)) (fun i H' => Same H7 H' ∧ ∃ ds2, Row Z K H' t t D ds2 L (((lots.set j ls').take i).map (heardAll L)) ∧ ds2.length = i) ⟨same_upd hD, [], Row.new L hD, rfl⟩ (fun i H' _ ⟨S, _⟩ => SqL.of (S _ _ h7.gz)) ?_ ?_
      · rintro i y H8 hi ⟨S8, ds2, R8, hd2⟩
        obtain ⟨b, hb, rfl⟩ := map_at hi
        have hi' : i < m := by have := (List.getElem?_eq_some_iff.mp hb).1; omega
        obtain ⟨l8, hl8, lk8⟩ := h7.lo.get hb
        obtain ⟨k8, ek8⟩ : ∃ k8, (hs.set j ks')[i]? = some k8 := ⟨_, List.getElem?_eq_getElem (by have := h7.dk.1; omega)⟩
        obtain ⟨s8, es8⟩ : ∃ s8, sss[i]? = some s8 := ⟨_, List.getElem?_eq_getElem (by omega)⟩
        obtain ⟨_, tr8, len8⟩ := h7.ok i k8 l8 s8 ek8 hl8 es8
        obtain ⟨p8, ep8⟩ : ∃ p8, ps[i]? = some p8 := ⟨_, List.getElem?_eq_getElem (by omega)⟩
        have st8 := (h7.ph i p8 s8 ep8 es8).2.2
        refine ⟨rfl, yes_ite ?_⟩
        refine ⟨_, rfl, _, rfl, .ref b, L, l8, rfl, (lk8.same S8).dp, hL, hL2, fun l hl => ⟨(tr8 l hl).1.1, (tr8 l hl).1.2.2.up (by decide)⟩, fun x hx y hy => fit_clash hL (ld_hand hL st8.1) (tr8 x hx).1.2.1 (tr8 y hy).1.2.1, by omega, fun H9 d9 hd9 S9 D9 F9 => ?_⟩
        refine ⟨_, S9 _ _ R8.l, small1000 (by simp [refs]; omega), same_set (S8.trans S9) hD, ds2 ++ [d9], ?_, by simp [hd2]⟩
        rw [take_snoc hl8, List.map_append]
        exact R8.step (A7.T.same S8) S9 D9 F9
      rintro H8 ⟨S8, ds2, R8, hd2⟩
      have el : (refs (gs.set j r5)).length = m := by show ((gs.set j r5).map V.ref).length = m; rw [List.length_map]; exact hg7
      have el2 : (lots.set j ls').length = m := by rw [← h7.lo.1]; exact hg7
      rw [el] at R8 hd2
      rw [List.take_of_length_le (by omega)] at R8
      exact ⟨D, ds2, rfl, S8, R8, hd2⟩
    rintro σ8 H8 ⟨Nw, ds2, rfl, S8, R8, hd2⟩
    have h8 := h7.same S8
    have A8 := A7.sm S8
    have gO8 := S8 _ _ gO7
    have gR8 := S8 _ _ gR
    obtain ⟨Nt, _⟩ : Nw ≠ t ∧ Nw ≠ t := by
      obtain ⟨⟨f, c, u, t1, _⟩, _⟩ := A8.T
      have e0 := R8.l
      refine ⟨fun e => ?_, fun e => ?_⟩ <;> (rw [e, t1] at e0; cases ds2 <;> simp [refs] at e0)
    have Rt : Rw ≠ t := (A6.T.at_ne Rn).1
    have RO : Rw ≠ O := Ne.symm (ne_of_none h6.o Rn)
    have hsl : (hs.set j ks').length = m := by have := h7.dk.1; omega
    have hll8 : (lots.set j ls').length = m := by have := h7.lo.1; have := h7.gl; omega
    have okk : ∀ i, i < m → ∃ kk ll s8, (hs.set j ks')[i]? = some kk ∧ (lots.set j ls')[i]? = some ll ∧ Canon kk (fun o => o ∈ ll) ∧ (∀ l ∈ ll, TrueH L s8 l) ∧ heardAll L ll = kk ∧ heardAll L kk = kk := fun i hi => by
      obtain ⟨kk, e1⟩ : ∃ kk, (hs.set j ks')[i]? = some kk := ⟨_, List.getElem?_eq_getElem (by omega)⟩
      obtain ⟨ll, e2⟩ : ∃ ll, (lots.set j ls')[i]? = some ll := ⟨_, List.getElem?_eq_getElem (by omega)⟩
      obtain ⟨s8, e3⟩ : ∃ s8, sss[i]? = some s8 := ⟨_, List.getElem?_eq_getElem (by omega)⟩
      obtain ⟨c1, c2, _⟩ := h7.ok i kk ll s8 e1 e2 e3
      have hh : ∀ l ∈ ll, home L l = l := fun l hl => home_in (c2 l hl).2.1 (c2 l hl).2.2
      refine ⟨kk, ll, s8, e1, e2, c1, c2, ?_, ?_⟩
      · refine (fold0_canon L ll).eq c1 fun o => ⟨?_, fun ho => ⟨o, ho, (hh o ho).symm⟩⟩
        rintro ⟨l, hl, e⟩
        rw [e, hh l hl]; exact hl
      · refine (fold0_canon L kk).eq c1 fun o => ⟨?_, fun ho => ⟨o, (c1.mem o).mpr ho, (hh o ho).symm⟩⟩
        rintro ⟨l, hl, e⟩
        have hl' := (c1.mem l).mp hl
        rw [e, hh l hl']; exact hl'
    have ehs : (lots.set j ls').map (heardAll L) = hs.set j ks' := by
      apply List.ext_getElem?
      intro i
      by_cases hi : i < m
      · obtain ⟨kk, ll, s8, e1, e2, _, _, e5, _⟩ := okk i hi
        rw [List.getElem?_map, e1, e2]
        show some (heardAll L ll) = some kk
        rw [e5]
      · rw [List.getElem?_eq_none (by rw [List.length_map]; omega), List.getElem?_eq_none (by omega)]
    rw [ehs] at R8
    have pk : ∀ ks ∈ pick (hs.set j ks') [] ord, ∃ i, i < m ∧ (hs.set j ks')[i]? = some ks := fun kk hk => by
      obtain ⟨i, hi, e⟩ := List.mem_map.mp hk
      refine ⟨i, hom i hi, ?_⟩
      have := hom i hi
      rw [← e, List.getD_eq_getElem?_getD, List.getElem?_eq_getElem (by omega)]; rfl
    have pid : ∀ ks ∈ pick (hs.set j ks') [] ord, heardAll L ks = ks := fun kk hk => by
      obtain ⟨i, hi, e⟩ := pk kk hk
      obtain ⟨k2, _, _, e1, _, _, _, _, e6⟩ := okk i hi
      rw [e] at e1
      rw [Option.some.inj e1]; exact e6
    have psz : ∀ ks ∈ pick (hs.set j ks') [] ord, ∀ l ∈ ks, Sized 114 l := fun kk hk l hl => by
      obtain ⟨i, hi, e⟩ := pk kk hk
      obtain ⟨k2, ll, s8, e1, _, c1, c2, _, _⟩ := okk i hi
      rw [e] at e1
      have e1' := Option.some.inj e1
      rw [e1'] at hl
      exact (c2 l ((c1.mem l).mp hl)).1.2.2.up (by decide)
    have plen : ∀ {α : Type} (l : List α) (x : α), (pick l x ord).length = ord.length := fun l x => by simp [pick]
    -- x, uses_now
    refine ⟨fun σ' H' => ∃ (x u : Int), σ' = [some (.ref a), some (.int (0 + (i : Nat))), some (.ref t), some (.int L), some (.int (m : Int)), some (.ref P), u6, some (.ref Or), some (.ref M), some (.ref GZ), some (.ref O), v11, some (.int (j : Int)), some (.ref Rw), some (.ref Nw), u15, some (.int x), some (.int u), u18] ∧ 0 ≤ x ∧ x < 3 * L ∧ 0 ≤ u ∧ u < 10 ^ 9 ∧ At H2 H' t t (618 + 40 * q) ∧ Keep t t H8 H', ?_, ?_⟩
    · refine ⟨_, rfl, _, rfl, _, _, rfl, rfl, wide_mul (show (3 : Int).natAbs < 2 ^ 2 by decide) hLb (by decide) (by decide) (by decide), t, t, 616 + 40 * q, 3 * L, rfl, A8.T, by omega, lt_up (wide_lt (show (3 : Int).natAbs < 2 ^ 2 by decide) hLb) (by decide), Nat.lt_trans (hN _ (by omega)) (by decide), fun H9 x x0 x1 T9 k9 => ?_⟩
      have e9 : (10 : Int) ^ (9 : Int).toNat = 1000000000 := by decide
      have e9' : (10 : Int) ^ 9 = 1000000000 := by decide
      refine ⟨_, rfl, _, _, rfl, rfl, ⟨by decide, by decide, by decide⟩, t, t, 617 + 40 * q, (10 : Int) ^ (9 : Int).toNat, rfl, T9.up (by omega), by decide, by decide, Nat.lt_trans (hN _ (by omega)) (by decide), fun H10 u u0 u1 T10 k10 => ?_⟩
      rw [e9] at u1
      exact ⟨_, _, rfl, x, u, rfl, x0, x1, u0, by rw [e9']; exact u1, ((A8.step T9 k9).step T10 k10).up (by omega), k9.trans k10⟩
    rintro σ9 H9 ⟨x, u, rfl, x0, x1, u0, u1, A9, k89⟩
    have h9 := h8.keep A8.T k89
    have R9 := R8.keep A8.T k89 Nt Nt
    have gO9 := k89 _ _ gO8 Ort Ort
    have gR9 := k89 _ _ gR8 Rt Rt
    -- y
    refine ⟨fun σ' H' => ∃ (y : Int), σ' = [some (.ref a), some (.int (0 + (i : Nat))), some (.ref t), some (.int L), some (.int (m : Int)), some (.ref P), u6, some (.ref Or), some (.ref M), some (.ref GZ), some (.ref O), v11, some (.int (j : Int)), some (.ref Rw), some (.ref Nw), u15, some (.int x), some (.int u), some (.int y)] ∧ y.natAbs < 2 ^ 200 ∧ At H2 H' t t (619 + 40 * q) ∧ Keep t t H9 H', ?_, ?_⟩
    · refine ⟨_, rfl, _, rfl, _, rfl, _, _, rfl, rfl, wide_mul (show (5 : Int).natAbs < 2 ^ 3 by decide) hLb (by decide) (by decide) (by decide), t, t, 618 + 40 * q, 5 * L, rfl, A9.T, by omega, lt_up (wide_lt (show (5 : Int).natAbs < 2 ^ 3 by decide) hLb) (by decide), Nat.lt_trans (hN _ (by omega)) (by decide), fun H10 r r0 r1 T10 k10 => ?_⟩
      refine ⟨_, _, rfl, rfl, _, rfl, _, _, rfl, rfl, x + r - L, rfl, ?_, (A9.step T10 k10).up (by omega), k10⟩
      refine Nat.lt_of_le_of_lt (by omega : (x + r - L).natAbs ≤ 9 * L.natAbs) ?_
      have e : (2 : Nat) ^ 200 = 2 ^ 100 * 2 ^ 100 := by decide
      have e2 : 9 ≤ (2 : Nat) ^ 100 := by decide
      rw [e]
      generalize (2 : Nat) ^ 100 = Bn at hLb e2 ⊢
      exact Nat.lt_of_le_of_lt (Nat.mul_le_mul_right _ e2) (Nat.mul_lt_mul_of_pos_left hLb (by omega))
    rintro σ10 H10 ⟨y, rfl, hy, A10, k910⟩
    have h10 := h9.keep A9.T k910
    have R10 := R9.keep A9.T k910 Nt Nt
    have gO10 := k910 _ _ gO9 Ort Ort
    have gR10 := k910 _ _ gR9 Rt Rt
    have hx : x.natAbs < 2 ^ 200 := by
      have e : (2 : Nat) ^ 200 = 2 ^ 100 * 2 ^ 100 := by decide
      have e2 : 9 ≤ (2 : Nat) ^ 100 := by decide
      refine Nat.lt_of_le_of_lt (by omega : x.natAbs ≤ 9 * L.natAbs) ?_
      rw [e]
      generalize (2 : Nat) ^ 100 = Bn at hLb e2 ⊢
      exact Nat.lt_of_le_of_lt (Nat.mul_le_mul_right _ e2) (Nat.mul_lt_mul_of_pos_left hLb (by omega))
    have hub : u.natAbs < 2 ^ 300 := by
      have e9' : (10 : Int) ^ 9 = 1000000000 := by decide
      rw [e9'] at u1
      exact Nat.lt_of_le_of_lt (by omega : u.natAbs ≤ 1000000000) (by decide)
    have L110 : L.natAbs < 2 ^ 110 := lt_up hLb (by decide)
    have homd : ∀ k ∈ ord, k < ds.length := fun k hk => by have := hom k hk; omega
    have homd2 : ∀ k ∈ ord, k < ds2.length := fun k hk => by have := hom k hk; omega
    have D10 := darks_pick h10.dk homd t
    have D20 := darks_pick R10.dk.1 homd2 t
    -- told alike
    refine ⟨fun σ' H' => σ' = [some (.ref a), some (.int (0 + (i : Nat))), some (.ref t), some (.int L), some (.int (m : Int)), some (.ref P), u6, some (.ref Or), some (.ref M), some (.ref GZ), some (.ref O), v11, some (.int (j : Int)), some (.ref Rw), some (.ref Nw), u15, some (.int x), some (.int u), some (.int y)] ∧ Same H10 H', ?_, ?_⟩
    · refine ⟨_, rfl, _, rfl, _, rfl, _, rfl, Rw, pick ds t ord, L, x, y, u, pick (hs.set j ks') [] ord, rfl, SqL.of gR10, D10, by rw [plen]; exact ho0, by rw [plen]; omega, hx, hy, L110, psz, pid, u0, hub, fun H11 v1 d1 S11 dp1 I1 => ?_⟩
      refine ⟨_, rfl, Or, rfl, ⟨_, SqL.of (S11 _ _ gO10)⟩, fun D hD => ?_⟩
      refine lc_list (K := K) (a := Or) (xs := (ord.map Int.ofNat).map V.int) (fun i H' => Same H11 H' ∧ H' D = some (.lst (refs (pick ds2 t (ord.take i))))) ⟨same_upd hD, upd_same⟩ (fun i H' _ ⟨S, _⟩ => SqL.of (S _ _ (S11 _ _ gO10))) ?_ ?_
      · rintro i z H12 hi ⟨S12, gD⟩
        rw [List.map_map] at hi
        obtain ⟨kk, hk, rfl⟩ := map_at hi
        have hkm := hom kk (List.mem_of_getElem? hk)
        have hi' : i < ord.length := (List.getElem?_eq_some_iff.mp hk).1
        obtain ⟨d2, ed2⟩ : ∃ d2, ds2[kk]? = some d2 := ⟨_, List.getElem?_eq_getElem (by omega)⟩
        refine ⟨rfl, yes_ite ⟨_, rfl, _, rfl, Nw, _, _, .ref d2, rfl, rfl, SqL.of (S12 _ _ (S11 _ _ R10.l)), atI_refs rfl ed2, _, gD, small1000 (by simp [refs, pick]; omega), same_set S12 hD, ?_⟩⟩
        rw [take_snoc hk, pick_snoc, pick_one ed2]
        show _ = some (HO.lst ((_ ++ [d2]).map V.ref))
        rw [List.map_append]
        exact upd_same
      rintro H12 ⟨S12, gD⟩
      rw [List.take_of_length_le (by simp)] at gD
      have S112 := S11.trans S12
      refine ⟨_, rfl, _, rfl, _, rfl, D, pick ds2 t ord, L, x, y, u, pick (hs.set j ks') [] ord, rfl, SqL.of gD, D20.same S112, by rw [plen]; exact ho0, by rw [plen]; omega, hx, hy, L110, psz, pid, u0, hub, fun H13 v2 d2 S13 dp2 I2 => ?_⟩
      have e12 := ToldIs.one hL I1 I2
      rw [← e12] at dp2
      refine ⟨d1, d1, dp_mono (S12.trans S13) _ _ dp1, dp2, I1.shaped, I1.shaped, _, rfl, ?_⟩
      rw [SeqAt.eqv_refl _ (SeqAt.canLay_of_shaped I1.shaped)]
      exact iteF ⟨rfl, S112.trans S13⟩
    rintro σ11 H11 ⟨rfl, S11⟩
    have h11 := h10.same S11
    have gO11 := S11 _ _ gO10
    have gR11 := S11 _ _ gR10
    have A11 := A10.sm S11
    refine ⟨_, rfl, _, rfl, Or, rfl, ⟨_, SqL.of gO11⟩, fun D hD => ?_⟩
    have hg11 : (gs.set j r5).length = m := by rw [h11.gl]; exact hdl
    refine lc_list (K := K) (a := Or) (xs := (ord.map Int.ofNat).map V.int) (fun i H' => Same H11 H' ∧ H' D = some (.lst (refs (pick (gs.set j r5) t (ord.take i))))) ⟨same_upd hD, upd_same⟩ (fun i H' _ ⟨S, _⟩ => SqL.of (S _ _ gO11)) ?_ ?_
    · rintro i z H12 hi ⟨S12, gD⟩
      rw [List.map_map] at hi
      obtain ⟨kk, hk, rfl⟩ := map_at hi
      have hkm := hom kk (List.mem_of_getElem? hk)
      have hi' : i < ord.length := (List.getElem?_eq_some_iff.mp hk).1
      obtain ⟨d2, ed2⟩ : ∃ d2, (gs.set j r5)[kk]? = some d2 := ⟨_, List.getElem?_eq_getElem (by omega)⟩
      refine ⟨rfl, yes_ite ⟨_, rfl, _, rfl, GZ, _, _, .ref d2, rfl, rfl, SqL.of (S12 _ _ h11.gz), atI_refs rfl ed2, _, gD, small1000 (by simp [refs, pick]; omega), same_set S12 hD, ?_⟩⟩
      rw [take_snoc hk, pick_snoc, pick_one ed2]
      show _ = some (HO.lst ((_ ++ [d2]).map V.ref))
      rw [List.map_append]
      exact upd_same
    rintro H12 ⟨S12, gD⟩
    rw [List.take_of_length_le (by simp)] at gD
    have h12 := h11.same S12
    have A12 := A11.sm S12
    have gR12 := S12 _ _ gR11
    have DO : D ≠ O := Ne.symm (ne_of_none h11.o hD)
    have pd : ∀ d ∈ pick ds t ord, d ∈ ds := fun d hd => by
      obtain ⟨i, hi, e⟩ := List.mem_map.mp hd
      have := homd i hi
      rw [← e, List.getD_eq_getElem?_getD, List.getElem?_eq_getElem this]; exact List.getElem_mem this
    have pg : ∀ b ∈ pick (gs.set j r5) t ord, b ∈ gs.set j r5 := fun b hb => by
      obtain ⟨i, hi, e⟩ := List.mem_map.mp hb
      have hm := hom i hi
      rw [← e, List.getD_eq_getElem?_getD, List.getElem?_eq_getElem (by omega)]; exact List.getElem_mem (by omega)
    have lo12 : Lots K H12 (pick (gs.set j r5) t ord) (pick (lots.set j ls') [] ord) := by
      refine ⟨by simp [pick], fun i b ll e1 e2 => ?_⟩
      obtain ⟨k1, a1, rfl⟩ := map_at e1
      obtain ⟨k2, a2, rfl⟩ := map_at e2
      rw [a1] at a2
      have e := Option.some.inj a2
      subst e
      have hk := hom k1 (List.mem_of_getElem? a1)
      refine h12.lo.2 k1 _ _ ?_ ?_
      · rw [List.getD_eq_getElem?_getD, List.getElem?_eq_getElem (by omega)]; rfl
      · rw [List.getD_eq_getElem?_getD, List.getElem?_eq_getElem (by omega)]; rfl
    have mm : ∀ jj l, l ∈ (pick (hs.set j ks') [] ord).getD jj [] ↔ l ∈ (pick (lots.set j ls') [] ord).getD jj [] := fun jj l => by
      rw [List.getD_eq_getElem?_getD, List.getD_eq_getElem?_getD]
      unfold pick
      rw [List.getElem?_map, List.getElem?_map]
      cases eo : ord[jj]? with
      | none => exact Iff.rfl
      | some k1 =>
        obtain ⟨kk, ll, s8, e1, e2, c1, _⟩ := okk k1 (hom k1 (List.mem_of_getElem? eo))
        show l ∈ (hs.set j ks').getD k1 [] ↔ l ∈ (lots.set j ls').getD k1 []
        rw [List.getD_eq_getElem?_getD, List.getD_eq_getElem?_getD, e1, e2]
        exact c1.mem l
    have wl : ∀ ls ∈ pick (lots.set j ls') [] ord, ∀ l ∈ ls, WordOk l.1 := fun ll hl l hll' => by
      obtain ⟨i, hi, e⟩ := List.mem_map.mp hl
      obtain ⟨kk, l2, s8, e1, e2, c1, c2, _⟩ := okk i (hom i hi)
      rw [List.getD_eq_getElem?_getD, e2] at e
      have e' : l2 = ll := e
      rw [← e'] at hll'
      exact (c2 l hll').1.1
    have len12 : (pick (hs.set j ks') [] ord).length = ord.length := plen _ _
    refine ⟨_, rfl, Rw, D, O, SS O t GZ, pick ds t ord, pick (gs.set j r5) t ord, L, pick (hs.set j ks') [] ord, pick (lots.set j ls') [] ord, ov, es, rfl, .inl rfl, fun b hb => ?_, gR12, RO, darks_pick h12.dk homd t, fun d hd la dx e => ⟨(h12.off d (pd d hd) la dx e).2.1, (h12.off d (pd d hd) la dx e).2.1⟩, by rw [plen]; exact ho0, by rw [plen]; omega, gD, DO, lo12, fun b hb => (h12.gne b (pg b hb)).2.1, by rw [plen, plen], mm, pid, wl, h12.o, h12.od, fun e he => by rw [len12]; exact h12.ol e he, by have := h12.el; omega, fun H13 ov' es' B13 g13 od13 ol13 el13 => ?_⟩
    · rcases hb with e | e | e <;> rw [e]
      · rw [h12.o]; nofun
      · obtain ⟨⟨f, c, u, t1, _⟩, _⟩ := A12.T
        rw [t1]; nofun
      · rw [h12.gz]; nofun
    have h13 := h12.rings B13 g13 od13 (fun e he => by have := ol13 e he; rw [len12] at this; exact this) (by have := h4.el; omega)
    have A13 : At H2 H13 t t (605 + 40 * (q + 1)) := by
      obtain ⟨⟨f, c, u, t1, t2, r⟩, hne⟩ := A12.T
      refine ⟨(⟨⟨f, c, u, B13 _ _ t1 (Ne.symm Ot), B13 _ _ t2 (Ne.symm Ot), r⟩, hne⟩ : Tray H13 t t (619 + 40 * q)).up (by omega), fun b o e h1 h2 => B13 b o (A12.k b o e h1 h2) (fun z => by rw [z, O2] at e; cases e)⟩
    exact ⟨_, rfl, iteF ⟨_, _, _, _, _, _, _, gs.set j r5, hs.set j ks', lots.set j ls', ov', es', rfl, A13, h13, B13 _ _ (S12 _ _ gO11) OrO.2.1⟩⟩
end
end KA
namespace KA
open PySem PySem.Spec PyProof.Rows L2 DP
theorem g11_of {α : Type} : ∀ {us ws : List α}, (g11 us ws).length = 2 → ∃ a b, us = [a] ∧ ws = [b]
  | [a], [b], _ => ⟨a, b, rfl, rfl⟩
  | [], _, h => nomatch (show (0 : Nat) = 2 from h)
  | [_], [], h => nomatch (show (0 : Nat) = 2 from h)
  | [_], _ :: _ :: _, h => nomatch (show (0 : Nat) = 2 from h)
  | _ :: _ :: _, _, h => nomatch (show (0 : Nat) = 2 from h)
theorem sqt2 {K : PySem.W.Frag} {H : Hp} {t : Addr} {x y : Str} {o : Option Addr} {u v : Tok} {n : Nat} {s : Array (Option Value)} (l : K.lookup t = some ⟨.type "tuple", o, .seq #[.str x u, .str y v] n, s⟩) : SqT K H t [.str x, .str y] :=
  .inr ⟨_, _, n, l, rfl, rfl, (by show 2 ≤ sizeLine; decide), .cons ⟨u, rfl⟩ (.cons ⟨v, rfl⟩ .nil)⟩
theorem sqt3 {K : PySem.W.Frag} {H : Hp} {t : Addr} {x y z : Str} {o : Option Addr} {u v q : Tok} {n : Nat} {s : Array (Option Value)} (l : K.lookup t = some ⟨.type "tuple", o, .seq #[.str x u, .str y v, .str z q] n, s⟩) : SqT K H t [.str x, .str y, .str z] :=
  .inr ⟨_, _, n, l, rfl, rfl, (by show 3 ≤ sizeLine; decide), .cons ⟨u, rfl⟩ (.cons ⟨v, rfl⟩ (.cons ⟨q, rfl⟩ .nil))⟩
theorem all_mk {l : PySem.W.OpenLaw} {w : World} {K : PySem.W.Frag} {h : Heap} {mg : Str → Option Value} {fa : Addr} (X : K.In h) (G : h.Ns mainGlobals mg) (hfa : mg "law" = some (.ref fa))
    {C : Addr}
    {C_Walk : Addr}
    {f0 : Addr} {od0 an0 : Option Addr} {sl0 : Array (Option Value)} {oc0 kV0 dc0 pm0 cd0 ct0 : Value}
    {f1 : Addr} {od1 an1 : Option Addr} {sl1 : Array (Option Value)} {oc1 kV1 dc1 pm1 cd1 ct1 : Value}
    {f2 : Addr} {od2 an2 : Option Addr} {sl2 : Array (Option Value)} {oc2 kV2 dc2 pm2 cd2 ct2 : Value}
    {f3 : Addr} {od3 an3 : Option Addr} {sl3 : Array (Option Value)} {oc3 kV3 dc3 pm3 cd3 ct3 : Value}
    {f4 : Addr} {od4 an4 : Option Addr} {sl4 : Array (Option Value)} {oc4 kV4 dc4 pm4 cd4 ct4 : Value}
    {f5 : Addr} {od5 an5 : Option Addr} {sl5 : Array (Option Value)} {oc5 kV5 dc5 pm5 cd5 ct5 : Value}
    {f6 : Addr} {od6 an6 : Option Addr} {sl6 : Array (Option Value)} {oc6 kV6 dc6 pm6 cd6 ct6 : Value}
    {f7 : Addr} {od7 an7 : Option Addr} {sl7 : Array (Option Value)} {oc7 kV7 dc7 pm7 cd7 ct7 : Value}
    {f8 : Addr} {od8 an8 : Option Addr} {sl8 : Array (Option Value)} {oc8 kV8 dc8 pm8 cd8 ct8 : Value}
    {f9 : Addr} {od9 an9 : Option Addr} {sl9 : Array (Option Value)} {oc9 kV9 dc9 pm9 cd9 ct9 : Value}
    {f10 : Addr} {od10 an10 : Option Addr} {sl10 : Array (Option Value)} {oc10 kV10 dc10 pm10 cd10 ct10 : Value}
    {f11 : Addr} {od11 an11 : Option Addr} {sl11 : Array (Option Value)} {oc11 kV11 dc11 pm11 cd11 ct11 : Value}
    {f12 : Addr} {od12 an12 : Option Addr} {sl12 : Array (Option Value)} {oc12 kV12 dc12 pm12 cd12 ct12 : Value}
    {f13 : Addr} {od13 an13 : Option Addr} {sl13 : Array (Option Value)} {oc13 kV13 dc13 pm13 cd13 ct13 : Value}
    {f14 : Addr} {od14 an14 : Option Addr} {sl14 : Array (Option Value)} {oc14 kV14 dc14 pm14 cd14 ct14 : Value}
    {f15 : Addr} {od15 an15 : Option Addr} {sl15 : Array (Option Value)} {oc15 kV15 dc15 pm15 cd15 ct15 : Value}
    {f16 : Addr} {od16 an16 : Option Addr} {sl16 : Array (Option Value)} {oc16 kV16 dc16 pm16 cd16 ct16 : Value}
    {f17 : Addr} {od17 an17 : Option Addr} {sl17 : Array (Option Value)} {oc17 kV17 dc17 pm17 cd17 ct17 : Value}
    {f18 : Addr} {od18 an18 : Option Addr} {sl18 : Array (Option Value)} {oc18 kV18 dc18 pm18 cd18 ct18 : Value}
    {f19 : Addr} {od19 an19 : Option Addr} {sl19 : Array (Option Value)} {oc19 kV19 dc19 pm19 cd19 ct19 : Value}
    {f20 : Addr} {od20 an20 : Option Addr} {sl20 : Array (Option Value)} {oc20 kV20 dc20 pm20 cd20 ct20 : Value}
    {f21 : Addr} {od21 an21 : Option Addr} {sl21 : Array (Option Value)} {oc21 kV21 dc21 pm21 cd21 ct21 : Value}
    {f22 : Addr} {od22 an22 : Option Addr} {sl22 : Array (Option Value)} {oc22 kV22 dc22 pm22 cd22 ct22 : Value}
    {f23 : Addr} {od23 an23 : Option Addr} {sl23 : Array (Option Value)} {oc23 kV23 dc23 pm23 cd23 ct23 : Value}
    {f24 : Addr} {od24 an24 : Option Addr} {sl24 : Array (Option Value)} {oc24 kV24 dc24 pm24 cd24 ct24 : Value}
    {f25 : Addr} {od25 an25 : Option Addr} {sl25 : Array (Option Value)} {oc25 kV25 dc25 pm25 cd25 ct25 : Value}
    {f26 : Addr} {od26 an26 : Option Addr} {sl26 : Array (Option Value)} {oc26 kV26 dc26 pm26 cd26 ct26 : Value}
    {f27 : Addr} {od27 an27 : Option Addr} {sl27 : Array (Option Value)} {oc27 kV27 dc27 pm27 cd27 ct27 : Value}
    {f28 : Addr} {od28 an28 : Option Addr} {sl28 : Array (Option Value)} {oc28 kV28 dc28 pm28 cd28 ct28 : Value}
    {f29 : Addr} {od29 an29 : Option Addr} {sl29 : Array (Option Value)} {oc29 kV29 dc29 pm29 cd29 ct29 : Value}
    {f30 : Addr} {od30 an30 : Option Addr} {sl30 : Array (Option Value)} {oc30 kV30 dc30 pm30 cd30 ct30 : Value}
    {f31 : Addr} {od31 an31 : Option Addr} {sl31 : Array (Option Value)} {oc31 kV31 dc31 pm31 cd31 ct31 : Value}
    {f32 : Addr} {od32 an32 : Option Addr} {sl32 : Array (Option Value)} {oc32 kV32 dc32 pm32 cd32 ct32 : Value}
    {f33 : Addr} {od33 an33 : Option Addr} {sl33 : Array (Option Value)} {oc33 kV33 dc33 pm33 cd33 ct33 : Value}
    {f34 : Addr} {od34 an34 : Option Addr} {sl34 : Array (Option Value)} {oc34 kV34 dc34 pm34 cd34 ct34 : Value}
    {f35 : Addr} {od35 an35 : Option Addr} {sl35 : Array (Option Value)} {oc35 kV35 dc35 pm35 cd35 ct35 : Value}
    {f36 : Addr} {od36 an36 : Option Addr} {sl36 : Array (Option Value)} {oc36 kV36 dc36 pm36 cd36 ct36 : Value}
    {f37 : Addr} {od37 an37 : Option Addr} {sl37 : Array (Option Value)} {oc37 kV37 dc37 pm37 cd37 ct37 : Value}
    {f38 : Addr} {od38 an38 : Option Addr} {sl38 : Array (Option Value)} {oc38 kV38 dc38 pm38 cd38 ct38 : Value}
    {f39 : Addr} {od39 an39 : Option Addr} {sl39 : Array (Option Value)} {oc39 kV39 dc39 pm39 cd39 ct39 : Value}
    {f40 : Addr} {od40 an40 : Option Addr} {sl40 : Array (Option Value)} {oc40 kV40 dc40 pm40 cd40 ct40 : Value}
    {f41 : Addr} {od41 an41 : Option Addr} {sl41 : Array (Option Value)} {oc41 kV41 dc41 pm41 cd41 ct41 : Value}
    {f42 : Addr} {od42 an42 : Option Addr} {sl42 : Array (Option Value)} {oc42 kV42 dc42 pm42 cd42 ct42 : Value}
    {f43 : Addr} {od43 an43 : Option Addr} {sl43 : Array (Option Value)} {oc43 kV43 dc43 pm43 cd43 ct43 : Value}
    {f44 : Addr} {od44 an44 : Option Addr} {sl44 : Array (Option Value)} {oc44 kV44 dc44 pm44 cd44 ct44 : Value}
    {f45 : Addr} {od45 an45 : Option Addr} {sl45 : Array (Option Value)} {oc45 kV45 dc45 pm45 cd45 ct45 : Value}
    {tSLOW : Tok}
    {tFAST : Tok}
    {aW aL tS tF : Addr} {es : Array DictEntry} {nW n1 n2 n3 : Nat} {o1 o2 o3 : Option Addr} {s1 s2 s3 : Array (Option Value)} {u1 u2 u3 u4 u5 u6 u7 : Tok}
    {xC0 xF0 xN0 xcc0 xcda0 : Addr} {xnm0 xq0 xfile0 : Str} {xbs0 xbm0 : List Value} {xsn0 : List Str} {xsub0 : List Value} {xab0 : Bool} {xcol0 : Option Bool} {xdd0 xod0 xan0 xcld0 xcdd0 : Option Addr} {xk00 xk10 xk20 xk30 xk50 : Option Value} {xoc0 xdoc0 xpm0 xct0 xcl0 xccl0 : Value} {xosl0 xcsl0 xccs0 : Array (Option Value)} {xvs0 : Array Value} {xtf0 : Tok}
    (aC : PySem.W.nsIn K mainGlobals "Dark" = some (some (.ref C)))
    (aC_Walk : PySem.W.nsIn K mainGlobals "Walk" = some (some (.ref C_Walk)))
    (a0 : PySem.W.nsIn K mainGlobals "_law_pot" = some (some (.ref f0)))
    (l0 : K.lookup f0 = some ⟨oc0, od0, .func (PySem.W.fnOf "_law_pot" "_law_pot" (defArgs slaw_pot) (defBody slaw_pot) (defScope slaw_pot) .none kV0 dc0 pm0 an0 cd0 ct0), sl0⟩)
    (c0 : PySem.W.codeIn K cd0 "_law_pot" = true)
    (k0 : PySem.W.keepIn K (.ref f0) = true)
    (a1 : PySem.W.nsIn K mainGlobals "_law_draw" = some (some (.ref f1)))
    (l1 : K.lookup f1 = some ⟨oc1, od1, .func (PySem.W.fnOf "_law_draw" "_law_draw" (defArgs slaw_draw) (defBody slaw_draw) (defScope slaw_draw) .none kV1 dc1 pm1 an1 cd1 ct1), sl1⟩)
    (c1 : PySem.W.codeIn K cd1 "_law_draw" = true)
    (k1 : PySem.W.keepIn K (.ref f1) = true)
    (a2 : PySem.W.nsIn K mainGlobals "_law_hidden" = some (some (.ref f2)))
    (l2 : K.lookup f2 = some ⟨oc2, od2, .func (PySem.W.fnOf "_law_hidden" "_law_hidden" (defArgs slaw_hidden) (defBody slaw_hidden) (defScope slaw_hidden) .none kV2 dc2 pm2 an2 cd2 ct2), sl2⟩)
    (c2 : PySem.W.codeIn K cd2 "_law_hidden" = true)
    (k2 : PySem.W.keepIn K (.ref f2) = true)
    (a3 : PySem.W.nsIn K mainGlobals "_law_goal" = some (some (.ref f3)))
    (l3 : K.lookup f3 = some ⟨oc3, od3, .func (PySem.W.fnOf "_law_goal" "_law_goal" (defArgs slaw_goal) (defBody slaw_goal) (defScope slaw_goal) .none kV3 dc3 pm3 an3 cd3 ct3), sl3⟩)
    (c3 : PySem.W.codeIn K cd3 "_law_goal" = true)
    (k3 : PySem.W.keepIn K (.ref f3) = true)
    (a4 : PySem.W.nsIn K mainGlobals "_law_wide" = some (some (.ref f4)))
    (l4 : K.lookup f4 = some ⟨oc4, od4, .func (PySem.W.fnOf "_law_wide" "_law_wide" (defArgs slaw_wide) (defBody slaw_wide) (defScope slaw_wide) .none kV4 dc4 pm4 an4 cd4 ct4), sl4⟩)
    (c4 : PySem.W.codeIn K cd4 "_law_wide" = true)
    (k4 : PySem.W.keepIn K (.ref f4) = true)
    (a5 : PySem.W.nsIn K mainGlobals "_law_look" = some (some (.ref f5)))
    (l5 : K.lookup f5 = some ⟨oc5, od5, .func (PySem.W.fnOf "_law_look" "_law_look" (defArgs slaw_look) (defBody slaw_look) (defScope slaw_look) .none kV5 dc5 pm5 an5 cd5 ct5), sl5⟩)
    (c5 : PySem.W.codeIn K cd5 "_law_look" = true)
    (k5 : PySem.W.keepIn K (.ref f5) = true)
    (a6 : PySem.W.nsIn K mainGlobals "_law_told" = some (some (.ref f6)))
    (l6 : K.lookup f6 = some ⟨oc6, od6, .func (PySem.W.fnOf "_law_told" "_law_told" (defArgs slaw_told) (defBody slaw_told) (defScope slaw_told) .none kV6 dc6 pm6 an6 cd6 ct6), sl6⟩)
    (c6 : PySem.W.codeIn K cd6 "_law_told" = true)
    (k6 : PySem.W.keepIn K (.ref f6) = true)
    (a7 : PySem.W.nsIn K mainGlobals "_law_missing" = some (some (.ref f7)))
    (l7 : K.lookup f7 = some ⟨oc7, od7, .func (PySem.W.fnOf "_law_missing" "_law_missing" (defArgs slaw_missing) (defBody slaw_missing) (defScope slaw_missing) .none kV7 dc7 pm7 an7 cd7 ct7), sl7⟩)
    (c7 : PySem.W.codeIn K cd7 "_law_missing" = true)
    (k7 : PySem.W.keepIn K (.ref f7) = true)
    (a8 : PySem.W.nsIn K mainGlobals "_law_judged" = some (some (.ref f8)))
    (l8 : K.lookup f8 = some ⟨oc8, od8, .func (PySem.W.fnOf "_law_judged" "_law_judged" (defArgs slaw_judged) (defBody slaw_judged) (defScope slaw_judged) .none kV8 dc8 pm8 an8 cd8 ct8), sl8⟩)
    (c8 : PySem.W.codeIn K cd8 "_law_judged" = true)
    (k8 : PySem.W.keepIn K (.ref f8) = true)
    (a9 : PySem.W.nsIn K mainGlobals "_law_rings_right" = some (some (.ref f9)))
    (l9 : K.lookup f9 = some ⟨oc9, od9, .func (PySem.W.fnOf "_law_rings_right" "_law_rings_right" (defArgs slaw_rings_right) (defBody slaw_rings_right) (defScope slaw_rings_right) .none kV9 dc9 pm9 an9 cd9 ct9), sl9⟩)
    (c9 : PySem.W.codeIn K cd9 "_law_rings_right" = true)
    (k9 : PySem.W.keepIn K (.ref f9) = true)
    (a10 : PySem.W.nsIn K mainGlobals "_law_fresh" = some (some (.ref f10)))
    (l10 : K.lookup f10 = some ⟨oc10, od10, .func (PySem.W.fnOf "_law_fresh" "_law_fresh" (defArgs slaw_fresh) (defBody slaw_fresh) (defScope slaw_fresh) .none kV10 dc10 pm10 an10 cd10 ct10), sl10⟩)
    (c10 : PySem.W.codeIn K cd10 "_law_fresh" = true)
    (k10 : PySem.W.keepIn K (.ref f10) = true)
    (a11 : PySem.W.nsIn K mainGlobals "_law_turn" = some (some (.ref f11)))
    (l11 : K.lookup f11 = some ⟨oc11, od11, .func (PySem.W.fnOf "_law_turn" "_law_turn" (defArgs slaw_turn) (defBody slaw_turn) (defScope slaw_turn) .none kV11 dc11 pm11 an11 cd11 ct11), sl11⟩)
    (c11 : PySem.W.codeIn K cd11 "_law_turn" = true)
    (k11 : PySem.W.keepIn K (.ref f11) = true)
    (a12 : PySem.W.nsIn K mainGlobals "side_looks" = some (some (.ref f12)))
    (l12 : K.lookup f12 = some ⟨oc12, od12, .func (PySem.W.fnOf "side_looks" "side_looks" (defArgs sside_looks) (defBody sside_looks) (defScope sside_looks) .none kV12 dc12 pm12 an12 cd12 ct12), sl12⟩)
    (c12 : PySem.W.codeIn K cd12 "side_looks" = true)
    (k12 : PySem.W.keepIn K (.ref f12) = true)
    (a13 : PySem.W.nsIn K mainGlobals "round_looks" = some (some (.ref f13)))
    (l13 : K.lookup f13 = some ⟨oc13, od13, .func (PySem.W.fnOf "round_looks" "round_looks" (defArgs sround_looks) (defBody sround_looks) (defScope sround_looks) .none kV13 dc13 pm13 an13 cd13 ct13), sl13⟩)
    (c13 : PySem.W.codeIn K cd13 "round_looks" = true)
    (k13 : PySem.W.keepIn K (.ref f13) = true)
    (a14 : PySem.W.nsIn K mainGlobals "place_by" = some (some (.ref f14)))
    (l14 : K.lookup f14 = some ⟨oc14, od14, .func (PySem.W.fnOf "place_by" "place_by" (defArgs splace_by) (defBody splace_by) (defScope splace_by) .none kV14 dc14 pm14 an14 cd14 ct14), sl14⟩)
    (c14 : PySem.W.codeIn K cd14 "place_by" = true)
    (k14 : PySem.W.keepIn K (.ref f14) = true)
    (a15 : PySem.W.nsIn K mainGlobals "best_step" = some (some (.ref f15)))
    (l15 : K.lookup f15 = some ⟨oc15, od15, .func (PySem.W.fnOf "best_step" "best_step" (defArgs sbest_step) (defBody sbest_step) (defScope sbest_step) .none kV15 dc15 pm15 an15 cd15 ct15), sl15⟩)
    (c15 : PySem.W.codeIn K cd15 "best_step" = true)
    (k15 : PySem.W.keepIn K (.ref f15) = true)
    (a16 : PySem.W.findIn K (.ref C_Walk) "__init__" = some (some (.ref f16)))
    (i16 : PySem.W.isFn K (.ref f16) = true)
    (l16 : K.lookup f16 = some ⟨oc16, od16, .func (PySem.W.fnOf "__init__" "Walk.__init__" (defArgs sWalk_init) (defBody sWalk_init) (defScope sWalk_init) .none kV16 dc16 pm16 an16 cd16 ct16), sl16⟩)
    (c16 : PySem.W.codeIn K cd16 "Walk.__init__" = true)
    (k16 : PySem.W.keepIn K (.ref f16) = true)
    (a17 : PySem.W.findIn K (.ref C_Walk) "_follow" = some (some (.ref f17)))
    (i17 : PySem.W.isFn K (.ref f17) = true)
    (l17 : K.lookup f17 = some ⟨oc17, od17, .func (PySem.W.fnOf "_follow" "Walk._follow" (defArgs sWalkfollow) (defBody sWalkfollow) (defScope sWalkfollow) .none kV17 dc17 pm17 an17 cd17 ct17), sl17⟩)
    (c17 : PySem.W.codeIn K cd17 "Walk._follow" = true)
    (k17 : PySem.W.keepIn K (.ref f17) = true)
    (a18 : PySem.W.findIn K (.ref C_Walk) "period" = some (some (.ref f18)))
    (i18 : PySem.W.isFn K (.ref f18) = true)
    (l18 : K.lookup f18 = some ⟨oc18, od18, .func (PySem.W.fnOf "period" "Walk.period" (defArgs sWalk_period) (defBody sWalk_period) (defScope sWalk_period) .none kV18 dc18 pm18 an18 cd18 ct18), sl18⟩)
    (c18 : PySem.W.codeIn K cd18 "Walk.period" = true)
    (k18 : PySem.W.keepIn K (.ref f18) = true)
    (a19 : PySem.W.findIn K (.ref C_Walk) "climb" = some (some (.ref f19)))
    (i19 : PySem.W.isFn K (.ref f19) = true)
    (l19 : K.lookup f19 = some ⟨oc19, od19, .func (PySem.W.fnOf "climb" "Walk.climb" (defArgs sWalk_climb) (defBody sWalk_climb) (defScope sWalk_climb) .none kV19 dc19 pm19 an19 cd19 ct19), sl19⟩)
    (c19 : PySem.W.codeIn K cd19 "Walk.climb" = true)
    (k19 : PySem.W.keepIn K (.ref f19) = true)
    (a20 : PySem.W.findIn K (.ref C_Walk) "behind" = some (some (.ref f20)))
    (i20 : PySem.W.isFn K (.ref f20) = true)
    (l20 : K.lookup f20 = some ⟨oc20, od20, .func (PySem.W.fnOf "behind" "Walk.behind" (defArgs sWalk_behind) (defBody sWalk_behind) (defScope sWalk_behind) .none kV20 dc20 pm20 an20 cd20 ct20), sl20⟩)
    (c20 : PySem.W.codeIn K cd20 "Walk.behind" = true)
    (k20 : PySem.W.keepIn K (.ref f20) = true)
    (a21 : PySem.W.findIn K (.ref C_Walk) "reach" = some (some (.ref f21)))
    (i21 : PySem.W.isFn K (.ref f21) = true)
    (l21 : K.lookup f21 = some ⟨oc21, od21, .func (PySem.W.fnOf "reach" "Walk.reach" (defArgs sWalk_reach) (defBody sWalk_reach) (defScope sWalk_reach) .none kV21 dc21 pm21 an21 cd21 ct21), sl21⟩)
    (c21 : PySem.W.codeIn K cd21 "Walk.reach" = true)
    (k21 : PySem.W.keepIn K (.ref f21) = true)
    (a22 : PySem.W.nsIn K mainGlobals "check_round" = some (some (.ref f22)))
    (l22 : K.lookup f22 = some ⟨oc22, od22, .func (PySem.W.fnOf "check_round" "check_round" (defArgs scheck_round) (defBody scheck_round) (defScope scheck_round) .none kV22 dc22 pm22 an22 cd22 ct22), sl22⟩)
    (c22 : PySem.W.codeIn K cd22 "check_round" = true)
    (k22 : PySem.W.keepIn K (.ref f22) = true)
    (a23 : PySem.W.nsIn K mainGlobals "place_behind" = some (some (.ref f23)))
    (l23 : K.lookup f23 = some ⟨oc23, od23, .func (PySem.W.fnOf "place_behind" "place_behind" (defArgs splace_behind) (defBody splace_behind) (defScope splace_behind) .none kV23 dc23 pm23 an23 cd23 ct23), sl23⟩)
    (c23 : PySem.W.codeIn K cd23 "place_behind" = true)
    (k23 : PySem.W.keepIn K (.ref f23) = true)
    (a24 : PySem.W.nsIn K mainGlobals "least_behind" = some (some (.ref f24)))
    (l24 : K.lookup f24 = some ⟨oc24, od24, .func (PySem.W.fnOf "least_behind" "least_behind" (defArgs sleast_behind) (defBody sleast_behind) (defScope sleast_behind) .none kV24 dc24 pm24 an24 cd24 ct24), sl24⟩)
    (c24 : PySem.W.codeIn K cd24 "least_behind" = true)
    (k24 : PySem.W.keepIn K (.ref f24) = true)
    (a25 : PySem.W.nsIn K mainGlobals "greatest_behind" = some (some (.ref f25)))
    (l25 : K.lookup f25 = some ⟨oc25, od25, .func (PySem.W.fnOf "greatest_behind" "greatest_behind" (defArgs sgreatest_behind) (defBody sgreatest_behind) (defScope sgreatest_behind) .none kV25 dc25 pm25 an25 cd25 ct25), sl25⟩)
    (c25 : PySem.W.codeIn K cd25 "greatest_behind" = true)
    (k25 : PySem.W.keepIn K (.ref f25) = true)
    (a26 : PySem.W.nsIn K mainGlobals "fewest_uses" = some (some (.ref f26)))
    (l26 : K.lookup f26 = some ⟨oc26, od26, .func (PySem.W.fnOf "fewest_uses" "fewest_uses" (defArgs sfewest_uses) (defBody sfewest_uses) (defScope sfewest_uses) .none kV26 dc26 pm26 an26 cd26 ct26), sl26⟩)
    (c26 : PySem.W.codeIn K cd26 "fewest_uses" = true)
    (k26 : PySem.W.keepIn K (.ref f26) = true)
    (a27 : PySem.W.nsIn K mainGlobals "most_uses" = some (some (.ref f27)))
    (l27 : K.lookup f27 = some ⟨oc27, od27, .func (PySem.W.fnOf "most_uses" "most_uses" (defArgs smost_uses) (defBody smost_uses) (defScope smost_uses) .none kV27 dc27 pm27 an27 cd27 ct27), sl27⟩)
    (c27 : PySem.W.codeIn K cd27 "most_uses" = true)
    (k27 : PySem.W.keepIn K (.ref f27) = true)
    (a28 : PySem.W.nsIn K mainGlobals "lowest" = some (some (.ref f28)))
    (l28 : K.lookup f28 = some ⟨oc28, od28, .func (PySem.W.fnOf "lowest" "lowest" (defArgs slowest) (defBody slowest) (defScope slowest) .none kV28 dc28 pm28 an28 cd28 ct28), sl28⟩)
    (c28 : PySem.W.codeIn K cd28 "lowest" = true)
    (k28 : PySem.W.keepIn K (.ref f28) = true)
    (a29 : PySem.W.nsIn K mainGlobals "side_pace" = some (some (.ref f29)))
    (l29 : K.lookup f29 = some ⟨oc29, od29, .func (PySem.W.fnOf "side_pace" "side_pace" (defArgs sside_pace) (defBody sside_pace) (defScope sside_pace) .none kV29 dc29 pm29 an29 cd29 ct29), sl29⟩)
    (c29 : PySem.W.codeIn K cd29 "side_pace" = true)
    (k29 : PySem.W.keepIn K (.ref f29) = true)
    (a30 : PySem.W.nsIn K mainGlobals "paces" = some (some (.ref f30)))
    (l30 : K.lookup f30 = some ⟨oc30, od30, .func (PySem.W.fnOf "paces" "paces" (defArgs spaces) (defBody spaces) (defScope spaces) .none kV30 dc30 pm30 an30 cd30 ct30), sl30⟩)
    (c30 : PySem.W.codeIn K cd30 "paces" = true)
    (k30 : PySem.W.keepIn K (.ref f30) = true)
    (a31 : PySem.W.nsIn K mainGlobals "check_side" = some (some (.ref f31)))
    (l31 : K.lookup f31 = some ⟨oc31, od31, .func (PySem.W.fnOf "check_side" "check_side" (defArgs scheck_side) (defBody scheck_side) (defScope scheck_side) .none kV31 dc31 pm31 an31 cd31 ct31), sl31⟩)
    (c31 : PySem.W.codeIn K cd31 "check_side" = true)
    (k31 : PySem.W.keepIn K (.ref f31) = true)
    (a32 : PySem.W.nsIn K mainGlobals "check_ring" = some (some (.ref f32)))
    (l32 : K.lookup f32 = some ⟨oc32, od32, .func (PySem.W.fnOf "check_ring" "check_ring" (defArgs scheck_ring) (defBody scheck_ring) (defScope scheck_ring) .none kV32 dc32 pm32 an32 cd32 ct32), sl32⟩)
    (c32 : PySem.W.codeIn K cd32 "check_ring" = true)
    (k32 : PySem.W.keepIn K (.ref f32) = true)
    (a33 : PySem.W.nsIn K mainGlobals "ring" = some (some (.ref f33)))
    (l33 : K.lookup f33 = some ⟨oc33, od33, .func (PySem.W.fnOf "ring" "ring" (defArgs sring) (defBody sring) (defScope sring) .none kV33 dc33 pm33 an33 cd33 ct33), sl33⟩)
    (c33 : PySem.W.codeIn K cd33 "ring" = true)
    (k33 : PySem.W.keepIn K (.ref f33) = true)
    (a34 : PySem.W.nsIn K mainGlobals "ring_pace" = some (some (.ref f34)))
    (l34 : K.lookup f34 = some ⟨oc34, od34, .func (PySem.W.fnOf "ring_pace" "ring_pace" (defArgs sring_pace) (defBody sring_pace) (defScope sring_pace) .none kV34 dc34 pm34 an34 cd34 ct34), sl34⟩)
    (c34 : PySem.W.codeIn K cd34 "ring_pace" = true)
    (k34 : PySem.W.keepIn K (.ref f34) = true)
    (a35 : PySem.W.nsIn K mainGlobals "too_far" = some (some (.ref f35)))
    (l35 : K.lookup f35 = some ⟨oc35, od35, .func (PySem.W.fnOf "too_far" "too_far" (defArgs stoo_far) (defBody stoo_far) (defScope stoo_far) .none kV35 dc35 pm35 an35 cd35 ct35), sl35⟩)
    (c35 : PySem.W.codeIn K cd35 "too_far" = true)
    (k35 : PySem.W.keepIn K (.ref f35) = true)
    (a36 : PySem.W.nsIn K mainGlobals "clash" = some (some (.ref f36)))
    (l36 : K.lookup f36 = some ⟨oc36, od36, .func (PySem.W.fnOf "clash" "clash" (defArgs sclash) (defBody sclash) (defScope sclash) .none kV36 dc36 pm36 an36 cd36 ct36), sl36⟩)
    (c36 : PySem.W.codeIn K cd36 "clash" = true)
    (k36 : PySem.W.keepIn K (.ref f36) = true)
    (a37 : PySem.W.findIn K (.ref C) "__init__" = some (some (.ref f37)))
    (i37 : PySem.W.isFn K (.ref f37) = true)
    (l37 : K.lookup f37 = some ⟨oc37, od37, .func (PySem.W.fnOf "__init__" "Dark.__init__" (defArgs sDark_init) (defBody sDark_init) (defScope sDark_init) .none kV37 dc37 pm37 an37 cd37 ct37), sl37⟩)
    (c37 : PySem.W.codeIn K cd37 "Dark.__init__" = true)
    (k37 : PySem.W.keepIn K (.ref f37) = true)
    (a38 : PySem.W.findIn K (.ref C) "length" = some (some (.ref f38)))
    (i38 : PySem.W.isFn K (.ref f38) = true)
    (l38 : K.lookup f38 = some ⟨oc38, od38, .func (PySem.W.fnOf "length" "Dark.length" (defArgs sDark_length) (defBody sDark_length) (defScope sDark_length) .none kV38 dc38 pm38 an38 cd38 ct38), sl38⟩)
    (c38 : PySem.W.codeIn K cd38 "Dark.length" = true)
    (k38 : PySem.W.keepIn K (.ref f38) = true)
    (a39 : PySem.W.findIn K (.ref C) "hear" = some (some (.ref f39)))
    (i39 : PySem.W.isFn K (.ref f39) = true)
    (l39 : K.lookup f39 = some ⟨oc39, od39, .func (PySem.W.fnOf "hear" "Dark.hear" (defArgs sDark_hear) (defBody sDark_hear) (defScope sDark_hear) .none kV39 dc39 pm39 an39 cd39 ct39), sl39⟩)
    (c39 : PySem.W.codeIn K cd39 "Dark.hear" = true)
    (k39 : PySem.W.keepIn K (.ref f39) = true)
    (a40 : PySem.W.findIn K (.ref C) "drop" = some (some (.ref f40)))
    (i40 : PySem.W.isFn K (.ref f40) = true)
    (l40 : K.lookup f40 = some ⟨oc40, od40, .func (PySem.W.fnOf "drop" "Dark.drop" (defArgs sDark_drop) (defBody sDark_drop) (defScope sDark_drop) .none kV40 dc40 pm40 an40 cd40 ct40), sl40⟩)
    (c40 : PySem.W.codeIn K cd40 "Dark.drop" = true)
    (k40 : PySem.W.keepIn K (.ref f40) = true)
    (a41 : PySem.W.findIn K (.ref C) "looks" = some (some (.ref f41)))
    (i41 : PySem.W.isFn K (.ref f41) = true)
    (l41 : K.lookup f41 = some ⟨oc41, od41, .func (PySem.W.fnOf "looks" "Dark.looks" (defArgs sDark_looks) (defBody sDark_looks) (defScope sDark_looks) .none kV41 dc41 pm41 an41 cd41 ct41), sl41⟩)
    (c41 : PySem.W.codeIn K cd41 "Dark.looks" = true)
    (k41 : PySem.W.keepIn K (.ref f41) = true)
    (a42 : PySem.W.findIn K (.ref C) "_check_word" = some (some (.ref f42)))
    (i42 : PySem.W.isFn K (.ref f42) = true)
    (l42 : K.lookup f42 = some ⟨oc42, od42, .func (PySem.W.fnOf "_check_word" "Dark._check_word" (defArgs sDarkcheck_word) (defBody sDarkcheck_word) (defScope sDarkcheck_word) .none kV42 dc42 pm42 an42 cd42 ct42), sl42⟩)
    (c42 : PySem.W.codeIn K cd42 "Dark._check_word" = true)
    (k42 : PySem.W.keepIn K (.ref f42) = true)
    (a43 : PySem.W.findIn K (.ref C) "_home" = some (some (.ref f43)))
    (i43 : PySem.W.isFn K (.ref f43) = true)
    (l43 : K.lookup f43 = some ⟨oc43, od43, .func (PySem.W.fnOf "_home" "Dark._home" (defArgs sDarkhome) (defBody sDarkhome) (defScope sDarkhome) .none kV43 dc43 pm43 an43 cd43 ct43), sl43⟩)
    (c43 : PySem.W.codeIn K cd43 "Dark._home" = true)
    (k43 : PySem.W.keepIn K (.ref f43) = true)
    (a44 : PySem.W.findIn K (.ref C) "_clashing" = some (some (.ref f44)))
    (i44 : PySem.W.isFn K (.ref f44) = true)
    (l44 : K.lookup f44 = some ⟨oc44, od44, .func (PySem.W.fnOf "_clashing" "Dark._clashing" (defArgs sDarkclashing) (defBody sDarkclashing) (defScope sDarkclashing) .none kV44 dc44 pm44 an44 cd44 ct44), sl44⟩)
    (c44 : PySem.W.codeIn K cd44 "Dark._clashing" = true)
    (k44 : PySem.W.keepIn K (.ref f44) = true)
    (a45 : PySem.W.nsIn K mainGlobals "law" = some (some (.ref f45)))
    (l45 : K.lookup f45 = some ⟨oc45, od45, .func (PySem.W.fnOf "law" "law" (defArgs slaw) (defBody slaw) (defScope slaw) .none kV45 dc45 pm45 an45 cd45 ct45), sl45⟩)
    (c45 : PySem.W.codeIn K cd45 "law" = true)
    (k45 : PySem.W.keepIn K (.ref f45) = true)
    (pg : PySem.W.plainGet K C Str.empty = true)
    (hd : PySem.W.hasDictIn K C = true)
    (po : PySem.W.plainOver K C = true)
    (sa : PySem.W.findIn K (.ref C) "__setattr__" = some (some (.builtin "object.__setattr__")))
    (mk : PySem.W.makesIn K C = true)
    (kc : PySem.W.keepIn K (.ref C) = true)
    (n_length : PySem.W.findIn K (.ref C) "_length" = some none)
    (n_looks : PySem.W.findIn K (.ref C) "_looks" = some none)
    (pg_Walk : PySem.W.plainGet K C_Walk Str.empty = true)
    (hd_Walk : PySem.W.hasDictIn K C_Walk = true)
    (po_Walk : PySem.W.plainOver K C_Walk = true)
    (sa_Walk : PySem.W.findIn K (.ref C_Walk) "__setattr__" = some (some (.builtin "object.__setattr__")))
    (mk_Walk : PySem.W.makesIn K C_Walk = true)
    (kc_Walk : PySem.W.keepIn K (.ref C_Walk) = true)
    (nWalk_places : PySem.W.findIn K (.ref C_Walk) "places" = some none)
    (nWalk_told_by : PySem.W.findIn K (.ref C_Walk) "told_by" = some none)
    (nWalk_start : PySem.W.findIn K (.ref C_Walk) "start" = some none)
    (b_max : PySem.W.nsIn K mainGlobals "max" = some none)
    (b_min : PySem.W.nsIn K mainGlobals "min" = some none)
    (b_len : PySem.W.nsIn K mainGlobals "len" = some none)
    (b_range : PySem.W.nsIn K mainGlobals "range" = some none)
    (b_sorted : PySem.W.nsIn K mainGlobals "sorted" = some none)
    (b_set : PySem.W.nsIn K mainGlobals "set" = some none)
    (b_list : PySem.W.nsIn K mainGlobals "list" = some none)
    (b_int : PySem.W.nsIn K mainGlobals "int" = some none)
    (b_enumerate : PySem.W.nsIn K mainGlobals "enumerate" = some none)
    (b_divmod : PySem.W.nsIn K mainGlobals "divmod" = some none)
    (g_gcd0 : PySem.W.nsIn K mainGlobals "gcd" = some (some (.builtin "math.gcd")))
    (b_zip : PySem.W.nsIn K mainGlobals "zip" = some none)
    (b_tuple : PySem.W.nsIn K mainGlobals "tuple" = some none)
    (b_bool : PySem.W.nsIn K mainGlobals "bool" = some none)
    (b_str : PySem.W.nsIn K mainGlobals "str" = some none)
    (b_abs : PySem.W.nsIn K mainGlobals "abs" = some none)
    (b_super : PySem.W.nsIn K mainGlobals "super" = some none)
    (b_ValueError : PySem.W.nsIn K mainGlobals "ValueError" = some none)
    (gSLOW : PySem.W.nsIn K mainGlobals "SLOW" = some (some (.str "slow" tSLOW)))
    (gFAST : PySem.W.nsIn K mainGlobals "FAST" = some (some (.str "fast" tFAST)))
    (gW : PySem.W.nsIn K mainGlobals "WORDS" = some (some (.ref aW)))
    (lW : K.lookup aW = some ⟨.type "dict", none, .dict es nW, #[]⟩)
    (keys : PySem.W.KeysLit w.params es.toList)
    (low : (aW == sysModules) = false)
    (wS : PySem.W.nsIn K aW "slow" = some (some (.ref tS)))
    (wF : PySem.W.nsIn K aW "fast" = some (some (.ref tF)))
    (lS : K.lookup tS = some ⟨.type "tuple", o1, .seq #[.str "at" u1, .str "from" u2] n1, s1⟩)
    (lF : K.lookup tF = some ⟨.type "tuple", o2, .seq #[.str "at" u3, .str "upto" u4] n2, s2⟩)
    (gL : PySem.W.nsIn K mainGlobals "LOOK_WORDS" = some (some (.ref aL)))
    (lL : K.lookup aL = some ⟨.type "tuple", o3, .seq #[.str "at" u5, .str "from" u6, .str "upto" u7] n3, s3⟩)
    (xg0 : PySem.W.nsIn K mainGlobals "NoRing" = some (some (.ref xC0)))
    (xL0 : K.lookup xC0 = some (excClassObj xnm0 xq0 xC0 xN0 xbs0 xbm0 true xsn0 xsub0 xab0 xcol0 xdd0 xk00 xk10 xk20 xk30 xk50 "ValueError.__new__"))
    (xbv0 : PySem.HandSPX.refsVE xbm0 = true)
    (xsa0 : PySem.W.findIn K (.ref xC0) "__setattr__" = some (some (.builtin "object.__setattr__")))
    (xnw0 : PySem.W.findIn K (.ref xC0) "what" = some none)
    (xsv0 : PySem.W.subIn K (.ref xC0) (.type "ValueError") = some true)
    (xsu0 : PySem.W.ks_superIn K xC0 xC0 "__init__" = some (some (.builtin "ValueError.__init__")))
    (xop0 : PySem.W.nsIn K PySem.cStatics "thirdparty.any" = some none)
    (xme0 : PySem.W.mroIn K xC0 (.ref xC0) = some true)
    (xin0 : PySem.W.findIn K (.ref xC0) "__init__" = some (some (.ref xF0)))
    (xty0 : PySem.W.typeIn K (.ref xF0) = some (.type "function"))
    (xkc0 : PySem.W.keepIn K (.ref xC0) = true)
    (xex0 : PySem.W.subIn K (.ref xC0) (.type "BaseException") = some true)
    (xtc0 : PySem.W.typeIn K (.ref xC0) = some (.type "type"))
    (xic0 : PySem.W.isClsIn K xC0 = true)
    (xss0 : PySem.W.subIn K (.ref xC0) (.ref xC0) = some true)
    (xto0 : (l.prog.main.scope.names.lookup ("super" : Str)).isSome = false)
    (xl0 : K.lookup xF0 = some ⟨xoc0, xod0, .func (PySem.W.ksFn "__init__" "NoRing.__init__" (defArgs (inClass (top 11) 0)) (defBody (inClass (top 11) 0)) (defScope (inClass (top 11) 0)) .none .none xdoc0 xpm0 xan0 (.ref xcda0) xct0 xcc0), xosl0⟩)
    (xc0 : PySem.W.codeIn K (.ref xcda0) "NoRing.__init__" = true)
    (xlc0 : K.lookup xcc0 = some ⟨xcl0, xcld0, .cell (some (.ref xC0)), xcsl0⟩)
    (xld0 : K.lookup xcda0 = some ⟨xccl0, xcdd0, .fields xvs0, xccs0⟩)
    (xv0 : xvs0[2]? = some (.str xfile0 xtf0))
    (xfi0 : ((l.prog.main.file : Str) == xfile0) = true)
    (yb : PySem.W.subIn K (.ref yC_NoRing) (.type "BaseException") = some true)
    (yga0 : PySem.W.findIn K (.ref xC0) "__getattribute__" = some (some (.builtin "BaseException.__getattribute__")))
    (ygg0 : PySem.W.findIn K (.ref xC0) "__getattr__" = some none)
    (yhd0 : PySem.W.hasDictIn K xC0 = true)
    (yha0 : PySem.W.findIn K (.ref xC0) "__class__" = some (some (.builtin "object.__class__")))
    (yhm0 : PySem.W.mroIn K xC0 (.type "object") = some true)
    (yhn : PySem.W.specialIn K (.builtin "object.__class__") "__get__" = some (some (.builtin "getset_descriptor.__get__")))
    (yht : PySem.W.takesIn K (.builtin "object.__class__") = some true)
    (ysd0 : PySem.W.subIn K (.ref xC0) (.ref yC_NoRing) = some true) :
    ∃ fd : FuncData, (∀ (s : Shared) (v : Value), BindsTo s fd ⟨[v], []⟩ [("script", v)]) ∧ ∀ base : Heap, K.In base → base.Ns mainGlobals mg → FnOk l.prog w K mg base CX0 10 fa fd ["script"] (spLaw K) := by
  have e := hfa.symm.trans (PySem.W.mg_of X G a45)
  cases e
  have F0 := fun_mk (st := slaw_pot) l0 c0 k0
  have F1 := fun_mk (st := slaw_draw) l1 c1 k1
  have F2 := fun_mk (st := slaw_hidden) l2 c2 k2
  have F3 := fun_mk (st := slaw_goal) l3 c3 k3
  have F4 := fun_mk (st := slaw_wide) l4 c4 k4
  have F5 := fun_mk (st := slaw_look) l5 c5 k5
  have F6 := fun_mk (st := slaw_told) l6 c6 k6
  have F7 := fun_mk (st := slaw_missing) l7 c7 k7
  have F8 := fun_mk (st := slaw_judged) l8 c8 k8
  have F9 := fun_mk (st := slaw_rings_right) l9 c9 k9
  have F10 := fun_mk (st := slaw_fresh) l10 c10 k10
  have F11 := fun_mk (st := slaw_turn) l11 c11 k11
  have F12 := fun_mk (st := sside_looks) l12 c12 k12
  have F13 := fun_mk (st := sround_looks) l13 c13 k13
  have F14 := fun_mk (st := splace_by) l14 c14 k14
  have F15 := fun_mk (st := sbest_step) l15 c15 k15
  have F16 := fun_mk (st := sWalk_init) l16 c16 k16
  have F17 := fun_mk (st := sWalkfollow) l17 c17 k17
  have F18 := fun_mk (st := sWalk_period) l18 c18 k18
  have F19 := fun_mk (st := sWalk_climb) l19 c19 k19
  have F20 := fun_mk (st := sWalk_behind) l20 c20 k20
  have F21 := fun_mk (st := sWalk_reach) l21 c21 k21
  have F22 := fun_mk (st := scheck_round) l22 c22 k22
  have F23 := fun_mk (st := splace_behind) l23 c23 k23
  have F24 := fun_mk (st := sleast_behind) l24 c24 k24
  have F25 := fun_mk (st := sgreatest_behind) l25 c25 k25
  have F26 := fun_mk (st := sfewest_uses) l26 c26 k26
  have F27 := fun_mk (st := smost_uses) l27 c27 k27
  have F28 := fun_mk (st := slowest) l28 c28 k28
  have F29 := fun_mk (st := sside_pace) l29 c29 k29
  have F30 := fun_mk (st := spaces) l30 c30 k30
  have F31 := fun_mk (st := scheck_side) l31 c31 k31
  have F32 := fun_mk (st := scheck_ring) l32 c32 k32
  have F33 := fun_mk (st := sring) l33 c33 k33
  have F34 := fun_mk (st := sring_pace) l34 c34 k34
  have F35 := fun_mk (st := stoo_far) l35 c35 k35
  have F36 := fun_mk (st := sclash) l36 c36 k36
  have F37 := fun_mk (st := sDark_init) l37 c37 k37
  have F38 := fun_mk (st := sDark_length) l38 c38 k38
  have F39 := fun_mk (st := sDark_hear) l39 c39 k39
  have F40 := fun_mk (st := sDark_drop) l40 c40 k40
  have F41 := fun_mk (st := sDark_looks) l41 c41 k41
  have F42 := fun_mk (st := sDarkcheck_word) l42 c42 k42
  have F43 := fun_mk (st := sDarkhome) l43 c43 k43
  have F44 := fun_mk (st := sDarkclashing) l44 c44 k44
  have F45 := fun_mk (st := slaw) l45 c45 k45
  let Z : Ad := {
    a_law_pot := f0,
    d_law_pot := PySem.W.fnOf "_law_pot" "_law_pot" (defArgs slaw_pot) (defBody slaw_pot) (defScope slaw_pot) .none kV0 dc0 pm0 an0 cd0 ct0,
    a_law_draw := f1,
    d_law_draw := PySem.W.fnOf "_law_draw" "_law_draw" (defArgs slaw_draw) (defBody slaw_draw) (defScope slaw_draw) .none kV1 dc1 pm1 an1 cd1 ct1,
    a_law_hidden := f2,
    d_law_hidden := PySem.W.fnOf "_law_hidden" "_law_hidden" (defArgs slaw_hidden) (defBody slaw_hidden) (defScope slaw_hidden) .none kV2 dc2 pm2 an2 cd2 ct2,
    a_law_goal := f3,
    d_law_goal := PySem.W.fnOf "_law_goal" "_law_goal" (defArgs slaw_goal) (defBody slaw_goal) (defScope slaw_goal) .none kV3 dc3 pm3 an3 cd3 ct3,
    a_law_wide := f4,
    d_law_wide := PySem.W.fnOf "_law_wide" "_law_wide" (defArgs slaw_wide) (defBody slaw_wide) (defScope slaw_wide) .none kV4 dc4 pm4 an4 cd4 ct4,
    a_law_look := f5,
    d_law_look := PySem.W.fnOf "_law_look" "_law_look" (defArgs slaw_look) (defBody slaw_look) (defScope slaw_look) .none kV5 dc5 pm5 an5 cd5 ct5,
    a_law_told := f6,
    d_law_told := PySem.W.fnOf "_law_told" "_law_told" (defArgs slaw_told) (defBody slaw_told) (defScope slaw_told) .none kV6 dc6 pm6 an6 cd6 ct6,
    a_law_missing := f7,
    d_law_missing := PySem.W.fnOf "_law_missing" "_law_missing" (defArgs slaw_missing) (defBody slaw_missing) (defScope slaw_missing) .none kV7 dc7 pm7 an7 cd7 ct7,
    a_law_judged := f8,
    d_law_judged := PySem.W.fnOf "_law_judged" "_law_judged" (defArgs slaw_judged) (defBody slaw_judged) (defScope slaw_judged) .none kV8 dc8 pm8 an8 cd8 ct8,
    a_law_rings_right := f9,
    d_law_rings_right := PySem.W.fnOf "_law_rings_right" "_law_rings_right" (defArgs slaw_rings_right) (defBody slaw_rings_right) (defScope slaw_rings_right) .none kV9 dc9 pm9 an9 cd9 ct9,
    a_law_fresh := f10,
    d_law_fresh := PySem.W.fnOf "_law_fresh" "_law_fresh" (defArgs slaw_fresh) (defBody slaw_fresh) (defScope slaw_fresh) .none kV10 dc10 pm10 an10 cd10 ct10,
    a_law_turn := f11,
    d_law_turn := PySem.W.fnOf "_law_turn" "_law_turn" (defArgs slaw_turn) (defBody slaw_turn) (defScope slaw_turn) .none kV11 dc11 pm11 an11 cd11 ct11,
    a_side_looks := f12,
    d_side_looks := PySem.W.fnOf "side_looks" "side_looks" (defArgs sside_looks) (defBody sside_looks) (defScope sside_looks) .none kV12 dc12 pm12 an12 cd12 ct12,
    a_round_looks := f13,
    d_round_looks := PySem.W.fnOf "round_looks" "round_looks" (defArgs sround_looks) (defBody sround_looks) (defScope sround_looks) .none kV13 dc13 pm13 an13 cd13 ct13,
    a_place_by := f14,
    d_place_by := PySem.W.fnOf "place_by" "place_by" (defArgs splace_by) (defBody splace_by) (defScope splace_by) .none kV14 dc14 pm14 an14 cd14 ct14,
    a_best_step := f15,
    d_best_step := PySem.W.fnOf "best_step" "best_step" (defArgs sbest_step) (defBody sbest_step) (defScope sbest_step) .none kV15 dc15 pm15 an15 cd15 ct15,
    a_Walk_init := f16,
    d_Walk_init := PySem.W.fnOf "__init__" "Walk.__init__" (defArgs sWalk_init) (defBody sWalk_init) (defScope sWalk_init) .none kV16 dc16 pm16 an16 cd16 ct16,
    a_Walkfollow := f17,
    d_Walkfollow := PySem.W.fnOf "_follow" "Walk._follow" (defArgs sWalkfollow) (defBody sWalkfollow) (defScope sWalkfollow) .none kV17 dc17 pm17 an17 cd17 ct17,
    a_Walk_period := f18,
    d_Walk_period := PySem.W.fnOf "period" "Walk.period" (defArgs sWalk_period) (defBody sWalk_period) (defScope sWalk_period) .none kV18 dc18 pm18 an18 cd18 ct18,
    a_Walk_climb := f19,
    d_Walk_climb := PySem.W.fnOf "climb" "Walk.climb" (defArgs sWalk_climb) (defBody sWalk_climb) (defScope sWalk_climb) .none kV19 dc19 pm19 an19 cd19 ct19,
    a_Walk_behind := f20,
    d_Walk_behind := PySem.W.fnOf "behind" "Walk.behind" (defArgs sWalk_behind) (defBody sWalk_behind) (defScope sWalk_behind) .none kV20 dc20 pm20 an20 cd20 ct20,
    a_Walk_reach := f21,
    d_Walk_reach := PySem.W.fnOf "reach" "Walk.reach" (defArgs sWalk_reach) (defBody sWalk_reach) (defScope sWalk_reach) .none kV21 dc21 pm21 an21 cd21 ct21,
    a_check_round := f22,
    d_check_round := PySem.W.fnOf "check_round" "check_round" (defArgs scheck_round) (defBody scheck_round) (defScope scheck_round) .none kV22 dc22 pm22 an22 cd22 ct22,
    a_place_behind := f23,
    d_place_behind := PySem.W.fnOf "place_behind" "place_behind" (defArgs splace_behind) (defBody splace_behind) (defScope splace_behind) .none kV23 dc23 pm23 an23 cd23 ct23,
    a_least_behind := f24,
    d_least_behind := PySem.W.fnOf "least_behind" "least_behind" (defArgs sleast_behind) (defBody sleast_behind) (defScope sleast_behind) .none kV24 dc24 pm24 an24 cd24 ct24,
    a_greatest_behind := f25,
    d_greatest_behind := PySem.W.fnOf "greatest_behind" "greatest_behind" (defArgs sgreatest_behind) (defBody sgreatest_behind) (defScope sgreatest_behind) .none kV25 dc25 pm25 an25 cd25 ct25,
    a_fewest_uses := f26,
    d_fewest_uses := PySem.W.fnOf "fewest_uses" "fewest_uses" (defArgs sfewest_uses) (defBody sfewest_uses) (defScope sfewest_uses) .none kV26 dc26 pm26 an26 cd26 ct26,
    a_most_uses := f27,
    d_most_uses := PySem.W.fnOf "most_uses" "most_uses" (defArgs smost_uses) (defBody smost_uses) (defScope smost_uses) .none kV27 dc27 pm27 an27 cd27 ct27,
    a_lowest := f28,
    d_lowest := PySem.W.fnOf "lowest" "lowest" (defArgs slowest) (defBody slowest) (defScope slowest) .none kV28 dc28 pm28 an28 cd28 ct28,
    a_side_pace := f29,
    d_side_pace := PySem.W.fnOf "side_pace" "side_pace" (defArgs sside_pace) (defBody sside_pace) (defScope sside_pace) .none kV29 dc29 pm29 an29 cd29 ct29,
    a_paces := f30,
    d_paces := PySem.W.fnOf "paces" "paces" (defArgs spaces) (defBody spaces) (defScope spaces) .none kV30 dc30 pm30 an30 cd30 ct30,
    a_check_side := f31,
    d_check_side := PySem.W.fnOf "check_side" "check_side" (defArgs scheck_side) (defBody scheck_side) (defScope scheck_side) .none kV31 dc31 pm31 an31 cd31 ct31,
    a_check_ring := f32,
    d_check_ring := PySem.W.fnOf "check_ring" "check_ring" (defArgs scheck_ring) (defBody scheck_ring) (defScope scheck_ring) .none kV32 dc32 pm32 an32 cd32 ct32,
    a_ring := f33,
    d_ring := PySem.W.fnOf "ring" "ring" (defArgs sring) (defBody sring) (defScope sring) .none kV33 dc33 pm33 an33 cd33 ct33,
    a_ring_pace := f34,
    d_ring_pace := PySem.W.fnOf "ring_pace" "ring_pace" (defArgs sring_pace) (defBody sring_pace) (defScope sring_pace) .none kV34 dc34 pm34 an34 cd34 ct34,
    a_too_far := f35,
    d_too_far := PySem.W.fnOf "too_far" "too_far" (defArgs stoo_far) (defBody stoo_far) (defScope stoo_far) .none kV35 dc35 pm35 an35 cd35 ct35,
    a_clash := f36,
    d_clash := PySem.W.fnOf "clash" "clash" (defArgs sclash) (defBody sclash) (defScope sclash) .none kV36 dc36 pm36 an36 cd36 ct36,
    a_Dark_init := f37,
    d_Dark_init := PySem.W.fnOf "__init__" "Dark.__init__" (defArgs sDark_init) (defBody sDark_init) (defScope sDark_init) .none kV37 dc37 pm37 an37 cd37 ct37,
    a_Dark_length := f38,
    d_Dark_length := PySem.W.fnOf "length" "Dark.length" (defArgs sDark_length) (defBody sDark_length) (defScope sDark_length) .none kV38 dc38 pm38 an38 cd38 ct38,
    a_Dark_hear := f39,
    d_Dark_hear := PySem.W.fnOf "hear" "Dark.hear" (defArgs sDark_hear) (defBody sDark_hear) (defScope sDark_hear) .none kV39 dc39 pm39 an39 cd39 ct39,
    a_Dark_drop := f40,
    d_Dark_drop := PySem.W.fnOf "drop" "Dark.drop" (defArgs sDark_drop) (defBody sDark_drop) (defScope sDark_drop) .none kV40 dc40 pm40 an40 cd40 ct40,
    a_Dark_looks := f41,
    d_Dark_looks := PySem.W.fnOf "looks" "Dark.looks" (defArgs sDark_looks) (defBody sDark_looks) (defScope sDark_looks) .none kV41 dc41 pm41 an41 cd41 ct41,
    a_Darkcheck_word := f42,
    d_Darkcheck_word := PySem.W.fnOf "_check_word" "Dark._check_word" (defArgs sDarkcheck_word) (defBody sDarkcheck_word) (defScope sDarkcheck_word) .none kV42 dc42 pm42 an42 cd42 ct42,
    a_Darkhome := f43,
    d_Darkhome := PySem.W.fnOf "_home" "Dark._home" (defArgs sDarkhome) (defBody sDarkhome) (defScope sDarkhome) .none kV43 dc43 pm43 an43 cd43 ct43,
    a_Darkclashing := f44,
    d_Darkclashing := PySem.W.fnOf "_clashing" "Dark._clashing" (defArgs sDarkclashing) (defBody sDarkclashing) (defScope sDarkclashing) .none kV44 dc44 pm44 an44 cd44 ct44,
    a_law := fa,
    d_law := PySem.W.fnOf "law" "law" (defArgs slaw) (defBody slaw) (defScope slaw) .none kV45 dc45 pm45 an45 cd45 ct45,
    C := C,
    C_Walk := C_Walk,
    v_SLOW := .str "slow" tSLOW,
    v_FAST := .str "fast" tFAST,
    a_WORDS := aW,
    a_LW := aL,
    t_slow := tS,
    t_fast := tF }
  have T : Tx K w mg Z := {
    F_law_pot := F0,
    bb_law_pot := F0.binds (ps := P_law_pot) fun _ _ _ _ _ _ us hl => match us, hl with | [_, _], _ => rfl,
    g_law_pot := PySem.W.mg_of X G a0,
    F_law_draw := F1,
    bb_law_draw := F1.binds (ps := P_law_draw) fun _ _ _ _ _ _ us hl => match us, hl with | [_, _], _ => rfl,
    g_law_draw := PySem.W.mg_of X G a1,
    F_law_hidden := F2,
    bb_law_hidden := F2.binds (ps := P_law_hidden) fun _ _ _ _ _ _ us hl => match us, hl with | [_, _, _], _ => rfl,
    g_law_hidden := PySem.W.mg_of X G a2,
    F_law_goal := F3,
    bb_law_goal := F3.binds (ps := P_law_goal) fun _ _ _ _ _ _ us hl => match us, hl with | [_, _, _], _ => rfl,
    g_law_goal := PySem.W.mg_of X G a3,
    F_law_wide := F4,
    bb_law_wide := F4.binds (ps := P_law_wide) fun _ _ _ _ _ _ us hl => match us, hl with | [_], _ => rfl,
    g_law_wide := PySem.W.mg_of X G a4,
    F_law_look := F5,
    bb_law_look := F5.binds (ps := P_law_look) fun _ _ _ _ _ _ us hl => match us, hl with | [_, _, _], _ => rfl,
    g_law_look := PySem.W.mg_of X G a5,
    F_law_told := F6,
    bb_law_told := F6.binds (ps := P_law_told) fun _ _ _ _ _ _ us hl => match us, hl with | [_, _, _, _], _ => rfl,
    g_law_told := PySem.W.mg_of X G a6,
    F_law_missing := F7,
    bb_law_missing := F7.binds (ps := P_law_missing) fun _ _ _ _ _ _ us hl => match us, hl with | [_, _], _ => rfl,
    g_law_missing := PySem.W.mg_of X G a7,
    F_law_judged := F8,
    bb_law_judged := F8.binds (ps := P_law_judged) fun _ _ _ _ _ _ us hl => match us, hl with | [_, _, _], _ => rfl,
    g_law_judged := PySem.W.mg_of X G a8,
    F_law_rings_right := F9,
    bb_law_rings_right := F9.binds (ps := P_law_rings_right) fun _ _ _ _ _ _ us hl => match us, hl with | [_, _, _], _ => rfl,
    g_law_rings_right := PySem.W.mg_of X G a9,
    F_law_fresh := F10,
    bb_law_fresh := F10.binds (ps := P_law_fresh) fun _ _ _ _ _ _ us hl => match us, hl with | [_, _], _ => rfl,
    g_law_fresh := PySem.W.mg_of X G a10,
    F_law_turn := F11,
    bb_law_turn := F11.binds (ps := P_law_turn) fun _ _ _ _ _ _ us hl => match us, hl with | [_, _, _, _, _], _ => rfl,
    g_law_turn := PySem.W.mg_of X G a11,
    F_side_looks := F12,
    bb_side_looks := F12.binds (ps := P_side_looks) fun _ _ _ _ _ _ us hl => match us, hl with | [_, _], _ => rfl,
    g_side_looks := PySem.W.mg_of X G a12,
    F_round_looks := F13,
    bb_round_looks := F13.binds (ps := P_round_looks) fun _ _ _ _ _ _ us hl => match us, hl with | [_, _], _ => rfl,
    g_round_looks := PySem.W.mg_of X G a13,
    F_place_by := F14,
    bb_place_by := F14.binds (ps := P_place_by) fun _ _ _ _ _ _ us hl => match us, hl with | [_, _, _, _], _ => rfl,
    g_place_by := PySem.W.mg_of X G a14,
    F_best_step := F15,
    bb_best_step := F15.binds (ps := P_best_step) fun _ _ _ _ _ _ us hl => match us, hl with | [_, _, _, _], _ => rfl,
    g_best_step := PySem.W.mg_of X G a15,
    F_Walk_init := F16,
    bb_Walk_init := F16.binds (ps := P_Walk_init) fun _ _ _ _ _ _ us hl => match us, hl with | [_, _, _, _], _ => rfl,
    F_Walkfollow := F17,
    bb_Walkfollow := F17.binds (ps := P_Walkfollow) fun _ _ _ _ _ _ us hl => match us, hl with | [_, _, _, _], _ => rfl,
    m_Walkfollow := ⟨a17, i17, k17⟩,
    F_Walk_period := F18,
    bb_Walk_period := F18.binds (ps := P_Walk_period) fun _ _ _ _ _ _ us hl => match us, hl with | [_], _ => rfl,
    m_Walk_period := ⟨a18, i18, k18⟩,
    F_Walk_climb := F19,
    bb_Walk_climb := F19.binds (ps := P_Walk_climb) fun _ _ _ _ _ _ us hl => match us, hl with | [_], _ => rfl,
    m_Walk_climb := ⟨a19, i19, k19⟩,
    F_Walk_behind := F20,
    bb_Walk_behind := F20.binds (ps := P_Walk_behind) fun _ _ _ _ _ _ us hl => match us, hl with | [_, _], _ => rfl,
    m_Walk_behind := ⟨a20, i20, k20⟩,
    F_Walk_reach := F21,
    bb_Walk_reach := F21.binds (ps := P_Walk_reach) fun _ _ _ _ _ _ us hl => match us, hl with | [_, _], _ => rfl,
    m_Walk_reach := ⟨a21, i21, k21⟩,
    F_check_round := F22,
    bb_check_round := F22.binds (ps := P_check_round) fun _ _ _ _ _ _ us hl => match us, hl with | [_], _ => rfl,
    g_check_round := PySem.W.mg_of X G a22,
    F_place_behind := F23,
    bb_place_behind := F23.binds (ps := P_place_behind) fun _ _ _ _ _ _ us hl => match us, hl with | [_, _, _, _], _ => rfl,
    g_place_behind := PySem.W.mg_of X G a23,
    F_least_behind := F24,
    bb_least_behind := F24.binds (ps := P_least_behind) fun _ _ _ _ _ _ us hl => match us, hl with | [_, _, _], _ => rfl,
    g_least_behind := PySem.W.mg_of X G a24,
    F_greatest_behind := F25,
    bb_greatest_behind := F25.binds (ps := P_greatest_behind) fun _ _ _ _ _ _ us hl => match us, hl with | [_, _, _], _ => rfl,
    g_greatest_behind := PySem.W.mg_of X G a25,
    F_fewest_uses := F26,
    bb_fewest_uses := F26.binds (ps := P_fewest_uses) fun _ _ _ _ _ _ us hl => match us, hl with | [_, _, _], _ => rfl,
    g_fewest_uses := PySem.W.mg_of X G a26,
    F_most_uses := F27,
    bb_most_uses := F27.binds (ps := P_most_uses) fun _ _ _ _ _ _ us hl => match us, hl with | [_, _, _], _ => rfl,
    g_most_uses := PySem.W.mg_of X G a27,
    F_lowest := F28,
    bb_lowest := F28.binds (ps := P_lowest) fun _ _ _ _ _ _ us hl => match us, hl with | [_, _], _ => rfl,
    g_lowest := PySem.W.mg_of X G a28,
    F_side_pace := F29,
    bb_side_pace := F29.binds (ps := P_side_pace) fun _ _ _ _ _ _ us hl => match us, hl with | [_, _], _ => rfl,
    g_side_pace := PySem.W.mg_of X G a29,
    F_paces := F30,
    bb_paces := F30.binds (ps := P_paces) fun _ _ _ _ _ _ us hl => match us, hl with | [_], _ => rfl,
    g_paces := PySem.W.mg_of X G a30,
    F_check_side := F31,
    bb_check_side := F31.binds (ps := P_check_side) fun _ _ _ _ _ _ us hl => match us, hl with | [_], _ => rfl,
    g_check_side := PySem.W.mg_of X G a31,
    F_check_ring := F32,
    bb_check_ring := F32.binds (ps := P_check_ring) fun _ _ _ _ _ _ us hl => match us, hl with | [_, _, _], _ => rfl,
    g_check_ring := PySem.W.mg_of X G a32,
    F_ring := F33,
    bb_ring := F33.binds (ps := P_ring) fun _ _ _ _ _ _ us hl => match us, hl with | [_, _], _ => rfl,
    g_ring := PySem.W.mg_of X G a33,
    F_ring_pace := F34,
    bb_ring_pace := F34.binds (ps := P_ring_pace) fun _ _ _ _ _ _ us hl => match us, hl with | [_, _, _], _ => rfl,
    g_ring_pace := PySem.W.mg_of X G a34,
    F_too_far := F35,
    bb_too_far := F35.binds (ps := P_too_far) fun _ _ _ _ _ _ us hl => match us, hl with | [_, _, _], _ => rfl,
    g_too_far := PySem.W.mg_of X G a35,
    F_clash := F36,
    bb_clash := F36.binds (ps := P_clash) fun _ _ _ _ _ _ us hl => match us, hl with | [_, _, _], _ => rfl,
    g_clash := PySem.W.mg_of X G a36,
    F_Dark_init := F37,
    bb_Dark_init := F37.binds (ps := P_Dark_init) fun _ _ _ _ _ _ us hl => match us, hl with | [_, _], _ => rfl,
    F_Dark_length := F38,
    bb_Dark_length := F38.binds (ps := P_Dark_length) fun _ _ _ _ _ _ us hl => match us, hl with | [_], _ => rfl,
    m_Dark_length := ⟨a38, i38, k38⟩,
    F_Dark_hear := F39,
    bb_Dark_hear := F39.binds (ps := P_Dark_hear) fun _ _ _ _ _ _ us hl => match us, hl with | [_, _, _, _], _ => rfl,
    m_Dark_hear := ⟨a39, i39, k39⟩,
    F_Dark_drop := F40,
    bb_Dark_drop := F40.binds (ps := P_Dark_drop) fun _ _ _ _ _ _ us hl => match us, hl with | [_, _, _, _], _ => rfl,
    m_Dark_drop := ⟨a40, i40, k40⟩,
    F_Dark_looks := F41,
    bb_Dark_looks := F41.binds (ps := P_Dark_looks) fun _ _ _ _ _ _ us hl => match us, hl with | [_], _ => rfl,
    m_Dark_looks := ⟨a41, i41, k41⟩,
    F_Darkcheck_word := F42,
    bb_Darkcheck_word := F42.binds (ps := P_Darkcheck_word) fun _ _ _ _ _ _ us hl => match us, hl with | [_, _], _ => rfl,
    m_Darkcheck_word := ⟨a42, i42, k42⟩,
    F_Darkhome := F43,
    bb_Darkhome := F43.binds (ps := P_Darkhome) fun _ _ _ _ _ _ us hl => match us, hl with | [_, _, _, _], _ => rfl,
    m_Darkhome := ⟨a43, i43, k43⟩,
    F_Darkclashing := F44,
    bb_Darkclashing := F44.binds (ps := P_Darkclashing) fun _ _ _ _ _ _ us hl => match us, hl with | [_, _], _ => rfl,
    m_Darkclashing := ⟨a44, i44, k44⟩,
    F_law := F45,
    bb_law := F45.binds (ps := P_law) fun _ _ _ _ _ _ us hl => match us, hl with | [_], _ => rfl,
    g_law := PySem.W.mg_of X G a45,
    cl := ⟨pg, hd, po, sa⟩,
    g_Dark := PySem.W.mg_of X G aC,
    mk_Dark := ⟨mk, a37, i37, kc⟩,
    n_length := n_length,
    n_looks := n_looks,
    cl_Walk := ⟨pg_Walk, hd_Walk, po_Walk, sa_Walk⟩,
    g_Walk := PySem.W.mg_of X G aC_Walk,
    mk_Walk := ⟨mk_Walk, a16, i16, kc_Walk⟩,
    nWalk_places := nWalk_places,
    nWalk_told_by := nWalk_told_by,
    nWalk_start := nWalk_start,
    b_max := PySem.W.mg_none_of X G b_max,
    b_min := PySem.W.mg_none_of X G b_min,
    b_len := PySem.W.mg_none_of X G b_len,
    b_range := PySem.W.mg_none_of X G b_range,
    b_sorted := PySem.W.mg_none_of X G b_sorted,
    b_set := PySem.W.mg_none_of X G b_set,
    b_list := PySem.W.mg_none_of X G b_list,
    b_int := PySem.W.mg_none_of X G b_int,
    b_enumerate := PySem.W.mg_none_of X G b_enumerate,
    b_divmod := PySem.W.mg_none_of X G b_divmod,
    g_gcd := PySem.W.mg_of X G g_gcd0,
    b_zip := PySem.W.mg_none_of X G b_zip,
    b_tuple := PySem.W.mg_none_of X G b_tuple,
    b_bool := PySem.W.mg_none_of X G b_bool,
    b_str := PySem.W.mg_none_of X G b_str,
    b_abs := PySem.W.mg_none_of X G b_abs,
    b_super := PySem.W.mg_none_of X G b_super,
    b_ValueError := PySem.W.mg_none_of X G b_ValueError,
    g_SLOW := PySem.W.mg_of X G gSLOW,
    r_SLOW := ⟨tSLOW, rfl⟩,
    g_FAST := PySem.W.mg_of X G gFAST,
    r_FAST := ⟨tFAST, rfl⟩,
    g_WORDS := PySem.W.mg_of X G gW,
    kd_WORDS := ⟨es, nW, lW, keys, low⟩,
    w_slow := wS,
    w_fast := wF,
    q_slow := fun _ => sqt2 lS,
    q_fast := fun _ => sqt2 lF,
    g_LOOK_WORDS := PySem.W.mg_of X G gL,
    q_LW := fun _ => sqt3 lL }
  let Y : AdX := {
    c_NoRing := xC0,
    i_NoRing := xF0 }
  have X : Ex l.prog K mg Y := {
    NoRing := ERR.errT_mk (inClass (top 11) 0) xL0 xbv0 xsa0 xnw0 xsv0 xsu0 xop0 xme0 xin0 xty0 xkc0 xex0 xtc0 xto0 xl0 ⟨_, _, rfl⟩ rfl rfl (fun _ => ⟨_, rfl⟩) xc0 xlc0 xld0 xv0 xfi0,
    g_NoRing := PySem.W.mg_of X G xg0,
    m_NoRing := ERR.exm_self xex0 xic0 xtc0 xss0,
    x_NoRing := ⟨yga0, ygg0, xex0, yhd0, yha0, yhn, yht, yhm0, xnw0⟩,
    d_NoRing := ERR.exm_of yb yi_NoRing yt_NoRing ysd0,
    kv_NoRing := ERR.kit_blt (by decide +kernel) xsv0 }
  exact ⟨PySem.W.fnOf "law" "law" (defArgs slaw) (defBody slaw) (defScope slaw) .none kV45 dc45 pm45 an45 cd45 ct45, fun s v => .of_eq rfl, fun base _ _ => ok_law T X⟩
theorem walk {l : PySem.W.OpenLaw} {q : Program} {loose : List Str} {XP : (Str → Option Value) → Heap → Prop} {YP : World → Heap → Prop} {d : DefRec} {K : Params → PySem.W.Frag} (hn : l.most = some 63) (hdf : d.params.defaults = [])
    (hY : ∀ (w : World) (h : Heap), YP w h → (K w.params).In h)
    (F : ∀ (w : World) (mg : Str → Option Value) (fa : Addr) (h : Heap), (K w.params).In h → h.Ns mainGlobals mg → mg d.name = some (.ref fa) →
      ∃ fd : FuncData, (∀ (s : Shared) (u : Value), BindsTo s fd ⟨[u], []⟩ [("script", u)]) ∧ ∀ base : Heap, (K w.params).In base → base.Ns mainGlobals mg → FnOk l.prog w (K w.params) mg base CX0 10 fa fd ["script"] (spLaw (K w.params))) :
    PySem.W.WalkO q loose XP YP l.row.toRowW d [] (fun f vs => PySem.call f vs) :=
  L2.walk_of (n := 63) (k := 10) (x := "script") (CX := fun _ => CX0) (sp := fun w => spLaw (K w.params)) hn (by decide) hdf ⟨rfl, by decide, by decide⟩ hY F (fun _ _ a ns hl _ hS => ⟨a, ns, rfl, hS, hl, fun _ => rfl⟩) fun _ _ _ _ _ z => z
end KA
open PySem PySem.W PyProof.Rows
set_option maxRecDepth 100000 in
set_option maxHeartbeats 0 in
theorem PySem.Challenge.cw_darkpace_k63_whole_histories_of_rounds_holds : PySem.Challenge.rw_darkpace_k63_whole_histories_of_rounds.Holds := by
  w_on; o_law; k_head; (case hw => w_witness2)
  k_fill
  refine KA.walk (l := PySem.Challenge.rw_darkpace_k63_whole_histories_of_rounds) rfl rfl (fun w h Y => PySem.W.kIn_of Y) ?F
  case F =>
    intro w mg fa h KX G hmg
    refine' KA.all_mk KX G hmg ?aC ?aC_Walk ?a0 ?l0 ?c0 ?k0 ?a1 ?l1 ?c1 ?k1 ?a2 ?l2 ?c2 ?k2 ?a3 ?l3 ?c3 ?k3 ?a4 ?l4 ?c4 ?k4 ?a5 ?l5 ?c5 ?k5 ?a6 ?l6 ?c6 ?k6 ?a7 ?l7 ?c7 ?k7 ?a8 ?l8 ?c8 ?k8 ?a9 ?l9 ?c9 ?k9 ?a10 ?l10 ?c10 ?k10 ?a11 ?l11 ?c11 ?k11 ?a12 ?l12 ?c12 ?k12 ?a13 ?l13 ?c13 ?k13 ?a14 ?l14 ?c14 ?k14 ?a15 ?l15 ?c15 ?k15 ?a16 ?i16 ?l16 ?c16 ?k16 ?a17 ?i17 ?l17 ?c17 ?k17 ?a18 ?i18 ?l18 ?c18 ?k18 ?a19 ?i19 ?l19 ?c19 ?k19 ?a20 ?i20 ?l20 ?c20 ?k20 ?a21 ?i21 ?l21 ?c21 ?k21 ?a22 ?l22 ?c22 ?k22 ?a23 ?l23 ?c23 ?k23 ?a24 ?l24 ?c24 ?k24 ?a25 ?l25 ?c25 ?k25 ?a26 ?l26 ?c26 ?k26 ?a27 ?l27 ?c27 ?k27 ?a28 ?l28 ?c28 ?k28 ?a29 ?l29 ?c29 ?k29 ?a30 ?l30 ?c30 ?k30 ?a31 ?l31 ?c31 ?k31 ?a32 ?l32 ?c32 ?k32 ?a33 ?l33 ?c33 ?k33 ?a34 ?l34 ?c34 ?k34 ?a35 ?l35 ?c35 ?k35 ?a36 ?l36 ?c36 ?k36 ?a37 ?i37 ?l37 ?c37 ?k37 ?a38 ?i38 ?l38 ?c38 ?k38 ?a39 ?i39 ?l39 ?c39 ?k39 ?a40 ?i40 ?l40 ?c40 ?k40 ?a41 ?i41 ?l41 ?c41 ?k41 ?a42 ?i42 ?l42 ?c42 ?k42 ?a43 ?i43 ?l43 ?c43 ?k43 ?a44 ?i44 ?l44 ?c44 ?k44 ?a45 ?l45 ?c45 ?k45 ?pg ?hd ?po ?sa ?mk ?kc ?n_length ?n_looks ?pg_Walk ?hd_Walk ?po_Walk ?sa_Walk ?mk_Walk ?kc_Walk ?nWalk_places ?nWalk_told_by ?nWalk_start ?b_max ?b_min ?b_len ?b_range ?b_sorted ?b_set ?b_list ?b_int ?b_enumerate ?b_divmod ?g_gcd0 ?b_zip ?b_tuple ?b_bool ?b_str ?b_abs ?b_super ?b_ValueError ?gSLOW ?gFAST ?gW ?lW ?keys ?low ?wS ?wF ?lS ?lF ?gL ?lL ?xg0 ?xL0 ?xbv0 ?xsa0 ?xnw0 ?xsv0 ?xsu0 ?xop0 ?xme0 ?xin0 ?xty0 ?xkc0 ?xex0 ?xtc0 ?xic0 ?xss0 ?xto0 ?xl0 ?xc0 ?xlc0 ?xld0 ?xv0 ?xfi0 ?yb ?yga0 ?ygg0 ?yhd0 ?yha0 ?yhm0 ?yhn ?yht ?ysd0
    (case aC => k_is)
    (case aC_Walk => k_is)
    (case a0 => k_is)
    (case l0 => k_is)
    (case c0 => k_is)
    (case k0 => k_is)
    (case a1 => k_is)
    (case l1 => k_is)
    (case c1 => k_is)
    (case k1 => k_is)
    (case a2 => k_is)
    (case l2 => k_is)
    (case c2 => k_is)
    (case k2 => k_is)
    (case a3 => k_is)
    (case l3 => k_is)
    (case c3 => k_is)
    (case k3 => k_is)
    (case a4 => k_is)
    (case l4 => k_is)
    (case c4 => k_is)
    (case k4 => k_is)
    (case a5 => k_is)
    (case l5 => k_is)
    (case c5 => k_is)
    (case k5 => k_is)
    (case a6 => k_is)
    (case l6 => k_is)
    (case c6 => k_is)
    (case k6 => k_is)
    (case a7 => k_is)
    (case l7 => k_is)
    (case c7 => k_is)
    (case k7 => k_is)
    (case a8 => k_is)
    (case l8 => k_is)
    (case c8 => k_is)
    (case k8 => k_is)
    (case a9 => k_is)
    (case l9 => k_is)
    (case c9 => k_is)
    (case k9 => k_is)
    (case a10 => k_is)
    (case l10 => k_is)
    (case c10 => k_is)
    (case k10 => k_is)
    (case a11 => k_is)
    (case l11 => k_is)
    (case c11 => k_is)
    (case k11 => k_is)
    (case a12 => k_is)
    (case l12 => k_is)
    (case c12 => k_is)
    (case k12 => k_is)
    (case a13 => k_is)
    (case l13 => k_is)
    (case c13 => k_is)
    (case k13 => k_is)
    (case a14 => k_is)
    (case l14 => k_is)
    (case c14 => k_is)
    (case k14 => k_is)
    (case a15 => k_is)
    (case l15 => k_is)
    (case c15 => k_is)
    (case k15 => k_is)
    (case a16 => k_is)
    (case i16 => k_is)
    (case l16 => k_is)
    (case c16 => k_is)
    (case k16 => k_is)
    (case a17 => k_is)
    (case i17 => k_is)
    (case l17 => k_is)
    (case c17 => k_is)
    (case k17 => k_is)
    (case a18 => k_is)
    (case i18 => k_is)
    (case l18 => k_is)
    (case c18 => k_is)
    (case k18 => k_is)
    (case a19 => k_is)
    (case i19 => k_is)
    (case l19 => k_is)
    (case c19 => k_is)
    (case k19 => k_is)
    (case a20 => k_is)
    (case i20 => k_is)
    (case l20 => k_is)
    (case c20 => k_is)
    (case k20 => k_is)
    (case a21 => k_is)
    (case i21 => k_is)
    (case l21 => k_is)
    (case c21 => k_is)
    (case k21 => k_is)
    (case a22 => k_is)
    (case l22 => k_is)
    (case c22 => k_is)
    (case k22 => k_is)
    (case a23 => k_is)
    (case l23 => k_is)
    (case c23 => k_is)
    (case k23 => k_is)
    (case a24 => k_is)
    (case l24 => k_is)
    (case c24 => k_is)
    (case k24 => k_is)
    (case a25 => k_is)
    (case l25 => k_is)
    (case c25 => k_is)
    (case k25 => k_is)
    (case a26 => k_is)
    (case l26 => k_is)
    (case c26 => k_is)
    (case k26 => k_is)
    (case a27 => k_is)
    (case l27 => k_is)
    (case c27 => k_is)
    (case k27 => k_is)
    (case a28 => k_is)
    (case l28 => k_is)
    (case c28 => k_is)
    (case k28 => k_is)
    (case a29 => k_is)
    (case l29 => k_is)
    (case c29 => k_is)
    (case k29 => k_is)
    (case a30 => k_is)
    (case l30 => k_is)
    (case c30 => k_is)
    (case k30 => k_is)
    (case a31 => k_is)
    (case l31 => k_is)
    (case c31 => k_is)
    (case k31 => k_is)
    (case a32 => k_is)
    (case l32 => k_is)
    (case c32 => k_is)
    (case k32 => k_is)
    (case a33 => k_is)
    (case l33 => k_is)
    (case c33 => k_is)
    (case k33 => k_is)
    (case a34 => k_is)
    (case l34 => k_is)
    (case c34 => k_is)
    (case k34 => k_is)
    (case a35 => k_is)
    (case l35 => k_is)
    (case c35 => k_is)
    (case k35 => k_is)
    (case a36 => k_is)
    (case l36 => k_is)
    (case c36 => k_is)
    (case k36 => k_is)
    (case a37 => k_is)
    (case i37 => k_is)
    (case l37 => k_is)
    (case c37 => k_is)
    (case k37 => k_is)
    (case a38 => k_is)
    (case i38 => k_is)
    (case l38 => k_is)
    (case c38 => k_is)
    (case k38 => k_is)
    (case a39 => k_is)
    (case i39 => k_is)
    (case l39 => k_is)
    (case c39 => k_is)
    (case k39 => k_is)
    (case a40 => k_is)
    (case i40 => k_is)
    (case l40 => k_is)
    (case c40 => k_is)
    (case k40 => k_is)
    (case a41 => k_is)
    (case i41 => k_is)
    (case l41 => k_is)
    (case c41 => k_is)
    (case k41 => k_is)
    (case a42 => k_is)
    (case i42 => k_is)
    (case l42 => k_is)
    (case c42 => k_is)
    (case k42 => k_is)
    (case a43 => k_is)
    (case i43 => k_is)
    (case l43 => k_is)
    (case c43 => k_is)
    (case k43 => k_is)
    (case a44 => k_is)
    (case i44 => k_is)
    (case l44 => k_is)
    (case c44 => k_is)
    (case k44 => k_is)
    (case a45 => k_is)
    (case l45 => k_is)
    (case c45 => k_is)
    (case k45 => k_is)
    (case pg => k_is)
    (case hd => k_is)
    (case po => k_is)
    (case sa => k_is)
    (case mk => k_is)
    (case kc => k_is)
    (case n_length => k_is)
    (case n_looks => k_is)
    (case pg_Walk => k_is)
    (case hd_Walk => k_is)
    (case po_Walk => k_is)
    (case sa_Walk => k_is)
    (case mk_Walk => k_is)
    (case kc_Walk => k_is)
    (case nWalk_places => k_is)
    (case nWalk_told_by => k_is)
    (case nWalk_start => k_is)
    (case b_max => k_is)
    (case b_min => k_is)
    (case b_len => k_is)
    (case b_range => k_is)
    (case b_sorted => k_is)
    (case b_set => k_is)
    (case b_list => k_is)
    (case b_int => k_is)
    (case b_enumerate => k_is)
    (case b_divmod => k_is)
    (case g_gcd0 => k_is)
    (case b_zip => k_is)
    (case b_tuple => k_is)
    (case b_bool => k_is)
    (case b_str => k_is)
    (case b_abs => k_is)
    (case b_super => k_is)
    (case b_ValueError => k_is)
    (case gSLOW => k_is)
    (case gFAST => k_is)
    (case gW => k_is)
    (case lW => k_is)
    (case keys => k_keys)
    (case low => decide +kernel)
    (case wS => k_is)
    (case wF => k_is)
    (case lS => k_is)
    (case lF => k_is)
    (case gL => k_is)
    (case lL => k_is)
    (case xg0 => k_is)
    (case xL0 => k_is)
    (case xbv0 => decide +kernel)
    (case xsa0 => k_is)
    (case xnw0 => k_is)
    (case xsv0 => k_is)
    (case xsu0 => ks_is)
    (case xop0 => k_is)
    (case xme0 => k_is)
    (case xin0 => k_is)
    (case xty0 => k_is)
    (case xkc0 => k_is)
    (case xex0 => k_is)
    (case xtc0 => k_is)
    (case xic0 => k_is)
    (case xss0 => first | rfl | k_is)
    (case xto0 => first | rfl | decide +kernel)
    (case xl0 => k_is)
    (case xc0 => k_is)
    (case xlc0 => k_is)
    (case xld0 => k_is)
    (case xv0 => rfl)
    (case xfi0 => first | rfl | decide +kernel)
    (case yb => k_is)
    (case yga0 => k_is)
    (case ygg0 => k_is)
    (case yhd0 => k_is)
    (case yha0 => k_is)
    (case yhm0 => k_is)
    (case yhn => k_is)
    (case yht => k_is)
    (case ysd0 => first | k_is | rfl | decide +kernel)
