import PyProof.Rows.All
import Wide.All
import OpenK.AllK
import Wide.FinOn
import HandS.Base
import HandS.Call
import HandS.List
import HandS.Comp
import HandS.Ends
import HandS.Dict
import HandS.Iter
import HandS.Text
import HandS.Words
import HandS.WordsList
import KE.GoesEnum
import KE.KTupSum
import KE.DataMinMax
import HandS.TupMul
import HandS.TupAny
import HandS.IsInst
import HandS.Zip
import HandS.Style
import PyProof.ReprRoads
import PyProof.CallFns
import HandS.TryOnly
import KE.GoesMore
import HandS.ExcInit
import HandS.ExcField
import HandS.ExcOwn
import HandS.Lambda
import HandS.WordsExc
import HandS.EndOwn
import KE.LtData
import PyProof.SumAnyB
import KE.LcSums
import KE.GoesEnumKw
import KE.KUnpackStar
import HandS.FStr
import HandS.SortKw
import KE.SortCalls
import HandS.Sort
import KE.GoesZip
import HandS.Star
import HandS.Property
import HandS.ClsMeth
import HandS.SlotsOwn
import HandS.Small
import OpenK.KMeth
import OpenK.KOps
import KE.KOpsOwn
import KE.KCallOwn
import KE.KDictZip
import HandS.Wide
import PyProof.CallStr
import HandS.OwnIter
import HandS.IterVal
import PyProof.InstNe
import HandS.Defaults
import KE.KFmtOwn
import KE.KExcInit
import PyProof.ExcBaseAll.LookupError
import HandS.Conv
import KE.KSuper
import HandS.Nested
import KE.KExcRaise
import HandS.Walk
import PyProof.Claim2Refuses
import HandS.TupSets
import HandS.SetBool
import KE.KDictDisplayH
import KE.SortData
import HandS.DictTup
import HandS.GenYield
import HandS.GenList
import PyProof.PlainList
import PySem.Challenge.RW_lentbeside_k03_what_is_near
set_option Elab.async false
set_option linter.all false
set_option maxRecDepth 100000
set_option maxHeartbeats 2000000
/-! Rules that the hand layer lacks: sums and greatest items of tuples, enumerate of a tuple, zip of three, t[::-1], t * 0, t * 1. -/
namespace Lb
open PySem PySem.Spec PyProof.Rows L2
section
variable {X : Cx}
/-! ### sum(t), max(t) -/
theorem depth_ints : ∀ ns : List Int, PyData.depthAll (ns.map PyData.int) = 0
  | [] => rfl
  | n :: ns => by
    rw [List.map_cons]
    simp [PyData.depthAll, PyData.depth, depth_ints ns]
end
end Lb
set_option Elab.async false
set_option linter.all false
set_option maxRecDepth 100000
set_option maxHeartbeats 2000000
namespace Lb
open PySem PySem.Spec PyProof.Rows L2
/-! ### enumerate(t), t a tuple -/
end Lb
set_option Elab.async false
set_option linter.all false
set_option maxRecDepth 100000
set_option maxHeartbeats 2000000
namespace Lb
open PySem PySem.Spec PyProof.Rows L2
/-! ### values as data: None, bools, ints, texts, tuples, lists, {}; every address lies in the region R -/
abbrev Rgn := Addr → Prop
mutual
inductive Dat (R : Rgn) (H : Hp) : V → PyData → Prop
  | non : Dat R H .non .none
  | bl (b : Bool) : Dat R H (.bl b) (.bool b)
  | int (i : Int) : Dat R H (.int i) (.int i)
  | str (x : Str) : Dat R H (.str x) (.str x)
  | tup {a : Addr} {xs : List V} {ds : List PyData} (ra : R a) (e : H a = some (.tup xs)) (h : Dats R H xs ds) : Dat R H (.ref a) (.tuple ds)
  | lst {a : Addr} {xs : List V} {ds : List PyData} (ra : R a) (e : H a = some (.lst xs)) (h : Dats R H xs ds) : Dat R H (.ref a) (.list ds)
  | emp {a : Addr} (ra : R a) (e : H a = some (.dK [])) : Dat R H (.ref a) (.dict [])
inductive Dats (R : Rgn) (H : Hp) : List V → List PyData → Prop
  | nil : Dats R H [] []
  | cons {v : V} {vs : List V} {d : PyData} {ds : List PyData} (h : Dat R H v d) (t : Dats R H vs ds) : Dats R H (v :: vs) (d :: ds)
end
/-- what lies in the region is kept -/
def On (R : Rgn) (H H' : Hp) : Prop := ∀ b o, R b → H b = some o → H' b = some o
theorem On.of {R : Rgn} {H H' : Hp} (s : Same H H') : On R H H' := fun b o _ e => s b o e
theorem On.trans {R : Rgn} {H H1 H2 : Hp} (a : On R H H1) (b : On R H1 H2) : On R H H2 := fun c o r e => b c o r (a c o r e)
mutual
theorem Dat.on {R : Rgn} {H H' : Hp} (k : On R H H') : ∀ {v : V} {d : PyData}, Dat R H v d → Dat R H' v d
  | _, _, .non => .non
  | _, _, .bl b => .bl b
  | _, _, .int i => .int i
  | _, _, .str x => .str x
  | _, _, .tup ra e h => .tup ra (k _ _ ra e) (Dats.on k h)
  | _, _, .lst ra e h => .lst ra (k _ _ ra e) (Dats.on k h)
  | _, _, .emp ra e => .emp ra (k _ _ ra e)
theorem Dats.on {R : Rgn} {H H' : Hp} (k : On R H H') : ∀ {v : List V} {d : List PyData}, Dats R H v d → Dats R H' v d
  | _, _, .nil => .nil
  | _, _, .cons h t => .cons (Dat.on k h) (Dats.on k t)
end
theorem Dat.same {R : Rgn} {H H' : Hp} {v : V} {d : PyData} (h : Dat R H v d) (s : Same H H') : Dat R H' v d := h.on (On.of s)
theorem Dats.same {R : Rgn} {H H' : Hp} {v : List V} {d : List PyData} (h : Dats R H v d) (s : Same H H') : Dats R H' v d := h.on (On.of s)
mutual
/-- a region may be made smaller by what is not there -/
theorem Dat.sub {R R' : Rgn} {H : Hp} (k : ∀ b o, R b → H b = some o → R' b) : ∀ {v : V} {d : PyData}, Dat R H v d → Dat R' H v d
  | _, _, .non => .non
  | _, _, .bl b => .bl b
  | _, _, .int i => .int i
  | _, _, .str x => .str x
  | _, _, .tup ra e h => .tup (k _ _ ra e) e (Dats.sub k h)
  | _, _, .lst ra e h => .lst (k _ _ ra e) e (Dats.sub k h)
  | _, _, .emp ra e => .emp (k _ _ ra e) e
theorem Dats.sub {R R' : Rgn} {H : Hp} (k : ∀ b o, R b → H b = some o → R' b) : ∀ {v : List V} {d : List PyData}, Dats R H v d → Dats R' H v d
  | _, _, .nil => .nil
  | _, _, .cons h t => .cons (Dat.sub k h) (Dats.sub k t)
end
theorem Dats.length {R : Rgn} {H : Hp} : ∀ {v : List V} {d : List PyData}, Dats R H v d → v.length = d.length
  | _, _, .nil => rfl
  | _, _, .cons _ t => by rw [List.length_cons, List.length_cons, Dats.length t]
theorem Dats.get {R : Rgn} {H : Hp} : ∀ {vs : List V} {ds : List PyData} {i : Nat} {d : PyData}, Dats R H vs ds → ds[i]? = some d → ∃ v, vs[i]? = some v ∧ Dat R H v d
  | _, _, 0, _, .cons h _, e => by
    have e' := Option.some.inj e
    subst e'
    exact ⟨_, rfl, h⟩
  | _, _, i + 1, _, .cons _ t, e => Dats.get (i := i) t e
theorem Dats.get' {R : Rgn} {H : Hp} : ∀ {vs : List V} {ds : List PyData} {i : Nat} {v : V}, Dats R H vs ds → vs[i]? = some v → ∃ d, ds[i]? = some d ∧ Dat R H v d
  | _, _, 0, _, .cons h _, e => by
    have e' := Option.some.inj e
    subst e'
    exact ⟨_, rfl, h⟩
  | _, _, i + 1, _, .cons _ t, e => Dats.get' (i := i) t e
theorem Dats.append {R : Rgn} {H : Hp} : ∀ {vs ws : List V} {ds es : List PyData}, Dats R H vs ds → Dats R H ws es → Dats R H (vs ++ ws) (ds ++ es)
  | _, _, _, _, .nil, k => k
  | _, _, _, _, .cons h t, k => .cons h (Dats.append t k)
theorem Dats.take {R : Rgn} {H : Hp} : ∀ {vs : List V} {ds : List PyData} (n : Nat), Dats R H vs ds → Dats R H (vs.take n) (ds.take n)
  | _, _, 0, _ => .nil
  | _, _, _ + 1, .nil => .nil
  | _, _, n + 1, .cons h t => .cons h (Dats.take n t)
theorem Dats.drop {R : Rgn} {H : Hp} : ∀ {vs : List V} {ds : List PyData} (n : Nat), Dats R H vs ds → Dats R H (vs.drop n) (ds.drop n)
  | _, _, 0, k => k
  | _, _, _ + 1, .nil => .nil
  | _, _, n + 1, .cons _ t => Dats.drop n t
theorem Dats.reverse {R : Rgn} {H : Hp} : ∀ {vs : List V} {ds : List PyData}, Dats R H vs ds → Dats R H vs.reverse ds.reverse
  | _, _, .nil => .nil
  | _, _, .cons h t => by
    rw [List.reverse_cons, List.reverse_cons]
    exact Dats.append (Dats.reverse t) (.cons h .nil)
theorem Dats.rep {R : Rgn} {H : Hp} {vs : List V} {ds : List PyData} (h : Dats R H vs ds) : ∀ n : Nat, Dats R H (List.replicate n vs).flatten (List.replicate n ds).flatten
  | 0 => .nil
  | n + 1 => by
    rw [List.replicate_succ, List.replicate_succ, List.flatten_cons, List.flatten_cons]
    exact h.append (Dats.rep h n)
theorem Dats.ints {R : Rgn} {H : Hp} : ∀ ns : List Int, Dats R H (ns.map V.int) (ns.map PyData.int)
  | [] => .nil
  | n :: ns => .cons (.int n) (Dats.ints ns)
theorem Dats.of_ints {R : Rgn} {H : Hp} : ∀ {vs : List V} {ns : List Int}, Dats R H vs (ns.map PyData.int) → vs = ns.map V.int
  | _, [], .nil => rfl
  | _, n :: ns, .cons h t => by
    cases h
    rw [Dats.of_ints (ns := ns) t]
    rfl
/-- a new tuple, a new list -/
theorem same_upd {H : Hp} {p : Addr} {o : HO} (h : H p = none) : Same H (upd H p o) := fun b x e => by
  rw [upd_ne (ne_of_none e h)]
  exact e
theorem Dat.newT {R : Rgn} {H : Hp} {p : Addr} {xs : List V} {ds : List PyData} (n : H p = none) (r : R p) (h : Dats R H xs ds) : Dat R (upd H p (.tup xs)) (.ref p) (.tuple ds) := .tup r upd_same (h.same (same_upd n))
theorem Dat.newL {R : Rgn} {H : Hp} {p : Addr} {xs : List V} {ds : List PyData} (n : H p = none) (r : R p) (h : Dats R H xs ds) : Dat R (upd H p (.lst xs)) (.ref p) (.list ds) := .lst r upd_same (h.same (same_upd n))

/-! ### repr -/
section
variable {X : Cx} {pins : List (Addr × Obj)} {σ : L2.St} {H : Hp} {s : Shared} {R : Rgn}
mutual
theorem dat_reads (I : Inv X pins σ H s) : ∀ {v : V} {d : PyData} {u : Value}, Dat R H v d → RelV v u → ∃ as, Reads s.heap u d as
  | _, _, u, .non, r => by
    cases (show u = Value.none from r)
    exact ⟨_, .none⟩
  | _, _, u, .bl b, r => by
    cases (show u = Value.bool b from r)
    exact ⟨_, .bool b⟩
  | _, _, u, .int i, r => by
    obtain ⟨t, q⟩ := (show ∃ t, u = Value.int i t from r)
    cases q
    exact ⟨_, .int i t⟩
  | _, _, u, .str x, r => by
    obtain ⟨t, q⟩ := (show ∃ t, u = Value.str x t from r)
    cases q
    exact ⟨_, .str x t⟩
  | _, _, u, .tup (a := a) (xs := xs) _ e h, r => by
    cases (show u = Value.ref a from r)
    obtain ⟨its, rv, ⟨o, ho, hc, n, hd⟩, _⟩ := I.tuple (.inl (.inl e))
    obtain ⟨as, q⟩ := dats_reads I h rv
    exact ⟨_, .tuple ho hc hd q⟩
  | _, _, u, .lst (a := a) (xs := xs) _ e h, r => by
    cases (show u = Value.ref a from r)
    obtain ⟨its, rv, hp, _⟩ := I.list (.inl (.inl e))
    obtain ⟨o, n, ho, hc, _, hd⟩ := hp
    obtain ⟨as, q⟩ := dats_reads I h rv
    exact ⟨_, .list ho hc hd q⟩
  | _, _, u, .emp (a := a) _ e, r => by
    cases (show u = Value.ref a from r)
    obtain ⟨_, _, vs, kv, o, es, ep, ho, hx, hd, hk, hp, _⟩ := (show ObjOk X.prog X.w H s.heap a (.dK []) from I.hok a _ e)
    cases kv
    have e0 : es.toList = [] := by
      generalize es.toList = l at hp
      cases hp
      rfl
    refine ⟨_, .dict (kvs := []) (as := []) (bs := []) ho hx.1 hd ?_ ?_⟩
    · rw [e0]
      exact .nil
    · rw [e0]
      exact .nil
theorem dats_reads (I : Inv X pins σ H s) : ∀ {vs : List V} {ds : List PyData} {us : List Value}, Dats R H vs ds → Vals vs us → ∃ as, ReadsAll s.heap us ds as
  | _, _, _, .nil, .nil => ⟨_, .nil⟩
  | _, _, _, .cons h t, .cons r rr => by
    obtain ⟨as, q⟩ := dat_reads I h r
    obtain ⟨bs, q2⟩ := dats_reads I t rr
    exact ⟨_, .cons q q2⟩
end
theorem emp_at (I : Inv X pins σ H s) {a : Addr} (e : H a = some (.dK [])) : ∃ o n, s.heap.get? a = some o ∧ o.cls = .type "dict" ∧ o.data = .dict #[] n ∧ (a == sysModules) = false := by
  obtain ⟨_, hs, vs, kv, o, es, ep, ho, hx, hd, hk, hp, _⟩ := (show ObjOk X.prog X.w H s.heap a (.dK []) from I.hok a _ e)
  cases kv
  have e0 : es = #[] := by
    have : es.toList = [] := by
      generalize es.toList = l at hp
      cases hp
      rfl
    exact Array.toList_eq_nil_iff.mp this
  subst e0
  exact ⟨o, ep, ho, hx.1, hd, hs⟩
mutual
theorem dat_show (I : Inv X pins σ H s) : ∀ {v : V} {d : PyData} {u : Value}, Dat R H v d → RelV v u → d.showable = true → d.shown.length ≤ sizeLine →
    ∃ bs, ReadAtMost s.heap d.depth bs ∧ ReprK X.prog X.w bs s.heap d.depth u d.shown
  | _, _, u, .non, r, _, _ => by
    cases (show u = Value.none from r)
    refine ⟨[], (fun _ z => nomatch z), ?_⟩
    rw [PyData.shown]
    exact ReprK.of_is ReprIs.none _ _ _
  | _, _, u, .bl b, r, _, _ => by
    cases (show u = Value.bool b from r)
    refine ⟨[], (fun _ z => nomatch z), ?_⟩
    rw [PyData.shown]
    exact ReprK.of_is (ReprIs.bool b) _ _ _
  | _, _, u, .int i, r, hw, _ => by
    obtain ⟨t, q⟩ := (show ∃ t, u = Value.int i t from r)
    cases q
    refine ⟨[], (fun _ z => nomatch z), ?_⟩
    rw [PyData.shown]
    rw [PyData.showable] at hw
    exact ReprK.of_is (ReprIs.int t (of_decide_eq_true hw)) _ _ _
  | _, _, u, .str x, r, _, hz => by
    obtain ⟨t, q⟩ := (show ∃ t, u = Value.str x t from r)
    cases q
    refine ⟨[], (fun _ z => nomatch z), ?_⟩
    rw [PyData.shown] at hz ⊢
    exact ReprK.of_is (ReprIs.str x t hz) _ _ _
  | _, _, u, .tup (a := a) (xs := xs) (ds := ds) ra e h, r, hw, hz => by
    cases (show u = Value.ref a from r)
    obtain ⟨as, rd⟩ := dat_reads I (Dat.tup ra e h) rfl
    obtain ⟨its, rv, ⟨o, ho, hc, n, hd⟩, _⟩ := I.tuple (.inl (.inl e))
    rw [PyData.showable] at hw
    rw [PyData.shown] at hz
    obtain ⟨bs, hb, hk⟩ := dats_show I h rv hw fun t ht => Nat.le_trans (tupleText_mem_le ht) hz
    have na : a ∉ bs := not_mem_of_deeper rd (by rw [PyData.depth]; omega) hb
    refine ⟨a :: bs, ReadAtMost.cons rd (by rw [PyData.depth]; omega) hb, ?_⟩
    rw [PyData.depth, PyData.shown]
    exact ReprK.tuple ho hc hd na hk
  | _, _, u, .lst (a := a) (xs := xs) (ds := ds) ra e h, r, hw, hz => by
    cases (show u = Value.ref a from r)
    obtain ⟨as, rd⟩ := dat_reads I (Dat.lst ra e h) rfl
    obtain ⟨its, rv, hp, _⟩ := I.list (.inl (.inl e))
    obtain ⟨o, n, ho, hc, _, hd⟩ := hp
    rw [PyData.showable] at hw
    rw [PyData.shown] at hz
    obtain ⟨bs, hb, hk⟩ := dats_show I h rv hw fun t ht => Nat.le_trans (listText_mem_le ht) hz
    have na : a ∉ bs := not_mem_of_deeper rd (by rw [PyData.depth]; omega) hb
    refine ⟨a :: bs, ReadAtMost.cons rd (by rw [PyData.depth]; omega) hb, ?_⟩
    rw [PyData.depth, PyData.shown]
    cases its with
    | nil =>
      cases rv
      cases h
      rw [PyData.shownAll, listText_nil]
      exact ReprK.listEmpty ho hc hd
    | cons y ys =>
      refine ReprK.list ho hc hd na ?_ fun i z q => hk.item i z (by simpa using q)
      have := hk.length_eq
      simpa using this
  | _, _, u, .emp (a := a) ra e, r, _, _ => by
    cases (show u = Value.ref a from r)
    obtain ⟨as, rd⟩ := dat_reads I (Dat.emp ra e) rfl
    obtain ⟨o, n, ho, hc, hd, hs⟩ := emp_at I e
    refine ⟨[a], fun b hb => ?_, ?_⟩
    · rw [List.mem_singleton.mp hb]
      exact ⟨_, _, rd, Nat.le_refl _⟩
    · have k := ReprK.dict (prog := X.prog) (w := X.w) (as := []) (d := 0) (ps := []) ho hc hd hs (fun z => nomatch z) .nil
      have e1 : (PyData.dict []).shown = dictText [] := by
        rw [PyData.shown, PyData.shownKv]
      have e2 : (PyData.dict []).depth = 0 + 1 := by
        rw [PyData.depth, PyData.depthKv]
      rw [e1, e2]
      exact k
theorem dats_show (I : Inv X pins σ H s) : ∀ {vs : List V} {ds : List PyData} {us : List Value}, Dats R H vs ds → Vals vs us → PyData.showableAll ds = true → (∀ t ∈ PyData.shownAll ds, t.length ≤ sizeLine) →
    ∃ bs, ReadAtMost s.heap (PyData.depthAll ds) bs ∧ ReprAllK X.prog X.w bs s.heap (PyData.depthAll ds) us (PyData.shownAll ds)
  | _, _, _, .nil, .nil, _, _ => ⟨[], (fun _ z => nomatch z), by rw [PyData.shownAll]; exact .nil⟩
  | _, _, _, .cons (d := d) (ds := ds) h t, .cons r rr, hw, hz => by
    rw [PyData.showableAll, Bool.and_eq_true] at hw
    rw [PyData.shownAll] at hz
    obtain ⟨bs, hb, k⟩ := dat_show I h r hw.1 (hz _ List.mem_cons_self)
    obtain ⟨cs, hc, l⟩ := dats_show I t rr hw.2 fun z q => hz z (List.mem_cons_of_mem _ q)
    have l1 : d.depth ≤ max d.depth (PyData.depthAll ds) := Nat.le_max_left _ _
    have l2 : PyData.depthAll ds ≤ max d.depth (PyData.depthAll ds) := Nat.le_max_right _ _
    refine ⟨bs ++ cs, ?_, ?_⟩
    · rw [PyData.depthAll]
      exact ReadAtMost.append (hb.mono l1) (hc.mono l2)
    · rw [PyData.depthAll, PyData.shownAll]
      exact .cons ((k.more fun b q => List.mem_append_left _ q).level_le l1) (l.more_le (fun b q => List.mem_append_right _ q) l2)
end
end
/-- repr(x), x any data -/
def rRepr : List V → Hp → VK → Prop := fun xs H Q => ∃ (R : Rgn) (v : V) (d : PyData), xs = [v] ∧ Dat R H v d ∧ d.showable = true ∧ d.shown.length ≤ sizeLine ∧ d.depth ≤ 100 ∧ Q (.str d.shown) H
theorem Vals.one {v : V} {us : List Value} (r : Vals [v] us) : ∃ u, us = [u] ∧ RelV v u := by
  cases r with
  | cons a b =>
    cases b
    exact ⟨_, rfl, a⟩
theorem call_reprD {X : Cx} (hg : X.A.guards = some []) (hu : X.A.units + 110 < cLine) : CallR X (.builtin "repr") rRepr := by
  intro pins s σ H xs us Q I r h
  obtain ⟨R, v, d, rfl, hd, hw, hz, hdp, q⟩ := h
  obtain ⟨u, rfl, ru⟩ := Vals.one r
  have fin : ∀ (h' : Heap) (t : Tok) (tk : Nat), (∀ b o, s.heap.get? b = some o → h'.get? b = some o) → EP X pins σ Q (.str d.shown t) { s with heap := h', toks := tk } := fun h' t tk hk =>
    ⟨.str d.shown, H, I.kept hk, ⟨_, rfl⟩, q⟩
  have fin0 : ∀ (t : Tok) (tk : Nat), EP X pins σ Q (.str d.shown t) { s with toks := tk } := fun t tk => fin s.heap t tk fun _ _ e => e
  cases hd with
  | non =>
    cases (show u = Value.none from ru)
    have := fin0 s.toks (s.toks + 1)
    rw [PyData.shown] at this
    exact PySem.P.repr_of_none this
  | bl b =>
    cases (show u = Value.bool b from ru)
    have := fin0 s.toks (s.toks + 1)
    rw [PyData.shown] at this
    exact PySem.P.repr_of_bool this
  | int i =>
    obtain ⟨t, e⟩ := (show ∃ t, u = Value.int i t from ru)
    cases e
    have := fin0 s.toks (s.toks + 1)
    rw [PyData.shown] at this
    rw [PyData.showable] at hw
    exact PySem.P.repr_of_int (of_decide_eq_true hw) this
  | str x =>
    obtain ⟨t, e⟩ := (show ∃ t, u = Value.str x t from ru)
    cases e
    have := fin0 s.toks (s.toks + 1)
    rw [PyData.shown] at this hz
    exact PySem.P.repr_of_str this hz
  | @tup a xs ds ra e h =>
    cases (show u = Value.ref a from ru)
    obtain ⟨as, rd⟩ := dat_reads I (Dat.tup ra e h) rfl
    obtain ⟨its, rv, ⟨o, ho, hc, n, hd⟩, _⟩ := I.tuple (.inl (.inl e))
    rw [PyData.showable] at hw
    rw [PyData.shown] at hz
    rw [PyData.depth] at hdp
    obtain ⟨bs, hb, hk⟩ := dats_show I h rv hw fun t ht => Nat.le_trans (tupleText_mem_le ht) hz
    have na : a ∉ bs := not_mem_of_deeper rd (by rw [PyData.depth]; omega) hb
    refine call_repr_slot (by omega) ⟨o, ho, hc⟩ F.slot_tuple_repr (call_tuple_reprK ho hc hd na hk (A := X.A.in1) hg (fun b _ => Clear.nil b) (by show X.A.units + 1 + _ < _; omega) (fun _ _ e => e) (fun h' t tk hk' => ⟨_, _, rfl, ?_⟩) hz)
    have := fin h' t tk hk'
    rw [PyData.shown] at this
    exact this
  | @lst a xs ds ra e h =>
    cases (show u = Value.ref a from ru)
    obtain ⟨as, rd⟩ := dat_reads I (Dat.lst ra e h) rfl
    obtain ⟨its, rv, hp, _⟩ := I.list (.inl (.inl e))
    obtain ⟨o, n, ho, hc, _, hd⟩ := hp
    rw [PyData.showable] at hw
    rw [PyData.shown] at hz
    rw [PyData.depth] at hdp
    obtain ⟨bs, hb, hk⟩ := dats_show I h rv hw fun t ht => Nat.le_trans (listText_mem_le ht) hz
    have na : a ∉ bs := not_mem_of_deeper rd (by rw [PyData.depth]; omega) hb
    rw [PyData.shown] at fin fin0
    cases its with
    | nil =>
      cases rv
      cases h
      rw [PyData.shownAll, listText_nil] at fin fin0
      exact call_repr_slot (by omega) ⟨o, ho, hc⟩ F.slot_list_repr.toG (call_list_repr_empty ⟨o, ho, hc⟩ ho hd ⟨_, _, rfl, fin0 _ _⟩)
    | cons y ys =>
      refine call_repr_slot (by omega) ⟨o, ho, hc⟩ F.slot_list_repr.toG (call_list_reprK ho hc hd na ?_ (fun i z q => hk.item i z (by simpa using q)) (A := X.A.in1) hg (fun b _ => Clear.nil b) (by show X.A.units + 1 + _ < _; omega) (fun _ _ e => e)
        (fun h' t tk hk' => ⟨_, _, rfl, fin h' t tk hk'⟩) hz)
      have := hk.length_eq
      simpa using this
  | @emp a ra e =>
    cases (show u = Value.ref a from ru)
    obtain ⟨o, n, ho, hc, hd, hs⟩ := emp_at I e
    have e1 : (PyData.dict []).shown = dictText [] := by
      rw [PyData.shown, PyData.shownKv]
    rw [e1] at fin hz
    exact call_repr_slot (by omega) ⟨o, ho, hc⟩ F.slot_dict_repr (call_dict_reprK (as := []) (d := 0) (ps := []) ho hc hd hs (fun z => nomatch z) .nil (A := X.A.in1) hg (fun b _ => Clear.nil b) (by show X.A.units + 1 + _ < _; omega) (fun _ _ e => e)
      (fun h' t tk hk' => ⟨_, _, rfl, fin h' t tk hk'⟩) hz)
end Lb
set_option Elab.async false
set_option linter.all false
set_option maxRecDepth 100000
set_option maxHeartbeats 4000000
namespace Lb
open PySem PySem.Spec PyProof.Rows L2
/-! ### t[::-1] of a tuple -/
section
variable {prog : Program} {w : World} {A : Around} {E : Value → Shared → Prop} {s : Shared}
end
section
variable {X : Cx}
end
end Lb
set_option Elab.async false
set_option linter.all false
set_option maxRecDepth 100000
set_option maxHeartbeats 4000000
namespace Lb
open PySem PySem.Spec PyProof.Rows L2
/-! ### t * k, k any small number -/
section
variable {X : Cx}
end
/-! ### the law's own def, run where no repr is under way -/
structure FnG (P : Program) (w : World) (K : PySem.W.Frag) (mg : Str → Option Value) (base : Heap) (CX : CXT) (k : Nat) (f : Addr) (fd : FuncData) (ps : List Str) (sp : Sp) : Prop where
  len : ∀ vs H Q E, sp vs H Q E → vs.length = ps.length
  run : ∀ (A : Around) (outer : List Env) (s : Shared) (H : Hp) (args : Args) (us : List Value) (vs : List V) (Q : VK) (E : XK), A.guards = some [] → Room k A → Env0 P w K mg base A outer s H → BindsTo s fd args (ps.zip us) → Vals vs us → sp vs H Q E →
    codeAny (model P w) A (.call (.ref f) args) (CR CX outer P w H s Q E) s
theorem fnG_of {CX : CXT} {P : Program} {w : World} {K : PySem.W.Frag} {mg : Str → Option Value} {base : Heap} {k : Nat} {f : Addr} {x qual : Str} {st : Stmt} {fd : FuncData} {N ps : List Str} {sp : Sp} (F : Fun K x qual st f fd) (S : FnScope N ps (defScope st))
    (len : ∀ vs H Q E, sp vs H Q E → vs.length = ps.length)
    (hbody : ∀ (cdv : Value) (A : Around) (outer : List Env) (s : Shared) (H : Hp) (vs : List V) (Q : VK) (E : XK), (A.deeper (envOfC qual (defScope st) s.heap.objs.size f cdv)).guards = some [] → Room k (A.deeper (envOfC qual (defScope st) s.heap.objs.size f cdv)) → sp vs H Q E →
      ∃ t, PSs (cxOf CX P w K mg base N qual (defScope st) f cdv A outer s H E) (defBody st) t ∧ t { nx := fun _ H' => Q .non H', rt := Q } (start N vs) H) : FnG P w K mg base CX (k + 1) f fd ps sp := by
  obtain ⟨oc, od, kV, doc, pm, an, cdv, ct, osl, rfl, lk, hcd⟩ := F.ex
  refine ⟨len, fun A outer s H args us vs Q E hg hr e0 hb r hsp => ?_⟩
  have hl := len _ _ _ _ hsp
  have kin : K.In s.heap := e0.mod.kin.keeps fun b o z => (e0.bs b o z).1
  have lim : s.heap.NoLimit := e0.mod.nolimit.keeps fun b o z => (e0.bs b o z).1
  have kinds : ∀ y ∈ ps.zip us, (defScope st).names.lookup y.1 = some .local ∨ ((defScope st).names.lookup y.1 = some .cell ∧ ((cellsFrom (s.heap.objs.size + 1) (defScope st).names []).lookup y.1).isSome = true) := by
    rintro ⟨n, v⟩ hy
    rcases S.par n (List.of_mem_zip hy).1 with z | z
    · exact .inl z
    · exact .inr ⟨z, PySem.W.cellsFrom_some _ _ _ (.inl z)⟩
  refine codeAny_call_function hr.depth (kin _ _ lk) rfl S.co S.gen rfl (PySem.W.codeRec_of kin hcd) (hb _ _ _ _ ?_)
  refine wpAny_newFunctionEnv_cells S.kind kinds fun env he s1 inc => ?_
  subst he
  refine ⟨lim.keeps inc.toInCall.keep, codeAny_func ?_⟩
  obtain ⟨t, ht, hq⟩ := hbody cdv A outer s H vs Q E hg (hr.deeper _) hsp
  have I : Inv (cxOf CX P w K mg base N qual (defScope st) f cdv A outer s H E) [] (start N vs) H s1 := inv_start S hr.hd e0 hl r inc
  refine wpAny_mono (ht.run [] s1 (start N vs) H _ I hq) (fun fl s' hs => ?_) fun e s' hs => hs
  cases fl with
  | ret u =>
    obtain ⟨v, σ', H', J, rv, q⟩ := hs
    exact ⟨v, H', J.os, J.bare, J.base, J.hok, rv, q⟩
  | next =>
    obtain ⟨σ', H', J, q⟩ := hs
    exact ⟨.non, H', J.os, J.bare, J.base, J.hok, rfl, q⟩
  | brk =>
    obtain ⟨_, _, _, q⟩ := hs
    exact q.elim
  | cont =>
    obtain ⟨_, _, _, q⟩ := hs
    exact q.elim
theorem lawG_of {P : Program} {w : World} {K : PySem.W.Frag} {mg : Str → Option Value} {base : Heap} {k : Nat} {f : Addr} {x qual : Str} {st : Stmt} {fd : FuncData} {N ps : List Str} {sp : Sp} (F : Fun K x qual st f fd) (S : FnScope N ps (defScope st))
    (len : ∀ vs H Q E, sp vs H Q E → vs.length = ps.length)
    (hbody : ∀ (cdv : Value) (A : Around) (outer : List Env) (s : Shared) (H : Hp) (vs : List V) (Q : VK) (E : XK), (cxOf CX0 P w K mg base N qual (defScope st) f cdv A outer s H E).nox.A.guards = some [] → Room k (A.deeper (envOfC qual (defScope st) s.heap.objs.size f cdv)) → sp vs H Q E →
      ∃ t, PSs (cxOf CX0 P w K mg base N qual (defScope st) f cdv A outer s H E).nox (defBody st) t ∧ t { nx := fun _ H' => Q .non H', rt := Q } (start N vs) H) : FnG P w K mg base CX0 (k + 1) f fd ps sp :=
  fnG_of F S len fun cdv A outer s H vs Q E hg hr h => let ⟨t, p, q⟩ := hbody cdv A outer s H vs Q E hg hr h; ⟨t, p.nox, q⟩
end Lb
set_option Elab.async false
set_option linter.all false
set_option maxRecDepth 100000
set_option maxHeartbeats 4000000
namespace Lb
open PySem PySem.Spec PyProof.Rows L2
section
variable {P : Program} {w : World} {K : PySem.W.Frag} {mg mb : Str → Option Value} {CX : CXT} {k : Nat} {fa a : Addr} {fd : FuncData} {x : Str} {sp : Sp} {s1 : Shared} {vs : List Value} {ns : List Int}
/-- what the law's call must come to -/
abbrev LawEnd (s1 : Shared) : Result → Shared → Prop := fun r s' => r = .ok (.ret (.bool true)) ∧ OldK s1.heap s'.heap ∧ s'.os = s1.os ∧ AllBare s'.gens
theorem go_from {H : Hp} (kin : K.In s1.heap) (hns : s1.heap.Ns mainGlobals mg) (hb : s1.heap.Ns builtinsNs mb) (hbb : ∀ x : Str, x ≠ "__name__" → mb x = bootBuiltins x) (hlim : s1.heap.NoLimit) (hg : s1.gens = #[])
    (ha : s1.heap.get? a = some { cls := .type "list", data := .seq vs.toArray }) (hr : Room k callerA)
    (F : ∀ base : Heap, K.In base → base.Ns mainGlobals mg → FnG P w K mg base CX k fa fd [x] sp) (hbind : ∀ (s : Shared) (u : Value), BindsTo s fd ⟨[u], []⟩ [(x, u)])
    (only : Only H) (hok : HOk P w H s1.heap) (hA : ∀ b, H b ≠ none → b = a) (hK : H a ≠ none → K.lookup a = none)
    (hsp : sp [.ref a] H (fun v _ => v = .bl true) fun _ _ _ => False) (hCX : ∀ e s', CX [] H s1 (fun _ _ _ => False) e s' → False) :
    codeAny (model P w) callerA (.call (.ref fa) ⟨[.ref a], []⟩) (LawEnd s1) s1 := by
  have isA : ∀ {b : Addr} {u : HO}, H b = some u → b = a := fun {b u} e => hA b (by rw [e]; exact fun z => nomatch z)
  have dictFree : ∀ {b : Addr} {o : Obj} {es : Array DictEntry} {ep : Nat}, s1.heap.get? b = some o → o.data = .dict es ep → H b = none := by
    intro b o es ep e d
    cases q : H b with
    | none => rfl
    | some u =>
      have eb := isA q
      subst eb
      rw [ha] at e
      cases e
      exact nomatch (show Data.seq vs.toArray _ = Data.dict es ep from d)
  have ns : ∀ {b : Addr} {m : Str → Option Value}, s1.heap.Ns b m → (hidT s1.heap H).Ns b m := by
    rintro b m ⟨o, es, ep, e, d, r⟩
    exact ⟨o, es, ep, hidT_get e (dictFree e d), d, r⟩
  have kb : K.In (hidT s1.heap H) := by
    intro b o e
    refine hidT_get (kin b o e) ?_
    cases q : H b with
    | none => rfl
    | some u =>
      have eb := isA q
      subst eb
      rw [hK (by rw [q]; exact fun z => nomatch z)] at e
      cases e
  obtain ⟨mc, n1, n2⟩ := hlim
  have md : Mod K mg (hidT s1.heap H) := ⟨kb, ns hns, ⟨mb, ns hb, hbb⟩, ⟨mc, ns n1, n2⟩⟩
  have e0 : Env0 P w K mg (hidT s1.heap H) callerA [] s1 H :=
    ⟨rfl, md, fun b o e => of_hidT e, Nat.le_of_eq (hidT_size _ _), trivial, fun b hb => absurd (show b ∈ ([] : List Addr) from hb) (by simp), hok, .of_eq hg⟩
  refine codeAny_mono ((F _ kb (ns hns)).run callerA [] s1 H ⟨[.ref a], []⟩ [.ref a] [.ref a] _ _ rfl hr e0 (hbind s1 (.ref a)) (.cons rfl .nil) hsp) fun r s' h => ?_
  cases r with
  | error e => exact (hCX e s' h).elim
  | ok fl =>
    cases fl with
    | next => exact h.elim
    | brk => exact h.elim
    | cont => exact h.elim
    | ret u =>
      obtain ⟨v, H', os, bare, un, hok', ru, q⟩ := h
      have ev : v = .bl true := q
      subst ev
      obtain rfl : u = Value.bool true := ru
      refine ⟨rfl, OldK.of_keep fun b o e => ?_, os, bare⟩
      rcases only b with z | ⟨ob, xs, z⟩
      · exact un.keep b o e z (fun m => absurd (show b ∈ ([] : List Addr) from m) (by simp)) (by simp)
      · obtain ⟨g1, _⟩ := hok b _ z
        obtain ⟨g2, _⟩ := hok' b _ (un.frzs b ob _ z)
        rw [e] at g1
        cases g1
        exact g2
theorem law_go (kin : K.In s1.heap) (hns : s1.heap.Ns mainGlobals mg) (hb : s1.heap.Ns builtinsNs mb) (hbb : ∀ x : Str, x ≠ "__name__" → mb x = bootBuiltins x) (hlim : s1.heap.NoLimit) (hg : s1.gens = #[])
    (ha : s1.heap.get? a = some { cls := .type "list", data := .seq vs.toArray }) (hi : IntsAre vs ns) (hl : ns.length ≤ sizeLine) (hr : Room k callerA)
    (F : ∀ base : Heap, K.In base → base.Ns mainGlobals mg → FnG P w K mg base CX k fa fd [x] sp) (hbind : ∀ (s : Shared) (u : Value), BindsTo s fd ⟨[u], []⟩ [(x, u)])
    (hsp : ∀ H : Hp, Only H → SqL K H a (ns.map V.int) → sp [.ref a] H (fun v _ => v = .bl true) fun _ _ _ => False)
    (hCX : ∀ H e s', CX [] H s1 (fun _ _ _ => False) e s' → False) : codeAny (model P w) callerA (.call (.ref fa) ⟨[.ref a], []⟩) (LawEnd s1) s1 := by
  have rv := vals_ints hi
  cases hk : K.lookup a with
  | some o =>
    have e := kin a o hk
    rw [ha] at e
    cases e
    have only0 : Only (fun _ => none) := fun _ => .inl rfl
    refine go_from (H := fun _ => none) kin hns hb hbb hlim hg ha hr F hbind only0 (fun b u z => nomatch (show (none : Option HO) = some u from z)) (fun b z => absurd rfl z) (fun z => absurd rfl z) (hsp _ only0 (.inr ⟨_, vs.toArray, _, hk, rfl, rfl, rfl, ?_, by simpa using rv⟩)) fun e s' => hCX _ e s'
    rw [List.size_toArray, hi.length]
    exact hl
  | none =>
    let H1 : Hp := fun b => if b = a then some (.frz { cls := .type "list", data := .seq vs.toArray } (.lst (ns.map V.int))) else none
    have at_a : H1 a = some (.frz { cls := .type "list", data := .seq vs.toArray } (.lst (ns.map V.int))) := if_pos rfl
    have off : ∀ {b : Addr}, b ≠ a → H1 b = none := fun h => if_neg h
    have only1 : Only H1 := fun b => by
      by_cases hb : b = a
      · rw [hb]
        exact .inr ⟨_, _, at_a⟩
      · exact .inl (off hb)
    refine go_from (H := H1) kin hns hb hbb hlim hg ha hr F hbind only1 (fun b u z => ?_) (fun b z => ?_) (fun _ => hk) (hsp _ only1 (.inl (.inr ⟨_, at_a⟩))) fun e s' => hCX _ e s'
    · by_cases hb : b = a
      · subst hb
        rw [at_a] at z
        cases z
        exact ⟨ha, by rw [List.length_map]; exact hl, vs, _, rv, ha⟩
      · rw [off hb] at z
        cases z
    · exact Classical.byContradiction fun hb => z (off hb)
end
theorem walk_g {l : PySem.W.OpenLaw} {n k : Nat} {q : Program} {loose : List Str} {XP : (Str → Option Value) → Heap → Prop} {YP : World → Heap → Prop} {d : DefRec} {K : Params → PySem.W.Frag} {CX : World → CXT} {sp : World → Sp} {x : Str}
    (hn : l.most = some n) (hn2 : n ≤ sizeLine) (hdf : d.params.defaults = []) (hr : Room k callerA) (hY : ∀ (w : World) (h : Heap), YP w h → (K w.params).In h)
    (F : ∀ (w : World) (mg : Str → Option Value) (fa : Addr) (h : Heap), (K w.params).In h → h.Ns mainGlobals mg → mg d.name = some (.ref fa) →
      ∃ fd : FuncData, (∀ (s : Shared) (u : Value), BindsTo s fd ⟨[u], []⟩ [(x, u)]) ∧ ∀ base : Heap, (K w.params).In base → base.Ns mainGlobals mg → FnG l.prog w (K w.params) mg base (CX w) k fa fd [x] (sp w))
    (hsp : ∀ (w : World) (H : Hp) (a : Addr) (ns : List Int), ns.length ≤ n → Only H → SqL (K w.params) H a (ns.map V.int) → sp w [.ref a] H (fun v _ => v = .bl true) fun _ _ _ => False)
    (hCX : ∀ (w : World) (H : Hp) (s : Shared) (e : Value) (s' : Shared), CX w [] H s (fun _ _ _ => False) e s' → False) :
    PySem.W.WalkO q loose XP YP l.row.toRowW d [] (fun f vs => PySem.call f vs) := by
  refine Att.attach_call hn hdf fun w s0 s1 mg mb fa o pm cd doc a vs ns G Y ho hd hcd hmg hobj hints hlen hg => ?_
  have kin := hY w _ Y
  obtain ⟨fd, hb, hF⟩ := F w mg fa _ kin G.T.g hmg
  exact law_go kin G.T.g G.T.b G.T.builtins G.T.nolimit hg hobj hints (Nat.le_trans hlen hn2) hr hF hb (fun H hO hS => hsp w H a ns hlen hO hS) fun H e s' => hCX w H s1 e s'
end Lb
set_option Elab.async false
set_option linter.all false
set_option maxRecDepth 100000
set_option maxHeartbeats 4000000
namespace Lb
open PySem PySem.Spec PyProof.Rows L2 RZ
/-! ### defs by their names -/
structure Df (K : PySem.W.Frag) (mg : Str → Option Value) (x : Str) (st : Stmt) : Prop where
  ex : ∃ (f : Addr) (fd : FuncData), Fun K x x st f fd ∧ mg x = some (.ref f)
structure Own (P : Program) (w : World) (K : PySem.W.Frag) (mg : Str → Option Value) (base : Heap) (x : Str) (k : Nat) (ps : List Str) (sp : Sp) : Prop where
  ex : ∃ (f : Addr) (fd : FuncData), FnOk P w K mg base CX0 k f fd ps sp ∧ mg x = some (.ref f) ∧ PySem.W.keepIn K (.ref f) = true ∧ Binds K fd ps []
section
variable {P : Program} {w : World} {K : PySem.W.Frag} {mg : Str → Option Value} {base : Heap}
theorem own_of {x : Str} {st : Stmt} {N ps : List Str} {k : Nat} {sp : Sp} (D : Df K mg x st) (S : FnScope N ps (defScope st))
    (hb : ∀ (kV doc pm : Value) (an : Option Addr) (cdv ct : Value) (us : List Value), us.length = ps.length → bindArgs (PySem.W.fnOf x x (defArgs st) (defBody st) (defScope st) .none kV doc pm an cdv ct) ⟨us, []⟩ = pure (ps.zip us))
    (len : ∀ vs H Q E, sp vs H Q E → vs.length = ps.length)
    (hbody : ∀ (f : Addr) (cdv : Value) (A : Around) (outer : List Env) (s : Shared) (H : Hp) (vs : List V) (Q : VK) (E : XK), Room k (A.deeper (envOfC x (defScope st) s.heap.objs.size f cdv)) → sp vs H Q E →
      ∃ t, PSs (cxOf CX0 P w K mg base N x (defScope st) f cdv A outer s H E).nox (defBody st) t ∧ t { nx := fun _ H' => Q .non H', rt := Q } (start N vs) H) : Own P w K mg base x (k + 1) ps sp := by
  obtain ⟨f, fd, F, m⟩ := D.ex
  exact ⟨f, fd, F.ok S len (hbody f), m, F.kp, F.binds hb⟩
theorem df_mk {h : Heap} {x : Str} {st : Stmt} {f : Addr} {oc : Value} {od an : Option Addr} {osl : Array (Option Value)} {kV doc pm cdv ct : Value} (X : K.In h) (G : h.Ns mainGlobals mg) (a : PySem.W.nsIn K mainGlobals x = some (some (.ref f)))
    (l : K.lookup f = some ⟨oc, od, .func (PySem.W.fnOf x x (defArgs st) (defBody st) (defScope st) .none kV doc pm an cdv ct), osl⟩) (c : PySem.W.codeIn K cdv x = true) (k : PySem.W.keepIn K (.ref f) = true) : Df K mg x st :=
  ⟨f, _, fun_mk l c k, PySem.W.mg_of X G a⟩
end
section
variable {X : Cx} {k : Nat} {ps : List Str} {sp : Sp} {x : Str} {p pos : Pos} {e : Expr} {es : List Expr} {t : TA}
theorem pe_own (O : Own X.prog X.w X.K X.mg X.base x k ps sp) (hr : Room k X.A) (hg : Gl X x) (ha : PA X (e :: es) t) (hdb : (x == ("__debug__" : Str)) = false := by decide)
    (he : starEach (e :: es) X.env = (false, eval e X.env) :: starEach es X.env := by rfl) (hpl : (backTo pos (starEach es X.env)).any (·.1) = false := by rfl) : PE X (.Call (.Name x p) (e :: es) [] pos) (tCall sp [] E0 t) := by
  obtain ⟨f, fd, F, m, kp, b⟩ := O.ex
  exact pe_call F hr hg m kp b .nil pass0 ha hdb he hpl
end
/-- the built-ins' names are no names of the module -/
structure Blt (mg : Str → Option Value) : Prop where
  b_len : mg "len" = none
  b_range : mg "range" = none
  b_int : mg "int" = none
  b_bool : mg "bool" = none
  b_tuple : mg "tuple" = none
  b_list : mg "list" = none
  b_str : mg "str" = none
  b_dict : mg "dict" = none
  b_all : mg "all" = none
  b_any : mg "any" = none
  b_max : mg "max" = none
  b_min : mg "min" = none
  b_sum : mg "sum" = none
  b_zip : mg "zip" = none
  b_enumerate : mg "enumerate" = none
  b_isinstance : mg "isinstance" = none
  b_repr : mg "repr" = none
  b_sorted : mg "sorted" = none
/-! ### the deck -/
/-- the deck at d: its cells at c, at most n draws, what is left at r -/
def Dk (H : Hp) (d c r : Addr) (n : Nat) : Prop :=
  ∃ (t : Nat) (cs rs : List Int), t ≤ n ∧ 0 < cs.length ∧ cs.length ≤ 64 ∧ rs.length = cs.length ∧ d ≠ c ∧ d ≠ r ∧ c ≠ r ∧
    H d = some (.lst [.ref c, .int (t : Int), .ref r]) ∧ H c = some (.lst (cs.map V.int)) ∧ H r = some (.lst (rs.map V.int))
/-- all but the deck's two changing lists is kept -/
def Kp (d r : Addr) (H H' : Hp) : Prop := ∀ b o, b ≠ d → b ≠ r → H b = some o → H' b = some o
theorem Kp.refl (d r : Addr) (H : Hp) : Kp d r H H := fun _ _ _ _ e => e
theorem Kp.of {d r : Addr} {H H' : Hp} (s : Same H H') : Kp d r H H' := fun b o _ _ e => s b o e
theorem Kp.trans {d r : Addr} {H H1 H2 : Hp} (a : Kp d r H H1) (b : Kp d r H1 H2) : Kp d r H H2 := fun c o n1 n2 e => b c o n1 n2 (a c o n1 n2 e)
theorem Dk.mono {H : Hp} {d c r : Addr} {n m : Nat} (h : Dk H d c r n) (l : n ≤ m) : Dk H d c r m := by
  obtain ⟨t, cs, rs, h1, hh⟩ := h
  exact ⟨t, cs, rs, Nat.le_trans h1 l, hh⟩
theorem Dk.same {H H' : Hp} {d c r : Addr} {n : Nat} (h : Dk H d c r n) (s : Same H H') : Dk H' d c r n := by
  obtain ⟨t, cs, rs, h1, h2, h3, h4, h5, h6, h7, e1, e2, e3⟩ := h
  exact ⟨t, cs, rs, h1, h2, h3, h4, h5, h6, h7, s _ _ e1, s _ _ e2, s _ _ e3⟩
theorem Dk.nd {H : Hp} {d c r : Addr} {n : Nat} (h : Dk H d c r n) {p : Addr} (e : H p = none) : p ≠ d ∧ p ≠ r ∧ p ≠ c := by
  obtain ⟨t, cs, rs, _, _, _, _, _, _, _, e1, e2, e3⟩ := h
  exact ⟨(ne_of_none e1 e).symm, (ne_of_none e3 e).symm, (ne_of_none e2 e).symm⟩
/-- a local list's own place survives a draw -/
theorem Kp.at {H H' H0 : Hp} {d c r : Addr} {n : Nat} (k : Kp d r H H') (dk : Dk H0 d c r n) {p : Addr} {o : HO} (e0 : H0 p = none) (e : H p = some o) : H' p = some o :=
  let ⟨a, b, _⟩ := dk.nd e0
  k p o a b e
/-- the region of plain data: away from the deck, with all that is new -/
structure Rg (R : Rgn) (H : Hp) (d r : Addr) : Prop where
  nd : ¬ R d
  nr : ¬ R r
  new : ∀ p, H p = none → R p
theorem Rg.on {R : Rgn} {H H' H0 : Hp} {d r : Addr} (g : Rg R H0 d r) (k : Kp d r H H') : On R H H' := fun b o rb e => k b o (fun z => g.nd (z ▸ rb)) (fun z => g.nr (z ▸ rb)) e
theorem Rg.kp {R : Rgn} {H H' : Hp} {d c r : Addr} {n : Nat} (g : Rg R H d r) (k : Kp d r H H') (dk : Dk H' d c r n) : Rg R H' d r := by
  refine ⟨g.nd, g.nr, fun p e => g.new p ?_⟩
  obtain ⟨n1, n2, _⟩ := dk.nd e
  cases q : H p with
  | none => rfl
  | some o =>
    rw [k p o n1 n2 q] at e
    cases e
theorem Rg.same {R : Rgn} {H H' : Hp} {d r : Addr} (g : Rg R H d r) (s : Same H H') : Rg R H' d r := ⟨g.nd, g.nr, fun p e => g.new p (s.free e)⟩
theorem nat_at {ns : List Int} {j : Nat} (h : j < ns.length) : atI (ns.map V.int) ((j : Nat) : Int) = some (.int (ns.getD j 0)) := by
  refine atI_nat ?_
  rw [List.getElem?_map, List.getElem?_eq_getElem h, List.getD_eq_getElem?_getD, List.getElem?_eq_getElem h]
  rfl
theorem emod_nat (a : Int) {m : Nat} (h : 0 < m) : ∃ v : Nat, v < m ∧ a % (m : Int) = (v : Int) := by
  have h1 : 0 ≤ a % (m : Int) := Int.emod_nonneg a (by omega)
  have h2 : a % (m : Int) < (m : Int) := Int.emod_lt_of_pos a (by omega)
  exact ⟨(a % (m : Int)).toNat, by omega, by omega⟩
theorem ixN_nat {n j : Nat} (h : j < n) : ixN n ((j : Nat) : Int) = some j := by
  unfold ixN
  rw [if_pos (by omega), if_pos (by omega)]
  rfl
theorem all_in {σ : L2.St} {H : Hp} {A B : Hp → Prop} (h : A H) : tYes σ H (fun b H3 => if b = true then A H3 else B H3) := by
  show if true = true then A H else B H
  exact iteT h
theorem int_at {ns : List Int} {i : Nat} {x : V} (h : (ns.map V.int)[i]? = some x) : ∃ u, x = V.int u ∧ ns[i]? = some u := by
  rw [List.getElem?_map] at h
  cases e : ns[i]? with
  | none =>
    rw [e] at h
    cases h
  | some u =>
    rw [e] at h
    exact ⟨u, (Option.some.inj h).symm, rfl⟩
/-! ### comprehensions and loops over zip and enumerate of tuples -/
/-- what the reading of a comprehension asks behind its source -/
abbrev LcW (J : It) (g : TG) (tt : TT) (te : TE) (vs : List Nat) (σ : L2.St) (H1 : Hp) (D : Addr) (Qd : Hp → Prop) : Prop :=
  ∃ W : Nat → Nat → Hp → Prop, (∃ m, W 0 m (upd H1 D (.lst []))) ∧ ∀ i m H, W i m H →
    (J.stop i H ∧ Qd H) ∨ (J.go i H ∧ ∃ Nx : Hp → Prop, (∀ H', Nx H' → ∃ m', m' < m ∧ W (i + 1) m' H') ∧ ∀ x H', J.yld i H x H' → g x (wipe σ vs) H' fun σ2 H2 => wipe σ2 vs = wipe σ vs ∧ tt σ2 H2 fun b H3 =>
      if b = true then te σ2 H3 fun y H4 => ∃ acc, H4 D = some (.lst acc) ∧ acc.length < sizeLine ∧ Nx (upd H4 D (.lst (acc ++ [y]))) else Nx H3)
theorem lc_zipT {K : PySem.W.Frag} {a b : Addr} {xs ys : List V} {g : TG} {tt : TT} {te : TE} {vs : List Nat} {σ : L2.St} {H1 : Hp} {D : Addr} {Qd : Hp → Prop} (hl : xs.length = ys.length) (Pv : Nat → Hp → Prop) (h0 : Pv 0 (upd H1 D (.lst [])))
    (hq : ∀ i H, Pv i H → SqT K H a xs ∧ SqT K H b ys)
    (hs : ∀ (i : Nat) (x y : V) (T : Addr) (H : Hp), xs[i]? = some x → ys[i]? = some y → Pv i H → H T = none → g (.ref T) (wipe σ vs) (upd H T (.tup [x, y])) fun σ2 H2 => wipe σ2 vs = wipe σ vs ∧ tt σ2 H2 fun b H3 =>
      if b = true then te σ2 H3 fun y H4 => ∃ acc, H4 D = some (.lst acc) ∧ acc.length < sizeLine ∧ Pv (i + 1) (upd H4 D (.lst (acc ++ [y]))) else Pv (i + 1) H3) (hd : ∀ H, Pv xs.length H → Qd H) : LcW (ItzT K a b) g tt te vs σ H1 D Qd := by
  refine ⟨fun i m H => m = xs.length - i ∧ i ≤ xs.length ∧ Pv i H, ⟨xs.length, rfl, Nat.zero_le _, h0⟩, ?_⟩
  rintro i m H ⟨rfl, hi, p⟩
  obtain ⟨qx, qy⟩ := hq i H p
  by_cases hlt : i < xs.length
  · refine .inr ⟨⟨xs, ys, _, _, qx, qy, List.getElem?_eq_getElem hlt, List.getElem?_eq_getElem (by omega)⟩, Pv (i + 1), fun H' p' => ⟨xs.length - (i + 1), by omega, rfl, hlt, p'⟩, ?_⟩
    rintro v H' ⟨T, x', y', rfl, hT, rfl, f1, f2⟩
    exact hs i x' y' T H (f1 xs qx) (f2 ys qy) p hT
  · obtain rfl : i = xs.length := by omega
    exact .inl ⟨⟨xs, ys, qx, qy, .inl (Nat.le_refl _)⟩, hd H p⟩
/-! ### bags, trades, markets -/
/-- a side of a trade: so many goods, amounts up to three, a total up to m -/
structure Side (g m : Nat) (b : List Int) : Prop where
  len : b.length = g
  amt : ∀ x ∈ b, 0 ≤ x ∧ x ≤ 3
  tot : b.sum ≤ (m : Int)
theorem Side.mono {g m k : Nat} {b : List Int} (h : Side g m b) (l : m ≤ k) : Side g k b := ⟨h.len, h.amt, by have := h.tot; omega⟩
abbrev bagD (b : List Int) : PyData := .tuple (b.map PyData.int)
abbrev Trd := List Int × List Int
abbrev trdD (t : Trd) : PyData := .tuple [bagD t.1, bagD t.2]
abbrev mktD (g : Nat) (ts : List Trd) : PyData := .tuple [.int (g : Int), .tuple (ts.map trdD)]
def TrdOk (g m : Nat) (t : Trd) : Prop := Side g m t.1 ∧ Side g m t.2
structure MktOk (g : Nat) (ts : List Trd) : Prop where
  one : 1 ≤ g
  four : g ≤ 4
  many : ts.length ≤ 4
  all : ∀ t ∈ ts, TrdOk g 4 t
theorem sum_nonneg : ∀ {b : List Int}, (∀ x ∈ b, 0 ≤ x) → 0 ≤ b.sum
  | [], _ => by decide
  | x :: b, h => by
    rw [List.sum_cons]
    have h1 := h x List.mem_cons_self
    have h2 := sum_nonneg (b := b) fun y hy => h y (List.mem_cons_of_mem _ hy)
    omega
theorem le_sum : ∀ {b : List Int}, (∀ x ∈ b, 0 ≤ x) → ∀ x ∈ b, x ≤ b.sum
  | y :: b, h, x, hx => by
    rw [List.sum_cons]
    have h1 := h y List.mem_cons_self
    have hb : ∀ z ∈ b, 0 ≤ z := fun z hz => h z (List.mem_cons_of_mem _ hz)
    have h2 := sum_nonneg hb
    rcases List.mem_cons.mp hx with rfl | hx
    · omega
    · have h3 := le_sum hb x hx
      omega
theorem sum_zip : ∀ {a b : List Int}, a.length = b.length → (List.zipWith (· + ·) a b).sum = a.sum + b.sum
  | [], [], _ => rfl
  | x :: a, y :: b, h => by
    rw [List.zipWith_cons_cons, List.sum_cons, List.sum_cons, List.sum_cons, sum_zip (a := a) (b := b) (by simpa using h)]
    omega
theorem mem_zip {f : Int → Int → Int} : ∀ {a b : List Int} {z : Int}, z ∈ List.zipWith f a b → ∃ x ∈ a, ∃ y ∈ b, z = f x y
  | x :: a, y :: b, z, h => by
    rw [List.zipWith_cons_cons] at h
    rcases List.mem_cons.mp h with rfl | h
    · exact ⟨x, List.mem_cons_self, y, List.mem_cons_self, rfl⟩
    · obtain ⟨x', hx, y', hy, e⟩ := mem_zip h
      exact ⟨x', List.mem_cons_of_mem _ hx, y', List.mem_cons_of_mem _ hy, e⟩
theorem zip_take {f : Int → Int → Int} : ∀ {a b : List Int} {i : Nat} {x y : Int}, a[i]? = some x → b[i]? = some y → (List.zipWith f a b).take (i + 1) = (List.zipWith f a b).take i ++ [f x y]
  | x' :: a, y' :: b, 0, x, y, h1, h2 => by
    have e1 : x' = x := Option.some.inj h1
    have e2 : y' = y := Option.some.inj h2
    rw [e1, e2]
    rfl
  | x' :: a, y' :: b, i + 1, x, y, h1, h2 => by
    rw [List.zipWith_cons_cons, List.take_succ_cons, List.take_succ_cons, zip_take (i := i) (x := x) (y := y) h1 h2]
    rfl
theorem Dat.bag {R : Rgn} {H : Hp} {v : V} {b : List Int} (h : Dat R H v (bagD b)) : ∃ a, v = .ref a ∧ R a ∧ H a = some (.tup (b.map V.int)) := by
  cases h with
  | tup ra e t =>
    rw [Dats.of_ints t] at e
    exact ⟨_, rfl, ra, e⟩
theorem Dat.mkBag {R : Rgn} {H : Hp} {a : Addr} {b : List Int} (ra : R a) (e : H a = some (.tup (b.map V.int))) : Dat R H (.ref a) (bagD b) := .tup ra e (Dats.ints b)
theorem rep0 : ∀ g : Nat, (List.replicate g [V.int 0]).flatten = (List.replicate g (0 : Int)).map V.int
  | 0 => rfl
  | k + 1 => by
    rw [List.replicate_succ, List.flatten_cons, rep0 k, List.replicate_succ]
    rfl
theorem sum_rep0 : ∀ k : Nat, (List.replicate k (0 : Int)).sum = 0
  | 0 => rfl
  | k + 1 => by
    rw [List.replicate_succ, List.sum_cons, sum_rep0 k]
    rfl
end Lb
set_option Elab.async false
set_option linter.all false
set_option maxRecDepth 100000
set_option maxHeartbeats 4000000
namespace Lb
open PySem PySem.Spec PyProof.Rows L2 RZ
/-! ### how long data is when shown -/
mutual
def wt : PyData → Nat
  | .none => 4
  | .bool _ => 5
  | .int i => (PyData.int i).shown.length
  | .str x => (reprText x).length
  | .list xs => 4 + wts xs
  | .tuple xs => 4 + wts xs
  | .dict _ => 2
def wts : List PyData → Nat
  | [] => 0
  | x :: xs => wt x + 2 + wts xs
end
mutual
def fine : PyData → Bool
  | .none => true
  | .bool _ => true
  | .int i => decide (i.natAbs.log2 < 1920)
  | .str _ => true
  | .list xs => fines xs
  | .tuple xs => fines xs
  | .dict kvs => kvs.isEmpty
def fines : List PyData → Bool
  | [] => true
  | x :: xs => fine x && fines xs
end
mutual
theorem fine_show : ∀ d : PyData, fine d = true → d.showable = true
  | .none, _ => by rw [PyData.showable]
  | .bool _, _ => by rw [PyData.showable]
  | .int i, h => by
    rw [PyData.showable]
    exact h
  | .str _, _ => by rw [PyData.showable]
  | .list xs, h => by
    rw [PyData.showable]
    exact fines_show xs h
  | .tuple xs, h => by
    rw [PyData.showable]
    exact fines_show xs h
  | .dict [], _ => by rw [PyData.showable, PyData.showableKv]
  | .dict (_ :: _), h => by
    simp [fine] at h
theorem fines_show : ∀ ds : List PyData, fines ds = true → PyData.showableAll ds = true
  | [], _ => by rw [PyData.showableAll]
  | d :: ds, h => by
    rw [fines, Bool.and_eq_true] at h
    rw [PyData.showableAll, fine_show d h.1, fines_show ds h.2]
    rfl
end
theorem tupleText_len (ts : List Str) : (tupleText ts).length ≤ piled ts + 4 := by
  unfold tupleText
  rw [strLen_append, strLen_append]
  have e1 : (("(" : String) : Str).length = 1 := rfl
  have e3 : ((if ts.length == 1 then ",)" else ")" : String) : Str).length ≤ 2 := by split <;> decide
  by_cases h : ts = []
  · subst h
    decide
  · have := join_length_add ts h
    rw [e1]
    omega
theorem textFrom_le : ∀ (ts : List Str) (k : Nat) (acc : Str), (textFrom k acc ts).length ≤ acc.length + piled ts
  | [], k, acc => by
    show acc.length ≤ _
    omega
  | t :: r, k, acc => by
    have ih := textFrom_le r (k + 1) (acc ++ (if k > 0 then ", " else "" : String) ++ t)
    have e : (acc ++ (if k > 0 then ", " else "" : String) ++ t).length ≤ acc.length + 2 + t.length := by
      rw [strLen_append, strLen_append]
      have : ((if k > 0 then ", " else "" : String) : Str).length ≤ 2 := by split <;> decide
      omega
    rw [piled_cons]
    show (textFrom (k + 1) (acc ++ (if k > 0 then ", " else "" : String) ++ t) r).length ≤ _
    omega
theorem listText_len (ts : List Str) : (listText ts).length ≤ piled ts + 4 := by
  unfold listText
  rw [strLen_append]
  have := textFrom_le ts 0 "["
  have e1 : (("[" : String) : Str).length = 1 := rfl
  have e2 : (("]" : String) : Str).length = 1 := rfl
  rw [e1] at this
  rw [e2]
  omega
mutual
theorem shown_le : ∀ d : PyData, fine d = true → d.shown.length ≤ wt d
  | .none, _ => by
    rw [PyData.shown]
    decide
  | .bool b, _ => by
    rw [PyData.shown]
    cases b <;> decide
  | .int i, _ => Nat.le_refl _
  | .str x, _ => by
    rw [PyData.shown]
    exact Nat.le_refl _
  | .list xs, h => by
    rw [PyData.shown, wt]
    have := listText_len (PyData.shownAll xs)
    have := piled_le xs h
    omega
  | .tuple xs, h => by
    rw [PyData.shown, wt]
    have := tupleText_len (PyData.shownAll xs)
    have := piled_le xs h
    omega
  | .dict [], _ => by
    rw [PyData.shown, PyData.shownKv]
    decide
  | .dict (_ :: _), h => by
    simp [fine] at h
theorem piled_le : ∀ ds : List PyData, fines ds = true → piled (PyData.shownAll ds) ≤ wts ds
  | [], _ => by
    rw [PyData.shownAll]
    exact Nat.le_refl _
  | d :: ds, h => by
    rw [fines, Bool.and_eq_true] at h
    rw [PyData.shownAll, piled_cons, wts]
    have := shown_le d h.1
    have := piled_le ds h.2
    omega
end
theorem fines_iff : ∀ ds : List PyData, fines ds = true ↔ ∀ d ∈ ds, fine d = true
  | [] => ⟨fun _ _ z => (List.not_mem_nil z).elim, fun _ => rfl⟩
  | d :: ds => by
    rw [fines, Bool.and_eq_true, fines_iff ds]
    exact ⟨fun h x hx => (List.mem_cons.mp hx).elim (fun e => e ▸ h.1) (h.2 x), fun h => ⟨h d List.mem_cons_self, fun x hx => h x (List.mem_cons_of_mem _ hx)⟩⟩
theorem depths_iff {k : Nat} : ∀ ds : List PyData, PyData.depthAll ds ≤ k ↔ ∀ d ∈ ds, d.depth ≤ k
  | [] => ⟨fun _ _ z => (List.not_mem_nil z).elim, fun _ => by rw [PyData.depthAll]; exact Nat.zero_le _⟩
  | d :: ds => by
    rw [PyData.depthAll, Nat.max_le, depths_iff ds]
    exact ⟨fun h x hx => (List.mem_cons.mp hx).elim (fun e => e ▸ h.1) (h.2 x), fun h => ⟨h d List.mem_cons_self, fun x hx => h x (List.mem_cons_of_mem _ hx)⟩⟩
theorem wts_append : ∀ a b : List PyData, wts (a ++ b) = wts a + wts b
  | [], b => by simp [wts]
  | x :: a, b => by
    rw [List.cons_append, wts, wts, wts_append a b]
    omega
theorem wts_mem : ∀ {ds : List PyData} {d : PyData}, d ∈ ds → wt d + 2 ≤ wts ds
  | x :: ds, d, h => by
    rw [wts]
    rcases List.mem_cons.mp h with rfl | h
    · omega
    · have := wts_mem h
      omega
theorem wts_take (ds : List PyData) (n : Nat) : wts (ds.take n) + wts (ds.drop n) = wts ds := by
  rw [← wts_append, List.take_append_drop]
theorem wts_len : ∀ ds : List PyData, 2 * ds.length ≤ wts ds
  | [] => Nat.le_refl _
  | d :: ds => by
    rw [wts, List.length_cons]
    have := wts_len ds
    omega
theorem wts_rev : ∀ ds : List PyData, wts ds.reverse = wts ds
  | [] => rfl
  | d :: ds => by
    rw [List.reverse_cons, wts_append, wts_rev ds, wts, wts, wts]
    omega
/-- data of a weight up to S and a depth up to k -/
structure Ok (S k : Nat) (d : PyData) : Prop where
  fi : fine d = true
  wt : wt d ≤ S
  dp : d.depth ≤ k
structure Oks (S k : Nat) (ds : List PyData) : Prop where
  fi : ∀ d ∈ ds, fine d = true
  wt : wts ds ≤ S
  dp : ∀ d ∈ ds, d.depth ≤ k
theorem Ok.mono {S k S' k' : Nat} {d : PyData} (h : Ok S k d) (a : S ≤ S') (b : k ≤ k') : Ok S' k' d := ⟨h.fi, Nat.le_trans h.wt a, Nat.le_trans h.dp b⟩
theorem Oks.mono {S k S' k' : Nat} {d : List PyData} (h : Oks S k d) (a : S ≤ S') (b : k ≤ k') : Oks S' k' d := ⟨h.fi, Nat.le_trans h.wt a, fun x hx => Nat.le_trans (h.dp x hx) b⟩
theorem Oks.tuple {S k : Nat} {ds : List PyData} (h : Oks S k ds) : Ok (S + 4) (k + 1) (.tuple ds) :=
  ⟨(fines_iff ds).mpr h.fi, by show 4 + wts ds ≤ S + 4; have := h.wt; omega, by rw [PyData.depth]; exact Nat.succ_le_succ ((depths_iff ds).mpr h.dp)⟩
theorem Oks.list {S k : Nat} {ds : List PyData} (h : Oks S k ds) : Ok (S + 4) (k + 1) (.list ds) :=
  ⟨(fines_iff ds).mpr h.fi, by show 4 + wts ds ≤ S + 4; have := h.wt; omega, by rw [PyData.depth]; exact Nat.succ_le_succ ((depths_iff ds).mpr h.dp)⟩
theorem Ok.items {S k : Nat} {ds : List PyData} (h : Ok S k (.tuple ds)) : Oks (S - 4) (k - 1) ds := by
  obtain ⟨h1, h2, h3⟩ := h
  rw [PyData.depth] at h3
  rw [Lb.wt] at h2
  exact ⟨(fines_iff ds).mp h1, by omega, (depths_iff ds).mp (by omega)⟩
theorem Oks.append {S T k : Nat} {a b : List PyData} (h : Oks S k a) (g : Oks T k b) : Oks (S + T) k (a ++ b) :=
  ⟨fun d hd => (List.mem_append.mp hd).elim (h.fi d) (g.fi d), by rw [wts_append]; have := h.wt; have := g.wt; omega, fun d hd => (List.mem_append.mp hd).elim (h.dp d) (g.dp d)⟩
theorem Oks.take {S k : Nat} {a : List PyData} (h : Oks S k a) (n : Nat) : Oks S k (a.take n) :=
  ⟨fun d hd => h.fi d (List.mem_of_mem_take hd), by have := wts_take a n; have := h.wt; omega, fun d hd => h.dp d (List.mem_of_mem_take hd)⟩
theorem Oks.drop {S k : Nat} {a : List PyData} (h : Oks S k a) (n : Nat) : Oks S k (a.drop n) :=
  ⟨fun d hd => h.fi d (List.mem_of_mem_drop hd), by have := wts_take a n; have := h.wt; omega, fun d hd => h.dp d (List.mem_of_mem_drop hd)⟩
theorem Oks.reverse {S k : Nat} {a : List PyData} (h : Oks S k a) : Oks S k a.reverse :=
  ⟨fun d hd => h.fi d (List.mem_reverse.mp hd), by rw [wts_rev]; exact h.wt, fun d hd => h.dp d (List.mem_reverse.mp hd)⟩
theorem Oks.one {S k : Nat} {d : PyData} (h : Ok S k d) : Oks (S + 2) k [d] :=
  ⟨fun x hx => by rw [List.mem_singleton.mp hx]; exact h.fi, by rw [wts, wts]; have := h.wt; omega, fun x hx => by rw [List.mem_singleton.mp hx]; exact h.dp⟩
theorem Oks.mem {S k : Nat} {a : List PyData} (h : Oks S k a) {d : PyData} (m : d ∈ a) : Ok S k d := ⟨h.fi d m, by have := wts_mem m; have := h.wt; omega, h.dp d m⟩
theorem Ok.shown {S k : Nat} {d : PyData} (h : Ok S k d) (hS : S ≤ 1000000) : d.shown.length ≤ sizeLine := by
  have h1 := shown_le d h.fi
  have h2 := h.wt
  rw [sizeLine_eq]
  omega
/-! ### xs == [] -/
def rEqE : R2 := fun x y H Q => ∃ (a b : Addr) (xs : List V), x = .ref a ∧ y = .ref b ∧ H a = some (.lst xs) ∧ H b = some (.lst []) ∧ Q (.bl xs.isEmpty) H
theorem op_eqE {X : Cx} (hu : X.A.units < cLine) : OpR X (compareOp .Eq) rEqE := by
  intro pins s σ H x y v u Q I rx ry h
  obtain ⟨a, b, xs, rfl, rfl, ea, eb, q⟩ := h
  cases rx
  cases ry
  obtain ⟨its, r, p, _⟩ := I.list (.inl (.inl ea))
  obtain ⟨its2, r2, p2, _⟩ := I.list (.inl (.inl eb))
  cases r2
  cases r with
  | nil => exact SeqAt.eq_listAt (e := fun _ => true) p.isList p2.isList rfl hu (fun j h1 _ => absurd h1 (Nat.not_lt_zero j)) ⟨.bl true, H, I, rfl, q⟩
  | cons r1 rr => exact SeqAt.eq_list_lengthsAt p.isList p2.isList rfl hu ⟨.bl false, H, I, rfl, q⟩
theorem dp_ints {K : PySem.W.Frag} {H : Hp} : ∀ ns : List Int, DpAll K H (ns.map V.int) (ns.map PyData.int)
  | [] => .nil
  | n :: ns => .cons (.int n) (dp_ints ns)
end Lb
set_option Elab.async false
set_option linter.all false
set_option maxRecDepth 100000
set_option maxHeartbeats 4000000
namespace Lb
open PySem PySem.Spec PyProof.Rows L2 RZ
/-! ### zip of three tuples -/
/-- three tuples, their items in new tuples -/
def ItzU (K : PySem.W.Frag) (a b c : Addr) : It :=
  ⟨fun i H => ∃ (xs ys zs : List V) (x y z : V), SqT K H a xs ∧ SqT K H b ys ∧ SqT K H c zs ∧ xs[i]? = some x ∧ ys[i]? = some y ∧ zs[i]? = some z,
    fun i H v H' => ∃ T x y z, v = .ref T ∧ H T = none ∧ H' = upd H T (.tup [x, y, z]) ∧ (∀ xs, SqT K H a xs → xs[i]? = some x) ∧ (∀ ys, SqT K H b ys → ys[i]? = some y) ∧ ∀ zs, SqT K H c zs → zs[i]? = some z,
    fun i H => ∃ xs ys zs : List V, SqT K H a xs ∧ SqT K H b ys ∧ SqT K H c zs ∧ i ≤ xs.length ∧ i ≤ ys.length ∧ i ≤ zs.length ∧ (i = xs.length ∨ i = ys.length ∨ i = zs.length)⟩
structure Apart3 (q TI TO i1 i2 i3 a b c : Addr) : Prop where
  sep : ZipSep3 q TI TO i1 i2 i3 [i1, a] [i2, b] [i3, c]
  n1 : a ≠ i1
  n2 : b ≠ i2
  n3 : c ≠ i3
theorem apart3 (n a b c : Nat) (ha : a < n) (hb : b < n) (hc : c < n) : Apart3 (n + 5) (n + 3) (n + 4) n (n + 1) (n + 2) a b c := by
  have t : ∀ {x y z : Nat}, x ≠ y → x ≠ z → x ∉ [y, z] := fun {x y z} h1 h2 h => by
    rcases List.mem_cons.mp h with h | h
    · exact h1 h
    · exact h2 (List.mem_singleton.mp h)
  have d : ∀ {x y : Nat}, (x < y ∨ y < x) → x ≠ y := fun {x y} h z => by omega
  exact ⟨{ TIz := d (by omega), TOz := d (by omega), TITO := d (by omega), TIi1 := d (by omega), mem1 := List.mem_cons_self, zf1 := t (d (by omega)) (d (by omega)), Tf1 := t (d (by omega)) (d (by omega)), TIi2 := d (by omega), mem2 := List.mem_cons_self, zf2 := t (d (by omega)) (d (by omega)), Tf2 := t (d (by omega)) (d (by omega)), TIi3 := d (by omega), mem3 := List.mem_cons_self, zf3 := t (d (by omega)) (d (by omega)), Tf3 := t (d (by omega)) (d (by omega)), sep1_2 := t (d (by omega)) (d (by omega)), sep1_3 := t (d (by omega)) (d (by omega)), sep2_1 := t (d (by omega)) (d (by omega)), sep2_3 := t (d (by omega)) (d (by omega)), sep3_1 := t (d (by omega)) (d (by omega)), sep3_2 := t (d (by omega)) (d (by omega)) }, d (by omega), d (by omega), d (by omega)⟩
theorem turn_zipU {P : Program} {w : World} {K : PySem.W.Frag} {elts : List Expr} {kk : Nat} {tpos : Pos} {a b c q TI TO i1 i2 i3 : Addr} (D : Apart3 q TI TO i1 i2 i3 a b c) :
    Turn P w K (.Tuple elts kk tpos) (ItzU K a b c) [q, TI, TO, i1, i2, i3] q (fun i h => IsZip h q TI TO .none ∧ IsTupOf3 h TI (.ref i1) (.ref i2) (.ref i3) ∧ (∃ x y z, IsTupOf3 h TO x y z) ∧ h.IsTupleIter i1 a i ∧ h.IsTupleIter i2 b i ∧ h.IsTupleIter i3 c i) where
  mem := by simp
  obj := fun i h st c hc => by
    obtain ⟨hz, hTI, ⟨x, y, z, hTO⟩, ⟨o1, e1, _, d1⟩, ⟨o2, e2, _, d2⟩, ⟨o3, e3, _, d3⟩⟩ := st
    have e' : c = q ∨ c = TI ∨ c = TO ∨ c = i1 ∨ c = i2 ∨ c = i3 := by simpa using hc
    rcases e' with k | k | k | k | k | k
    · rw [k]; exact ⟨_, hz, fun v u => nomatch u⟩
    · rw [k]; exact ⟨_, hTI, fun v u => nomatch u⟩
    · rw [k]; exact ⟨_, hTO, fun v u => nomatch u⟩
    · rw [k]; exact ⟨o1, e1, fun v u => by rw [d1] at u; cases u⟩
    · rw [k]; exact ⟨o2, e2, fun v u => by rw [d2] at u; cases u⟩
    · rw [k]; exact ⟨o3, e3, fun v u => by rw [d3] at u; cases u⟩
  keep := fun i h h' st k => by
    obtain ⟨hz, hTI, ⟨x, y, z, hTO⟩, h1, h2, h3⟩ := st
    exact ⟨k q (by simp) _ hz, k TI (by simp) _ hTI, ⟨x, y, z, k TO (by simp) _ hTO⟩, h1.at fun o u => k i1 (by simp) o u, h2.at fun o u => k i2 (by simp) o u, h3.at fun o u => k i3 (by simp) o u⟩
  item := by
    intro X hP hw hK hc i pins s σ H E I hf st hg
    subst hP hw hK
    obtain ⟨hz, hTI, ⟨x0, y0, z0, hTO⟩, h1, h2, h3⟩ := st
    obtain ⟨xs, ys, zs, x, y, z, hqx, hqy, hqz, hx, hy, hv⟩ := hg
    obtain ⟨its, rv, p, _⟩ := I.tuple hqx
    obtain ⟨its2, rv2, p2, _⟩ := I.tuple hqy
    obtain ⟨its3, rv3, p3, _⟩ := I.tuple hqz
    obtain ⟨u, hu, ru⟩ := rv.get hx
    obtain ⟨u2, hu2, ru2⟩ := rv2.get hy
    obtain ⟨u3, hu3, ru3⟩ := rv3.get hv
    have hzl : q < s.heap.objs.size := Heap.lt_size hz
    have l1 : i < its.toArray.size := by simpa using (List.getElem?_eq_some_iff.mp hu).1
    have l2 : i < its2.toArray.size := by simpa using (List.getElem?_eq_some_iff.mp hu2).1
    have l3 : i < its3.toArray.size := by simpa using (List.getElem?_eq_some_iff.mp hu3).1
    refine wpAny_pyNext_zipD3_item D.sep (Draws.tuple (A := X.A.in1) (I.ok.hd hc) i1 a D.n1 its.toArray) (Draws.tuple (A := X.A.in1) (I.ok.hd hc) i2 b D.n2 its2.toArray) (Draws.tuple (A := X.A.in1) (I.ok.hd hc) i3 c D.n3 its3.toArray)
      hz hTI hTO ⟨h1, p⟩ ⟨h2, p2⟩ ⟨h3, p3⟩ l1 l2 l3 fun x1 x2 x3 h' tk y1 y2 y3 z' TO' s1' s2' s3' hT hsz hk => ?_
    have g1 : x1 = u := Option.some.inj (y1.symm.trans (by simpa using hu))
    have g2 : x2 = u2 := Option.some.inj (y2.symm.trans (by simpa using hu2))
    have g3 : x3 = u3 := Option.some.inj (y3.symm.trans (by simpa using hu3))
    subst g1 g2 g3
    refine ⟨_, rfl, wpAny_letOwnedTupleGo_zip (s := { s with heap := h', toks := tk }) z' fun h'' z'' sb => ?_⟩
    have hT2 : h''.get? s.heap.objs.size = some { cls := .type "tuple", data := .seq #[x1, x2, x3] } := (sb.2 _ (Nat.ne_of_gt hzl)).trans hT
    have new : ObjOk X.prog X.w (upd H s.heap.objs.size (.tup [x, y, z])) h'' s.heap.objs.size (.tup [x, y, z]) :=
      ⟨by show 3 ≤ sizeLine; decide, [x1, x2, x3], .cons ru (.cons ru2 (.cons ru3 .nil)), ⟨_, hT2, rfl, _, rfl⟩⟩
    have I1 : Inv X pins σ (upd H s.heap.objs.size (.tup [x, y, z])) { s with heap := h'', toks := tk } :=
      I.turnedNew (t' := tk) (ch := [q, TI, TO, i1, i2, i3]) (fun c o hb u => (sb.2 c (fun q' => hb (by simp [q']))).trans (hk c o (fun q' => hb (by simp [q'])) (fun q' => hb (by simp [q'])) (fun q' => hb (by simp [q'])) (fun q' => hb (by simp [q'])) (fun q' => hb (by simp [q'])) u)) hf (Nat.le_refl _) new
    refine ⟨.ref s.heap.objs.size, _, I1, rfl, ⟨_, x, y, z, rfl, I.hok.fresh (Nat.le_refl _), rfl, fun l hl => by rw [I.tuple_inj hl hqx]; exact hx, fun l hl => by rw [I.tuple_inj hl hqy]; exact hy, fun l hl => by rw [I.tuple_inj hl hqz]; exact hv⟩, ⟨z'', ?_, ⟨x1, x2, x3, ?_⟩, ?_, ?_, ?_⟩, fun c hcm => ?_⟩
    · exact (sb.2 _ D.sep.TIz).trans (hk _ _ D.sep.TIz D.sep.TITO D.sep.TIi1 D.sep.TIi2 D.sep.TIi3 hTI)
    · exact (sb.2 _ D.sep.TOz).trans TO'
    · exact s1'.1.at fun o u => (sb.2 _ D.sep.zi1.symm).trans u
    · exact s2'.1.at fun o u => (sb.2 _ D.sep.zi2.symm).trans u
    · exact s3'.1.at fun o u => (sb.2 _ D.sep.zi3.symm).trans u
    · have hlt : c < s.heap.objs.size := by
        have e' : c = q ∨ c = TI ∨ c = TO ∨ c = i1 ∨ c = i2 ∨ c = i3 := by simpa using hcm
        rcases e' with k | k | k | k | k | k
        · rw [k]; exact hzl
        · rw [k]; exact Heap.lt_size hTI
        · rw [k]; exact Heap.lt_size hTO
        · rw [k]; obtain ⟨_, e1, _⟩ := h1; exact Heap.lt_size e1
        · rw [k]; obtain ⟨_, e2, _⟩ := h2; exact Heap.lt_size e2
        · rw [k]; obtain ⟨_, e3, _⟩ := h3; exact Heap.lt_size e3
      rw [upd_ne (Nat.ne_of_lt hlt)]
      exact (hf c hcm).1
  done := by
    intro X hP hw hK hc i pins s σ H E I hf st hg
    subst hP hw hK
    obtain ⟨hz, hTI, ⟨x0, y0, z0, hTO⟩, h1, h2, h3⟩ := st
    obtain ⟨xs, ys, zs, hqx, hqy, hqz, b1, b2, b3, hend⟩ := hg
    obtain ⟨its, rv, p, _⟩ := I.tuple hqx
    obtain ⟨its2, rv2, p2, _⟩ := I.tuple hqy
    obtain ⟨its3, rv3, p3, _⟩ := I.tuple hqz
    have l1 : its.toArray.size = xs.length := by simpa using rv.length.symm
    have l2 : its2.toArray.size = ys.length := by simpa using rv2.length.symm
    have l3 : its3.toArray.size = zs.length := by simpa using rv3.length.symm
    exact wpAny_pyNext_zipD3_end D.sep (Draws.tuple (A := X.A.in1) (I.ok.hd hc) i1 a D.n1 its.toArray) (Draws.tuple (A := X.A.in1) (I.ok.hd hc) i2 b D.n2 its2.toArray) (Draws.tuple (A := X.A.in1) (I.ok.hd hc) i3 c D.n3 its3.toArray)
      hz hTI hTO ⟨h1, p⟩ ⟨h2, p2⟩ ⟨h3, p3⟩ (by omega) (by omega) (by omega) (by omega) fun h' tk hk => ⟨rfl, I.turnedL (t' := tk) (ch := [q, TI, TO, i1, i2, i3]) (fun c o hb u =>
      hk c o (fun q' => hb (by simp [q'])) (fun q' => hb (by simp [q'])) (fun q' => hb (by simp [q'])) (fun q' => hb (by simp [q'])) (fun q' => hb (by simp [q'])) u) hf⟩
  self := fun A i s Q E st h => wpAny_pyIter_zip st.1 h
def iZipU (K : PySem.W.Frag) (ta : TA) : TI := fun σ H R => ta σ H fun vs H1 => ∃ a b c xs ys zs, vs = [.ref a, .ref b, .ref c] ∧ SqT K H1 a xs ∧ SqT K H1 b ys ∧ SqT K H1 c zs ∧ R (ItzU K a b c) H1
theorem iter_at {h : Heap} {i a : Addr} (e : h.get? i = some { cls := .type "tuple_iterator", data := .fields #[.ref a, .int 0 0] }) : h.IsTupleIter i a 0 := ⟨_, e, rfl, rfl⟩
theorem pi_zip3 {X : Cx} {e e2 e3 : Expr} {ta : TA} {p pos tpos : Pos} {elts : List Expr} {kk : Nat} (hg : Gl X "zip") (hm : X.mg "zip" = none) (ha : PA X [e, e2, e3] ta)
    (hs : starEach [e, e2, e3] X.env = (false, eval e X.env) :: starEach [e2, e3] X.env := by rfl) (hpl : (backTo pos (starEach [e2, e3] X.env)).any (·.1) = false := by rfl) :
    PI X (.Tuple elts kk tpos) (.Call (.Name "zip" p) [e, e2, e3] [] pos) (iZipU X.K ta) := by
  refine ⟨fun pins s σ H R I h => ?_⟩
  refine Call_ (ld_blt I hg hm PyProof.Rows.boot_zip (PyProof.Rows.callWith_type1 (thn (ha.run pos pins s σ H _ I h) fun us s1 ⟨vs, H1, I1, r1, q1⟩ => ?_) hs hpl))
  obtain ⟨a, b, c, xs, ys, zs, ex, hqx, hqy, hqz, q⟩ := q1
  subst ex
  cases r1 with
  | cons r rr =>
    cases rr with
    | cons r' rr =>
      cases rr with
      | cons r'' rr =>
        cases rr
        cases r
        cases r'
        cases r''
        have fresh6 : ∀ c, c ∈ [s1.heap.objs.size + 5, s1.heap.objs.size + 3, s1.heap.objs.size + 4, s1.heap.objs.size, s1.heap.objs.size + 1, s1.heap.objs.size + 2] → FpOk X pins H1 c := fun c hcm => by
          have e' : c = s1.heap.objs.size + 5 ∨ c = s1.heap.objs.size + 3 ∨ c = s1.heap.objs.size + 4 ∨ c = s1.heap.objs.size ∨ c = s1.heap.objs.size + 1 ∨ c = s1.heap.objs.size + 2 := by simpa using hcm
          have hle : s1.heap.objs.size ≤ c := by
            rcases e' with z | z | z | z | z | z
            · rw [z]; exact Nat.le_add_right _ _
            · rw [z]; exact Nat.le_add_right _ _
            · rw [z]; exact Nat.le_add_right _ _
            · rw [z]; exact Nat.le_refl _
            · rw [z]; exact Nat.le_add_right _ _
            · rw [z]; exact Nat.le_add_right _ _
          exact I1.fpOk hle (I1.hok.fresh hle)
        obtain ⟨its, rv, p1, _⟩ := I1.tuple hqx
        obtain ⟨its2, rv2, p2, _⟩ := I1.tuple hqy
        obtain ⟨its3, rv3, p3, _⟩ := I1.tuple hqz
        obtain ⟨o1, ho1, _⟩ := id p1
        obtain ⟨o2, ho2, _⟩ := id p2
        obtain ⟨o3, ho3, _⟩ := id p3
        refine zip_begins3 (begins_tuple a its.toArray) (begins_tuple b its2.toArray) (begins_tuple c its3.toArray) p1 p2 p3 fun h' hz hTI hTO h1 h2 h3 hsz hk => wpAny_pyIter_zip hz ?_
        have I2 : Inv X pins σ H1 { s1 with heap := h' } := I1.kept (t' := s1.toks) hk
        exact ⟨s1.heap.objs.size + 5, [s1.heap.objs.size + 5, s1.heap.objs.size + 3, s1.heap.objs.size + 4, s1.heap.objs.size, s1.heap.objs.size + 1, s1.heap.objs.size + 2], _, _, H1, rfl, I2, turn_zipU (apart3 s1.heap.objs.size a b c (Heap.lt_size ho1) (Heap.lt_size ho2) (Heap.lt_size ho3)), ⟨hz, hTI, ⟨_, _, _, hTO⟩, iter_at h1, iter_at h2, iter_at h3⟩, fresh6, q⟩
theorem lc_zipU {K : PySem.W.Frag} {a b c : Addr} {xs ys zs : List V} {g : TG} {tt : TT} {te : TE} {vs : List Nat} {σ : L2.St} {H1 : Hp} {D : Addr} {Qd : Hp → Prop} (hl : xs.length = ys.length) (hl2 : xs.length = zs.length) (Pv : Nat → Hp → Prop) (h0 : Pv 0 (upd H1 D (.lst [])))
    (hq : ∀ i H, Pv i H → SqT K H a xs ∧ SqT K H b ys ∧ SqT K H c zs)
    (hs : ∀ (i : Nat) (x y z : V) (T : Addr) (H : Hp), xs[i]? = some x → ys[i]? = some y → zs[i]? = some z → Pv i H → H T = none → g (.ref T) (wipe σ vs) (upd H T (.tup [x, y, z])) fun σ2 H2 => wipe σ2 vs = wipe σ vs ∧ tt σ2 H2 fun b H3 =>
      if b = true then te σ2 H3 fun y H4 => ∃ acc, H4 D = some (.lst acc) ∧ acc.length < sizeLine ∧ Pv (i + 1) (upd H4 D (.lst (acc ++ [y]))) else Pv (i + 1) H3) (hd : ∀ H, Pv xs.length H → Qd H) : LcW (ItzU K a b c) g tt te vs σ H1 D Qd := by
  refine ⟨fun i m H => m = xs.length - i ∧ i ≤ xs.length ∧ Pv i H, ⟨xs.length, rfl, Nat.zero_le _, h0⟩, ?_⟩
  rintro i m H ⟨rfl, hi, p⟩
  obtain ⟨qx, qy, qz⟩ := hq i H p
  by_cases hlt : i < xs.length
  · refine .inr ⟨⟨xs, ys, zs, _, _, _, qx, qy, qz, List.getElem?_eq_getElem hlt, List.getElem?_eq_getElem (by omega), List.getElem?_eq_getElem (by omega)⟩, Pv (i + 1), fun H' p' => ⟨xs.length - (i + 1), by omega, rfl, hlt, p'⟩, ?_⟩
    rintro v H' ⟨T, x', y', z', rfl, hT, rfl, f1, f2, f3⟩
    exact hs i x' y' z' T H (f1 xs qx) (f2 ys qy) (f3 zs qz) p hT
  · obtain rfl : i = xs.length := by omega
    exact .inl ⟨⟨xs, ys, zs, qx, qy, qz, Nat.le_refl _, by omega, by omega, .inl rfl⟩, hd H p⟩
end Lb
set_option Elab.async false
set_option linter.all false
set_option maxRecDepth 100000
set_option maxHeartbeats 4000000
namespace Lb
open PySem PySem.Spec PyProof.Rows L2 RZ
section
variable {P : Program} {w : World} {K : PySem.W.Frag} {mg : Str → Option Value} {base : Heap}
def spDraw : Sp := fun vs H Q _ => ∃ (d c r : Addr) (n m : Nat), vs = [.ref d, .int (m : Int)] ∧ Dk H d c r n ∧ n < 2 ^ 40 ∧ 0 < m ∧ m < 1000000 ∧ ∀ (H' : Hp) (v : Nat), v < m → Dk H' d c r (n + 1) → Kp d r H H' → Q (.int (v : Int)) H'
def spDeck (K : PySem.W.Frag) : Sp := fun vs H Q _ => ∃ (a : Addr) (ns : List Int), vs = [.ref a] ∧ SqL K H a (ns.map V.int) ∧ ns.length ≤ 63 ∧ ∀ (H' : Hp) (d c r : Addr), Same H H' → H d = none → H c = none → H r = none → Dk H' d c r 0 → Q (.ref d) H'
theorem cut63 (ns : List Int) (h : ns.length ≤ 63) : cutV (ns.map V.int) none (some 63) = ns.map V.int := by
  unfold cutV
  rw [HT.sIx_none, show HT.sIx (ns.map V.int).length (ns.map V.int).length (some 63) = min 63 (ns.map V.int).length from HT.sIx_nat _ _ 63]
  rw [List.drop_zero]
  refine List.take_of_length_le ?_
  rw [List.length_map]
  omega
def spPlus (K : PySem.W.Frag) : Sp := fun vs H Q _ => ∃ (a b : Addr) (x y : List Int), vs = [.ref a, .ref b] ∧ SqT K H a (x.map V.int) ∧ SqT K H b (y.map V.int) ∧ x.length = y.length ∧ x.length ≤ 1000 ∧
  ∀ (H' : Hp) (p : Addr), Same H H' → H p = none → H' p = some (.tup ((List.zipWith (· + ·) x y).map V.int)) → Q (.ref p) H'
theorem same_tup {K : PySem.W.Frag} {H H' : Hp} {a : Addr} {xs : List V} (e : Same H H') (h : SqT K H a xs) : SqT K H' a xs := by
  rcases h with (h | ⟨o, h⟩) | h
  · exact .inl (.inl (e _ _ h))
  · exact .inl (.inr ⟨o, e _ _ h⟩)
  · exact .inr h
def spSide : Sp := fun vs H Q _ => ∃ (d c r : Addr) (n g m : Nat), vs = [.ref d, .int (g : Int), .int (m : Int)] ∧ Dk H d c r n ∧ n < 2 ^ 39 ∧ 0 < g ∧ g ≤ 1000 ∧ m ≤ 1000 ∧
  ∀ (H' : Hp) (p : Addr) (b : List Int), Side g m b → H p = none → H' p = some (.tup (b.map V.int)) → Dk H' d c r (n + 1 + m) → Kp d r H H' → Q (.ref p) H'
theorem kp_free {H H' : Hp} {d c r : Addr} {n : Nat} (k : Kp d r H H') (dk : Dk H' d c r n) {p : Addr} (e : H' p = none) : H p = none := by
  cases q : H p with
  | none => rfl
  | some o =>
    have := dk.nd e
    rw [k _ _ this.1 this.2.1 q] at e
    cases e
def spTrade : Sp := fun vs H Q _ => ∃ (R : Rgn) (d c r : Addr) (n g m : Nat), vs = [.ref d, .int (g : Int), .int (m : Int)] ∧ Dk H d c r n ∧ n < 2 ^ 38 ∧ 0 < g ∧ g ≤ 100 ∧ m ≤ 4 ∧ Rg R H d r ∧
  ∀ (H' : Hp) (v : V) (t : Trd), TrdOk g m t → Dat R H' v (trdD t) → Dk H' d c r (n + 20) → Kp d r H H' → Q v H'
theorem two_sides {D : Ends} {σ : L2.St} {H : Hp} {d c r : Addr} {n g m : Nat} {R : Rgn} (h0 : σ[0]? = some (some (.ref d))) (h1 : σ[1]? = some (some (.int (g : Int)))) (h2 : σ[2]? = some (some (.int (m : Int))))
    (dk : Dk H d c r n) (hn : n < 2 ^ 38 + 1) (hg : 0 < g) (hg2 : g ≤ 100) (hm : m ≤ 4) (rg : Rg R H d r)
    (q : ∀ (H' : Hp) (v : V) (t : Trd), TrdOk g m t → Dat R H' v (trdD t) → Dk H' d c r (n + 10) → Kp d r H H' → D.rt v H') :
    tRet (tTup (tCons (tCall spSide [] E0 (tCons (tVar 0) (tCons (tVar 1) (tCons (tVar 2) tNil)))) (tCons (tCall spSide [] E0 (tCons (tVar 0) (tCons (tVar 1) (tCons (tVar 2) tNil)))) tNil))) D σ H := by
  refine ⟨_, h0, _, h1, _, h2, d, c, r, n, g, m, rfl, dk, by omega, hg, by omega, by omega, fun H1 p1 b1 sd1 f1 e1 dk1 k1 => ?_⟩
  refine ⟨_, h0, _, h1, _, h2, d, c, r, n + 1 + m, g, m, rfl, dk1, by omega, hg, by omega, by omega, fun H2 p2 b2 sd2 f2 e2 dk2 k2 => ?_⟩
  have nd := dk.nd f1
  have e1' := k2 _ _ nd.1 nd.2.1 e1
  refine ⟨(by show 2 ≤ sizeLine; decide), fun p3 z3 => ?_⟩
  have rg2 := (rg.kp k1 dk1).kp k2 dk2
  have sm := same_upd (o := .tup [V.ref p1, V.ref p2]) z3
  refine q _ _ (b1, b2) ⟨sd1, sd2⟩ (.tup (rg2.new _ z3) upd_same (.cons (Dat.mkBag (rg.new _ f1) (sm _ _ e1')) (.cons (Dat.mkBag ((rg.kp k1 dk1).new _ f2) (sm _ _ e2)) .nil))) ((dk2.same sm).mono (by omega)) ((k1.trans k2).trans (Kp.of sm))
def besideL (g : Nat) (at_ : Nat) (many : Int) : List Int := (List.range g).map fun (k : Nat) => many * (if decide (V.int ((0 : Int) + (k : Int)) = V.int (at_ : Int)) = true then 1 else 0)
theorem beside_mem {g a : Nat} {m : Int} (hm : 0 ≤ m) : ∀ x ∈ besideL g a m, 0 ≤ x ∧ x ≤ m := by
  intro x hx
  obtain ⟨k, _, rfl⟩ := List.mem_map.mp hx
  by_cases h : V.int ((0 : Int) + (k : Int)) = V.int (a : Int)
  · rw [decide_eq_true h, if_pos rfl]
    omega
  · rw [decide_eq_false h, if_neg Bool.false_ne_true]
    omega
theorem beside_sum {a : Nat} {m : Int} (hm : 0 ≤ m) : ∀ g : Nat, (besideL g a m).sum = if a < g then m else 0
  | 0 => by
    rw [if_neg (Nat.not_lt_zero _)]
    rfl
  | g + 1 => by
    unfold besideL
    rw [List.range_succ, List.map_append, List.sum_append]
    have ih := beside_sum hm g (a := a)
    unfold besideL at ih
    rw [ih, List.map_singleton, List.sum_cons, List.sum_nil]
    by_cases h : a = g
    · subst h
      rw [if_neg (Nat.lt_irrefl _), if_pos (Nat.lt_succ_self _), decide_eq_true (by simp), if_pos rfl]
      omega
    · rw [decide_eq_false (fun z => h (by have := V.int.inj z; omega)), if_neg Bool.false_ne_true]
      by_cases h2 : a < g
      · rw [if_pos h2, if_pos (by omega)]
        omega
      · rw [if_neg h2, if_neg (by omega)]
        omega
theorem beside_len (g a : Nat) (m : Int) : (besideL g a m).length = g := by
  unfold besideL
  rw [List.length_map, List.length_range]
theorem side_plus {g k a : Nat} {m : Int} {b : List Int} (s : Side g k b) (h1 : 0 ≤ m) (h2 : (k : Int) + m ≤ 3) : Side g 3 (List.zipWith (· + ·) b (besideL g a m)) := by
  have nn : ∀ x ∈ b, 0 ≤ x := fun x hx => (s.amt x hx).1
  refine ⟨?_, fun z hz => ?_, ?_⟩
  · rw [List.length_zipWith, s.len, beside_len, Nat.min_self]
  · obtain ⟨x, hx, y, hy, rfl⟩ := mem_zip hz
    have a1 := le_sum nn x hx
    have a2 := s.tot
    have a3 := beside_mem h1 y hy
    have a4 := nn x hx
    omega
  · rw [sum_zip (by rw [s.len, beside_len]), beside_sum h1]
    have a2 := s.tot
    split <;> omega
theorem side_beside {g a : Nat} {m : Int} (h1 : 0 ≤ m) (h2 : m ≤ 3) : Side g 3 (besideL g a m) := by
  refine ⟨beside_len _ _ _, fun x hx => ?_, ?_⟩
  · have := beside_mem h1 x hx
    omega
  · rw [beside_sum h1]
    split <;> omega
def wo (R : Rgn) (D : Addr) : Rgn := fun b => R b ∧ b ≠ D
theorem wo_on {R : Rgn} {D : Addr} {H : Hp} {o : HO} : On (wo R D) H (upd H D o) := fun b u hb e => by
  rw [upd_ne hb.2]
  exact e
theorem wo_rg {R : Rgn} {H : Hp} {d r D : Addr} {o : HO} (g : Rg R H d r) (e : H D = some o) : Rg (wo R D) H d r := ⟨fun z => g.nd z.1, fun z => g.nr z.1, fun p hp => ⟨g.new p hp, (ne_of_none e hp).symm⟩⟩
def spMarket : Sp := fun vs H Q _ => ∃ (R : Rgn) (d c r : Addr) (n g tr m : Nat), vs = [.ref d, .int (g : Int), .int (tr : Int), .int (m : Int)] ∧ Dk H d c r n ∧ n < 2 ^ 37 ∧ 0 < g ∧ g ≤ 100 ∧ tr ≤ 4 ∧ m ≤ 4 ∧ Rg R H d r ∧
  ∀ (H' : Hp) (v : V) (ts : List Trd), ts.length ≤ tr → (∀ t ∈ ts, TrdOk g m t) → Dat R H' v (mktD g ts) → Dk H' d c r (n + 100) → Kp d r H H' → Q v H'
def tyOf : PyData → String
  | .none => "NoneType"
  | .bool _ => "bool"
  | .int _ => "int"
  | .str _ => "str"
  | .list _ => "list"
  | .tuple _ => "tuple"
  | .dict _ => "dict"
theorem dat_ty {K : PySem.W.Frag} {R : Rgn} {H : Hp} {v : V} {d : PyData} (h : Dat R H v d) : TyX K H v (.type (tyOf d)) := by
  cases h with
  | non => exact .base .non
  | bl b => exact .base (.bl b)
  | int i => exact .base (.int i)
  | str x => exact .base (.str x)
  | tup ra e t => exact .base (.tup e)
  | lst ra e t => exact .base (.lst e)
  | emp ra e => exact .base (.dK e)
def whole : PyData → Bool
  | .int _ => true
  | _ => false
def nn : PyData → Bool
  | .int i => decide (0 ≤ i)
  | _ => false
theorem tup_at0 {H : Hp} {a : Addr} {x y : V} {K : PySem.W.Frag} (e : H a = some (.tup [x, y])) : SqT K H a [x, y] := .inl (.inl e)
theorem np {σ : L2.St} {H : Hp} {Q : Option Int → Hp → Prop} (h : Q none H) : tNoPart σ H Q := h
end
end Lb
set_option Elab.async false
set_option linter.all false
set_option maxRecDepth 100000
set_option maxHeartbeats 4000000
namespace Lb
open PySem PySem.Spec PyProof.Rows L2 RZ
/-! ### values of which only the size is known -/
def Vd (R : Rgn) (H : Hp) (S D : Nat) (v : V) : Prop := ∃ x, Dat R H v x ∧ Ok S D x
def Pk (R : Rgn) (H : Hp) (S D : Nat) (vs : List V) : Prop := ∃ ds, Dats R H vs ds ∧ Oks S D ds
structure Tp (R : Rgn) (H : Hp) (S D : Nat) (a : Addr) (xs : List V) : Prop where
  ra : R a
  at_ : H a = some (.tup xs)
  pk : Pk R H S D xs
section
variable {R : Rgn} {H H' : Hp} {S T D : Nat} {v : V} {a b p : Addr} {xs ys vs : List V} {K : PySem.W.Frag} {Q : VK}
theorem Vd.on (h : Vd R H S D v) (k : On R H H') : Vd R H' S D v := let ⟨x, d, o⟩ := h; ⟨x, d.on k, o⟩
theorem Vd.same (h : Vd R H S D v) (k : Same H H') : Vd R H' S D v := h.on (On.of k)
theorem Vd.mono {S' D' : Nat} (h : Vd R H S D v) (a : S ≤ S') (b : D ≤ D') : Vd R H S' D' v := let ⟨x, d, o⟩ := h; ⟨x, d, o.mono a b⟩
theorem Pk.on (h : Pk R H S D vs) (k : On R H H') : Pk R H' S D vs := let ⟨x, d, o⟩ := h; ⟨x, d.on k, o⟩
theorem Pk.same (h : Pk R H S D vs) (k : Same H H') : Pk R H' S D vs := h.on (On.of k)
theorem Pk.mono {S' D' : Nat} (h : Pk R H S D vs) (a : S ≤ S') (b : D ≤ D') : Pk R H S' D' vs := let ⟨x, d, o⟩ := h; ⟨x, d, o.mono a b⟩
theorem Pk.nil : Pk R H 0 D [] := ⟨[], .nil, (fun _ z => (List.not_mem_nil z).elim), Nat.le_refl _, (fun _ z => (List.not_mem_nil z).elim)⟩
theorem Pk.cons (h : Vd R H S D v) (t : Pk R H T D vs) : Pk R H (S + 2 + T) D (v :: vs) := by
  obtain ⟨x, d, o⟩ := h
  obtain ⟨ds, ts, os⟩ := t
  refine ⟨x :: ds, .cons d ts, ?_⟩
  have := (Oks.one o).append os
  exact this
theorem Pk.append (h : Pk R H S D xs) (t : Pk R H T D ys) : Pk R H (S + T) D (xs ++ ys) := by
  obtain ⟨ds, d, o⟩ := h
  obtain ⟨es, e, o2⟩ := t
  exact ⟨ds ++ es, d.append e, o.append o2⟩
theorem Pk.take (h : Pk R H S D xs) (n : Nat) : Pk R H S D (xs.take n) := let ⟨ds, d, o⟩ := h; ⟨ds.take n, d.take n, o.take n⟩
theorem Pk.drop (h : Pk R H S D xs) (n : Nat) : Pk R H S D (xs.drop n) := let ⟨ds, d, o⟩ := h; ⟨ds.drop n, d.drop n, o.drop n⟩
theorem Pk.len (h : Pk R H S D xs) : 2 * xs.length ≤ S := by
  obtain ⟨ds, d, o⟩ := h
  rw [d.length]
  exact Nat.le_trans (wts_len ds) o.wt
theorem Pk.rep (h : Pk R H S D xs) : ∀ n : Nat, Pk R H (n * S) D (List.replicate n xs).flatten
  | 0 => by
    rw [Nat.zero_mul]
    exact Pk.nil
  | n + 1 => by
    rw [List.replicate_succ, List.flatten_cons, Nat.succ_mul, Nat.add_comm]
    exact h.append (Pk.rep h n)
theorem Pk.get (h : Pk R H S D xs) {i : Nat} (e : xs[i]? = some v) : Vd R H S D v := by
  obtain ⟨ds, d, o⟩ := h
  obtain ⟨x, hx, dx⟩ := d.get' e
  exact ⟨x, dx, o.mem (List.mem_of_getElem? hx)⟩
theorem Vd.int (i : Int) (h : decide ((PyData.int i).shown.length ≤ 12) = true) (h2 : decide (i.natAbs.log2 < 1920) = true) : Vd R H 12 D (.int i) := ⟨.int i, .int i, h2, of_decide_eq_true h, by rw [PyData.depth]; exact Nat.zero_le _⟩
theorem Vd.bl (b : Bool) : Vd R H 12 D (.bl b) := ⟨.bool b, .bl b, rfl, by show 5 ≤ 12; decide, by rw [PyData.depth]; exact Nat.zero_le _⟩
theorem Vd.non : Vd R H 12 D .non := ⟨.none, .non, rfl, by show 4 ≤ 12; decide, by rw [PyData.depth]; exact Nat.zero_le _⟩
theorem Vd.str (x : Str) (h : decide ((reprText x).length ≤ 12) = true) : Vd R H 12 D (.str x) := ⟨.str x, .str x, rfl, of_decide_eq_true h, by rw [PyData.depth]; exact Nat.zero_le _⟩
theorem Vd.nat {g : Nat} (h : g ≤ 9) : Vd R H 12 D (.int (g : Int)) := by
  match g, h with
  | 0, _ | 1, _ | 2, _ | 3, _ | 4, _ | 5, _ | 6, _ | 7, _ | 8, _ | 9, _ => exact Vd.int _ (by decide +kernel) (by decide +kernel)
theorem Tp.val (t : Tp R H S D a xs) : Vd R H (S + 4) (D + 1) (.ref a) := by
  obtain ⟨ds, d, o⟩ := t.pk
  exact ⟨.tuple ds, .tup t.ra t.at_ d, o.tuple⟩
theorem Tp.on (t : Tp R H S D a xs) (k : On R H H') : Tp R H' S D a xs := ⟨t.ra, k _ _ t.ra t.at_, t.pk.on k⟩
theorem Tp.same (t : Tp R H S D a xs) (k : Same H H') : Tp R H' S D a xs := t.on (On.of k)
theorem Tp.new (h : Pk R H S D xs) (n : H p = none) (r : R p) : Tp R (upd H p (.tup xs)) S D p xs := ⟨r, upd_same, h.same (same_upd n)⟩
end
/-! ### sizes of markets and of what is told -/
theorem nat_ok {g : Nat} (h : g ≤ 9) : Ok 12 0 (.int (g : Int)) := by
  refine ⟨?_, ?_, by rw [PyData.depth]; exact Nat.le_refl _⟩
  · match g, h with
    | 0, _ | 1, _ | 2, _ | 3, _ | 4, _ | 5, _ | 6, _ | 7, _ | 8, _ | 9, _ => decide +kernel
  · match g, h with
    | 0, _ | 1, _ | 2, _ | 3, _ | 4, _ | 5, _ | 6, _ | 7, _ | 8, _ | 9, _ => decide +kernel
end Lb
set_option Elab.async false
set_option linter.all false
set_option maxRecDepth 100000
set_option maxHeartbeats 4000000
namespace Lb
open PySem PySem.Spec PyProof.Rows L2 RZ
section
variable {P : Program} {w : World} {K : PySem.W.Frag} {mg : Str → Option Value} {base : Heap}
theorem upd_dk {H : Hp} {d c r L : Addr} {n : Nat} {o : HO} (dk : Dk H d c r n) (h1 : L ≠ d) (h2 : L ≠ r) (h3 : L ≠ c) : Dk (upd H L o) d c r n := by
  obtain ⟨t, cs, rs, g1, g2, g3, g4, g5, g6, g7, w1, w2, w3⟩ := dk
  exact ⟨t, cs, rs, g1, g2, g3, g4, g5, g6, g7, by rw [upd_ne h1.symm]; exact w1, by rw [upd_ne h3.symm]; exact w2, by rw [upd_ne h2.symm]; exact w3⟩
theorem ne_same {u : Str} {H : Hp} {Q : Bool → Hp → Prop} (h : Q false H) : rNe (.str u) (.str u) H fun x H' => ∃ k, x = .bl k ∧ Q k H' := ⟨rfl, false, by simp, h⟩
theorem iteF' {A B : Prop} (h : B) : if false = true then A else B := h
def R0 (d r : Addr) : Rgn := fun b => b ≠ d ∧ b ≠ r
theorem rg0 {H : Hp} {d c r : Addr} {n : Nat} (dk : Dk H d c r n) : Rg (R0 d r) H d r := ⟨fun z => z.1 rfl, fun z => z.2 rfl, fun p e => ⟨(dk.nd e).1, (dk.nd e).2.1⟩⟩
def spLaw (K : PySem.W.Frag) : Sp := fun vs H Q _ => ∃ (a : Addr) (ns : List Int), vs = [.ref a] ∧ SqL K H a (ns.map V.int) ∧ ns.length ≤ 63 ∧ ∀ H', Q (.bl true) H'
end
end Lb
set_option Elab.async false
set_option linter.all false
set_option maxRecDepth 100000
set_option maxHeartbeats 4000000
namespace Lb
open PySem PySem.Spec PyProof.Rows L2 RZ
/-! ### what a step leaves -/
def geB (x y : List Int) : Bool := (List.zipWith (fun a b => decide (a ≥ b)) x y).all id
abbrev minusL (x y : List Int) : List Int := List.zipWith (· - ·) x y
abbrev plusL (x y : List Int) : List Int := List.zipWith (· + ·) x y
def exch (x t p : List Int) : Option (List Int) := if geB x t = true then some (plusL (minusL x t) p) else none
def behind (ts : List Trd) (x : List Int) (k : Nat) (b : Bool) : Option (List Int) :=
  match ts[k]? with
  | none => none
  | some t => if b = true then exch x t.2 t.1 else exch x t.1 t.2
def optD : Option (List Int) → PyData
  | none => .none
  | some b => bagD b
theorem zipW_take {α : Type} {f : Int → Int → α} : ∀ {a b : List Int} {i : Nat} {x y : Int}, a[i]? = some x → b[i]? = some y → (List.zipWith f a b).take (i + 1) = (List.zipWith f a b).take i ++ [f x y]
  | x' :: a, y' :: b, 0, x, y, h1, h2 => by
    have e1 : x' = x := Option.some.inj h1
    have e2 : y' = y := Option.some.inj h2
    rw [e1, e2]
    rfl
  | x' :: a, y' :: b, i + 1, x, y, h1, h2 => by
    rw [List.zipWith_cons_cons, List.take_succ_cons, List.take_succ_cons, zipW_take (i := i) (x := x) (y := y) h1 h2]
    rfl
theorem zipW_at {f : Int → Int → Int} {a b : List Int} {i : Nat} {x y : Int} (h1 : a[i]? = some x) (h2 : b[i]? = some y) : (List.zipWith f a b)[i]? = some (f x y) := by
  rw [List.getElem?_zipWith, h1, h2]
theorem geB_cons (a b : Int) (x y : List Int) : geB (a :: x) (b :: y) = (decide (a ≥ b) && geB x y) := rfl
theorem geB_take : ∀ {x y : List Int} {i : Nat} {u v : Int}, x[i]? = some u → y[i]? = some v → geB (x.take (i + 1)) (y.take (i + 1)) = (geB (x.take i) (y.take i) && decide (u ≥ v))
  | a :: x, b :: y, 0, u, v, h1, h2 => by
    have e1 : a = u := Option.some.inj h1
    have e2 : b = v := Option.some.inj h2
    subst e1 e2
    show (decide (a ≥ b) && true) = (true && decide (a ≥ b))
    rw [Bool.and_true, Bool.true_and]
  | a :: x, b :: y, i + 1, u, v, h1, h2 => by
    rw [List.take_succ_cons, List.take_succ_cons, geB_cons, geB_take (i := i) (u := u) (v := v) h1 h2, List.take_succ_cons, List.take_succ_cons, geB_cons, Bool.and_assoc]
/-! ### the promises of the steps' defs -/
def spHolds (K : PySem.W.Frag) : Sp := fun vs H Q _ => ∃ (a b : Addr) (x y : List Int), vs = [.ref a, .ref b] ∧ SqT K H a (x.map V.int) ∧ SqT K H b (y.map V.int) ∧ x.length = y.length ∧ x.length ≤ 1000 ∧ ∀ H', Same H H' → Q (.bl (geB x y)) H'
/-- a new bag, or None -/
def OptAt (H H' : Hp) (v : V) : Option (List Int) → Prop
  | none => v = .non
  | some b => ∃ p, v = .ref p ∧ H p = none ∧ H' p = some (.tup (b.map V.int))
def spExch (K : PySem.W.Frag) : Sp := fun vs H Q _ => ∃ (a b c : Addr) (x y z : List Int), vs = [.ref a, .ref b, .ref c] ∧ SqT K H a (x.map V.int) ∧ SqT K H b (y.map V.int) ∧ SqT K H c (z.map V.int) ∧ x.length = y.length ∧ x.length = z.length ∧ x.length ≤ 1000 ∧
  ∀ (H' : Hp) (v : V), Same H H' → OptAt H H' v (exch x y z) → Q v H'
def spMinus (K : PySem.W.Frag) : Sp := fun vs H Q _ => ∃ (a b : Addr) (x y : List Int), vs = [.ref a, .ref b] ∧ SqT K H a (x.map V.int) ∧ SqT K H b (y.map V.int) ∧ x.length = y.length ∧ x.length ≤ 1000 ∧
  ∀ (H' : Hp) (p : Addr), Same H H' → H p = none → H' p = some (.tup ((minusL x y).map V.int)) → Q (.ref p) H'
/-- trades of so many goods -/
def Even (g : Nat) (ts : List Trd) : Prop := ∀ t ∈ ts, t.1.length = g ∧ t.2.length = g
theorem MktOk.even {g : Nat} {ts : List Trd} (m : MktOk g ts) : Even g ts := fun t ht => ⟨(m.all t ht).1.len, (m.all t ht).2.len⟩
def stepD (k : Nat) (b : Bool) : PyData := .tuple [.int (k : Int), .bool b]
/-- the market, the stock, the step: all plain data -/
def spAfter : Sp := fun vs H Q _ => ∃ (R : Rgn) (m s t : V) (g : Nat) (ts : List Trd) (x : List Int) (k : Nat) (b : Bool), vs = [m, s, t] ∧ Dat R H m (mktD g ts) ∧ Dat R H s (bagD x) ∧ Dat R H t (stepD k b) ∧ Even g ts ∧ g ≤ 1000 ∧ x.length = g ∧ k < ts.length ∧ (∀ p, H p = none → R p) ∧
  ∀ (H' : Hp) (v : V), Same H H' → Dat R H' v (optD (behind ts x k b)) → Q v H'
/-- the law's own: the trades, the stock, the index, whether back -/
def spBehind : Sp := fun vs H Q _ => ∃ (R : Rgn) (m s : V) (g : Nat) (ts : List Trd) (x : List Int) (k : Nat) (b : Bool), vs = [m, s, .int (k : Int), .bl b] ∧ Dat R H m (.tuple (ts.map trdD)) ∧ Dat R H s (bagD x) ∧ Even g ts ∧ g ≤ 1000 ∧ x.length = g ∧ k < ts.length ∧ (∀ p, H p = none → R p) ∧
  ∀ (H' : Hp) (v : V), Same H H' → Dat R H' v (optD (behind ts x k b)) → Q v H'
theorem optAt_dat {R : Rgn} {H H' : Hp} {v : V} {o : Option (List Int)} (h : OptAt H H' v o) (new : ∀ p, H p = none → R p) : Dat R H' v (optD o) := by
  cases o with
  | none =>
    obtain rfl : v = .non := h
    exact .non
  | some b =>
    obtain ⟨p, rfl, n, e⟩ := h
    exact Dat.mkBag (new p n) e
/-- the parts of a pair that is plain data -/
theorem Dat.pair {R : Rgn} {H : Hp} {v : V} {x y : PyData} (h : Dat R H v (.tuple [x, y])) : ∃ a u w, v = .ref a ∧ R a ∧ H a = some (.tup [u, w]) ∧ Dat R H u x ∧ Dat R H w y := by
  cases h with
  | tup ra e t =>
    cases t with
    | cons h1 t =>
      cases t with
      | cons h2 t =>
        cases t
        exact ⟨_, _, _, rfl, ra, e, h1, h2⟩
theorem Dat.tupI {R : Rgn} {H : Hp} {v : V} {ds : List PyData} (h : Dat R H v (.tuple ds)) : ∃ a xs, v = .ref a ∧ R a ∧ H a = some (.tup xs) ∧ Dats R H xs ds := by
  cases h with
  | tup ra e t => exact ⟨_, _, rfl, ra, e, t⟩
theorem Dat.intI {R : Rgn} {H : Hp} {v : V} {i : Int} (h : Dat R H v (.int i)) : v = .int i := by
  cases h
  rfl
theorem Dat.blI {R : Rgn} {H : Hp} {v : V} {b : Bool} (h : Dat R H v (.bool b)) : v = .bl b := by
  cases h
  rfl
theorem Dat.nonI {R : Rgn} {H : Hp} {v : V} (h : Dat R H v .none) : v = .non := by
  cases h
  rfl
/-- a bag drawn -/
def spBag : Sp := fun vs H Q _ => ∃ (d c r : Addr) (n g m : Nat), vs = [.ref d, .int (g : Int), .int (m : Int)] ∧ Dk H d c r n ∧ n < 2 ^ 38 ∧ g ≤ 1000 ∧ m ≤ 1000 ∧
  ∀ (H' : Hp) (p : Addr) (b : List Int), b.length = g → (∀ x ∈ b, 0 ≤ x ∧ x ≤ (m : Int)) → H p = none → H' p = some (.tup (b.map V.int)) → Dk H' d c r (n + g) → Kp d r H H' → Q (.ref p) H'
end Lb
set_option Elab.async false
set_option linter.all false
set_option maxRecDepth 100000
set_option maxHeartbeats 4000000
namespace Lb
open PySem PySem.Spec PyProof.Rows L2 RZ
/-! ### defs that may raise -/
section
variable {P : Program} {w : World} {K : PySem.W.Frag} {mg : Str → Option Value} {base : Heap}
/-! ### an error class of one field -/
end
/-! ### lambdas -/
mutual
theorem Dat.extN {R : Rgn} {H H' : Hp} (k : LamX.ExtN H H') : ∀ {v : V} {d : PyData}, Dat R H v d → Dat R H' v d
  | _, _, .non => .non
  | _, _, .bl b => .bl b
  | _, _, .int i => .int i
  | _, _, .str x => .str x
  | _, _, .tup ra e h => .tup ra (k _ _ e fun _ z => nomatch z) (Dats.extN k h)
  | _, _, .lst ra e h => .lst ra (k _ _ e fun _ z => nomatch z) (Dats.extN k h)
  | _, _, .emp ra e => .emp ra (k _ _ e fun _ z => nomatch z)
theorem Dats.extN {R : Rgn} {H H' : Hp} (k : LamX.ExtN H H') : ∀ {v : List V} {d : List PyData}, Dats R H v d → Dats R H' v d
  | _, _, .nil => .nil
  | _, _, .cons h t => .cons (Dat.extN k h) (Dats.extN k t)
end
theorem Dk.extN {H H' : Hp} {d c r : Addr} {n : Nat} (h : Dk H d c r n) (k : LamX.ExtN H H') : Dk H' d c r n := by
  obtain ⟨t, cs, rs, g1, g2, g3, g4, g5, g6, g7, w1, w2, w3⟩ := h
  exact ⟨t, cs, rs, g1, g2, g3, g4, g5, g6, g7, k _ _ w1 (fun _ z => nomatch z), k _ _ w2 (fun _ z => nomatch z), k _ _ w3 (fun _ z => nomatch z)⟩
/-! ### walks -/
def stepOf (n : Nat) : PyData → Option (Nat × Bool)
  | .tuple [.int k, .bool b] => if 0 ≤ k ∧ k < (n : Int) then some (k.toNat, b) else none
  | _ => none
def nxt (ts : List Trd) (cur : List Int) (d : PyData) : Option (List Int) :=
  match stepOf ts.length d with
  | none => none
  | some (k, b) => behind ts cur k b
end Lb
set_option Elab.async false
set_option linter.all false
set_option maxRecDepth 100000
set_option maxHeartbeats 4000000
namespace Lb
open PySem PySem.Spec PyProof.Rows L2 RZ
/-! ### the law's own def, its code object told -/
/-- the law's promise, its table of code objects empty as yet -/
def spLawT (K : PySem.W.Frag) (Pt : Addr) : Sp := fun vs H Q _ => ∃ (a : Addr) (ns : List Int), vs = [.ref a] ∧ SqL K H a (ns.map V.int) ∧ ns.length ≤ 63 ∧ H Pt = some (.tbl #[]) ∧ ∀ H', Q (.bl true) H'
/-! ### amounts on the way -/
/-! ### steps drawn -/
theorem Vd.newL {R : Rgn} {H : Hp} {S D : Nat} {p : Addr} {xs : List V} (h : Pk R H S D xs) (n : H p = none) (r : R p) : Vd R (upd H p (.lst xs)) (S + 4) (D + 1) (.ref p) := by
  obtain ⟨ds, d, o⟩ := h
  exact ⟨.list ds, Dat.newL n r d, o.list⟩
theorem Vd.extN {R : Rgn} {H H' : Hp} {S D : Nat} {v : V} (h : Vd R H S D v) (k : LamX.ExtN H H') : Vd R H' S D v := let ⟨x, d, o⟩ := h; ⟨x, d.extN k, o⟩
end Lb
set_option Elab.async false
set_option linter.all false
set_option maxRecDepth 100000
set_option maxHeartbeats 4000000
namespace Lb
open PySem PySem.Spec PyProof.Rows L2
/-! ### the law's end where it makes a lambda -/
section
variable {P : Program} {w : World} {K : PySem.W.Frag} {mg mb : Str → Option Value} {CX : CXT} {k : Nat} {fa a c Pt : Addr} {fd : FuncData} {x : Str} {sp : Sp} {s1 : Shared} {vs : List Value} {ns : List Int}
theorem go_tab {H : Hp} (kin : K.In s1.heap) (hns : s1.heap.Ns mainGlobals mg) (hb : s1.heap.Ns builtinsNs mb) (hbb : ∀ x : Str, x ≠ "__name__" → mb x = bootBuiltins x) (hlim : s1.heap.NoLimit) (hg : s1.gens = #[])
    (hT : s1.heap.get? Pt = some { cls := .none, data := .fields #[] }) (nT : K.lookup Pt = none) (C : PySem.W.CodeHd s1.heap c Pt)
    (hbm : ∃ (bm : Addr) (ob : Obj), mg "__builtins__" = some (.ref bm) ∧ bm ≠ builtinsNs ∧ s1.heap.get? bm = some ob ∧ ob.cls = .type "module" ∧ ob.dict = some builtinsNs ∧ ob.data = .plain)
    (ha : s1.heap.get? a = some { cls := .type "list", data := .seq vs.toArray }) (hr : Room k callerA)
    (F : ∀ base : Heap, K.In base → base.Ns mainGlobals mg → LamX.TabB base mg c Pt → FnG P w K mg base CX k fa fd [x] sp) (hbind : ∀ (s : Shared) (u : Value), BindsTo s fd ⟨[u], []⟩ [(x, u)])
    (hP : H Pt = some (.tbl #[])) (only : ∀ b, H b = none ∨ b = Pt ∨ ∃ o xs, H b = some (.frz o (.lst xs))) (hok : HOk P w H s1.heap) (hA : ∀ b, H b ≠ none → b = a ∨ b = Pt) (hK : H a ≠ none → K.lookup a = none)
    (hsp : sp [.ref a] H (fun v _ => v = .bl true) fun _ _ _ => False) (hCX : ∀ e s', CX [] H s1 (fun _ _ _ => False) e s' → False) :
    codeAny (model P w) callerA (.call (.ref fa) ⟨[.ref a], []⟩) (LawEnd s1) s1 := by
  have nP : a ≠ Pt := fun z => by
    rw [z, hT] at ha
    exact nomatch (show Data.fields #[] = Data.seq vs.toArray _ from congrArg Obj.data (Option.some.inj ha))
  have isA : ∀ {b : Addr} {u : HO}, H b = some u → b = a ∨ b = Pt := fun {b u} e => hA b (by rw [e]; exact fun z => nomatch z)
  -- what is neither the script nor the table is hidden from nobody
  have free : ∀ {b : Addr} {o : Obj}, s1.heap.get? b = some o → (∀ us n, o.data ≠ .seq us n) → o.data ≠ .fields #[] → H b = none := by
    intro b o e d1 d2
    cases q : H b with
    | none => rfl
    | some u =>
      rcases isA q with eb | eb
      · subst eb
        rw [ha] at e
        cases e
        exact absurd rfl (d1 _ _)
      · subst eb
        rw [hT] at e
        cases e
        exact absurd rfl d2
  have ns : ∀ {b : Addr} {m : Str → Option Value}, s1.heap.Ns b m → (hidT s1.heap H).Ns b m := by
    rintro b m ⟨o, es, ep, e, d, r⟩
    exact ⟨o, es, ep, hidT_get e (free e (fun us n z => by rw [d] at z; cases z) (fun z => by rw [d] at z; cases z)), d, r⟩
  have kb : K.In (hidT s1.heap H) := by
    intro b o e
    refine hidT_get (kin b o e) ?_
    cases q : H b with
    | none => rfl
    | some u =>
      rcases isA q with eb | eb
      · subst eb
        rw [hK (by rw [q]; exact fun z => nomatch z)] at e
        cases e
      · rw [eb, nT] at e
        cases e
  have tb : LamX.TabB (hidT s1.heap H) mg c Pt := by
    refine ⟨?_, ?_, fun z => ?_⟩
    · obtain ⟨o, us, file, tf, flags, tg, inF, text, tt, e1, r1, r2, r3, rest⟩ := C
      refine ⟨o, us, file, tf, flags, tg, inF, text, tt, hidT_get e1 (free e1 (fun us n z => by rw [r2] at z; cases z) fun z => ?_), r1, r2, r3, rest⟩
      rw [r2] at z
      cases z
      simp at r3
    · obtain ⟨bm, ob, b1, b2, b3, b4, b5, b6⟩ := hbm
      refine ⟨bm, ob, b1, b2, fun z => ?_, fun z => ?_, hidT_get b3 (free b3 (fun us n z => by rw [b6] at z; cases z) (fun z => by rw [b6] at z; cases z)), b4, b5, b6⟩
      · obtain ⟨o, es, ep, e, d, _⟩ := hns
        rw [z, e] at b3
        cases b3
        rw [d] at b6
        cases b6
      · rw [z, hT] at b3
        cases b3
        cases b6
    · obtain ⟨o, es, ep, e, d, _⟩ := hns
      rw [z, hT] at e
      cases e
      cases d
  obtain ⟨mc, n1, n2⟩ := hlim
  have md : Mod K mg (hidT s1.heap H) := ⟨kb, ns hns, ⟨mb, ns hb, hbb⟩, ⟨mc, ns n1, n2⟩⟩
  have e0 : Env0 P w K mg (hidT s1.heap H) callerA [] s1 H :=
    ⟨rfl, md, fun b o e => of_hidT e, Nat.le_of_eq (hidT_size _ _), trivial, fun b hb => absurd (show b ∈ ([] : List Addr) from hb) (by simp), hok, .of_eq hg⟩
  refine codeAny_mono ((F _ kb (ns hns) tb).run callerA [] s1 H ⟨[.ref a], []⟩ [.ref a] [.ref a] _ _ rfl hr e0 (hbind s1 (.ref a)) (.cons rfl .nil) hsp) fun r s' h => ?_
  cases r with
  | error e => exact (hCX e s' h).elim
  | ok fl =>
    cases fl with
    | next => exact h.elim
    | brk => exact h.elim
    | cont => exact h.elim
    | ret u =>
      obtain ⟨v, H', os, bare, un, hok', ru, q⟩ := h
      have ev : v = .bl true := q
      subst ev
      obtain rfl : u = Value.bool true := ru
      have key : ∀ b o, b ≠ Pt → s1.heap.get? b = some o → s'.heap.get? b = some o := by
        intro b o nb e
        rcases only b with z | z | ⟨ob, xs, z⟩
        · exact un.keep b o e z (fun m => absurd (show b ∈ ([] : List Addr) from m) (by simp)) (by simp)
        · exact absurd z nb
        · obtain ⟨g1, _⟩ := hok b _ z
          obtain ⟨g2, _⟩ := hok' b _ (un.frzs b ob _ z)
          rw [e] at g1
          cases g1
          exact g2
      obtain ⟨more, hm⟩ : ∃ more : Array Value, s'.heap.get? Pt = some { cls := .none, data := .fields more } := by
        obtain ⟨more, z⟩ := un.tbls Pt #[] hP
        exact ⟨_, hok' Pt _ z⟩
      refine ⟨rfl, ⟨fun b o e => ?_, fun b o e => ?_⟩, os, bare⟩
      · by_cases hbp : b = Pt
        · subst hbp
          rw [hT] at e
          cases e
          exact .inr (.inl ⟨(C.tab hT).isCodeTable, rfl, #[], more, rfl, by rw [Array.empty_append]; exact hm⟩)
        · exact .inl (key b o hbp e)
      · by_cases hbp : b = Pt
        · rw [hbp]
          exact ⟨_, hm⟩
        · exact ⟨o, key b o hbp e⟩
theorem law_tab (kin : K.In s1.heap) (hns : s1.heap.Ns mainGlobals mg) (hb : s1.heap.Ns builtinsNs mb) (hbb : ∀ x : Str, x ≠ "__name__" → mb x = bootBuiltins x) (hlim : s1.heap.NoLimit) (hg : s1.gens = #[])
    (hT : s1.heap.get? Pt = some { cls := .none, data := .fields #[] }) (nT : K.lookup Pt = none) (C : PySem.W.CodeHd s1.heap c Pt)
    (hbm : ∃ (bm : Addr) (ob : Obj), mg "__builtins__" = some (.ref bm) ∧ bm ≠ builtinsNs ∧ s1.heap.get? bm = some ob ∧ ob.cls = .type "module" ∧ ob.dict = some builtinsNs ∧ ob.data = .plain)
    (ha : s1.heap.get? a = some { cls := .type "list", data := .seq vs.toArray }) (hi : IntsAre vs ns) (hl : ns.length ≤ sizeLine) (hr : Room k callerA)
    (F : ∀ base : Heap, K.In base → base.Ns mainGlobals mg → LamX.TabB base mg c Pt → FnG P w K mg base CX k fa fd [x] sp) (hbind : ∀ (s : Shared) (u : Value), BindsTo s fd ⟨[u], []⟩ [(x, u)])
    (hsp : ∀ H : Hp, H Pt = some (.tbl #[]) → SqL K H a (ns.map V.int) → sp [.ref a] H (fun v _ => v = .bl true) fun _ _ _ => False)
    (hCX : ∀ H e s', CX [] H s1 (fun _ _ _ => False) e s' → False) : codeAny (model P w) callerA (.call (.ref fa) ⟨[.ref a], []⟩) (LawEnd s1) s1 := by
  have rv := vals_ints hi
  have nP : a ≠ Pt := fun z => by
    rw [z, hT] at ha
    exact nomatch (show Data.fields #[] = Data.seq vs.toArray _ from congrArg Obj.data (Option.some.inj ha))
  cases hk : K.lookup a with
  | some o =>
    have e := kin a o hk
    rw [ha] at e
    cases e
    let H0 : Hp := fun b => if b = Pt then some (.tbl #[]) else none
    have atP : H0 Pt = some (.tbl #[]) := if_pos rfl
    have off : ∀ {b : Addr}, b ≠ Pt → H0 b = none := fun h => if_neg h
    refine go_tab (H := H0) kin hns hb hbb hlim hg hT nT C hbm ha hr F hbind atP (fun b => ?_) (fun b u z => ?_) (fun b z => ?_) (fun z => absurd (off nP) z) (hsp _ atP (.inr ⟨_, vs.toArray, _, hk, rfl, rfl, rfl, ?_, by simpa using rv⟩)) fun e s' => hCX _ e s'
    · by_cases h : b = Pt
      · exact .inr (.inl h)
      · exact .inl (off h)
    · by_cases h : b = Pt
      · subst h
        rw [atP] at z
        cases z
        exact hT
      · rw [off h] at z
        cases z
    · exact .inr (Classical.byContradiction fun h => z (off h))
    · rw [List.size_toArray, hi.length]
      exact hl
  | none =>
    let H1 : Hp := fun b => if b = a then some (.frz { cls := .type "list", data := .seq vs.toArray } (.lst (ns.map V.int))) else if b = Pt then some (.tbl #[]) else none
    have at_a : H1 a = some (.frz { cls := .type "list", data := .seq vs.toArray } (.lst (ns.map V.int))) := if_pos rfl
    have atP : H1 Pt = some (.tbl #[]) := (if_neg nP.symm).trans (if_pos rfl)
    have off : ∀ {b : Addr}, b ≠ a → b ≠ Pt → H1 b = none := fun h1 h2 => (if_neg h1).trans (if_neg h2)
    refine go_tab (H := H1) kin hns hb hbb hlim hg hT nT C hbm ha hr F hbind atP (fun b => ?_) (fun b u z => ?_) (fun b z => ?_) (fun _ => hk) (hsp _ atP (.inl (.inr ⟨_, at_a⟩))) fun e s' => hCX _ e s'
    · by_cases h : b = a
      · rw [h]
        exact .inr (.inr ⟨_, _, at_a⟩)
      · by_cases h2 : b = Pt
        · exact .inr (.inl h2)
        · exact .inl (off h h2)
    · by_cases h : b = a
      · subst h
        rw [at_a] at z
        cases z
        exact ⟨ha, by rw [List.length_map]; exact hl, vs, _, rv, ha⟩
      · by_cases h2 : b = Pt
        · subst h2
          rw [atP] at z
          cases z
          exact hT
        · rw [off h h2] at z
          cases z
    · by_cases h : b = a
      · exact .inl h
      · exact .inr (Classical.byContradiction fun h2 => z (off h h2))
end
/-- what is known of a law that makes a lambda, at the head's heap -/
def LawT (l : PySem.W.OpenLaw) (w : World) (K : PySem.W.Frag) (k : Nat) (x : Str) (mg : Str → Option Value) (fa : Addr) (h : Heap) : Prop :=
  ∃ (fd : FuncData) (c Pt : Addr), h.get? Pt = some { cls := .none, data := .fields #[] } ∧ K.lookup Pt = none ∧ PySem.W.CodeHd h c Pt ∧ (∀ (s : Shared) (u : Value), BindsTo s fd ⟨[u], []⟩ [(x, u)]) ∧
    ∀ base : Heap, K.In base → base.Ns mainGlobals mg → LamX.TabB base mg c Pt → FnG l.prog w K mg base CX0 k fa fd [x] (spLawT K Pt)
theorem walk_gT {l : PySem.W.OpenLaw} {k : Nat} {q : Program} {loose : List Str} {XP : (Str → Option Value) → Heap → Prop} {YP : World → Heap → Prop} {d : DefRec} {K : Params → PySem.W.Frag} {x : Str}
    (hn : l.most = some 63) (hdf : d.params.defaults = []) (hr : Room k callerA) (hrec : ((recsOf q).any fun e => e.name == d.name) = true) (hY : ∀ (w : World) (h : Heap), YP w h → (K w.params).In h)
    (F : ∀ (w : World) (mg : Str → Option Value) (fa : Addr) (h : Heap), (K w.params).In h → h.Ns mainGlobals mg → mg d.name = some (.ref fa) → LamX.OwnTab (K w.params) fa h → LawT l w (K w.params) k x mg fa h) :
    PySem.W.WalkO q loose XP YP l.row.toRowW d [] (fun f vs => PySem.call f vs) := by
  refine Att.attach_call hn hdf fun w s0 s1 mg mb fa o pm cd doc a vs ns G Y ho hd hcd hmg hobj hints hlen hg => ?_
  have kin := hY w _ Y
  have own : LamX.OwnTab (K w.params) fa s1.heap := by
    intro c P o1 fd1 e dd vs1 sl k1 k2 k3 k4 k5
    obtain ⟨dL, hm, hnm⟩ := List.any_eq_true.mp hrec
    obtain ⟨a', o', fd', c', P', h1, h2, h3, h4, h5, ⟨oc, vc, e1, _, e3, e4⟩, hP⟩ := G.T.tab dL hm
    rw [beq_iff_eq.mp hnm, hmg] at h1
    cases h1
    rw [kin _ _ k1] at h2
    cases h2
    rw [k2] at h3
    cases h3
    rw [k3] at h4
    cases h4
    rw [kin _ _ k4] at e1
    cases e1
    cases e3
    rw [k5] at e4
    cases e4
    exact hP
  obtain ⟨fd, c, Pt, hT, nT, C, hb, hF⟩ := F w mg fa _ kin G.T.g hmg own
  exact law_tab kin G.T.g G.T.b G.T.builtins G.T.nolimit hg hT nT C G.T.bmain hobj hints (Nat.le_trans hlen (by decide)) hr hF hb (fun H hP hS => ⟨a, ns, rfl, hS, hlen, hP, fun _ => rfl⟩) fun H e s' h => h
end Lb
set_option Elab.async false
set_option linter.all false
set_option maxRecDepth 100000
set_option maxHeartbeats 4000000
namespace Lb
open PySem PySem.Spec PyProof.Rows L2
/-! ### d < e of plain data that is alike -/
/-! ### sum of a list of bools -/
/-! ### defs that use repr -/
section
variable {P : Program} {w : World} {K : PySem.W.Frag} {mg : Str → Option Value} {base : Heap}
end
section
variable {X : Cx} {k : Nat} {ps : List Str} {sp : Sp} {x : Str} {p pos : Pos} {e : Expr} {es : List Expr} {t : TA}
end
/-! ### plainness -/
/-- what bags are compared by -/
abbrev keyD (b : List Int) : PyData := .tuple [.int (b.getD (b.length - 1) 0), .int b.sum, bagD b]
end Lb
namespace Lb
open PySem PySem.Spec PyProof.Rows L2
theorem alike_bag (x y : List Int) : PySem.W.alikeAll (x.map PyData.int) (y.map PyData.int) = true := by
  induction x generalizing y with
  | nil => rw [List.map_nil, PySem.W.alikeAll]
  | cons n a ih =>
    cases y with
    | nil => rw [List.map_nil, List.map_cons, PySem.W.alikeAll]
    | cons m b => rw [List.map_cons, List.map_cons, PySem.W.alikeAll, PySem.W.alike, ih b]; rfl
theorem depth_bag (x : List Int) : (bagD x).depth = 1 := by
  rw [PyData.depth, depth_ints]
/-! the mathematics of plainness -/
end Lb
namespace Lb
open PySem PySem.Spec PyProof.Rows L2
theorem dp_bag {K : PySem.W.Frag} {H : Hp} {a : Addr} {x : List Int} (e : H a = some (.tup (x.map V.int))) : Dp K H (.ref a) (bagD x) := .tup (.inl (.inl e)) (dp_ints x)
end Lb
set_option Elab.async false
set_option linter.all false
set_option maxRecDepth 100000
set_option maxHeartbeats 4000000
namespace Lb
open PySem PySem.Spec PyProof.Rows L2 RZ
theorem for_zipT {K : PySem.W.Frag} {a b : Addr} {xs ys : List V} {g : TG} {tb : TS} {D : Ends} {σ : L2.St} {H : Hp} (hl : xs.length = ys.length) (Pv : Nat → L2.St → Hp → Prop) (h0 : Pv 0 σ H) (hq : ∀ i σ H, Pv i σ H → SqT K H a xs ∧ SqT K H b ys)
    (hs : ∀ (i : Nat) (x y : V) (T : Addr) (σ : L2.St) (H : Hp), xs[i]? = some x → ys[i]? = some y → Pv i σ H → H T = none → g (.ref T) σ (upd H T (.tup [x, y])) fun σ2 H2 => tb { D with nx := Pv (i + 1), ct := Pv (i + 1), bk := D.nx } σ2 H2) (hd : ∀ σ H, Pv xs.length σ H → D.nx σ H) :
    ∃ W : Nat → Nat → L2.St → Hp → Prop, (∃ m, W 0 m σ H) ∧ ∀ i m σ H, W i m σ H →
      ((ItzT K a b).stop i H ∧ D.nx σ H) ∨ ((ItzT K a b).go i H ∧ ∃ N : L2.St → Hp → Prop, (∀ σ' H', N σ' H' → ∃ m', m' < m ∧ W (i + 1) m' σ' H') ∧ ∀ v H', (ItzT K a b).yld i H v H' → g v σ H' fun σ2 H2 => tb { D with nx := N, ct := N, bk := D.nx } σ2 H2) := by
  refine ⟨fun i m σ H => m = xs.length - i ∧ i ≤ xs.length ∧ Pv i σ H, ⟨xs.length, rfl, Nat.zero_le _, h0⟩, ?_⟩
  rintro i m σ H ⟨rfl, hi, p⟩
  obtain ⟨qx, qy⟩ := hq i σ H p
  by_cases hlt : i < xs.length
  · refine .inr ⟨⟨xs, ys, _, _, qx, qy, List.getElem?_eq_getElem hlt, List.getElem?_eq_getElem (by omega)⟩, Pv (i + 1), fun σ' H' p' => ⟨xs.length - (i + 1), by omega, rfl, hlt, p'⟩, ?_⟩
    rintro v H' ⟨T, x', y', rfl, hT, rfl, f1, f2⟩
    exact hs i x' y' T σ H (f1 xs qx) (f2 ys qy) p hT
  · obtain rfl : i = xs.length := by omega
    exact .inl ⟨⟨xs, ys, qx, qy, .inl (Nat.le_refl _)⟩, hd σ H p⟩
theorem geB_false {x y : List Int} {i : Nat} {u v : Int} (h1 : x[i]? = some u) (h2 : y[i]? = some v) (h : u < v) : geB x y = false := by
  induction x generalizing y i with
  | nil => cases h1
  | cons a x ih =>
    cases y with
    | nil => cases h2
    | cons b y =>
      rw [geB_cons]
      cases i with
      | zero =>
        have e1 : a = u := Option.some.inj h1
        have e2 : b = v := Option.some.inj h2
        rw [decide_eq_false (by omega), Bool.false_and]
      | succ i => rw [ih (i := i) h1 h2, Bool.and_false]
end Lb
set_option Elab.async false
set_option linter.all false
set_option maxRecDepth 100000
set_option maxHeartbeats 4000000
namespace Lb
open PySem PySem.Spec PyProof.Rows L2 RZ
/-! ### x, *ys = a list -/
/-! ### enumerate(xs, start=1) -/
section
variable {M : Model} {A : Around} {E : Value → Shared → Prop} {s : Shared} {env : Env}
end
end Lb
set_option Elab.async false
set_option linter.all false
set_option maxRecDepth 100000
set_option maxHeartbeats 4000000
namespace Lb
open PySem PySem.Spec PyProof.Rows L2 RZ TL
/-! ### texts of markets -/
/-! reading -/
/-! small numbers and their texts -/
/-! joined lists -/
end Lb
namespace Lb
open PySem PySem.Spec PyProof.Rows L2 RZ TL
end Lb
namespace Lb
open PySem PySem.Spec PyProof.Rows L2 RZ TL
end Lb
namespace Lb
open PySem PySem.Spec PyProof.Rows L2 RZ TL
theorem Dat.strI {R : Rgn} {H : Hp} {v : V} {s : Str} (h : Dat R H v (.str s)) : v = .str s := by
  cases h
  rfl
end Lb
namespace Lb
open PySem PySem.Spec PyProof.Rows L2 RZ TL
end Lb
namespace Lb
open PySem PySem.Spec PyProof.Rows L2 RZ TL
end Lb
set_option Elab.async false
set_option linter.all false
set_option maxRecDepth 100000
set_option maxHeartbeats 4000000
namespace Lb
open PySem PySem.Spec PyProof.Rows L2 RZ TL
/-! ### readings that the law does itself -/
/-! promises -/
end Lb
namespace Lb
open PySem PySem.Spec PyProof.Rows L2 RZ TL
/-! ### xs != [] -/
end Lb
set_option Elab.async false
set_option linter.all false
set_option maxRecDepth 100000
set_option maxHeartbeats 4000000
namespace Lb
open PySem PySem.Spec PyProof.Rows L2 RZ
/-! ### sorted(xs), xs plain data that is alike -/
/-- not after -/
def leD (a b : V × PyData) : Bool := !PySem.W.dataLt b.2 a.2
def srtA (xs : List V) (ds : List PyData) : List (V × PyData) := (xs.zip ds).mergeSort leD
def rSortA (K : PySem.W.Frag) : List V → Hp → VK → Prop := fun vs H Q => ∃ (R : Rgn) (a : Addr) (xs : List V) (ds : List PyData), vs = [.ref a] ∧ H a = some (.lst xs) ∧ Dats R H xs ds ∧ PySem.W.AllAlike ds ∧ PySem.W.Sortable ds ∧ (∀ d ∈ ds, d.depth ≤ 60) ∧
  ∀ p, H p = none → Q (.ref p) (upd H p (.lst ((srtA xs ds).map Prod.fst)))
theorem each_of {X : Cx} {pins : List (Addr × Obj)} {σ : L2.St} {H : Hp} {s : Shared} {R : Rgn} {h' : Heap} (I : L2.Inv X pins σ H s) (k : ∀ b o, s.heap.get? b = some o → h'.get? b = some o) : ∀ {xs : List V} {ds : List PyData} {us : List Value}, Dats R H xs ds → Vals xs us →
    PySem.W.EachIs (fun u (z : V × PyData) => RelV z.1 u ∧ ∃ as, Reads h' u z.2 as) us (xs.zip ds)
  | _, _, _, .nil, .nil => .nil
  | _, _, _, .cons h t, .cons r rr => by
    obtain ⟨as, q⟩ := dat_reads I h r
    exact .cons ⟨r, as, PyProof.Rows.Reads.keeps k q⟩ (each_of I k t rr)
theorem each_vals : ∀ {us : List Value} {zs : List (V × PyData)} {h' : Heap}, PySem.W.EachIs (fun u (z : V × PyData) => RelV z.1 u ∧ ∃ as, Reads h' u z.2 as) us zs → Vals (zs.map Prod.fst) us
  | _, _, _, .nil => .nil
  | _, _, _, .cons h t => .cons h.1 (each_vals t)
theorem each_data : ∀ {us : List Value} {zs : List (V × PyData)} {h' : Heap}, PySem.W.EachIs (fun u (z : V × PyData) => RelV z.1 u ∧ ∃ as, Reads h' u z.2 as) us zs → PySem.W.EachIs (fun u d => ∃ as, Reads h' u d as) us (zs.map Prod.snd)
  | _, _, _, .nil => .nil
  | _, _, _, .cons h t => .cons h.2 (each_data t)
theorem cr_sortA {X : Cx} (hu : X.A.units + 64 < cLine) : CallR X (.builtin "sorted") (rSortA X.K) := by
  intro pins s σ H vs us Q I r h
  obtain ⟨R, a, xs, ds, rfl, ea, hd, hal, hs, hdp, q⟩ := h
  obtain ⟨its, rv, hl, hz⟩ := I.list (.inl (.inl ea))
  rw [Vals.ref1 r]
  have hl' : s.heap.IsList a its.toArray := by
    obtain ⟨o, n, ho, hc, _, hd⟩ := hl
    exact ⟨o, ho, hc, n, hd⟩
  have hlen := rv.length
  have e1 := each_of (h' := PySem.W.sortingHeap (PySem.W.copyHeap s.heap its) (s.heap.objs.size + 1) its) I (fun b o e => PySem.W.sorting_copy_old e) hd rv
  have hmap : (xs.zip ds).map Prod.snd = ds := List.map_snd_zip (by rw [hd.length]; exact Nat.le_refl _)
  have e2 := each_data e1
  rw [hmap] at e2
  have S := PySem.W.SortsAt.data (prog := X.prog) (w := X.w) (A := X.A.in1.in1) (s := { s with heap := PySem.W.sortingHeap (PySem.W.copyHeap s.heap its) (s.heap.objs.size + 1) its }) e2 hal hs (fun d hdd => by
    have := hdp d hdd
    show X.A.units + 1 + 1 + d.depth < cLine
    omega)
  refine PySem.W.sorted_vals hl' S (by rw [← hlen]; exact hz) ?_
  have e3 : PySem.W.EachIs (fun u (z : V × PyData) => (PySem.W.dataKind (PySem.W.sortingHeap (PySem.W.copyHeap s.heap its) (s.heap.objs.size + 1) its) ds).keyOf u = some (PySem.W.keyToks z.2)) its (xs.zip ds) := by
    refine PySem.W.EachIs.of_zip e1.length fun p hp => ?_
    obtain ⟨_, as, rd⟩ := e1.zip p hp
    refine PySem.W.dataKind_some hal ?_ rd
    have : p.2 ∈ xs.zip ds := (List.of_mem_zip hp).2
    exact (List.of_mem_zip this).2
  have e4 := PySem.W.sortVals_each (κ := PySem.W.dataKind (PySem.W.sortingHeap (PySem.W.copyHeap s.heap its) (s.heap.objs.size + 1) its) ds) (rev := false) (fun z : V × PyData => PySem.W.keyToks z.2) e1 e3
  obtain ⟨ee, hat⟩ := sortedAll_at s.heap its (PySem.W.sortVals (PySem.W.dataKind (PySem.W.sortingHeap (PySem.W.copyHeap s.heap its) (s.heap.objs.size + 1) its) ds) false its its).toArray
  have hvals := each_vals e4
  have hle : (fun a b : V × PyData => PySem.W.sortLe (listOrd itemOrd) false (fun z : V × PyData => PySem.W.keyToks z.2) a b) = leD := rfl
  have hz2 : ((srtA xs ds).map Prod.fst).length ≤ sizeLine := by
    unfold srtA
    rw [List.length_map, List.length_mergeSort, List.length_zip]
    exact Nat.le_trans (Nat.min_le_left _ _) hz
  have fr : H (s.heap.objs.size + 1) = none := I.hok.fresh (Nat.le_succ _)
  refine ⟨.ref (s.heap.objs.size + 1), _, I.laid (t' := s.toks) (o := .lst ((srtA xs ds).map Prod.fst)) (fun b ob z => sortedAll_old z) (Nat.le_succ _) ?_, rfl, q _ fr⟩
  exact ⟨hz2, _, ee, hvals, hat⟩
end Lb
set_option Elab.async false
set_option linter.all false
set_option maxRecDepth 100000
set_option maxHeartbeats 4000000
namespace Lb
open PySem PySem.Spec PyProof.Rows L2 RZ
/-! ### zip over any number of tuples of one length -/
section
variable {prog : Program} {w : World} {A : Around} {E : Value → Shared → Prop}
end
/-! ### zip of four tuples -/
end Lb
set_option Elab.async false
set_option linter.all false
set_option maxRecDepth 100000
set_option maxHeartbeats 4000000
namespace Lb
open PySem PySem.Spec PyProof.Rows L2 RZ TL
/-! ### falling: the mathematics -/
end Lb
namespace Lb
open PySem PySem.Spec PyProof.Rows L2 RZ TL
end Lb
namespace Lb
open PySem PySem.Spec PyProof.Rows L2 RZ TL
end Lb
set_option Elab.async false
set_option linter.all false
set_option maxRecDepth 100000
set_option maxHeartbeats 4000000
namespace Lb
open PySem PySem.Spec PyProof.Rows L2 RZ TL
/-! ### amounts of any size: how long they are when shown -/
theorem numL_short : ∀ (k n : Nat), n < 10 ^ (k + 1) → (numL n).length ≤ k + 1
  | 0, n, h => by
    rw [numL_lt (by simpa using h)]
    exact Nat.le_refl _
  | k + 1, n, h => by
    by_cases h10 : n < 10
    · rw [numL_lt h10]
      exact Nat.succ_le_succ (Nat.zero_le _)
    · rw [numL_step (by omega), List.length_append, List.length_singleton]
      have : n / 10 < 10 ^ (k + 1) := by
        refine Nat.div_lt_of_lt_mul ?_
        rw [Nat.pow_succ] at h
        omega
      have := numL_short k (n / 10) this
      omega
/-! ### a pair of a key and its bag -/
abbrev pairD (x : List Int) : PyData := .tuple [keyD x, bagD x]
/-! ### amounts on the way down -/
end Lb
namespace Lb
open PySem PySem.Spec PyProof.Rows L2 RZ TL
theorem Dat.dpB {K : PySem.W.Frag} {R : Rgn} {H : Hp} {v : V} {x : List Int} (h : Dat R H v (bagD x)) : Dp K H v (bagD x) := by
  obtain ⟨a, rfl, _, e⟩ := h.bag
  exact dp_bag e
theorem Dat.dpP {K : PySem.W.Frag} {R : Rgn} {H : Hp} {v : V} {x : List Int} (h : Dat R H v (pairD x)) : Dp K H v (pairD x) := by
  obtain ⟨a, u, w, rfl, ra, e, du, dw⟩ := h.pair
  obtain ⟨k, ks, rfl, rk, ek, tk⟩ := du.tupI
  refine .tup (.inl (.inl e)) (.cons (.tup (.inl (.inl ek)) ?_) (.cons dw.dpB .nil))
  cases tk with
  | cons h1 t1 =>
    cases t1 with
    | cons h2 t2 =>
      cases t2 with
      | cons h3 t3 =>
        cases t3
        obtain rfl := h1.intI
        obtain rfl := h2.intI
        exact .cons (.int _) (.cons (.int _) (.cons h3.dpB .nil))
end Lb
set_option Elab.async false
set_option linter.all false
set_option maxRecDepth 100000
set_option maxHeartbeats 4000000
namespace Lb
open PySem PySem.Spec PyProof.Rows L2 RZ
/-! ### markets with a note -/
/-! ### the promises -/
theorem Dat.trd {R : Rgn} {H : Hp} {v : V} {t : Trd} (h : Dat R H v (trdD t)) : ∃ a b c, v = .ref a ∧ R a ∧ H a = some (.tup [.ref b, .ref c]) ∧ R b ∧ H b = some (.tup (t.1.map V.int)) ∧ R c ∧ H c = some (.tup (t.2.map V.int)) := by
  cases h with
  | tup ra e t =>
    cases t with
    | cons h1 t =>
      cases t with
      | cons h2 t =>
        cases t
        obtain ⟨b, rfl, rb, eb⟩ := h1.bag
        obtain ⟨c, rfl, rc, ec⟩ := h2.bag
        exact ⟨_, _, _, rfl, ra, e, rb, eb, rc, ec⟩
theorem Dat.mkt {R : Rgn} {H : Hp} {v : V} {g : Nat} {ts : List Trd} (h : Dat R H v (mktD g ts)) : ∃ am tv ys, v = .ref am ∧ R am ∧ H am = some (.tup [.int (g : Int), .ref tv]) ∧ R tv ∧ H tv = some (.tup ys) ∧ Dats R H ys (ts.map trdD) := by
  cases h with
  | tup ra e t =>
    cases t with
    | cons h1 t =>
      cases h1
      cases t with
      | cons h2 t =>
        cases t
        cases h2 with
        | tup rb eb tb => exact ⟨_, _, _, rfl, ra, e, rb, eb, tb⟩
theorem Dat.mkTrd {R : Rgn} {H : Hp} {a b c : Addr} {x y : List Int} (ra : R a) (e : H a = some (.tup [.ref b, .ref c])) (rb : R b) (eb : H b = some (.tup (x.map V.int))) (rc : R c) (ec : H c = some (.tup (y.map V.int))) : Dat R H (.ref a) (trdD (x, y)) :=
  .tup ra e (.cons (Dat.mkBag rb eb) (.cons (Dat.mkBag rc ec) .nil))
end Lb
namespace Lb
open PySem PySem.Spec PyProof.Rows L2 RZ
theorem alike_bag2 (a b : List Int) : PySem.W.alike (bagD a) (bagD b) = true := by
  have := alike_bag a b
  first | exact this | (unfold PySem.W.alike; exact this) | (simp only [PySem.W.alike]; exact this)
theorem Dats.zipMem {R : Rgn} {H : Hp} : ∀ {vs : List V} {ds : List PyData}, Dats R H vs ds → ∀ z ∈ vs.zip ds, Dat R H z.1 z.2 ∧ z.2 ∈ ds
  | _, _, .nil => fun z hz => absurd hz List.not_mem_nil
  | _, _, .cons h t => fun z hz => by
    rw [List.zip_cons_cons] at hz
    rcases List.mem_cons.mp hz with rfl | hz
    · exact ⟨h, List.mem_cons_self⟩
    · exact ⟨(Dats.zipMem t z hz).1, List.mem_cons_of_mem _ (Dats.zipMem t z hz).2⟩
end Lb
set_option Elab.async false
set_option linter.all false
set_option maxRecDepth 100000
set_option maxHeartbeats 4000000
namespace Lb
open PySem PySem.Spec PyProof.Rows L2 RZ
/-! ### an error class without fields, raised without arguments -/
/-! ### operators of an own class -/
section
variable {X : Cx} {CX : CXT} {C g : Addr} {n : Nat} {sp : Sp} {E : XK}
end
end Lb
set_option Elab.async false
set_option linter.all false
set_option maxRecDepth 100000
set_option maxHeartbeats 4000000
namespace Lb
open PySem PySem.Spec PyProof.Rows L2 RZ PySem.SeqAt
/-! ### sorted(xs), xs tuples that are alike, the first of them empty -/
section
variable {prog : Program} {w : World} {A : Around} {E : Value → Shared → Prop} {s : Shared}
end
end Lb
namespace Lb
open PySem PySem.Spec PyProof.Rows L2 RZ
end Lb
set_option Elab.async false
set_option linter.all false
set_option maxRecDepth 100000
set_option maxHeartbeats 4000000
namespace Lb
open PySem PySem.Spec PyProof.Rows L2 RZ
/-! ### enumerate(zip(t, u)), t and u tuples -/
section
variable {prog : Program} {w : World} {A : Around} {E : Value → Shared → Prop} {s : Shared} {z TI TO i1 i2 a b : Addr} {i : Nat}
end
end Lb
set_option Elab.async false
set_option linter.all false
set_option maxRecDepth 100000
set_option maxHeartbeats 4000000
namespace Lb
open PySem PySem.Spec PyProof.Rows L2 RZ TL
section
variable {P : Program} {w : World} {K : PySem.W.Frag} {mg : Str → Option Value} {base : Heap}
theorem FnOk.imp2 {CX : CXT} {k : Nat} {f : Addr} {fd : FuncData} {ps : List Str} {sp sp' : Sp} (F : FnOk P w K mg base CX k f fd ps sp) (h : ∀ vs H Q E, sp' vs H Q E → sp vs H Q E) : FnOk P w K mg base CX k f fd ps sp' :=
  ⟨fun vs H Q E q => F.len vs H Q E (h _ _ _ _ q), fun A outer s H args us vs Q E hr e0 hb r q => F.run A outer s H args us vs Q E hr e0 hb r (h _ _ _ _ q)⟩
theorem Own.imp {x : Str} {k : Nat} {ps : List Str} {sp sp' : Sp} (O : Own P w K mg base x k ps sp) (h : ∀ vs H Q E, sp' vs H Q E → sp vs H Q E) : Own P w K mg base x k ps sp' := by
  obtain ⟨f, fd, F, r⟩ := O.ex
  exact ⟨f, fd, FnOk.imp2 F h, r⟩
/-! ### methods of an own class -/
end
section
variable {X : Cx} {C : Addr} {m : Str} {k : Nat} {ps : List Str} {sp : Sp} {E : XK}
end
/-! ### types stay -/
theorem TyX.same {K : PySem.W.Frag} {H H' : Hp} {v : V} {t : Value} (h : TyX K H v t) (s : Same H H') : TyX K H' v t := by
  cases h with
  | base b =>
    refine .base ?_
    cases b with
    | non => exact .non
    | bl x => exact .bl x
    | int i => exact .int i
    | str x => exact .str x
    | flt x => exact .flt x
    | lst e => exact .lst (s _ _ e)
    | frz e => exact .frz (s _ _ e)
    | tup e => exact .tup (s _ _ e)
    | dK e => exact .dK (s _ _ e)
    | dT e => exact .dT (s _ _ e)
    | ins e cl ha hn htk hm => exact .ins (s _ _ e) cl ha hn htk hm
  | byt b => exact .byt b
  | set e => exact .set (s _ _ e)
  | kList e c => exact .kList e c
  | kTuple e c => exact .kTuple e c
  | kDict e c => exact .kDict e c
  | fTuple e => exact .fTuple (s _ _ e)
  | fDict e => exact .fDict (s _ _ e)
/-! ### tuple([f(u, v) for u, v in zip(x, y)]) -/
/-! ### Bags -/
/-- a Bag at a with its tuple at t -/
structure Bg (C : Addr) (H : Hp) (a t : Addr) (b : List Int) : Prop where
  ins : ∃ dx, H a = some (.ins C dx [("held", .ref t)])
  tup : H t = some (.tup (b.map V.int))
theorem Bg.same {C : Addr} {H H' : Hp} {a t : Addr} {b : List Int} (h : Bg C H a t b) (s : Same H H') : Bg C H' a t b := ⟨let ⟨dx, e⟩ := h.ins; ⟨dx, s _ _ e⟩, s _ _ h.tup⟩
structure BgOk (b : List Int) : Prop where
  one : 1 ≤ b.length
  four : b.length ≤ 4
  nn : ∀ x ∈ b, 0 ≤ x
/-- a value that is not of the class -/
def NotC (K : PySem.W.Frag) (C : Addr) (H : Hp) (v : V) : Prop := ∃ ty, TyX K H v ty ∧ PySem.W.kitOne K ty (.ref C) = some false
theorem NotC.same {K : PySem.W.Frag} {C : Addr} {H H' : Hp} {v : V} (h : NotC K C H v) (s : Same H H') : NotC K C H' v := let ⟨t, a, b⟩ := h; ⟨t, Lb.TyX.same a s, b⟩
end Lb
set_option Elab.async false
set_option linter.all false
set_option maxRecDepth 100000
set_option maxHeartbeats 4000000
namespace Lb
open PySem PySem.Spec PyProof.Rows L2 RZ TL
def lackN : List Int → List Int → Nat → Option Nat
  | x :: xs, y :: ys, k => if x < y then some k else lackN xs ys (k + 1)
  | _, _, _ => none
abbrev maxI (a b : Int) : Int := if b > a then b else a
end Lb
namespace Lb
open PySem PySem.Spec PyProof.Rows L2 RZ TL
/-! ### draws below great numbers -/
end Lb
set_option Elab.async false
set_option linter.all false
set_option maxRecDepth 100000
set_option maxHeartbeats 4000000
namespace Lb
open PySem PySem.Spec PyProof.Rows L2 RZ TL
theorem amt_okW {x : Int} (h0 : 0 ≤ x) (h1 : x < 10 ^ 30) : Ok 32 0 (.int x) := by
  obtain ⟨n, rfl⟩ : ∃ n : Nat, x = (n : Int) := ⟨x.toNat, by omega⟩
  have hn : n < 10 ^ 30 := by omega
  have h2 := numL_short 29 n hn
  rw [← tl_num] at h2
  have h3 : (Str.ofString (toString ((n : Nat) : Int))).length ≤ 30 := h2
  refine ⟨?_, ?_, by rw [PyData.depth]; exact Nat.le_refl _⟩
  · rw [fine]
    refine decide_eq_true ?_
    show n.log2 < 1920
    by_cases h : n = 0
    · subst h
      decide
    · exact Nat.lt_trans ((Nat.log2_lt (k := 100) h).mpr (show n < 2 ^ 100 by omega)) (by decide)
  · rw [wt, PyData.shown]
    omega
def AmtsW (b : List Int) : Prop := ∀ x ∈ b, 0 ≤ x ∧ x < 10 ^ 30
/-! ### what is lacking, what is left -/
/-! ### (x - y).amounts, or what is lacking -/
end Lb
set_option Elab.async false
set_option linter.all false
set_option maxRecDepth 100000
set_option maxHeartbeats 4000000
namespace Lb
open PySem PySem.Spec PyProof.Rows L2 RZ TL
theorem kp_obj {H H' : Hp} {d c r p : Addr} {n : Nat} {o : HO} (k : Kp d r H H') (dk : Dk H d c r n) (e : H p = some o) (ne : ∀ xs, o ≠ .lst xs) : H' p = some o := by
  obtain ⟨_, _, _, _, _, _, _, _, _, _, w1, _, w3⟩ := dk
  refine k p o (fun z => ?_) (fun z => ?_) e
  · rw [z, w1] at e
    exact ne _ (Option.some.inj e).symm
  · rw [z, w3] at e
    exact ne _ (Option.some.inj e).symm
theorem Bg.kp {C : Addr} {H H' : Hp} {d c r : Addr} {n : Nat} {a t : Addr} {b : List Int} (h : Bg C H a t b) (k : Kp d r H H') (dk : Dk H d c r n) : Bg C H' a t b :=
  ⟨let ⟨dx, e⟩ := h.ins; ⟨dx, kp_obj k dk e fun _ z => nomatch z⟩, kp_obj k dk h.tup fun _ z => nomatch z⟩
section
variable {K : PySem.W.Frag} {C CB CL CT : Addr} {H : Hp} {a t b s : Addr} {x z : List Int} {Q : VK} {E : XK}
end
/-! ### the list of what is lacking -/
end Lb
set_option Elab.async false
set_option linter.all false
set_option maxRecDepth 100000
set_option maxHeartbeats 4000000
namespace Lb
open PySem PySem.Spec PyProof.Rows L2 RZ TL
/-! ### values of the plain built-in types -/
def Std : List String := ["tuple", "NoneType", "int", "bool", "str", "list", "dict"]
/-- a value whose type is one of these -/
def TyS (K : PySem.W.Frag) (H : Hp) (y : V) : Prop := ∃ T, T ∈ Std ∧ TyX K H y (.type T)
theorem TyS.same {K : PySem.W.Frag} {H H' : Hp} {v : V} (h : TyS K H v) (s : Same H H') : TyS K H' v := let ⟨t, a, b⟩ := h; ⟨t, a, Lb.TyX.same b s⟩
/-- none of them is of the class at C -/
def StdC (K : PySem.W.Frag) (C : Addr) : Prop := ∀ T ∈ Std, PySem.W.kitOne K (.type T) (.ref C) = some false
theorem TyS.notC {K : PySem.W.Frag} {C : Addr} {H : Hp} {y : V} (h : TyS K H y) (c : StdC K C) : NotC K C H y := by
  obtain ⟨T, hT, ty⟩ := h
  exact ⟨_, ty, c T hT⟩
theorem Dat.tyS {K : PySem.W.Frag} {R : Rgn} {H : Hp} {v : V} {d : PyData} (h : Dat R H v d) : TyS K H v := by
  refine ⟨_, ?_, dat_ty h⟩
  cases d <;> simp [tyOf, Std]
/-! ### x op y, y of such a type -/
section
open PySem.W
variable {prog : Program} {w : World} {A : Around} {E : Value → Shared → Prop} {s : Shared} {K : Frag} {x C L f : Addr} {h₀ : Heap} {m : Str → Option Value} {ox : Obj} {od : Option Obj} {T : String}
end
section
variable {X : Cx} {C : Addr} {m : Str} {k : Nat} {ps : List Str} {sp : Sp} {E : XK}
/-! ### len(x), bool(x), str(x), x[i] -/
end
end Lb
set_option Elab.async false
set_option linter.all false
set_option maxRecDepth 100000
set_option maxHeartbeats 4000000
namespace Lb
open PySem PySem.Spec PyProof.Rows L2 RZ TL
theorem Bg.extN {C : Addr} {H H' : Hp} {a t : Addr} {b : List Int} (h : Bg C H a t b) (k : LamX.ExtN H H') : Bg C H' a t b := ⟨let ⟨dx, e⟩ := h.ins; ⟨dx, k _ _ e fun _ z => nomatch z⟩, k _ _ h.tup fun _ z => nomatch z⟩
end Lb
set_option Elab.async false
set_option linter.all false
set_option maxRecDepth 100000
set_option maxHeartbeats 4000000
namespace Lb
open PySem PySem.Spec PyProof.Rows L2 RZ TL
end Lb
namespace Lb
open PySem PySem.Spec PyProof.Rows L2 RZ TL
end Lb
set_option Elab.async false
set_option linter.all false
set_option maxRecDepth 100000
set_option maxHeartbeats 4000000
namespace Lb
open PySem PySem.Spec PyProof.Rows L2 RZ TL
/-! ### iter(t), t a tuple -/
/-! ### list(x) by such an __iter__ -/
section
variable {X : Cx} {pins : List (Addr × Obj)} {σ : L2.St} {H : Hp}
end
end Lb
set_option Elab.async false
set_option linter.all false
set_option maxRecDepth 100000
set_option maxHeartbeats 4000000
namespace Lb
open PySem PySem.Spec PyProof.Rows L2 RZ TL
section
variable {X : Cx} {C : Addr} {k : Nat} {ps : List Str} {sp : Sp} {E : XK}
/-! ### bool(x) -/
/-! ### x[i] -/
/-! ### x != y -/
end
end Lb
namespace Lb
open PySem PySem.Spec PyProof.Rows L2 RZ TL
end Lb
namespace Lb
open PySem PySem.Spec PyProof.Rows L2 RZ TL
section
variable {X : Cx} {C : Addr} {k : Nat} {dv : V} {sp : Sp} {E : XK} {m : Str} {o e : Expr} {es : List Expr} {pos apos : Pos} {ta : TE} {t : TA} {pl : Sem Bool}
end
end Lb
namespace Lb
open PySem PySem.Spec PyProof.Rows L2 RZ TL
end Lb
namespace Lb
open PySem PySem.Spec PyProof.Rows L2 RZ TL
end Lb
set_option Elab.async false
set_option linter.all false
set_option maxRecDepth 100000
set_option maxHeartbeats 4000000
namespace Lb
open PySem PySem.Spec PyProof.Rows L2 RZ TL
end Lb
namespace Lb
open PySem PySem.Spec PyProof.Rows L2 RZ TL
end Lb
namespace Lb
open PySem PySem.Spec PyProof.Rows L2 RZ TL
end Lb
set_option Elab.async false
set_option linter.all false
set_option maxRecDepth 100000
set_option maxHeartbeats 4000000
namespace Lb
open PySem PySem.Spec PyProof.Rows L2 RZ TL
/-! ### desks: what is wrong with a market at a desk -/
end Lb
namespace Lb
open PySem PySem.Spec PyProof.Rows L2 RZ TL
/-- check_room(bag): the first good of which there is too much -/
def muchN (x : List Int) : Option Nat := lackN (List.replicate x.length 6) x 0
end Lb
namespace Lb
open PySem PySem.Spec PyProof.Rows L2 RZ TL
end Lb
namespace Lb
open PySem PySem.Spec PyProof.Rows L2 RZ TL
/-- the fields of a desk -/
def dskF (mv sv ow : V) (pl : Addr) : List (Str × V) := [("place", mv), ("present", sv), ("owed", ow), ("past", .ref pl)]
end Lb
set_option Elab.async false
set_option linter.all false
set_option maxRecDepth 100000
set_option maxHeartbeats 4000000
namespace Lb
open PySem PySem.Spec PyProof.Rows L2 RZ TL
/-! ### C.f(..), f a plain def of the class -/
section
variable {X : Cx} {C : Addr} {k : Nat} {sp : Sp} {E : XK} {m : Str} {o e : Expr} {es : List Expr} {pos apos : Pos} {ta : TE} {t : TA} {pl : Sem Bool}
end
end Lb
namespace Lb
open PySem PySem.Spec PyProof.Rows L2 RZ TL
end Lb
namespace Lb
open PySem PySem.Spec PyProof.Rows L2 RZ TL
end Lb
set_option Elab.async false
set_option linter.all false
set_option maxRecDepth 100000
set_option maxHeartbeats 4000000
namespace Lb
open PySem PySem.Spec PyProof.Rows L2 RZ TL
end Lb
set_option Elab.async false
set_option linter.all false
set_option maxRecDepth 100000
set_option maxHeartbeats 4000000
namespace Lb
open PySem PySem.Spec PyProof.Rows L2 RZ TL
mutual
/-- plain data without dicts, as == reads it -/
theorem Dat.dp {K : PySem.W.Frag} {R : Rgn} {H : Hp} : ∀ {v : V} {d : PyData}, Dat R H v d → d.hasDict = false → Dp K H v d
  | _, _, .non, _ => .non
  | _, _, .bl b, _ => .bl b
  | _, _, .int i, _ => .int i
  | _, _, .str x, _ => .str x
  | _, _, .tup (ds := ds) ra e h, hd => .tup (.inl (.inl e)) (Dats.dp h (by rw [PyData.hasDict] at hd; exact hd))
  | _, _, .lst (ds := ds) ra e h, hd => .lst (SqL.of e) (Dats.dp h (by rw [PyData.hasDict] at hd; exact hd))
  | _, _, .emp ra e, hd => by rw [PyData.hasDict] at hd; cases hd
theorem Dats.dp {K : PySem.W.Frag} {R : Rgn} {H : Hp} : ∀ {vs : List V} {ds : List PyData}, Dats R H vs ds → PyData.hasDictAll ds = false → DpAll K H vs ds
  | _, _, .nil, _ => .nil
  | _, _, .cons h t, hd => by
    rw [PyData.hasDictAll, Bool.or_eq_false_iff] at hd
    exact .cons (Dat.dp h hd.1) (Dats.dp t hd.2)
end
end Lb
set_option Elab.async false
set_option linter.all false
set_option maxRecDepth 100000
set_option maxHeartbeats 4000000
namespace Lb
open PySem PySem.Spec PyProof.Rows L2 RZ TL
/-! ### try with any number of clauses, with and without names -/
/-- an exception that has come down in the frame of X; behind it stands a state without it -/
structure Down (X : Cx) (pins : List (Addr × Obj)) (σ : L2.St) (H : Hp) (cls : Value) (d : Option Addr) (a : Addr) (s : Shared) : Prop where
  st : X.stack = X.env :: X.outer
  fr : X.env.frame = some X.env.locals
  ex : ∃ (G : Heap) (t : Shared), Inv X pins σ H t ∧ (∀ p ob, t.heap.get? p = some ob → p ∉ frs X.stack → G.get? p = some ob) ∧ t.heap.UpToSlots s.heap ∧
    HandSPX.FlyingZ G (X.env :: X.outer) a (Zc cls d) s.heap ∧ s.os = t.os ∧ AllBare s.gens
  no : H a = none
section
variable {X : Cx} {pins : List (Addr × Obj)} {σ : L2.St} {H : Hp} {cls : Value} {d : Option Addr} {a : Addr} {s : Shared}
theorem Down.inv (h : Down X pins σ H cls d a s) : Inv X pins σ H s := by
  obtain ⟨G, t, It, hG, hu, hfl, ho, hg⟩ := h.ex
  exact It.landed hG hfl.1 hu ho hg
/-- the suite of a clause can begin -/
theorem Down.begin (h : Down X pins σ H cls d a s) : ∃ ob, s.heap.get? a = some ob ∧ Zc cls d ob ∧ (∃ vs, ob.data = .fields vs) ∧ Inv (X.suite a ((a, ob) :: (X.pn ++ pins))) [] σ H s := by
  obtain ⟨G, t, It, hG, hu, hfl, ho, hg⟩ := h.ex
  obtain ⟨ob, vs, e, hz, hd⟩ := hfl.there
  have out : a ∉ frs (X.env :: X.outer) := by
    intro hm
    obtain ⟨_, ob', e', hnot⟩ := (hfl.2.2.1).mem hm
    rw [e] at e'
    cases e'
    exact hnot _ hd
  refine ⟨ob, e, hz, ⟨vs, hd⟩, h.inv.suite e hd h.no (fun z => out ?_) (fun hm => out ?_)⟩
  · exact List.mem_filterMap.mpr ⟨X.env, .head _, by rw [h.fr, z]⟩
  · obtain ⟨v, hv, q⟩ := List.mem_filterMap.mp hm
    exact List.mem_filterMap.mpr ⟨v, .tail _ hv, q⟩
theorem Down.again (h : Down X pins σ H cls d a s) {M : Model} {A : Around} {E : Value → Shared → Prop} {Q : Unit → Shared → Prop} (q : ∀ s', Down X pins σ H cls d a s' → Q () s') : wpAny M A (setFlight (.ref a) none) Q E s := by
  obtain ⟨G, t, It, hG, hu, hfl, ho, hg⟩ := h.ex
  exact HandSPX.lands_againZ hfl fun g gf gu => q _ ⟨h.st, h.fr, ⟨G, t, It, hG, hu.trans gu, gf, ho, hg⟩, h.no⟩
end
section
variable {X : Cx} {x n : Str} {c : Value} {i : Nat} {ss : List Stmt} {b : Stmt} {np pos : Pos} {hds : List ExceptHandler} {t : Addr → Value → Option Addr → TS} {w : Ends → WX} {W0 : WX}
/-- the clause's class is read and asked -/
theorem asks {pins : List (Addr × Obj)} {σ : L2.St} {H : Hp} {cls : Value} {d : Option Addr} {a : Addr} {s : Shared} {r : Bool} {Q : Value → Shared → Prop} {E : Value → Shared → Prop} (h : Down X pins σ H cls d a s) (nm : Names X x c) (q : Q c s) :
    wpAny (model X.prog X.w) (X.A.mark (some (.ref a))) (eval (.Name x np) X.env) Q E s := by
  obtain ⟨ob, _, _, _, S⟩ := h.begin
  obtain ⟨gx, nd, mx | ⟨mx, bx, nx⟩⟩ := nm
  · exact ld_glob (X := X.suite a ((a, ob) :: (X.pn ++ pins))) S gx mx q nd
  · exact ld_blt (X := X.suite a ((a, ob) :: (X.pn ++ pins))) S gx mx bx q nx nd
end
section
variable {X : Cx} {body : List Stmt} {h1 : ExceptHandler} {hds : List ExceptHandler} {pos : Pos} {tb : WX → TS} {w : Ends → WX}
end
end Lb
set_option Elab.async false
set_option linter.all false
set_option maxRecDepth 100000
set_option maxHeartbeats 4000000
namespace Lb
open PySem PySem.Spec PyProof.Rows L2 RZ TL
end Lb
set_option Elab.async false
set_option linter.all false
set_option maxRecDepth 100000
set_option maxHeartbeats 4000000
namespace Lb
open PySem PySem.Spec PyProof.Rows L2 RZ TL
/-! ### {x} of an own class -/
section
variable {X : Cx} {C : Addr} {k : Nat} {ps : List Str} {sp : Sp} {E : XK}
end
/-! ### x == y of two classes, x != y where the right one is of a subclass -/
section
variable {X : Cx} {C C2 : Addr} {k : Nat} {ps : List Str} {sp : Sp} {E : XK}
end
/-! ### the texts of desks -/
end Lb
namespace Lb
open PySem PySem.Spec PyProof.Rows L2 RZ TL
end Lb
set_option Elab.async false
set_option linter.all false
set_option maxRecDepth 100000
set_option maxHeartbeats 4000000
namespace Lb
open PySem PySem.Spec PyProof.Rows L2 RZ TL
/-! ### what the making of a desk must tell -/
/-- the goods of which there is too much -/
def great : List Int → Nat → List Nat
  | [], _ => []
  | a :: x, i => if 6 < a then i :: great x (i + 1) else great x (i + 1)
end Lb
set_option Elab.async false
set_option linter.all false
set_option maxRecDepth 100000
set_option maxHeartbeats 4000000
namespace Lb
open PySem PySem.Spec PyProof.Rows L2 RZ TL
/-! ### what the making of a desk tells -/
section
variable {K : PySem.W.Frag} {C CB CM CT CV CX x dx : Addr} {R : Rgn} {H : Hp} {Q : VK} {mv sv : V} {d : PyData} {row : Option (List Int)}
end
end Lb
set_option Elab.async false
set_option linter.all false
set_option maxRecDepth 100000
set_option maxHeartbeats 4000000
namespace Lb
open PySem PySem.Spec PyProof.Rows L2 RZ TL
end Lb
set_option Elab.async false
set_option linter.all false
set_option maxRecDepth 100000
set_option maxHeartbeats 4000000
namespace Lb
open PySem PySem.Spec PyProof.Rows L2 RZ TL
/-! ### desks and their deeds -/
/-- the pairs of stock and debt ahead of each deed -/
inductive PastV (C : Addr) (H : Hp) : List V → List (List Int × List Int) → Prop
  | nil : PastV C H [] []
  | cons {p b t o u : Addr} {x y : List Int} {vs : List V} {l : List (List Int × List Int)} (e : H p = some (.tup [.ref b, .ref o])) (hb : Bg C H b t x) (ho : Bg C H o u y) (r : PastV C H vs l) : PastV C H (.ref p :: vs) ((x, y) :: l)
theorem PastV.length {C : Addr} {H : Hp} : ∀ {vs : List V} {l : List (List Int × List Int)}, PastV C H vs l → vs.length = l.length
  | _, _, .nil => rfl
  | _, _, .cons _ _ _ r => by rw [List.length_cons, List.length_cons, r.length]
/-- what is no desk, no list is kept: enough for Bags and tuples -/
theorem PastV.keep {C : Addr} {H H' : Hp} (k : ∀ b o, (∃ xs, o = .tup xs) ∨ (∃ dx fs, o = .ins C dx fs) → H b = some o → H' b = some o) : ∀ {vs : List V} {l : List (List Int × List Int)}, PastV C H vs l → PastV C H' vs l
  | _, _, .nil => .nil
  | _, _, .cons e hb ho r => .cons (k _ _ (.inl ⟨_, rfl⟩) e) ⟨let ⟨dx, e⟩ := hb.ins; ⟨dx, k _ _ (.inr ⟨_, _, rfl⟩) e⟩, k _ _ (.inl ⟨_, rfl⟩) hb.tup⟩ ⟨let ⟨dx, e⟩ := ho.ins; ⟨dx, k _ _ (.inr ⟨_, _, rfl⟩) e⟩, k _ _ (.inl ⟨_, rfl⟩) ho.tup⟩ (r.keep k)
theorem PastV.append {C : Addr} {H : Hp} : ∀ {vs ws : List V} {l m : List (List Int × List Int)}, PastV C H vs l → PastV C H ws m → PastV C H (vs ++ ws) (l ++ m)
  | _, _, _, _, .nil, h => h
  | _, _, _, _, .cons e hb ho r, h => .cons e hb ho (r.append h)
theorem PastV.split {C : Addr} {H : Hp} : ∀ {vs : List V} {l : List (List Int × List Int)} {z : List Int × List Int}, PastV C H vs (l ++ [z]) → ∃ (ws : List V) (p b t o u : Addr), vs = ws ++ [.ref p] ∧ PastV C H ws l ∧ H p = some (.tup [.ref b, .ref o]) ∧ Bg C H b t z.1 ∧ Bg C H o u z.2
  | _, [], _, .cons e hb ho .nil => ⟨[], _, _, _, _, _, rfl, .nil, e, hb, ho⟩
  | _, _ :: l, z, .cons e hb ho r => by
    obtain ⟨ws, p, b, t, o, u, rfl, h1, h2, h3, h4⟩ := r.split (l := l) (z := z)
    exact ⟨_ :: ws, p, b, t, o, u, rfl, .cons e hb ho h1, h2, h3, h4⟩
/-- a desk at a: class, dict, market, more fields, stock, debt, past -/
structure DeskAt (K : PySem.W.Frag) (C CX : Addr) (H : Hp) (a dx pl : Addr) (mv : V) (more : List (Str × V)) (x y : List Int) (past : List (List Int × List Int)) : Prop where
  ex : ∃ (b t o u : Addr) (vs : List V), H a = some (.ins CX dx (dskF mv (.ref b) (.ref o) pl ++ more)) ∧ Bg C H b t x ∧ Bg C H o u y ∧ H pl = some (.lst vs) ∧ PastV C H vs past
  ne : C ≠ CX
/-- all is kept but a and pl -/
def Ke (a pl : Addr) (H H' : Hp) : Prop := ∀ b o, b ≠ a → b ≠ pl → H b = some o → H' b = some o
theorem Ke.of {a pl : Addr} {H H' : Hp} (s : Same H H') : Ke a pl H H' := fun b o _ _ e => s b o e
theorem Ke.trans {a pl : Addr} {H H1 H2 : Hp} (h : Ke a pl H H1) (k : Ke a pl H1 H2) : Ke a pl H H2 := fun b o n1 n2 e => k b o n1 n2 (h b o n1 n2 e)
theorem Bg.ke {C CX : Addr} {H H' : Hp} {a dx pl b t : Addr} {fs : List (Str × V)} {vs : List V} {x : List Int} (h : Bg C H b t x) (k : Ke a pl H H') (ne : C ≠ CX) (ea : H a = some (.ins CX dx fs)) (ep : H pl = some (.lst vs)) : Bg C H' b t x := by
  obtain ⟨db, eb⟩ := h.ins
  refine ⟨⟨db, k _ _ (fun z => ?_) (fun z => ?_) eb⟩, k _ _ (fun z => ?_) (fun z => ?_) h.tup⟩
  · rw [z, ea] at eb
    cases eb
    exact ne rfl
  · rw [z, ep] at eb
    cases eb
  · have := h.tup
    rw [z, ea] at this
    cases this
  · have := h.tup
    rw [z, ep] at this
    cases this
theorem DeskAt.same {K : PySem.W.Frag} {C CX : Addr} {H H' : Hp} {a dx pl : Addr} {mv : V} {more : List (Str × V)} {x y : List Int} {past : List (List Int × List Int)} (h : DeskAt K C CX H a dx pl mv more x y past) (s : Same H H') : DeskAt K C CX H' a dx pl mv more x y past := by
  obtain ⟨b, t, o, u, vs, h1, h2, h3, h4, h5⟩ := h.ex
  exact ⟨⟨b, t, o, u, vs, s _ _ h1, h2.same s, h3.same s, s _ _ h4, h5.keep fun b o _ e => s b o e⟩, h.ne⟩
end Lb
set_option Elab.async false
set_option linter.all false
set_option maxRecDepth 100000
set_option maxHeartbeats 4000000
namespace Lb
open PySem PySem.Spec PyProof.Rows L2 RZ TL
abbrev plusZ (x z : List Int) : List Int := List.zipWith (· + ·) x z
abbrev lessZ (x z : List Int) : List Int := List.zipWith (· - ·) x z
abbrev joinZ (x z : List Int) : List Int := List.zipWith maxI x z
/-- more fields of a desk: none, or the cap -/
def MoreOk (more : List (Str × V)) : Prop := more = [] ∨ ∃ v : V, more = [(("most" : Str), v)]
theorem MoreOk.len {more : List (Str × V)} (h : MoreOk more) : more.length ≤ 1 := by
  rcases h with rfl | ⟨v, rfl⟩
  · exact Nat.zero_le _
  · exact Nat.le_refl _
theorem MoreOk.all {more : List (Str × V)} (h : MoreOk more) : ∀ p ∈ more, p.1 = ("most" : Str) := by
  rcases h with rfl | ⟨v, rfl⟩
  · exact fun p hp => absurd hp List.not_mem_nil
  · exact fun p hp => by rw [List.mem_singleton.mp hp]
/-- no field has the name of a method -/
theorem MoreOk.no {more : List (Str × V)} (h : MoreOk more) {mv s o : V} {pl : Addr} {m : Str} (n1 : m ≠ "place") (n2 : m ≠ "present") (n3 : m ≠ "owed") (n4 : m ≠ "past") (n5 : m ≠ "most") : (dskF mv s o pl ++ more).lookup m = none := by
  have b : ∀ {x y : Str}, x ≠ y → (x == y) = false := fun {x y} h => by simpa using h
  rcases h with rfl | ⟨v, rfl⟩
  · show List.lookup m [("place", mv), ("present", s), ("owed", o), ("past", .ref pl)] = none
    simp only [List.lookup, b n1, b n2, b n3, b n4]
  · show List.lookup m [("place", mv), ("present", s), ("owed", o), ("past", .ref pl), ("most", v)] = none
    simp only [List.lookup, b n1, b n2, b n3, b n4, b n5]
end Lb
set_option Elab.async false
set_option linter.all false
set_option maxRecDepth 100000
set_option maxHeartbeats 4000000
namespace Lb
open PySem PySem.Spec PyProof.Rows L2
/-! ### the law's end where several defs make lambdas -/
/-- the law's promise, the tables of cs empty -/
def spLawS (K : PySem.W.Frag) (cs : List (Addr × Addr)) : Sp := fun vs H Q _ => ∃ (a : Addr) (ns : List Int), vs = [.ref a] ∧ SqL K H a (ns.map V.int) ∧ ns.length ≤ 63 ∧ (∀ q ∈ cs, H q.2 = some (.tbl #[])) ∧ ∀ H', Q (.bl true) H'
section
variable {P : Program} {w : World} {K : PySem.W.Frag} {mg mb : Str → Option Value} {CX : CXT} {k : Nat} {fa a : Addr} {cs : List (Addr × Addr)} {fd : FuncData} {x : Str} {sp : Sp} {s1 : Shared} {vs : List Value} {ns : List Int}
/-- b is one of the tables -/
def InTb (cs : List (Addr × Addr)) (b : Addr) : Prop := ∃ q ∈ cs, b = q.2
theorem go_tabs {H : Hp} (kin : K.In s1.heap) (hns : s1.heap.Ns mainGlobals mg) (hb : s1.heap.Ns builtinsNs mb) (hbb : ∀ x : Str, x ≠ "__name__" → mb x = bootBuiltins x) (hlim : s1.heap.NoLimit) (hg : s1.gens = #[])
    (hTs : ∀ q ∈ cs, s1.heap.get? q.2 = some { cls := .none, data := .fields #[] }) (nTs : ∀ q ∈ cs, K.lookup q.2 = none) (Cs : ∀ q ∈ cs, PySem.W.CodeHd s1.heap q.1 q.2)
    (hbm : ∃ (bm : Addr) (ob : Obj), mg "__builtins__" = some (.ref bm) ∧ bm ≠ builtinsNs ∧ s1.heap.get? bm = some ob ∧ ob.cls = .type "module" ∧ ob.dict = some builtinsNs ∧ ob.data = .plain)
    (ha : s1.heap.get? a = some { cls := .type "list", data := .seq vs.toArray }) (hr : Room k callerA)
    (F : ∀ base : Heap, K.In base → base.Ns mainGlobals mg → (∀ q ∈ cs, LamX.TabB base mg q.1 q.2) → FnG P w K mg base CX k fa fd [x] sp) (hbind : ∀ (s : Shared) (u : Value), BindsTo s fd ⟨[u], []⟩ [(x, u)])
    (hPs : ∀ q ∈ cs, H q.2 = some (.tbl #[])) (only : ∀ b, H b = none ∨ InTb cs b ∨ ∃ o xs, H b = some (.frz o (.lst xs))) (hok : HOk P w H s1.heap) (hA : ∀ b, H b ≠ none → b = a ∨ InTb cs b) (hK : H a ≠ none → K.lookup a = none)
    (hsp : sp [.ref a] H (fun v _ => v = .bl true) fun _ _ _ => False) (hCX : ∀ e s', CX [] H s1 (fun _ _ _ => False) e s' → False) :
    codeAny (model P w) callerA (.call (.ref fa) ⟨[.ref a], []⟩) (LawEnd s1) s1 := by
  have isA : ∀ {b : Addr} {u : HO}, H b = some u → b = a ∨ InTb cs b := fun {b u} e => hA b (by rw [e]; exact fun z => nomatch z)
  -- what is neither the script nor a table is hidden from nobody
  have free : ∀ {b : Addr} {o : Obj}, s1.heap.get? b = some o → (∀ us n, o.data ≠ .seq us n) → o.data ≠ .fields #[] → H b = none := by
    intro b o e d1 d2
    cases q : H b with
    | none => rfl
    | some u =>
      rcases isA q with eb | ⟨p, hp, eb⟩
      · subst eb
        rw [ha] at e
        cases e
        exact absurd rfl (d1 _ _)
      · subst eb
        rw [hTs p hp] at e
        cases e
        exact absurd rfl d2
  have ns : ∀ {b : Addr} {m : Str → Option Value}, s1.heap.Ns b m → (hidT s1.heap H).Ns b m := by
    rintro b m ⟨o, es, ep, e, d, r⟩
    exact ⟨o, es, ep, hidT_get e (free e (fun us n z => by rw [d] at z; cases z) (fun z => by rw [d] at z; cases z)), d, r⟩
  have kb : K.In (hidT s1.heap H) := by
    intro b o e
    refine hidT_get (kin b o e) ?_
    cases q : H b with
    | none => rfl
    | some u =>
      rcases isA q with eb | ⟨p, hp, eb⟩
      · subst eb
        rw [hK (by rw [q]; exact fun z => nomatch z)] at e
        cases e
      · rw [eb, nTs p hp] at e
        cases e
  have tbs : ∀ p ∈ cs, LamX.TabB (hidT s1.heap H) mg p.1 p.2 := by
    intro p hp
    have hT := hTs p hp
    refine ⟨?_, ?_, fun z => ?_⟩
    · obtain ⟨o, us, file, tf, flags, tg, inF, text, tt, e1, r1, r2, r3, rest⟩ := Cs p hp
      refine ⟨o, us, file, tf, flags, tg, inF, text, tt, hidT_get e1 (free e1 (fun us n z => by rw [r2] at z; cases z) fun z => ?_), r1, r2, r3, rest⟩
      rw [r2] at z
      cases z
      simp at r3
    · obtain ⟨bm, ob, b1, b2, b3, b4, b5, b6⟩ := hbm
      refine ⟨bm, ob, b1, b2, fun z => ?_, fun z => ?_, hidT_get b3 (free b3 (fun us n z => by rw [b6] at z; cases z) (fun z => by rw [b6] at z; cases z)), b4, b5, b6⟩
      · obtain ⟨o, es, ep, e, d, _⟩ := hns
        rw [z, e] at b3
        cases b3
        rw [d] at b6
        cases b6
      · rw [z, hT] at b3
        cases b3
        cases b6
    · obtain ⟨o, es, ep, e, d, _⟩ := hns
      rw [z, hT] at e
      cases e
      cases d
  obtain ⟨mc, n1, n2⟩ := hlim
  have md : Mod K mg (hidT s1.heap H) := ⟨kb, ns hns, ⟨mb, ns hb, hbb⟩, ⟨mc, ns n1, n2⟩⟩
  have e0 : Env0 P w K mg (hidT s1.heap H) callerA [] s1 H :=
    ⟨rfl, md, fun b o e => of_hidT e, Nat.le_of_eq (hidT_size _ _), trivial, fun b hb => absurd (show b ∈ ([] : List Addr) from hb) (by simp), hok, .of_eq hg⟩
  refine codeAny_mono ((F _ kb (ns hns) tbs).run callerA [] s1 H ⟨[.ref a], []⟩ [.ref a] [.ref a] _ _ rfl hr e0 (hbind s1 (.ref a)) (.cons rfl .nil) hsp) fun r s' h => ?_
  cases r with
  | error e => exact (hCX e s' h).elim
  | ok fl =>
    cases fl with
    | next => exact h.elim
    | brk => exact h.elim
    | cont => exact h.elim
    | ret u =>
      obtain ⟨v, H', os, bare, un, hok', ru, q⟩ := h
      have ev : v = .bl true := q
      subst ev
      obtain rfl : u = Value.bool true := ru
      have key : ∀ b o, ¬ InTb cs b → s1.heap.get? b = some o → s'.heap.get? b = some o := by
        intro b o nb e
        rcases only b with z | z | ⟨ob, xs, z⟩
        · exact un.keep b o e z (fun m => absurd (show b ∈ ([] : List Addr) from m) (by simp)) (by simp)
        · exact absurd z nb
        · obtain ⟨g1, _⟩ := hok b _ z
          obtain ⟨g2, _⟩ := hok' b _ (un.frzs b ob _ z)
          rw [e] at g1
          cases g1
          exact g2
      have hm : ∀ p ∈ cs, ∃ more : Array Value, s'.heap.get? p.2 = some { cls := .none, data := .fields more } := by
        intro p hp
        obtain ⟨more, z⟩ := un.tbls p.2 #[] (hPs p hp)
        exact ⟨_, hok' p.2 _ z⟩
      refine ⟨rfl, ⟨fun b o e => ?_, fun b o e => ?_⟩, os, bare⟩
      · rcases Classical.em (InTb cs b) with ⟨p, hp, eb⟩ | hn
        · subst eb
          obtain ⟨more, hm⟩ := hm p hp
          rw [hTs p hp] at e
          cases e
          exact .inr (.inl ⟨((Cs p hp).tab (hTs p hp)).isCodeTable, rfl, #[], more, rfl, by rw [Array.empty_append]; exact hm⟩)
        · exact .inl (key b o hn e)
      · rcases Classical.em (InTb cs b) with ⟨p, hp, eb⟩ | hn
        · subst eb
          obtain ⟨more, hm⟩ := hm p hp
          exact ⟨_, hm⟩
        · exact ⟨o, key b o hn e⟩
theorem law_tabs (kin : K.In s1.heap) (hns : s1.heap.Ns mainGlobals mg) (hb : s1.heap.Ns builtinsNs mb) (hbb : ∀ x : Str, x ≠ "__name__" → mb x = bootBuiltins x) (hlim : s1.heap.NoLimit) (hg : s1.gens = #[])
    (hTs : ∀ q ∈ cs, s1.heap.get? q.2 = some { cls := .none, data := .fields #[] }) (nTs : ∀ q ∈ cs, K.lookup q.2 = none) (Cs : ∀ q ∈ cs, PySem.W.CodeHd s1.heap q.1 q.2)
    (hbm : ∃ (bm : Addr) (ob : Obj), mg "__builtins__" = some (.ref bm) ∧ bm ≠ builtinsNs ∧ s1.heap.get? bm = some ob ∧ ob.cls = .type "module" ∧ ob.dict = some builtinsNs ∧ ob.data = .plain)
    (ha : s1.heap.get? a = some { cls := .type "list", data := .seq vs.toArray }) (hi : IntsAre vs ns) (hl : ns.length ≤ sizeLine) (hr : Room k callerA)
    (F : ∀ base : Heap, K.In base → base.Ns mainGlobals mg → (∀ q ∈ cs, LamX.TabB base mg q.1 q.2) → FnG P w K mg base CX k fa fd [x] sp) (hbind : ∀ (s : Shared) (u : Value), BindsTo s fd ⟨[u], []⟩ [(x, u)])
    (hsp : ∀ H : Hp, (∀ q ∈ cs, H q.2 = some (.tbl #[])) → SqL K H a (ns.map V.int) → sp [.ref a] H (fun v _ => v = .bl true) fun _ _ _ => False)
    (hCX : ∀ H e s', CX [] H s1 (fun _ _ _ => False) e s' → False) : codeAny (model P w) callerA (.call (.ref fa) ⟨[.ref a], []⟩) (LawEnd s1) s1 := by
  classical
  have rv := vals_ints hi
  have nP : ¬ InTb cs a := fun ⟨p, hp, z⟩ => by
    rw [z, hTs p hp] at ha
    exact nomatch (show Data.fields #[] = Data.seq vs.toArray _ from congrArg Obj.data (Option.some.inj ha))
  cases hk : K.lookup a with
  | some o =>
    have e := kin a o hk
    rw [ha] at e
    cases e
    let H0 : Hp := fun b => if InTb cs b then some (.tbl #[]) else none
    have atP : ∀ {b : Addr}, InTb cs b → H0 b = some (.tbl #[]) := fun h => if_pos h
    have off : ∀ {b : Addr}, ¬ InTb cs b → H0 b = none := fun h => if_neg h
    refine go_tabs (H := H0) kin hns hb hbb hlim hg hTs nTs Cs hbm ha hr F hbind (fun q hq => atP ⟨q, hq, rfl⟩) (fun b => ?_) (fun b u z => ?_) (fun b z => ?_) (fun z => absurd (off nP) z) (hsp _ (fun q hq => atP ⟨q, hq, rfl⟩) (.inr ⟨_, vs.toArray, _, hk, rfl, rfl, rfl, ?_, by simpa using rv⟩)) fun e s' => hCX _ e s'
    · rcases Classical.em (InTb cs b) with h | h
      · exact .inr (.inl h)
      · exact .inl (off h)
    · rcases Classical.em (InTb cs b) with h | h
      · rw [atP h] at z
        cases z
        obtain ⟨p, hp, rfl⟩ := h
        exact hTs p hp
      · rw [off h] at z
        cases z
    · exact .inr (Classical.byContradiction fun h => z (off h))
    · rw [List.size_toArray, hi.length]
      exact hl
  | none =>
    let H1 : Hp := fun b => if b = a then some (.frz { cls := .type "list", data := .seq vs.toArray } (.lst (ns.map V.int))) else if InTb cs b then some (.tbl #[]) else none
    have at_a : H1 a = some (.frz { cls := .type "list", data := .seq vs.toArray } (.lst (ns.map V.int))) := if_pos rfl
    have atP : ∀ {b : Addr}, InTb cs b → H1 b = some (.tbl #[]) := fun {b} h => (if_neg (fun z : b = a => nP (z ▸ h))).trans (if_pos h)
    have off : ∀ {b : Addr}, b ≠ a → ¬ InTb cs b → H1 b = none := fun h1 h2 => (if_neg h1).trans (if_neg h2)
    refine go_tabs (H := H1) kin hns hb hbb hlim hg hTs nTs Cs hbm ha hr F hbind (fun q hq => atP ⟨q, hq, rfl⟩) (fun b => ?_) (fun b u z => ?_) (fun b z => ?_) (fun _ => hk) (hsp _ (fun q hq => atP ⟨q, hq, rfl⟩) (.inl (.inr ⟨_, at_a⟩))) fun e s' => hCX _ e s'
    · by_cases h : b = a
      · rw [h]
        exact .inr (.inr ⟨_, _, at_a⟩)
      · rcases Classical.em (InTb cs b) with h2 | h2
        · exact .inr (.inl h2)
        · exact .inl (off h h2)
    · by_cases h : b = a
      · subst h
        rw [at_a] at z
        cases z
        exact ⟨ha, by rw [List.length_map]; exact hl, vs, _, rv, ha⟩
      · rcases Classical.em (InTb cs b) with h2 | h2
        · rw [atP h2] at z
          cases z
          obtain ⟨p, hp, rfl⟩ := h2
          exact hTs p hp
        · rw [off h h2] at z
          cases z
    · by_cases h : b = a
      · exact .inl h
      · exact .inr (Classical.byContradiction fun h2 => z (off h h2))
end
/-- what is known of a law in which some defs make lambdas, at the head's heap -/
def LawTs (l : PySem.W.OpenLaw) (w : World) (K : PySem.W.Frag) (k : Nat) (x : Str) (mg : Str → Option Value) (fa : Addr) (h : Heap) : Prop :=
  ∃ (fd : FuncData) (cs : List (Addr × Addr)), (∀ q ∈ cs, h.get? q.2 = some { cls := .none, data := .fields #[] }) ∧ (∀ q ∈ cs, K.lookup q.2 = none) ∧ (∀ q ∈ cs, PySem.W.CodeHd h q.1 q.2) ∧ (∀ (s : Shared) (u : Value), BindsTo s fd ⟨[u], []⟩ [(x, u)]) ∧
    ∀ base : Heap, K.In base → base.Ns mainGlobals mg → (∀ q ∈ cs, LamX.TabB base mg q.1 q.2) → FnG l.prog w K mg base CX0 k fa fd [x] (spLawS K cs)
theorem walk_gTs {l : PySem.W.OpenLaw} {k : Nat} {q : Program} {loose : List Str} {XP : (Str → Option Value) → Heap → Prop} {YP : World → Heap → Prop} {d : DefRec} {K : Params → PySem.W.Frag} {x : Str} (names : List Str)
    (hn : l.most = some 63) (hdf : d.params.defaults = []) (hr : Room k callerA) (hrec : (names.all fun y => (recsOf q).any fun e => e.name == y) = true) (hY : ∀ (w : World) (h : Heap), YP w h → (K w.params).In h)
    (F : ∀ (w : World) (mg : Str → Option Value) (fa : Addr) (h : Heap), (K w.params).In h → h.Ns mainGlobals mg → mg d.name = some (.ref fa) → (∀ y ∈ names, ∀ f, mg y = some (.ref f) → LamX.OwnTab (K w.params) f h) → LawTs l w (K w.params) k x mg fa h) :
    PySem.W.WalkO q loose XP YP l.row.toRowW d [] (fun f vs => PySem.call f vs) := by
  refine Att.attach_call hn hdf fun w s0 s1 mg mb fa o pm cd doc a vs ns G Y ho hd hcd hmg hobj hints hlen hg => ?_
  have kin := hY w _ Y
  have own : ∀ y ∈ names, ∀ f, mg y = some (.ref f) → LamX.OwnTab (K w.params) f s1.heap := by
    intro y hy f hf c P o1 fd1 e dd vs1 sl k1 k2 k3 k4 k5
    obtain ⟨dL, hm, hnm⟩ := List.any_eq_true.mp (List.all_eq_true.mp hrec y hy)
    obtain ⟨a', o', fd', c', P', h1, h2, h3, h4, h5, ⟨oc, vc, e1, _, e3, e4⟩, hP⟩ := G.T.tab dL hm
    rw [beq_iff_eq.mp hnm, hf] at h1
    cases h1
    rw [kin _ _ k1] at h2
    cases h2
    rw [k2] at h3
    cases h3
    rw [k3] at h4
    cases h4
    rw [kin _ _ k4] at e1
    cases e1
    cases e3
    rw [k5] at e4
    cases e4
    exact hP
  obtain ⟨fd, cs, hT, nT, C, hb, hF⟩ := F w mg fa _ kin G.T.g hmg own
  exact law_tabs kin G.T.g G.T.b G.T.builtins G.T.nolimit hg hT nT C G.T.bmain hobj hints (Nat.le_trans hlen (by decide)) hr hF hb (fun H hP hS => ⟨a, ns, rfl, hS, hlen, hP, fun _ => rfl⟩) fun H e s' h => h
/-! ### o.m(e, .., k = v, ..) of an own class -/
end Lb
set_option Elab.async false
set_option linter.all false
set_option maxRecDepth 100000
set_option maxHeartbeats 4000000
namespace Lb
open PySem PySem.Spec PyProof.Rows L2 RZ TL
/-! ### what comes of a deed -/
/-- stock, debt, and the pairs of them ahead of each deed that stands -/
structure DS where
  x : List Int
  y : List Int
  past : List (List Int × List Int)
/-- what a deed comes to -/
inductive Oc
  | trade (v : V) | times (v : V) | lacking (k : Nat) | owed (k : Nat) | much (k : Nat) | bag | cap | nothing
  | did (s : DS) | undid (s : DS)
def Oc.vals : Oc → List V
  | .trade v => [.str "trade", v]
  | .times v => [.str "times", v]
  | .lacking k => [.str "lacking", .int (k : Int)]
  | .owed k => [.str "owed", .int (k : Int)]
  | .much k => [.str "much", .int (k : Int)]
  | .bag => [.str "bag"]
  | .cap => [.str "cap"]
  | .nothing => [.str "nothing"]
  | .did s => [.str "ok", .int (s.past.length : Int)]
  | .undid _ => [.str "ok", .non]
def Oc.next (s : DS) : Oc → DS
  | .did s' => s'
  | .undid s' => s'
  | _ => s
/-- a deed is done, if no amount is too great -/
def keptO (s : DS) (x y : List Int) : Oc := match muchN (joinZ x y) with
  | some k => .much k
  | none => .did ⟨x, y, s.past ++ [(s.x, s.y)]⟩
def borrowO (g : Nat) (cap : Option Int) (s : DS) : Option (List Int) → Oc
  | none => .bag
  | some z => if z.length = g then (match cap with
    | some c => if c < s.y.sum + z.sum then .cap else keptO s (plusZ s.x z) (plusZ s.y z)
    | none => keptO s (plusZ s.x z) (plusZ s.y z)) else .bag
def payO (g : Nat) (s : DS) : Option (List Int) → Oc
  | none => .bag
  | some z => if z.length = g then (match lackN s.y z 0 with
    | some k => .owed k
    | none => match lackN s.x z 0 with
      | some k => .lacking k
      | none => keptO s (lessZ s.x z) (lessZ s.y z)) else .bag
def undoO (s : DS) : Oc := match s.past.getLast? with
  | none => .nothing
  | some z => .undid ⟨z.1, z.2, s.past.dropLast⟩
/-- so many times: what is lacking, or the stock that is left -/
def tradeL : Nat → List Int → List Int → List Int → Nat ⊕ List Int
  | 0, _, _, x => .inr x
  | n + 1, a, b, x => match lackN x a 0 with
    | some k => .inl k
    | none => tradeL n a b (plusZ (lessZ x a) b)
/-- the trade of this index -/
def trdAt (ts : List Trd) : Option Int → Option Trd
  | none => none
  | some k => if 0 ≤ k ∧ k < (ts.length : Int) then ts[k.toNat]? else none
def timesOf : Option Int → Option Nat
  | none => none
  | some k => if 1 ≤ k ∧ k ≤ 9 then some k.toNat else none
def tradeO (ts : List Trd) (s : DS) (kv tv : V) (kz tz : Option Int) (back : Bool) : Oc := match trdAt ts kz with
  | none => .trade kv
  | some t => match timesOf tz with
    | none => .times tv
    | some n => match tradeL n (if back then t.2 else t.1) (if back then t.1 else t.2) s.x with
      | .inl k => .lacking k
      | .inr x => keptO s x s.y
/-- the state of a desk in a market of g goods -/
structure DsOk (g : Nat) (s : DS) : Prop where
  lx : s.x.length = g
  ly : s.y.length = g
  ax : ∀ v ∈ s.x, 0 ≤ v ∧ v ≤ 6
  ay : ∀ v ∈ s.y, 0 ≤ v ∧ v ≤ 6
  ap : ∀ p ∈ s.past, (p.1.length = g ∧ ∀ v ∈ p.1, 0 ≤ v ∧ v ≤ 6) ∧ (p.2.length = g ∧ ∀ v ∈ p.2, 0 ≤ v ∧ v ≤ 6)
end Lb
set_option Elab.async false
set_option linter.all false
set_option maxRecDepth 100000
set_option maxHeartbeats 4000000
namespace Lb
open PySem PySem.Spec PyProof.Rows L2 RZ TL
/-! ### what stays: tuples and Bags -/
def KC (C : Addr) (H H' : Hp) : Prop := ∀ b o, (∃ xs, o = .tup xs) ∨ (∃ dx fs, o = .ins C dx fs) → H b = some o → H' b = some o
theorem KC.of {C : Addr} {H H' : Hp} (s : Same H H') : KC C H H' := fun b o _ e => s b o e
theorem KC.trans {C : Addr} {H H1 H2 : Hp} (h : KC C H H1) (k : KC C H1 H2) : KC C H H2 := fun b o t e => k b o t (h b o t e)
theorem KC.extN {C : Addr} {H H' : Hp} (k : LamX.ExtN H H') : KC C H H' := fun b o t e => k b o e fun ps z => by
  rcases t with ⟨xs, q⟩ | ⟨dx, fs, q⟩ <;> rw [q] at z <;> cases z
/-- two objects that are neither change -/
theorem KC.two {C : Addr} {H H' : Hp} {a b : Addr} {oa ob : HO} (ea : H a = some oa) (eb : H b = some ob) (na : ∀ xs, oa ≠ .tup xs) (na' : ∀ dx fs, oa ≠ .ins C dx fs) (nb : ∀ xs, ob ≠ .tup xs) (nb' : ∀ dx fs, ob ≠ .ins C dx fs) (k : ∀ c o, c ≠ a → c ≠ b → H c = some o → H' c = some o) : KC C H H' := by
  intro c o t e
  refine k c o (fun z => ?_) (fun z => ?_) e
  · rw [z, ea] at e
    cases e
    rcases t with ⟨xs, q⟩ | ⟨dx, fs, q⟩
    · exact na xs q
    · exact na' dx fs q
  · rw [z, eb] at e
    cases e
    rcases t with ⟨xs, q⟩ | ⟨dx, fs, q⟩
    · exact nb xs q
    · exact nb' dx fs q
theorem KC.lists {C : Addr} {H H' : Hp} {a b : Addr} {us vs : List V} (ea : H a = some (.lst us)) (eb : H b = some (.lst vs)) (k : ∀ c o, c ≠ a → c ≠ b → H c = some o → H' c = some o) : KC C H H' :=
  KC.two ea eb (fun _ z => nomatch z) (fun _ _ z => nomatch z) (fun _ z => nomatch z) (fun _ _ z => nomatch z) k
theorem KC.kp {C : Addr} {H H' : Hp} {d c r : Addr} {n : Nat} (dk : Dk H d c r n) (k : Kp d r H H') : KC C H H' := by
  obtain ⟨_, _, _, _, _, _, _, _, _, _, e1, _, e3⟩ := dk
  exact KC.lists e1 e3 k
theorem KC.desk {C CX : Addr} {H H' : Hp} {a pl dx : Addr} {fs : List (Str × V)} {vs : List V} (ea : H a = some (.ins CX dx fs)) (ep : H pl = some (.lst vs)) (ne : C ≠ CX) (k : Ke a pl H H') : KC C H H' :=
  KC.two ea ep (fun _ z => nomatch z) (fun _ _ z => by cases z; exact ne rfl) (fun _ z => nomatch z) (fun _ _ z => nomatch z) k
theorem Bg.kc {C : Addr} {H H' : Hp} {b t : Addr} {x : List Int} (h : Bg C H b t x) (k : KC C H H') : Bg C H' b t x := ⟨let ⟨dx, e⟩ := h.ins; ⟨dx, k _ _ (.inr ⟨_, _, rfl⟩) e⟩, k _ _ (.inl ⟨_, rfl⟩) h.tup⟩
theorem PastV.kc {C : Addr} {H H' : Hp} {vs : List V} {l : List (List Int × List Int)} (h : PastV C H vs l) (k : KC C H H') : PastV C H' vs l := h.keep k
theorem KC.tup {C : Addr} {H H' : Hp} (k : KC C H H') {b : Addr} {xs : List V} (e : H b = some (.tup xs)) : H' b = some (.tup xs) := k _ _ (.inl ⟨_, rfl⟩) e
/-! ### markets as tuples -/
inductive TrdsV (H : Hp) : List V → List Trd → Prop
  | nil : TrdsV H [] []
  | cons {p u v : Addr} {x y : List Int} {vs : List V} {ts : List Trd} (e : H p = some (.tup [.ref u, .ref v])) (eu : H u = some (.tup (x.map V.int))) (ev : H v = some (.tup (y.map V.int))) (r : TrdsV H vs ts) : TrdsV H (.ref p :: vs) ((x, y) :: ts)
theorem TrdsV.kc {C : Addr} {H H' : Hp} (k : KC C H H') : ∀ {vs : List V} {ts : List Trd}, TrdsV H vs ts → TrdsV H' vs ts
  | _, _, .nil => .nil
  | _, _, .cons e eu ev r => .cons (k.tup e) (k.tup eu) (k.tup ev) (r.kc k)
theorem TrdsV.length {H : Hp} : ∀ {vs : List V} {ts : List Trd}, TrdsV H vs ts → vs.length = ts.length
  | _, _, .nil => rfl
  | _, _, .cons _ _ _ r => by rw [List.length_cons, List.length_cons, r.length]
theorem TrdsV.get {H : Hp} : ∀ {vs : List V} {ts : List Trd} {i : Nat} {t : Trd}, TrdsV H vs ts → ts[i]? = some t → ∃ p u v, vs[i]? = some (.ref p) ∧ H p = some (.tup [.ref u, .ref v]) ∧ H u = some (.tup (t.1.map V.int)) ∧ H v = some (.tup (t.2.map V.int))
  | _, _, 0, _, .cons e eu ev r, h => by
    cases h
    exact ⟨_, _, _, rfl, e, eu, ev⟩
  | _, _, i + 1, _, .cons e eu ev r, h => TrdsV.get (i := i) r h
theorem TrdsV.dats {R : Rgn} {H : Hp} (R1 : ∀ b xs, H b = some (.tup xs) → R b) : ∀ {vs : List V} {ts : List Trd}, TrdsV H vs ts → Dats R H vs (ts.map trdD)
  | _, _, .nil => .nil
  | _, _, .cons e eu ev r => .cons (.tup (R1 _ _ e) e (.cons (Dat.mkBag (R1 _ _ eu) eu) (.cons (Dat.mkBag (R1 _ _ ev) ev) .nil))) (r.dats R1)
theorem TrdsV.of {R : Rgn} {H : Hp} : ∀ {vs : List V} {ts : List Trd}, Dats R H vs (ts.map trdD) → TrdsV H vs ts
  | [], [], _ => .nil
  | _, [], .nil => .nil
  | _, (x, y) :: ts, .cons h t => by
    cases h with
    | tup ra e h =>
      cases h with
      | cons h1 h2 =>
        cases h2 with
        | cons h2 h3 =>
          cases h3
          obtain ⟨u, rfl, _, eu⟩ := Dat.bag h1
          obtain ⟨v, rfl, _, ev⟩ := Dat.bag h2
          exact .cons e eu ev (TrdsV.of t)
/-- a market -/
def MkV (H : Hp) (mv : V) (g : Nat) (ts : List Trd) : Prop := ∃ (m tt : Addr) (vs : List V), mv = .ref m ∧ H m = some (.tup [.int (g : Int), .ref tt]) ∧ H tt = some (.tup vs) ∧ TrdsV H vs ts
theorem MkV.kc {C : Addr} {H H' : Hp} {mv : V} {g : Nat} {ts : List Trd} (h : MkV H mv g ts) (k : KC C H H') : MkV H' mv g ts := by
  obtain ⟨m, tt, vs, rfl, e1, e2, h⟩ := h
  exact ⟨m, tt, vs, rfl, k.tup e1, k.tup e2, h.kc k⟩
theorem MkV.dat {R : Rgn} {H : Hp} {mv : V} {g : Nat} {ts : List Trd} (h : MkV H mv g ts) (R1 : ∀ b xs, H b = some (.tup xs) → R b) : Dat R H mv (mktD g ts) := by
  obtain ⟨m, tt, vs, rfl, e1, e2, h⟩ := h
  exact .tup (R1 _ _ e1) e1 (.cons (.int _) (.cons (.tup (R1 _ _ e2) e2 (h.dats R1)) .nil))
theorem MkV.of {R : Rgn} {H : Hp} {mv : V} {g : Nat} {ts : List Trd} (h : Dat R H mv (mktD g ts)) : MkV H mv g ts := by
  cases h with
  | tup ra e h =>
    cases h with
    | cons h1 h2 =>
      cases h1
      cases h2 with
      | cons h2 h3 =>
        cases h3
        cases h2 with
        | tup rb e2 h => exact ⟨_, _, _, rfl, e, e2, TrdsV.of h⟩
/-! ### the law's own keeping -/
inductive PstV (H : Hp) : List V → List (List Int × List Int) → Prop
  | nil : PstV H [] []
  | cons {p t u : Addr} {x y : List Int} {vs : List V} {l : List (List Int × List Int)} (e : H p = some (.tup [.ref t, .ref u])) (e1 : H t = some (.tup (x.map V.int))) (e2 : H u = some (.tup (y.map V.int))) (r : PstV H vs l) : PstV H (.ref p :: vs) ((x, y) :: l)
theorem PstV.kc {C : Addr} {H H' : Hp} (k : KC C H H') : ∀ {vs : List V} {l : List (List Int × List Int)}, PstV H vs l → PstV H' vs l
  | _, _, .nil => .nil
  | _, _, .cons e e1 e2 r => .cons (k.tup e) (k.tup e1) (k.tup e2) (r.kc k)
theorem PstV.length {H : Hp} : ∀ {vs : List V} {l : List (List Int × List Int)}, PstV H vs l → vs.length = l.length
  | _, _, .nil => rfl
  | _, _, .cons _ _ _ r => by rw [List.length_cons, List.length_cons, r.length]
theorem PstV.append {H : Hp} : ∀ {vs ws : List V} {l m : List (List Int × List Int)}, PstV H vs l → PstV H ws m → PstV H (vs ++ ws) (l ++ m)
  | _, _, _, _, .nil, h => h
  | _, _, _, _, .cons e e1 e2 r, h => .cons e e1 e2 (r.append h)
theorem PstV.split {H : Hp} : ∀ {vs : List V} {l : List (List Int × List Int)} {z : List Int × List Int}, PstV H vs (l ++ [z]) → ∃ (ws : List V) (p t u : Addr), vs = ws ++ [.ref p] ∧ PstV H ws l ∧ H p = some (.tup [.ref t, .ref u]) ∧ H t = some (.tup (z.1.map V.int)) ∧ H u = some (.tup (z.2.map V.int))
  | _, [], _, .cons e e1 e2 .nil => ⟨[], _, _, _, rfl, .nil, e, e1, e2⟩
  | _, _ :: l, z, .cons e e1 e2 r => by
    obtain ⟨ws, p, t, u, rfl, h1, h2, h3, h4⟩ := r.split (l := l) (z := z)
    exact ⟨_ :: ws, p, t, u, rfl, .cons e e1 e2 h1, h2, h3, h4⟩
/-- the list [market, stock, debt, past, cap] at st, past at sl -/
structure StAt (H : Hp) (st sl : Addr) (mv cv : V) (s : DS) : Prop where
  ex : ∃ (t u : Addr) (vs : List V), H st = some (.lst [mv, .ref t, .ref u, .ref sl, cv]) ∧ H t = some (.tup (s.x.map V.int)) ∧ H u = some (.tup (s.y.map V.int)) ∧ H sl = some (.lst vs) ∧ PstV H vs s.past
theorem StAt.ne {H : Hp} {st sl : Addr} {mv cv : V} {s : DS} (h : StAt H st sl mv cv s) : st ≠ sl ∨ ∃ vs, H sl = some (.lst vs) := by
  obtain ⟨_, _, vs, _, _, _, e, _⟩ := h.ex
  exact .inr ⟨vs, e⟩
theorem StAt.keep {C : Addr} {H H' : Hp} {st sl : Addr} {mv cv : V} {s : DS} (h : StAt H st sl mv cv s) (k : KC C H H') (k1 : ∀ xs, H st = some (.lst xs) → H' st = some (.lst xs)) (k2 : ∀ xs, H sl = some (.lst xs) → H' sl = some (.lst xs)) : StAt H' st sl mv cv s := by
  obtain ⟨t, u, vs, e1, e2, e3, e4, h⟩ := h.ex
  exact ⟨t, u, vs, k1 _ e1, k.tup e2, k.tup e3, k2 _ e4, h.kc k⟩
theorem StAt.same {H H' : Hp} {st sl : Addr} {mv cv : V} {s : DS} (h : StAt H st sl mv cv s) (k : Same H H') : StAt H' st sl mv cv s := h.keep (C := 0) (KC.of k) (fun _ e => k _ _ e) (fun _ e => k _ _ e)
theorem DeskAt.keep {K : PySem.W.Frag} {C CX : Addr} {H H' : Hp} {a dx pl : Addr} {mv : V} {more : List (Str × V)} {x y : List Int} {past : List (List Int × List Int)} (h : DeskAt K C CX H a dx pl mv more x y past) (k : KC C H H') (k1 : ∀ fs, H a = some (.ins CX dx fs) → H' a = some (.ins CX dx fs)) (k2 : ∀ xs, H pl = some (.lst xs) → H' pl = some (.lst xs)) : DeskAt K C CX H' a dx pl mv more x y past := by
  obtain ⟨b, t, o, u, vs, h1, h2, h3, h4, h5⟩ := h.ex
  exact ⟨⟨b, t, o, u, vs, k1 _ h1, h2.kc k, h3.kc k, k2 _ h4, h5.kc k⟩, h.ne⟩
/-! ### desk, keeping, deck and tables beside each other -/
/-- where everything lies -/
structure Lay where
  d : Addr
  cc : Addr
  r : Addr
  a : Addr
  dx : Addr
  pl : Addr
  st : Addr
  sl : Addr
/-- the lists are unlike -/
structure Lay.Sep (L : Lay) : Prop where
  s1 : L.st ≠ L.sl
  s2 : L.st ≠ L.pl
  s3 : L.sl ≠ L.pl
  s4 : L.st ≠ L.d
  s5 : L.st ≠ L.r
  s6 : L.sl ≠ L.d
  s7 : L.sl ≠ L.r
  s8 : L.pl ≠ L.d
  s9 : L.pl ≠ L.r
  s10 : L.st ≠ L.cc
  s11 : L.sl ≠ L.cc
  s12 : L.pl ≠ L.cc
structure Wd (K : PySem.W.Frag) (C CX : Addr) (H : Hp) (L : Lay) (TS : List (Addr × Str)) (mv cv : V) (more : List (Str × V)) (g : Nat) (ts : List Trd) (n : Nat) (s s' : DS) : Prop where
  dk : Dk H L.d L.cc L.r n
  da : DeskAt K C CX H L.a L.dx L.pl mv more s.x s.y s.past
  sa : StAt H L.st L.sl mv cv s'
  tb : LamX.Tabs TS H
  mv_ : MkV H mv g ts
  sep : L.Sep
section
variable {K : PySem.W.Frag} {C CX : Addr} {H H' : Hp} {L : Lay} {TS : List (Addr × Str)} {mv cv : V} {more : List (Str × V)} {g : Nat} {ts : List Trd} {n : Nat} {s s' : DS}
theorem Wd.same (h : Wd K C CX H L TS mv cv more g ts n s s') (k : Same H H') : Wd K C CX H' L TS mv cv more g ts n s s' :=
  ⟨h.dk.same k, h.da.same k, h.sa.same k, h.tb.ext k, h.mv_.kc (C := C) (KC.of k), h.sep⟩
theorem Wd.mono {m : Nat} (h : Wd K C CX H L TS mv cv more g ts n s s') (l : n ≤ m) : Wd K C CX H L TS mv cv more g ts m s s' := ⟨h.dk.mono l, h.da, h.sa, h.tb, h.mv_, h.sep⟩
/-- no list is a table's, no instance is one -/
theorem tabs_two {a b : Addr} {oa ob : HO} (t : LamX.Tabs TS H) (ea : H a = some oa) (eb : H b = some ob) (na : ∀ ps, oa ≠ .tbl ps) (nb : ∀ ps, ob ≠ .tbl ps) (na' : ∀ c q, oa ≠ LamX.CodeO c q) (nb' : ∀ c q, ob ≠ LamX.CodeO c q) (k : ∀ c o, c ≠ a → c ≠ b → H c = some o → H' c = some o) : LamX.Tabs TS H' := by
  intro p hp
  obtain ⟨ps, h1, h2, h3⟩ := t p hp
  refine ⟨ps, k _ _ (fun z => ?_) (fun z => ?_) h1, h2, fun pos cv hc => ?_⟩
  · rw [z, ea] at h1
    cases h1
    exact na _ rfl
  · rw [z, eb] at h1
    cases h1
    exact nb _ rfl
  · obtain ⟨c, e1, e2⟩ := h3 pos cv hc
    refine ⟨c, e1, k _ _ (fun z => ?_) (fun z => ?_) e2⟩
    · rw [z, ea] at e2
      exact na' _ _ (Option.some.inj e2)
    · rw [z, eb] at e2
      exact nb' _ _ (Option.some.inj e2)
theorem lst_code {vs : List V} : ∀ c q, HO.lst vs ≠ LamX.CodeO c q := fun c q z => by
  unfold LamX.CodeO at z
  cases z
theorem ins_code {c0 dx : Addr} {fs : List (Str × V)} : ∀ c q, HO.ins c0 dx fs ≠ LamX.CodeO c q := fun c q z => by
  unfold LamX.CodeO at z
  cases z
/-- a draw -/
theorem Wd.draw {m : Nat} (h : Wd K C CX H L TS mv cv more g ts n s s') (k : Kp L.d L.r H H') (dk : Dk H' L.d L.cc L.r m) : Wd K C CX H' L TS mv cv more g ts m s s' := by
  have kc : KC C H H' := KC.kp h.dk k
  have sep := h.sep
  obtain ⟨_, _, _, _, _, _, _, _, _, _, e1, _, e3⟩ := h.dk
  refine ⟨dk, h.da.keep kc (fun fs e => k _ _ (fun z => ?_) (fun z => ?_) e) (fun xs e => k _ _ sep.s8 sep.s9 e), h.sa.keep kc (fun xs e => k _ _ sep.s4 sep.s5 e) (fun xs e => k _ _ sep.s6 sep.s7 e), ?_, h.mv_.kc kc, sep⟩
  · rw [z, e1] at e
    cases e
  · rw [z, e3] at e
    cases e
  · exact tabs_two h.tb e1 e3 (fun _ z => nomatch z) (fun _ z => nomatch z) lst_code lst_code k
/-- a deed at the desk -/
theorem Wd.desk {s1 : DS} (h : Wd K C CX H L TS mv cv more g ts n s s') (k : Ke L.a L.pl H H') (da : DeskAt K C CX H' L.a L.dx L.pl mv more s1.x s1.y s1.past) : Wd K C CX H' L TS mv cv more g ts n s1 s' := by
  obtain ⟨b, t, o, u, vs, ea, hb, ho, ep, hp⟩ := h.da.ex
  have kc : KC C H H' := KC.desk ea ep h.da.ne k
  have sep := h.sep
  have na : ∀ {p : Addr} {us : List V}, H p = some (.lst us) → p ≠ L.a := fun {p us} e z => by
    rw [z, ea] at e
    cases e
  refine ⟨?_, da, h.sa.keep kc (fun xs e => k _ _ (na e) sep.s2 e) (fun xs e => k _ _ (na e) sep.s3 e), tabs_two h.tb ea ep (fun _ z => nomatch z) (fun _ z => nomatch z) ins_code lst_code k, h.mv_.kc kc, sep⟩
  obtain ⟨t, cs, rs, h1, h2, h3, h4, h5, h6, h7, e1, e2, e3⟩ := h.dk
  exact ⟨t, cs, rs, h1, h2, h3, h4, h5, h6, h7, k _ _ (na e1) (Ne.symm sep.s8) e1, k _ _ (na e2) (Ne.symm sep.s12) e2, k _ _ (na e3) (Ne.symm sep.s9) e3⟩
/-- a deed in the law's own keeping -/
theorem Wd.kept {s1 : DS} (h : Wd K C CX H L TS mv cv more g ts n s s') (k : Ke L.st L.sl H H') (sa : StAt H' L.st L.sl mv cv s1) : Wd K C CX H' L TS mv cv more g ts n s s1 := by
  obtain ⟨t, u, vs, e1, e2, e3, e4, hp⟩ := h.sa.ex
  have kc : KC C H H' := KC.lists e1 e4 k
  have sep := h.sep
  refine ⟨?_, h.da.keep kc (fun fs e => k _ _ (fun z => ?_) (fun z => ?_) e) (fun xs e => k _ _ (Ne.symm sep.s2) (Ne.symm sep.s3) e), sa, tabs_two h.tb e1 e4 (fun _ z => nomatch z) (fun _ z => nomatch z) lst_code lst_code k, h.mv_.kc kc, sep⟩
  · obtain ⟨t, cs, rs, h1, h2, h3, h4, h5, h6, h7, d1, d2, d3⟩ := h.dk
    exact ⟨t, cs, rs, h1, h2, h3, h4, h5, h6, h7, k _ _ (Ne.symm sep.s4) (Ne.symm sep.s6) d1, k _ _ (Ne.symm sep.s10) (Ne.symm sep.s11) d2, k _ _ (Ne.symm sep.s5) (Ne.symm sep.s7) d3⟩
  · rw [z, e1] at e
    cases e
  · rw [z, e4] at e
    cases e
/-- a lambda is made -/
theorem Wd.lam (h : Wd K C CX H L TS mv cv more g ts n s s') (k : LamX.ExtN H H') (tb : LamX.Tabs TS H') : Wd K C CX H' L TS mv cv more g ts n s s' := by
  have kc : KC C H H' := KC.extN k
  have kl : ∀ {p : Addr} {us : List V}, H p = some (.lst us) → H' p = some (.lst us) := fun {p us} e => k _ _ e fun _ z => nomatch z
  refine ⟨?_, h.da.keep kc (fun fs e => k _ _ e fun _ z => nomatch z) (fun xs e => kl e), h.sa.keep kc (fun xs e => kl e) (fun xs e => kl e), tb, h.mv_.kc kc, h.sep⟩
  obtain ⟨t, cs, rs, h1, h2, h3, h4, h5, h6, h7, d1, d2, d3⟩ := h.dk
  exact ⟨t, cs, rs, h1, h2, h3, h4, h5, h6, h7, kl d1, kl d2, kl d3⟩
end
end Lb
set_option Elab.async false
set_option linter.all false
set_option maxRecDepth 100000
set_option maxHeartbeats 4000000
/-! ### errors of an own class over LookupError, with one field -/
namespace Lb
section
open PySem PySem.HandSPX Builtin Builtin.ObjectAttr
variable {prog : Program} {w : World} {A : Around} {R : Result → Shared → Prop} {hp : Heap} {gs : Array GenState} {dr : Drawn} {tn : Nat} {os : OsState}
end
open PySem PySem.Spec PyProof.Rows L2 RZ TL
section
variable {X : Cx}
end
end Lb
set_option Elab.async false
set_option linter.all false
set_option maxRecDepth 100000
set_option maxHeartbeats 4000000
namespace Lb
open PySem PySem.Spec PyProof.Rows L2 RZ TL
/-! ### o.f as a target among several -/
/-! ### methods whose last parameters are named -/
/-! ### what a desk does -/
structure ErrCs where
  trade : Addr
  times : Addr
  lacking : Addr
  owed : Addr
  much : Addr
  bag : Addr
  cap : Addr
  nothing : Addr
/-- the fields beyond: none, or the cap -/
def CapOk (more : List (Str × V)) (cv : V) : Option Int → Prop
  | none => more = [] ∧ cv = .non
  | some c => more = [(("most" : Str), V.int c)] ∧ cv = .int c
theorem CapOk.more {more : List (Str × V)} {cv : V} {cap : Option Int} (h : CapOk more cv cap) : MoreOk more := by
  cases cap with
  | none => exact .inl h.1
  | some c => exact .inr ⟨_, h.1⟩
theorem DsOk.bx {g : Nat} {s : DS} (h : DsOk g s) (g1 : 1 ≤ g) (g4 : g ≤ 4) : BgOk s.x := ⟨by rw [h.lx]; exact g1, by rw [h.lx]; exact g4, fun v hv => (h.ax v hv).1⟩
theorem DsOk.by_ {g : Nat} {s : DS} (h : DsOk g s) (g1 : 1 ≤ g) (g4 : g ≤ 4) : BgOk s.y := ⟨by rw [h.ly]; exact g1, by rw [h.ly]; exact g4, fun v hv => (h.ay v hv).1⟩
end Lb
namespace Lb
open PySem PySem.Spec PyProof.Rows L2 RZ TL
theorem Bg.updL {C : Addr} {H : Hp} {b t L : Addr} {x : List Int} {us : List V} {o : HO} (h : Bg C H b t x) (e : H L = some (.lst us)) : Bg C (upd H L o) b t x := by
  obtain ⟨⟨dx, eb⟩, et⟩ := h
  refine ⟨⟨dx, ?_⟩, ?_⟩
  · rw [upd_ne (fun z => by rw [z, e] at eb; cases eb)]
    exact eb
  · rw [upd_ne (fun z => by rw [z, e] at et; cases et)]
    exact et
theorem Side.bok {g : Nat} {b : List Int} (h : Side g 4 b) (g1 : 1 ≤ g) (g4 : g ≤ 4) : BgOk b := ⟨by rw [h.len]; exact g1, by rw [h.len]; exact g4, fun v hv => (h.amt v hv).1⟩
end Lb
set_option Elab.async false
set_option linter.all false
set_option maxRecDepth 100000
set_option maxHeartbeats 4000000
namespace Lb
open PySem PySem.Spec PyProof.Rows L2 RZ TL
/-! ### [k for k in range(n) if ..] -/
/-! ### what the law's own keeping tells -/
end Lb
namespace Lb
open PySem PySem.Spec PyProof.Rows L2 RZ TL
end Lb
namespace Lb
open PySem PySem.Spec PyProof.Rows L2 RZ TL
end Lb
set_option Elab.async false
set_option linter.all false
set_option maxRecDepth 100000
set_option maxHeartbeats 4000000
namespace Lb
open PySem PySem.Spec PyProof.Rows L2 RZ TL
/-! ### what a call tells, or what it raises -/
section
variable {K : PySem.W.Frag} {C CX : Addr} {cs : ErrCs} {H : Hp} {a dx pl : Addr} {mv : V} {more : List (Str × V)} {Qd : VK} {s : DS} {o : Oc}
end
end Lb
namespace Lb
open PySem PySem.Spec PyProof.Rows L2 RZ TL
/-! ### what a desk shows -/
theorem DsOk.aw {g : Nat} {s : DS} (h : DsOk g s) : AmtsW s.x ∧ AmtsW s.y := ⟨fun v hv => by have := h.ax v hv; omega, fun v hv => by have := h.ay v hv; omega⟩
end Lb
set_option Elab.async false
set_option linter.all false
set_option maxRecDepth 100000
set_option maxHeartbeats 4000000
namespace Lb
open PySem PySem.Spec PyProof.Rows L2 RZ TL
/-- what a deed leaves -/
inductive DeedR (g : Nat) (ts : List Trd) (cap : Option Int) (s : DS) : DS → Prop
  | trade (kv tv : V) (kz tz : Option Int) (back : Bool) : DeedR g ts cap s ((tradeO ts s kv tv kz tz back).next s)
  | borrow (z : List Int) (h : ∀ v ∈ z, 0 ≤ v) : DeedR g ts cap s ((borrowO g cap s (some z)).next s)
  | pay (z : List Int) (h : ∀ v ∈ z, 0 ≤ v) : DeedR g ts cap s ((payO g s (some z)).next s)
  | undo : DeedR g ts cap s ((undoO s).next s)
def vD : V → PyData
  | .int i => .int i
  | .bl b => .bool b
  | .str x => .str x
  | _ => .none
def SmallV : V → Prop
  | .int i => 0 ≤ i + 1 ∧ i ≤ 1000
  | .bl _ => True
  | .non => True
  | .str x => x = "trade" ∨ x = "times" ∨ x = "lacking" ∨ x = "owed" ∨ x = "much" ∨ x = "bag" ∨ x = "cap" ∨ x = "nothing" ∨ x = "ok"
  | _ => False
theorem SmallV.dat {R : Rgn} {H : Hp} : ∀ {v : V}, SmallV v → Dat R H v (vD v)
  | .int i, _ => .int i
  | .bl b, _ => .bl b
  | .non, _ => .non
  | .str x, _ => .str x
theorem SmallV.ok {v : V} (h : SmallV v) : Ok 40 0 (vD v) := by
  cases v with
  | int i =>
    by_cases h0 : i = -1
    · subst h0
      exact ⟨by decide +kernel, by decide +kernel, by show PyData.depth _ ≤ 0; rw [show vD (V.int (-1)) = .int (-1) from rfl, PyData.depth]; exact Nat.le_refl _⟩
    · have h1 : 0 ≤ i + 1 := h.1
      have h2 : i ≤ 1000 := h.2
      exact (amt_okW (x := i) (by omega) (by omega)).mono (by omega) (Nat.le_refl _)
  | bl b => cases b <;> exact ⟨by decide +kernel, by decide +kernel, by show PyData.depth (.bool _) ≤ 0; rw [PyData.depth]; exact Nat.le_refl _⟩
  | non => exact ⟨by decide +kernel, by decide +kernel, by show PyData.depth .none ≤ 0; rw [PyData.depth]; exact Nat.le_refl _⟩
  | str x =>
    have e : Ok 40 0 (.str x) := by
      rcases h with rfl | rfl | rfl | rfl | rfl | rfl | rfl | rfl | rfl <;> exact ⟨by decide +kernel, by decide +kernel, by rw [PyData.depth]; exact Nat.le_refl _⟩
    exact e
  | _ => exact h.elim
end Lb
namespace Lb
open PySem PySem.Spec PyProof.Rows L2 RZ TL
theorem smallN {k : Nat} (h : k ≤ 1000) : SmallV (.int (k : Int)) := ⟨by omega, by omega⟩
end Lb
namespace Lb
open PySem PySem.Spec PyProof.Rows L2 RZ TL
end Lb
namespace Lb
open PySem PySem.Spec PyProof.Rows L2 RZ TL
end Lb
namespace Lb
open PySem PySem.Spec PyProof.Rows L2 RZ TL
/-- no more than the cap is owed, and was owed ahead of any deed that stands -/
def CapS (c : Int) (s : DS) : Prop := s.y.sum ≤ c ∧ ∀ p ∈ s.past, p.2.sum ≤ c
theorem sum_less : ∀ {y z : List Int}, y.length = z.length → (∀ v ∈ z, 0 ≤ v) → (lessZ y z).sum ≤ y.sum
  | [], [], _, _ => Int.le_refl _
  | a :: y, b :: z, hl, hz => by
    have h := sum_less (y := y) (z := z) (by simpa using hl) fun v hv => hz v (List.mem_cons_of_mem _ hv)
    have hb := hz b List.mem_cons_self
    show ((a - b) :: lessZ y z).sum ≤ (a :: y).sum
    rw [List.sum_cons, List.sum_cons]
    omega
theorem kept_cap {c : Int} {s : DS} {x y : List Int} (k : CapS c s) (hy : y.sum ≤ c) : CapS c ((keptO s x y).next s) := by
  unfold keptO
  cases muchN (joinZ x y) with
  | some n => exact k
  | none =>
    refine ⟨hy, fun p hp => ?_⟩
    rcases List.mem_append.mp hp with hp | hp
    · exact k.2 p hp
    · rw [List.mem_singleton.mp hp]
      exact k.1
theorem DeedR.cap {g : Nat} {ts : List Trd} {c : Int} {s s' : DS} (h : DeedR g ts (some c) s s') (ok : DsOk g s) (k : CapS c s) : CapS c s' := by
  cases h with
  | trade kv tv kz tz back =>
    unfold tradeO
    cases trdAt ts kz with
    | none => exact k
    | some t =>
      dsimp only
      cases timesOf tz with
      | none => exact k
      | some n =>
        dsimp only
        cases tradeL n (if back then t.2 else t.1) (if back then t.1 else t.2) s.x with
        | inl j => exact k
        | inr x => exact kept_cap k k.1
  | borrow z hz =>
    unfold borrowO
    dsimp only
    by_cases hl : z.length = g
    · rw [if_pos hl]
      by_cases hc : c < s.y.sum + z.sum
      · rw [if_pos hc]
        exact k
      · rw [if_neg hc]
        refine kept_cap k ?_
        rw [sum_zip (ok.ly.trans hl.symm)]
        omega
    · rw [if_neg hl]
      exact k
  | pay z hz =>
    unfold payO
    dsimp only
    by_cases hl : z.length = g
    · rw [if_pos hl]
      cases lackN s.y z 0 with
      | some j => exact k
      | none =>
        cases lackN s.x z 0 with
        | some j => exact k
        | none =>
          refine kept_cap k ?_
          have := sum_less (ok.ly.trans hl.symm) hz
          have := k.1
          omega
    · rw [if_neg hl]
      exact k
  | undo =>
    unfold undoO
    cases e : s.past.getLast? with
    | none => exact k
    | some z => exact ⟨k.2 z (List.mem_of_getLast? e), fun p hp => k.2 p (List.dropLast_subset _ hp)⟩
end Lb
set_option Elab.async false
set_option linter.all false
set_option maxRecDepth 100000
set_option maxHeartbeats 4000000
namespace Lb
open PySem PySem.Spec PyProof.Rows L2 RZ TL
/-! ### desks of drawn markets -/
section
variable {K : PySem.W.Frag} {C CB CM CT CV CX x dx b t : Addr} {H : Hp} {Qx : Hp → Prop} {E : XK} {mv : V} {g : Nat} {ts : List Trd} {z : List Int}
end
end Lb
namespace Lb
open PySem PySem.Spec PyProof.Rows L2 RZ TL
end Lb
set_option Elab.async false
set_option linter.all false
set_option maxRecDepth 100000
set_option maxHeartbeats 4000000
namespace Lb
open PySem PySem.Spec PyProof.Rows L2 RZ TL
/-! ### return super().m(x), the last row of a method -/
section
variable {X : Cx}
end
end Lb
set_option Elab.async false
set_option linter.all false
set_option maxRecDepth 100000
set_option maxHeartbeats 4000000
namespace Lb
open PySem PySem.Spec PyProof.Rows L2 RZ TL
/-! ### x op= y of an own class -/
end Lb
namespace Lb
open PySem PySem.Spec PyProof.Rows L2 RZ TL
end Lb
namespace Lb
open PySem PySem.Spec PyProof.Rows L2 RZ TL
end Lb
set_option Elab.async false
set_option linter.all false
set_option maxRecDepth 100000
set_option maxHeartbeats 4000000
namespace Lb
open PySem PySem.Spec PyProof.Rows L2 RZ TL
/-! ### desks of either class -/
section
variable {K : PySem.W.Frag} {C CX : Addr} {cs : ErrCs} {H : Hp} {a dx pl : Addr} {mv : V} {more : List (Str × V)} {Qd : VK} {s : DS} {o : Oc}
end
end Lb
namespace Lb
open PySem PySem.Spec PyProof.Rows L2 RZ TL
end Lb
set_option Elab.async false
set_option linter.all false
set_option maxRecDepth 100000
set_option maxHeartbeats 4000000
namespace Lb
open PySem PySem.Spec PyProof.Rows L2 RZ TL
/-! ### a bare raise at the end of a clause's suite -/
theorem inv_hide {X : Cx} {pins : List (Addr × Obj)} {σ : L2.St} {H : Hp} {s : Shared} (I : Inv X pins σ H s) (l : List Addr) (h0 : ∀ b ∈ l, X.s_0.heap.get? b = none) (hL : X.env.locals ∉ l) (hC : ∀ x c, X.env.cells.lookup x = some c → c ∉ l) (hP : ∀ p ∈ X.pn ++ pins, p.1 ∉ l) (hH : ∀ b ∈ l, H b = none) :
    Inv X pins σ H { s with heap := PySem.W.hideAll s.heap l } := by
  have n0 : ∀ {b : Addr} {o : Obj}, X.s_0.heap.get? b = some o → b ∉ l := fun e hm => by
    rw [h0 _ hm] at e
    cases e
  obtain ⟨m, ⟨o, es, ep, e1, e2, e3⟩, hl⟩ := id I.loc
  refine ⟨I.ok, I.os, I.bare, ⟨fun b o e n hb hx => ?_, fun b o e n hb hx => ?_, I.base.free, fun b o e hx => ?_, I.base.tups, I.base.frzs, I.base.tbls⟩, ⟨m, ⟨o, es, ep, PySem.W.hideAll_get _ e1 hL, e2, e3⟩, fun i x v f1 f2 f3 => ?_⟩, fun x c e => ?_, I.free, I.freeC, fun p hp => ?_, fun b o e => ?_, I.len⟩
  · exact PySem.W.hideAll_get _ (I.base.keep b o e n hb hx) (n0 e)
  · obtain ⟨sl, q⟩ := I.base.slot b o e n hb hx
    exact ⟨sl, PySem.W.hideAll_get _ q (n0 e)⟩
  · obtain ⟨o', q⟩ := I.base.there b o e hx
    exact ⟨o', PySem.W.hideAll_get _ q (n0 e)⟩
  · obtain ⟨u, r, z⟩ := hl i x v f1 f2 f3
    refine ⟨u, r, ?_⟩
    rcases z with z | ⟨k, c, hc, ob, ho, hd⟩
    · exact .inl z
    · exact .inr ⟨k, c, hc, ob, PySem.W.hideAll_get _ ho (hC x c hc), hd⟩
  · obtain ⟨v, ob, ho, hd⟩ := I.cell x c e
    exact ⟨v, ob, PySem.W.hideAll_get _ ho (hC x c e), hd⟩
  · obtain ⟨q1, q2⟩ := I.pin p hp
    exact ⟨PySem.W.hideAll_get _ q1 (hP p hp), q2⟩
  · refine (I.hok b o e).stay (fun c u hc r => PySem.W.hideAll_get _ r fun hm => ?_) (fun _ r => r) fun _ _ r => r
    have z := hH c hm
    rcases hc with hc | hc
    · rw [hc, e] at z
      cases z
    · rw [hc] at z
      cases z
/-- the context of a suite that may raise again -/
abbrev suiteX (X : Cx) (a : Addr) (pn : List (Addr × Obj)) : Cx := { X with A := X.A.mark (some (.ref a)), calm := false, pn := pn, xe := notedBy (model X.prog X.w) (X.A.mark (some (.ref a))) X.env (cameBackBy (model X.prog X.w) X.A X.env X.xe) }
theorem ok_suiteX {X : Cx} (ok : X.Ok) (a : Addr) (pn : List (Addr × Obj)) : (suiteX X a pn).Ok :=
  ⟨ok.mod, ok.kind, ok.glob, ok.blt, ok.above, ok.inj, ok.has, ok.cab, (fun z => absurd (show false = true from z) Bool.false_ne_true), ok.frames, ok.stk, ok.exf, ok.bs, ok.bsz, ok.noex, ok.exfs, ok.funs, ok.frf⟩
theorem obj_has {P : Program} {w : World} {H : Hp} {h : Heap} {b : Addr} {o : HO} (x : ObjOk P w H h b o) : ∃ u, h.get? b = some u := by
  cases o with
  | lst xs => obtain ⟨_, _, _, _, e⟩ := x; exact ⟨_, e⟩
  | tup xs => obtain ⟨_, _, _, ob, e, _⟩ := x; exact ⟨_, e⟩
  | dK kvs => obtain ⟨_, _, _, _, o, _, _, e, _⟩ := x; exact ⟨_, e⟩
  | dT kvs => obtain ⟨_, _, _, _, o, _, _, e, _⟩ := x; exact ⟨_, e⟩
  | set S n => obtain ⟨o, _, _, _, e, _⟩ := x; exact ⟨_, e⟩
  | ins C dx fs => obtain ⟨_, _, _, e, _⟩ := x; exact ⟨_, e⟩
  | own y => exact x
  | xd fs => obtain ⟨_, ⟨_, _, _, e, _⟩, _⟩ := x; exact ⟨_, e⟩
  | rng lo hi => obtain ⟨_, _, _, e⟩ := x; exact ⟨_, e⟩
  | frz ob u => obtain ⟨e, _⟩ := x; exact ⟨_, e⟩
  | tbl ps => exact ⟨_, x⟩
  | met f y => exact ⟨_, x⟩
  | ext φ => exact x.2.1
theorem hok_none {P : Program} {w : World} {H : Hp} {h : Heap} {b : Addr} (k : HOk P w H h) (n : h.get? b = none) : H b = none := by
  cases e : H b with
  | none => rfl
  | some o =>
    obtain ⟨u, z⟩ := obj_has (k b o e)
    rw [n] at z
    cases z
section
variable {X : Cx} {pins : List (Addr × Obj)} {σ : L2.St} {H : Hp} {cls : Value} {d : Option Addr} {a : Addr} {s : Shared}
/-- the suite of a clause can begin; whatever it does, the exception stands as before -/
theorem Down.again2 (h : Down X pins σ H cls d a s) (hex : X.ex = []) : ∃ pn : List (Addr × Obj), Inv (suiteX X a pn) [] σ H s ∧ ∀ (pins' : List (Addr × Obj)) (σ' : L2.St) (H' : Hp) (s3 : Shared), Inv (suiteX X a pn) pins' σ' H' s3 → Down X pins σ' H' cls d a s3 := by
  obtain ⟨G, t, It, hG, hu, hfl, ho, hg⟩ := id h.ex
  have I := h.inv
  obtain ⟨hkb, hen, hl, oe, vs, T, oT, ts, he, hz, hd, h1, hnT, hTe, hT, hdT, h3⟩ := hfl
  have notF : ∀ {b : Addr} {o : Obj} {us : Array Value}, s.heap.get? b = some o → o.data = .fields us → b ∉ frs (X.env :: X.outer) := fun {b o us} e dd hm => by
    obtain ⟨_, o', e', hnf⟩ := hl.mem hm
    rw [e] at e'
    cases e'
    exact hnf _ dd
  have aF := notF he hd
  have TF := notF hT hdT
  have hst : frs X.stack = frs (X.env :: X.outer) := by rw [h.st]
  have inT : ∀ {b : Addr}, G.get? b = none → b ∉ frs (X.env :: X.outer) → t.heap.get? b = none := fun {b} n nf => by
    cases e : t.heap.get? b with
    | none => rfl
    | some o =>
      have z := hG b o e (by rw [hst]; exact nf)
      rw [n] at z
      cases z
  have at_ := inT hen aF
  have Tt := inT hnT TF
  have HT : H T = none := hok_none It.hok Tt
  have s0 : ∀ {b : Addr}, t.heap.get? b = none → X.s_0.heap.get? b = none := fun {b} n => by
    cases e : X.s_0.heap.get? b with
    | none => rfl
    | some o =>
      obtain ⟨o', z⟩ := It.base.there b o e (by rw [hex]; exact List.not_mem_nil)
      rw [n] at z
      cases z
  have nL : ∀ {b : Addr}, t.heap.get? b = none → b ≠ X.env.locals := fun {b} n z => by
    obtain ⟨m, ⟨o, es, ep, e, _⟩, _⟩ := It.loc
    rw [← z, n] at e
    cases e
  have nF : ∀ {b : Addr}, b ∉ frs (X.env :: X.outer) → b ∉ X.fs := fun {b} n hm => by
    obtain ⟨e, he, q⟩ := List.mem_filterMap.mp hm
    exact n (List.mem_filterMap.mpr ⟨e, .tail _ he, q⟩)
  have nC : ∀ {b : Addr}, t.heap.get? b = none → ∀ x c, X.env.cells.lookup x = some c → c ≠ b := fun {b} n x c e z => by
    obtain ⟨v, o, q, _⟩ := It.cell x c e
    rw [z, n] at q
    cases q
  have nP : ∀ {b : Addr}, t.heap.get? b = none → ∀ p ∈ X.pn ++ pins, p.1 ≠ b := fun {b} n p hp z => by
    have q := (It.pin p hp).1
    rw [z, n] at q
    cases q
  have nd : ∀ {o : Obj} {us : Array Value}, o.data = .fields us → ∀ v, o.data ≠ .cell v := fun {o us} e v z => by
    rw [e] at z
    cases z
  refine ⟨(a, oe) :: (T, oT) :: (X.pn ++ pins), ⟨ok_suiteX I.ok _ _, I.os, I.bare, I.base, I.loc, I.cell, I.free, I.freeC, fun p hp => ?_, I.hok, I.len⟩, fun pins' σ' H' s3 J => ?_⟩
  · rw [List.append_nil] at hp
    rcases List.mem_cons.mp hp with rfl | hp
    · exact ⟨he, h.no, nL at_, nF aF, nd hd⟩
    rcases List.mem_cons.mp hp with rfl | hp
    · exact ⟨hT, HT, nL Tt, nF TF, nd hdT⟩
    · exact I.pin p hp
  · have pa := J.pin (a, oe) (List.mem_append_left _ (.head _))
    have pT := J.pin (T, oT) (List.mem_append_left _ (.tail _ (.head _)))
    have Jx : Inv X pins σ' H' s3 := ⟨I.ok, J.os, J.bare, J.base, J.loc, J.cell, J.free, J.freeC, fun p hp => J.pin p (List.mem_append_left _ (.tail _ (.tail _ hp))), J.hok, J.len⟩
    have mem2 : ∀ {P : Addr → Prop}, P a → P T → ∀ b ∈ [a, T], P b := fun {P} p1 p2 b hb => by
      rcases List.mem_cons.mp hb with rfl | hb
      · exact p1
      · rw [List.mem_singleton.mp hb]
        exact p2
    have It3 : Inv X pins σ' H' { s3 with heap := PySem.W.hideAll s3.heap [a, T] } := inv_hide Jx [a, T] (mem2 (s0 at_) (s0 Tt)) (fun hm => mem2 (P := fun b => b ≠ X.env.locals) (nL at_) (nL Tt) _ hm rfl)
      (fun x c e hm => mem2 (P := fun b => c ≠ b) (nC at_ x c e) (nC Tt x c e) _ hm rfl) (fun p hp hm => mem2 (P := fun b => p.1 ≠ b) (nP at_ p hp) (nP Tt p hp) _ hm rfl) (mem2 pa.2.1 pT.2.1)
    refine ⟨h.st, h.fr, ⟨PySem.W.hideAll s3.heap (frs X.stack ++ [a, T]), { s3 with heap := PySem.W.hideAll s3.heap [a, T] }, It3, fun p ob e hp => ?_, Heap.UpToSlots.of_keeps fun b o e => PySem.W.of_hideAll _ e, ⟨fun b o e => PySem.W.of_hideAll _ e, PySem.W.hideAll_none _ (List.mem_append_right _ (.head _)), ?_, oe, vs, T, oT, ts, pa.1, hz, hd, h1, PySem.W.hideAll_none _ (List.mem_append_right _ (.tail _ (.head _))), hTe, pT.1, hdT, h3⟩, rfl, J.bare⟩, pa.2.1⟩
    · have e3 := PySem.W.of_hideAll _ e
      refine PySem.W.hideAll_get _ e3 fun hm => ?_
      rcases List.mem_append.mp hm with hm | hm
      · exact hp hm
      · rw [PySem.W.hideAll_none _ hm] at e
        cases e
    · rw [← h.st]
      exact funFrames_none Jx.stack fun b hb => PySem.W.hideAll_none _ (List.mem_append_left _ hb)
end
section
variable {X : Cx} {x : Str} {c : Value} {ss : List Stmt} {b : Stmt} {np pos : Pos} {hds : List ExceptHandler} {t : Addr → Value → Option Addr → TS} {w : Ends → WX} {W0 : WX}
end
end Lb
set_option Elab.async false
set_option linter.all false
set_option maxRecDepth 100000
set_option maxHeartbeats 4000000
namespace Lb
open PySem PySem.Spec PyProof.Rows L2 RZ TL
open NdefX (NF FnO NOk CellsAt Caps slotAt)
/-! ### an inner def that is handed out: its cells are tracked -/
/-- b is the cell of a captured name, v its value -/
def Cap (cl : List (Str × Addr)) (fr : List Str) (ws : List V) (b : Addr) (v : V) : Prop := ∃ (i : Nat) (y : Str), fr[i]? = some y ∧ ws[i]? = some v ∧ cl.lookup y = some b
section
variable {cl : List (Str × Addr)} {fr : List Str} {ws : List V} {b : Addr} {v v' : V} {H H' : Hp}
theorem Cap.uniq (inj : ∀ x y c, cl.lookup x = some c → cl.lookup y = some c → x = y) (nd : fr.Nodup) (h : Cap cl fr ws b v) (k : Cap cl fr ws b v') : v = v' := by
  obtain ⟨i, y, e1, e2, e3⟩ := h
  obtain ⟨j, z, f1, f2, f3⟩ := k
  obtain rfl := inj y z b e3 f3
  obtain rfl := nodup_ix nd e1 f1
  rw [e2] at f2
  exact Option.some.inj f2
end
/-- what is neither list nor instance nor table stays -/
def KX (H H' : Hp) : Prop := ∀ b φ, H b = some (.ext φ) → H' b = some (.ext φ)
theorem KX.of {H H' : Hp} (s : Same H H') : KX H H' := fun b φ e => s b _ e
theorem KX.trans {H H1 H2 : Hp} (a : KX H H1) (b : KX H1 H2) : KX H H2 := fun c φ e => b c φ (a c φ e)
theorem KX.extN {H H' : Hp} (k : LamX.ExtN H H') : KX H H' := fun b φ e => k b _ e fun _ z => nomatch z
theorem KX.two {H H' : Hp} {a b : Addr} {oa ob : HO} (ea : H a = some oa) (eb : H b = some ob) (na : ∀ φ, oa ≠ .ext φ) (nb : ∀ φ, ob ≠ .ext φ) (k : ∀ c o, c ≠ a → c ≠ b → H c = some o → H' c = some o) : KX H H' := fun c φ e => by
  refine k c _ (fun z => ?_) (fun z => ?_) e
  · rw [z, ea] at e
    exact na φ (Option.some.inj e)
  · rw [z, eb] at e
    exact nb φ (Option.some.inj e)
section
variable {P : Program} {w : World} {K : PySem.W.Frag} {mg : Str → Option Value} {base : Heap} {k : Nat} {f : Addr} {F : NF} {ps fr : List Str} {sp : List (Option V) → Sp} {A : Around} {outer : List Env} {s : Shared} {H : Hp} {us : List Value} {vs : List V} {ws : List V} {Q : VK} {E : XK}
end
/-! ### a def that hands one out -/
end Lb
set_option Elab.async false
set_option linter.all false
set_option maxRecDepth 100000
set_option maxHeartbeats 4000000
namespace Lb
open PySem PySem.Spec PyProof.Rows L2 RZ TL
/-! ### attempts: what work comes to -/
/-- what work comes to: an error of the package, another error (the state is kept), or done -/
inductive WkR
  | err (o : Oc)
  | trade (s : DS)
  | done (s : DS)
/-- the state behind an attempt -/
def WkR.next (s : DS) : WkR → DS
  | .err _ => s
  | .trade s' => s'
  | .done s' => s'
/-- what an exception that tells the outcome o must meet, in heaps of which P is true -/
def WErr (E : XK) (cs : ErrCs) (P : Hp → Prop) : Oc → Prop
  | .trade v => ∀ H' dd, P H' → H' dd = some (.xd [("value", v)]) → E (.ref cs.trade) (some dd) H'
  | .times v => ∀ H' dd, P H' → H' dd = some (.xd [("value", v)]) → E (.ref cs.times) (some dd) H'
  | .lacking k => ∀ H' dd, P H' → H' dd = some (.xd [("good", .int (k : Int))]) → E (.ref cs.lacking) (some dd) H'
  | .owed k => ∀ H' dd, P H' → H' dd = some (.xd [("good", .int (k : Int))]) → E (.ref cs.owed) (some dd) H'
  | .much k => ∀ H' dd, P H' → H' dd = some (.xd [("good", .int (k : Int))]) → E (.ref cs.much) (some dd) H'
  | .bag => ∀ H', P H' → E (.ref cs.bag) none H'
  | .cap => ∀ H', P H' → E (.ref cs.cap) none H'
  | .nothing => ∀ H', P H' → E (.ref cs.nothing) none H'
  | .did _ => False
  | .undid _ => False
theorem WErr.imp {E : XK} {cs : ErrCs} {P P' : Hp → Prop} (i : ∀ H, P' H → P H) : ∀ {o : Oc}, WErr E cs P o → WErr E cs P' o
  | .trade _, h => fun H' dd p => h H' dd (i _ p)
  | .times _, h => fun H' dd p => h H' dd (i _ p)
  | .lacking _, h => fun H' dd p => h H' dd (i _ p)
  | .owed _, h => fun H' dd p => h H' dd (i _ p)
  | .much _, h => fun H' dd p => h H' dd (i _ p)
  | .bag, h => fun H' p => h H' (i _ p)
  | .cap, h => fun H' p => h H' (i _ p)
  | .nothing, h => fun H' p => h H' (i _ p)
/-! ### what the law's own keeping tells of it -/
/-- whether an outcome is told as "ok" -/
def Oc.fine : Oc → Bool
  | .did _ => true
  | .undid _ => true
  | _ => false
end Lb
set_option Elab.async false
set_option linter.all false
set_option maxRecDepth 100000
set_option maxHeartbeats 4000000
namespace Lb
open PySem PySem.Spec PyProof.Rows L2 RZ TL
open NdefX (NF FnO NOk CellsAt Caps slotAt)
/-! ### Desk.attempt -/
/-- the errors of the package, and the one that is none -/
structure MkE (K : PySem.W.Frag) (CM : Addr) (cs : ErrCs) : Prop where
  lacking : PySem.W.exmOne K (.ref cs.lacking) (.ref CM) = some true
  owed : PySem.W.exmOne K (.ref cs.owed) (.ref CM) = some true
  much : PySem.W.exmOne K (.ref cs.much) (.ref CM) = some true
  bag : PySem.W.exmOne K (.ref cs.bag) (.ref CM) = some true
  cap : PySem.W.exmOne K (.ref cs.cap) (.ref CM) = some true
  nothing : PySem.W.exmOne K (.ref cs.nothing) (.ref CM) = some true
  times : PySem.W.exmOne K (.ref cs.times) (.ref CM) = some true
  trade : PySem.W.exmOne K (.ref cs.trade) (.ref CM) = some false
/-- an outcome that is an error of the package -/
def Oc.isErr : Oc → Bool
  | .trade _ => false
  | .did _ => false
  | .undid _ => false
  | _ => true
theorem WErr.map {K : PySem.W.Frag} {CM : Addr} {cs : ErrCs} {E E1 : XK} {P P' : Hp → Prop} {o : Oc} (M : MkE K CM cs) (ho : o.isErr = true)
    (h : ∀ cls d H', PySem.W.exmOne K cls (.ref CM) = some true → P H' → ∃ H'', P' H'' ∧ (∀ dd fs, H' dd = some (.xd fs) → H'' dd = some (.xd fs)) ∧ (E cls d H'' → E1 cls d H')) (k : WErr E cs P' o) : WErr E1 cs P o := by
  cases o with
  | trade v => cases ho
  | did s => cases ho
  | undid s => cases ho
  | times v =>
    intro H' dd p e
    obtain ⟨H'', p', kp, i⟩ := h _ (some dd) H' M.times p
    exact i (k H'' dd p' (kp _ _ e))
  | lacking v =>
    intro H' dd p e
    obtain ⟨H'', p', kp, i⟩ := h _ (some dd) H' M.lacking p
    exact i (k H'' dd p' (kp _ _ e))
  | owed v =>
    intro H' dd p e
    obtain ⟨H'', p', kp, i⟩ := h _ (some dd) H' M.owed p
    exact i (k H'' dd p' (kp _ _ e))
  | much v =>
    intro H' dd p e
    obtain ⟨H'', p', kp, i⟩ := h _ (some dd) H' M.much p
    exact i (k H'' dd p' (kp _ _ e))
  | bag =>
    intro H' p
    obtain ⟨H'', p', kp, i⟩ := h _ none H' M.bag p
    exact i (k H'' p')
  | cap =>
    intro H' p
    obtain ⟨H'', p', kp, i⟩ := h _ none H' M.cap p
    exact i (k H'' p')
  | nothing =>
    intro H' p
    obtain ⟨H'', p', kp, i⟩ := h _ none H' M.nothing p
    exact i (k H'' p')
def WkR.isErr : WkR → Bool
  | .err o => o.isErr
  | _ => true
end Lb
set_option Elab.async false
set_option linter.all false
set_option maxRecDepth 100000
set_option maxHeartbeats 4000000
namespace Lb
open PySem PySem.Spec PyProof.Rows L2 RZ TL
open NdefX (NF FnO NOk CellsAt Caps slotAt)
/-! ### the making of the work, what is due -/
/-- D lies beside all lists -/
structure Lay.Off (L : Lay) (D : Addr) : Prop where
  d : D ≠ L.d
  cc : D ≠ L.cc
  r : D ≠ L.r
  pl : D ≠ L.pl
  st : D ≠ L.st
  sl : D ≠ L.sl
section
variable {K : PySem.W.Frag} {C CX : Addr} {H H' : Hp} {L : Lay} {TS : List (Addr × Str)} {mv cv : V} {more : List (Str × V)} {g : Nat} {ts : List Trd} {n : Nat} {s s' : DS} {D : Addr} {xs : List V}
/-- what is new lies beside them -/
theorem Wd.nOff (h : Wd K C CX H L TS mv cv more g ts n s s') (z : H D = none) : L.Off D := by
  obtain ⟨_, _, _, _, _, ea, _, _, ep, _⟩ := id h.da.ex
  obtain ⟨_, _, _, est, _, _, esl, _⟩ := id h.sa.ex
  have nd := h.dk.nd z
  exact ⟨nd.1, nd.2.2, nd.2.1, (ne_of_none ep z).symm, (ne_of_none est z).symm, (ne_of_none esl z).symm⟩
/-- a list beside them changes -/
theorem Wd.off (h : Wd K C CX H L TS mv cv more g ts n s s') (eD : H D = some (.lst xs)) (o : L.Off D) (k : ∀ b u, b ≠ D → H b = some u → H' b = some u) : Wd K C CX H' L TS mv cv more g ts n s s' := by
  obtain ⟨_, _, _, _, _, ea, _, _, ep, _⟩ := id h.da.ex
  have kc : KC C H H' := KC.lists eD eD fun c u n1 _ e => k c u n1 e
  have na : L.a ≠ D := fun z => by
    rw [z, eD] at ea
    cases ea
  refine ⟨?_, h.da.keep kc (fun fs e => k _ _ na e) (fun xs e => k _ _ o.pl.symm e), h.sa.keep kc (fun xs e => k _ _ o.st.symm e) (fun xs e => k _ _ o.sl.symm e), tabs_two h.tb eD eD (fun _ z => nomatch z) (fun _ z => nomatch z) lst_code lst_code fun c u n1 _ e => k c u n1 e, h.mv_.kc kc, h.sep⟩
  obtain ⟨t, cs, rs, h1, h2, h3, h4, h5, h6, h7, e1, e2, e3⟩ := h.dk
  exact ⟨t, cs, rs, h1, h2, h3, h4, h5, h6, h7, k _ _ o.d.symm e1, k _ _ o.cc.symm e2, k _ _ o.r.symm e3⟩
end
end Lb
set_option Elab.async false
set_option linter.all false
set_option maxRecDepth 100000
set_option maxHeartbeats 4000000
namespace Lb
open PySem PySem.Spec PyProof.Rows L2 RZ TL
/-! ### lists of what is told -/
/-- a list of lists that are told, none of them among the bad ones -/
inductive OcsV (H : Hp) (bad : Addr → Prop) : List V → List Oc → Prop
  | nil : OcsV H bad [] []
  | cons {p : Addr} {o : Oc} {vs : List V} {os : List Oc} (e : H p = some (.lst o.vals)) (n : ¬ bad p) (r : OcsV H bad vs os) : OcsV H bad (.ref p :: vs) (o :: os)
section
variable {H H' : Hp} {bad : Addr → Prop}
theorem OcsV.keep (k : ∀ b o, ¬ bad b → H b = some o → H' b = some o) : ∀ {vs : List V} {os : List Oc}, OcsV H bad vs os → OcsV H' bad vs os
  | _, _, .nil => .nil
  | _, _, .cons e n r => .cons (k _ _ n e) n (r.keep k)
theorem OcsV.length : ∀ {vs : List V} {os : List Oc}, OcsV H bad vs os → vs.length = os.length
  | _, _, .nil => rfl
  | _, _, .cons _ _ r => by rw [List.length_cons, List.length_cons, r.length]
theorem OcsV.get : ∀ {vs : List V} {os : List Oc} {i : Nat} {x : V}, OcsV H bad vs os → vs[i]? = some x → ∃ p o, x = .ref p ∧ os[i]? = some o ∧ H p = some (.lst o.vals) ∧ ¬ bad p
  | _, _, 0, _, .cons e n _, h => by
    cases h
    exact ⟨_, _, rfl, rfl, e, n⟩
  | _, _, i + 1, _, .cons _ _ r, h => r.get (i := i) h
theorem OcsV.snoc {p : Addr} {o : Oc} (e : H p = some (.lst o.vals)) (n : ¬ bad p) : ∀ {vs : List V} {os : List Oc}, OcsV H bad vs os → OcsV H bad (vs ++ [.ref p]) (os ++ [o])
  | _, _, .nil => .cons e n .nil
  | _, _, .cons f m r => .cons f m (r.snoc e n)
theorem OcsV.head {vs : List V} {os : List Oc} {o : Oc} (h : OcsV H bad vs os) (e : os.head? = some o) : ∃ p ws, vs = .ref p :: ws ∧ H p = some (.lst o.vals) ∧ ¬ bad p := by
  cases h with
  | nil => cases e
  | cons f n r =>
    cases e
    exact ⟨_, _, rfl, f, n⟩
end
end Lb
set_option Elab.async false
set_option linter.all false
set_option maxRecDepth 100000
set_option maxHeartbeats 4000000
namespace Lb
open PySem PySem.Spec PyProof.Rows L2 RZ TL
/-! ### what comes of an attempt, as it is told -/
section
variable {K : PySem.W.Frag} {C CX : Addr} {cs : ErrCs} {H : Hp} {a dx pl : Addr} {mv : V} {more : List (Str × V)} {Qd : VK} {s : DS} {r : WkR}
end
end Lb
set_option Elab.async false
set_option linter.all false
set_option maxRecDepth 100000
set_option maxHeartbeats 4000000
namespace Lb.Gr
/-! ### grids as functions: the turns and their arithmetic -/
abbrev F2 := Nat → Nat → Int
def swp (a b k : Nat) : Nat := if k = a then b else if k = b then a else k
def brT (a r c : Nat) (T : F2) : F2 := fun i j => T (swp a r i) (swp a c j)
def brV (a c : Nat) (V : F2) : F2 := fun i j => V i (swp a c j)
def rwT (a : Nat) (T : F2) : F2 := fun i j => if a < i then T i j - (T i a).fdiv (T a a) * T a j else T i j
def clT (g a : Nat) (T : F2) : F2 := fun i j => if a < j ∧ j < g then T i j - (T a j).fdiv (T a a) * T i a else T i j
def clV (g a : Nat) (T V : F2) : F2 := fun i j => if a < j ∧ j < g then V i j - (T a j).fdiv (T a a) * V i a else V i j
def stT (g a r c : Nat) (T : F2) : F2 := clT g a (rwT a (brT a r c T))
def stV (g a r c : Nat) (T V : F2) : F2 := clV g a (rwT a (brT a r c T)) (brV a c V)
theorem swp_lt {a b k : Nat} (h : k < a) (hb : a ≤ b) : swp a b k = k := by
  unfold swp
  rw [if_neg (by omega), if_neg (by omega)]
theorem swp_ge {a b k : Nat} (h : a ≤ k) (hb : a ≤ b) : a ≤ swp a b k := by
  unfold swp
  split
  · exact hb
  · split
    · exact Nat.le_refl _
    · exact h
theorem swp_bd {a b k n : Nat} (h : k < n) (ha : a < n) (hb : b < n) : swp a b k < n := by
  unfold swp
  split
  · exact hb
  · split
    · exact ha
    · exact h
theorem swp_swp (a b k : Nat) : swp a b (swp a b k) = k := by
  unfold swp
  split
  · rename_i h
    split
    · omega
    · rw [if_pos rfl]
      exact h.symm
  · rename_i h
    split
    · rename_i h2
      rw [if_pos rfl]
      exact h2.symm
    · rfl
/-! numbers -/
/-! one line of numbers, each with a vector beside it -/
end Lb.Gr
set_option Elab.async false
set_option linter.all false
set_option maxRecDepth 100000
set_option maxHeartbeats 4000000
namespace Lb.Gr
/-! ### the least number's place -/
/-- the number to bring to the front -/
structure Lst (n g : Nat) (T : F2) (a i j : Nat) : Prop where
  ai : a ≤ i
  i_n : i < n
  aj : a ≤ j
  jg : j < g
  nz : T i j ≠ 0
  mn : ∀ i' j', a ≤ i' → i' < n → a ≤ j' → j' < g → T i' j' ≠ 0 → (T i j).natAbs ≤ (T i' j').natAbs
/-! ### a turn -/
structure Gs where
  T : F2
  V : F2
  a : Nat
def clr (n g a : Nat) (T : F2) : Bool := !((List.range' (a + 1) (n - (a + 1))).map (fun i => T i a) ++ (List.range' (a + 1) (g - (a + 1))).map (fun j => T a j)).any fun x => x != 0
theorem clr_iff {n g a : Nat} {T : F2} : clr n g a T = true ↔ (∀ i, a < i → i < n → T i a = 0) ∧ ∀ j, a < j → j < g → T a j = 0 := by
  unfold clr
  rw [Bool.not_eq_true', List.any_eq_false]
  constructor
  · intro h
    refine ⟨fun i h1 h2 => ?_, fun j h1 h2 => ?_⟩
    · have := h (T i a) (List.mem_append_left _ (List.mem_map.mpr ⟨i, List.mem_range'_1.mpr (by omega), rfl⟩))
      simpa using this
    · have := h (T a j) (List.mem_append_right _ (List.mem_map.mpr ⟨j, List.mem_range'_1.mpr (by omega), rfl⟩))
      simpa using this
  · rintro ⟨h1, h2⟩ x hx
    rcases List.mem_append.mp hx with hx | hx
    · obtain ⟨i, hi, rfl⟩ := List.mem_map.mp hx
      rw [List.mem_range'_1] at hi
      rw [h1 i (by omega) (by omega)]
      decide
    · obtain ⟨i, hi, rfl⟩ := List.mem_map.mp hx
      rw [List.mem_range'_1] at hi
      rw [h2 i (by omega) (by omega)]
      decide
def nxt (n g : Nat) (S : Gs) (r c : Nat) : Gs :=
  ⟨stT g S.a r c S.T, stV g S.a r c S.T S.V, if clr n g S.a (stT g S.a r c S.T) then S.a + 1 else S.a⟩
def Bd (n w B : Nat) (T : F2) : Prop := ∀ i j, i < n → j < w → (T i j).natAbs ≤ B
structure BdS (n g B : Nat) (S : Gs) : Prop where
  t : Bd n (g + n) B S.T
  v : Bd g g B S.V
theorem Bd.mono {n w B C : Nat} {T : F2} (h : Bd n w B T) (l : B ≤ C) : Bd n w C T := fun i j h1 h2 => Nat.le_trans (h i j h1 h2) l
theorem BdS.mono {n g B C : Nat} {S : Gs} (h : BdS n g B S) (l : B ≤ C) : BdS n g C S := ⟨h.t.mono l, h.v.mono l⟩
section
variable {n g a r c : Nat} {T V : F2}
theorem rwT_row {j : Nat} : rwT a T a j = T a j := if_neg (Nat.lt_irrefl a)
theorem rwT_gt {i j : Nat} (h : a < i) : rwT a T i j = T i j - (T i a).fdiv (T a a) * T a j := if_pos h
theorem rwT_le {i j : Nat} (h : i ≤ a) : rwT a T i j = T i j := if_neg (by omega)
theorem clT_in {i j : Nat} (h : a < j) (h2 : j < g) : clT g a T i j = T i j - (T a j).fdiv (T a a) * T i a := if_pos ⟨h, h2⟩
theorem clT_out {i j : Nat} (h : j ≤ a ∨ g ≤ j) : clT g a T i j = T i j := if_neg (by omega)
theorem clV_in {i j : Nat} (h : a < j) (h2 : j < g) : clV g a T V i j = V i j - (T a j).fdiv (T a a) * V i a := if_pos ⟨h, h2⟩
theorem clV_out {i j : Nat} (h : j ≤ a ∨ g ≤ j) : clV g a T V i j = V i j := if_neg (by omega)
/-- rows and columns ahead of a are clear -/
def Cl (n g a : Nat) (T : F2) : Prop := ∀ i j, i < n → j < g → i ≠ j → i < a ∨ j < a → T i j = 0
theorem Cl.zero : Cl n g 0 T := fun i j _ _ _ h => by omega
theorem Cl.st (h : Cl n g a T) (L : Lst n g T a r c) : Cl n g a (stT g a r c T) := by
  have an : a < n := by have := L.ai; have := L.i_n; omega
  have ag : a < g := by have := L.aj; have := L.jg; omega
  have h1 : Cl n g a (brT a r c T) := fun i j hi hj ne q => by
    unfold brT
    refine h _ _ (swp_bd hi an L.i_n) (swp_bd hj ag L.jg) ?_ ?_
    · rcases q with q | q
      · rw [swp_lt q L.ai]
        rcases Nat.lt_or_ge j a with z | z
        · rw [swp_lt z L.aj]
          exact ne
        · have := swp_ge z L.aj
          omega
      · rw [swp_lt q L.aj]
        rcases Nat.lt_or_ge i a with z | z
        · rw [swp_lt z L.ai]
          exact ne
        · have := swp_ge z L.ai
          omega
    · rcases q with q | q
      · rw [swp_lt q L.ai]
        exact .inl q
      · rw [swp_lt q L.aj]
        exact .inr q
  unfold stT
  generalize brT a r c T = T1 at h1
  have h2 : Cl n g a (rwT a T1) := fun i j hi hj ne q => by
    rcases Nat.lt_or_ge a i with z | z
    · rw [rwT_gt z, h1 i j hi hj ne q, h1 a j an hj (by omega) (by omega), Int.mul_zero]
      rfl
    · rw [rwT_le z]
      exact h1 i j hi hj ne q
  intro i j hi hj ne q
  by_cases z : a < j ∧ j < g
  · rw [clT_in z.1 z.2, h2 i j hi hj ne q, h2 i a hi ag (by omega) (by omega), Int.mul_zero]
    rfl
  · rw [clT_out (by omega)]
    exact h2 i j hi hj ne q
theorem Cl.next {S : Gs} (h : Cl n g S.a S.T) (L : Lst n g S.T S.a r c) : Cl n g (nxt n g S r c).a (nxt n g S r c).T := by
  have h1 := h.st L
  show Cl n g (if clr n g S.a (stT g S.a r c S.T) = true then S.a + 1 else S.a) (stT g S.a r c S.T)
  cases q : clr n g S.a (stT g S.a r c S.T) with
  | false => exact h1
  | true =>
    obtain ⟨z1, z2⟩ := clr_iff.mp q
    rw [if_pos rfl]
    intro i j hi hj ne q
    by_cases y : i < S.a ∨ j < S.a
    · exact h1 i j hi hj ne y
    · rcases q with q | q
      · obtain rfl : i = S.a := by omega
        exact z2 j (by omega) hj
      · obtain rfl : j = S.a := by omega
        exact z1 i (by omega) hi
end
end Lb.Gr
set_option Elab.async false
set_option linter.all false
set_option maxRecDepth 100000
set_option maxHeartbeats 4000000
namespace Lb.Gr
/-! ### the turns end, and how great the numbers get -/
/-- the bound of all that a grid of a drawn market holds -/
def BB : Nat := 2 ^ 400
section
variable {n g : Nat}
/-! the second pivot in one row -/
/-! the first pivot -/
end
end Lb.Gr
set_option Elab.async false
set_option linter.all false
set_option maxRecDepth 100000
set_option maxHeartbeats 4000000
namespace Lb.Gr
/-! ### what the turns keep -/
def dot : Nat → (Nat → Int) → (Nat → Int) → Int
  | 0, _, _ => 0
  | n + 1, x, y => dot n x y + x n * y n
theorem dot_add (n : Nat) (x y z : Nat → Int) : dot n x (fun k => y k + z k) = dot n x y + dot n x z := by
  induction n with
  | zero => rfl
  | succ n ih =>
    show dot n x (fun k => y k + z k) + x n * (y n + z n) = (dot n x y + x n * y n) + (dot n x z + x n * z n)
    rw [ih, Int.mul_add]
    omega
theorem dot_smul (n : Nat) (x y : Nat → Int) (q : Int) : dot n x (fun k => q * y k) = q * dot n x y := by
  induction n with
  | zero => exact (Int.mul_zero q).symm
  | succ n ih =>
    show dot n x (fun k => q * y k) + x n * (q * y n) = q * (dot n x y + x n * y n)
    rw [ih, Int.mul_add, Int.mul_left_comm]
theorem dot_sub (n : Nat) (x y z : Nat → Int) (q : Int) : dot n x (fun k => y k - q * z k) = dot n x y - q * dot n x z := by
  have e : (fun k => y k - q * z k) = fun k => y k + (-q) * z k := by
    funext k
    rw [Int.neg_mul]
    omega
  rw [e, dot_add, dot_smul, Int.neg_mul]
  omega
theorem dot_comm (n : Nat) (x y : Nat → Int) : dot n x y = dot n y x := by
  induction n with
  | zero => rfl
  | succ n ih =>
    show dot n x y + x n * y n = dot n y x + y n * x n
    rw [ih, Int.mul_comm]
theorem dot_congr {n : Nat} {x x' y y' : Nat → Int} (hx : ∀ k, k < n → x k = x' k) (hy : ∀ k, k < n → y k = y' k) : dot n x y = dot n x' y' := by
  induction n with
  | zero => rfl
  | succ n ih =>
    show dot n x y + x n * y n = dot n x' y' + x' n * y' n
    rw [ih (fun k h => hx k (by omega)) (fun k h => hy k (by omega)), hx n (by omega), hy n (by omega)]
theorem dot_zero {n : Nat} {x y : Nat → Int} (h : ∀ k, k < n → y k = 0) : dot n x y = 0 := by
  induction n with
  | zero => rfl
  | succ n ih =>
    show dot n x y + x n * y n = 0
    rw [ih fun k h' => h k (by omega), h n (by omega), Int.mul_zero]
    rfl
theorem dot_unit {n c : Nat} (x : Nat → Int) (h : c < n) : dot n x (fun k => if k = c then 1 else 0) = x c := by
  induction n with
  | zero => omega
  | succ n ih =>
    show dot n x (fun k => if k = c then 1 else 0) + x n * (if n = c then 1 else 0) = x c
    by_cases q : n = c
    · subst q
      rw [if_pos rfl, dot_zero (fun k hk => if_neg (by omega)), Int.mul_one]
      omega
    · rw [if_neg q, ih (by omega), Int.mul_zero]
      omega
section
variable {n g a r c : Nat} {T V A : F2}
/-- what a trade counts in the columns -/
def av (g : Nat) (A V : F2) (k c : Nat) : Int := dot g (A k) fun m => V m c
inductive Sp (n : Nat) (T : F2) : (Nat → Int) → Prop
  | zero : Sp n T fun _ => 0
  | add {v : Nat → Int} (i : Nat) (q : Int) (h : i < n) (s : Sp n T v) : Sp n T fun j => v j + q * T i j
theorem Sp.eq {v w : Nat → Int} (h : Sp n T v) (e : ∀ j, v j = w j) : Sp n T w := by
  have : v = w := funext e
  rwa [this] at h
theorem Sp.row {i : Nat} (h : i < n) : Sp n T (T i) := (Sp.zero.add i 1 h).eq fun j => by
  rw [Int.one_mul]
  omega
theorem Sp.br (ra : a < n) (rr : r < n) {v : Nat → Int} (h : Sp n T v) : Sp n (brT a r c T) fun j => v (swp a c j) := by
  induction h with
  | zero => exact .zero
  | add i q h s ih =>
    refine (ih.add (swp a r i) q (swp_bd h ra rr)).eq fun j => ?_
    unfold brT
    rw [swp_swp]
theorem Sp.rw (ra : a < n) {v : Nat → Int} (h : Sp n T v) : Sp n (rwT a T) v := by
  induction h with
  | zero => exact .zero
  | @add v i q h s ih =>
    rcases Nat.lt_or_ge a i with z | z
    · refine ((ih.add i q h).add a (q * (T i a).fdiv (T a a)) ra).eq fun j => ?_
      rw [rwT_gt z, rwT_row, Int.mul_sub, Int.mul_assoc]
      omega
    · refine (ih.add i q h).eq fun j => ?_
      rw [rwT_le z]
def colF (g a : Nat) (T : F2) (v : Nat → Int) : Nat → Int := fun j => if a < j ∧ j < g then v j - (T a j).fdiv (T a a) * v a else v j
theorem Sp.cl {v : Nat → Int} (h : Sp n T v) : Sp n (clT g a T) (colF g a T v) := by
  induction h with
  | zero =>
    refine Sp.zero.eq fun j => ?_
    unfold colF
    split
    · rw [Int.mul_zero]
      rfl
    · rfl
  | @add v i q h s ih =>
    refine (ih.add i q h).eq fun j => ?_
    unfold colF clT
    dsimp only
    generalize (T a j).fdiv (T a a) = f
    split
    · rw [Int.mul_sub, Int.mul_add, Int.mul_left_comm f q]
      omega
    · rfl
/-- the grid tells the sums of the trades -/
structure Kpt (n g : Nat) (A T V : F2) : Prop where
  sp : ∀ k, k < n → ∃ v, Sp n T v ∧ ∀ c, c < g → v c = av g A V k c
  u : ∀ i c, i < n → c < g → T i c = dot n (fun k => T i (g + k)) fun k => av g A V k c
  inj : ∀ x : Nat → Int, (∀ c, c < g → dot g x (fun m => V m c) = 0) → ∀ m, m < g → x m = 0
theorem Kpt.br (h : Kpt n g A T V) (an : a < n) (rn : r < n) (ag : a < g) (cg : c < g) : Kpt n g A (brT a r c T) (brV a c V) := by
  refine ⟨fun k hk => ?_, fun i j hi hj => ?_, fun x hx => h.inj x fun j hj => ?_⟩
  · obtain ⟨v, s, e⟩ := h.sp k hk
    exact ⟨_, s.br (c := c) an rn, fun j hj => e _ (swp_bd hj ag cg)⟩
  · have e := h.u (swp a r i) (swp a c j) (swp_bd hi an rn) (swp_bd hj ag cg)
    show T (swp a r i) (swp a c j) = _
    rw [e]
    refine dot_congr (fun k _ => ?_) fun k _ => rfl
    show _ = T (swp a r i) (swp a c (g + k))
    congr 1
    unfold swp
    rw [if_neg (by omega), if_neg (by omega)]
  · have := hx (swp a c j) (swp_bd hj ag cg)
    unfold brV at this
    rwa [swp_swp] at this
theorem Kpt.rw (h : Kpt n g A T V) (an : a < n) : Kpt n g A (rwT a T) V := by
  refine ⟨fun k hk => ?_, fun i j hi hj => ?_, h.inj⟩
  · obtain ⟨v, s, e⟩ := h.sp k hk
    exact ⟨v, s.rw an, e⟩
  · rcases Nat.lt_or_ge a i with z | z
    · rw [rwT_gt z, h.u i j hi hj, h.u a j an hj, dot_comm, dot_comm n (fun k => T a (g + k)), ← dot_sub, dot_comm]
      exact dot_congr (fun k _ => (rwT_gt z).symm) fun _ _ => rfl
    · rw [rwT_le z, h.u i j hi hj]
      exact dot_congr (fun k _ => (rwT_le z).symm) fun _ _ => rfl
theorem av_cl {k j : Nat} (q : a < j ∧ j < g) : av g A (clV g a T V) k j = av g A V k j - (T a j).fdiv (T a a) * av g A V k a := by
  unfold av
  rw [← dot_sub]
  exact dot_congr (fun _ _ => rfl) fun m _ => clV_in q.1 q.2
theorem av_cl' {k j : Nat} (q : ¬ (a < j ∧ j < g)) : av g A (clV g a T V) k j = av g A V k j := by
  unfold av
  exact dot_congr (fun _ _ => rfl) fun m _ => clV_out (by omega)
theorem Kpt.cl (h : Kpt n g A T V) (ag : a < g) : Kpt n g A (clT g a T) (clV g a T V) := by
  refine ⟨fun k hk => ?_, fun i j hi hj => ?_, fun x hx => h.inj x fun j hj => ?_⟩
  · obtain ⟨v, s, e⟩ := h.sp k hk
    refine ⟨_, s.cl (g := g) (a := a), fun j hj => ?_⟩
    unfold colF
    by_cases q : a < j ∧ j < g
    · rw [if_pos q, av_cl q, e j hj, e a ag]
    · rw [if_neg q, av_cl' q, e j hj]
  · have eu : ∀ y : Nat → Int, dot n (fun k => clT g a T i (g + k)) y = dot n (fun k => T i (g + k)) y := fun y => dot_congr (fun k _ => clT_out (.inr (Nat.le_add_right g k))) fun _ _ => rfl
    rw [eu]
    by_cases q : a < j ∧ j < g
    · rw [clT_in q.1 q.2, h.u i j hi hj, h.u i a hi ag, ← dot_sub]
      exact dot_congr (fun _ _ => rfl) fun k _ => (av_cl q).symm
    · rw [clT_out (by omega), h.u i j hi hj]
      exact dot_congr (fun _ _ => rfl) fun k _ => (av_cl' q).symm
  · have e0 : dot g x (fun m => V m a) = 0 := by
      have := hx a ag
      have e : dot g x (fun m => clV g a T V m a) = dot g x (fun m => V m a) := dot_congr (fun _ _ => rfl) fun m _ => clV_out (.inl (Nat.le_refl a))
      rwa [e] at this
    by_cases q : a < j ∧ j < g
    · have := hx j hj
      have e : dot g x (fun m => clV g a T V m j) = dot g x (fun m => V m j - (T a j).fdiv (T a a) * V m a) := dot_congr (fun _ _ => rfl) fun m _ => clV_in q.1 q.2
      rw [e, dot_sub, e0, Int.mul_zero] at this
      omega
    · have := hx j hj
      have e : dot g x (fun m => clV g a T V m j) = dot g x (fun m => V m j) := dot_congr (fun _ _ => rfl) fun m _ => clV_out (by omega)
      rwa [e] at this
theorem Kpt.st (h : Kpt n g A T V) (L : Lst n g T a r c) : Kpt n g A (stT g a r c T) (stV g a r c T V) := by
  have an : a < n := by have := L.ai; have := L.i_n; omega
  have ag : a < g := by have := L.aj; have := L.jg; omega
  exact ((h.br an L.i_n ag L.jg).rw an).cl ag
end
/-! the grid at first and at last -/
/-- what each column is counted by -/
def dg (n : Nat) (T : F2) (c : Nat) : Nat := if c < n then (T c c).natAbs else 0
/-- the last grid of a market -/
structure Lastly (n g : Nat) (A : F2) (S : Gs) : Prop where
  bd : BdS n g BB S
  diag : ∀ i j, i < n → j < g → i ≠ j → S.T i j = 0
  kp : Kpt n g A S.T S.V
/-- each trade keeps each count -/
theorem Lastly.keeps {n g : Nat} {A : F2} {S : Gs} (h : Lastly n g A S) {k c : Nat} (hk : k < n) (hc : c < g) : ((dg n S.T c : Nat) : Int) ∣ av g A S.V k c := by
  obtain ⟨v, s, e⟩ := h.kp.sp k hk
  rw [← e c hc]
  clear e
  have hd := h.diag
  induction s with
  | zero => exact Int.dvd_zero _
  | @add v i q hi s ih =>
    refine Int.dvd_add ih (Int.dvd_mul_of_dvd_right ?_)
    by_cases z : i = c
    · subst z
      unfold dg
      rw [if_pos hi]
      exact Int.natAbs_dvd.mpr (Int.dvd_refl _)
    · rw [hd i c hi hc z]
      exact Int.dvd_zero _
end Lb.Gr
set_option Elab.async false
set_option linter.all false
set_option maxRecDepth 100000
set_option maxHeartbeats 4000000
namespace Lb.Gr
/-! ### counts and net numbers of a grid at its end -/
/-- a count's weight -/
def wt (n : Nat) (S : Gs) (c k : Nat) : Int := if 0 < dg n S.T c then S.V k c % (dg n S.T c : Int) else S.V k c
/-- the weighed sum, by the grid's own weights -/
def wsum (g : Nat) (S : Gs) (c : Nat) (y : Nat → Int) : Int := dot g y fun m => S.V m c
theorem dot_dvd {n : Nat} {d : Int} {x y : Nat → Int} (h : ∀ k, k < n → d ∣ y k) : d ∣ dot n x y := by
  induction n with
  | zero => exact Int.dvd_zero d
  | succ n ih => exact Int.dvd_add (ih fun k hk => h k (by omega)) (Int.dvd_mul_of_dvd_right (h n (by omega)))
theorem wt_sum {n g : Nat} {S : Gs} {c : Nat} (y : Nat → Int) : (dg n S.T c : Int) ∣ wsum g S c y - dot g y (wt n S c) := by
  have e : wsum g S c y - dot g y (wt n S c) = dot g y fun m => S.V m c - 1 * wt n S c m := by
    rw [dot_sub, Int.one_mul]
    rfl
  rw [e]
  refine dot_dvd fun k _ => ?_
  unfold wt
  split
  · rw [Int.one_mul]
    exact Int.dvd_self_sub_emod
  · rw [Int.one_mul, Int.sub_self]
    exact Int.dvd_zero _
theorem wt_iff {n g : Nat} {S : Gs} {c : Nat} (y : Nat → Int) : (dg n S.T c : Int) ∣ dot g y (wt n S c) ↔ (dg n S.T c : Int) ∣ wsum g S c y := by
  have h := wt_sum (n := n) (g := g) (S := S) (c := c) y
  constructor
  · intro h1
    have := Int.dvd_add h h1
    rwa [Int.sub_add_cancel] at this
  · intro h1
    have := Int.dvd_sub h1 h
    rwa [show wsum g S c y - (wsum g S c y - dot g y (wt n S c)) = dot g y (wt n S c) by omega] at this
theorem Lastly.trade {n g : Nat} {A : F2} {S : Gs} (h : Lastly n g A S) {k c : Nat} (hk : k < n) (hc : c < g) : (dg n S.T c : Int) ∣ dot g (A k) (wt n S c) :=
  wt_iff (A k) |>.mpr (h.keeps hk hc)
/-! net numbers -/
end Lb.Gr
set_option Elab.async false
set_option linter.all false
set_option maxRecDepth 100000
set_option maxHeartbeats 4000000
namespace Lb
open PySem PySem.Spec PyProof.Rows L2 RZ TL
/-! ### lists of ints by a function -/
def rowL (w : Nat) (f : Nat → Int) : List V := (List.range w).map fun k => V.int (f k)
theorem rowL_get {w k : Nat} {f : Nat → Int} (h : k < w) : (rowL w f)[k]? = some (V.int (f k)) := by
  unfold rowL
  rw [List.getElem?_map, List.getElem?_range h]
  rfl
theorem rowL_congr {w : Nat} {f h : Nat → Int} (e : ∀ k, k < w → f k = h k) : rowL w f = rowL w h := by
  unfold rowL
  refine List.map_congr_left fun k hk => ?_
  rw [e k (List.mem_range.mp hk)]
/-! ### what the helpers of the grid answer -/
def gain (t : Trd) (k : Nat) : Int := t.2.getD k 0 - t.1.getD k 0
def spAnyS : Sp := fun vs H Q _ => ∃ (R : Rgn) (d c r : Addr) (n : Nat), vs = [.ref d] ∧ Dk H d c r n ∧ n < 2 ^ 36 ∧ Rg R H d r ∧
  ∀ (H' : Hp) (v : V) (g : Nat) (ts : List Trd), MktOk g ts → (ts.length + g ≤ 5 ∨ g ≤ 2) → Dat R H' v (mktD g ts) → Dk H' d c r (n + 101) → Kp d r H H' → Q v H'
end Lb
set_option Elab.async false
set_option linter.all false
set_option maxRecDepth 100000
set_option maxHeartbeats 4000000
namespace Lb
open PySem PySem.Spec PyProof.Rows L2 RZ TL
/-! ### a grid on the heap -/
/-- rows as lists -/
structure Rows (H : Hp) (vs : List V) (n w : Nat) (T : Gr.F2) : Prop where
  len : vs.length = n
  row : ∀ i, i < n → ∃ r, vs[i]? = some (.ref r) ∧ H r = some (.lst (rowL w (T i)))
theorem Rows.same {H H' : Hp} {vs : List V} {n w : Nat} {T : Gr.F2} (h : Rows H vs n w T) (s : Same H H') : Rows H' vs n w T :=
  ⟨h.len, fun i hi => let ⟨r, e1, e2⟩ := h.row i hi; ⟨r, e1, s _ _ e2⟩⟩
/-- a list of references is no row -/
theorem row_ne {H : Hp} {r p : Addr} {w n : Nat} {f : Nat → Int} {vs : List V} {T : Gr.F2} (hw : 1 ≤ w) (er : H r = some (.lst (rowL w f))) (ep : H p = some (.lst vs)) (hv : ∀ x ∈ vs, ∃ q, x = V.ref q) : r ≠ p := by
  rintro rfl
  rw [er] at ep
  have e : rowL w f = vs := by cases ep; rfl
  obtain ⟨q, z⟩ := hv (V.int (f 0)) (by
    rw [← e]
    exact List.mem_of_getElem? (rowL_get hw))
  cases z
theorem Rows.refs {H : Hp} {vs : List V} {n w : Nat} {T : Gr.F2} (h : Rows H vs n w T) : ∀ x ∈ vs, ∃ q, x = V.ref q := by
  intro x hx
  obtain ⟨i, hi⟩ := List.getElem?_of_mem hx
  have hin : i < n := by
    rcases Nat.lt_or_ge i vs.length with q | q
    · rw [← h.len]
      exact q
    · rw [List.getElem?_eq_none q] at hi
      cases hi
  obtain ⟨r, e1, _⟩ := h.row i hin
  rw [hi] at e1
  exact ⟨r, Option.some.inj e1⟩
/-- another list of references changes -/
theorem Rows.upd {H : Hp} {vs us ws : List V} {n w : Nat} {T : Gr.F2} {p : Addr} (h : Rows H vs n w T) (hw : 1 ≤ w) (ep : H p = some (.lst us)) (hu : ∀ x ∈ us, ∃ q, x = V.ref q) : Rows (upd H p (.lst ws)) vs n w T :=
  ⟨h.len, fun i hi => by
    obtain ⟨r, e1, e2⟩ := h.row i hi
    refine ⟨r, e1, ?_⟩
    rw [upd_ne (row_ne (n := n) (T := T) hw e2 ep hu)]
    exact e2⟩
theorem Rows.snoc {H : Hp} {vs : List V} {n w : Nat} {T : Gr.F2} {r : Addr} (h : Rows H vs n w T) (e : H r = some (.lst (rowL w (T n)))) : Rows H (vs ++ [.ref r]) (n + 1) w T := by
  refine ⟨by rw [List.length_append, h.len]; rfl, fun i hi => ?_⟩
  by_cases q : i < n
  · obtain ⟨r', e1, e2⟩ := h.row i q
    exact ⟨r', by rw [List.getElem?_append_left (by rw [h.len]; exact q)]; exact e1, e2⟩
  · obtain rfl : i = n := by omega
    refine ⟨r, ?_, e⟩
    rw [List.getElem?_append_right (by rw [h.len]; exact Nat.le_refl _), h.len, Nat.sub_self]
    rfl
theorem Rows.congr {H : Hp} {vs : List V} {n w : Nat} {T U : Gr.F2} (h : Rows H vs n w T) (e : ∀ i j, i < n → j < w → T i j = U i j) : Rows H vs n w U :=
  ⟨h.len, fun i hi => by
    obtain ⟨r, e1, e2⟩ := h.row i hi
    refine ⟨r, e1, ?_⟩
    rw [e2, rowL_congr fun k hk => e i k hi hk]⟩
theorem Rows.at {H : Hp} {vs : List V} {n w i : Nat} {T : Gr.F2} (h : Rows H vs n w T) (hi : i < n) : ∃ r, atI vs ((i : Nat) : Int) = some (.ref r) ∧ H r = some (.lst (rowL w (T i))) := by
  obtain ⟨r, e1, e2⟩ := h.row i hi
  exact ⟨r, atI_nat e1, e2⟩
/-- a row is put in -/
theorem Rows.set {H : Hp} {vs : List V} {n w k : Nat} {T : Gr.F2} {r : Addr} {f : Nat → Int} (h : Rows H vs n w T) (e : H r = some (.lst (rowL w f))) : Rows H (vs.set k (.ref r)) n w fun i => if i = k then f else T i := by
  refine ⟨by rw [List.length_set]; exact h.len, fun i hi => ?_⟩
  by_cases q : i = k
  · subst q
    refine ⟨r, ?_, ?_⟩
    · rw [List.getElem?_set, if_pos rfl, if_pos (by rw [h.len]; exact hi)]
    · rw [if_pos rfl]
      exact e
  · obtain ⟨r', e1, e2⟩ := h.row i hi
    refine ⟨r', ?_, ?_⟩
    · rw [List.getElem?_set, if_neg (Ne.symm q)]
      exact e1
    · rw [if_neg q]
      exact e2
end Lb
set_option Elab.async false
set_option linter.all false
set_option maxRecDepth 100000
set_option maxHeartbeats 4000000
namespace Lb
open PySem PySem.Spec PyProof.Rows L2 RZ TL
theorem Rows.ins {H : Hp} {vs : List V} {n w : Nat} {T : Gr.F2} {x C dx : Addr} {fs : List (Str × V)} {o : HO} (h : Rows H vs n w T) (ex : H x = some (.ins C dx fs)) : Rows (L2.upd H x o) vs n w T :=
  ⟨h.len, fun i hi => by
    obtain ⟨r, e1, e2⟩ := h.row i hi
    refine ⟨r, e1, ?_⟩
    rw [upd_ne (fun z => by rw [z, ex] at e2; cases e2)]
    exact e2⟩
/-! ### what the methods of a grid answer -/
/-- what the trades add -/
def mA (ts : List Trd) : Gr.F2 := fun i j => gain (ts.getD i ([], [])) j
end Lb
set_option Elab.async false
set_option linter.all false
set_option maxRecDepth 100000
set_option maxHeartbeats 4000000
namespace Lb
open PySem PySem.Spec PyProof.Rows L2 RZ TL
end Lb
set_option Elab.async false
set_option linter.all false
set_option maxRecDepth 100000
set_option maxHeartbeats 4000000
namespace Lb
open PySem PySem.Spec PyProof.Rows L2 RZ TL
theorem Rows.drop {H : Hp} {vs : List V} {n w s : Nat} {T : Gr.F2} (h : Rows H vs n w T) : Rows H (vs.drop s) (n - s) w fun i => T (s + i) :=
  ⟨by rw [List.length_drop, h.len], fun i hi => by
    obtain ⟨r, e1, e2⟩ := h.row (s + i) (by omega)
    exact ⟨r, by rw [List.getElem?_drop]; exact e1, e2⟩⟩
/-! ### min(xs), xs a list of alike data -/
end Lb
set_option Elab.async false
set_option linter.all false
set_option maxRecDepth 100000
set_option maxHeartbeats 4000000
namespace Lb
open PySem PySem.Spec PyProof.Rows L2 RZ TL
/-! ### pairs of places -/
end Lb
set_option Elab.async false
set_option linter.all false
set_option maxRecDepth 100000
set_option maxHeartbeats 4000000
namespace Lb
open PySem PySem.Spec PyProof.Rows L2 RZ TL
/-! ### counts as data -/
/-! ### how long numbers are when shown -/
theorem log_ofL {m k : Nat} (h : m ≤ 2 ^ k) : m.log2 ≤ k := by
  rcases Nat.eq_zero_or_pos m with rfl | q
  · rw [show (0 : Nat).log2 = 0 by decide]
    exact Nat.zero_le _
  · have : m.log2 < k + 1 := (Nat.log2_lt (by omega)).mpr (Nat.lt_of_le_of_lt h (by rw [Nat.pow_succ]; have := Nat.two_pow_pos k; omega))
    omega
theorem bb_ten : Gr.BB < 10 ^ 121 := by decide +kernel
theorem int_shown {x : Int} (h : x.natAbs ≤ Gr.BB) : (Str.ofString (toString x)).length ≤ 122 := by
  have key : ∀ n : Nat, n ≤ Gr.BB → (Str.ofString (toString ((n : Nat) : Int))).length ≤ 121 := fun n hn => by
    have h1 := numL_short 120 n (Nat.lt_of_le_of_lt hn bb_ten)
    rw [← tl_num] at h1
    exact h1
  rcases Int.lt_or_le x 0 with q | q
  · obtain ⟨m, rfl⟩ : ∃ m : Nat, x = Int.negSucc m := ⟨(-x).toNat - 1, by omega⟩
    have e : toString (Int.negSucc m) = "-" ++ toString (m + 1) := rfl
    have h1 := key (m + 1) (by simpa [Int.natAbs_negSucc] using h)
    have e2 : (tl (Str.ofString (toString (Int.negSucc m)))).length = 1 + (tl (Str.ofString (toString (((m + 1 : Nat)) : Int)))).length := by
      rw [e, tl_ofString, tl_ofString, String.toList_append, List.map_append, List.length_append]
      rfl
    have h1' : (tl (Str.ofString (toString (((m + 1 : Nat)) : Int)))).length ≤ 121 := h1
    show (tl (Str.ofString (toString (Int.negSucc m)))).length ≤ 122
    omega
  · obtain ⟨n, rfl⟩ : ∃ n : Nat, x = (n : Int) := ⟨x.toNat, by omega⟩
    have := key n (by simpa using h)
    omega
theorem int_okB {x : Int} (h : x.natAbs ≤ Gr.BB) : Ok 130 0 (.int x) := by
  refine ⟨?_, ?_, by rw [PyData.depth]; exact Nat.le_refl _⟩
  · rw [fine]
    refine decide_eq_true ?_
    have := log_ofL (k := 400) h
    omega
  · rw [wt, PyData.shown]
    have := int_shown h
    omega
/-! ### what the defs around the grid answer -/
end Lb
set_option Elab.async false
set_option linter.all false
set_option maxRecDepth 100000
set_option maxHeartbeats 4000000
namespace Lb
open PySem PySem.Spec PyProof.Rows L2 RZ TL
/-! ### zip of two sequences, each a list or a tuple -/
end Lb
set_option Elab.async false
set_option linter.all false
set_option maxRecDepth 100000
set_option maxHeartbeats 4000000
namespace Lb
open PySem PySem.Spec PyProof.Rows L2 RZ TL
/-! ### stocks and what lies around them -/
/-- so many amounts, up to m -/
structure StkB (g m : Nat) (x : List Int) : Prop where
  len : x.length = g
  amt : ∀ z ∈ x, 0 ≤ z ∧ z ≤ (m : Int)
theorem StkB.mono {g m n : Nat} {x : List Int} (h : StkB g m x) (l : m ≤ n) : StkB g n x := ⟨h.len, fun z hz => by have := h.amt z hz; omega⟩
theorem StkB.get {g m : Nat} {x : List Int} (h : StkB g m x) (k : Nat) : 0 ≤ x.getD k 0 ∧ x.getD k 0 ≤ (m : Int) := by
  rw [List.getD_eq_getElem?_getD]
  rcases Nat.lt_or_ge k x.length with q | q
  · rw [List.getElem?_eq_getElem q]
    exact h.amt _ (List.getElem_mem q)
  · rw [List.getElem?_eq_none q]
    exact ⟨Int.le_refl _, by show (0 : Int) ≤ _; omega⟩
theorem geB_at {x y : List Int} {i : Nat} {u v : Int} (h : geB x y = true) (hx : x[i]? = some u) (hy : y[i]? = some v) : v ≤ u := by
  unfold geB at h
  rw [List.all_eq_true] at h
  have hm : decide (u ≥ v) ∈ List.zipWith (fun a b => decide (a ≥ b)) x y := by
    refine List.mem_of_getElem? (i := i) ?_
    rw [List.getElem?_zipWith, hx, hy]
  have := h _ hm
  simpa using this
theorem exch_bd {g m : Nat} {x t p b : List Int} (hx : StkB g m x) (ht : t.length = g) (hp : StkB g 3 p) (tn : ∀ z ∈ t, 0 ≤ z) (e : exch x t p = some b) : StkB g (m + 3) b := by
  unfold exch at e
  split at e
  · rename_i hg
    cases e
    refine ⟨by rw [List.length_zipWith, List.length_zipWith, hx.len, ht, hp.len]; omega, fun z hz => ?_⟩
    obtain ⟨i, hi⟩ := List.getElem?_of_mem hz
    have hl : i < g := by
      have := (List.getElem?_eq_some_iff.mp hi).1
      rw [List.length_zipWith, List.length_zipWith, hx.len, ht, hp.len] at this
      omega
    obtain ⟨u, ex⟩ : ∃ u, x[i]? = some u := ⟨_, List.getElem?_eq_getElem (show i < x.length by rw [hx.len]; exact hl)⟩
    obtain ⟨v, et⟩ : ∃ v, t[i]? = some v := ⟨_, List.getElem?_eq_getElem (show i < t.length by rw [ht]; exact hl)⟩
    obtain ⟨w, ep⟩ : ∃ w, p[i]? = some w := ⟨_, List.getElem?_eq_getElem (show i < p.length by rw [hp.len]; exact hl)⟩
    rw [List.getElem?_zipWith, List.getElem?_zipWith, ex, et, ep] at hi
    have hz2 : u - v + w = z := Option.some.inj hi
    have h1 := geB_at hg ex et
    have h2 := hx.amt _ (List.mem_of_getElem? ex)
    have h3 := hp.amt _ (List.mem_of_getElem? ep)
    have h4 := tn _ (List.mem_of_getElem? et)
    omega
  · cases e
theorem Side.stk {g m : Nat} {b : List Int} (h : Side g m b) : StkB g 3 b := ⟨h.len, fun z hz => h.amt z hz⟩
theorem behind_bd {g m : Nat} {ts : List Trd} {x b : List Int} {k : Nat} {c : Bool} (mok : MktOk g ts) (hx : StkB g m x) (e : behind ts x k c = some b) : StkB g (m + 3) b := by
  unfold behind at e
  split at e
  · cases e
  · rename_i t ht
    have htm := mok.all t (List.mem_of_getElem? ht)
    split at e
    · exact exch_bd hx htm.2.len htm.1.stk (fun z hz => (htm.2.amt z hz).1) e
    · exact exch_bd hx htm.1.len htm.2.stk (fun z hz => (htm.1.amt z hz).1) e
/-- the steps in order -/
def steps2 (n : Nat) : List (Nat × Bool) := (List.range n).flatMap fun k => [(k, false), (k, true)]
theorem steps2_succ (n : Nat) : steps2 (n + 1) = steps2 n ++ [(n, false), (n, true)] := by
  unfold steps2
  rw [List.range_succ, List.flatMap_append]
  rfl
theorem steps2_len (n : Nat) : (steps2 n).length = 2 * n := by
  induction n with
  | zero => rfl
  | succ n ih =>
    rw [steps2_succ, List.length_append, ih]
    show 2 * n + 2 = _
    omega
def arnd (ts : List Trd) (x : List Int) (n : Nat) : List (List Int) := (steps2 n).filterMap fun s => behind ts x s.1 s.2
abbrev around (ts : List Trd) (x : List Int) : List (List Int) := arnd ts x ts.length
theorem arnd_len (ts : List Trd) (x : List Int) (n : Nat) : (arnd ts x n).length ≤ 2 * n := by
  have := List.length_filterMap_le (fun s : Nat × Bool => behind ts x s.1 s.2) (steps2 n)
  rw [steps2_len] at this
  exact this
theorem mem_arnd {ts : List Trd} {x y : List Int} {n : Nat} (h : y ∈ arnd ts x n) : ∃ k b, behind ts x k b = some y := by
  obtain ⟨s, _, e⟩ := List.mem_filterMap.mp h
  exact ⟨s.1, s.2, e⟩
theorem around_bd {g m : Nat} {ts : List Trd} {x y : List Int} (mok : MktOk g ts) (hx : StkB g m x) (h : y ∈ around ts x) : StkB g (m + 3) y := by
  obtain ⟨k, b, e⟩ := mem_arnd h
  exact behind_bd mok hx e
/-! ### what the defs of the laws about counts answer -/
def spAround : Sp := fun vs H Q _ => ∃ (R : Rgn) (m s : V) (g : Nat) (ts : List Trd) (x : List Int), vs = [m, s] ∧ Dat R H m (.tuple (ts.map trdD)) ∧ Dat R H s (bagD x) ∧ Even g ts ∧ g ≤ 1000 ∧ x.length = g ∧ ts.length ≤ 100 ∧ (∀ p, H p = none → R p) ∧
  ∀ (H' : Hp) (L : Addr) (us : List V), Same H H' → H L = none → H' L = some (.lst us) → Dats R H' us ((around ts x).map bagD) → Q (.ref L) H'
/-! ### what the program's defs answer -/
/-! ### the size of net numbers -/
end Lb
set_option Elab.async false
set_option linter.all false
set_option maxRecDepth 100000
set_option maxHeartbeats 4000000
namespace Lb
open PySem PySem.Spec PyProof.Rows L2 RZ TL
theorem mA_at {ts : List Trd} {k : Nat} {t : Trd} (h : ts[k]? = some t) : mA ts k = gain t := by
  unfold mA
  rw [List.getD_eq_getElem?_getD, h]
  rfl
end Lb
set_option Elab.async false
set_option linter.all false
set_option maxRecDepth 100000
set_option maxHeartbeats 4000000
/-! tables of sets whose mask may be greater than 127 -/
namespace Lb.Ts
open PySem PySem.Spec PyProof.Rows L2
/-- from each slot the round comes to each slot -/
def Rnd (m : Nat) : Prop := ∀ i j, i ≤ m → j ≤ m → ∃ k, k ≤ m ∧ lcgI m i k = j
theorem lcgI_add (m x a : Nat) : ∀ k, lcgI m (lcgI m x a) k = lcgI m x (a + k)
  | 0 => rfl
  | k + 1 => congrArg (fun y => (y * 5 + 1) % (m + 1)) (lcgI_add m x a k)
theorem lcgI_front (m x k : Nat) : lcgI m ((x * 5 + 1) % (m + 1)) k = lcgI m x (k + 1) := by
  have := lcgI_add m x 1 k
  rw [Nat.add_comm 1 k] at this
  exact this
def orb (m : Nat) : Nat → Nat → List Nat
  | 0, _ => []
  | n + 1, x => x :: orb m n ((x * 5 + 1) % (m + 1))
theorem orb_mem {m : Nat} : ∀ {n x y : Nat}, y ∈ orb m n x → ∃ k, k < n ∧ lcgI m x k = y
  | 0, _, _, h => absurd h List.not_mem_nil
  | n + 1, x, y, h => by
    rcases List.mem_cons.mp h with e | h
    · exact ⟨0, Nat.succ_pos n, e.symm⟩
    · obtain ⟨k, hk, e⟩ := orb_mem h
      exact ⟨k + 1, by omega, by rw [← lcgI_front]; exact e⟩
theorem orb_all : ((List.range 512).all fun j => (orb 511 512 0).contains j) = true := by decide +kernel
theorem orb_back : lcgI 511 0 512 = 0 := by decide +kernel
theorem rnd511 : Rnd 511 := by
  have at0 : ∀ j, j ≤ 511 → ∃ k, k < 512 ∧ lcgI 511 0 k = j := fun j hj => by
    have := List.all_eq_true.mp orb_all j (List.mem_range.mpr (by omega))
    exact orb_mem (List.contains_iff_mem.mp this)
  intro i j hi hj
  obtain ⟨a, ha, ea⟩ := at0 i hi
  obtain ⟨b, hb, eb⟩ := at0 j hj
  rcases Nat.lt_or_ge b a with q | q
  · refine ⟨b + 512 - a, by omega, ?_⟩
    rw [← ea, lcgI_add, show a + (b + 512 - a) = 512 + b by omega, ← lcgI_add, orb_back]
    exact eb
  · refine ⟨b - a, by omega, ?_⟩
    rw [← ea, lcgI_add, show a + (b - a) = b by omega]
    exact eb
/-- the masks that come -/
def Msk (m : Nat) : Prop := m = 7 ∨ m = 31 ∨ m = 127 ∨ m = 511
theorem Msk.rnd {m : Nat} (h : Msk m) : Rnd m := by
  rcases h with e | e | e | e
  · exact fun i j hi hj => lcgI_all (.inl e) hi hj
  · exact fun i j hi hj => lcgI_all (.inr (.inl e)) hi hj
  · exact fun i j hi hj => lcgI_all (.inr (.inr e)) hi hj
  · rw [e]
    exact rnd511
theorem Msk.le {m : Nat} (h : Msk m) : m ≤ 511 := by
  rcases h with e | e | e | e <;> omega
theorem Msk.odd {m : Nat} (h : Msk m) : m % 2 = 1 := by
  rcases h with e | e | e | e <;> rw [e]
/-! ### the way of a hash -/
section
variable {m : Nat} {h : Int}
theorem wy_le (k : Nat) : way m h k ≤ m := by
  have h1 : SetTable.bits h % (m + 1) < m + 1 := Nat.mod_lt _ (Nat.succ_pos m)
  have h2 := runEnd_bd (m := m) (i := SetTable.bits h % (m + 1)) (by omega)
  have h3 := nth_in (m := m) k (runAt m (SetTable.bits h % (m + 1)) (SetTable.bits h)) (show SetTable.bits h % (m + 1) + (SetTable.runEnd m (SetTable.bits h % (m + 1)) - SetTable.bits h % (m + 1)) ≤ m by omega)
  exact Nat.le_trans (Nat.le_add_right _ _) h3
theorem wy_run (hm : Rnd m) {j : Nat} (hj : j ≤ m) : ∃ n, n ≤ m + 12 ∧ runI m (SetTable.bits h) n = j := by
  obtain ⟨k, hk, e⟩ := hm _ j (runI_le m (SetTable.bits h) 12) hj
  exact ⟨12 + k, by omega, (runI_tail (bits_lt h) k).trans e⟩
theorem wy_hits (hm : Rnd m) {j : Nat} (hj : j ≤ m) : ∃ k, k < 10 * SetTable.turns m ∧ way m h k = j := by
  obtain ⟨n, hn, e⟩ := wy_run (h := h) hm hj
  obtain ⟨k, hk, e2⟩ := run_nth m (SetTable.bits h) n
  have ht : SetTable.turns m = m + 15 := rfl
  exact ⟨k, by omega, (congrArg SetTable.Probe.j e2).trans e⟩
end
/-! ### tables -/
structure Tab (t : SetTable) (hs : List Int) : Prop where
  asc : Ris t.place.toList
  nod : t.dummies = #[]
  len : t.place.size = hs.length
  msk : Msk t.mask
  top : ∀ x ∈ t.place.toList, x ≤ t.mask
  road : ∀ (i : Nat) (h : Int) (j : Nat), hs[i]? = some h → t.place.toList[i]? = some j → ∃ k, way t.mask h k = j ∧ ∀ k', k' < k → way t.mask h k' ∈ t.place.toList
section
variable {t : SetTable} {hs : List Int} {h : Int}
theorem Tab.plen (T : Tab t hs) : t.place.toList.length = hs.length := (Array.length_toList ..).trans T.len
theorem Tab.free (T : Tab t hs) (hl : hs.length ≤ t.mask) (h : Int) : ∃ K, K < 10 * SetTable.turns t.mask ∧ way t.mask h K ∉ t.place.toList ∧ ∀ k, k < K → way t.mask h k ∈ t.place.toList := by
  obtain ⟨j, hj, nj⟩ := st_missing t.place.toList (t.mask + 1) (by have := T.plen; omega)
  obtain ⟨k, hk, e⟩ := wy_hits (h := h) T.msk.rnd (Nat.le_of_lt_succ hj)
  obtain ⟨K, l1, l2, l3⟩ := st_least (p := fun n => way t.mask h n ∉ t.place.toList) k (fun z => nj (e ▸ z))
  exact ⟨K, Nat.lt_of_le_of_lt l1 hk, l2, fun n hn => Classical.not_not.mp (l3 n hn)⟩
theorem Tab.ahead (T : Tab t hs) {K i j : Nat} (hK : way t.mask h K ∉ t.place.toList) (hi : hs[i]? = some h) (hj : t.place.toList[i]? = some j) : ∃ k, k < K ∧ way t.mask h k = j := by
  obtain ⟨k, e, hb⟩ := T.road i h j hi hj
  refine ⟨k, Nat.lt_of_not_le fun q => hK ?_, e⟩
  rcases Nat.eq_or_lt_of_le q with q | q
  · rw [q, e]
    exact List.mem_of_getElem? hj
  · exact hb K q
/-- what a table is after one is put in -/
structure PutIn (t t1 : SetTable) (hs : List Int) (h : Int) (p : Nat) : Prop where
  le : p ≤ hs.length
  tab : Tab t1 (hs.take p ++ h :: hs.drop p)
  msk : t1.mask = t.mask
  led : t1.led = t.led
  pln : t1.plain = t.plain
  fil : t1.fill = hs.length + 1
theorem Tab.add (T : Tab t hs) {K : Nat} (hK : way t.mask h K ∉ t.place.toList) (hb : ∀ k, k < K → way t.mask h k ∈ t.place.toList) :
    PutIn t (t.put (way t.mask h K)).1 hs h (SetTable.below t.place (way t.mask h K)) := by
  have top := wy_le (m := t.mask) (h := h) K
  generalize ej : way t.mask h K = j at hK top
  obtain ⟨c1, _, _⟩ := below_cut T.asc j
  have pl := put_place t j
  have nt : t.place[SetTable.below t.place j]? ≠ some j := fun e => hK (List.mem_of_getElem? ((Array.getElem?_toList ..).trans e))
  have asc := ris_insert T.asc nt
  have nd := put_dm T.nod j
  have hq : SetTable.below t.place j ≤ hs.length := by
    rw [← T.len]
    exact c1
  have hq2 : SetTable.below t.place j ≤ t.place.toList.length := by
    rw [T.plen]
    exact hq
  have asc2 : Ris (t.put j).1.place.toList := asc
  have em : (t.put j).1.mask = t.mask := rfl
  have e5 : (t.put j).1.led = t.led ∧ (t.put j).1.plain = t.plain := ⟨rfl, rfl⟩
  have ef : (t.put j).1.fill = (t.put j).1.place.size + (t.put j).1.dummies.size := rfl
  generalize (t.put j).1 = t1 at pl asc2 nd em e5 ef
  generalize SetTable.below t.place j = p at pl hq hq2
  have es : t1.place.size = hs.length + 1 := by
    rw [← Array.length_toList, pl, len_ins _ hq2, T.plen]
  have old : ∀ {x : Nat}, x ∈ t.place.toList → x ∈ t1.place.toList := fun {x} hx => by
    rw [pl]
    exact mem_ins.mpr (.inr hx)
  refine ⟨hq, ⟨asc2, nd, es.trans (len_ins _ hq h).symm, by rw [em]; exact T.msk, fun x hx => ?_, fun i g y h1 h2 => ?_⟩, em, e5.1, e5.2, ?_⟩
  · rw [em]
    rw [pl] at hx
    rcases mem_ins.mp hx with e | hx
    · rw [e]
      exact top
    · exact T.top x hx
  · rw [em]
    rw [pl, tins_get _ hq2] at h2
    rw [tins_get _ hq] at h1
    have back : ∀ {n : Nat}, hs[n]? = some g → t.place.toList[n]? = some y → ∃ k, way t.mask g k = y ∧ ∀ k', k' < k → way t.mask g k' ∈ t1.place.toList := fun {n} a b =>
      let ⟨k, e, r⟩ := T.road n g y a b
      ⟨k, e, fun k' l => old (r k' l)⟩
    split at h1
    · rename_i q
      rw [if_pos q] at h2
      exact back h1 h2
    · rename_i q
      rw [if_neg q] at h2
      split at h1
      · rename_i q2
        rw [if_pos q2] at h2
        cases h1
        cases h2
        exact ⟨K, ej, fun k' l => old (hb k' l)⟩
      · rename_i q2
        rw [if_neg q2] at h2
        exact back h1 h2
  · rw [ef, es, nd]
    rfl
end
/-! ### laid anew -/
theorem own_find {m : Nat} (hm : Rnd m) (ow : Array (Option Nat)) (h : Int) {j : Nat} (hj : j ≤ m) (hf : oAt ow j = none) :
    ∃ K, SetTable.layClean.free m ow (SetTable.turns m) (SetTable.bits h % (m + 1)) (SetTable.bits h) = some (way m h K) ∧ oAt ow (way m h K) = none ∧ ∀ k, k < K → oAt ow (way m h k) ≠ none := by
  obtain ⟨n, hn, e⟩ := wy_run (h := h) hm hj
  have at_ : way m h (off m (SetTable.bits h % (m + 1)) (SetTable.bits h) n) = j := by
    have := nth_off m n (SetTable.bits h % (m + 1)) (SetTable.bits h)
    rw [itL_run] at this
    exact (congrArg SetTable.Probe.j this).trans e
  obtain ⟨K, l1, l2, l3⟩ := st_least (p := fun k => oAt ow (way m h k) = none) _ (show oAt ow (way m h _) = none from at_.symm ▸ hf)
  have ht : SetTable.turns m = m + 15 := rfl
  refine ⟨K, free_spec m ow (SetTable.turns m) n _ _ K (by omega) l1 (fun k hk => ?_) ?_, l2, l3⟩
  · exact Bool.eq_false_iff.mpr fun z => l3 k hk (Option.isNone_iff_eq_none.mp z)
  · exact Option.isNone_iff_eq_none.mpr l2
theorem own_step {m : Nat} (hm : Rnd m) {hs : List Int} {ow : Array (Option Nat)} (W : L2.Own m hs ow) (hl : hs.length ≤ m) (h : Int) :
    ∃ j, SetTable.layClean.free m ow (SetTable.turns m) (SetTable.bits h % (m + 1)) (SetTable.bits h) = some j ∧ L2.Own m (hs ++ [h]) (ow.setIfInBounds j (some hs.length)) := by
  obtain ⟨ps, pl, pm⟩ := W.ps
  obtain ⟨x, hx, nx⟩ := st_missing ps (m + 1) (by omega)
  have ex : oAt ow x = none := Classical.byContradiction fun z => nx (pm x (by omega) z)
  obtain ⟨K, f1, f2, f3⟩ := own_find hm ow h (Nat.le_of_lt_succ hx) ex
  have top := wy_le (m := m) (h := h) K
  refine ⟨_, f1, ?_⟩
  generalize ej : way m h K = j at f2 top
  have js : j < ow.size := by
    rw [W.sz]
    omega
  have e1 := oAt_set_self (owner := ow) (some hs.length) js
  have e2 : ∀ i, i ≠ j → oAt (ow.setIfInBounds j (some hs.length)) i = oAt ow i := fun i hi => oAt_set_ne _ hi
  have es : (ow.setIfInBounds j (some hs.length)).size = m + 1 := (Array.size_setIfInBounds ..).trans W.sz
  generalize ow.setIfInBounds j (some hs.length) = ow2 at e1 e2 es
  have up : ∀ {i : Nat}, oAt ow i ≠ none → oAt ow2 i ≠ none := fun {i} hi => by
    by_cases q : i = j
    · rw [q, e1]
      exact nofun
    · rw [e2 i q]
      exact hi
  refine ⟨es, fun i k hi e => ?_, fun k hk => ?_, ⟨j :: ps, by rw [List.length_cons, List.length_append, pl]; rfl, fun i hi e => ?_⟩⟩
  · by_cases q : i = j
    · rw [q, e1] at e
      cases e
      exact ⟨h, K, by rw [List.getElem?_append_right (Nat.le_refl _), Nat.sub_self]; rfl, ej.trans q.symm, fun k' l => up (f3 k' l)⟩
    · rw [e2 i q] at e
      obtain ⟨g, N, a1, a2, a3⟩ := W.at_ i k hi e
      exact ⟨g, N, by rw [List.getElem?_append_left (List.getElem?_eq_some_iff.mp a1).1]; exact a1, a2, fun k' l => up (a3 k' l)⟩
  · rcases Nat.lt_or_ge k hs.length with q | q
    · obtain ⟨i, hi, e⟩ := W.all k q
      refine ⟨i, hi, (e2 i fun z => ?_).trans e⟩
      rw [z, f2] at e
      cases e
    · have : k = hs.length := by
        rw [List.length_append] at hk
        have : k < hs.length + 1 := hk
        omega
      exact ⟨j, top, by rw [this]; exact e1⟩
  · by_cases q : i = j
    · rw [q]
      exact List.mem_cons_self
    · rw [e2 i q] at e
      exact List.mem_cons_of_mem _ (pm i hi e)
theorem own_fold {m : Nat} (hm : Rnd m) : ∀ (more hs : List Int) (ow : Array (Option Nat)), L2.Own m hs ow → hs.length + more.length ≤ m →
    ∃ ow2, more.foldl (stepF m) (some (ow, hs.length)) = some (ow2, (hs ++ more).length) ∧ L2.Own m (hs ++ more) ow2
  | [], hs, ow, W, _ => ⟨ow, by rw [List.append_nil]; rfl, by rw [List.append_nil]; exact W⟩
  | h :: more, hs, ow, W, hl => by
    have hl2 : hs.length + (more.length + 1) ≤ m := hl
    obtain ⟨j, f, W1⟩ := own_step hm W (by omega) h
    have e1 : (hs ++ [h]).length = hs.length + 1 := List.length_append
    obtain ⟨ow2, f2, W2⟩ := own_fold hm more (hs ++ [h]) _ W1 (by rw [e1]; omega)
    rw [List.append_assoc, e1] at f2
    rw [List.append_assoc] at W2
    exact ⟨ow2, by rw [List.foldl_cons, stepF_some f]; exact f2, W2⟩
theorem own_lay {m : Nat} (hm : Rnd m) {hs : Array Int} (hn : hs.size ≤ m) : ∃ ow, SetTable.layClean m hs = some ow ∧ L2.Own m hs.toList ow := by
  obtain ⟨ow, f, W⟩ := own_fold hm hs.toList [] _ (Own.init m) (by have e : hs.toList.length = hs.size := Array.length_toList; show 0 + hs.toList.length ≤ m; omega)
  refine ⟨ow, ?_, W⟩
  rw [layClean_eq]
  have f : hs.toList.foldl (stepF m) (some (Array.replicate (m + 1) none, 0)) = _ := f
  rw [f]
  rfl
theorem lay_tab (t : SetTable) {hs : Array Int} {want M : Nat} (hw : SetTable.sizeAbove want - 1 = M) (hM : Msk M) (hn : hs.size ≤ M) :
    ∃ t2 ord, t.relaid hs want = some (t2, ord) ∧ ord.toList.Perm (List.range hs.size) ∧ Tab t2 (ord.toList.map fun i => hs.getD i 0) ∧ t2.mask = M ∧ t2.led = t.led ∧ t2.plain = t.plain := by
  obtain ⟨ow, e, W⟩ := own_lay hM.rnd hn
  have er : t.relaid hs want = some (tabOf t M ow, ((liveOf M ow).map (·.2)).toArray) := by
    rw [relaid_eq, hw, e]
    rfl
  obtain ⟨r1, r2⟩ := ris_live (fun j => ow.getD j none) (List.range (M + 1)) List.pairwise_lt_range
  have r1 : Ris ((liveOf M ow).map (·.1)) := r1
  have r2 : ∀ x ∈ (liveOf M ow).map (·.1), x ∈ List.range (M + 1) := r2
  have hl : (liveOf M ow).length = hs.size := by
    obtain ⟨ps, p1, p2⟩ := W.ps
    have a1 := nat_nodup_len _ ps (r1.imp fun q => Nat.ne_of_lt q) fun x hx => by
      obtain ⟨⟨y, k⟩, hq, rfl⟩ := List.mem_map.mp hx
      obtain ⟨b1, b2⟩ := (mem_live W.sz).mp hq
      exact p2 y b1 (by rw [b2]; exact nofun)
    have a2 := nat_nodup_len (List.range hs.size) ((liveOf M ow).map (·.2)) List.nodup_range fun k hk => by
      obtain ⟨j, b1, b2⟩ := W.all k (List.mem_range.mp hk)
      exact List.mem_map.mpr ⟨(j, k), (mem_live W.sz).mpr ⟨b1, b2⟩, rfl⟩
    have e0 : hs.toList.length = hs.size := Array.length_toList
    rw [List.length_map, p1] at a1
    rw [List.length_map, List.length_range] at a2
    omega
  refine ⟨_, _, er, perm_range _ _ ?_ fun k hk => ?_, ⟨r1, rfl, ?_, hM, fun x hx => Nat.le_of_lt_succ (List.mem_range.mp (r2 x hx)), fun i g y h1 h2 => ?_⟩, rfl, rfl, rfl⟩
  · exact (List.length_map ..).trans hl
  · obtain ⟨j, b1, b2⟩ := W.all k hk
    exact List.mem_map.mpr ⟨(j, k), (mem_live W.sz).mpr ⟨b1, b2⟩, rfl⟩
  · show ((liveOf M ow).map (·.1)).toArray.size = (((liveOf M ow).map (·.2)).map fun i => hs.getD i 0).length
    simp
  · have h1 : (((liveOf M ow).map (·.2)).map fun i => hs.getD i 0)[i]? = some g := h1
    have h2 : ((liveOf M ow).map (·.1))[i]? = some y := h2
    rw [List.getElem?_map] at h2
    obtain ⟨⟨x, k⟩, hx, rfl⟩ := Option.map_eq_some_iff.mp h2
    rw [List.getElem?_map, List.getElem?_map, hx] at h1
    have h1 : hs.getD k 0 = g := Option.some.inj h1
    obtain ⟨b1, b2⟩ := (mem_live W.sz).mp (List.mem_of_getElem? hx)
    obtain ⟨g0, N, a1, a2, a3⟩ := W.at_ x k b1 b2
    have e0 : hs.getD k 0 = g0 := by
      rw [Array.getD_eq_getD_getElem?, ← Array.getElem?_toList, a1]
      rfl
    obtain rfl : g0 = g := e0.symm.trans h1
    refine ⟨N, a2, fun k' l => ?_⟩
    cases z : oAt ow (way M g0 k') with
    | none => exact absurd z (a3 k' l)
    | some v => exact List.mem_map.mpr ⟨(way M g0 k', v), (mem_live W.sz).mpr ⟨wy_le k', z⟩, rfl⟩
end Lb.Ts
set_option Elab.async false
set_option linter.all false
set_option maxRecDepth 100000
set_option maxHeartbeats 4000000
/-! sets of tuples of ints, up to 300 of them -/
namespace Lb.Ts
open PySem PySem.Spec PyProof.Rows L2
structure SetG (P : Program) (w : World) (h : Heap) (a : Addr) (L : List (Addr × List Int)) (es : Array (Int × Value)) (ep : Nat) (t : SetTable) : Prop where
  ob : ∃ o, h.get? a = some o ∧ o.ExactSet ∧ o.data = .set es ep t
  ent : es.toList = rowsOf P w L
  tab : Tab t (L.map fun p => thash P w p.2)
  nd : (L.map (·.2)).Nodup
  tup : ∀ p ∈ L, IsT P w h p.2 p.1
  pln : t.plain = true
  led : w.params.followText "set-order" = true ∨ t.led = true
  room : L.length * 5 < t.mask * 3
  few : L.length < 300
/-- the step c of the way -/
abbrev pr (m : Nat) (g : Int) (c : Nat) : SetTable.Probe := nth m (runAt m (SetTable.bits g % (m + 1)) (SetTable.bits g)) c
theorem pr_on (m : Nat) (g : Int) (c q : Nat) : nth m (pr m g c) q = pr m g (c + q) := (nth_add m c _ q).symm
theorem pr_clean (m : Nat) (g : Int) (c : Nat) : (pr m g c).dummy = none := by
  have all : ∀ (n : Nat) (p : SetTable.Probe), p.dummy = none → (nth m p n).dummy = none := by
    intro n
    induction n with
    | zero => exact fun p e => e
    | succ n ih =>
      refine fun p e => ih (adv m p) ?_
      unfold adv
      split
      · exact e
      · exact e
  exact all c _ rfl
section
variable {P : Program} {w : World} {A : Around} {E : Value → Shared → Prop} {s : Shared} {a : Addr} {L : List (Addr × List Int)} {es : Array (Int × Value)} {ep : Nat} {t : SetTable}
theorem SetG.size (S : SetG P w s.heap a L es ep t) : es.size = L.length := by
  have e : es.toList.length = (rowsOf P w L).length := congrArg List.length S.ent
  have e2 : (rowsOf P w L).length = L.length := List.length_map ..
  have e3 : es.toList.length = es.size := Array.length_toList
  omega
theorem SetG.place (S : SetG P w s.heap a L es ep t) : t.place.toList.length = L.length := S.tab.plen.trans (List.length_map ..)
theorem SetG.fit (S : SetG P w s.heap a L es ep t) : t.fits es.size = true := by
  have e1 := S.size
  have e2 := S.tab.len
  rw [List.length_map] at e2
  have e3 := S.room
  unfold SetTable.fits SetTable.fill
  rw [S.tab.nod, e1, e2]
  have e4 : ((#[] : Array Nat)).size = 0 := rfl
  rw [e4]
  simp
  omega
theorem SetG.at (S : SetG P w s.heap a L es ep t) {i : Nat} {p : Addr × List Int} (e : L[i]? = some p) : es[i]? = some (thash P w p.2, Value.ref p.1) := by
  have e1 : es.toList[i]? = (rowsOf P w L)[i]? := by rw [S.ent]
  rw [Array.getElem?_toList] at e1
  rw [e1]
  unfold rowsOf
  rw [List.getElem?_map, e]
  rfl
theorem SetG.here (S : SetG P w s.heap a L es ep t) : ¬ t.gaveWay = true := by
  unfold SetTable.gaveWay
  rw [S.tab.msk.odd]
  decide
/-- what the search asks at a candidate -/
theorem SetG.hash (S : SetG P w s.heap a L es ep t) {i : Nat} {p : Addr × List Int} (e : L[i]? = some p) : (es[i]?.map (·.1)).getD 0 = thash P w p.2 := by
  rw [S.at e]
  rfl
theorem seek (S : SetG P w s.heap a L es ep t) {x : Addr} {k : List Int} (hx : IsT P w s.heap k x) (hu : A.units < cLine) {K : Nat} (l1 : K < 10 * SetTable.turns t.mask)
    (l2 : way t.mask (thash P w k) K ∉ t.place.toList) (l3 : ∀ c, c < K → way t.mask (thash P w k) c ∈ t.place.toList) {Q : SetFound → Shared → Prop}
    (yes : k ∈ L.map (·.2) → Q (.there none) s) (no : k ∉ L.map (·.2) → Q (.free (way t.mask (thash P w k) K) false) s) :
    ∀ (f c : Nat) (st : Option SetTable.Probe), st.getD (t.probeStart (thash P w k)) = pr t.mask (thash P w k) c → c ≤ K → K - c < f →
      (∀ (i : Nat) p, L[i]? = some p → p.2 = k → ∃ c', c ≤ c' ∧ c' < K ∧ t.place.toList[i]? = some (way t.mask (thash P w k) c')) →
      wpAny (model P w) A (setSearchFrom a (.ref x) (thash P w k) true f st) Q E s := by
  obtain ⟨o, eo, ex, ed⟩ := S.ob
  intro f
  induction f with
  | zero => exact fun c st _ _ hf _ => absurd hf (Nat.not_lt_zero _)
  | succ f ih =>
    intro c st hst hc hf left
    have jw : ∀ q, (nth t.mask (pr t.mask (thash P w k) c) q).j = way t.mask (thash P w k) (c + q) := fun q => congrArg SetTable.Probe.j (pr_on _ _ c q)
    rw [setSearchFrom_succ]
    refine wpAny_bind (wpAny_setState_of eo ed S.fit ?_)
    dsimp only
    refine wp_if_neg S.here ?_
    first
      | refine wpAny_bind (wpAny_pure ?_)
      | skip
    have two := go_spec t S.tab.asc S.tab.nod (fun i => (es[i]?.map (·.1)).getD 0) (thash P w k) (10 * SetTable.turns t.mask) (K - c) (pr t.mask (thash P w k) c) (pr_clean _ _ c) (by omega)
      (fun q hq => by rw [jw]; exact l3 _ (by omega)) (by rw [jw, show c + (K - c) = K by omega]; exact l2)
    have goes : t.probe (fun i => (es[i]?.map (·.1)).getD 0) (thash P w k) (st.getD (t.probeStart (thash P w k))) = SetTable.probe.go t (fun i => (es[i]?.map (·.1)).getD 0) (thash P w k) (10 * SetTable.turns t.mask) (pr t.mask (thash P w k) c) := by
      rw [hst]
      rfl
    rw [goes]
    rcases two with ⟨q, i, hq, hi, hh, hno, hp⟩ | ⟨hno, hp⟩
    · rw [hp]
      dsimp only
      rw [jw] at hi ⊢
      rw [pr_on]
      have il : i < L.length := by
        rw [← S.place]
        exact (List.getElem?_eq_some_iff.mp hi).1
      obtain ⟨p, ep'⟩ : ∃ p, L[i]? = some p := ⟨_, List.getElem?_eq_getElem il⟩
      have pm := List.mem_of_getElem? ep'
      have main : wpAny (model P w) A (searchRest a (.ref x) (thash P w k) true f es t (way t.mask (thash P w k) (c + q)) i (pr t.mask (thash P w k) (c + (q + 1)))) Q E s := by
        unfold searchRest
        rw [S.at ep']
        dsimp only
        refine wpAny_bind (wpAny_holding (wpAny_eqBool_tuple hu (S.tup p pm) hx ?_))
        refine wpAny_bind (wpAny_setState_of eo ed S.fit ?_)
        dsimp only
        by_cases same : p.2 = k
        · refine wp_if_pos (by simp [same]) (wpAny_pure (yes ?_))
          rw [← same]
          exact List.mem_map_of_mem pm
        · refine wp_if_neg (by simp [same]) ?_
          first
            | refine wpAny_bind (wpAny_pure ?_)
            | skip
          rw [sameMem]
          dsimp only
          have live := slot_live S.tab.asc hi
          simp only [if_true, live, S.at ep']
          refine wpAny_bind (wpAny_isSame_ref_self (wpAny_bind (wpAny_pure ?_)))
          simp only [if_true]
          refine wp_if_neg (by simp [same]) (ih (c + (q + 1)) _ rfl (by omega) (by omega) fun i0 p0 e0 k0 => ?_)
          obtain ⟨c', b1, b2, b3⟩ := left i0 p0 e0 k0
          refine ⟨c', ?_, b2, b3⟩
          refine Nat.lt_of_not_le fun q1 => ?_
          have q1 : c' ≤ c + q := q1
          rcases Nat.lt_or_ge c' (c + q) with q2 | q2
          · refine hno (c' - c) i0 (by omega) (by rw [jw, show c + (c' - c) = c' by omega]; exact b3) ?_
            rw [S.hash e0, k0]
          · obtain rfl : c' = c + q := by omega
            have l0 := slot_live S.tab.asc b3
            rw [live] at l0
            injection l0 with l0
            rw [← l0, ep'] at e0
            exact same ((congrArg Prod.snd (Option.some.inj e0)).trans k0)
      by_cases hl : t.led = true
      · refine wp_if_neg (by simp [hl]) ?_
        first
          | refine wpAny_bind (wpAny_pure main)
          | exact main
      · refine wp_if_pos (by simp [hl]) ?_
        refine wpAny_bind (seen_tup hx (fun y hy => ?_) ?_)
        · obtain ⟨e, he, rfl⟩ := List.mem_map.mp hy
          have he1 : e ∈ es.toList := by
            have := he
            simp at this
            simpa using this.1
          rw [S.ent] at he1
          obtain ⟨p2, m2, rfl⟩ := List.mem_map.mp he1
          exact ⟨p2.2, p2.1, rfl, S.tup p2 m2⟩
        · refine wp_if_neg (by decide) ?_
          first
            | refine wpAny_bind (wpAny_pure main)
            | exact main
    · rw [hp]
      dsimp only
      rw [jw, show c + (K - c) = K by omega]
      refine wpAny_pure (no fun hm => ?_)
      obtain ⟨p0, m0, k0⟩ := List.mem_map.mp hm
      obtain ⟨i0, e0⟩ := List.getElem?_of_mem m0
      obtain ⟨c', b1, b2, b3⟩ := left i0 p0 e0 k0
      refine hno (c' - c) i0 (by omega) (by rw [jw, show c + (c' - c) = c' by omega]; exact b3) ?_
      rw [S.hash e0, k0]
theorem seek_all (S : SetG P w s.heap a L es ep t) {x : Addr} {k : List Int} (hx : IsT P w s.heap k x) (hu : A.units < cLine) {Q : SetFound → Shared → Prop} (yes : k ∈ L.map (·.2) → Q (.there none) s)
    (no : ∀ K, k ∉ L.map (·.2) → way t.mask (thash P w k) K ∉ t.place.toList → (∀ c, c < K → way t.mask (thash P w k) c ∈ t.place.toList) → Q (.free (way t.mask (thash P w k) K) false) s) :
    wpAny (model P w) A (setSearch a (.ref x) (thash P w k) true) Q E s := by
  have r := S.room
  have m := S.tab.msk.le
  obtain ⟨K, l1, l2, l3⟩ := S.tab.free (by rw [List.length_map]; omega) (thash P w k)
  have tt : SetTable.turns t.mask = t.mask + 15 := rfl
  unfold setSearch
  refine seek S hx hu l1 l2 l3 yes (fun n => no K n l2 l3) 100000 0 none rfl (Nat.zero_le K) (by omega) fun i p e k0 => ?_
  have il : i < t.place.toList.length := by
    rw [S.place]
    exact (List.getElem?_eq_some_iff.mp e).1
  have ej := List.getElem?_eq_getElem il
  obtain ⟨c, hc, ew⟩ := S.tab.ahead (h := thash P w k) l2 (by rw [List.getElem?_map, e, ← k0]; rfl) ej
  exact ⟨c, Nat.zero_le c, hc, ej.trans (congrArg some ew.symm)⟩
/-- the table laid anew -/
theorem relay {o : Obj} (eo : s.heap.get? a = some o) (ex : o.ExactSet) (ed : o.data = .set es ep t) (ent : es.toList = rowsOf P w L) (pl : t.place.size = es.size) (dm : t.dummies = #[]) (le : es.size ≤ t.mask)
    (nd : (L.map (·.2)).Nodup) (tup : ∀ p ∈ L, IsT P w s.heap p.2 p.1) (pn : t.plain = true) (ld : w.params.followText "set-order" = true ∨ t.led = true) (few : L.length < 300) {want M : Nat}
    (hw : SetTable.sizeAbove want - 1 = M) (hM : Msk M) (hw2 : SetTable.sizeAbove want ≤ 512) (room : L.length * 5 < M * 3) {Q : Unit → Shared → Prop}
    (q : ∀ h' L' es' ep' t', Heap.SameBut a s.heap h' → SetG P w h' a L' es' ep' t' → L'.Perm L → Q () { s with heap := h' }) : wpAny (model P w) A (setRelay a want) Q E s := by
  have sz : es.size = L.length := by
    have e : es.toList.length = (rowsOf P w L).length := congrArg List.length ent
    have e2 : (rowsOf P w L).length = L.length := List.length_map ..
    have e3 : es.toList.length = es.size := Array.length_toList
    omega
  have fit : t.fits es.size = true := by
    unfold SetTable.fits SetTable.fill
    rw [dm, pl]
    have e4 : ((#[] : Array Nat)).size = 0 := rfl
    rw [e4]
    simp
    omega
  have hML := hM.le
  obtain ⟨t2, ord, e, pm, T, em, el, en⟩ := lay_tab t (hs := es.map (·.1)) (want := want) hw hM (by rw [Array.size_map]; omega)
  rw [Array.size_map, sz] at pm
  obtain ⟨L2, r1, r2, r3⟩ := order_rows L es ord ent pm
  rw [← r3] at T
  have sz2 : (ord.filterMap (es[·]?)).size = es.size := by
    have e : (ord.filterMap (es[·]?)).toList.length = (rowsOf P w L2).length := congrArg List.length r1
    have e2 : (rowsOf P w L2).length = L2.length := List.length_map ..
    have e3 : (ord.filterMap (es[·]?)).toList.length = (ord.filterMap (es[·]?)).size := Array.length_toList
    have e4 := r2.length_eq
    omega
  rw [setRelay_eq]
  refine wpAny_bind (wpAny_setState_of eo ed fit ?_)
  dsimp only
  refine wp_if_neg (by rw [sizeLine_eq]; omega) ?_
  first
    | refine wpAny_bind (wpAny_pure ?_)
    | skip
  rw [e]
  dsimp only
  refine wpAny_bind (wp_if_neg (by rw [sz2]; simp) ?_)
  first
    | refine wpAny_bind (wpAny_pure ?_)
    | skip
  refine wpAny_pure ?_
  dsimp only
  refine wpAny_storeSet_of eo ed ?_ (by rw [sz2, sz, sizeLine_eq]; omega)
  have sb : Heap.SameBut a s.heap (s.heap.update a (Obj.putSet (ord.filterMap (es[·]?)) t2)) := Heap.SameBut.update ..
  refine q _ L2 _ (ep + 1) t2 sb ⟨⟨_, store_at eo ed, ⟨ex.1, ex.2.1, ex.2.2⟩, rfl⟩, r1, T, (r2.map (·.2)).nodup_iff.mpr nd, fun p hp => isT_same (tup p (r2.mem_iff.mp hp)) eo ed sb, by rw [en]; exact pn, by rw [el]; exact ld, by rw [r2.length_eq, em]; exact room, by rw [r2.length_eq]; exact few⟩ r2
theorem size_308 : SetTable.sizeAbove (SetTable.grown 77) = 512 := by decide +kernel
/-- one is added -/
theorem add_one (S : SetG P w s.heap a L es ep t) {x : Addr} {k : List Int} (hx : IsT P w s.heap k x) (hu : A.units < cLine) (few : L.length + 1 < 300) {Q : Bool → Shared → Prop}
    (q : ∀ b h' L' es' ep' t', Heap.SameBut a s.heap h' → SetG P w h' a L' es' ep' t' → (k ∈ L.map (·.2) → L' = L) → (k ∉ L.map (·.2) → L'.Perm ((x, k) :: L)) → Q b { s with heap := h' }) :
    wpAny (model P w) A (setAddHashed a (.ref x) (thash P w k)) Q E s := by
  obtain ⟨o, eo, ex, ed⟩ := S.ob
  have sz := S.size
  have room := S.room
  unfold setAddHashed
  refine wpAny_holding ?_
  rw [show (100000 : Nat) = 99999 + 1 from rfl, setAddHashedIn_succ]
  refine wpAny_bind (wpAny_setState_of eo ed S.fit ?_)
  dsimp only
  refine wp_if_neg (by simp [byScan, Value.scannable]) ?_
  first
    | refine wpAny_bind (wpAny_pure ?_)
    | skip
  refine wpAny_bind (seek_all S hx hu (fun hm => ?_) fun K hm l2 l3 => ?_)
  · dsimp only
    exact wpAny_pure (q false s.heap L es ep t (Heap.SameBut.refl a s.heap) S (fun _ => rfl) fun z => absurd hm z)
  dsimp only
  refine wpAny_bind (wpAny_setState_of eo ed S.fit ?_)
  dsimp only
  have pi := S.tab.add l2 l3
  have e2 : (t.put (way t.mask (thash P w k) K)).2 = SetTable.below t.place (way t.mask (thash P w k) K) := rfl
  have pn : (t.put (way t.mask (thash P w k) K)).1.plain = true := pi.pln.trans S.pln
  generalize t.put (way t.mask (thash P w k) K) = pt at pi e2 pn ⊢
  obtain ⟨t1, p⟩ := pt
  dsimp only at pi e2 pn ⊢
  subst e2
  first
    | (refine wpAny_bind ?_; refine wp_if_pos pn ?_; refine hashBy_tup hx ?_)
    | refine wp_if_pos pn (wpAny_bind (hashBy_tup hx ?_))
  simp only [if_true]
  have ent : (SetTable.insertAt es (SetTable.below t.place (way t.mask (thash P w k) K)) (thash P w k, Value.ref x)).toList = rowsOf P w (L.take (SetTable.below t.place (way t.mask (thash P w k) K)) ++ (x, k) :: L.drop (SetTable.below t.place (way t.mask (thash P w k) K))) := by
    rw [SetTable.toList_insertAt, rows_put, S.ent]
  generalize SetTable.below t.place (way t.mask (thash P w k) K) = p at pi ent ⊢
  have pm := put_perm L p (x, k)
  have hh : (L.take p ++ (x, k) :: L.drop p).map (fun p => thash P w p.2) = (L.map fun p => thash P w p.2).take p ++ thash P w k :: (L.map fun p => thash P w p.2).drop p := by
    rw [List.map_append, List.map_cons, List.map_take, List.map_drop]
  have tab1 := pi.tab
  rw [← hh] at tab1
  have nd1 : ((L.take p ++ (x, k) :: L.drop p).map (·.2)).Nodup := (pm.map (·.2)).nodup_iff.mpr (List.nodup_cons.mpr ⟨hm, S.nd⟩)
  have len1 : (L.take p ++ (x, k) :: L.drop p).length = L.length + 1 := pm.length_eq
  generalize L.take p ++ (x, k) :: L.drop p = L1 at pm tab1 nd1 len1 ent
  generalize SetTable.insertAt es p (thash P w k, Value.ref x) = es1 at ent ⊢
  have sz1 : es1.size = L.length + 1 := by
    have e : es1.toList.length = (rowsOf P w L1).length := congrArg List.length ent
    have e2 : (rowsOf P w L1).length = L1.length := List.length_map ..
    have e3 : es1.toList.length = es1.size := Array.length_toList
    omega
  refine wpAny_bind (wpAny_storeSet_of eo ed ?_ (by rw [sz1, sizeLine_eq]; omega))
  have sb : Heap.SameBut a s.heap (s.heap.update a (Obj.putSet es1 t1)) := Heap.SameBut.update ..
  have eo1 := store_at (es' := es1) (t' := t1) eo ed
  generalize s.heap.update a (Obj.putSet es1 t1) = h1 at sb eo1 ⊢
  have tup1 : ∀ p ∈ L1, IsT P w h1 p.2 p.1 := fun p hp => by
    rcases List.mem_cons.mp (pm.mem_iff.mp hp) with e | hp
    · rw [e]
      exact isT_same hx eo ed sb
    · exact isT_same (S.tup p hp) eo ed sb
  have ld1 : w.params.followText "set-order" = true ∨ t1.led = true := by
    rw [pi.led]
    exact S.led
  have fil := pi.fil
  rw [List.length_map] at fil
  have full : t1.tooFull = true ↔ (L.length + 1) * 5 ≥ t.mask * 3 := by
    unfold SetTable.tooFull
    rw [fil, pi.msk]
    exact decide_eq_true_iff
  by_cases hf : t1.tooFull = true
  · first
      | (refine wpAny_bind ?_; refine wp_if_pos (by simp [hf]) ?_)
      | (refine wp_if_pos (by simp [hf]) ?_; refine wpAny_bind ?_)
    have hf2 := full.mp hf
    rw [sz]
    have pl1 : t1.place.size = es1.size := by
      have := tab1.len
      rw [List.length_map] at this
      omega
    have three : ∃ M, Msk M ∧ SetTable.sizeAbove (SetTable.grown (L.length + 1)) - 1 = M ∧ SetTable.sizeAbove (SetTable.grown (L.length + 1)) ≤ 512 ∧ (L.length + 1) * 5 < M * 3 := by
      rcases S.tab.msk with e | e | e | e
      · have el : L.length = 4 := by omega
        refine ⟨31, .inr (.inl rfl), ?_, ?_, by omega⟩
        · rw [el, size_20]
        · rw [el, size_20]
          decide
      · have el : L.length = 18 := by omega
        refine ⟨127, .inr (.inr (.inl rfl)), ?_, ?_, by omega⟩
        · rw [el, size_76]
        · rw [el, size_76]
          decide
      · have el : L.length = 76 := by omega
        refine ⟨511, .inr (.inr (.inr rfl)), ?_, ?_, by omega⟩
        · rw [el, size_308]
        · rw [el, size_308]
          decide
      · omega
    obtain ⟨M, m1, m2, m3, m4⟩ := three
    refine relay (s := { s with heap := h1 }) eo1 ⟨ex.1, ex.2.1, ex.2.2⟩ rfl ent pl1 tab1.nod (by rw [sz1, pi.msk]; omega) nd1 tup1 pn ld1 (by omega) m2 m1 m3 (by rw [len1]; exact m4) fun h2 L2 es2 ep2 t2 sb2 S2 pm2 => ?_
    exact wpAny_pure (q true h2 L2 es2 ep2 t2 (sb.trans sb2) S2 (fun z => absurd z hm) fun _ => pm2.trans pm)
  · first
      | refine wp_if_neg (by simp [hf]) ?_
      | (refine wpAny_bind ?_; refine wp_if_neg (by simp [hf]) ?_; refine wpAny_pure ?_)
    refine wpAny_pure (q true h1 L1 es1 (ep + 1) t1 sb ⟨⟨_, eo1, ⟨ex.1, ex.2.1, ex.2.2⟩, rfl⟩, ent, tab1, nd1, tup1, pn, ld1, ?_, by omega⟩ (fun z => absurd z hm) fun _ => pm)
    rw [pi.msk, len1]
    exact Nat.lt_of_not_le fun z => hf (full.mpr z)
end
end Lb.Ts
set_option Elab.async false
set_option linter.all false
set_option maxRecDepth 100000
set_option maxHeartbeats 4000000
/-! sets of tuples of ints as tracked things; the comprehension that makes one; sorted of one -/
namespace Lb
open PySem PySem.Spec PyProof.Rows L2 RZ TL PpSet
open Lb.Ts
/-- the set at a, without the tuples themselves -/
structure SetG0 (P : Program) (w : World) (h : Heap) (a : Addr) (L : List (Addr × List Int)) : Prop where
  ex : ∃ (es : Array (Int × Value)) (ep : Nat) (t : SetTable), (∃ o, h.get? a = some o ∧ o.ExactSet ∧ o.data = .set es ep t) ∧ es.toList = rowsOf P w L ∧ Tab t (L.map fun p => thash P w p.2) ∧ (L.map (·.2)).Nodup ∧ t.plain = true ∧
    (w.params.followText "set-order" = true ∨ t.led = true) ∧ L.length * 5 < t.mask * 3 ∧ L.length < 300
def SetGO (P : Program) (w : World) (a : Addr) (L : List (Addr × List Int)) : HO := .ext fun h => SetG0 P w h a L
theorem setG_g0 {P : Program} {w : World} {h : Heap} {a : Addr} {L : List (Addr × List Int)} {es : Array (Int × Value)} {ep : Nat} {t : SetTable} (S : SetG P w h a L es ep t) : SetG0 P w h a L :=
  ⟨es, ep, t, S.ob, S.ent, S.tab, S.nd, S.pln, S.led, S.room, S.few⟩
theorem SetG0.full {P : Program} {w : World} {h : Heap} {a : Addr} {L : List (Addr × List Int)} (S : SetG0 P w h a L) (ht : ∀ p ∈ L, IsT P w h p.2 p.1) : ∃ es ep t, SetG P w h a L es ep t := by
  obtain ⟨es, ep, t, h1, h2, h3, h4, h5, h6, h7, h8⟩ := S.ex
  exact ⟨es, ep, t, h1, h2, h3, h4, ht, h5, h6, h7, h8⟩
theorem setGO_new {P : Program} {w : World} {H : Hp} {h : Heap} {a : Addr} {L : List (Addr × List Int)} (S : SetG0 P w h a L) : ObjOk P w H h a (SetGO P w a L) := by
  have ⟨es, ep, t, ⟨o, ho, r⟩, q⟩ := S.ex
  refine ⟨S, ⟨o, ho⟩, fun h1 h2 p k => ?_⟩
  have ⟨es', ep', t', ⟨o', ho', r'⟩, q'⟩ := SetG0.ex p
  exact ⟨es', ep', t', ⟨o', k o' ho', r'⟩, q'⟩
theorem setG_fresh {P : Program} {w : World} {h : Heap} : SetG0 P w (h.push { cls := .type "set", dict := none, data := .set #[] 0 (.fresh 0 0 (!w.params.followText "set-order")) }) h.objs.size [] :=
  ⟨#[], 0, .fresh 0 0 (!w.params.followText "set-order"), ⟨_, Heap.get?_push_size _ rfl, ⟨rfl, rfl, rfl⟩, rfl⟩, rfl, ⟨List.Pairwise.nil, rfl, rfl, .inl rfl, (fun x hx => by cases hx), fun i h j hi => (by simp at hi)⟩, List.nodup_nil, rfl, by
    show _ ∨ (!w.params.followText "set-order") = true
    cases w.params.followText "set-order"
    · exact .inr rfl
    · exact .inl rfl, by
    show 0 * 5 < 7 * 3
    decide, by
    show 0 < 300
    decide⟩
section
variable {X : Cx} {pins : List (Addr × Obj)} {σ : L2.St} {H : Hp} {s : Shared} {E : Value → Shared → Prop} {Q : Value → Shared → Prop}
/-- set.add of a tuple of ints -/
theorem addG_ok {D b : Addr} {k : List Int} {L : List (Addr × List Int)} (hu : X.A.units + 8 < cLine) (I : Inv X pins σ H s) (hD : H D = some (SetGO X.prog X.w D L)) (hL : ∀ p ∈ L, SqT X.K H p.1 (p.2.map V.int)) (hb : SqT X.K H b (k.map V.int)) (few : L.length + 1 < 300)
    (h : ∀ s' L', Inv X pins σ (upd H D (SetGO X.prog X.w D L')) s' → (k ∈ L.map (·.2) → L' = L) → (k ∉ L.map (·.2) → L'.Perm ((b, k) :: L)) → Q .none s') :
    wpAny (model X.prog X.w) X.A (call (.builtin "set.add") [.ref D, .ref b]) Q E s := by
  have S0 : SetG0 X.prog X.w s.heap D L := (I.hok D _ hD).1
  obtain ⟨es, ep, t, S⟩ := S0.full fun p hp => I.isT (hL p hp)
  have hx := I.isT hb
  have ⟨o, ho, hex, _⟩ := S.ob
  refine wpAny_call_entry F.slot_set_add (⟨o, ho, hex.1⟩ : s.TypeIs (.ref D) "set") F.entry_set_add ?_ (F.args_set_add_2 _ _)
  unfold Builtin.«set.add» Builtin.Frozenset.oneOther
  simp only [List.isEmpty_nil, bind_assoc]
  unfold Builtin.Frozenset.addrOf setAdd
  refine wpAny_bind (wpAny_pure ?_)
  try dsimp only
  refine wpAny_bind (wpAny_pure ?_)
  try dsimp only
  refine wpAny_bind ?_
  refine wpAny_holding ?_
  have hu1 : X.A.in1.units < cLine := by
    show X.A.units + 1 < cLine
    omega
  refine wpAny_bind (wpAny_pyHash_tuple hu1 hx ?_)
  refine add_one (s := { s with toks := s.toks + (k.length + 1) }) S hx hu1 few fun c h' L' es' ep' t' sb S2 q1 q2 => ?_
  show wpAny _ _ (ret Value.none) _ _ _
  refine wpAny_pure ⟨_, rfl, h _ L' ?_ q1 q2⟩
  have ⟨o', ho', _⟩ := S2.ob
  exact I.write (e := D) (t' := s.toks + (k.length + 1)) (by rw [hD]; trivial) (.inl rfl) (fun b u hb hu => (sb.2 b hb).trans hu) ⟨o', ho'⟩ (setGO_new (setG_g0 S2))
end
/-! ### the comprehension -/
/-- a turn's end: the tuple is added -/
def AddG (w : World) (P : Program) (K : PySem.W.Frag) (D : Addr) (Nx : Hp → Prop) : VK := fun y H => ∃ (b : Addr) (k : List Int) (L : List (Addr × List Int)), y = .ref b ∧ SqT K H b (k.map V.int) ∧ H D = some (SetGO P w D L) ∧ (∀ p ∈ L, SqT K H p.1 (p.2.map V.int)) ∧ L.length + 1 < 300 ∧
  ∀ L', (k ∈ L.map (·.2) → L' = L) → (k ∉ L.map (·.2) → L'.Perm ((b, k) :: L)) → Nx (upd H D (SetGO P w D L'))
def tScG (P : Program) (w : World) (K : PySem.W.Frag) (wi : TI) (g : TG) (tt : TT) (te : TE) (vs : List Nat) : TE := fun σ H Q => wi σ H fun J H1 => ∀ D, H1 D = none → ∃ W : Nat → Nat → Hp → Prop, (∃ m, W 0 m (upd H1 D (SetGO P w D []))) ∧ ∀ i m H, W i m H →
  (J.stop i H ∧ Q (.ref D) H) ∨ (J.go i H ∧ ∃ Nx : Hp → Prop, (∀ H', Nx H' → ∃ m', m' < m ∧ W (i + 1) m' H') ∧ ∀ x H', J.yld i H x H' → g x (wipe σ vs) H' fun σ2 H2 => wipe σ2 vs = wipe σ vs ∧ tt σ2 H2 fun b H3 =>
    if b = true then te σ2 H3 (AddG w P K D Nx) else Nx H3)
section
variable {X : Cx}
/-- what a block over fp knows at a turn -/
structure MidG (X : Cx) (s3 : Shared) (H3 : Hp) (scope : Scope) (ce : Env) (fp : List Addr) (σ : L2.St) (tn : Nat → Heap → Prop) (i : Nat) (H : Hp) (s : Shared) : Prop where
  inv : Inv (X.blk s3 H3 scope ce fp) [] σ H s
  at_ : tn i s.heap
  non : ∀ b ∈ fp, H b = none
theorem MidG.foot {s3 s : Shared} {H3 H : Hp} {scope : Scope} {ce : Env} {fp : List Addr} {σ : L2.St} {tn : Nat → Heap → Prop} {i : Nat} (m : MidG X s3 H3 scope ce fp σ tn i H s) : ∀ b ∈ fp, FpOk (X.blk s3 H3 scope ce fp) [] H b := fun b hb =>
  ⟨m.non b hb, (m.inv.ok.exf b hb).1, m.inv.ok.exfs b hb, .inl hb, fun x c e => (m.inv.ok.exf b hb).2 x c e, fun p hp => absurd (show p ∈ ([] : List (Addr × Obj)) ++ [] from hp) (by simp)⟩
theorem pe_scG {elt tg iter : Expr} {ifs : List Expr} {scope : Scope} {own : List (PySem.Str × Nat)} {pos : Pos} {wi : TI} {g : TG} {tt : TT} {te : TE} (hc : X.calm = true) (hN : X.N.Nodup) (hu : X.A.units + 8 < cLine) (hi : PI X tg iter wi) (ok : BlkOk X.N X.env.scope scope own)
    (hg : ∀ (s : Shared) (H : Hp) (C : Addr) (cl : List (PySem.Str × Addr)) (fp : List Addr), PG (X.blk s H scope (compEnvC scope cl C X.env) fp) tg g) (ht : ∀ (s : Shared) (H : Hp) (C : Addr) (cl : List (PySem.Str × Addr)) (fp : List Addr), PTs (X.blk s H scope (compEnvC scope cl C X.env) fp) ifs tt)
    (he : ∀ (s : Shared) (H : Hp) (C : Addr) (cl : List (PySem.Str × Addr)) (fp : List Addr), PE (X.blk s H scope (compEnvC scope cl C X.env) fp) elt te) (hs : ∀ x, foldedSetIterable iter X.env x = pure x := by intro _; rfl) :
    PE X (.SetComp elt [⟨tg, iter, ifs, 0⟩] scope pos) (tScG X.prog X.w X.K wi g tt te (own.map (·.2))) := by
  refine ⟨fun pins s σ H Q I h => ?_⟩
  rw [eval_SetComp]
  have hfree : ∀ y ∈ scope.names, y.2 = .free → ∃ c, X.env.cells.lookup y.1 = some c := fun y hy e => by
    rcases ok.free y hy e with k | k
    · exact I.ok.has _ (.inl k)
    · exact I.ok.has _ (.inr k)
  refine wpAny_comprehension_free (use := none) rfl hs (closure_ok hfree) ok.kind (fun y hy e => by rw [ok.uniq y hy, e])
    (thn (hi.run pins s σ H _ I h) fun xv s1 hx => thn hx fun itv s2 h2 => ?_)
  obtain ⟨it, fp, tn, J, H2, e, I2, T, st2, f2, q⟩ := h2
  subst e
  refine newSet_ok (newEnv_comp ?_)
  have nD : H2 s2.heap.objs.size = none := I2.hok.fresh (Nat.le_refl _)
  obtain ⟨W, ⟨m0, w0⟩, turn⟩ := q _ nD
  have I3 : Inv X pins σ (upd H2 s2.heap.objs.size (SetGO X.prog X.w s2.heap.objs.size [])) { s2 with heap := s2.heap.push { cls := .type "set", dict := none, data := .set #[] 0 (.fresh 0 0 (!X.w.params.followText "set-order")) } } :=
    I2.laid (t' := s2.toks) (fun b o e => Heap.get?_push_of_some _ e) (Nat.le_refl _) (setGO_new setG_fresh)
  have low : ∀ b ∈ fp, b < s2.heap.objs.size := fun b hb => by
    obtain ⟨o, e, _⟩ := T.obj _ _ st2 b hb
    exact Heap.lt_size e
  generalize hD : s2.heap.objs.size = D at nD w0 turn I3 low ⊢
  generalize hs3 : ({ s2 with heap := s2.heap.push { cls := .type "set", dict := none, data := .set #[] 0 (.fresh 0 0 (!X.w.params.followText "set-order")) } } : Shared) = s3 at I3 ⊢
  have h3 : s3.heap = s2.heap.push { cls := .type "set", dict := none, data := .set #[] 0 (.fresh 0 0 (!X.w.params.followText "set-order")) } := by rw [← hs3]
  have f3 : ∀ b ∈ fp, FpOk X pins (upd H2 D (SetGO X.prog X.w D [])) b ∧ b < s3.heap.objs.size := fun b hb => by
    have hlt := low b hb
    refine ⟨⟨?_, (f2 b hb).2⟩, by rw [h3, Heap.size_push, hD]; exact Nat.lt_succ_of_lt hlt⟩
    rw [upd_ne (Nat.ne_of_lt hlt)]
    exact (f2 b hb).1
  have st3 : tn 0 s3.heap := T.keep _ _ _ st2 fun b _ o e => by rw [h3]; exact Heap.get?_push_of_some _ e
  generalize upd H2 D (SetGO X.prog X.w D []) = H3 at I3 f3 w0
  have I4 := block_start I3 ok hN f3
  have pg := hg s3 H3 s3.heap.objs.size (cellsFrom (s3.heap.objs.size + 1) scope.names (cloFrom X.env.cells scope.names [])) fp
  have pt := ht s3 H3 s3.heap.objs.size (cellsFrom (s3.heap.objs.size + 1) scope.names (cloFrom X.env.cells scope.names [])) fp
  have pe := he s3 H3 s3.heap.objs.size (cellsFrom (s3.heap.objs.size + 1) scope.names (cloFrom X.env.cells scope.names [])) fp
  show codeAny _ _ (.compStart (.SetComp elt [⟨tg, iter, ifs, 0⟩] scope pos) 0 (.ref it) (.ref D) (compEnvC scope (cellsFrom (s3.heap.objs.size + 1) scope.names (cloFrom X.env.cells scope.names [])) s3.heap.objs.size X.env)) (compPost (model X.prog X.w) X.A X.xe none (EP X pins σ Q) (.ref D) s3.heap.objs.size) { s3 with heap := pushCells (s3.heap.push { cls := .type "dict", data := .dict #[] }) scope.names }
  generalize hce : compEnvC scope (cellsFrom (s3.heap.objs.size + 1) scope.names (cloFrom X.env.cells scope.names [])) s3.heap.objs.size X.env = ce at I4 pg pt pe ⊢
  have cL : ce.locals = s3.heap.objs.size := by subst hce; rfl
  generalize hs4 : ({ s3 with heap := pushCells (s3.heap.push { cls := .type "dict", data := .dict #[] }) scope.names } : Shared) = s4 at I4 ⊢
  have st4 : tn 0 s4.heap := T.keep _ _ _ st3 fun b _ o e => by rw [← hs4]; exact pushCells_keeps _ _ _ _ (Heap.get?_push_of_some _ e)
  have M0 : MidG X s3 H3 scope ce fp (wipe σ (own.map (·.2))) tn 0 H3 s4 := ⟨I4, st4, fun b hb => (f3 b hb).1.1⟩
  -- behind the loop
  have done : ∀ {s' : Shared} {H' : Hp}, Inv (X.blk s3 H3 scope ce fp) [] (wipe σ (own.map (·.2))) H' s' → Q (.ref D) H' → compPost (model X.prog X.w) X.A X.xe none (EP X pins σ Q) (.ref D) s3.heap.objs.size (.ok .next) s' := fun {s' H'} I6 qq => by
    have I7 : Inv X pins σ H' s' := I3.call' (ch := fp) I6.os I6.base I6.hok I6.bare fun b hb => ⟨(f3 b hb).1.2.2.2.1, (f3 b hb).1.2.1, (f3 b hb).1.2.2.2.2.1, (f3 b hb).1.2.2.2.2.2⟩
    have nC : H' s3.heap.objs.size = none := by
      have z : H' ce.locals = none := I6.free
      rw [cL] at z
      exact z
    obtain ⟨m, hn, _⟩ := I6.loc
    have hn : s'.heap.Ns ce.locals m := hn
    rw [cL] at hn
    obtain ⟨f0, f1, _, f4, f5, f6⟩ := I3.fpOk (Nat.le_refl _) nC
    exact ⟨m, hn, fun h'' sb => ⟨.ref D, H', I7.turned (t' := s'.toks) (fun b o hb e => (sb.2 b hb).trans e) f0 f1 f4 f5 f6, rfl, qq⟩⟩
  have loop : codeAny (model X.prog X.w) X.A (.compLoop (.SetComp elt [⟨tg, iter, ifs, 0⟩] scope pos) 0 (.ref it) (.ref D) ce) (compPost (model X.prog X.w) X.A X.xe none (EP X pins σ Q) (.ref D) s3.heap.objs.size) s4 := by
    refine compLoopS_any (fun n s' => ∃ i H', MidG X s3 H3 scope ce fp (wipe σ (own.map (·.2))) tn i H' s' ∧ W i n H') ?_ m0 ⟨0, H3, M0, w0⟩
    rintro n s5 ⟨i, H5, M5, w5⟩
    rcases turn i n H5 w5 with ⟨stop, qq⟩ | ⟨go, Nx, hNx, step⟩
    · refine thnF (T.done (X.blk s3 H3 scope ce fp) rfl rfl rfl hc i [] s5 _ H5 (fun _ _ => False) M5.inv M5.foot M5.at_ stop) fun r s6 ⟨hr, I6⟩ => ?_
      subst hr
      exact done I6 qq
    · refine thnF (T.item (X.blk s3 H3 scope ce fp) rfl rfl rfl hc i [] s5 _ H5 (fun _ _ => False) M5.inv M5.foot M5.at_ go) fun r s6 ⟨u, hr, h6⟩ => ?_
      subst hr
      refine thnF h6 fun _ s7 ⟨x, H7, I7, r7, y7, st7, n7⟩ => ?_
      have M7 : MidG X s3 H3 scope ce fp (wipe σ (own.map (·.2))) tn (i + 1) H7 s7 := ⟨I7, st7, n7⟩
      refine thnF (pg.run _ s7 _ H7 x u _ (I7.pinned M7.foot (T.obj _ _ st7)) r7 (step x H7 y7)) fun _ s8 ⟨σ8, H8, I8, hw8, q8⟩ => ?_
      refine thnF (pt.run _ s8 σ8 H8 _ I8 q8) fun b s9 ⟨H9, I9, q9⟩ => ?_
      have fin : ∀ {s' : Shared} {H' : Hp}, Inv (X.blk s3 H3 scope ce fp) ([] ++ pinsAt fp s7.heap) σ8 H' s' → Nx H' → ∃ m, m < n ∧ ∃ i H', MidG X s3 H3 scope ce fp (wipe σ (own.map (·.2))) tn i H' s' ∧ W i m H' := fun {s' H'} I' nx => by
        obtain ⟨m', hm, w'⟩ := hNx H' nx
        have pin' : ∀ b ∈ fp, ∀ o, s7.heap.get? b = some o → s'.heap.get? b = some o ∧ H' b = none := fun b hb o e =>
          let z := I'.pin (b, o) (List.mem_append_right _ (List.mem_append_right _ (mem_pinsAt hb e)))
          ⟨z.1, z.2.1⟩
        have hl : (wipe σ (own.map (·.2))).length = σ8.length := by rw [← hw8, wipe_length]
        refine ⟨m', hm, i + 1, H', ⟨(I'.unpinned (pins := [])).weak hl (fun j v e => ?_), T.keep _ _ _ st7 fun b hb o e => (pin' b hb o e).1, fun b hb => ?_⟩, w'⟩
        · rw [← hw8] at e
          exact (wipe_some e).1
        · obtain ⟨o, e, _⟩ := T.obj _ _ st7 b hb
          exact (pin' b hb o e).2
      cases b with
      | false =>
        simp only [Bool.false_eq_true, if_false] at q9 ⊢
        exact fin I9 q9
      | true =>
        simp only [if_true] at q9 ⊢
        refine thnF (pe.run _ s9 σ8 H9 _ I9 q9) fun z s10 ⟨yv, H10, I10, r10, bb, k0, L0, ey, hk0, hD10, hL0, few, nx⟩ => ?_
        subst ey
        obtain rfl : z = Value.ref bb := r10
        exact addG_ok (X := X.blk s3 H3 scope ce fp) hu I10 hD10 hL0 hk0 few fun s11 L' I11 c1 c2 => fin I11 (nx L' c1 c2)
  exact codeAny_compStart_set loop (T.self X.A 0 _ _ _ st4 loop)
end
end Lb
set_option Elab.async false
set_option linter.all false
set_option maxRecDepth 100000
set_option maxHeartbeats 4000000
/-! a set comprehension over a walk; sorted(set) -/
namespace Lb
open PySem PySem.Spec PyProof.Rows L2 RZ TL PpSet
open Lb.Ts
section
variable {J : It} {n : Nat} {G : Hp → Prop} {Y : Nat → Hp → V → Hp → Prop} {P : Program} {w : World} {K : PySem.W.Frag}
theorem sc_it (wk : L2.Walk J n G Y) {g : TG} {tt : TT} {te : TE} {vs : List Nat} {σ : L2.St} {H1 : Hp} {D : Addr} {Qd : Hp → Prop} (Pv : Nat → Hp → Prop) (h0 : Pv 0 (upd H1 D (SetGO P w D []))) (hG : ∀ i H, i ≤ n → Pv i H → G H)
    (hs : ∀ i x H H', i < n → Pv i H → Y i H x H' → g x (wipe σ vs) H' fun σ2 H2 => wipe σ2 vs = wipe σ vs ∧ tt σ2 H2 fun b H3 => if b = true then te σ2 H3 (AddG w P K D (Pv (i + 1))) else Pv (i + 1) H3) (hd : ∀ H, Pv n H → Qd H) :
    ∃ W : Nat → Nat → Hp → Prop, (∃ m, W 0 m (upd H1 D (SetGO P w D []))) ∧ ∀ i m H, W i m H →
      (J.stop i H ∧ Qd H) ∨ (J.go i H ∧ ∃ Nx : Hp → Prop, (∀ H', Nx H' → ∃ m', m' < m ∧ W (i + 1) m' H') ∧ ∀ x H', J.yld i H x H' → g x (wipe σ vs) H' fun σ2 H2 => wipe σ2 vs = wipe σ vs ∧ tt σ2 H2 fun b H3 =>
        if b = true then te σ2 H3 (AddG w P K D Nx) else Nx H3) := by
  refine ⟨fun i m H => m = n - i ∧ i ≤ n ∧ Pv i H, ⟨n, by simp, Nat.zero_le _, h0⟩, ?_⟩
  rintro i m H ⟨rfl, hi, p⟩
  have q := hG i H hi p
  by_cases hlt : i < n
  · exact .inr ⟨wk.goes i H hlt q, Pv (i + 1), fun H' p' => ⟨n - (i + 1), by omega, rfl, hlt, p'⟩, fun x H' y => hs i x H H' hlt p (wk.yields i H x H' hlt q y)⟩
  · obtain rfl : i = n := by omega
    exact .inl ⟨wk.stops H q, hd H p⟩
end
/-! ### sorted(set) -/
/-- not after -/
def leG (p q : Addr × List Int) : Bool := !PySem.W.dataLt (bagD q.2) (bagD p.2)
def rSortG (K : PySem.W.Frag) (P : Program) (w : World) : List V → Hp → VK → Prop := fun vs H Q => ∃ (R : Rgn) (a : Addr) (L : List (Addr × List Int)), vs = [.ref a] ∧ H a = some (SetGO P w a L) ∧ (∀ p ∈ L, Dat R H (.ref p.1) (bagD p.2)) ∧ (∀ p ∈ L, p.2 ≠ []) ∧
  ∀ (L1 : List (Addr × List Int)) (p : Addr), L1.Perm L → H p = none → Q (.ref p) (upd H p (.lst ((L1.mergeSort leG).map fun q => V.ref q.1)))
theorem each_refs {h : Heap} : ∀ {L : List (Addr × List Int)}, (∀ q ∈ L, ∃ as, Reads h (.ref q.1) (bagD q.2) as) → PySem.W.EachIs (fun u (q : Addr × List Int) => u = Value.ref q.1 ∧ ∃ as, Reads h u (bagD q.2) as) (L.map fun q => Value.ref q.1) L
  | [], _ => .nil
  | q :: L, hq => .cons ⟨rfl, hq q List.mem_cons_self⟩ (each_refs fun r hr => hq r (List.mem_cons_of_mem _ hr))
theorem each_bags {h : Heap} : ∀ {us : List Value} {L : List (Addr × List Int)}, PySem.W.EachIs (fun u (q : Addr × List Int) => u = Value.ref q.1 ∧ ∃ as, Reads h u (bagD q.2) as) us L → PySem.W.EachIs (fun u d => ∃ as, Reads h u d as) us (L.map fun q => bagD q.2)
  | _, _, .nil => .nil
  | _, _, .cons a t => .cons a.2 (each_bags t)
theorem each_keys {h : Heap} {ds : List PyData} (hal : PySem.W.AllAlike ds) : ∀ {us : List Value} {L : List (Addr × List Int)}, PySem.W.EachIs (fun u (q : Addr × List Int) => u = Value.ref q.1 ∧ ∃ as, Reads h u (bagD q.2) as) us L → (∀ q ∈ L, bagD q.2 ∈ ds) →
    PySem.W.EachIs (fun u (q : Addr × List Int) => (PySem.W.dataKind h ds).keyOf u = some (PySem.W.keyToks (bagD q.2))) us L
  | _, _, .nil, _ => .nil
  | _, _, .cons a t, hd => by
    obtain ⟨_, as, rd⟩ := a
    exact .cons (PySem.W.dataKind_some hal (hd _ List.mem_cons_self) rd) (each_keys hal t fun q hq => hd q (List.mem_cons_of_mem _ hq))
theorem each_out {h : Heap} : ∀ {us : List Value} {L : List (Addr × List Int)}, PySem.W.EachIs (fun u (q : Addr × List Int) => u = Value.ref q.1 ∧ ∃ as, Reads h u (bagD q.2) as) us L → us = L.map fun q => Value.ref q.1
  | _, _, .nil => rfl
  | _, _, .cons a t => by
    rw [List.map_cons, ← each_out t, a.1]
theorem cr_sortG {X : Cx} (hc : X.calm = true) (hu : X.A.units + 64 < cLine) : CallR X (.builtin "sorted") (rSortG X.K X.prog X.w) := by
  intro pins s σ H vs us Q I r h
  obtain ⟨R, a, L, rfl, ha, hd, hne, q⟩ := h
  have S0 : SetG0 X.prog X.w s.heap a L := (I.hok a _ ha).1
  have hT : ∀ p ∈ L, SqT X.K H p.1 (p.2.map V.int) := fun p hp => by
    obtain ⟨_, e, _, ea⟩ := (hd p hp).bag
    cases e
    exact SqT.of ea
  obtain ⟨es, ep, t, S⟩ := S0.full fun p hp => I.isT (hT p hp)
  rw [Vals.ref1 r]
  obtain ⟨o, ho, hex, hdat⟩ := S.ob
  have sz := S.size
  have few := S.few
  refine Calls.call_function_entry kind_sorted plain_sorted entry_sorted (args_sorted1 _) ?_
  unfold Builtin.«sorted»
  refine wpAny_bind (m := checkCount "sorted" 1 1 _) (wpAny_pure ?_)
  refine wpAny_bind (collect_set (A := X.A.in1) (I.ok.hd hc) ⟨o, ho, hex.1, hdat⟩ S.fit (by rw [sz]; unfold scanBound; omega) S.tab.asc S.led fun s1 out k1 hz g1 o1 pm => ?_)
  have hes : es.toList.map (·.2) = L.map fun q => Value.ref q.1 := by
    rw [S.ent]
    unfold rowsOf
    rw [List.map_map]
    rfl
  rw [hes] at pm
  obtain ⟨L1, p1, rfl⟩ := perm_lift (fun q : Addr × List Int => Value.ref q.1) pm L rfl
  have len1 := p1.length_eq
  have hlen : (L1.map fun q => Value.ref q.1).length ≤ sizeLine := by rw [List.length_map, sizeLine_eq]; omega
  refine wpAny_bind (wpAny_newList ?_ hlen)
  have hoL : (s1.heap.push (seqObj "list" (L1.map fun q => Value.ref q.1).toArray 0)).get? s1.heap.objs.size = some (seqObj "list" (L1.map fun q => Value.ref q.1).toArray 0) := Heap.get?_push_size _ rfl
  have kp : ∀ b u, s.heap.get? b = some u → (s1.heap.push (seqObj "list" (L1.map fun q => Value.ref q.1).toArray 0)).get? b = some u := fun b u e => Heap.get?_push_of_some _ (k1 b u e)
  have kne : ∀ b u, s.heap.get? b = some u → b ≠ s1.heap.objs.size := fun b u e => Nat.ne_of_lt (Nat.lt_of_lt_of_le (Heap.lt_size e) hz)
  have rds : ∀ q ∈ L1, ∃ as, Reads (PySem.W.sortingHeap (s1.heap.push (seqObj "list" (L1.map fun q => Value.ref q.1).toArray 0)) s1.heap.objs.size (L1.map fun q => Value.ref q.1)) (.ref q.1) (bagD q.2) as := fun q hq => by
    obtain ⟨as, rd⟩ := dat_reads I (hd q (p1.mem_iff.mp hq)) (show RelV (.ref q.1) (.ref q.1) from rfl)
    exact ⟨as, PyProof.Rows.Reads.keeps (fun b u e => PySem.W.sortingHeap_old (kne b u e) (kp b u e)) rd⟩
  have e1 := each_refs rds
  have e2 := each_bags e1
  have hal : PySem.W.AllAlike (L1.map fun q => bagD q.2) := fun d hd d' hd' => by
    obtain ⟨x, _, rfl⟩ := List.mem_map.mp hd
    obtain ⟨y, _, rfl⟩ := List.mem_map.mp hd'
    exact alike_bag2 _ _
  have srt : PySem.W.Sortable (L1.map fun q => bagD q.2) := .inl fun d hd => by
    obtain ⟨x, hx, rfl⟩ := List.mem_map.mp hd
    have := hne x (p1.mem_iff.mp hx)
    cases hx2 : x.2 with
    | nil => exact absurd hx2 this
    | cons z zs => exact ⟨.int z, zs.map PyData.int, rfl⟩
  have S1 := PySem.W.SortsAt.data (prog := X.prog) (w := X.w) (A := X.A.in1.in1) (s := { s1 with heap := PySem.W.sortingHeap (s1.heap.push (seqObj "list" (L1.map fun q => Value.ref q.1).toArray 0)) s1.heap.objs.size (L1.map fun q => Value.ref q.1) }) e2 hal srt (fun d hdd => by
    obtain ⟨x, _, rfl⟩ := List.mem_map.mp hdd
    have := depth_bag x.2
    show X.A.units + 1 + 1 + (bagD x.2).depth < cLine
    omega)
  have e3 := each_keys hal e1 fun q hq => List.mem_map_of_mem hq
  have e4 := PySem.W.sortVals_each (κ := PySem.W.dataKind _ (L1.map fun q => bagD q.2)) (rev := false) (fun q : Addr × List Int => PySem.W.keyToks (bagD q.2)) e1 e3
  have hle : (fun a b : Addr × List Int => PySem.W.sortLe (listOrd itemOrd) false (fun q : Addr × List Int => PySem.W.keyToks (bagD q.2)) a b) = leG := rfl
  have hout := each_out e4
  obtain ⟨c, hc2⟩ := sortedHeap_at (vs := L1.map fun q => Value.ref q.1) (out := (PySem.W.sortVals (PySem.W.dataKind (PySem.W.sortingHeap (s1.heap.push (seqObj "list" (L1.map fun q => Value.ref q.1).toArray 0)) s1.heap.objs.size (L1.map fun q => Value.ref q.1)) (L1.map fun q => bagD q.2)) false (L1.map fun q => Value.ref q.1) (L1.map fun q => Value.ref q.1)).toArray) hoL
  refine wpAny_bind (wpAny_holding (wpAny_call_entry slot_list_sort ⟨_, hoL, rfl⟩ entry_list_sort (PySem.W.list_sort_vals (s := { s1 with heap := s1.heap.push (seqObj "list" (L1.map fun q => Value.ref q.1).toArray 0) }) hoL S1 hlen ⟨.none, rfl, ?_⟩) (args_list_sort _)))
  generalize hgo : PySem.W.sortVals _ false (L1.map fun q => Value.ref q.1) (L1.map fun q => Value.ref q.1) = go at hout hc2 ⊢
  have kF : ∀ b u, s.heap.get? b = some u → (sortedHeap (s1.heap.push (seqObj "list" (L1.map fun q => Value.ref q.1).toArray 0)) s1.heap.objs.size (L1.map fun q => Value.ref q.1) go.toArray).get? b = some u := fun b u e =>
    (sortedHeap_old (kne b u e) (Heap.lt_size (kp b u e))).trans (kp b u e)
  have hn : H s1.heap.objs.size = none := I.hok.fresh hz
  have hv : Vals ((L1.mergeSort leG).map fun q => V.ref q.1) go := by
    rw [hout]
    exact vals_of_refs _
  have hl2 : ((L1.mergeSort leG).map fun q => V.ref q.1).length ≤ sizeLine := by
    rw [List.length_map, List.length_mergeSort, sizeLine_eq]
    omega
  obtain ⟨sh, sg, sd, stk, sos⟩ := s1
  obtain rfl : sg = s.gens := g1
  obtain rfl : sos = s.os := o1
  have J : Inv X pins σ (upd H sh.objs.size (.lst ((L1.mergeSort leG).map fun q => V.ref q.1))) { s with heap := sortedHeap (sh.push (seqObj "list" (L1.map fun q => Value.ref q.1).toArray 0)) sh.objs.size (L1.map fun q => Value.ref q.1) go.toArray, gens := s.gens, drawn := sd, toks := stk } :=
    I.call (ch := []) (Un.laid kF hz hn) (I.hok.laid kF hz ⟨hl2, go, c, hv, hc2⟩) I.bare (fun _ z => nomatch z)
  exact wpAny_pure ⟨_, rfl, ⟨.ref sh.objs.size, _, J, rfl, q L1 _ p1 hn⟩⟩
end Lb
set_option linter.all false
/-! walks by single steps: distances, layers, the least walk; vectors with a small sum of sizes (no interpreter here) -/
namespace Lb.Wk
variable {S T : Type}
/-- y is so many steps from x -/
def Rch (nb : S → List S) : Nat → S → S → Prop
  | 0, x, y => y = x
  | n + 1, x, y => ∃ z, Rch nb n x z ∧ y ∈ nb z
/-- .. and no fewer -/
def Dst (nb : S → List S) (n : Nat) (x y : S) : Prop := Rch nb n x y ∧ ∀ i, i < n → ¬ Rch nb i x y
variable {nb : S → List S}
theorem dst_zero {x y : S} : Dst nb 0 x y ↔ y = x := ⟨fun h => h.1, fun h => ⟨h, fun i hi => absurd hi (Nat.not_lt_zero i)⟩⟩
theorem dst_uniq {i j : Nat} {x y : S} (h : Dst nb i x y) (k : Dst nb j x y) : i = j := by
  rcases Nat.lt_trichotomy i j with q | q | q
  · exact absurd h.1 (k.2 i q)
  · exact q
  · exact absurd k.1 (h.2 j q)
theorem rch_least : ∀ {n : Nat} {x y : S}, Rch nb n x y → ∃ i, i ≤ n ∧ Dst nb i x y := by
  intro n
  induction n using Nat.strongRecOn with
  | ind n ih =>
    intro x y h
    by_cases q : ∃ i, i < n ∧ Rch nb i x y
    · obtain ⟨i, hi, r⟩ := q
      obtain ⟨j, hj, d⟩ := ih i hi r
      exact ⟨j, Nat.le_trans hj (Nat.le_of_lt hi), d⟩
    · exact ⟨n, Nat.le_refl n, h, fun i hi r => q ⟨i, hi, r⟩⟩
/-- the next layer: what lies around this one and is not known -/
theorem dst_next {n : Nat} {x y : S} : Dst nb (n + 1) x y ↔ (∃ z, Dst nb n x z ∧ y ∈ nb z) ∧ ∀ i, i ≤ n → ¬ Dst nb i x y := by
  constructor
  · rintro ⟨⟨z, hz, hy⟩, no⟩
    refine ⟨⟨z, ⟨hz, fun i hi r => no (i + 1) (by omega) ⟨z, r, hy⟩⟩, hy⟩, fun i hi d => no i (by omega) d.1⟩
  · rintro ⟨⟨z, hz, hy⟩, no⟩
    refine ⟨⟨z, hz.1, hy⟩, fun i hi r => ?_⟩
    obtain ⟨j, hj, d⟩ := rch_least r
    exact no j (by omega) d
/-! ### walks forward -/
/-! ### vectors -/
/-- n whole numbers of which the sizes sum up to at most d -/
def vecs : Nat → Nat → List (List Int)
  | 0, _ => [[]]
  | n + 1, d => (List.range (2 * d + 1)).flatMap fun (j : Nat) => (vecs n (d - ((j : Int) - (d : Int)).natAbs)).map fun c => ((j : Int) - (d : Int)) :: c
def sum1 : List Int → Nat
  | [] => 0
  | z :: c => z.natAbs + sum1 c
theorem mem_vecs : ∀ {n d : Nat} {c : List Int}, c.length = n → sum1 c ≤ d → c ∈ vecs n d
  | 0, d, c, hl, _ => by
    rw [List.length_eq_zero_iff.mp hl]
    exact List.mem_singleton.mpr rfl
  | n + 1, d, [], hl, _ => by cases hl
  | n + 1, d, z :: c, hl, h => by
    have h : z.natAbs + sum1 c ≤ d := h
    unfold vecs
    rw [List.mem_flatMap]
    refine ⟨(z + d).toNat, List.mem_range.mpr (by omega), List.mem_map.mpr ⟨c, ?_, ?_⟩⟩
    · have e : (((z + d).toNat : Int) - (d : Int)) = z := by omega
      rw [e]
      exact mem_vecs (by simpa using hl) (by omega)
    · have e : (((z + d).toNat : Int) - (d : Int)) = z := by omega
      rw [e]
/-- a list with no item twice within another one is no longer -/
theorem nodup_len {α : Type} [DecidableEq α] : ∀ {l m : List α}, l.Nodup → (∀ a ∈ l, a ∈ m) → l.length ≤ m.length
  | [], m, _, _ => Nat.zero_le _
  | a :: l, m, hn, h => by
    rw [List.nodup_cons] at hn
    have ha := h a List.mem_cons_self
    have := nodup_len (l := l) (m := m.erase a) hn.2 fun b hb => (List.mem_erase_of_ne (fun e => hn.1 (by rw [← e]; exact hb))).mpr (h b (List.mem_cons_of_mem _ hb))
    rw [List.length_erase_of_mem ha] at this
    have := List.length_pos_of_mem ha
    rw [List.length_cons]
    omega
/-- markets that are drawn: up to four trades and three steps, or one trade and six -/
theorem vecs_len {n d : Nat} (h : (n ≤ 4 ∧ d ≤ 3) ∨ (n ≤ 1 ∧ d ≤ 6)) : (vecs n d).length ≤ 129 := by
  have : ∀ n, n < 5 → ∀ d, d < 7 → ((n ≤ 4 ∧ d ≤ 3) ∨ (n ≤ 1 ∧ d ≤ 6)) → (vecs n d).length ≤ 129 := by decide +kernel
  exact this n (by omega) d (by omega) h
end Lb.Wk
set_option Elab.async false
set_option linter.all false
set_option maxRecDepth 100000
set_option maxHeartbeats 4000000
/-! steps of a market: ends, undoing, how many stocks are so near (no interpreter here) -/
namespace Lb
open PySem PySem.Spec PyProof.Rows L2 RZ TL
/-- the ways on from a stock, in order -/
def edg (ts : List Trd) (x : List Int) : List ((Nat × Bool) × List Int) := (steps2 ts.length).filterMap fun s => (behind ts x s.1 s.2).map fun y => (s, y)
theorem mem_steps2 {n k : Nat} {b : Bool} : (k, b) ∈ steps2 n ↔ k < n := by
  unfold steps2
  rw [List.mem_flatMap]
  constructor
  · rintro ⟨j, hj, h⟩
    have hj := List.mem_range.mp hj
    rcases List.mem_cons.mp h with e | h
    · cases e
      exact hj
    · cases List.mem_singleton.mp h
      exact hj
  · intro h
    refine ⟨k, List.mem_range.mpr h, ?_⟩
    cases b
    · exact List.mem_cons_self
    · exact List.mem_cons_of_mem _ (List.mem_singleton.mpr rfl)
theorem mem_edg {ts : List Trd} {x y : List Int} {s : Nat × Bool} : (s, y) ∈ edg ts x ↔ s.1 < ts.length ∧ behind ts x s.1 s.2 = some y := by
  unfold edg
  rw [List.mem_filterMap]
  constructor
  · rintro ⟨t, ht, h⟩
    obtain ⟨z, hz, e⟩ := Option.map_eq_some_iff.mp h
    cases e
    exact ⟨mem_steps2.mp ht, hz⟩
  · rintro ⟨h1, h2⟩
    refine ⟨s, mem_steps2.mpr h1, ?_⟩
    rw [h2]
    rfl
theorem edg_snd (ts : List Trd) (x : List Int) : (edg ts x).map (·.2) = around ts x := by
  unfold edg
  show _ = arnd ts x ts.length
  unfold arnd
  rw [List.map_filterMap]
  congr 1
  funext s
  cases behind ts x s.1 s.2 <;> rfl
theorem edg_ends (ts : List Trd) (u v : List Int) : v ∈ around ts u ↔ ∃ e ∈ edg ts u, e.2 = v := by
  rw [← edg_snd, List.mem_map]
theorem edg_len (ts : List Trd) (x : List Int) : (edg ts x).length ≤ 2 * ts.length := by
  unfold edg
  have := List.length_filterMap_le (fun s : Nat × Bool => (behind ts x s.1 s.2).map fun y => (s, y)) (steps2 ts.length)
  rw [steps2_len] at this
  exact this
theorem behind_cases {ts : List Trd} {x y : List Int} {k : Nat} {b : Bool} (e : behind ts x k b = some y) : ∃ t, ts[k]? = some t ∧ (if b = true then exch x t.2 t.1 else exch x t.1 t.2) = some y := by
  unfold behind at e
  split at e
  · cases e
  · rename_i t ht
    exact ⟨t, ht, e⟩
theorem exch_at {g : Nat} {x t p y : List Int} (hx : x.length = g) (ht : t.length = g) (hp : p.length = g) (e : exch x t p = some y) : y.length = g ∧ geB x t = true ∧ ∀ m, m < g → y.getD m 0 = x.getD m 0 - t.getD m 0 + p.getD m 0 := by
  unfold exch at e
  split at e
  · rename_i hg
    cases e
    refine ⟨by rw [List.length_zipWith, List.length_zipWith, hx, ht, hp]; omega, hg, fun m hm => ?_⟩
    rw [List.getD_eq_getElem?_getD, List.getD_eq_getElem?_getD, List.getD_eq_getElem?_getD, List.getD_eq_getElem?_getD, List.getElem?_zipWith, List.getElem?_zipWith, List.getElem?_eq_getElem (show m < x.length by omega), List.getElem?_eq_getElem (show m < t.length by omega), List.getElem?_eq_getElem (show m < p.length by omega)]
    rfl
  · cases e
theorem behind_lenE {g : Nat} {ts : List Trd} (ev : Even g ts) {x y : List Int} (hx : x.length = g) {k : Nat} {b : Bool} (e : behind ts x k b = some y) : y.length = g := by
  obtain ⟨t, ht, e⟩ := behind_cases e
  obtain ⟨l1, l2⟩ := ev t (List.mem_of_getElem? ht)
  split at e
  · exact (exch_at hx l2 l1 e).1
  · exact (exch_at hx l1 l2 e).1
theorem list_ext_getD {g : Nat} {x y : List Int} (hx : x.length = g) (hy : y.length = g) (h : ∀ m, m < g → x.getD m 0 = y.getD m 0) : x = y := by
  refine List.ext_getElem (by omega) fun m h1 h2 => ?_
  have := h m (by omega)
  rw [List.getD_eq_getElem?_getD, List.getD_eq_getElem?_getD, List.getElem?_eq_getElem h1, List.getElem?_eq_getElem h2] at this
  exact this
/-! ### how many -/
/-- the stock behind so many of each trade -/
def place (g : Nat) (ts : List Trd) (x c : List Int) : List Int := (List.range g).map fun m => x.getD m 0 + Gr.dot ts.length (fun k => c.getD k 0) fun k => mA ts k m
theorem place_get {g : Nat} {ts : List Trd} {x c : List Int} {m : Nat} (h : m < g) : (place g ts x c).getD m 0 = x.getD m 0 + Gr.dot ts.length (fun k => c.getD k 0) fun k => mA ts k m := by
  unfold place
  rw [List.getD_eq_getElem?_getD, List.getElem?_map, List.getElem?_range h]
  rfl
theorem sum1_set : ∀ {c : List Int} {k : Nat} {z : Int} (s : Int), c[k]? = some z → s.natAbs ≤ 1 → Wk.sum1 (c.set k (z + s)) ≤ Wk.sum1 c + 1
  | [], k, z, s, h, _ => by simp at h
  | w :: c, 0, z, s, h, hs => by
    have e : w = z := Option.some.inj h
    subst e
    show (w + s).natAbs + Wk.sum1 c ≤ w.natAbs + Wk.sum1 c + 1
    omega
  | w :: c, k + 1, z, s, h, hs => by
    have := sum1_set (c := c) (k := k) s (by simpa using h) hs
    show w.natAbs + Wk.sum1 (c.set k (z + s)) ≤ w.natAbs + Wk.sum1 c + 1
    omega
theorem dot_set {n k : Nat} {c : List Int} {z s : Int} {f : Nat → Int} (hc : c.length = n) (h : c[k]? = some z) : Gr.dot n (fun j => (c.set k (z + s)).getD j 0) f = Gr.dot n (fun j => c.getD j 0) f + s * f k := by
  have hk : k < n := by
    have := (List.getElem?_eq_some_iff.mp h).1
    omega
  have e : Gr.dot n (fun j => (c.set k (z + s)).getD j 0) f = Gr.dot n f fun j => c.getD j 0 + s * (if j = k then 1 else 0) := by
    rw [Gr.dot_comm]
    refine Gr.dot_congr (fun _ _ => rfl) fun j hj => ?_
    rw [List.getD_eq_getElem?_getD, List.getD_eq_getElem?_getD, List.getElem?_set]
    by_cases q : k = j
    · subst q
      rw [if_pos rfl, if_pos (by omega), if_pos rfl, h, Int.mul_one]
      rfl
    · rw [if_neg q, if_neg (fun z => q z.symm), Int.mul_zero, Int.add_zero]
  rw [e, Gr.dot_add, Gr.dot_smul, Gr.dot_unit _ hk, Gr.dot_comm]
theorem rch_place {g : Nat} {ts : List Trd} (ev : Even g ts) {x : List Int} (hx : x.length = g) : ∀ {n : Nat} {y : List Int}, Wk.Rch (around ts) n x y → y.length = g ∧ ∃ c : List Int, c.length = ts.length ∧ Wk.sum1 c ≤ n ∧ y = place g ts x c
  | 0, y, h => by
    obtain rfl : y = x := h
    have s0 : ∀ n : Nat, Wk.sum1 (List.replicate n (0 : Int)) = 0 := by
      intro n
      induction n with
      | zero => rfl
      | succ n ih =>
        rw [List.replicate_succ]
        show (0 : Int).natAbs + Wk.sum1 (List.replicate n (0 : Int)) = 0
        rw [ih]
        rfl
    refine ⟨hx, List.replicate ts.length 0, List.length_replicate .., Nat.le_of_eq (s0 _), list_ext_getD hx (by unfold place; rw [List.length_map, List.length_range]) fun m hm => ?_⟩
    rw [place_get hm, Gr.dot_comm, Gr.dot_zero (y := fun k => (List.replicate ts.length (0 : Int)).getD k 0), Int.add_zero]
    intro k hk
    rw [List.getD_eq_getElem?_getD, List.getElem?_replicate, if_pos hk]
    rfl
  | n + 1, y, ⟨w, hw, hy⟩ => by
    obtain ⟨lw, c, hc, hs, ew⟩ := rch_place ev hx hw
    obtain ⟨⟨⟨k, b⟩, y'⟩, he, rfl⟩ := (edg_ends ts w y).mp hy
    obtain ⟨hk, hb⟩ := mem_edg.mp he
    have ly := behind_lenE ev lw hb
    obtain ⟨t, ht, e⟩ := behind_cases hb
    obtain ⟨l1, l2⟩ := ev t (List.mem_of_getElem? ht)
    obtain ⟨z, hz⟩ : ∃ z, c[k]? = some z := ⟨_, List.getElem?_eq_getElem (by rw [hc]; exact hk)⟩
    have fin : ∀ s : Int, s.natAbs ≤ 1 → (∀ m, m < g → y'.getD m 0 = w.getD m 0 + s * mA ts k m) → y'.length = g ∧ ∃ c : List Int, c.length = ts.length ∧ Wk.sum1 c ≤ n + 1 ∧ y' = place g ts x c := fun s hs1 hv => by
      refine ⟨ly, c.set k (z + s), by rw [List.length_set]; exact hc, by have := sum1_set s hz hs1; omega, list_ext_getD ly (by unfold place; rw [List.length_map, List.length_range]) fun m hm => ?_⟩
      rw [place_get hm, dot_set hc hz, hv m hm, ew, place_get hm]
      omega
    have hmA : ∀ m, mA ts k m = t.2.getD m 0 - t.1.getD m 0 := fun m => by
      rw [mA_at ht]
      rfl
    cases b with
    | true =>
      have e : exch w t.2 t.1 = some y' := e
      refine fin (-1) (by decide) fun m hm => ?_
      rw [(exch_at lw l2 l1 e).2.2 m hm, hmA]
      omega
    | false =>
      have e : exch w t.1 t.2 = some y' := e
      refine fin 1 (by decide) fun m hm => ?_
      rw [(exch_at lw l1 l2 e).2.2 m hm, hmA]
      omega
/-- so few steps that every layer is small -/
abbrev Few (n d : Nat) : Prop := (n ≤ 4 ∧ d ≤ 3) ∨ (n ≤ 1 ∧ d ≤ 6)
theorem layer_len {g : Nat} {ts : List Trd} (ev : Even g ts) {x : List Int} (hx : x.length = g) {n d : Nat} (hf : Few ts.length d) (hn : n ≤ d) {l : List (List Int)} (nd : l.Nodup) (h : ∀ y ∈ l, Wk.Rch (around ts) n x y) : l.length ≤ 129 := by
  have h1 : l.length ≤ ((Wk.vecs ts.length d).map (place g ts x)).length := Wk.nodup_len nd fun y hy => by
    obtain ⟨_, c, hc, hs, e⟩ := rch_place ev hx (h y hy)
    rw [e]
    exact List.mem_map_of_mem (Wk.mem_vecs hc (by omega))
  rw [List.length_map] at h1
  exact Nat.le_trans h1 (Wk.vecs_len hf)
end Lb
set_option Elab.async false
set_option linter.all false
set_option maxRecDepth 100000
set_option maxHeartbeats 4000000
/-! dicts with keys that are tuples: {k: v} -/
namespace Lb
open PySem PySem.Spec PyProof.Rows L2 RZ TL
/-- {k: v}, k a tuple; the new dict stands empty meanwhile -/
def tDisp1 (tk tv : TE) : TE := fun σ H Q => ∀ p, H p = none → tk σ (upd H p (.dT [])) fun x H1 => tv σ H1 fun y H2 => H2 p = some (.dT []) ∧ ∃ (b : Addr) (k : List L2.Key), x = .ref b ∧ H2 b = some (.tup (k.map kV)) ∧ Q (.ref p) (upd H2 p (.dT [(k, y)]))
theorem pe_disp1 {X : Cx} {pos : Pos} {k v : Expr} {tk tv : TE} (hu : X.A.units + 8 < cLine) (hk : PE X k tk) (hv : PE X v tv) : PE X (.Dict [some k] [v] pos) (tDisp1 tk tv) := by
  refine ⟨fun pins s σ H Q I q => ?_⟩
  have hn := I.hok.fresh (Nat.le_refl s.heap.objs.size)
  have I1 := I.laid (a := s.heap.objs.size) (o := .dT []) (h' := s.heap.push { cls := .type "dict", data := .dict #[] }) (t' := s.toks) (fun _ _ q => Heap.get?_push_of_some _ q) (Nat.le_refl _) (dt_empty s.heap I.big)
  have room : (tupleKind (mixKind X.prog X.w)).room X.A := by
    show X.A.units < cLine
    omega
  rw [arm_eval_Dict, zip_pairTrees [some k] [v] X.env pos rfl rfl, dictDisplay_pairs _ (by intro z; cases z) (by rw [pairTrees_length [some k] [v] X.env pos rfl rfl]; show 1 < 17; decide)]
  refine wpAny_bind (wpAny_standAt (wpAny_bind (wpAny_subDictH (knd := tupleKind (mixKind X.prog X.w)) (Q := fun d s' => wpAny (model X.prog X.w) X.A (pure (Value.ref d)) (EP X pins σ Q) X.xe s') room (by rw [pairTrees_length [some k] [v] X.env pos rfl rfl]; show 1 ≤ 15; decide) ?_)))
  refine pairTrees_cons_walk (thn (hk.run pins _ σ _ _ I1 (q _ hn)) fun u s1 ⟨x, H1, I2, rx, q1⟩ => thn (hv.run pins s1 σ H1 _ I2 q1) fun r s2 ⟨y, H2, I3, ry, e0, b, kk, ex, eb, q2⟩ => pairTrees_nil_walk ?_)
  subst ex
  obtain rfl : u = Value.ref b := rx
  obtain ⟨z, hd, xs, rel, dd⟩ := dt_of I3.hok e0
  cases rel
  refine ⟨[(kk, b, r)], ⟨rfl, rfl, key_of I3.hok eb, trivial⟩, dd, fun h' tk dd' hs => ?_⟩
  obtain ⟨o, es, ep, ho, h2, h3, h4, _, h5⟩ := dd'
  have rel2 : KT H2 [(kk, y)] (storedAllH [] [(kk, b, r)]) := .cons ⟨rfl, eb, ry⟩ .nil
  refine wpAny_pure ⟨.ref s.heap.objs.size, upd H2 s.heap.objs.size (.dT [(kk, y)]), d_write I3 (by rw [e0]; exact True.intro) hs ⟨o, ho⟩ ⟨(by show 1 ≤ sizeLine; decide), hd, _, rel2.keeps fun c ys ec => ?_, o, es, ep, ho, h2, h3, h4, h5⟩, rfl, q2⟩
  rw [upd_ne (ne_of ec e0 (fun z => nomatch z))]
  exact ec
end Lb
set_option Elab.async false
set_option linter.all false
set_option maxRecDepth 100000
set_option maxHeartbeats 4000000
/-! a comprehension with two fors that makes a list of plain data -/
namespace Lb
open PySem PySem.Spec PyProof.Rows L2 RZ TL
/-- all but D stays -/
abbrev Nt (D : Addr) : Rgn := fun b => b ≠ D
abbrev But (D : Addr) : Hp → Hp → Prop := On (Nt D)
theorem but_upd {H : Hp} {D : Addr} {o : HO} : But D H (upd H D o) := fun b u hb e => by
  rw [upd_ne hb]
  exact e
/-- a comprehension with a test that makes a list of plain data, new or not -/
theorem lcd {J : It} {n : Nat} {G : Hp → Prop} {Y : Nat → Hp → V → Hp → Prop} (wk : L2.Walk J n G Y) {g : TG} {tt : TT} {te : TE} {vs : List Nat} {σ : L2.St} {H1 : Hp} {D : Addr} {Qd : Hp → Prop} (p : Nat → Bool) (dd : Nat → PyData) (hD : H1 D = none) (hn : n ≤ 9000) (hG : ∀ H', Same H1 H' → G H')
    (hs : ∀ (i : Nat) (x : V) (H H' : Hp) (Qn : Hp → Prop) (Qy : VK), i < n → Same H1 H → (∃ us, H D = some (.lst us)) → Y i H x H' → (p i = false → ∀ H'', Same H H'' → Qn H'') → (p i = true → ∀ H'' v, Same H H'' → Dat (Nt D) H'' v (dd i) → Qy v H'') →
      g x (wipe σ vs) H' fun σ2 H2 => wipe σ2 vs = wipe σ vs ∧ tt σ2 H2 fun b H3 => if b = true then te σ2 H3 Qy else Qn H3)
    (hd : ∀ H' us, Same H1 H' → H' D = some (.lst us) → Dats (Nt D) H' us (((List.range n).filter p).map dd) → Qd H') : LcW J g tt te vs σ H1 D Qd := by
  refine lc_it wk (fun i H => Same H1 H ∧ ∃ us, H D = some (.lst us) ∧ Dats (Nt D) H us (((List.range i).filter p).map dd)) ⟨same_upd hD, [], upd_same, .nil⟩ (fun i H _ h => hG H h.1) ?_ (fun H h => hd H _ h.1 h.2.choose_spec.1 h.2.choose_spec.2)
  rintro i x H H' hi ⟨sm, us, eD, du⟩ y
  have er : (List.range (i + 1)).filter p = (List.range i).filter p ++ if p i then [i] else [] := by
    rw [List.range_succ, List.filter_append]
    congr 1
    cases q : p i with
    | true => rw [List.filter_cons_of_pos q]; rfl
    | false => rw [List.filter_cons_of_neg (by rw [q]; decide)]; rfl
  refine hs i x H H' (fun H2 => Same H1 H2 ∧ ∃ us, H2 D = some (.lst us) ∧ Dats (Nt D) H2 us (((List.range (i + 1)).filter p).map dd)) (fun y H4 => ∃ acc, H4 D = some (.lst acc) ∧ acc.length < sizeLine ∧ Same H1 (upd H4 D (.lst (acc ++ [y]))) ∧ ∃ us, upd H4 D (.lst (acc ++ [y])) D = some (.lst us) ∧ Dats (Nt D) (upd H4 D (.lst (acc ++ [y]))) us (((List.range (i + 1)).filter p).map dd)) hi sm ⟨us, eD⟩ y (fun hp H2 s2 => ?_) (fun hp H2 v s2 dv => ?_)
  · rw [er, hp, if_neg (by decide), List.append_nil]
    exact ⟨sm.trans s2, us, s2 _ _ eD, du.same s2⟩
  · have hl : us.length ≤ i := by
      rw [du.length, List.length_map]
      have := List.length_filter_le p (List.range i)
      rwa [List.length_range] at this
    refine ⟨us, s2 _ _ eD, by rw [sizeLine_eq]; omega, fun b o e => ?_, _, upd_same, ?_⟩
    · rw [upd_ne (ne_of_none e hD)]
      exact s2 _ _ (sm _ _ e)
    · rw [er, hp, if_pos rfl, List.map_append]
      exact ((du.same s2).on but_upd).append (.cons (dv.on but_upd) .nil)
theorem lc2_dats {J : It} {n : Nat} {G : Hp → Prop} {Y : Nat → Hp → V → Hp → Prop} (wk : L2.Walk J n G Y) {g g1 : TG} {tt tt1 : TT} {wi1 : TI} {te : TE} {vs vs1 : List Nat} {σ : L2.St} {H1 : Hp} {D : Addr} {Qd : Hp → Prop} (m : Nat → Nat) (dd : Nat → Nat → PyData) {M : Nat}
    (hD : H1 D = none) (hm : ∀ i, i < n → m i ≤ M) (hn : n * M + M ≤ 9000) (hG : ∀ H', Same H1 H' → G H')
    (hs : ∀ (i : Nat) (x : V) (H H' : Hp) (Rn : L2.St → It → Hp → Prop) (Qn : Hp → Prop), i < n → Same H1 H → (∃ us, H D = some (.lst us)) → Y i H x H' →
      (∀ (σ2 : L2.St) (J1 : It) (H4 : Hp) (G1 : Hp → Prop) (Y1 : Nat → Hp → V → Hp → Prop), Same H H4 → L2.Walk J1 (m i) G1 Y1 → (∀ H5, But D H4 H5 → G1 H5) →
        (∀ (j : Nat) (y : V) (H5 H6 : Hp) (Qy : VK) (Q0 : Hp → Prop), j < m i → But D H4 H5 → (∃ us, H5 D = some (.lst us)) → Y1 j H5 y H6 → (∀ H7 v, Same H5 H7 → Dat (Nt D) H7 v (dd i j) → Qy v H7) → g1 y (wipe σ2 vs1) H6 fun σ3 H7 => wipe σ3 vs1 = wipe σ2 vs1 ∧ tt1 σ3 H7 fun b H8 => if b = true then te σ3 H8 Qy else Q0 H8) → Rn σ2 J1 H4) →
      g x (wipe σ vs) H' fun σ2 H2 => wipe σ2 vs = wipe σ vs ∧ tt σ2 H2 fun b H3 => if b = true then wi1 σ2 H3 (Rn σ2) else Qn H3)
    (hd : ∀ H' us, Same H1 H' → H' D = some (.lst us) → Dats (Nt D) H' us ((List.range n).flatMap fun i => (List.range (m i)).map (dd i)) → Qd H') :
    ∃ W : Nat → Nat → Hp → Prop, (∃ m, W 0 m (upd H1 D (.lst []))) ∧ ∀ i k H, W i k H →
      (J.stop i H ∧ Qd H) ∨ (J.go i H ∧ ∃ Nx : Hp → Prop, (∀ H', Nx H' → ∃ m', m' < k ∧ W (i + 1) m' H') ∧ ∀ x H', J.yld i H x H' → g x (wipe σ vs) H' fun σ2 H2 => wipe σ2 vs = wipe σ vs ∧ tt σ2 H2 fun b H3 =>
        if b = true then wi1 σ2 H3 fun J1 H4 => ∃ W1 : Nat → Nat → Hp → Prop, (∃ m, W1 0 m H4) ∧ ∀ j k H, W1 j k H →
          (J1.stop j H ∧ Nx H) ∨ (J1.go j H ∧ ∃ Nx1 : Hp → Prop, (∀ H', Nx1 H' → ∃ k', k' < k ∧ W1 (j + 1) k' H') ∧ ∀ x H', J1.yld j H x H' → g1 x (wipe σ2 vs1) H' fun σ3 H5 => wipe σ3 vs1 = wipe σ2 vs1 ∧ tt1 σ3 H5 fun b H6 =>
            if b = true then te σ3 H6 fun y H7 => ∃ acc, H7 D = some (.lst acc) ∧ acc.length < sizeLine ∧ Nx1 (upd H7 D (.lst (acc ++ [y]))) else Nx1 H6)
        else Nx H3) := by
  have flen : ∀ i, i ≤ n → ((List.range i).flatMap fun i => (List.range (m i)).map (dd i)).length ≤ i * M := by
    intro i
    induction i with
    | zero => exact fun _ => Nat.zero_le _
    | succ i ih =>
      intro hi
      rw [List.range_succ, List.flatMap_append, List.length_append, Nat.succ_mul]
      have := ih (by omega)
      have h2 := hm i (by omega)
      have h3 : (List.flatMap (fun i => (List.range (m i)).map (dd i)) [i]).length = m i := by
        rw [List.flatMap_cons, List.flatMap_nil, List.append_nil, List.length_map, List.length_range]
      omega
  refine ⟨fun i k H => k = n - i ∧ i ≤ n ∧ Same H1 H ∧ ∃ us, H D = some (.lst us) ∧ Dats (Nt D) H us ((List.range i).flatMap fun i => (List.range (m i)).map (dd i)), ⟨n, rfl, Nat.zero_le _, same_upd hD, [], upd_same, .nil⟩, ?_⟩
  rintro i k H ⟨rfl, hi, sm, us, eD, du⟩
  by_cases hlt : i < n
  · refine .inr ⟨wk.goes i H hlt (hG H sm), fun H' => Same H1 H' ∧ ∃ us, H' D = some (.lst us) ∧ Dats (Nt D) H' us ((List.range (i + 1)).flatMap fun i => (List.range (m i)).map (dd i)), fun H' ⟨s', u', e', p'⟩ => ⟨n - (i + 1), by omega, rfl, hlt, s', u', e', p'⟩, fun x H' y => ?_⟩
    refine hs i x H H' _ _ hlt sm ⟨us, eD⟩ (wk.yields i H x H' hlt (hG H sm) y) fun σ2 J1 H4 G1 Y1 s4 wk1 hG1 ht => ?_
    have efl : ∀ j, ((List.range i).flatMap fun i => (List.range (m i)).map (dd i)) ++ (List.range (j + 1)).map (dd i) = (((List.range i).flatMap fun i => (List.range (m i)).map (dd i)) ++ (List.range j).map (dd i)) ++ [dd i j] := fun j => by
      rw [List.range_succ, List.map_append, List.append_assoc]
      rfl
    refine ⟨fun j k H' => k = m i - j ∧ j ≤ m i ∧ Same H1 H' ∧ But D H4 H' ∧ ∃ vs, H' D = some (.lst vs) ∧ Dats (Nt D) H' vs (((List.range i).flatMap fun i => (List.range (m i)).map (dd i)) ++ (List.range j).map (dd i)),
      ⟨m i, rfl, Nat.zero_le _, sm.trans s4, fun b o _ e => e, us, s4 _ _ eD, by rw [List.range_zero, List.map_nil, List.append_nil]; exact du.same s4⟩, ?_⟩
    rintro j k H5 ⟨rfl, hj, sm5, b5, vs', eD5, dv⟩
    by_cases hjt : j < m i
    · refine .inr ⟨wk1.goes j H5 hjt (hG1 H5 b5), fun H' => Same H1 H' ∧ But D H4 H' ∧ ∃ vs, H' D = some (.lst vs) ∧ Dats (Nt D) H' vs (((List.range i).flatMap fun i => (List.range (m i)).map (dd i)) ++ (List.range (j + 1)).map (dd i)), fun H' ⟨s', t', u', e', p'⟩ => ⟨m i - (j + 1), by omega, rfl, hjt, s', t', u', e', p'⟩, fun z H6 yz => ?_⟩
      refine ht j z H5 H6 _ _ hjt b5 ⟨vs', eD5⟩ (wk1.yields j H5 z H6 hjt (hG1 H5 b5) yz) fun H7 v s7 dat => ?_
      have hl : vs'.length ≤ 9000 := by
        have h1 := flen i (by omega)
        have h2 := hm i hlt
        have h3 : i * M ≤ n * M := Nat.mul_le_mul_right _ hi
        rw [dv.length, List.length_append, List.length_map, List.length_range]
        omega
      refine ⟨vs', s7 _ _ eD5, by rw [sizeLine_eq]; omega, fun b o e => ?_, fun b o hb e => ?_, _, upd_same, ?_⟩
      · rw [upd_ne (ne_of_none e hD)]
        exact s7 _ _ (sm5 _ _ e)
      · rw [upd_ne hb]
        exact s7 _ _ (b5 _ _ hb e)
      · rw [efl]
        exact ((dv.same s7).on but_upd).append (.cons (dat.on but_upd) .nil)
    · obtain rfl : j = m i := by omega
      refine .inl ⟨wk1.stops H5 (hG1 H5 b5), sm5, vs', eD5, ?_⟩
      have e1 : ((List.range (i + 1)).flatMap fun i => (List.range (m i)).map (dd i)) = ((List.range i).flatMap fun i => (List.range (m i)).map (dd i)) ++ (List.range (m i)).map (dd i) := by
        rw [List.range_succ, List.flatMap_append]
        congr 1
        rw [List.flatMap_cons, List.flatMap_nil, List.append_nil]
      rw [e1]
      exact dv
  · obtain rfl : i = n := by omega
    exact .inl ⟨wk.stops H (hG H sm), hd H us sm eD du⟩
end Lb
set_option Elab.async false
set_option linter.all false
set_option maxRecDepth 100000
set_option maxHeartbeats 4000000
/-! what ways_on, distances and shortest answer -/
namespace Lb
open PySem PySem.Spec PyProof.Rows L2 RZ TL
theorem hu8_of {A : Around} {k : Nat} (hr : Room k A) : A.units + 8 < cLine := by
  have := hr.un
  omega
/-- tuples stay -/
def TK (H H' : Hp) : Prop := ∀ b xs, H b = some (.tup xs) → H' b = some (.tup xs)
theorem TK.of {H H' : Hp} (s : Same H H') : TK H H' := fun b xs e => s b _ e
theorem TK.refl (H : Hp) : TK H H := fun _ _ e => e
theorem TK.trans {H H1 H2 : Hp} (a : TK H H1) (b : TK H1 H2) : TK H H2 := fun c xs e => b c xs (a c xs e)
theorem TK.upd {H : Hp} {a : Addr} {o u : HO} (e : H a = some o) (n : ∀ xs, o ≠ .tup xs) : TK H (upd H a u) := fun b xs q => by
  rw [upd_ne (fun z => by rw [z, e] at q; exact n xs (Option.some.inj q))]
  exact q
/-- where a tuple is -/
abbrev TpR (H : Hp) : Rgn := fun b => ∃ xs, H b = some (.tup xs)
theorem TK.on {H H' : Hp} (k : TK H H') : On (TpR H) H H' := fun b o hb e => by
  obtain ⟨xs, q⟩ := hb
  rw [q] at e
  cases e
  exact k b xs q
theorem MkV.tk {H H' : Hp} {mv : V} {g : Nat} {ts : List Trd} (h : MkV H mv g ts) (k : TK H H') : MkV H' mv g ts := MkV.of ((h.dat (R := TpR H) fun b xs e => ⟨xs, e⟩).on k.on)
/-- these stocks -/
inductive Bgs (H : Hp) : List V → List (List Int) → Prop
  | nil : Bgs H [] []
  | cons {b : Addr} {x : List Int} {vs : List V} {l : List (List Int)} (e : H b = some (.tup (x.map V.int))) (t : Bgs H vs l) : Bgs H (.ref b :: vs) (x :: l)
theorem Bgs.tk {H H' : Hp} (k : TK H H') : ∀ {vs : List V} {l : List (List Int)}, Bgs H vs l → Bgs H' vs l
  | _, _, .nil => .nil
  | _, _, .cons e t => .cons (k _ _ e) (t.tk k)
theorem Bgs.length {H : Hp} : ∀ {vs : List V} {l : List (List Int)}, Bgs H vs l → vs.length = l.length
  | _, _, .nil => rfl
  | _, _, .cons _ t => congrArg (· + 1) t.length
theorem Bgs.get {H : Hp} : ∀ {vs : List V} {l : List (List Int)}, Bgs H vs l → ∀ {i : Nat} {v : V}, vs[i]? = some v → ∃ b x, v = .ref b ∧ l[i]? = some x ∧ H b = some (.tup (x.map V.int))
  | _, _, .nil, i, v, h => by simp at h
  | _, _, .cons (b := b) (x := x) e t, 0, v, h => ⟨b, x, (Option.some.inj h).symm, rfl, e⟩
  | _, _, .cons _ t, i + 1, v, h => t.get (i := i) (by simpa using h)
theorem Bgs.append {H : Hp} : ∀ {vs : List V} {l : List (List Int)} {vs' : List V} {l' : List (List Int)}, Bgs H vs l → Bgs H vs' l' → Bgs H (vs ++ vs') (l ++ l')
  | _, _, _, _, .nil, b => b
  | _, _, _, _, .cons e t, b => .cons e (t.append b)
theorem Bgs.of {R : Rgn} {H : Hp} : ∀ {vs : List V} {l : List (List Int)}, Dats R H vs (l.map bagD) → Bgs H vs l
  | vs, [], h => by
    cases h
    exact .nil
  | vs, x :: l, h => by
    rw [List.map_cons] at h
    cases h with
    | cons h t =>
      obtain ⟨b, rfl, _, e⟩ := Dat.bag h
      exact .cons e (Bgs.of t)
theorem Bgs.pairs {H : Hp} : ∀ {L : List (Addr × List Int)}, (∀ p ∈ L, H p.1 = some (.tup (p.2.map V.int))) → Bgs H (L.map fun q => V.ref q.1) (L.map (·.2))
  | [], _ => .nil
  | p :: L, h => .cons (h p List.mem_cons_self) (Bgs.pairs fun q hq => h q (List.mem_cons_of_mem _ hq))
abbrev wayD (e : (Nat × Bool) × List Int) : PyData := .tuple [stepD e.1.1 e.1.2, bagD e.2]
/-- a market, and a stock of it -/
structure StdM (H : Hp) (mv sv : V) (g : Nat) (ts : List Trd) (x : List Int) : Prop where
  mkt : MkV H mv g ts
  sv : ∃ a, sv = .ref a ∧ H a = some (.tup (x.map V.int))
  ev : Even g ts
  lx : x.length = g
  many : ts.length ≤ 4
  g4 : g ≤ 4
  g1 : 1 ≤ g
theorem StdM.tk {H H' : Hp} {mv sv : V} {g : Nat} {ts : List Trd} {x : List Int} (h : StdM H mv sv g ts x) (k : TK H H') : StdM H' mv sv g ts x :=
  ⟨h.mkt.tk k, let ⟨a, e, q⟩ := h.sv; ⟨a, e, k _ _ q⟩, h.ev, h.lx, h.many, h.g4, h.g1⟩
def spWays : Sp := fun vs H Q _ => ∃ (mv sv : V) (g : Nat) (ts : List Trd) (x : List Int), vs = [mv, sv] ∧ StdM H mv sv g ts x ∧
  ∀ (H' : Hp) (L : Addr) (us : List V), Same H H' → H L = none → H' L = some (.lst us) → Dats (Nt L) H' us ((edg ts x).map wayD) → Q (.ref L) H'
/-- the stocks at each distance up to d -/
structure Lays (ts : List Trd) (x : List Int) (d : Nat) (lay : Nat → List (List Int)) : Prop where
  nd : ∀ j, j ≤ d → (lay j).Nodup
  mem : ∀ j, j ≤ d → ∀ y, y ∈ lay j ↔ Wk.Dst (around ts) j x y
  srt : ∀ j, j ≤ d → (lay j).Pairwise fun a b => ¬ b < a
/-- as entries of a dict -/
def entL (lay : Nat → List (List Int)) (n : Nat) : List (List L2.Key × V) := (List.range n).flatMap fun j => (lay j).map fun y => (y.map Sum.inl, V.int (j : Int))
def spDist : Sp := fun vs H Q _ => ∃ (mv sv : V) (g : Nat) (ts : List Trd) (x : List Int) (d : Nat), vs = [mv, sv, .int (d : Int)] ∧ StdM H mv sv g ts x ∧ Few ts.length d ∧
  ∀ (H' : Hp) (a : Addr) (lay : Nat → List (List Int)), Same H H' → H a = none → H' a = some (.dT (entL lay (d + 1))) → Lays ts x d lay → Q (.ref a) H'
/-! ### entries -/
theorem entL_succ (lay : Nat → List (List Int)) (n : Nat) : entL lay (n + 1) = entL lay n ++ (lay n).map fun y => (y.map Sum.inl, V.int (n : Int)) := by
  unfold entL
  rw [List.range_succ, List.flatMap_append]
  congr 1
  rw [List.flatMap_cons, List.flatMap_nil, List.append_nil]
theorem keyI_inj : ∀ {x y : List Int}, x.map (Sum.inl : Int → L2.Key) = y.map Sum.inl → x = y
  | [], [], _ => rfl
  | [], _ :: _, h => by simp at h
  | _ :: _, [], h => by simp at h
  | a :: x, b :: y, h => by
    rw [List.map_cons, List.map_cons] at h
    injection h with h1 h2
    injection h1 with h1
    rw [h1, keyI_inj h2]
theorem keyI_vals (x : List Int) : (x.map (Sum.inl : Int → L2.Key)).map kV = x.map V.int := by
  rw [List.map_map]
  rfl
theorem valV_eq {K : Type} [DecidableEq K] {kvs : List (K × V)} {k : K} {v : V} (hn : ∀ p ∈ kvs, p.1 = k → p.2 = v) (h : ∃ p ∈ kvs, p.1 = k) : valV kvs k = some v := by
  induction kvs with
  | nil =>
    obtain ⟨p, hp, _⟩ := h
    cases hp
  | cons p kvs ih =>
    by_cases e : p.1 = k
    · rw [valV_pos e, hn p List.mem_cons_self e]
    · rw [valV_neg e]
      refine ih (fun q hq => hn q (List.mem_cons_of_mem _ hq)) ?_
      obtain ⟨q, hq, e2⟩ := h
      rcases List.mem_cons.mp hq with z | z
      · exact absurd (by rw [← z]; exact e2) e
      · exact ⟨q, z, e2⟩
theorem valV_none {K : Type} [DecidableEq K] {kvs : List (K × V)} {k : K} (h : ∀ p ∈ kvs, p.1 ≠ k) : valV kvs k = none := by
  induction kvs with
  | nil => rfl
  | cons p kvs ih =>
    rw [valV_neg (h p List.mem_cons_self)]
    exact ih fun q hq => h q (List.mem_cons_of_mem _ hq)
theorem mem_entL {lay : Nat → List (List Int)} {n : Nat} {p : List L2.Key × V} : p ∈ entL lay n ↔ ∃ j y, j < n ∧ y ∈ lay j ∧ p = (y.map Sum.inl, V.int (j : Int)) := by
  unfold entL
  rw [List.mem_flatMap]
  constructor
  · rintro ⟨j, hj, h⟩
    obtain ⟨y, hy, rfl⟩ := List.mem_map.mp h
    exact ⟨j, y, List.mem_range.mp hj, hy, rfl⟩
  · rintro ⟨j, y, hj, hy, rfl⟩
    exact ⟨j, List.mem_range.mpr hj, List.mem_map.mpr ⟨y, hy, rfl⟩⟩
/-- what the entries hold at a stock -/
theorem ent_some {ts : List Trd} {x y : List Int} {d j : Nat} {lay : Nat → List (List Int)} (l : Lays ts x d lay) (hj : j ≤ d) (h : Wk.Dst (around ts) j x y) : valV (entL lay (d + 1)) (y.map Sum.inl) = some (V.int (j : Int)) := by
  refine valV_eq (fun p hp e => ?_) ⟨_, mem_entL.mpr ⟨j, y, by omega, (l.mem j hj y).mpr h, rfl⟩, rfl⟩
  obtain ⟨i, z, hi, hz, rfl⟩ := mem_entL.mp hp
  have ez : z = y := keyI_inj e
  subst ez
  rw [Wk.dst_uniq ((l.mem i (by omega) z).mp hz) h]
theorem ent_none {ts : List Trd} {x y : List Int} {d : Nat} {lay : Nat → List (List Int)} (l : Lays ts x d lay) (h : ∀ j, j ≤ d → ¬ Wk.Dst (around ts) j x y) : valV (entL lay (d + 1)) (y.map Sum.inl) = none := by
  refine valV_none fun p hp e => ?_
  obtain ⟨i, z, hi, hz, rfl⟩ := mem_entL.mp hp
  have ez : z = y := keyI_inj e
  subst ez
  exact h i (by omega) ((l.mem i (by omega) z).mp hz)
theorem ent_len {g : Nat} {ts : List Trd} (ev : Even g ts) {x : List Int} (hx : x.length = g) {d D : Nat} {lay : Nat → List (List Int)} (l : Lays ts x d lay) (hf : Few ts.length D) (hd : d ≤ D) : ∀ n, n ≤ d + 1 → (entL lay n).length ≤ n * 129
  | 0, _ => Nat.zero_le _
  | n + 1, hn => by
    have h1 := ent_len ev hx l hf hd n (by omega)
    have h2 := layer_len ev hx hf (n := n) (by omega) (l.nd n (by omega)) fun y hy => ((l.mem n (by omega) y).mp hy).1
    rw [entL_succ, List.length_append, List.length_map]
    omega
end Lb
set_option Elab.async false
set_option linter.all false
set_option maxRecDepth 100000
set_option maxHeartbeats 4000000
/-! one layer more -/
namespace Lb
open PySem PySem.Spec PyProof.Rows L2 RZ TL
theorem range_flat {α β : Type} (l : List α) (d : α) (f : α → List β) : ((List.range l.length).flatMap fun i => f (l.getD i d)) = l.flatMap f := by
  have e : l = (List.range l.length).map fun k => l.getD k d := by
    refine List.ext_getElem (by rw [List.length_map, List.length_range]) fun k h1 h2 => ?_
    rw [List.getElem_map, List.getElem_range, List.getD_eq_getElem?_getD, List.getElem?_eq_getElem h1]
    rfl
  conv => rhs; rw [e]
  rw [List.flatMap_map]
theorem range_getD {α β : Type} (l : List α) (d : α) (f : α → β) : ((List.range l.length).map fun i => f (l.getD i d)) = l.map f := by
  refine List.ext_getElem (by rw [List.length_map, List.length_map, List.length_range]) fun k h1 h2 => ?_
  rw [List.getElem_map, List.getElem_range, List.getElem_map, List.getD_eq_getElem?_getD, List.getElem?_eq_getElem (by rw [List.length_map] at h2; exact h2)]
  rfl
theorem flat_around (ts : List Trd) (l : List (List Int)) : ((List.range l.length).flatMap fun i => (List.range (edg ts (l.getD i [])).length).map fun j => bagD ((edg ts (l.getD i [])).getD j ((0, false), [])).2) = (l.flatMap fun z => around ts z).map bagD := by
  rw [range_flat l [] fun z => (List.range (edg ts z).length).map fun j => bagD ((edg ts z).getD j ((0, false), [])).2, List.map_flatMap]
  congr 1
  funext z
  rw [range_getD (edg ts z) ((0, false), []) fun e => bagD e.2, ← edg_snd, List.map_map]
  rfl
theorem putK_new {K : Type} [DecidableEq K] {kvs : List (K × V)} {k : K} {v : V} (h : valV kvs k = none) : putK kvs k v = kvs ++ [(k, v)] := by
  unfold putK
  rw [valV_any, h]
  rfl
theorem leG_iff (p q : Addr × List Int) : leG p q = true ↔ ¬ q.2 < p.2 := by
  have e : PySem.W.dataLt (bagD q.2) (bagD p.2) = decide (q.2 < p.2) := by
    rw [PySem.W.dataLt_tuple]
    exact PySem.W.dataLt_ints q.2 p.2
  unfold leG
  rw [e]
  simp
theorem leG_srt (L : List (Addr × List Int)) : ((L.mergeSort leG).map (·.2)).Pairwise fun a b => ¬ b < a := by
  have T := PySem.W.sortLe_total (listOrd itemOrd) false (fun q : Addr × List Int => PySem.W.keyToks (bagD q.2))
  have h : (L.mergeSort leG).Pairwise fun a b => leG a b = true := List.pairwise_mergeSort (fun a b c h1 h2 => T.trans a b c h1 h2) (fun a b => by
    exact Bool.or_eq_true_iff.mpr (T.total a b)) L
  rw [List.pairwise_map]
  exact h.imp fun {a b} z => (leG_iff a b).mp z
/-- the next layer -/
theorem next_iff {ts : List Trd} {x y : List Int} {k : Nat} {lay : Nat → List (List Int)} (l : Lays ts x k lay) : (y ∈ (lay k).flatMap (fun z => around ts z) ∧ valV (entL lay (k + 1)) (y.map Sum.inl) = none) ↔ Wk.Dst (around ts) (k + 1) x y := by
  have hv : valV (entL lay (k + 1)) (y.map Sum.inl) = none ↔ ∀ i, i ≤ k → ¬ Wk.Dst (around ts) i x y := by
    refine ⟨fun h i hi d => ?_, fun h => ent_none l h⟩
    rw [ent_some l hi d] at h
    cases h
  rw [Wk.dst_next, hv, List.mem_flatMap]
  constructor
  · rintro ⟨⟨z, hz, hy⟩, no⟩
    exact ⟨⟨z, (l.mem k (Nat.le_refl k) z).mp hz, hy⟩, no⟩
  · rintro ⟨⟨z, hz, hy⟩, no⟩
    exact ⟨⟨z, (l.mem k (Nat.le_refl k) z).mpr hz, hy⟩, no⟩
def layN (lay : Nat → List (List Int)) (k : Nat) (new : List (List Int)) (j : Nat) : List (List Int) := if j ≤ k then lay j else new
theorem lays_next {ts : List Trd} {x : List Int} {k : Nat} {lay : Nat → List (List Int)} {new : List (List Int)} (l : Lays ts x k lay) (nd : new.Nodup) (mem : ∀ y, y ∈ new ↔ Wk.Dst (around ts) (k + 1) x y) (srt : new.Pairwise fun a b => ¬ b < a) : Lays ts x (k + 1) (layN lay k new) := by
  refine ⟨fun j hj => ?_, fun j hj y => ?_, fun j hj => ?_⟩
  all_goals
    unfold layN
    by_cases h : j ≤ k
    · rw [if_pos h]
      first
        | exact l.nd j h
        | exact l.mem j h y
        | exact l.srt j h
    · obtain rfl : j = k + 1 := by omega
      rw [if_neg h]
      first
        | exact nd
        | exact mem y
        | exact srt
theorem ent_next (lay : Nat → List (List Int)) (k : Nat) (new : List (List Int)) : entL (layN lay k new) (k + 2) = entL lay (k + 1) ++ new.map fun y => (y.map Sum.inl, V.int ((k + 1 : Nat) : Int)) := by
  rw [entL_succ]
  have e1 : layN lay k new (k + 1) = new := if_neg (by omega)
  have e2 : entL (layN lay k new) (k + 1) = entL lay (k + 1) := by
    unfold entL
    have : ∀ l : List Nat, (∀ j ∈ l, j ≤ k) → (l.flatMap fun j => (layN lay k new j).map fun y => ((y.map Sum.inl : List L2.Key), V.int (j : Int))) = l.flatMap fun j => (lay j).map fun y => (y.map Sum.inl, V.int (j : Int)) := by
      intro l
      induction l with
      | nil => exact fun _ => rfl
      | cons j l ih =>
        intro h
        rw [List.flatMap_cons, List.flatMap_cons, ih fun i hi => h i (List.mem_cons_of_mem _ hi)]
        congr 2
        exact if_pos (h j List.mem_cons_self)
    exact this _ fun j hj => by
      have := List.mem_range.mp hj
      omega
  rw [e1, e2]
theorem layN_new (lay : Nat → List (List Int)) (k : Nat) (new : List (List Int)) : layN lay k new (k + 1) = new := if_neg (by omega)
theorem lays_zero (ts : List Trd) (x : List Int) : Lays ts x 0 fun _ => [x] := by
  refine ⟨fun j _ => List.nodup_cons.mpr ⟨List.not_mem_nil, List.nodup_nil⟩, fun j hj y => ?_, fun j _ => List.pairwise_singleton _ _⟩
  obtain rfl : j = 0 := by omega
  rw [Wk.dst_zero, List.mem_singleton]
theorem ent_zero (x : List Int) : entL (fun _ => [x]) 1 = [(x.map Sum.inl, V.int 0)] := rfl
/-! ### the least walk -/
end Lb
set_option Elab.async false
set_option linter.all false
set_option maxRecDepth 100000
set_option maxHeartbeats 4000000
/-! the law's own search for the least walk -/
namespace Lb
open PySem PySem.Spec PyProof.Rows L2 RZ TL
end Lb
set_option Elab.async false
set_option linter.all false
set_option maxRecDepth 100000
set_option maxHeartbeats 4000000
/-! for a, b in d.items(), the keys tuples -/
namespace Lb
open PySem PySem.Spec PyProof.Rows L2 RZ TL
/-- the pairs, each a new tuple of the key's own tuple and the value -/
def Itit (d : Addr) (o : Obj) (kvs : List (List L2.Key × V)) : It :=
  ⟨fun i H => H d = some (.frz o (.dT kvs)) ∧ i < kvs.length, fun i H x H' => ∃ T k v q, kvs[i]? = some (k, v) ∧ H q = some (.tup (k.map kV)) ∧ x = .ref T ∧ H T = none ∧ H' = upd H T (.tup [.ref q, v]), fun i H => H d = some (.frz o (.dT kvs)) ∧ kvs.length ≤ i⟩
/-- what a locked dict with tuples as keys is -/
theorem frzT_all {X : Cx} {pins : List (Addr × Obj)} {σ : L2.St} {H : Hp} {s : Shared} {d : Addr} {o : Obj} {kvs : List (List L2.Key × V)} (I : Inv X pins σ H s) (h : H d = some (.frz o (.dT kvs))) :
    (d == sysModules) = false ∧ s.heap.get? d = some o ∧ o.ExactDict ∧ ∃ (es : Array DictEntry) (ep : Nat), o.data = .dict es ep ∧ es.size = kvs.length ∧
      ∀ (i : Nat) (k : List L2.Key) (v : V), kvs[i]? = some (k, v) → ∃ (en : DictEntry) (q : Addr), es[i]? = some en ∧ en.key = .ref q ∧ H q = some (.tup (k.map kV)) ∧ RelV v en.val := by
  obtain ⟨hd, z, hs, xs, pr, o', es, ep, ho, hx, hdt, he, _⟩ := I.hok d _ h
  rw [hd] at ho
  cases ho
  refine ⟨hs, hd, hx, es, ep, hdt, ?_, fun i k v e => ?_⟩
  · have l1 : es.size = xs.length := size_of_entries he
    have l2 : kvs.length = xs.length := Paired.length pr
    omega
  · obtain ⟨b, hb, e1, e2, e3⟩ := paired_get pr e
    refine ⟨entryOfKey (tupleKind (mixKind X.prog X.w)) b, b.2.1, ?_, rfl, e2, e3⟩
    rw [entry_at he i, hb]
    rfl
section
variable {P : Program} {w : World} {K : PySem.W.Frag} {d : Addr} {o : Obj} {es : Array DictEntry} {ep : Nat}
theorem turn_itemsT {kvs : List (List L2.Key × V)} {elts : List Expr} {kk : Nat} {tpos : Pos} (it : Addr) (hod : o.data = .dict es ep) :
    Turn P w K (.Tuple elts kk tpos) (Itit d o kvs) [it] it (fun i h => ∃ ok ov, IsItemIter h it d i kvs.length ep ok ov) where
  mem := by simp
  obj := fun i h st b hb => by
    have e : b = it := by simpa using hb
    subst e
    obtain ⟨ok, ov, e⟩ := st
    exact ⟨_, e, fun v z => nomatch z⟩
  keep := fun i h h' st k => let ⟨ok, ov, e⟩ := st; ⟨ok, ov, k it (by simp) _ e⟩
  item := by
    intro X hP hw hK hc i pins s σ H E I hf st hg
    subst hP hw hK
    obtain ⟨hd, hi⟩ := hg
    obtain ⟨hs, hgd, hx, es', ep', hdt, hsz, ent⟩ := frzT_all I hd
    obtain ⟨rfl, rfl⟩ := dict_ep hod hdt
    obtain ⟨⟨k, v⟩, hkv⟩ : ∃ p, kvs[i]? = some p := ⟨kvs[i], List.getElem?_eq_getElem hi⟩
    obtain ⟨en, q, hen, hkey, hq, rv⟩ := ent i k v hkv
    obtain ⟨ok, ov, he⟩ := st
    rw [← hsz] at he
    have hlt : it < s.heap.objs.size := Heap.lt_size he
    have hie : i < es'.size := by omega
    have een : es'[i] = en := by
      rw [Array.getElem?_eq_getElem hie] at hen
      exact Option.some.inj hen
    refine DT.nextI he ⟨o, hgd, hx, hdt⟩ hie fun h' ho hT hz hk => ?_
    rw [een] at ho hT
    refine ⟨_, rfl, wpAny_letOwnedTupleGo_items (s := { s with heap := h' }) ho fun h'' he' sb => ?_⟩
    have hT2 : h''.get? s.heap.objs.size = some { cls := .type "tuple", data := .seq #[en.key, en.val] } := (sb.2 _ (Nat.ne_of_gt hlt)).trans hT
    have new : ObjOk X.prog X.w (upd H s.heap.objs.size (.tup [.ref q, v])) h'' s.heap.objs.size (.tup [.ref q, v]) :=
      ⟨by show 2 ≤ sizeLine; decide, [en.key, en.val], .cons (show RelV (.ref q) en.key from hkey) (.cons rv .nil), ⟨_, hT2, rfl, _, rfl⟩⟩
    have I1 : Inv X pins σ (upd H s.heap.objs.size (.tup [.ref q, v])) { s with heap := h'' } :=
      I.turnedNew (t' := s.toks) (ch := [it]) (fun b ob hb e => (sb.2 b (by simpa using hb)).trans (hk b ob (by simpa using hb) e)) hf (Nat.le_refl _) new
    refine ⟨.ref s.heap.objs.size, _, I1, rfl, ⟨_, k, v, q, hkv, hq, rfl, I.hok.fresh (Nat.le_refl _), rfl⟩, ⟨en.key, en.val, ?_⟩, fun b hb => ?_⟩
    · rw [← hsz]; exact he'
    · have e : b = it := by simpa using hb
      rw [e, upd_ne (Nat.ne_of_lt hlt)]
      exact (hf it (by simp)).1
  done := by
    intro X hP hw hK hc i pins s σ H E I hf st hg
    subst hP hw hK
    obtain ⟨hd, hi⟩ := hg
    obtain ⟨f0, f1, f2, f3, f4, f5⟩ := hf it (by simp)
    obtain ⟨hs, hgd, hx, es', ep', hdt, hsz, ent⟩ := frzT_all I hd
    obtain ⟨rfl, rfl⟩ := dict_ep hod hdt
    obtain ⟨ok, ov, he⟩ := st
    rw [← hsz] at he
    exact DT.endI (I.ok.hd hc) he ⟨o, hgd, hx, hdt⟩ (by omega) fun h' eb => ⟨rfl, I.turned (t' := s.toks) (fun b ob hb e => eb b ob hb e) f0 f1 f3 f4 f5⟩
  self := fun A i s Q E st h => let ⟨_, _, e⟩ := st; PySem.W.kcp_self e h
end
/-- .. of a dict that no one else knows: it is locked while the loop runs -/
def iItemsT (td : TE) : TI := fun σ H R => td σ H fun x H1 => ∃ d o kvs, x = .ref d ∧ H1 d = some (.frz o (.dT kvs)) ∧ R (Itit d o kvs) H1
section
variable {X : Cx} {tg e : Expr} {td : TE} {apos cpos : Pos}
theorem pi_itemsT {elts : List Expr} {kk : Nat} {tpos : Pos} (he : PE X e td) (hbase : attributeBase e "items" X.env (eval e X.env) = eval e X.env := by rfl) (hline : (apos.endLine == cpos.line) = true := by rfl) :
    PI X (.Tuple elts kk tpos) (.Call (.Attribute e "items" apos) [] [] cpos) (iItemsT td) := by
  refine ⟨fun pins s σ H R I h => ?_⟩
  refine wpAny_Call_method (T := "dict") (id := "dict.items") hbase rfl hline F.plainAttrs_dict F.slot_dict_items F.type_dict_items (thn (he.run pins s σ H _ I h) fun u s1 ⟨x, H1, I1, rx, d, o, kvs, ex, hd, q⟩ => ?_)
  subst ex
  obtain rfl : u = Value.ref d := rx
  obtain ⟨hs, hgd, hx, es, ep, hdt, hsz, ent⟩ := frzT_all I1 hd
  have raw : DT.Raw s1.heap d es ep := ⟨o, hgd, hx, hdt⟩
  refine ⟨raw.typeIs, fun b z => ?_, ?_⟩
  · cases z
    exact ⟨o, hgd, hx.2.1⟩
  have I2 : Inv X pins σ H1 { s1 with heap := s1.heap.push { cls := .type "dict_items", data := .fields #[.ref d] } } := I1.kept (t' := s1.toks) fun b ob q => Heap.get?_push_of_some _ q
  have fin : wpAny (model X.prog X.w) X.A (pyIter (.ref s1.heap.objs.size)) (PIE X pins σ (.Tuple elts kk tpos) R) X.xe { s1 with heap := s1.heap.push { cls := .type "dict_items", data := .fields #[.ref d] } } := by
    refine DT.iterI (d := d) (es := es) (ep := ep) ⟨_, Heap.get?_push_size _ rfl, rfl, rfl⟩ (raw.push _) (pi_one (tk := s1.toks) I2 _ (turn_itemsT _ hdt) ⟨.none, .none, ?_⟩ q)
    rw [← hsz]
    exact Heap.get?_push_size _ rfl
  show wpAny _ _ (callWith cpos (.builtin "dict.items") [.ref d] [] []) _ X.xe s1
  exact method_meetsIn F.slot_dict_items F.entry_dict_items rfl (PySem.evalArgs_none ⟨rfl, raw.typeIs, F.args_dict_items_1 _, _, DT.meetsItems (es := es) (ep := ep) hs, ⟨raw, fin⟩⟩)
end
end Lb
set_option Elab.async false
set_option linter.all false
set_option maxRecDepth 100000
set_option maxHeartbeats 4000000
/-! a generator whose body is `for .. in ..: yield ..`; while it sleeps its consumer may change what stands at Z -/
namespace Lb
open PySem PySem.Spec PyProof.Rows L2 RZ TL GenW
/-- asleep: v goes behind the list at S; what stands at Z may change, all else is kept -/
structure SlZ (S : Addr) (Z : List Addr) (v : Value) (s s' : Shared) : Prop where
  os : s'.os = s.os
  bare : AllBare s'.gens
  keep : ∀ b o, b ∉ Z → s.heap.get? b = some o → s'.heap.get? b = some o
  own : ∀ acc c, s.heap.get? S = some (lstObj acc c) → ∃ c', s'.heap.get? S = some (lstObj (acc.push v) c')
  oth : ∀ z ∈ Z, ∃ o, s'.heap.get? z = some o ∧ ∀ u, o.data ≠ .cell u
/-- the consumer's things are no business of this frame -/
def FarZ (X : Cx) (Z : List Addr) : Prop := ∀ z ∈ Z, X.s_0.heap.objs.size ≤ z ∧ z ≠ X.env.locals ∧ (∀ x c, X.env.cells.lookup x = some c → c ≠ z) ∧ ∀ p ∈ X.pn, p.1 ≠ z
/-- running since s₀: ys is out and stands at S -/
structure GIz (X : Cx) (S : Addr) (Z ip : List Addr) (hip : Heap) (ys : List V) (s₀ : Shared) (σ : L2.St) (H : Hp) (s : Shared) : Prop where
  acc : ∃ acc c, Vals ys acc.toList ∧ s₀.heap.get? S = some (lstObj acc c)
  inv : Inv X (pinsAt Z s₀.heap ++ pinsAt ip hip) σ H s
  oth : ∀ z ∈ Z, ∃ o, s₀.heap.get? z = some o ∧ ∀ u, o.data ≠ .cell u
section
variable {X : Cx} {S : Addr} {Z ip : List Addr} {hip : Heap} {ys : List V} {s₀ s s' : Shared} {σ : L2.St} {H : Hp}
theorem GIz.pin (h : GIz X S Z ip hip ys s₀ σ H s) {z : Addr} (hz : z ∈ Z) : ∃ o, s₀.heap.get? z = some o ∧ s.heap.get? z = some o ∧ H z = none ∧ z ≠ X.env.locals ∧ z ∉ X.fs := by
  obtain ⟨o, e, _⟩ := h.oth z hz
  obtain ⟨h1, h2, h3, h4, _⟩ := h.inv.pin (z, o) (List.mem_append_right _ (List.mem_append_left _ (mem_pinsAt hz e)))
  exact ⟨o, e, h1, h2, h3, h4⟩
theorem GIz.woken {x : V} {v : Value} (hS : S ∈ Z) (far : FarZ X Z) (hd : ∀ b ∈ ip, b ∉ Z) (h : GIz X S Z ip hip ys s₀ σ H s) (rv : RelV x v) (z : SlZ S Z v s s') : GIz X S Z ip hip (ys ++ [x]) s' σ H s' := by
  have P := fun {b : Addr} (hb : b ∈ Z) => h.pin hb
  obtain ⟨⟨acc, c, r, eS⟩, I, oth⟩ := h
  have eS1 : s.heap.get? S = some (lstObj acc c) := by
    obtain ⟨o, e1, e2, _⟩ := P hS
    rw [eS] at e1
    cases e1
    exact e2
  obtain ⟨z1, z2, z3, z4, z5⟩ := z
  obtain ⟨c', eS'⟩ := z4 acc c eS1
  have I0 : Inv X (pinsAt ip hip) σ H s := I.pins_of fun p hp => I.pin p (List.mem_append_right _ (List.mem_append_right _ hp))
  have nt : ∀ b u, H b = some u → b ∉ Z := fun b u q hb => by
    obtain ⟨_, _, _, e, _⟩ := P hb
    rw [q] at e
    cases e
  obtain ⟨hh, g, d, t, o⟩ := s'
  have ho : o = s.os := z1
  subst ho
  have J : Inv X (pinsAt ip hip) σ H { s with heap := hh, gens := g, drawn := d, toks := t } := by
    refine I0.step (g' := g) (t' := t) (d' := d) (ch := Z) (fun b hb => ?_)
      (fun b ob _ _ hc q _ => z3 b ob hc q) (fun b ob _ _ hc q _ => ⟨ob.slots, z3 b ob hc q⟩) (fun _ _ _ _ n => n) (fun b ob hc q => ⟨ob, z3 b ob hc q⟩)
      (fun _ _ q => q) (fun _ _ _ q => q) (fun b ps q => ⟨#[], by rw [q]; simp⟩) (fun m hm => ?_) (fun b u q => ?_) z2
    · obtain ⟨f1, f2, f3, f4⟩ := far b hb
      refine ⟨.inr f1, f2, f3, fun p hp => ?_⟩
      rcases List.mem_append.mp hp with hp | hp
      · exact f4 p hp
      · exact fun e => hd p.1 (of_pinsAt hp).1 (by rw [e]; exact hb)
    · obtain ⟨ob, es, ep, ho, r⟩ := hm
      exact ⟨ob, es, ep, z3 _ ob (fun hb => (far _ hb).2.1 rfl) ho, r⟩
    · refine (I0.hok b u q).stay (fun c v hc y => z3 c v ?_ y) (fun _ y => y) fun _ _ y => y
      rcases hc with y | y
      · rw [y]; exact nt b u q
      · exact nt c _ y
  refine ⟨⟨acc.push v, c', ?_, eS'⟩, J.pins_of fun p hp => ?_, z5⟩
  · rw [Array.toList_push]
    exact r.append (.cons rv .nil)
  · rcases List.mem_append.mp hp with hp | hp
    · obtain ⟨hz, e⟩ := of_pinsAt hp
      obtain ⟨o, _, _, e2, e3, e4⟩ := P hz
      obtain ⟨o', e5, nc⟩ := z5 _ hz
      have e : hh.get? p.1 = some p.2 := e
      have e5 : hh.get? p.1 = some o' := e5
      rw [e] at e5
      cases e5
      exact ⟨e, e2, e3, e4, nc⟩
    · exact J.pin p (List.mem_append_right _ hp)
end
/-- an item goes out -/
def GYz (X : Cx) (S : Addr) (Z : List Addr) : Protocol := fun n s₀ v s kap =>
  ∃ (ys : List V) (x : V) (ip : List Addr) (hip : Heap) (σ : L2.St) (H : Hp), n + 1 + ys.length = sizeLine ∧ RelV x v ∧ GIz X S Z ip hip ys s₀ σ H s ∧ ∀ s', SlZ S Z v s s' → kap (.send .none) s'
/-- where the code stands -/
structure GCz (X : Cx) (S : Addr) (Z : List Addr) (A : Around) (c : Code) (fs : List Frame) (gd : Bool → Bool) : Prop where
  hS : S ∈ Z
  far : FarZ X Z
  over : A.over c fs = X.A
  split : splitAtGen fs = none
  guard : fs.any Frame.guarded = false
  gd : gd false = false
theorem GCz.loop {X : Cx} {S : Addr} {Z : List Addr} {A : Around} {c c' : Code} {fs : List Frame} {gd : Bool → Bool} {k : Result → Sem PySem.Fin} {l kp : List Value} {p : Pos} (g : GCz X S Z A c fs gd) (hw : c'.weight = 0) (hu : c'.cUnits = 0) :
    GCz X S Z A c' (.ret k none (gd false) l c p kp :: fs) id where
  hS := g.hS
  far := g.far
  over := (over_loop hw hu).trans g.over
  split := by
    show (splitAtGen fs).map _ = none
    rw [g.split]; rfl
  guard := by
    show (gd false || fs.any Frame.guarded) = false
    rw [g.gd, g.guard]; rfl
  gd := rfl
/-- yield e, as a statement -/
theorem gz_yield {X : Cx} {S : Addr} {Z ip : List Addr} {hip : Heap} {A : Around} {R : GenEnd} {n : Nat} {ys : List V} {s₀ s : Shared} {c : Code} {fs : List Frame} {K : Flow → Sem PySem.Fin} {J : Value → Sem PySem.Fin} {gd : Bool → Bool} {lv : List Value → List Value} {σ : L2.St} {H : Hp} {e : Expr} {yp pos : Pos} {te : TE} {N : List V → L2.St → Hp → Prop}
    (he : PE X e te) (g : GCz X S Z A c fs gd) (hd : ∀ b ∈ ip, b ∉ Z) (hn : n + ys.length = sizeLine) (hlt : ys.length < sizeLine) (hI : GIz X S Z ip hip ys s₀ σ H s) (ht : te σ H fun x H1 => N (ys ++ [x]) σ H1)
    (ok : ∀ n ys s H, n + ys.length = sizeLine → GIz X S Z ip hip ys s σ H s → N ys σ H → Seg (model X.prog X.w) A R (GYz X S Z) n s c (K .next) fs s) (exc : ∀ n s₀ e s, X.xe e s → Seg (model X.prog X.w) A R (GYz X S Z) n s₀ c (J e) fs s)
    (hco : X.env.scope.isCoroutine = false := by rfl) (hi : interactive X.env = false := by rfl) : Seg (model X.prog X.w) A R (GYz X S Z) n s₀ c ((exec (.Expr (.Yield (some e) yp) pos) X.env).wrap K J gd lv) fs s := by
  obtain ⟨n, rfl⟩ : ∃ m, n = m + 1 := ⟨n - 1, by omega⟩
  refine seg_Expr_Yield g.split g.gd g.guard ?_ hco hi
  rw [g.over]
  refine wpAny_mono (he.run _ s σ H _ hI.inv ht) (fun v s' hv => ?_) fun x s' hx => exc _ s₀ x s' hx
  obtain ⟨x, H1, I1, rv, q⟩ := hv
  have G1 : GIz X S Z ip hip ys s₀ σ H1 s' := ⟨hI.acc, I1, hI.oth⟩
  intro kap hk
  refine ⟨ys, x, ip, hip, σ, H1, hn, rv, G1, fun s'' z => hk .none s'' ?_⟩
  refine ok n (ys ++ [x]) s'' H1 ?_ (G1.woken g.hS g.far hd rv z) q
  rw [List.length_append, List.length_singleton]
  omega
end Lb
set_option Elab.async false
set_option linter.all false
set_option maxRecDepth 100000
set_option maxHeartbeats 4000000
/-! for in a generator's body -/
namespace Lb
open PySem PySem.Spec PyProof.Rows L2 RZ TL GenW
section
variable {P : Program} {w : World} {A : Around} {R : GenEnd} {Y : Protocol} {n : Nat} {s₀ : Shared} {fs : List Frame} {s : Shared} {env : Env}
/-- an exception leaves the loop's own code -/
abbrev noteE (env : Env) (e : Value) : Sem PySem.Fin := (do noteFrame e env; theTreesLotGoes e : Sem Unit).wrap (fun _ => .raise e) .raise id id
theorem seg_forLoop {tg : Expr} {it : Value} {body : List Stmt}
    (h : wpAny (model P w) (A.over (.forLoop tg it body [] env) fs) (pyNext it) (fun r s1 => match r with
      | none => Seg (model P w) A R Y n s₀ (.block [] env) ((model P w).den (.block [] env)) fs s1
      | some v => wpAny (model P w) (A.over (.forLoop tg it body [] env) fs) (letOwnedTupleGo tg it v) (fun _ s2 => wpAny (model P w) (A.over (.forLoop tg it body [] env) fs) (assign tg env v) (fun _ s3 =>
          Seg (model P w) A R Y n s₀ (.forLoop tg it body [] env) ((execs body env).wrap (fun f => match f with
            | .next | .cont => .pure (.again (.forLoop tg it body [] env))
            | .brk => .pure (.done .next)
            | .ret v => .pure (.done (.ret v))) (noteE env) id id) fs s3)
          (fun x s' => Seg (model P w) A R Y n s₀ (.forLoop tg it body [] env) (noteE env x) fs s') s2) (fun x s' => Seg (model P w) A R Y n s₀ (.forLoop tg it body [] env) (noteE env x) fs s') s1)
      (fun x s' => Seg (model P w) A R Y n s₀ (.forLoop tg it body [] env) (noteE env x) fs s') s) :
    Seg (model P w) A R Y n s₀ (.forLoop tg it body [] env) ((model P w).den (.forLoop tg it body [] env)) fs s := by
  show Seg _ A R Y n s₀ _ ((forTurn tg it body [] env).onRaise (fun x => do noteFrame x env; theTreesLotGoes x)) fs s
  unfold forTurn
  rw [Sem.onRaise_eq_wrap]
  have eH : (fun e => ((do noteFrame e env; theTreesLotGoes e : Sem Unit).bind fun _ => (.raise e : Sem PySem.Fin))) = noteE env := funext fun e => Sem.bind_eq_wrap _ _
  rw [eH]
  refine seg_bind_wrap (wpAny_standAt ?_)
  refine seg_bind_wrap (wpAny_onRaise (wpAny_mono h (fun r s1 h1 => ?_) fun x s' h' => wpAny_standAt h'))
  cases r with
  | none => exact seg_again rfl h1
  | some v =>
    refine seg_bind_wrap (wpAny_mono h1 (fun _ s2 h2 => ?_) fun x s' h' => h')
    refine seg_bind_wrap (wpAny_mono h2 (fun _ s3 h3 => ?_) fun x s' h' => h')
    rw [Sem.bind_eq_wrap', Sem.wrap_wrap]
    have key : ∀ K1 : Flow → Sem PySem.Fin, (∀ f, K1 f = match f with
            | .next | .cont => .pure (.again (.forLoop tg it body [] env))
            | .brk => .pure (.done .next)
            | .ret v => .pure (.done (.ret v))) → Seg (model P w) A R Y n s₀ (.forLoop tg it body [] env) ((execs body env).wrap K1 (noteE env) id id) fs s3 := fun K1 hK => by
      rw [funext hK]
      exact h3
    exact key _ fun f => by cases f <;> rfl
end
/-- what the loop wants: D at its end -/
def tGFor (wi : TI) (g : TG) (te : TE) : (List V → L2.St → Hp → Prop) → List V → L2.St → Hp → Prop := fun D ys σ H => wi σ H fun J H1 => ∃ W : Nat → Nat → List V → L2.St → Hp → Prop, (∃ m, W 0 m ys σ H1) ∧ ∀ i m ys σ H, W i m ys σ H →
  (J.stop i H ∧ D ys σ H) ∨ (J.go i H ∧ ∃ N : List V → L2.St → Hp → Prop, (∀ ys' σ' H', N ys' σ' H' → ∃ m', m' < m ∧ W (i + 1) m' ys' σ' H') ∧ ∀ x H', J.yld i H x H' → g x σ H' fun σ2 H2 => ys.length < sizeLine ∧ te σ2 H2 fun y H3 => N (ys ++ [y]) σ2 H3)
theorem gz_for {X : Cx} {S : Addr} {Z : List Addr} {hip : Heap} {A : Around} {R : GenEnd} {n : Nat} {ys : List V} {s₀ s : Shared} {c : Code} {fs : List Frame} {K : Flow → Sem PySem.Fin} {J : Value → Sem PySem.Fin} {gd : Bool → Bool} {lv : List Value → List Value} {σ : L2.St} {H : Hp} {tg iter e : Expr} {yp ypos pos : Pos} {wi : TI} {g : TG} {te : TE} {D : List V → L2.St → Hp → Prop}
    (hp : PassesOwn (model X.prog X.w) X.A X.env X.xe) (hc : X.calm = true) (hi : PI X tg iter wi) (hg : PG X tg g) (he : PE X e te) (gc : GCz X S Z A c fs gd) (hn : n + ys.length = sizeLine) (hI : GIz X S Z [] hip ys s₀ σ H s) (ht : tGFor wi g te D ys σ H)
    (ok : ∀ n ys s₀ s σ H, n + ys.length = sizeLine → GIz X S Z [] hip ys s₀ σ H s → D ys σ H → Seg (model X.prog X.w) A R (GYz X S Z) n s₀ c (K .next) fs s) (exc : ∀ n s₀ e s, X.xe e s → Seg (model X.prog X.w) A R (GYz X S Z) n s₀ c (J e) fs s)
    (hs : ∀ x, foldedSetIterable iter X.env x = pure x := by intro _; rfl) (hco : X.env.scope.isCoroutine = false := by rfl) (hii : interactive X.env = false := by rfl) :
    Seg (model X.prog X.w) A R (GYz X S Z) n s₀ c ((exec (.For tg iter [.Expr (.Yield (some e) yp) ypos] [] pos) X.env).wrap K J gd lv) fs s := by
  rw [arm_exec_For]
  refine seg_bind_wrap (wpAny_standAt ?_)
  refine seg_bind_wrap ?_
  rw [gc.over]
  refine wpAny_mono (hi.run _ s σ H _ hI.inv ht) (fun v s1 hv => ?_) fun x s' hx => exc n s₀ x s' hx
  rw [hs v]
  refine seg_bind_wrap (wpAny_pure ?_)
  refine seg_bind_wrap (wpAny_standAt ?_)
  refine seg_bind_wrap (wpAny_holding ?_)
  rw [gc.over]
  refine wpAny_mono hv (fun itv s2 h2 => ?_) fun x s' hx => exc n s₀ x s' hx
  obtain ⟨it, fp, tn, Jt, H2, e2, I2, T, st2, f2, W, ⟨m0, w0⟩, turn⟩ := h2
  subst e2
  refine seg_call fun p => ?_
  have gl := fun (kk : Result → Sem PySem.Fin) => GCz.loop (k := kk) (c' := .forLoop tg (.ref it) [.Expr (.Yield (some e) yp) ypos] [] X.env) (l := lv []) (kp := []) (p := p) gc rfl rfl
  have glb := fun (kk : Result → Sem PySem.Fin) => GCz.loop (k := kk) (c' := .block [] X.env) (l := lv []) (kp := []) (p := p) gc rfl rfl
  have fZ : ∀ b ∈ fp, b ∉ Z := fun b hb hz => by
    obtain ⟨o, eo, _⟩ := hI.oth b hz
    exact (f2 b hb).2.2.2.2.2 (b, o) (List.mem_append_right _ (List.mem_append_left _ (mem_pinsAt hz eo))) rfl
  -- the footprint stays ours
  have stat : ∀ {s0 : Shared} {H' : Hp}, (∀ b ∈ fp, H' b = none) → ∀ b ∈ fp, FpOk X (pinsAt Z s0.heap ++ pinsAt [] hip) H' b := fun {s0 H'} hno b hb => by
    obtain ⟨f0, f1, f2', f3, f4, f5⟩ := f2 b hb
    refine ⟨hno b hb, f1, f2', f3, f4, fun q hq => ?_⟩
    rcases List.mem_append.mp hq with hq | hq
    · exact f5 q (List.mem_append_left _ hq)
    · rcases List.mem_append.mp hq with hq | hq
      · exact fun z => fZ b hb (by rw [← z]; exact (of_pinsAt hq).1)
      · exact absurd hq (by simp [pinsAt])
  have came : ∀ {n : Nat} {s₀ : Shared} {x : Value} {s' : Shared}, cameBackBy (model X.prog X.w) X.A X.env X.xe x s' → Seg (model X.prog X.w) A R (GYz X S Z) n s₀ c (((Sem.raise x : Sem Flow).onRaise (cameBack X.env)).wrap K J gd lv) fs s' := fun {n s₀ x s'} h => by
    show Seg _ _ _ _ _ _ _ (((cameBack X.env x).bind fun _ => (Sem.raise x : Sem Flow)).wrap K J gd lv) _ _
    rw [Sem.bind_eq_wrap, Sem.wrap_wrap]
    refine seg_wrap ?_
    rw [gc.over]
    exact wpAny_mono h (fun _ s' hx => exc n s₀ x s' hx) fun y s' hx => exc n s₀ y s' hx
  have ee : ∀ (n : Nat) (s₀ : Shared) (x : Value) (s' : Shared), X.xe x s' → Seg (model X.prog X.w) A R (GYz X S Z) n s₀ (.forLoop tg (.ref it) [.Expr (.Yield (some e) yp) ypos] [] X.env) (noteE X.env x)
      (.ret (fun r => ((match r with | .ok f => (.pure f : Sem Flow) | .error e => .raise e).onRaise (cameBack X.env)).wrap K J gd lv) none (gd false) (lv []) c p [] :: fs) s' := fun n s₀ x s' hx => by
    refine seg_wrap ?_
    rw [(gl _).over]
    refine wpAny_bind (wpAny_mono (hp x s' hx) (fun _ s'' hcb => wpAny_theTreesLotGoes ?_) fun y s'' hcb => ?_)
    · exact seg_leaf (.error x) (came hcb)
    · exact seg_leaf (.error y) (came hcb)
  have loop : ∀ (m i n : Nat) (ys : List V) (s₀ s : Shared) (σ : L2.St) (H : Hp), n + ys.length = sizeLine → GIz X S Z [] hip ys s₀ σ H s → tn i s.heap → (∀ b ∈ fp, H b = none) → W i m ys σ H →
      Seg (model X.prog X.w) A R (GYz X S Z) n s₀ (.forLoop tg (.ref it) [.Expr (.Yield (some e) yp) ypos] [] X.env) ((model X.prog X.w).den (.forLoop tg (.ref it) [.Expr (.Yield (some e) yp) ypos] [] X.env))
        (.ret (fun r => ((match r with | .ok f => (.pure f : Sem Flow) | .error e => .raise e).onRaise (cameBack X.env)).wrap K J gd lv) none (gd false) (lv []) c p [] :: fs) s := by
    intro m
    induction m using Nat.strongRecOn with
    | ind m ih =>
      intro i n ys s₀ s σ H hn hI st hno w
      refine seg_forLoop ?_
      rw [(gl _).over]
      rcases turn i m ys σ H w with ⟨stop, qd⟩ | ⟨go, N, hN, step⟩
      · refine thnF (T.done X rfl rfl rfl hc i _ s σ H (fun _ _ => False) hI.inv (stat hno) st stop) fun r s4 ⟨hr, I4⟩ => ?_
        subst hr
        show Seg _ A R _ n s₀ (.block [] X.env) (((execs [] X.env).onRaise (fun x => do noteFrame x X.env; theTreesLotGoes x)) >>= fun f => pure (.done f)) _ s4
        exact seg_leaf (.ok .next) (ok n ys s₀ s4 σ H hn ⟨hI.acc, I4, hI.oth⟩ qd)
      · refine thnF (T.item X rfl rfl rfl hc i _ s σ H (fun _ _ => False) hI.inv (stat hno) st go) fun r s4 ⟨u, hr, h4⟩ => ?_
        subst hr
        refine thnF h4 fun _ s5 ⟨x, H5, I5, r5, y5, st5, fr5⟩ => ?_
        have I5' := I5.pinned (stat fr5) (T.obj _ _ st5)
        refine wpAny_mono (hg.run _ s5 σ H5 x u _ I5' r5 (step x H5 y5)) (fun _ s6 ⟨σ6, H6, I6, hlt, q6⟩ => ?_) fun y s' hx => ee n s₀ y s' hx
        refine seg_execs_cons ?_
        have e0 : pinsAt Z s₀.heap ++ pinsAt [] hip ++ pinsAt fp s5.heap = pinsAt Z s₀.heap ++ pinsAt fp s5.heap := by
          show pinsAt Z s₀.heap ++ [] ++ _ = _
          rw [List.append_nil]
        rw [e0] at I6
        refine gz_yield (ip := fp) (hip := s5.heap) he (gl _) fZ hn hlt ⟨hI.acc, I6, hI.oth⟩ q6 (fun n' ys' s7 H7 hn' G7 n7 => ?_) (fun n' s7 y s' hx => ee n' s7 y s' hx) hco hii
        refine seg_execs_nil ?_
        obtain ⟨m', hm, w7⟩ := hN ys' σ6 H7 n7
        have pin7 : ∀ b ∈ fp, ∀ o, s5.heap.get? b = some o → s7.heap.get? b = some o ∧ H7 b = none := fun b hb o eo => by
          have z := G7.inv.pin (b, o) (List.mem_append_right _ (List.mem_append_right _ (mem_pinsAt hb eo)))
          exact ⟨z.1, z.2.1⟩
        refine seg_again rfl (ih m' hm (i + 1) n' ys' s7 s7 σ6 H7 hn' ⟨G7.acc, G7.inv.pins_of fun q hq => ?_, G7.oth⟩ (T.keep _ _ _ st5 fun b hb o eo => (pin7 b hb o eo).1) (fun b hb => ?_) w7)
        · rcases List.mem_append.mp hq with hq | hq
          · exact G7.inv.pin q (List.mem_append_right _ (List.mem_append_left _ hq))
          · exact absurd hq (by simp [pinsAt])
        · obtain ⟨o, eo, _⟩ := T.obj _ _ st5 b hb
          exact (pin7 b hb o eo).2
  exact loop m0 0 n ys s₀ s2 σ H2 hn ⟨hI.acc, I2, hI.oth⟩ st2 (fun b hb => (f2 b hb).1) w0
end Lb
set_option Elab.async false
set_option linter.all false
set_option maxRecDepth 100000
set_option maxHeartbeats 4000000
/-! a generator def by its body, with a consumer that has things of its own at Z -/
namespace Lb
open PySem PySem.Spec PyProof.Rows L2 RZ TL GenW
/-- a body's promise -/
structure GSz (X : Cx) (body : List Stmt) (t : (List V → L2.St → Hp → Prop) → List V → L2.St → Hp → Prop) : Prop where
  run : ∀ (S : Addr) (Z : List Addr) (hip : Heap) (A : Around) (R : GenEnd) (n : Nat) (ys : List V) (s₀ s : Shared) (c : Code) (fs : List Frame) (K : Flow → Sem PySem.Fin) (J : Value → Sem PySem.Fin) (gd : Bool → Bool) (lv : List Value → List Value) (σ : L2.St) (H : Hp) (D : List V → L2.St → Hp → Prop),
    GCz X S Z A c fs gd → n + ys.length = sizeLine → GIz X S Z [] hip ys s₀ σ H s → t D ys σ H →
    (∀ n ys s₀ s σ H, n + ys.length = sizeLine → GIz X S Z [] hip ys s₀ σ H s → D ys σ H → Seg (model X.prog X.w) A R (GYz X S Z) n s₀ c (K .next) fs s) → (∀ n s₀ e s, X.xe e s → Seg (model X.prog X.w) A R (GYz X S Z) n s₀ c (J e) fs s) →
    Seg (model X.prog X.w) A R (GYz X S Z) n s₀ c ((execs body X.env).wrap K J gd lv) fs s
theorem gsz_for {X : Cx} {tg iter e : Expr} {yp ypos pos : Pos} {wi : TI} {g : TG} {te : TE} (hp : PassesOwn (model X.prog X.w) X.A X.env X.xe) (hc : X.calm = true) (hi : PI X tg iter wi) (hg : PG X tg g) (he : PE X e te)
    (hs : ∀ x, foldedSetIterable iter X.env x = pure x := by intro _; rfl) (hco : X.env.scope.isCoroutine = false := by rfl) (hii : interactive X.env = false := by rfl) : GSz X [.For tg iter [.Expr (.Yield (some e) yp) ypos] [] pos] (tGFor wi g te) :=
  ⟨fun S Z hip A R n ys s₀ s c fs K J gd lv σ H D gc hn hI ht ok exc => seg_execs_cons (gz_for hp hc hi hg he gc hn hI ht (fun n ys s₀ s σ H hn hI q => seg_execs_nil (ok n ys s₀ s σ H hn hI q)) exc hs hco hii)⟩
def REz (P : Program) (w : World) (outer : List Env) (H : Hp) (s : Shared) (S : Addr) (Z : List Addr) (a : Addr) (g : Nat) (Q : List V → Hp → Prop) (E : XK) : GenEnd := fun n s₀ r s1 =>
  ((r = .ok (.ret .none) ∨ r = .ok .next) ∧ ∃ H' ys acc c, s1.os = s.os ∧ AllBare s1.gens ∧ Un (frs outer) [] H H' s.heap s1.heap ∧ HOk P w H' s1.heap ∧ (∀ z ∈ Z, H' z = none ∧ ∃ o, s₀.heap.get? z = some o ∧ s1.heap.get? z = some o) ∧ s1.heap.get? S = some (lstObj acc c) ∧ Vals ys acc.toList ∧ ys.length ≤ sizeLine ∧ Q ys H') ∨
  ∃ e, r = .error e ∧ CX P w outer H s E e s1 ∧ s1.heap.IsGen a g
def YIz (s : Shared) (S : Addr) (Z : List Addr) (a : Addr) (g : Nat) : Protocol := fun n s₀ v s1 kap =>
  s1.os = s.os ∧ AllBare s1.gens ∧ s1.heap.NoLimit ∧ s1.heap.IsGen a g ∧ (∀ z ∈ Z, ∃ o, s₀.heap.get? z = some o ∧ s1.heap.get? z = some o) ∧ (∃ (acc : Array Value) (c : Nat), s1.heap.get? S = some (lstObj acc c) ∧ n + 1 + acc.size = sizeLine) ∧ ∀ s', SlZ S Z v s1 s' → kap (.send .none) s'
/-- a generator that has not begun -/
def GMz (P : Program) (w : World) (k : Nat) (outer : List Env) (H : Hp) (s : Shared) (Q : List V → Hp → Prop) (E : XK) (u : Value) (s' : Shared) : Prop :=
  ∃ (a : Addr) (g : Nat) (c : Code), u = .ref a ∧ s.heap.objs.size ≤ a ∧ a < s'.heap.objs.size ∧ s'.heap.IsGen a g ∧ s'.gens[g]? = some (.fresh c) ∧ s'.os = s.os ∧ AllBare s'.gens ∧ s'.heap.NoLimit ∧ (∀ b o, s.heap.get? b = some o → s'.heap.get? b = some o) ∧
    ∀ (A : Around) (S : Addr) (Z : List Addr) (s2 : Shared), Room k A → A.frames = some outer → S ∈ Z → (∀ z ∈ Z, s'.heap.objs.size ≤ z ∧ ∃ o, s2.heap.get? z = some o ∧ ∀ v, o.data ≠ .cell v) → (∀ b o, s'.heap.get? b = some o → s2.heap.get? b = some o) →
      (∃ c, s2.heap.get? S = some (lstObj #[] c)) → s2.os = s.os → AllBare s2.gens →
      Seg (model P w) A (REz P w outer H s S Z a g Q E) (YIz s S Z a g) sizeLine s2 c ((model P w).den c) [] s2
/-- .. is one for a consumer that has but a list -/
theorem GMz.made {P : Program} {w : World} {k : Nat} {outer : List Env} {H : Hp} {s : Shared} {Q : List V → Hp → Prop} {E : XK} {u : Value} {s' : Shared} (h : GMz P w k outer H s Q E u s') : GMade P w k outer H s [] Q E u s' := by
  obtain ⟨a, g, c, eu, h1, h2, h3, h4, h5, h6, h7, h8, wake⟩ := h
  refine ⟨a, g, c, eu, h1, h2, h3, h4, h5, h6, h7, h8, fun A S s2 hr hf hS hk hl os ba => ?_⟩
  obtain ⟨cS, eS⟩ := hl
  refine seg_imp (fun n s₀ r s1 hR => ?_) (fun n s₀ v s1 kap kap' hkk hY => ?_) sizeLine (wake A S [S] s2 hr hf (List.mem_singleton.mpr rfl) (fun z hz => ?_) hk ⟨cS, eS⟩ os ba)
  · rcases hR with ⟨hr, H', ys, acc, c', q1, q2, q3, q4, q5, q6, q7, q8, q9⟩ | hR
    · exact .inl ⟨hr, H', ys, acc, c', q1, q2, q3, q4, (q5 S (List.mem_singleton.mpr rfl)).1, q6, q7, q8, q9⟩
    · exact .inr hR
  · obtain ⟨q1, q2, q3, q4, q5, ⟨acc, c', q6, q7⟩, q8⟩ := hY
    refine ⟨q1, q2, q3, q4, ⟨acc, c', q6, q7⟩, fun s3 sl => hkk _ _ (q8 s3 ⟨sl.os, sl.bare, fun b o hb e => sl.keep b o (fun z => hb (List.mem_singleton.mpr z)) e, sl.own, fun z hz => ?_⟩)⟩
    rw [List.mem_singleton.mp hz]
    obtain ⟨c2, e2⟩ := sl.own acc c' q6
    exact ⟨_, e2, fun v z => nomatch z⟩
  · rw [List.mem_singleton.mp hz]
    exact ⟨hS, _, eS, fun v z => nomatch z⟩
structure GFz (P : Program) (w : World) (K : PySem.W.Frag) (mg : Str → Option Value) (base : Heap) (k : Nat) (f : Addr) (fd : FuncData) (ps : List Str) (sp : SpG) : Prop where
  len : ∀ vs H Q E, sp vs H Q E → vs.length = ps.length
  run : ∀ (A : Around) (outer : List Env) (s : Shared) (H : Hp) (args : Args) (us : List Value) (vs : List V) (Q : List V → Hp → Prop) (E : XK), Room k A → Env0 P w K mg base A outer s H → BindsTo s fd args (ps.zip us) → Vals vs us → sp vs H Q E →
    codeAny (model P w) A (.call (.ref f) args) (fun r s' => match r with | .ok (.ret u) => GMz P w k outer H s Q E u s' | _ => False) s
theorem GFz.gfn {P : Program} {w : World} {K : PySem.W.Frag} {mg : Str → Option Value} {base : Heap} {k : Nat} {f : Addr} {fd : FuncData} {ps : List Str} {sp : SpG} (h : GFz P w K mg base k f fd ps sp) : GFn P w K mg base k f fd ps sp :=
  ⟨h.len, fun A outer s H args us vs Q E hr e0 hb r hsp => codeAny_mono (h.run A outer s H args us vs Q E hr e0 hb r hsp) fun r s' hq => by
    cases r with
    | error e => exact hq
    | ok fl =>
      cases fl with
      | ret u => exact GMz.made hq
      | next => exact hq
      | brk => exact hq
      | cont => exact hq⟩
theorem gfz_of {P : Program} {w : World} {K : PySem.W.Frag} {mg : Str → Option Value} {base : Heap} {k : Nat} {f : Addr} {name qual : Str} {params : Arguments} {body : List Stmt} {scope : Scope} {dV kV doc pm cdv ct oc : Value} {an od : Option Addr}
    {osl : Array (Option Value)} {N ps : List Str} {sp : SpG} (lk : K.lookup f = some ⟨oc, od, .func (PySem.W.fnOf name qual params body scope dV kV doc pm an cdv ct), osl⟩) (hcd : PySem.W.codeIn K cdv qual = true) (Sc : GScope N ps scope)
    (len : ∀ vs H Q E, sp vs H Q E → vs.length = ps.length)
    (hbody : ∀ (A : Around) (outer : List Env) (s : Shared) (H : Hp) (vs : List V) (Q : List V → Hp → Prop) (E : XK) (pn : List (Addr × Obj)), Room k (A.deeper (envOfC qual scope s.heap.objs.size f cdv)) → sp vs H Q E →
      ∃ t, GSz (gcxOf P w K mg base N qual scope f cdv A outer s H E pn) body t ∧ t (fun ys _ H' => Q ys H') [] (start N vs) H) :
    GFz P w K mg base (k + 1) f (PySem.W.fnOf name qual params body scope dV kV doc pm an cdv ct) ps sp := by
  refine ⟨len, fun A outer s H args us vs Q E hr e0 hb r hsp => ?_⟩
  have hl := len _ _ _ _ hsp
  have lim : s.heap.NoLimit := e0.mod.nolimit.keeps fun b o e => (e0.bs b o e).1
  have KX : K.In s.heap := e0.mod.kin.keeps fun b o e => (e0.bs b o e).1
  have hkind : ∀ y ∈ ps.zip us, scope.names.lookup y.1 = some .local ∨ (scope.names.lookup y.1 = some .cell ∧ ((cellsFrom (s.heap.objs.size + 1) scope.names []).lookup y.1).isSome = true) := fun ⟨m, v⟩ hy =>
    (Sc.par m (List.of_mem_zip hy).1).imp id fun q => ⟨q, PySem.W.cellsFrom_some _ _ _ (.inl q)⟩
  refine codeAny_call_generator hr.depth (KX _ _ lk) rfl Sc.co Sc.gen rfl (PySem.W.codeRec_of KX hcd) (hb _ _ _ _ ?_)
  refine wpAny_newFunctionEnv_cells Sc.kind hkind fun env he s1 x => ?_
  subst he
  have lim1 : s1.heap.NoLimit := lim.keeps x.toInCall.keep
  refine ⟨lim1, ?_⟩
  obtain ⟨h1, tk, es1, hk1⟩ := x.done
  have os1 : s1.os = s.os := by rw [es1]
  have gen1 : s1.gens = s.gens := by rw [es1]
  have lt1 : s.heap.objs.size < s1.heap.objs.size := x.toInCall.ns.lt
  have sz1 : s.heap.objs.size ≤ s1.heap.objs.size := Nat.le_of_lt lt1
  have kp1 : ∀ b o, s.heap.get? b = some o → s1.heap.get? b = some o := x.toInCall.keep
  have main : ∀ (go : Obj) (nm qn : Value) (tk2 : Nat), go.cls = .type "generator" → go.data = .fields #[.int s1.gens.size 0, nm, qn] → go.slots = #[] → (∀ h : Heap, (h.push go).get? h.objs.size = some go) →
      GMz P w (k + 1) outer H s Q E (.ref s1.heap.objs.size) { s1 with gens := s1.gens.push (.fresh (.func body (envOfC qual scope s.heap.objs.size f cdv))), toks := tk2, heap := s1.heap.push go } := by
    intro go nm qn tk2 hgc hgd0 hgs hgp
    have hgen : ∀ h : Heap, h.get? s1.heap.objs.size = some go → h.IsGen s1.heap.objs.size s1.gens.size := fun h e => ⟨go, nm, qn, e, hgc, hgd0, hgs⟩
    have hpushed : (s1.heap.push go).get? s1.heap.objs.size = some go := hgp _
    refine ⟨s1.heap.objs.size, s1.gens.size, _, rfl, sz1, ?_, hgen _ hpushed, Array.getElem?_push_size .., os1, AllBare.push (by rw [gen1]; exact e0.bare) rfl, lim1.keeps fun b o e => Heap.get?_push_of_some _ e, fun b o e => Heap.get?_push_of_some _ (kp1 b o e), ?_⟩
    · show _ < (s1.heap.push _).objs.size
      rw [Heap.size_push]
      exact Nat.lt_succ_self _
    intro Aw Sx Z s2 hrw hfr hSZ hZ hk2 hSo hos hba
    have e0w : Env0 P w K mg base Aw outer s H := ⟨hfr, e0.mod, e0.bs, e0.bsz, e0.funs, e0.frf, e0.hok, e0.bare⟩
    obtain ⟨t, ht, hq⟩ := hbody Aw outer s H vs Q E [(s1.heap.objs.size, go)] (hrw.deeper _) hsp
    have I1 : Inv (gcxOf P w K mg base N qual scope f cdv Aw outer s H E []) [] (start N vs) H s1 := inv_startG Sc hrw.hd e0w hl r x
    have I2 : Inv (gcxOf P w K mg base N qual scope f cdv Aw outer s H E []) [] (start N vs) H s2 := by
      have kp2 : ∀ b o, s1.heap.get? b = some o → s2.heap.get? b = some o := fun b o e => hk2 b o (Heap.get?_push_of_some _ e)
      exact I1.call' (ch := []) (hos.trans os1.symm) (Un.kept kp2) (I1.hok.kept kp2) hba fun b z => by simp at z
    have big : ∀ z ∈ Z, s1.heap.objs.size < z := fun z hz => by
      have q : (s1.heap.push go).objs.size ≤ z := (hZ z hz).1
      rw [Heap.size_push] at q
      exact q
    obtain ⟨cS, heS⟩ := hSo
    have hea : s2.heap.get? s1.heap.objs.size = some go := hk2 s1.heap.objs.size go hpushed
    have young : ∀ b, s1.heap.objs.size ≤ b → H b = none ∧ b ≠ s.heap.objs.size ∧ b ∉ frs outer ∧ s.heap.objs.size ≤ b ∧ ∀ y c, (cellsFrom (s.heap.objs.size + 1) scope.names []).lookup y = some c → c ≠ b := fun b hb => by
      refine ⟨I1.hok.fresh hb, Nat.ne_of_gt (Nat.lt_of_lt_of_le lt1 hb), I1.nofs hb, Nat.le_trans sz1 hb, fun y c e z => ?_⟩
      obtain ⟨v, ob, ho, _⟩ := I1.cell y c e
      have := Heap.lt_size ho
      rw [z] at this
      exact absurd (Nat.lt_of_lt_of_le this hb) (Nat.lt_irrefl _)
    have hG : GIz (gcxOf P w K mg base N qual scope f cdv Aw outer s H E [(s1.heap.objs.size, go)]) Sx Z [] s2.heap [] s2 (start N vs) H s2 := by
      refine ⟨⟨#[], cS, .nil, heS⟩, Inv.pinnedG I2 fun p hp => ?_, fun z hz => (hZ z hz).2⟩
      rcases List.mem_append.mp hp with z | z
      · rw [List.mem_singleton.mp z]
        obtain ⟨y1, y2, y3, _, _⟩ := young s1.heap.objs.size (Nat.le_refl _)
        exact ⟨hea, y1, y2, y3, fun v q => by rw [hgd0] at q; cases q⟩
      · rcases List.mem_append.mp z with z | z
        · obtain ⟨hz, e⟩ := of_pinsAt z
          obtain ⟨y1, y2, y3, _, _⟩ := young p.1 (Nat.le_of_lt (big _ hz))
          obtain ⟨o, eo, nc⟩ := (hZ _ hz).2
          rw [e] at eo
          cases eo
          exact ⟨e, y1, y2, y3, nc⟩
        · exact absurd z (by simp [pinsAt])
    have hfar : FarZ (gcxOf P w K mg base N qual scope f cdv Aw outer s H E [(s1.heap.objs.size, go)]) Z := fun z hz => by
      obtain ⟨_, y2, _, y4, y5⟩ := young z (Nat.le_of_lt (big z hz))
      refine ⟨y4, y2, y5, fun p hp => ?_⟩
      rw [List.mem_singleton.mp hp]
      exact Nat.ne_of_lt (big z hz)
    have facts : ∀ {ip : List Addr} {hip : Heap} {ys : List V} {s₀ s' : Shared} {σ' : L2.St} {H' : Hp}, GIz (gcxOf P w K mg base N qual scope f cdv Aw outer s H E [(s1.heap.objs.size, go)]) Sx Z ip hip ys s₀ σ' H' s' →
        s'.heap.IsGen s1.heap.objs.size s1.gens.size ∧ (∀ z ∈ Z, H' z = none ∧ ∃ o, s₀.heap.get? z = some o ∧ s'.heap.get? z = some o) ∧ ∃ acc c, Vals ys acc.toList ∧ s'.heap.get? Sx = some (lstObj acc c) := fun {ip hip ys s₀ s' σ' H'} hI => by
      refine ⟨hgen _ (hI.inv.pin (s1.heap.objs.size, go) (List.mem_append_left _ (List.mem_singleton.mpr rfl))).1, fun z hz => ?_, ?_⟩
      · obtain ⟨o, e1, e2, e3, _⟩ := hI.pin hz
        exact ⟨e3, o, e1, e2⟩
      · obtain ⟨acc, c, rv, eS⟩ := hI.acc
        obtain ⟨o, e1, e2, _⟩ := hI.pin hSZ
        rw [eS] at e1
        cases e1
        exact ⟨acc, c, rv, e2⟩
    refine seg_func ?_
    refine seg_imp (R := fun n s₀ r s1' => (∃ ys ip hip σ' H', r = .ok (.ret .none) ∧ n + ys.length = sizeLine ∧ GIz (gcxOf P w K mg base N qual scope f cdv Aw outer s H E [(s1.heap.objs.size, go)]) Sx Z ip hip ys s₀ σ' H' s1' ∧ Q ys H') ∨
        ∃ e, r = .error e ∧ CX P w outer H s E e s1' ∧ ∀ p ∈ [(s1.heap.objs.size, go)], s1'.heap.get? p.1 = some p.2)
      (Y := GYz (gcxOf P w K mg base N qual scope f cdv Aw outer s H E [(s1.heap.objs.size, go)]) Sx Z) (fun n s₀ r s1' hR => ?_) (fun n s₀ v s1' kap kap' hkk hY => ?_) sizeLine ?_
    · rcases hR with ⟨ys, ip, hip, σ', H', rfl, hn, hI, hQ⟩ | ⟨e, rfl, q1, q2⟩
      · obtain ⟨_, f2, acc, c, rv, eS⟩ := facts hI
        exact .inl ⟨.inl rfl, H', ys, acc, c, hI.inv.os, hI.inv.bare, hI.inv.base, hI.inv.hok, f2, eS, rv, by omega, hQ⟩
      · exact .inr ⟨e, rfl, q1, hgen _ (q2 (s1.heap.objs.size, go) (List.mem_singleton.mpr rfl))⟩
    · obtain ⟨ys, xx, ip, hip, σ', H', hn, _, hI, h3⟩ := hY
      obtain ⟨f1, f2, acc, c, rv, eS⟩ := facts hI
      have hsz : acc.size = ys.length := by
        have e1 := rv.length
        have e2 : acc.toList.length = acc.size := by simp
        omega
      exact ⟨hI.inv.os, hI.inv.bare, hI.inv.nolimit, f1, fun z hz => (f2 z hz).2, ⟨acc, c, eS, by rw [hsz]; exact hn⟩, fun s' z => hkk _ _ (h3 s' z)⟩
    · refine ht.run Sx Z s2.heap Aw _ sizeLine [] s2 s2 _ [] _ _ id id (start N vs) H _ ⟨hSZ, hfar, over_func, rfl, rfl, rfl⟩ (Nat.add_zero _) hG hq (fun n ys s₀ s' σ' H' hn hI hQ => ?_) (fun n s₀ e s' hx => ?_)
      · exact seg_end (.ok (.ret .none)) (.inl ⟨ys, [], s2.heap, σ', H', rfl, hn, hI, hQ⟩)
      · refine seg_wrap ?_
        rw [over_func]
        refine wpAny_mono (show wpAny (model P w) (Aw.deeper (envOfC qual scope s.heap.objs.size f cdv)) (leaving (envOfC qual scope s.heap.objs.size f cdv) e) (fun _ s'' => CX P w outer H s E e s'' ∧ ∀ p ∈ [(s1.heap.objs.size, go)], s''.heap.get? p.1 = some p.2) (fun _ _ => False) s' from hx) (fun _ s'' q => ?_) fun _ s'' q => q.elim
        exact seg_end (.error e) (.inr ⟨e, rfl, q⟩)
  exact main _ _ _ _ rfl rfl rfl fun h => Heap.get?_push_size _ rfl
end Lb
set_option Elab.async false
set_option linter.all false
set_option maxRecDepth 100000
set_option maxHeartbeats 4000000
/-! [x for x in a generator] -/
namespace Lb
open PySem PySem.Spec PyProof.Rows L2 RZ TL GenW
abbrev noE : XK := fun _ _ _ => False
/-- an expression whose value is a generator that has not begun and raises nothing -/
structure PGz (X : Cx) (k : Nat) (e : Expr) (tg : TGen) : Prop where
  run : ∀ (pins : List (Addr × Obj)) (s : Shared) (σ : L2.St) (H : Hp) (cont : List V → Hp → Prop), Inv X pins σ H s → tg σ H cont → wpAny (model X.prog X.w) X.A (eval e X.env)
    (fun u s' => ∃ H1 sc, Inv X pins σ H1 sc ∧ GMz X.prog X.w k X.stack H1 sc cont noE u s') X.xe s
section
variable {X : Cx} {k : Nat} {f : Addr} {fd : FuncData} {ps : List Str} {sp : SpG} {dvs : List V} {ds : List Value} {x : Str} {p pos pos' : Pos}
theorem pgz_call {e : Expr} {es : List Expr} {t : TA} (F : GFz X.prog X.w X.K X.mg X.base k f fd ps sp) (hr : Room k X.A) (hg : Gl X x) (hm : X.mg x = some (.ref f)) (hk : PySem.W.keepIn X.K (.ref f) = true) (hb : Binds X.K fd ps ds) (hd : Vals dvs ds)
    (ha : PA X (e :: es) t) (hdb : (x == ("__debug__" : Str)) = false := by decide) (he : starEach (e :: es) X.env = (false, eval e X.env) :: starEach es X.env := by rfl) (hpl : (backTo pos' (starEach es X.env)).any (·.1) = false := by rfl) :
    PGz X k (.Call (.Name x p) (e :: es) [] pos') (tCallG sp dvs noE t) := by
  refine ⟨fun pins s σ H cont I h => ?_⟩
  refine wpAny_Call_Name_kw (ld_glob I hg hm ?_ hdb)
  refine PySem.W.callWith_K (h₀ := X.base) I.ok.mod.kin hk (thn (ha.run pos' pins s σ H _ I h) fun us s1 ⟨vs, H1, I1, r, q⟩ => ⟨I1.kIn, ?_⟩) he hpl
  have r2 : Vals (vs ++ dvs) (us ++ ds) := r.append hd
  have hl2 : (us ++ ds).length = ps.length := by rw [← r2.length]; exact F.len _ _ _ _ q
  refine wpAny_call (codeAny_mono (F.run X.A X.stack s1 H1 ⟨us, []⟩ (us ++ ds) (vs ++ dvs) cont noE hr I1.env0 (hb s1 us I1.kIn hl2) r2 q) fun r s' hq => ?_)
  cases r with
  | error e => exact False.elim hq
  | ok fl =>
    cases fl with
    | ret u => exact ⟨H1, s1, I1, hq⟩
    | next => exact False.elim hq
    | brk => exact False.elim hq
    | cont => exact False.elim hq
theorem PGz.gen {e : Expr} {tg : TGen} (h : PGz X k e tg) : PGen X k e tg noE :=
  ⟨fun pins s σ H cont I q => thn (h.run pins s σ H cont I q) fun u s' ⟨H1, sc, I1, g⟩ => ⟨H1, sc, [], I1, .nil, g.made⟩⟩
end
section
variable {X : Cx}
theorem pe_lcGen {k : Nat} {x : Str} {p1 p2 : Pos} {iter : Expr} {scope : Scope} {own : List (PySem.Str × Nat)} {pos : Pos} {tg : TGen} (hc : X.calm = true) (hN : X.N.Nodup) (hi : PGz X k iter tg) (ok : BlkOk X.N X.env.scope scope own) (hr : Room (k + 3) X.A)
    (hl : ∀ cl C, (compEnvC scope cl C X.env).scope.names.lookup x = some .local) (hk : ∀ cl C, (compEnvC scope cl C X.env).scope.kind = .function) (hdb : (x == ("__debug__" : Str)) = false := by decide) (hs : ∀ x, foldedSetIterable iter X.env x = pure x := by intro _; rfl) :
    PE X (.ListComp (.Name x p1) [⟨.Name x p2, iter, [], 0⟩] scope pos) (tListG tg) := by
  refine ⟨fun pins s σ H Q I h => ?_⟩
  rw [eval_ListComp]
  have hfree : ∀ y ∈ scope.names, y.2 = .free → ∃ c, X.env.cells.lookup y.1 = some c := fun y hy e => by
    rcases ok.free y hy e with k | k
    · exact I.ok.has _ (.inl k)
    · exact I.ok.has _ (.inr k)
  refine wpAny_comprehension_free (use := none) rfl hs (closure_ok hfree) ok.kind (fun y hy e => by rw [ok.uniq y hy, e]) (thn (hi.run pins s σ H _ I h) fun u s1 ⟨H1, sc, I1, G⟩ => ?_)
  obtain ⟨a, g, c, rfl, ha1, ha2, hg, hgs, os1, ba1, nl1, kp1, wake⟩ := G
  refine wpAny_pyIter_gen hg ?_
  refine wpAny_newObj_type (newEnv_comp ?_) (by show 0 ≤ sizeLine; decide)
  generalize hD : s1.heap.objs.size = D at ha2 wake ⊢
  generalize hs3 : ({ s1 with heap := s1.heap.push { cls := .type "list", data := .seq ([] : List Value).toArray } } : Shared) = s3
  show codeAny _ _ (.compStart (.ListComp (.Name x p1) [⟨.Name x p2, iter, [], 0⟩] scope pos) 0 (.ref a) (.ref D) (compEnvC scope (cellsFrom (s3.heap.objs.size + 1) scope.names (cloFrom X.env.cells scope.names [])) s3.heap.objs.size X.env)) (compPost (model X.prog X.w) X.A X.xe none (EP X pins σ Q) (.ref D) s3.heap.objs.size) { s3 with heap := pushCells (s3.heap.push { cls := .type "dict", data := .dict #[] }) scope.names }
  generalize hC : s3.heap.objs.size = C
  have eD3 : s3.heap.get? D = some (lstObj #[] 0) := by
    rw [← hs3, ← hD]
    exact Heap.get?_push_size _ rfl
  have k13 : ∀ b o, s1.heap.get? b = some o → s3.heap.get? b = some o := fun b o e => by
    rw [← hs3]
    exact Heap.get?_push_of_some _ e
  have hDC : D < C := by
    rw [← hC]
    exact Heap.lt_size eD3
  have I3 : Inv X pins σ H1 s3 := by
    have k03 : ∀ b o, sc.heap.get? b = some o → s3.heap.get? b = some o := fun b o e => k13 b o (kp1 b o e)
    rw [← hs3] at k03 ⊢
    exact I1.call' (ch := []) os1 (Un.kept k03) (I1.hok.kept k03) ba1 fun b z => by simp at z
  have I4 := block_start (fp := []) I3 ok hN fun b hb => absurd hb List.not_mem_nil
  rw [hC] at I4
  have hlx := hl (cellsFrom (C + 1) scope.names (cloFrom X.env.cells scope.names [])) C
  have hkx := hk (cellsFrom (C + 1) scope.names (cloFrom X.env.cells scope.names [])) C
  have cL : (compEnvC scope (cellsFrom (C + 1) scope.names (cloFrom X.env.cells scope.names [])) C X.env).locals = C := rfl
  generalize compEnvC scope (cellsFrom (C + 1) scope.names (cloFrom X.env.cells scope.names [])) C X.env = ce at I4 hlx hkx cL ⊢
  generalize hs4 : ({ s3 with heap := pushCells (s3.heap.push { cls := .type "dict", data := .dict #[] }) scope.names } : Shared) = s4 at I4 ⊢
  have k34 : ∀ b o, s3.heap.get? b = some o → s4.heap.get? b = some o := fun b o e => by
    rw [← hs4]
    exact pushCells_keeps _ _ _ _ (Heap.get?_push_of_some _ e)
  obtain ⟨m0, ns0, _⟩ := I4.loc
  have ns0 : s4.heap.Ns ce.locals m0 := ns0
  rw [cL] at ns0
  have dictC : ∀ {h : Heap} {m : Str → Option Value}, h.Ns C m → ∃ o, h.get? C = some o ∧ ∀ v, o.data ≠ .cell v := fun {h m} hn => by
    obtain ⟨o, es, ep, e, d, _⟩ := hn
    exact ⟨o, e, fun v z => by rw [d] at z; cases z⟩
  have hh : X.A.handled = none := I.ok.hd hc
  have hroom : X.A.depth < recursionLimit := by
    have := hr.dp
    show X.A.depth < _
    omega
  have g4 : s4.gens = s1.gens := by rw [← hs4, ← hs3]
  have o4 : s4.os = s1.os := by rw [← hs4, ← hs3]
  have cSt : cStatics < D := by
    rw [← hD]
    obtain ⟨_, hn, _⟩ := nl1
    exact hn.lt
  have aC : a ≠ C := Nat.ne_of_lt (Nat.lt_trans ha2 hDC)
  have aD : a ≠ D := Nat.ne_of_lt ha2
  have sD : cStatics ≠ D := Nat.ne_of_lt cSt
  have sC : cStatics ≠ C := Nat.ne_of_lt (Nat.lt_trans cSt hDC)
  have start : Seg (model X.prog X.w) X.A.in1 (REz X.prog X.w X.stack H1 sc D [D, C] a g (fun out H2 => ∀ (p : Addr), H2 p = none → Q (V.ref p) (upd H2 p (HO.lst out))) noE) (YIz sc D [D, C] a g) sizeLine (s4.setGen g .running) c ((model X.prog X.w).den c) [] (s4.setGen g .running) := by
    refine wake X.A.in1 D [D, C] (s4.setGen g .running) ⟨hr.hd, ?_, ?_⟩ I.ok.frames List.mem_cons_self (fun z hz => ?_) (fun b o e => k34 b o (k13 b o e)) ⟨0, k34 _ _ eD3⟩ (o4.trans os1) (allBare_setGen (by rw [g4]; exact ba1) rfl)
    · have := hr.dp
      show X.A.depth + 3 * k + 5 < _
      omega
    · have := hr.un
      show X.A.units + 1 + 16 * k + 200 < _
      omega
    · rcases List.mem_cons.mp hz with rfl | hz
      · exact ⟨Nat.le_refl _, _, k34 _ _ eD3, fun v q => nomatch q⟩
      · rw [List.mem_singleton.mp hz]
        obtain ⟨o, e, nc⟩ := dictC ns0
        exact ⟨Nat.le_of_lt hDC, o, e, nc⟩
  have loop : codeAny (model X.prog X.w) X.A (.compLoop (.ListComp (.Name x p1) [⟨.Name x p2, iter, [], 0⟩] scope pos) 0 (.ref a) (.ref D) ce) (compPost (model X.prog X.w) X.A X.xe none (EP X pins σ Q) (.ref D) C) s4 := by
    refine compLoop_any (fun n s' => ∃ acc cc m gs, s'.heap.IsGen a g ∧ s'.heap.NoLimit ∧ s'.heap.get? D = some (lstObj acc cc) ∧ s'.heap.Ns C m ∧ s'.gens[g]? = some gs ∧
        gs.Goes (model X.prog X.w) X.A.in1 (REz X.prog X.w X.stack H1 sc D [D, C] a g (fun out H2 => ∀ (p : Addr), H2 p = none → Q (V.ref p) (upd H2 p (HO.lst out))) noE) (YIz sc D [D, C] a g) n (.send .none) (s'.setGen g .running)) ?_ sizeLine
      ⟨#[], 0, m0, .fresh c, hg.keeps fun b o e => k34 b o (k13 b o e), nl1.keeps fun b o e => k34 b o (k13 b o e), k34 _ _ eD3, ns0, by rw [g4]; exact hgs, rfl, start⟩
    rintro n s5 ⟨acc, cc, m, gs, hg5, nl5, eD5, ns5, hgs5, go5⟩
    have hgl : g < s5.gens.size := (Array.getElem?_eq_some_iff.mp hgs5).1
    refine wpAny_gsz (n := g + 1) hgl (next_genG (F := fun n s₀ s1 => ∃ H' ys acc c, s1.os = sc.os ∧ AllBare s1.gens ∧ Un (frs X.stack) [] H1 H' sc.heap s1.heap ∧ HOk X.prog X.w H' s1.heap ∧ (∀ z ∈ [D, C], H' z = none ∧ ∃ o, s₀.heap.get? z = some o ∧ s1.heap.get? z = some o) ∧ s1.heap.get? D = some (lstObj acc c) ∧ Vals ys acc.toList ∧ ys.length ≤ sizeLine ∧ ∀ (p : Addr), H' p = none → Q (V.ref p) (upd H' p (HO.lst ys)))
      (Er := fun e s1 => CX X.prog X.w X.stack H1 sc noE e s1 ∧ s1.heap.IsGen a g) hh nl5 hroom hg5 hgs5 go5 (fun v s₁ gs' hbare hv => ?_) (fun s₁ hp h' hk' => ?_) fun e s₁ he => ?_)
    · intro hsz
      obtain ⟨os6, hb6, nl6, hg6, z6, ⟨acc6, c6, eD6, sz6⟩, hkap⟩ := hv
      have eC6 : ∃ o, s5.heap.get? C = some o ∧ s₁.heap.get? C = some o := z6 C (List.mem_cons_of_mem _ (List.mem_singleton.mpr rfl))
      have ns6 : s₁.heap.Ns C m := by
        obtain ⟨o, e1, e2⟩ := eC6
        exact ns5.at' fun o' e => by
          rw [e1] at e
          cases e
          exact e2
      have hsz1 : g < s₁.gens.size := by
        have q : (s₁.setGen g gs').gens.size = s₁.gens.size := setGen_size _ _ _
        have hsz' : g + 1 ≤ (s₁.setGen g gs').gens.size := hsz
        omega
      show wpAny (model X.prog X.w) X.A (letOwnedTupleGo (.Name x p2) (.ref a) v) _ _ _
      have go : ∀ {Q' : Unit → Shared → Prop} {E' : Value → Shared → Prop} {s' : Shared}, Q' () s' → wpAny (model X.prog X.w) X.A (letOwnedTupleGo (.Name x p2) (.ref a) v) Q' E' s' := fun {Q' E' s'} q => by
        unfold letOwnedTupleGo
        cases v <;> exact wpAny_pure q
      refine go ?_
      refine wpAny_assign_Name (wpAny_storeName_local (m := m) hlx (by rw [cL]; exact ns6) (fun h7 ns7 sb7 => ?_) (by rw [hkx]; rfl))
      rw [cL] at ns7 sb7
      refine wpAny_tests_nil ?_
      simp only [if_true]
      refine wpAny_Name (wpAny_loadName_local (m := fun y => if y = x then some v else m y) hkx hlx (by rw [cL]; exact ns7) (if_pos rfl) ?_) hdb
      have eD7 : h7.get? D = some (lstObj acc6 c6) := (sb7.2 D (Nat.ne_of_lt hDC)).trans eD6
      refine wpAny_list_append_plain (items := acc6) ⟨c6, eD7⟩ (fun h8 pl8 sb8 => ?_) (by omega)
      obtain ⟨c8, eD8⟩ := pl8
      have keep : ∀ b o, b ≠ D → b ≠ C → s₁.heap.get? b = some o → h8.get? b = some o := fun b o n1 n2 e => (sb8.2 b n1).trans ((sb7.2 b n2).trans e)
      have ns8 : h8.Ns C (fun y => if y = x then some v else m y) := ns7.at' fun o e => (sb8.2 C (Nat.ne_of_gt hDC)).trans e
      cases n with
      | zero =>
        exfalso
        refine hkap { s₁ with heap := h8 } ⟨rfl, hb6, fun b o hb e => keep b o (fun z => hb (by rw [z]; exact List.mem_cons_self)) (fun z => hb (by rw [z]; exact List.mem_cons_of_mem _ (List.mem_singleton.mpr rfl))) e, fun acc' c' e => ?_, fun z hz => ?_⟩
        · rw [eD6] at e
          cases e
          exact ⟨c8, eD8⟩
        · rcases List.mem_cons.mp hz with rfl | hz
          · exact ⟨_, eD8, fun v q => nomatch q⟩
          · rw [List.mem_singleton.mp hz]
            exact dictC ns8
      | succ n' =>
        refine ⟨n', Nat.lt_succ_self n', acc6.push v, c8, _, gs', ?_, ?_, eD8, ns8, setGen_at hsz1, ?_⟩
        · obtain ⟨o, nm, qn, ho, r⟩ := hg6
          exact ⟨o, nm, qn, keep a o aD aC ho, r⟩
        · obtain ⟨mc, hns, hnn⟩ := nl6
          exact ⟨mc, hns.at' fun o e => keep _ o sD sC e, hnn⟩
        · refine hkap _ ⟨rfl, allBare_setGen (s := s₁.setGen g gs') (allBare_setGen hb6 hbare) rfl, fun b o hb e => keep b o (fun z => hb (by rw [z]; exact List.mem_cons_self)) (fun z => hb (by rw [z]; exact List.mem_cons_of_mem _ (List.mem_singleton.mpr rfl))) e, fun acc' c' e => ?_, fun z hz => ?_⟩
          · rw [eD6] at e
            cases e
            exact ⟨c8, eD8⟩
          · rcases List.mem_cons.mp hz with rfl | hz
            · exact ⟨_, eD8, fun v q => nomatch q⟩
            · rw [List.mem_singleton.mp hz]
              exact dictC ns8
    · intro hsz
      obtain ⟨H', ys, acc', c', os6, hb6, un6, hok6, z6, eD6, rv6, le6, hQ⟩ := hp
      obtain ⟨nC, oC, eC5, eC6⟩ := z6 C (List.mem_cons_of_mem _ (List.mem_singleton.mpr rfl))
      have nD := (z6 D List.mem_cons_self).1
      have ns6 : h'.Ns C m := ns5.at' fun o' e => by
        rw [show s5.heap.get? C = some oC from eC5] at e
        cases e
        exact hk' _ _ eC6
      have J : Inv X pins σ (upd H' D (.lst ys)) { s₁.setGen g .finished with heap := h' } :=
        I1.drained (ex := []) (by have := Nat.le_of_lt ha2; omega) le6 (hk' _ _ eD6) rv6 .nil os6 (allBare_setGen hb6 rfl) (un6.trans (Un.kept hk')) (hok6.kept hk') nD
      have nC2 : (upd H' D (.lst ys)) C = none := by
        rw [upd_ne (Nat.ne_of_gt hDC)]
        exact nC
      obtain ⟨f0, f1, _, f4, f5, f6⟩ := I3.fpOk (Nat.le_of_eq hC) nC2
      exact ⟨m, ns6, fun h'' sb => ⟨.ref D, _, J.turned (t' := s₁.toks) (fun b o hb e => (sb.2 b hb).trans e) f0 f1 f4 f5 f6, rfl, hQ D nD⟩⟩
    · obtain ⟨hcx, hg6⟩ := he
      obtain ⟨_, _, _, _, _, _, _, _, _, _, _, _, _, hW⟩ := hcx
  exact codeAny_compStart_list loop (wpAny_pyIter_gen (hg.keeps fun b o e => k34 b o (k13 b o e)) loop)
end
end Lb
set_option Elab.async false
set_option linter.all false
set_option maxRecDepth 100000
set_option maxHeartbeats 4000000
/-! generator defs by name; each_near's promise -/
namespace Lb
open PySem PySem.Spec PyProof.Rows L2 RZ TL GenW
structure OwnZ (P : Program) (w : World) (K : PySem.W.Frag) (mg : Str → Option Value) (base : Heap) (x : Str) (k : Nat) (ps : List Str) (sp : SpG) : Prop where
  ex : ∃ (f : Addr) (fd : FuncData), GFz P w K mg base k f fd ps sp ∧ mg x = some (.ref f) ∧ PySem.W.keepIn K (.ref f) = true ∧ Binds K fd ps []
section
variable {P : Program} {w : World} {K : PySem.W.Frag} {mg : Str → Option Value} {base : Heap}
theorem ownZ_of {x : Str} {st : Stmt} {N ps : List Str} {k : Nat} {sp : SpG} (D : Df K mg x st) (S : GScope N ps (defScope st))
    (hb : ∀ (kV doc pm : Value) (an : Option Addr) (cdv ct : Value) (us : List Value), us.length = ps.length → bindArgs (PySem.W.fnOf x x (defArgs st) (defBody st) (defScope st) .none kV doc pm an cdv ct) ⟨us, []⟩ = pure (ps.zip us))
    (len : ∀ vs H Q E, sp vs H Q E → vs.length = ps.length)
    (hbody : ∀ (f : Addr) (cdv : Value) (A : Around) (outer : List Env) (s : Shared) (H : Hp) (vs : List V) (Q : List V → Hp → Prop) (E : XK) (pn : List (Addr × Obj)), Room k (A.deeper (envOfC x (defScope st) s.heap.objs.size f cdv)) → sp vs H Q E →
      ∃ t, GSz (gcxOf P w K mg base N x (defScope st) f cdv A outer s H E pn) (defBody st) t ∧ t (fun ys _ H' => Q ys H') [] (start N vs) H) : OwnZ P w K mg base x (k + 1) ps sp := by
  obtain ⟨f, fd, F, m⟩ := D.ex
  have b := F.binds hb
  obtain ⟨oc, od, kV, doc, pm, an, cdv, ct, osl, rfl, lk, hcd⟩ := F.ex
  exact ⟨f, _, gfz_of lk hcd S len (hbody f cdv), m, F.kp, b⟩
end
section
variable {X : Cx} {k : Nat} {ps : List Str} {sp : SpG} {x : Str} {p pos : Pos} {e : Expr} {es : List Expr} {t : TA}
theorem pg_own (O : OwnZ X.prog X.w X.K X.mg X.base x k ps sp) (hr : Room k X.A) (hg : Gl X x) (ha : PA X (e :: es) t) (hdb : (x == ("__debug__" : Str)) = false := by decide)
    (he : starEach (e :: es) X.env = (false, eval e X.env) :: starEach es X.env := by rfl) (hpl : (backTo pos (starEach es X.env)).any (·.1) = false := by rfl) : PGz X k (.Call (.Name x p) (e :: es) [] pos) (tCallG sp [] noE t) := by
  obtain ⟨f, fd, F, m, kp, b⟩ := O.ex
  exact pgz_call F hr hg m kp b .nil ha hdb he hpl
/-- the value, if it can change, is locked from now on -/
def tFrz (te : TE) : TE := fun σ H Q => te σ H fun x H1 => ∃ d u, x = .ref d ∧ H1 d = some u ∧ Mut (some u) ∧ ∀ od, Q x (upd H1 d (.frz od u))
theorem pe_frz {te : TE} (h : PE X e te) : PE X e (tFrz te) := by
  refine ⟨fun pins s σ H Q I q => thn (h.run pins s σ H _ I q) fun v s1 ⟨x, H1, I1, r, d, u, ex, hd, mu, q1⟩ => ?_⟩
  obtain ⟨od, I2⟩ := I1.lock hd mu
  exact ⟨x, _, I2, r, q1 od⟩
end
abbrev nearD (j : Nat) (y : List Int) : PyData := .tuple [.int (j : Int), bagD y]
def nearL (lay : Nat → List (List Int)) (n : Nat) : List PyData := (List.range n).flatMap fun j => (lay j).map fun y => nearD j y
def spEach : SpG := fun vs H Q _ => ∃ (mv sv : V) (g : Nat) (ts : List Trd) (x : List Int) (d : Nat), vs = [mv, sv, .int (d : Int)] ∧ StdM H mv sv g ts x ∧ Few ts.length d ∧
  ∀ (H' : Hp) (lay : Nat → List (List Int)) (us : List V), Same H H' → Lays ts x d lay → Dats (fun _ => True) H' us (nearL lay (d + 1)) → Q us H'
theorem near_at {lay : Nat → List (List Int)} {n i : Nat} {k : List L2.Key} {v : V} (h : (entL lay n)[i]? = some (k, v)) : ∃ j y, k = y.map Sum.inl ∧ v = .int ((j : Nat) : Int) ∧ (nearL lay n)[i]? = some (nearD j y) := by
  have e : nearL lay n = (entL lay n).map fun p => .tuple [match p.2 with | .int z => .int z | _ => .none, .tuple (p.1.map fun c => match c with | .inl z => PyData.int z | .inr _ => .none)] := by
    unfold nearL entL
    rw [List.map_flatMap]
    congr 1
    funext j
    rw [List.map_map]
    refine List.map_congr_left fun y _ => ?_
    show nearD j y = PyData.tuple [PyData.int (j : Int), .tuple ((y.map Sum.inl).map _)]
    rw [List.map_map]
    rfl
  obtain ⟨j, y, _, _, ep⟩ := mem_entL.mp (List.mem_of_getElem? h)
  cases ep
  refine ⟨j, y, rfl, rfl, ?_⟩
  rw [e, List.getElem?_map, h]
  show some _ = some _
  congr 1
  show PyData.tuple [PyData.int (j : Int), .tuple ((y.map Sum.inl).map _)] = nearD j y
  rw [List.map_map]
  rfl
theorem near_len (lay : Nat → List (List Int)) (n : Nat) : (nearL lay n).length = (entL lay n).length := by
  unfold nearL entL
  rw [List.length_flatMap, List.length_flatMap]
  congr 1
  refine List.map_congr_left fun j _ => ?_
  rw [List.length_map, List.length_map]
end Lb
set_option Elab.async false
set_option linter.all false
set_option maxRecDepth 100000
set_option maxHeartbeats 4000000
/-! rings: the law's own layers -/
namespace Lb
open PySem PySem.Spec PyProof.Rows L2 RZ TL
theorem lt_anti {a b : List Int} (h : ¬ b < a) (k : ¬ a < b) : a = b := List.le_antisymm (show a ≤ b from h) (show b ≤ a from k)
theorem srt_uniq {l m : List (List Int)} (p : l.Perm m) (hl : l.Pairwise fun a b => ¬ b < a) (hm : m.Pairwise fun a b => ¬ b < a) : l = m :=
  List.Perm.eq_of_pairwise (fun a b _ _ h k => lt_anti h k) hl hm p
theorem lays_uniq {ts : List Trd} {x : List Int} {d : Nat} {lay lay' : Nat → List (List Int)} (l : Lays ts x d lay) (l' : Lays ts x d lay') {j : Nat} (hj : j ≤ d) : lay j = lay' j :=
  srt_uniq ((List.perm_ext_iff_of_nodup (l.nd j hj) (l'.nd j hj)).mpr fun y => (l.mem j hj y).trans (l'.mem j hj y).symm) (l.srt j hj) (l'.srt j hj)
theorem nearL_congr {lay lay' : Nat → List (List Int)} {n : Nat} (h : ∀ j, j < n → lay j = lay' j) : nearL lay n = nearL lay' n := by
  unfold nearL
  have : ∀ l : List Nat, (∀ j ∈ l, j < n) → (l.flatMap fun j => (lay j).map fun y => nearD j y) = l.flatMap fun j => (lay' j).map fun y => nearD j y := by
    intro l
    induction l with
    | nil => exact fun _ => rfl
    | cons j l ih =>
      intro hl
      rw [List.flatMap_cons, List.flatMap_cons, ih fun i hi => hl i (List.mem_cons_of_mem _ hi), h j (hl j List.mem_cons_self)]
  exact this _ fun j hj => List.mem_range.mp hj
theorem nearL_succ (lay : Nat → List (List Int)) (n : Nat) : nearL lay (n + 1) = nearL lay n ++ (lay n).map fun y => nearD n y := by
  unfold nearL
  rw [List.range_succ, List.flatMap_append]
  congr 1
  rw [List.flatMap_cons, List.flatMap_nil, List.append_nil]
theorem rch_bd {g m : Nat} {ts : List Trd} (mok : MktOk g ts) {x : List Int} (hx : StkB g m x) : ∀ {n : Nat} {y : List Int}, Wk.Rch (around ts) n x y → StkB g (m + 3 * n) y
  | 0, y, h => by
    obtain rfl : y = x := h
    exact hx
  | n + 1, y, ⟨z, hz, hy⟩ => (around_bd mok (rch_bd mok hx hz) hy).mono (by omega)
theorem bag_ok4 {g m : Nat} {y : List Int} (h : StkB g m y) (hm : m ≤ Gr.BB) (hg : g ≤ 4) : Ok 540 1 (bagD y) := by
  have : ∀ z : List Int, (∀ u ∈ z, u.natAbs ≤ Gr.BB) → Oks (132 * z.length) 0 (z.map PyData.int) := by
    intro z
    induction z with
    | nil => exact fun _ => ⟨fun d hd => absurd hd List.not_mem_nil, Nat.le_refl _, fun d hd => absurd hd List.not_mem_nil⟩
    | cons u z ih =>
      intro hz
      exact ((Oks.one (int_okB (hz u List.mem_cons_self))).append (ih fun v hv => hz v (List.mem_cons_of_mem _ hv))).mono (by rw [List.length_cons]; omega) (Nat.le_refl _)
  have hl := h.len
  exact (this y fun u hu => by have := h.amt u hu; omega).tuple.mono (by omega) (Nat.le_refl _)
theorem near_ok {g m j : Nat} {y : List Int} (h : StkB g m y) (hm : m ≤ Gr.BB) (hg : g ≤ 4) (hj : j ≤ 9) : Ok 570 2 (nearD j y) :=
  (((Oks.one (nat_ok hj)).mono (Nat.le_refl _) (by omega)).append (Oks.one (bag_ok4 h hm hg))).tuple.mono (by omega) (by omega)
theorem oks_allM {S k : Nat} : ∀ {ds : List PyData}, (∀ d ∈ ds, Ok S k d) → Oks ((S + 2) * ds.length) k ds
  | [], _ => ⟨fun d hd => absurd hd List.not_mem_nil, Nat.le_refl _, fun d hd => absurd hd List.not_mem_nil⟩
  | d :: ds, h => ((Oks.one (h d List.mem_cons_self)).append (oks_allM fun e he => h e (List.mem_cons_of_mem _ he))).mono (by rw [List.length_cons, Nat.mul_succ]; omega) (Nat.le_refl _)
theorem nears_ok {g m d D : Nat} {ts : List Trd} (mok : MktOk g ts) {x : List Int} (hx : StkB g m x) {lay : Nat → List (List Int)} (l : Lays ts x d lay) (hf : Few ts.length D) (hd : d ≤ D) (h6 : d ≤ 6) (hm : m + 18 ≤ Gr.BB) : Ok 600000 3 (.list (nearL lay (d + 1))) := by
  have hlen := near_len lay (d + 1)
  have h2 := ent_len mok.even hx.len l hf hd (d + 1) (Nat.le_refl _)
  have h3 : (d + 1) * 129 ≤ 7 * 129 := Nat.mul_le_mul_right _ (by omega)
  have all : ∀ e ∈ nearL lay (d + 1), Ok 570 2 e := fun e he => by
    unfold nearL at he
    obtain ⟨j, hj, he⟩ := List.mem_flatMap.mp he
    obtain ⟨y, hy, rfl⟩ := List.mem_map.mp he
    have hj := List.mem_range.mp hj
    exact near_ok ((rch_bd mok hx ((l.mem j (by omega) y).mp hy).1).mono (n := m + 18) (by omega)) hm mok.four (by omega)
  have h4 : 572 * (nearL lay (d + 1)).length ≤ 572 * 903 := Nat.mul_le_mul_left _ (by omega)
  exact (oks_allM all).list.mono (by omega) (Nat.le_refl _)
/-- sorted stocks -/
theorem srt_bgs {H : Hp} {us : List V} {fr : List (List Int)} (b : Bgs H us fr) : ∃ new, Bgs H ((srtA us (fr.map bagD)).map Prod.fst) new ∧ new.Perm fr ∧ new.Pairwise fun a b => ¬ b < a := by
  have hl := b.length
  have hz : us.zip (fr.map bagD) = (us.zip fr).map fun p => (p.1, bagD p.2) := by
    rw [List.zip_map_right]
    rfl
  have e1 : srtA us (fr.map bagD) = ((us.zip fr).mergeSort fun p q => leD (p.1, bagD p.2) (q.1, bagD q.2)).map fun p => (p.1, bagD p.2) := by
    unfold srtA
    rw [hz]
    exact (PySem.W.sort_maps (fun p : V × List Int => (p.1, bagD p.2)) (s := leD) fun _ _ _ _ => rfl).symm
  have pm := List.mergeSort_perm (us.zip fr) fun p q => leD (p.1, bagD p.2) (q.1, bagD q.2)
  have T := PySem.W.sortLe_total (listOrd itemOrd) false (fun p : V × List Int => PySem.W.keyToks (bagD p.2))
  have sr : ((us.zip fr).mergeSort fun p q => leD (p.1, bagD p.2) (q.1, bagD q.2)).Pairwise fun a b => leD (a.1, bagD a.2) (b.1, bagD b.2) = true :=
    List.pairwise_mergeSort (fun a b c h1 h2 => T.trans a b c h1 h2) (fun a b => Bool.or_eq_true_iff.mpr (T.total a b)) (us.zip fr)
  generalize ((us.zip fr).mergeSort fun p q => leD (p.1, bagD p.2) (q.1, bagD q.2)) = zs at e1 pm sr
  have mem : ∀ z ∈ zs, ∃ a, z.1 = .ref a ∧ H a = some (.tup (z.2.map V.int)) := fun z hz => by
    obtain ⟨i, hi⟩ := List.getElem?_of_mem (pm.mem_iff.mp hz)
    obtain ⟨h1, h2⟩ := List.getElem?_zip_eq_some.mp hi
    obtain ⟨a, y, ev, hy, e⟩ := b.get h1
    rw [h2] at hy
    cases hy
    exact ⟨a, ev, e⟩
  refine ⟨zs.map (·.2), ?_, ?_, ?_⟩
  · rw [e1, List.map_map]
    have : ∀ l : List (V × List Int), (∀ z ∈ l, ∃ a, z.1 = .ref a ∧ H a = some (.tup (z.2.map V.int))) → Bgs H (l.map fun z => z.1) (l.map (·.2)) := by
      intro l
      induction l with
      | nil => exact fun _ => .nil
      | cons z l ih =>
        intro h
        obtain ⟨a, e, q⟩ := h z List.mem_cons_self
        rw [List.map_cons, List.map_cons, e]
        exact .cons q (ih fun y hy => h y (List.mem_cons_of_mem _ hy))
    exact this zs mem
  · have := pm.map (·.2)
    rw [List.map_snd_zip (by omega)] at this
    exact this
  · rw [List.pairwise_map]
    refine sr.imp fun {a b} z => ?_
    exact (leG_iff (0, a.2) (0, b.2)).mp z
/-- the layers as lists in a list -/
structure Rings (H : Hp) (ls : List V) (lay : Nat → List (List Int)) (n : Nat) : Prop where
  len : ls.length = n
  at_ : ∀ j, j < n → ∃ a us, ls[j]? = some (.ref a) ∧ H a = some (.lst us) ∧ Bgs H us (lay j)
theorem Rings.same {H H' : Hp} {ls : List V} {lay : Nat → List (List Int)} {n : Nat} (r : Rings H ls lay n) (s : Same H H') : Rings H' ls lay n :=
  ⟨r.len, fun j hj => let ⟨a, us, e1, e2, e3⟩ := r.at_ j hj; ⟨a, us, e1, s _ _ e2, e3.tk (TK.of s)⟩⟩
def spRings : Sp := fun vs H Q _ => ∃ (tv sv : V) (g : Nat) (ts : List Trd) (x : List Int) (d : Nat), vs = [tv, sv, .int (d : Int)] ∧ Dat (fun _ => True) H tv (.tuple (ts.map trdD)) ∧ Dat (fun _ => True) H sv (bagD x) ∧ Even g ts ∧ x.length = g ∧ ts.length ≤ 4 ∧ g ≤ 4 ∧ 1 ≤ g ∧ Few ts.length d ∧
  ∀ (H' : Hp) (L : Addr) (ls : List V) (lay : Nat → List (List Int)), Same H H' → H L = none → H' L = some (.lst ls) → Rings H' ls lay (d + 1) → (∀ (j : Nat) (a : Addr), ls[j]? = some (V.ref a) → H a = none) → Lays ts x d lay → Q (.ref L) H'
end Lb
set_option Elab.async false
set_option linter.all false
set_option maxRecDepth 100000
set_option maxHeartbeats 8000000
namespace Lb
open PySem PySem.Spec PyProof.Rows L2 RZ TL
def topS (i : Nat) : Stmt := PySem.Challenge.pw_lentbeside_k03_what_is_near.main.body.getD i (.Pass ⟨0, 0, 0, 0⟩)
abbrev s_holds : Stmt := topS 1
abbrev s_exchange : Stmt := topS 2
abbrev s_after_step : Stmt := topS 3
abbrev s_ways_on : Stmt := topS 4
abbrev s_distances : Stmt := topS 5
abbrev s_each_near : Stmt := topS 6
abbrev s__law_deck : Stmt := topS 8
abbrev s__law_draw : Stmt := topS 9
abbrev s__law_bag : Stmt := topS 10
abbrev s__law_side : Stmt := topS 11
abbrev s__law_trade : Stmt := topS 12
abbrev s__law_market : Stmt := topS 13
abbrev s__law_any_market : Stmt := topS 14
abbrev s__law_plus : Stmt := topS 15
abbrev s__law_less : Stmt := topS 16
abbrev s__law_holds : Stmt := topS 17
abbrev s__law_behind : Stmt := topS 18
abbrev s__law_around : Stmt := topS 19
abbrev s__law_rings : Stmt := topS 20
abbrev s_law : Stmt := topS 21
end Lb
set_option Elab.async false
set_option linter.all false
set_option maxRecDepth 100000
set_option maxHeartbeats 8000000
namespace Lb
open PySem PySem.Spec PyProof.Rows L2 RZ TL
section
variable {P : Program} {w : World} {K : PySem.W.Frag} {mg : Str → Option Value} {base : Heap}
theorem sc_holds : FnScope ["bag", "other", "many", "few"] ["bag", "other"] (defScope s_holds) := ⟨rfl, rfl, rfl, by decide +kernel, rfl, by decide +kernel, by decide +kernel⟩
theorem own_holds (D : Df K mg "holds" s_holds) (B : Blt mg) : Own P w K mg base "holds" 1 ["bag", "other"] (spHolds K) := by
  refine own_of D sc_holds (fun _ _ _ _ _ _ us hl => match us, hl with | [_, _], _ => rfl) (fun vs H Q E h => ?_) (fun f cdv A outer s H vs Q E hr h => ?_)
  · obtain ⟨_, _, _, _, rfl, _⟩ := h
    rfl
  · obtain ⟨a, b, x, y, rfl, hA, hB, hl, hl2, q⟩ := h
    refine ⟨_, (pss_cons (ps_for PassesOwn.never rfl (pi_zipA (by rfl) B.b_zip (pa_cons (pv 0) (pa_cons (pv 1) pa_nil))) (pg_tup rfl (pgs_cons (pg_name (i := 2) sc_holds.nd rfl (.inl rfl)) (pgs_cons (pg_name (i := 3) sc_holds.nd rfl (.inl rfl)) pgs_nil)))
        (pss_one (ps_if (pt_cmpR op_lt (pv 2) (pv 3) (nomark _)) (pss_one (ps_ret pe_bl)) pss_nil)))
      (pss_one (ps_ret pe_bl))), ?_⟩
    refine ⟨_, rfl, _, rfl, a, b, _, _, rfl, .inr ⟨hA, hB, ?_⟩⟩
    refine for_zipT (K := K) (xs := x.map V.int) (ys := y.map V.int) (by rw [List.length_map, List.length_map]; exact hl) (fun i σ H' => ∃ y2 y3, σ = [some (.ref a), some (.ref b), y2, y3] ∧ Same H H' ∧ geB (x.take i) (y.take i) = true)
      ⟨none, none, rfl, Same.refl _, rfl⟩ (fun i σ H' ⟨_, _, _, s', _⟩ => ⟨same_tup s' hA, same_tup s' hB⟩) ?_ ?_
    · rintro i u v T σ H' hu hv ⟨y2, y3, rfl, sm, ge⟩ hT
      obtain ⟨u, rfl, hu'⟩ := int_at hu
      obtain ⟨v, rfl, hv'⟩ := int_at hv
      have sT := sm.trans (same_upd (o := .tup [V.int u, V.int v]) hT)
      refine ⟨T, _, rfl, .inl (.inl upd_same), rfl, _, _, rfl, _, _, rfl, rfl, ?_⟩
      refine ⟨_, rfl, _, rfl, _, _, rfl, rfl, _, rfl, ite2 (fun hlt => ?_) (fun hlt => ?_)⟩
      · have := q _ sT
        rw [geB_false hu' hv' (of_decide_eq_true hlt)] at this
        exact this
      · refine ⟨_, _, rfl, sT, ?_⟩
        have hge : u ≥ v := by
          have : ¬ u < v := fun z => hlt (decide_eq_true z)
          omega
        rw [geB_take hu' hv', ge, decide_eq_true hge]
        rfl
    · rintro σ H' ⟨y2, y3, rfl, sm, ge⟩
      rw [List.length_map, List.take_length, hl, List.take_length] at ge
      have := q _ sm
      rw [ge] at this
      exact this

end
end Lb
set_option Elab.async false
set_option linter.all false
set_option maxRecDepth 100000
set_option maxHeartbeats 8000000
namespace Lb
open PySem PySem.Spec PyProof.Rows L2 RZ TL
section
variable {P : Program} {w : World} {K : PySem.W.Frag} {mg : Str → Option Value} {base : Heap}
theorem sc_exchange : FnScope ["stock", "taken", "added", "amount", "less", "more"] ["stock", "taken", "added"] (defScope s_exchange) := ⟨rfl, rfl, rfl, by decide +kernel, rfl, by decide +kernel, by decide +kernel⟩
theorem own_exchange (D : Df K mg "exchange" s_exchange) (B : Blt mg) (O_holds : Own P w K mg base "holds" 1 ["bag", "other"] (spHolds K)) : Own P w K mg base "exchange" 2 ["stock", "taken", "added"] (spExch K) := by
  refine own_of D sc_exchange (fun _ _ _ _ _ _ us hl => match us, hl with | [_, _, _], _ => rfl) (fun vs H Q E h => ?_) (fun f cdv A outer s H vs Q E hr h => ?_)
  · obtain ⟨_, _, _, _, _, _, rfl, _⟩ := h
    rfl
  · obtain ⟨a, b, c, x, y, z, rfl, hA, hB, hC, hl, hl2, hl3, q⟩ := h
    refine ⟨_, (pss_cons (ps_if (pt_not (pt_val (pe_own O_holds (hr.mono (by omega)) (by rfl) (pa_cons (pv 0) (pa_cons (pv 1) pa_nil))))) (pss_one (ps_ret pe_non)) pss_nil)
      (pss_one (ps_ret (pe_callTy (T := "tuple") call_tuple_of (by rfl) B.b_tuple (by decide +kernel) (pa_cons (pe_lc (own := [("amount", 3), ("less", 4), ("more", 5)]) (g := gTup _ 3 (gCons (gName 3) (gCons (gName 4) (gCons (gName 5) gNil)))) (tt := tYes) rfl sc_exchange.nd (pi_zip3 (by rfl) B.b_zip (pa_cons (pv 0) (pa_cons (pv 1) (pa_cons (pv 2) pa_nil)))) (blkOk_by (own := [("amount", 3), ("less", 4), ("more", 5)]) (N := ["stock", "taken", "added", "amount", "less", "more"]) (sc := defScope s_exchange) (by decide +kernel)) (fun _ _ _ _ _ => (pg_tup rfl (pgs_cons (pg_name (i := 3) sc_exchange.nd rfl (.inl rfl)) (pgs_cons (pg_name (i := 4) sc_exchange.nd rfl (.inl rfl)) (pgs_cons (pg_name (i := 5) sc_exchange.nd rfl (.inl rfl)) pgs_nil))))) (fun _ _ _ _ _ => pts_nil) (fun _ _ _ _ _ => (pe_op op_add (pe_op op_sub (pv 3) (pv 4)) (pv 5)))) pa_nil))))), ?_⟩
    refine ⟨_, rfl, _, rfl, a, b, x, y, rfl, hA, hB, hl, hl3, fun H1 s1 => ?_⟩
    refine ⟨_, rfl, ?_⟩
    cases hg : geB x y with
    | false =>
      have e : exch x y z = none := by
        unfold exch
        rw [hg]
        rfl
      refine iteT ?_
      exact q H1 .non s1 (by rw [e]; rfl)
    | true =>
      have e : exch x y z = some (plusL (minusL x y) z) := by
        unfold exch
        rw [hg]
        rfl
      refine iteF ?_
      refine ⟨_, rfl, _, rfl, _, rfl, a, b, c, _, _, _, rfl, same_tup s1 hA, same_tup s1 hB, same_tup s1 hC, fun D hD => ?_⟩
      refine lc_zipU (K := K) (xs := x.map V.int) (ys := y.map V.int) (zs := z.map V.int) (by rw [List.length_map, List.length_map]; exact hl) (by rw [List.length_map, List.length_map]; exact hl2) (fun i H' => Same H1 H' ∧ H' D = some (.lst (((plusL (minusL x y) z).take i).map V.int)))
        ⟨same_upd hD, upd_same⟩ (fun i H' hP => ⟨same_tup (s1.trans hP.1) hA, same_tup (s1.trans hP.1) hB, same_tup (s1.trans hP.1) hC⟩) ?_ ?_
      · rintro i u v t T H' hu hv ht ⟨sm, eD⟩ hT
        obtain ⟨u, rfl, hu'⟩ := int_at hu
        obtain ⟨v, rfl, hv'⟩ := int_at hv
        obtain ⟨t, rfl, ht'⟩ := int_at ht
        have nTD : D ≠ T := ne_of_none eD hT
        refine ⟨T, _, rfl, .inl (.inl upd_same), rfl, _, _, rfl, _, _, rfl, _, _, rfl, rfl, rfl, all_in ?_⟩
        refine ⟨_, rfl, _, rfl, _, _, rfl, rfl, _, rfl, _, _, rfl, rfl, _, (same_upd hT) _ _ eD, ?_, ?_, ?_⟩
        · rw [List.length_map, List.length_take]
          refine small1000 (Nat.le_trans (Nat.min_le_right _ _) ?_)
          rw [List.length_zipWith, List.length_zipWith]
          omega
        · intro b o e
          rw [upd_ne (ne_of_none e hD)]
          exact (same_upd hT) _ _ (sm _ _ e)
        · rw [upd_same, zipW_take (zipW_at hu' hv') ht', List.map_append]
          rfl
      · rintro H' ⟨sm, eD⟩
        have el : (plusL (minusL x y) z).take (x.map V.int).length = plusL (minusL x y) z := List.take_of_length_le (by rw [List.length_zipWith, List.length_zipWith, List.length_map]; omega)
        rw [el] at eD
        refine ⟨D, _, rfl, .inl ⟨SqL.of eD, fun p hp => ?_⟩⟩
        refine q _ (.ref p) ((s1.trans sm).trans (same_upd hp)) ?_
        rw [e]
        exact ⟨p, rfl, (s1.trans sm).free hp, upd_same⟩

end
end Lb
set_option Elab.async false
set_option linter.all false
set_option maxRecDepth 100000
set_option maxHeartbeats 8000000
namespace Lb
open PySem PySem.Spec PyProof.Rows L2 RZ TL
section
variable {P : Program} {w : World} {K : PySem.W.Frag} {mg : Str → Option Value} {base : Heap}
theorem sc_after_step : FnScope ["market", "stock", "step", "k", "back", "give", "get"] ["market", "stock", "step"] (defScope s_after_step) := ⟨rfl, rfl, rfl, by decide +kernel, rfl, by decide +kernel, by decide +kernel⟩
theorem own_after (D : Df K mg "after_step" s_after_step) (B : Blt mg) (O_exchange : Own P w K mg base "exchange" 2 ["stock", "taken", "added"] (spExch K)) : Own P w K mg base "after_step" 3 ["market", "stock", "step"] spAfter := by
  refine own_of D sc_after_step (fun _ _ _ _ _ _ us hl => match us, hl with | [_, _, _], _ => rfl) (fun vs H Q E h => ?_) (fun f cdv A outer s H vs Q E hr h => ?_)
  · obtain ⟨_, _, _, _, _, _, _, _, _, rfl, _⟩ := h
    rfl
  · obtain ⟨R, m, s, t, g, ts, x, k, b, rfl, dm, ds, dt, hE, hg, hx, hk, new, q⟩ := h
    refine ⟨_, (pss_cons (ps_asg (pv 2) (pg_tup rfl (pgs_cons (pg_name (i := 3) sc_after_step.nd rfl (.inl rfl)) (pgs_cons (pg_name (i := 4) sc_after_step.nd rfl (.inl rfl)) pgs_nil))))
      (pss_cons (ps_asg (pe_ix ix_tup (pe_ix ix_tup (pv 0) pe_int (fun _ _ => rfl)) (pv 3) (fun _ _ => rfl)) (pg_tup rfl (pgs_cons (pg_name (i := 5) sc_after_step.nd rfl (.inl rfl)) (pgs_cons (pg_name (i := 6) sc_after_step.nd rfl (.inl rfl)) pgs_nil))))
      (pss_one (ps_ret (pe_ifExp (pt_val (pv 4)) (pe_own O_exchange (hr.mono (by omega)) (by rfl) (pa_cons (pv 1) (pa_cons (pv 6) (pa_cons (pv 5) pa_nil)))) (pe_own O_exchange (hr.mono (by omega)) (by rfl) (pa_cons (pv 1) (pa_cons (pv 5) (pa_cons (pv 6) pa_nil))))))))), ?_⟩
    obtain ⟨a1, u1, u2, rfl, r1, e1, d1, d2⟩ := Dat.pair dt
    obtain rfl := d1.intI
    obtain rfl := d2.blI
    obtain ⟨am, w1, w2, rfl, rm, em, dg, dts⟩ := Dat.pair dm
    obtain ⟨tv, ys, rfl, rtv, etv, dys⟩ := dts.tupI
    obtain ⟨tk, htk⟩ : ∃ tk, ts[k]? = some tk := ⟨_, List.getElem?_eq_getElem hk⟩
    obtain ⟨y, hy, dy⟩ := dys.get (i := k) (d := trdD tk) (by rw [List.getElem?_map, htk]; rfl)
    obtain ⟨ay, v1, v2, rfl, ry, ey, dv1, dv2⟩ := Dat.pair dy
    obtain ⟨b1, rfl, rb1, eb1⟩ := dv1.bag
    obtain ⟨b2, rfl, rb2, eb2⟩ := dv2.bag
    obtain ⟨bs, rfl, rbs, ebs⟩ := ds.bag
    obtain ⟨l1, l2⟩ := hE tk (List.mem_of_getElem? htk)
    refine ⟨_, rfl, a1, _, rfl, .inl (.inl e1), rfl, _, _, rfl, _, _, rfl, rfl, ?_⟩
    refine ⟨_, rfl, am, _, _, _, rfl, rfl, tup_at0 em, rfl, _, rfl, tv, _, _, _, rfl, rfl, .inl (.inl etv), atI_nat hy, ?_⟩
    refine ⟨ay, _, rfl, .inl (.inl ey), rfl, _, _, rfl, _, _, rfl, rfl, ?_⟩
    have eB : behind ts x k b = if b = true then exch x tk.2 tk.1 else exch x tk.1 tk.2 := by
      unfold behind
      rw [htk]
    refine ⟨_, rfl, _, rfl, ?_⟩
    cases b with
    | true =>
      refine iteT ⟨_, rfl, _, rfl, _, rfl, bs, b2, b1, _, _, _, rfl, .inl (.inl ebs), .inl (.inl eb2), .inl (.inl eb1), by omega, by omega, by omega, fun H' v s' o => q H' v s' ?_⟩
      rw [eB, if_pos rfl]
      exact optAt_dat o new
    | false =>
      refine iteF ⟨_, rfl, _, rfl, _, rfl, bs, b1, b2, _, _, _, rfl, .inl (.inl ebs), .inl (.inl eb1), .inl (.inl eb2), by omega, by omega, by omega, fun H' v s' o => q H' v s' ?_⟩
      rw [eB, if_neg Bool.false_ne_true]
      exact optAt_dat o new

end
end Lb
set_option Elab.async false
set_option linter.all false
set_option maxRecDepth 100000
set_option maxHeartbeats 8000000
namespace Lb
open PySem PySem.Spec PyProof.Rows L2 RZ TL
section
variable {P : Program} {w : World} {K : PySem.W.Frag} {mg : Str → Option Value} {base : Heap}
theorem flat_steps (n : Nat) (f : Nat → Nat → PyData) (h : ∀ i, i < n → f i 0 = stepD i false ∧ f i 1 = stepD i true) : ((List.range n).flatMap fun i => (List.range 2).map (f i)) = (steps2 n).map fun s => stepD s.1 s.2 := by
  unfold steps2
  rw [List.map_flatMap]
  have : ∀ l : List Nat, (∀ i ∈ l, i < n) → (l.flatMap fun i => (List.range 2).map (f i)) = l.flatMap fun k => [(k, false), (k, true)].map fun s => stepD s.1 s.2 := by
    intro l
    induction l with
    | nil => exact fun _ => rfl
    | cons i l ih =>
      intro hl
      rw [List.flatMap_cons, List.flatMap_cons, ih fun j hj => hl j (List.mem_cons_of_mem _ hj)]
      congr 1
      obtain ⟨h1, h2⟩ := h i (hl i List.mem_cons_self)
      show [f i 0, f i 1] = _
      rw [h1, h2]
      rfl
  exact this _ fun i hi => List.mem_range.mp hi
theorem pick_map2 {α β : Type} (l : List α) (d : α) (p : α → Bool) (f : α → β) : ((List.range l.length).filter fun k => p (l.getD k d)).map (fun k => f (l.getD k d)) = (l.filter p).map f := by
  have e : l = (List.range l.length).map fun k => l.getD k d := by
    refine List.ext_getElem (by rw [List.length_map, List.length_range]) fun k h1 h2 => ?_
    rw [List.getElem_map, List.getElem_range, List.getD_eq_getElem?_getD, List.getElem?_eq_getElem h1]
    rfl
  conv => rhs; rw [e]
  rw [List.filter_map, List.map_map]
  rfl
theorem edg_pick (ts : List Trd) (x : List Int) : (((steps2 ts.length).filter fun s => (behind ts x s.1 s.2).isSome).map fun s => wayD (s, (behind ts x s.1 s.2).getD [])) = (edg ts x).map wayD := by
  unfold edg
  induction steps2 ts.length with
  | nil => rfl
  | cons s l ih =>
    cases h : behind ts x s.1 s.2 with
    | none =>
      rw [List.filter_cons_of_neg (by rw [h]; decide), List.filterMap_cons, h]
      exact ih
    | some y =>
      rw [List.filter_cons_of_pos (by rw [h]; rfl), List.filterMap_cons, h, List.map_cons, h]
      show _ :: _ = _ :: _
      rw [ih]
      rfl
theorem sc_ways_on : FnScope ["market", "stock", "steps", "k", "back", "ways", "step", "after"] ["market", "stock"] (defScope s_ways_on) := ⟨rfl, rfl, rfl, by decide +kernel, rfl, by decide +kernel, by decide +kernel⟩
theorem own_wayson (D : Df K mg "ways_on" s_ways_on) (B : Blt mg) (O_after_step : Own P w K mg base "after_step" 3 ["market", "stock", "step"] spAfter) : Own P w K mg base "ways_on" 4 ["market", "stock"] spWays := by
  refine own_of D sc_ways_on (fun _ _ _ _ _ _ us hl => match us, hl with | [_, _], _ => rfl) (fun vs H Q E h => ?_) (fun f cdv A outer s H vs Q E hr h => ?_)
  · obtain ⟨_, _, _, _, _, rfl, _⟩ := h
    rfl
  · obtain ⟨mv, sv, g, ts, x, rfl, S, q⟩ := h
    refine ⟨_, (pss_cons (ps_setLc2 (i := 2) (own := [("k", 3), ("back", 4)]) (vs1 := [4]) (g := gName 3) (g1 := gName 4) (tt := tYes) (tt1 := tYes) rfl sc_ways_on.nd rfl rfl (sw_true rfl rfl rfl (by decide +kernel)) (pi_range1 (by rfl) B.b_range (pa_cons (pe_callB (id := "len") call_len_seq (by rfl) B.b_len PySem.boot_len (pa_cons (pe_ix ix_tup (pv 0) pe_int (fun _ _ => rfl)) pa_nil)) pa_nil)) (blkOk_by (own := [("k", 3), ("back", 4)]) (N := ["market", "stock", "steps", "k", "back", "ways", "step", "after"]) (sc := defScope s_ways_on) (by decide +kernel)) (by decide) (fun _ _ _ _ _ => (pg_name (i := 3) sc_ways_on.nd rfl (.inl rfl))) (fun _ _ _ _ _ => pts_nil) (fun _ _ _ _ _ => (show PI _ _ _ (iTup K _) from (pi_tup (pe_tup (pa_cons pe_bl (pa_cons pe_bl pa_nil)))))) (fun _ _ _ _ _ => (pg_name (i := 4) sc_ways_on.nd rfl (.inl rfl))) (fun _ _ _ _ _ => pts_nil) (fun _ _ _ _ _ => (pe_tup (pa_cons (pv 3) (pa_cons (pv 4) pa_nil)))))
      (pss_cons (ps_setLc (i := 5) (own := [("step", 6)]) (g := gName 6) (tt := tYes) rfl sc_ways_on.nd rfl rfl (sw_true rfl rfl rfl (by decide +kernel)) (pi_list (pv 2)) (blkOk_by (own := [("step", 6)]) (N := ["market", "stock", "steps", "k", "back", "ways", "step", "after"]) (sc := defScope s_ways_on) (by decide +kernel)) (fun _ _ _ _ _ => (pg_name (i := 6) sc_ways_on.nd rfl (.inl rfl))) (fun _ _ _ _ _ => pts_nil) (fun _ _ _ _ _ => (pe_tup (pa_cons (pv 6) (pa_cons (pe_own O_after_step (hr.mono (by omega)) (by rfl) (pa_cons (pv 0) (pa_cons (pv 1) (pa_cons (pv 6) pa_nil)))) pa_nil)))))
      (pss_one (ps_ret (pe_lc (own := [("step", 6), ("after", 7)]) (g := gTup _ 2 (gCons (gName 6) (gCons (gName 7) gNil))) (tt := _) rfl sc_ways_on.nd (pi_list (pv 5)) (blkOk_by (own := [("step", 6), ("after", 7)]) (N := ["market", "stock", "steps", "k", "back", "ways", "step", "after"]) (sc := defScope s_ways_on) (by decide +kernel)) (fun _ _ _ _ _ => (pg_tup rfl (pgs_cons (pg_name (i := 6) sc_ways_on.nd rfl (.inl rfl)) (pgs_cons (pg_name (i := 7) sc_ways_on.nd rfl (.inl rfl)) pgs_nil)))) (fun _ _ _ _ _ => (pts_one (pt_cmp (pc_notN (pv 7))))) (fun _ _ _ _ _ => (pe_tup (pa_cons (pv 6) (pa_cons (pv 7) pa_nil))))))))), ?_⟩
    obtain ⟨m, tt, vs, rfl, em, ett, tv⟩ := id S.mkt
    obtain ⟨sa, rfl, esa⟩ := S.sv
    have n4 := S.many
    have ev := S.ev
    have g4 := S.g4
    have hvl : vs.length = ts.length := tv.length
    -- steps
    refine ⟨_, rfl, m, _, _, _, rfl, rfl, SqT.of em, rfl, tt, vs, rfl, .inr (SqT.of ett), _, rfl, by omega, by omega, fun D hD => ?_⟩
    rw [hvl, show ((ts.length : Nat) : Int).toNat = ts.length by omega]
    refine lc2_dats (walk_range (lo := 0) (n := ts.length)) (fun _ => 2) (fun i j => stepD i ([false, true].getD j false)) (M := 2) hD (fun _ _ => Nat.le_refl 2) (by omega) (fun _ _ => trivial) ?_ ?_
    · rintro i y H1 H2 Rn Qn hi sm _ ⟨rfl, rfl⟩ hR
      refine ⟨rfl, all_in ?_⟩
      refine ⟨(by show 2 ≤ sizeLine; decide), fun p hp => ?_⟩
      have sp := same_upd (o := .tup [.bl false, .bl true]) hp
      have ep : upd H2 p (.tup [.bl false, .bl true]) p = some (.tup [.bl false, .bl true]) := upd_same
      generalize upd H2 p (.tup [.bl false, .bl true]) = H3 at sp ep ⊢
      refine ⟨p, rfl, ⟨_, SqT.of ep⟩, ?_⟩
      obtain ⟨us, eD⟩ := ‹∃ us, _›
      have npD : p ≠ D := fun z => by
        rw [z, eD] at hp
        cases hp
      refine hR _ _ H3 _ _ sp (walk_tup (xs := [.bl false, .bl true])) (fun H5 b5 => SqT.of (b5 _ _ npD ep)) ?_
      rintro j z H5 H6 Qy Q0 hj b5 ⟨us5, eD5⟩ ⟨rfl, hz⟩ hq
      obtain ⟨b, rfl, hb⟩ : ∃ b, z = .bl b ∧ [false, true].getD j false = b := by
        match j, hz with
        | 0, h => exact ⟨false, (Option.some.inj h).symm, rfl⟩
        | 1, h => exact ⟨true, (Option.some.inj h).symm, rfl⟩
      refine ⟨rfl, all_in ?_⟩
      refine ⟨_, rfl, _, rfl, (by show 2 ≤ sizeLine; decide), fun p2 hp2 => hq _ _ (same_upd hp2) ?_⟩
      have n2 : Nt D p2 := fun z => by
        rw [z, eD5] at hp2
        cases hp2
      rw [hb]
      dsimp only
      rw [Int.zero_add]
      exact .tup n2 upd_same (.cons (.int _) (.cons (.bl _) .nil))
    intro H1 us s1 eD du
    rw [flat_steps _ _ fun i _ => ⟨rfl, rfl⟩] at du
    have hul : us.length = 2 * ts.length := by rw [du.length, List.length_map, steps2_len]
    refine ⟨_, rfl, D, rfl, ⟨_, SqL.of eD⟩, fun D2 hD2 => ?_⟩
    have nD2 : D2 ≠ D := fun z => by
      rw [z, eD] at hD2
      cases hD2
    -- ways
    refine lcd (walk_list (xs := us)) (fun _ => true) (fun k => .tuple [stepD ((steps2 ts.length).getD k (0, false)).1 ((steps2 ts.length).getD k (0, false)).2, optD (behind ts x ((steps2 ts.length).getD k (0, false)).1 ((steps2 ts.length).getD k (0, false)).2)]) hD2 (by omega) (fun H' sm => SqL.of (sm _ _ eD)) ?_ ?_
    · rintro k y H2 H3 Qn Qy hk sm ⟨us2, eus2⟩ ⟨rfl, hy⟩ _ hq
      obtain ⟨dy, hdy, dty⟩ := du.get' hy
      rw [List.getElem?_map] at hdy
      obtain ⟨⟨j, b⟩, hs, rfl⟩ := Option.map_eq_some_iff.mp hdy
      have eg : (steps2 ts.length).getD k (0, false) = (j, b) := by
        rw [List.getD_eq_getElem?_getD, hs]
        rfl
      rw [eg] at hq
      have hj : j < ts.length := mem_steps2.mp (List.mem_of_getElem? hs)
      have s2 := s1.trans sm
      have S2 := S.tk (TK.of s2)
      have dty2 : Dat (Nt D2) H3 y (stepD j b) := (dty.sub fun c o _ e => ne_of_none e hD2).same sm
      have ntup : ∀ c xs, H3 c = some (.tup xs) → Nt D2 c := fun c xs e z => by
        rw [z, eus2] at e
        cases e
      have esa2 := s2 _ _ esa
      refine ⟨rfl, all_in ?_⟩
      refine ⟨_, rfl, _, rfl, _, rfl, _, rfl, Nt D2, .ref m, .ref sa, y, g, ts, x, j, b, rfl, S2.mkt.dat ntup, Dat.mkBag (ntup _ _ esa2) esa2, dty2, ev, by omega, S.lx, hj, fun c hc z => (by rw [z, eus2] at hc; cases hc), fun H4 v s4 dv => ⟨(by show 2 ≤ sizeLine; decide), fun p hp => hq rfl _ _ (s4.trans (same_upd hp)) (.tup (fun z => ?_) upd_same (.cons (dty2.same (s4.trans (same_upd hp))) (.cons (dv.same (same_upd hp)) .nil)))⟩⟩
      rw [z, s4 _ _ eus2] at hp
      cases hp
    · intro H2 ws s2 eD2 dw
      rw [List.filter_eq_self.mpr (fun _ _ => rfl)] at dw
      have hwl : ws.length = 2 * ts.length := by rw [dw.length, List.length_map, List.length_range, hul]
      have s02 := s1.trans s2
      refine ⟨_, rfl, D2, rfl, ⟨_, SqL.of eD2⟩, fun D3 hD3 => ?_⟩
      refine lcd (walk_list (xs := ws)) (fun k => (behind ts x ((steps2 ts.length).getD k (0, false)).1 ((steps2 ts.length).getD k (0, false)).2).isSome) (fun k => wayD ((steps2 ts.length).getD k (0, false), (behind ts x ((steps2 ts.length).getD k (0, false)).1 ((steps2 ts.length).getD k (0, false)).2).getD [])) hD3 (by omega) (fun H' sm => SqL.of (sm _ _ eD2)) ?_ ?_
      · rintro k y H3 H4 Qn Qy hk sm ⟨us3, eus3⟩ ⟨rfl, hy⟩ hn hq
        obtain ⟨dy, hdy, dty⟩ := dw.get' hy
        rw [List.getElem?_map, List.getElem?_range (by omega)] at hdy
        obtain rfl := Option.some.inj hdy
        dsimp only at dty
        generalize (steps2 ts.length).getD k (0, false) = sj at dty hn hq
        have dty3 := (dty.sub fun c o _ e => ne_of_none (b := D3) e hD3).same sm
        obtain ⟨a1, u1, u2, rfl, _, e1, d1, d2⟩ := Dat.pair dty3
        refine ⟨a1, _, rfl, SqT.of e1, rfl, _, _, rfl, _, _, rfl, rfl, rfl, ?_⟩
        cases hb : behind ts x sj.1 sj.2 with
        | none =>
          rw [hb] at d2 hn
          obtain rfl := d2.nonI
          exact ⟨_, rfl, _, rfl, iteF (hn rfl _ (Same.refl _))⟩
        | some w =>
          rw [hb] at d2 hq
          obtain ⟨pw, rfl, _, ew⟩ := Dat.bag d2
          refine ⟨_, rfl, _, rfl, iteT ⟨_, rfl, _, rfl, (by show 2 ≤ sizeLine; decide), fun p hp => hq rfl _ _ (same_upd hp) (.tup (fun z => ?_) upd_same (.cons (d1.same (same_upd hp)) (.cons (d2.same (same_upd hp)) .nil)))⟩⟩
          rw [z, eus3] at hp
          cases hp
      · intro H3 us3 s3 eD3 dus
        rw [hwl, ← steps2_len, pick_map2 (steps2 ts.length) (0, false) (fun s => (behind ts x s.1 s.2).isSome) (fun s => wayD (s, (behind ts x s.1 s.2).getD [])), edg_pick] at dus
        exact q H3 D3 us3 (s02.trans s3) (s02.free hD3) eD3 dus

end
end Lb
set_option Elab.async false
set_option linter.all false
set_option maxRecDepth 100000
set_option maxHeartbeats 8000000
namespace Lb
open PySem PySem.Spec PyProof.Rows L2 RZ TL
section
variable {P : Program} {w : World} {K : PySem.W.Frag} {mg : Str → Option Value} {base : Heap}
theorem sc_distances : FnScope ["market", "stock", "steps", "known", "edge", "distance", "reached", "near", "way", "far", "other"] ["market", "stock", "steps"] (defScope s_distances) := ⟨rfl, rfl, rfl, by decide +kernel, rfl, by decide +kernel, by decide +kernel⟩
theorem own_distances (D : Df K mg "distances" s_distances) (B : Blt mg) (O_ways_on : Own P w K mg base "ways_on" 4 ["market", "stock"] spWays) : Own P w K mg base "distances" 5 ["market", "stock", "steps"] spDist := by
  refine own_of D sc_distances (fun _ _ _ _ _ _ us hl => match us, hl with | [_, _, _], _ => rfl) (fun vs H Q E h => ?_) (fun f cdv A outer s H vs Q E hr h => ?_)
  · obtain ⟨_, _, _, _, _, _, rfl, _⟩ := h
    rfl
  · obtain ⟨mv, sv, g, ts, x, d, rfl, S, few, q⟩ := h
    refine ⟨_, (pss_cons (ps_set (i := 3) sc_distances.nd rfl (.inr rfl) (pe_disp1 (hu8_of hr) (pv 1) pe_int))
      (pss_cons (ps_set (i := 4) sc_distances.nd rfl (.inl rfl) (pe_lst (pa_cons (pv 1) pa_nil)))
      (pss_cons (ps_for PassesOwn.never rfl (pi_range2 (by rfl) B.b_range (pa_cons pe_int (pa_cons (pe_op op_add (pv 2) pe_int) pa_nil))) (pg_name (i := 5) sc_distances.nd rfl (.inl rfl))
        (pss_cons (ps_setLc2 (i := 6) (own := [("near", 7), ("way", 8)]) (vs1 := [8]) (g := gName 7) (g1 := gName 8) (tt := tYes) (tt1 := tYes) rfl sc_distances.nd rfl rfl (sw_true rfl rfl rfl (by decide +kernel)) (pi_list (pv 4)) (blkOk_by (own := [("near", 7), ("way", 8)]) (N := ["market", "stock", "steps", "known", "edge", "distance", "reached", "near", "way", "far", "other"]) (sc := defScope s_distances) (by decide +kernel)) (by decide) (fun _ _ _ _ _ => (pg_name (i := 7) sc_distances.nd rfl (.inl rfl))) (fun _ _ _ _ _ => pts_nil) (fun _ _ _ _ _ => (show PI _ _ _ (iList K _) from (pi_list (pe_own O_ways_on (hr.mono (by omega)) (by rfl) (pa_cons (pv 0) (pa_cons (pv 7) pa_nil)))))) (fun _ _ _ _ _ => (pg_name (i := 8) sc_distances.nd rfl (.inl rfl))) (fun _ _ _ _ _ => pts_nil) (fun _ _ _ _ _ => (pe_ix (show IxR _ (rIxT K) from ix_tup) (pv 8) pe_int (fun _ _ => rfl))))
      (pss_cons (ps_set (i := 4) sc_distances.nd rfl (.inl rfl) (pe_callB (id := "sorted") (cr_sortG rfl hr.units) (by rfl) B.b_sorted (by decide +kernel) (pa_cons (pe_scG (own := [("far", 9)]) (g := gName 9) (tt := _) rfl sc_distances.nd (hu8_of hr) (pi_list (pv 6)) (blkOk_by (own := [("far", 9)]) (N := ["market", "stock", "steps", "known", "edge", "distance", "reached", "near", "way", "far", "other"]) (sc := defScope s_distances) (by decide +kernel)) (fun _ _ _ _ _ => (pg_name (i := 9) sc_distances.nd rfl (.inl rfl))) (fun _ _ _ _ _ => (pts_one (pt_cmp (pc_dnotin (hu_of hr) (pv 9) (pv 3))))) (fun _ _ _ _ _ => (pv 9))) pa_nil)))
      (pss_one (ps_for PassesOwn.never rfl (pi_list (pv 4)) (pg_name (i := 10) sc_distances.nd rfl (.inl rfl))
        (pss_one (ps_dput (hu_of hr) (pv 3) (pv 10) (pv 5) rfl)))))))
      (pss_one (ps_ret (pv 3)))))), ?_⟩
    obtain ⟨sa, rfl, esa⟩ := S.sv
    have ev := S.ev
    have n4 := S.many
    have lx := S.lx
    have g4 := S.g4
    have g1 := S.g1
    -- known, edge
    intro kn hkn
    have s0 := same_upd (o := .dT []) hkn
    refine ⟨_, rfl, upd_same, sa, x.map Sum.inl, rfl, by rw [keyI_vals]; exact s0 _ _ esa, ?_⟩
    have e00 : upd (upd H kn (.dT [])) kn (.dT [(x.map Sum.inl, V.int 0)]) kn = some (.dT (entL (fun _ => [x]) 1)) := by rw [upd_same, ent_zero]
    have s1 : Same H (upd (upd H kn (.dT [])) kn (.dT [(x.map Sum.inl, V.int 0)])) := fun b o e => by
      rw [upd_ne (ne_of_none e hkn)]
      exact s0 _ _ e
    generalize upd (upd H kn (.dT [])) kn (.dT [(x.map Sum.inl, V.int 0)]) = H1 at e00 s1 ⊢
    refine ⟨_, rfl, (by show 1 ≤ sizeLine; decide), fun ed hed => ?_⟩
    have s2 := same_upd (o := .lst [.ref sa]) hed
    have eed : upd H1 ed (.lst [.ref sa]) ed = some (.lst [.ref sa]) := upd_same
    generalize upd H1 ed (.lst [.ref sa]) = H2 at s2 eed ⊢
    have nke : kn ≠ ed := ne_of_none e00 hed
    have ekn := s2 _ _ e00
    have s02 := s1.trans s2
    -- the turns
    refine ⟨_, rfl, (d : Int), (1 : Int), rfl, rfl, (1 : Int), ((d : Int) + 1), rfl, ⟨by omega, by omega, by omega, by omega⟩, ?_⟩
    rw [show ((d : Int) + 1 - 1).toNat = d by omega]
    refine for_it (walk_range (lo := 1) (n := d)) (fun k σ H' => ∃ (ed : Addr) (us : List V) (lay : Nat → List (List Int)) (y5 y6 y7 y8 y9 y10 : Option V), σ = [some mv, some (.ref sa), some (.int (d : Int)), some (.ref kn), some (.ref ed), y5, y6, y7, y8, y9, y10] ∧ Same H H' ∧ H' kn = some (.dT (entL lay (k + 1))) ∧ Lays ts x k lay ∧ H' ed = some (.lst us) ∧ Bgs H' us (lay k))
      ⟨ed, [.ref sa], fun _ => [x], none, none, none, none, none, none, rfl, s02, ekn, lays_zero ts x, eed, .cons (s02 _ _ esa) .nil⟩ (fun _ _ _ _ _ => trivial) ?_ ?_
    · rintro k y σ H3 H4 hk ⟨ed, us, lay, y5, y6, y7, y8, y9, y10, rfl, sm, ekn, ly, eed, bu⟩ ⟨rfl, rfl⟩
      dsimp only
      rw [show (1 : Int) + ((k : Nat) : Int) = ((k + 1 : Nat) : Int) by omega]
      have hlen : (lay k).length ≤ 129 := layer_len ev lx few (n := k) (by omega) (ly.nd k (Nat.le_refl k)) fun y hy => ((ly.mem k (Nat.le_refl k) y).mp hy).1
      have hul := bu.length
      -- reached
      refine ⟨_, rfl, ed, rfl, ⟨_, SqL.of eed⟩, fun D hD => ?_⟩
      refine lc2_dats (walk_list (xs := us)) (fun i => (edg ts ((lay k).getD i [])).length) (fun i j => bagD ((edg ts ((lay k).getD i [])).getD j ((0, false), [])).2) (M := 8) hD (fun i _ => by have := edg_len ts ((lay k).getD i []); omega) (by rw [hul]; omega) (fun H' s' => SqL.of (s' _ _ eed)) ?_ ?_
      · rintro i y H5 H6 Rn Qn hi sm5 ⟨us5, eD5⟩ ⟨rfl, hy⟩ hR
        obtain ⟨b, z, rfl, hz, eb⟩ := bu.get hy
        have eg : (lay k).getD i [] = z := by
          rw [List.getD_eq_getElem?_getD, hz]
          rfl
        rw [eg] at hR
        have s05 := sm.trans sm5
        have lz : z.length = g := (rch_place ev lx ((ly.mem k (Nat.le_refl k) z).mp (List.mem_of_getElem? hz)).1).1
        refine ⟨rfl, all_in ?_⟩
        refine ⟨_, rfl, _, rfl, mv, .ref b, g, ts, z, rfl, ⟨S.mkt.tk (TK.of s05), ⟨b, rfl, sm5 _ _ eb⟩, ev, lz, n4, g4, g1⟩, fun H7 L us7 s7 nL eL du => ?_⟩
        have hl7 : us7.length = (edg ts z).length := by rw [du.length, List.length_map]
        have nLD : L ≠ D := fun e => by
          rw [e, eD5] at nL
          cases nL
        have eD7 := s7 _ _ eD5
        refine ⟨L, rfl, ⟨_, SqL.of eL⟩, ?_⟩
        have wk : L2.Walk (Itl K L) (edg ts z).length (fun H => SqL K H L us7) (YAt us7) := by
          rw [← hl7]
          exact walk_list (xs := us7)
        refine hR _ _ H7 _ _ s7 wk (fun H8 b8 => SqL.of (b8 _ _ nLD eL)) ?_
        rintro j v H8 H9 Qy Q0 hj b8 ⟨us8, eD8⟩ ⟨rfl, hv⟩ hq
        obtain ⟨dv, hdv, dat⟩ := du.get' hv
        rw [List.getElem?_map] at hdv
        obtain ⟨e, he, rfl⟩ := Option.map_eq_some_iff.mp hdv
        have eg2 : (edg ts z).getD j ((0, false), []) = e := by
          rw [List.getD_eq_getElem?_getD, he]
          rfl
        rw [eg2] at hq
        obtain ⟨a1, u1, u2, rfl, _, e1, d1, d2⟩ := Dat.pair dat
        obtain ⟨pw, rfl, _, ew⟩ := Dat.bag d2
        have tk : TK H7 H9 := fun c xs ec => b8 c _ (fun z => by rw [z, eD7] at ec; cases ec) ec
        refine ⟨rfl, all_in ?_⟩
        refine ⟨_, rfl, a1, _, _, _, rfl, rfl, SqT.of (tk _ _ e1), rfl, hq _ _ (Same.refl _) (Dat.mkBag (fun z => ?_) (tk _ _ ew))⟩
        have := tk _ _ ew
        rw [z, eD8] at this
        cases this
      intro H5 us5 s5 eD5 du5
      rw [hul, flat_around] at du5
      have bg5 := Bgs.of du5
      have s05 := sm.trans s5
      have ekn5 := s5 _ _ ekn
      generalize hrs : (lay k).flatMap (fun z => around ts z) = rs at bg5
      have rs_iff : ∀ y, (y ∈ rs ∧ valV (entL lay (k + 1)) (y.map Sum.inl) = none) ↔ Wk.Dst (around ts) (k + 1) x y := fun y => by
        rw [← hrs]
        exact next_iff ly
      -- edge
      refine ⟨_, rfl, D, rfl, ⟨_, SqL.of eD5⟩, fun D2 hD2 => ?_⟩
      have nk2 : kn ≠ D2 := ne_of_none ekn5 hD2
      have tk0 : ∀ {H' : Hp}, But D2 H5 H' → TK H5 H' := fun {H'} b c xs e => b c _ (ne_of_none e hD2) e
      refine sc_it (walk_list (xs := us5)) (fun i H' => But D2 H5 H' ∧ ∃ L : List (Addr × List Int), H' D2 = some (SetGO P w D2 L) ∧ (∀ p ∈ L, H' p.1 = some (.tup (p.2.map V.int))) ∧ (L.map (·.2)).Nodup ∧ ∀ y, y ∈ L.map (·.2) ↔ (y ∈ rs.take i ∧ valV (entL lay (k + 1)) (y.map Sum.inl) = none))
        ⟨but_upd, [], upd_same, fun p hp => absurd hp List.not_mem_nil, List.nodup_nil, fun y => ⟨fun h => absurd h List.not_mem_nil, fun h => absurd h.1 (by rw [List.take_zero]; exact List.not_mem_nil)⟩⟩ (fun i H' _ hP => SqL.of (hP.1 _ _ (ne_of_none eD5 hD2) eD5)) ?_ ?_
      · rintro i v H6 H7 hi ⟨b6, L, eL, tL, ndL, memL⟩ ⟨rfl, hv⟩
        obtain ⟨b, y, rfl, hy, eb⟩ := bg5.get hv
        have eb7 := tk0 b6 _ _ eb
        have ekn7 := b6 _ _ nk2 ekn5
        have etk : rs.take (i + 1) = rs.take i ++ [y] := by
          rw [List.take_add_one, hy]
          rfl
        have ymem : y ∈ rs := List.mem_of_getElem? hy
        refine ⟨rfl, ?_⟩
        refine ⟨_, rfl, _, rfl, kn, _, rfl, DGet.t (k := y.map Sum.inl) ekn7 (by rw [keyI_vals]; exact eb7), _, rfl, ?_⟩
        cases hval : valV (entL lay (k + 1)) (y.map Sum.inl) with
        | some u =>
          refine iteF ⟨b6, L, eL, tL, ndL, fun z => (memL z).trans ⟨fun h => ⟨by rw [etk]; exact List.mem_append_left _ h.1, h.2⟩, fun h => ⟨?_, h.2⟩⟩⟩
          have h1 := h.1
          rw [etk] at h1
          rcases List.mem_append.mp h1 with h1 | h1
          · exact h1
          · rw [List.mem_singleton.mp h1, hval] at h
            cases h.2
        | none =>
          have small : (L.map (·.2)).length ≤ 129 := layer_len ev lx few (n := k + 1) (by omega) ndL fun z hz => by
            have := (memL z).mp hz
            exact ((rs_iff z).mp ⟨List.mem_of_mem_take this.1, this.2⟩).1
          rw [List.length_map] at small
          refine iteT ⟨_, rfl, b, y, L, rfl, SqT.of eb7, eL, fun p hp => SqT.of (tL p hp), by omega, fun L' h1 h2 => ?_⟩
          refine ⟨b6.trans but_upd, L', upd_same, ?_⟩
          have nD : ∀ c xs, H7 c = some (.tup xs) → c ≠ D2 := fun c xs e z => by
            rw [z, eL] at e
            cases e
          have ntk : ∀ p ∈ L', H7 p.1 = some (.tup (p.2.map V.int)) → upd H7 D2 (SetGO P w D2 L') p.1 = some (.tup (p.2.map V.int)) := fun p _ e => by
            rw [upd_ne (nD _ _ e)]
            exact e
          by_cases hm : y ∈ L.map (·.2)
          · have eL' := h1 hm
            subst eL'
            refine ⟨fun p hp => ntk p hp (tL p hp), ndL, fun z => ?_⟩
            rw [memL z, etk]
            refine ⟨fun h => ⟨List.mem_append_left _ h.1, h.2⟩, fun h => ⟨?_, h.2⟩⟩
            rcases List.mem_append.mp h.1 with h3 | h3
            · exact h3
            · rw [List.mem_singleton.mp h3]
              exact ((memL y).mp hm).1
          · have pm := h2 hm
            refine ⟨fun p hp => ntk p hp ?_, (pm.map (·.2)).nodup_iff.mpr (List.nodup_cons.mpr ⟨hm, ndL⟩), fun z => ?_⟩
            · rcases List.mem_cons.mp (pm.mem_iff.mp hp) with e | hp
              · rw [e]
                exact eb7
              · exact tL p hp
            · rw [(pm.map (·.2)).mem_iff, List.map_cons, List.mem_cons, memL z, etk]
              constructor
              · rintro (e | h)
                · rw [e]
                  exact ⟨List.mem_append_right _ (List.mem_singleton.mpr rfl), hval⟩
                · exact ⟨List.mem_append_left _ h.1, h.2⟩
              · rintro ⟨h3, h4⟩
                rcases List.mem_append.mp h3 with h3 | h3
                · exact .inr ⟨h3, h4⟩
                · exact .inl (List.mem_singleton.mp h3)
      · rintro H6 ⟨b6, L, eL, tL, ndL, memL⟩
        have el : rs.take us5.length = rs := by rw [bg5.length, List.take_length]
        rw [el] at memL
        have s56 : Same H5 H6 := fun b o e => b6 b o (ne_of_none e hD2) e
        have memD : ∀ y, y ∈ L.map (·.2) ↔ Wk.Dst (around ts) (k + 1) x y := fun y => (memL y).trans (rs_iff y)
        refine ⟨fun _ => True, D2, L, rfl, eL, fun p hp => Dat.mkBag trivial (tL p hp), fun p hp => ?_, fun L1 ep pL1 hep => ?_⟩
        · have := (rch_place ev lx ((memD p.2).mp (List.mem_map_of_mem hp)).1).1
          intro z
          rw [z] at this
          simp at this
          omega
        have pm2 : ((L1.mergeSort leG).map (·.2)).Perm (L.map (·.2)) := ((List.mergeSort_perm L1 leG).trans pL1).map _
        have srt := leG_srt L1
        have bgN : Bgs H6 ((L1.mergeSort leG).map fun q => V.ref q.1) ((L1.mergeSort leG).map (·.2)) := Bgs.pairs fun q hq => tL q (((List.mergeSort_perm L1 leG).trans pL1).mem_iff.mp hq)
        have ndN := pm2.nodup_iff.mpr ndL
        have memN : ∀ y, y ∈ (L1.mergeSort leG).map (·.2) ↔ Wk.Dst (around ts) (k + 1) x y := fun y => pm2.mem_iff.trans (memD y)
        generalize (L1.mergeSort leG).map (·.2) = new at srt bgN ndN memN
        generalize ((L1.mergeSort leG).map fun q => V.ref q.1) = us7 at bgN ⊢
        have s7 := same_upd (o := .lst us7) hep
        have ee7 : upd H6 ep (.lst us7) ep = some (.lst us7) := upd_same
        generalize upd H6 ep (.lst us7) = H7 at s7 ee7 ⊢
        have s07 := (s05.trans s56).trans s7
        have ekn7 := s7 _ _ (s56 _ _ ekn5)
        have bg7 := bgN.tk (TK.of s7)
        have nke7 : kn ≠ ep := ne_of_none (s56 _ _ ekn5) hep
        have ly2 := lays_next ly ndN memN srt
        have lenN := bg7.length
        have smallN : new.length ≤ 129 := layer_len ev lx few (n := k + 1) (by omega) ndN fun y hy => ((memN y).mp hy).1
        have lenE := ent_len ev lx ly few (by omega) (k + 1) (Nat.le_refl _)
        have k6 : k + 1 ≤ 6 := by rcases few with z | z <;> omega
        have lenE2 : (k + 1) * 129 ≤ 6 * 129 := Nat.mul_le_mul_right _ k6
        -- for other in edge
        refine ⟨_, rfl, ep, rfl, ⟨_, SqL.of ee7⟩, ?_⟩
        refine for_it (walk_list (xs := us7)) (fun i σ H' => ∃ y10, σ = [some mv, some (.ref sa), some (.int (d : Int)), some (.ref kn), some (.ref ep), some (.int ((k + 1 : Nat) : Int)), some (.ref D), y7, y8, y9, y10] ∧ Same H H' ∧ TK H7 H' ∧ H' kn = some (.dT (entL lay (k + 1) ++ (new.take i).map fun y => (y.map Sum.inl, V.int ((k + 1 : Nat) : Int)))) ∧ H' ep = some (.lst us7))
          ⟨y10, rfl, s07, TK.refl _, by rw [List.take_zero, List.map_nil, List.append_nil]; exact ekn7, ee7⟩ (fun i σ H' _ hP => by
            obtain ⟨_, _, _, _, _, e⟩ := hP
            exact SqL.of e) ?_ ?_
        · rintro i v σ H8 H9 hi ⟨y10, rfl, s8, tk8, ekn8, ee8⟩ ⟨rfl, hv⟩
          obtain ⟨b, y, rfl, hy, eb⟩ := bg7.get hv
          have eb8 := tk8 _ _ eb
          have hno : valV (entL lay (k + 1) ++ (new.take i).map fun y => ((y.map Sum.inl : List L2.Key), V.int ((k + 1 : Nat) : Int))) (y.map Sum.inl) = none := valV_none fun p hp e => by
            rcases List.mem_append.mp hp with hp | hp
            · obtain ⟨j, z, hj, hz, rfl⟩ := mem_entL.mp hp
              have ez : z = y := keyI_inj e
              subst ez
              have := Wk.dst_uniq ((ly.mem j (by omega) z).mp hz) ((memN z).mp (List.mem_of_getElem? hy))
              omega
            · obtain ⟨z, hz, rfl⟩ := List.mem_map.mp hp
              have ez : z = y := keyI_inj e
              subst ez
              obtain ⟨j, hj⟩ := List.getElem?_of_mem hz
              have hji : j < i := by
                have := (List.getElem?_eq_some_iff.mp hj).1
                rw [List.length_take] at this
                omega
              rw [List.getElem?_take, if_pos hji] at hj
              have := (List.getElem?_inj (List.getElem?_eq_some_iff.mp hj).1 ndN).mp (hj.trans hy.symm)
              omega
          refine ⟨_, rfl, _, rfl, _, rfl, kn, _, rfl, DPut.t (k := y.map Sum.inl) ekn8 (by rw [keyI_vals]; exact eb8) ?_, ?_⟩
          · rw [List.length_append, List.length_map, List.length_take, sizeLine_eq]
            omega
          · rw [putK_new hno, List.append_assoc]
            refine ⟨_, rfl, fun c o e => ?_, tk8.trans (TK.upd ekn8 fun _ z => nomatch z), ?_, ?_⟩
            · rw [upd_ne (ne_of_none e hkn)]
              exact s8 _ _ e
            · rw [upd_same, List.take_add_one, hy, List.map_append]
              rfl
            · rw [upd_ne nke7.symm]
              exact ee8
        · rintro σ H8 ⟨y10, rfl, s8, tk8, ekn8, ee8⟩
          rw [lenN, List.take_length, ← ent_next] at ekn8
          exact ⟨ep, us7, layN lay k new, _, _, _, _, _, _, rfl, s8, ekn8, ly2, ee8, by rw [layN_new]; exact bg7.tk tk8⟩
    · rintro σ H3 ⟨ed, us, lay, y5, y6, y7, y8, y9, y10, rfl, sm, ekn, ly, eed, bu⟩
      exact ⟨_, rfl, q H3 kn lay sm hkn ekn ly⟩

end
end Lb
set_option Elab.async false
set_option linter.all false
set_option maxRecDepth 100000
set_option maxHeartbeats 8000000
namespace Lb
open PySem PySem.Spec PyProof.Rows L2 RZ TL
section
variable {P : Program} {w : World} {K : PySem.W.Frag} {mg : Str → Option Value} {base : Heap}
theorem own_eachnear (D : Df K mg "each_near" s_each_near) (B : Blt mg) (O_distances : Own P w K mg base "distances" 5 ["market", "stock", "steps"] spDist) : OwnZ P w K mg base "each_near" 6 ["market", "stock", "steps"] spEach := by
  refine ownZ_of (N := ["market", "stock", "steps", "other", "distance"]) D ⟨rfl, rfl, rfl, by decide, rfl, by decide +kernel, by decide +kernel⟩ (fun _ _ _ _ _ _ us hl => match us, hl with | [_, _, _], _ => rfl) (fun vs H Q E h => ?_) (fun f cdv A outer s H vs Q E pn hr h => ?_)
  · obtain ⟨_, _, _, _, _, _, rfl, _⟩ := h
    rfl
  · obtain ⟨mv, sv, g, ts, x, d, rfl, S, few, q⟩ := h
    have nd : (["market", "stock", "steps", "other", "distance"] : List Str).Nodup := by decide
    refine ⟨_, gsz_for owns_gcx rfl (pi_itemsT (pe_frz (pe_own O_distances (hr.mono (by omega)) (by rfl) (pa_cons (pv 0) (pa_cons (pv 1) (pa_cons (pv 2) pa_nil)))))) (pg_tup rfl (pgs_cons (pg_name (i := 3) nd rfl (.inl rfl)) (pgs_cons (pg_name (i := 4) nd rfl (.inl rfl)) pgs_nil))) (pe_tup (pa_cons (pv 4) (pa_cons (pv 3) pa_nil))), ?_⟩
    refine ⟨_, rfl, _, rfl, _, rfl, mv, sv, g, ts, x, d, rfl, S, few, fun H1 a lay s1 na ea ly => ?_⟩
    refine ⟨a, _, rfl, ea, True.intro, fun od => ⟨a, od, entL lay (d + 1), rfl, upd_same, ?_⟩⟩
    have hlen := ent_len S.ev S.lx ly few (Nat.le_refl d) (d + 1) (Nat.le_refl _)
    have d6 : d ≤ 6 := by rcases few with z | z <;> omega
    have hle2 : (d + 1) * 129 ≤ 7 * 129 := Nat.mul_le_mul_right _ (by omega)
    have hnl := near_len lay (d + 1)
    have s2 : Same H (upd H1 a (.frz od (.dT (entL lay (d + 1))))) := fun b o e => by
      rw [upd_ne (ne_of_none e na)]
      exact s1 _ _ e
    have e2 : upd H1 a (.frz od (.dT (entL lay (d + 1)))) a = some (.frz od (.dT (entL lay (d + 1)))) := upd_same
    generalize upd H1 a (.frz od (.dT (entL lay (d + 1)))) = H2 at s2 e2 ⊢
    refine ⟨fun i m ys σ H' => m = (entL lay (d + 1)).length - i ∧ i ≤ (entL lay (d + 1)).length ∧ (∃ y3 y4, σ = [some mv, some sv, some (.int (d : Int)), y3, y4]) ∧ Same H H' ∧ H' a = some (.frz od (.dT (entL lay (d + 1)))) ∧ Dats (fun _ => True) H' ys ((nearL lay (d + 1)).take i),
      ⟨_, rfl, Nat.zero_le _, ⟨none, none, rfl⟩, s2, e2, by rw [List.take_zero]; exact .nil⟩, ?_⟩
    rintro i m ys σ H3 ⟨rfl, hi, ⟨y3, y4, rfl⟩, s3, e3, dys⟩
    have hyl : ys.length = i := by
      rw [dys.length, List.length_take]
      omega
    by_cases hlt : i < (entL lay (d + 1)).length
    · refine .inr ⟨⟨e3, hlt⟩, _, fun ys' σ' H' h => ⟨(entL lay (d + 1)).length - (i + 1), by omega, h⟩, ?_⟩
      rintro v H4 ⟨T, k, w', q', hkv, hq, rfl, hT, rfl⟩
      obtain ⟨j, y, rfl, rfl, hnj⟩ := near_at hkv
      have sT := same_upd (o := .tup [.ref q', .int ((j : Nat) : Int)]) hT
      have eT : upd H3 T (.tup [.ref q', .int ((j : Nat) : Int)]) T = some (.tup [.ref q', .int ((j : Nat) : Int)]) := upd_same
      generalize upd H3 T (.tup [.ref q', .int ((j : Nat) : Int)]) = H4 at sT eT ⊢
      rw [keyI_vals] at hq
      refine ⟨T, _, rfl, SqT.of eT, rfl, _, _, rfl, _, _, rfl, rfl, ?_⟩
      refine ⟨by rw [hyl, sizeLine_eq]; omega, _, rfl, _, rfl, (by show 2 ≤ sizeLine; decide), fun p hp => ?_⟩
      have sp := same_upd (o := .tup [.int ((j : Nat) : Int), .ref q']) hp
      refine ⟨rfl, hlt, ⟨_, _, rfl⟩, (s3.trans sT).trans sp, sp _ _ (sT _ _ e3), ?_⟩
      rw [List.take_add_one, hnj]
      exact ((dys.same sT).same sp).append (.cons (.tup trivial upd_same (.cons (.int _) (.cons (Dat.mkBag trivial (sp _ _ (sT _ _ hq))) .nil))) .nil)
    · obtain rfl : i = (entL lay (d + 1)).length := by omega
      refine .inl ⟨⟨e3, Nat.le_refl _⟩, ?_⟩
      rw [← hnl, List.take_length] at dys
      exact q H3 lay ys s3 ly dys

end
end Lb
set_option Elab.async false
set_option linter.all false
set_option maxRecDepth 100000
set_option maxHeartbeats 8000000
namespace Lb
open PySem PySem.Spec PyProof.Rows L2 RZ TL
section
variable {P : Program} {w : World} {K : PySem.W.Frag} {mg : Str → Option Value} {base : Heap}
theorem sc__law_draw : FnScope ["_law_deck_here", "_law_many", "_law_cells", "_law_turn", "_law_rests", "_law_at", "_law_digit", "_law_mixed", "_law_again"] ["_law_deck_here", "_law_many"] (defScope s__law_draw) := ⟨rfl, rfl, rfl, by decide +kernel, rfl, by decide +kernel, by decide +kernel⟩
theorem own_draw (D : Df K mg "_law_draw" s__law_draw) (B : Blt mg) : Own P w K mg base "_law_draw" 1 ["_law_deck_here", "_law_many"] spDraw := by
  refine own_of D sc__law_draw (fun _ _ _ _ _ _ us hl => match us, hl with | [_, _], _ => rfl) (fun vs H Q E h => ?_) (fun f cdv A outer s H vs Q E hr h => ?_)
  · obtain ⟨_, _, _, _, _, rfl, _⟩ := h
    rfl
  · obtain ⟨d, c, r, n, m, rfl, dk, hn, hm, hm2, q⟩ := h
    obtain ⟨t, cs, rs, ht, h0, h64, hrl, n1, n2, n3, e1, e2, e3⟩ := dk
    refine ⟨_, (pss_cons (ps_asg (pv 0) (pg_lst rfl (pgs_cons (pg_name (i := 2) sc__law_draw.nd rfl (.inl rfl)) (pgs_cons (pg_name (i := 3) sc__law_draw.nd rfl (.inl rfl)) (pgs_cons (pg_name (i := 4) sc__law_draw.nd rfl (.inl rfl)) pgs_nil)))))
      (pss_cons (ps_set (i := 5) sc__law_draw.nd rfl (.inl rfl) (pe_op op_mod (pe_callTy (T := "int") call_int1 (by rfl) B.b_int PyProof.Rows.boot_int (pa_cons (pv 3) pa_nil)) (pe_callB (id := "len") call_len_seq (by rfl) B.b_len PySem.boot_len (pa_cons (pv 2) pa_nil))))
      (pss_cons (ps_asg (pe_op op_add (pv 3) pe_int) (pg_sub (pv 0) pe_int set_list))
      (pss_cons (ps_if (pt_cmpR op_gt (pe_ix ix_list (pv 4) (pv 5) (fun _ _ => rfl)) pe_int (nomark _)) (pss_cons (ps_set (i := 6) sc__law_draw.nd rfl (.inl rfl) (pe_op op_mod (pe_callTy (T := "int") call_int1 (by rfl) B.b_int PyProof.Rows.boot_int (pa_cons (pe_ix ix_list (pv 4) (pv 5) (fun _ _ => rfl)) pa_nil)) (pv 1)))
      (pss_cons (ps_asg (pe_op op_fdiv (pe_ix ix_list (pv 4) (pv 5) (fun _ _ => rfl)) (pv 1)) (pg_sub (pv 4) (pv 5) set_list))
      (pss_one (ps_ret (pv 6))))) pss_nil)
      (pss_cons (ps_set (i := 7) sc__law_draw.nd rfl (.inl rfl) (pe_op op_mod (pe_op op_pow (pe_op op_add (pe_op op_add (pe_op op_mod (pe_callTy (T := "int") call_int1 (by rfl) B.b_int PyProof.Rows.boot_int (pa_cons (pe_ix ix_list (pv 2) (pv 5) (fun _ _ => rfl)) pa_nil)) pe_int) (pe_op op_mul pe_int (pv 3))) pe_int) pe_int) pe_int))
      (pss_cons (ps_set (i := 8) sc__law_draw.nd rfl (.inl rfl) (pe_op op_mod (pe_op op_pow (pe_op op_add (pe_op op_add (pv 7) (pe_op op_mul pe_int (pv 3))) pe_int) pe_int) pe_int))
      (pss_one (ps_ret (pe_op op_mod (pe_op op_mod (pe_callTy (T := "int") call_int1 (by rfl) B.b_int PyProof.Rows.boot_int (pa_cons (pe_op op_add (pe_op op_mul (pv 8) pe_int) (pv 7)) pa_nil)) pe_int) (pv 1)))))))))), ?_⟩
    -- cells, turn, rests = deck; at = int(turn) % len(cells)
    refine ⟨_, rfl, d, _, rfl, SqL.of e1, rfl, _, _, rfl, _, _, rfl, _, _, rfl, rfl, ?_⟩
    refine ⟨_, rfl, .inl ⟨_, rfl, ?_⟩⟩
    refine ⟨_, rfl, c, _, rfl, .inl (SqL.of e2), _, _, rfl, rfl, ?_, ?_⟩
    · show (0 : Int) < ((cs.map V.int).length : Int)
      rw [List.length_map]
      omega
    dsimp only
    rw [List.length_map]
    obtain ⟨j, hj, ej⟩ := emod_nat (t : Int) h0
    rw [ej]
    -- deck[1] = turn + 1
    refine ⟨_, rfl, _, _, rfl, rfl, ?_⟩
    refine ⟨_, rfl, d, _, _, 1, rfl, rfl, e1, rfl, ?_⟩
    have hr1 : upd H d (.lst ([V.ref c, .int (t : Int), .ref r].set 1 (.int ((t : Int) + 1)))) r = some (.lst (rs.map V.int)) := by
      rw [upd_ne n2.symm]
      exact e3
    have hc1 : upd H d (.lst ([V.ref c, .int (t : Int), .ref r].set 1 (.int ((t : Int) + 1)))) c = some (.lst (cs.map V.int)) := by
      rw [upd_ne n1.symm]
      exact e2
    -- if rests[at] > 0
    refine ⟨_, rfl, _, rfl, r, _, _, _, rfl, rfl, SqL.of hr1, nat_at (by omega), _, _, rfl, rfl, _, rfl, ite2 (fun hp => ?_) (fun hp => ?_)⟩
    · refine ⟨_, rfl, _, rfl, r, _, _, _, rfl, rfl, SqL.of hr1, nat_at (by omega), .inl ⟨_, rfl, ?_⟩⟩
      refine ⟨_, rfl, _, _, rfl, rfl, ?_, ?_⟩
      · show (0 : Int) < (m : Int)
        omega
      obtain ⟨v, hv, ev⟩ := emod_nat (rs.getD j 0) hm
      dsimp only
      rw [ev]
      refine ⟨_, rfl, _, rfl, r, _, _, _, rfl, rfl, SqL.of hr1, nat_at (by omega), ?_⟩
      refine ⟨_, rfl, _, _, rfl, rfl, ⟨by omega, by omega⟩, ?_⟩
      refine ⟨_, rfl, _, rfl, r, _, _, j, rfl, rfl, hr1, ixN_nat (by rw [List.length_map]; omega), ?_⟩
      refine ⟨_, rfl, q _ v hv ⟨t + 1, cs, rs.set j (rs.getD j 0 / (m : Int)), by omega, h0, h64, by rw [List.length_set]; exact hrl, n1, n2, n3, ?_, ?_, ?_⟩ ?_⟩
      · rw [upd_ne n2, upd_same]
        rfl
      · rw [upd_ne n3]
        exact hc1
      · rw [upd_same, List.map_set]
      · intro b o z1 z2 e
        rw [upd_ne z2, upd_ne z1]
        exact e
    · have ht2 : (t : Int) < 2 ^ 40 := by omega
      have md : ∀ (a b : Int), 0 < b → 0 ≤ a % b ∧ a % b < b := fun a b hb => ⟨Int.emod_nonneg a (by omega), Int.emod_lt_of_pos a hb⟩
      refine ⟨_, rfl, _, rfl, c, _, _, _, rfl, rfl, SqL.of hc1, nat_at hj, .inl ⟨_, rfl, ?_⟩⟩
      refine ⟨_, _, rfl, rfl, (by show (0 : Int) < 2147483543; decide), ?_⟩
      have k1 := md (cs.getD j 0) 2147483543 (by decide)
      refine ⟨_, rfl, _, _, rfl, rfl, .inl ⟨by decide, by decide⟩, _, _, rfl, rfl, _, _, rfl, rfl, _, _, rfl, rfl, ⟨by decide, by decide, ?_⟩, _, _, rfl, rfl, (by show (0 : Int) < 2147483497; decide), ?_⟩
      · generalize cs.getD j 0 % 2147483543 = x at k1
        show (x + 75979 * (t : Int) + 4481).natAbs < 2 ^ 64
        omega
      dsimp only
      generalize hm3 : (cs.getD j 0 % 2147483543 + 75979 * (t : Int) + 4481) ^ (3 : Int).toNat % 2147483497 = mx
      have k2 := md ((cs.getD j 0 % 2147483543 + 75979 * (t : Int) + 4481) ^ (3 : Int).toNat) 2147483497 (by decide)
      rw [hm3] at k2
      refine ⟨_, rfl, _, rfl, _, _, rfl, rfl, .inl ⟨by decide, by decide⟩, _, _, rfl, rfl, _, _, rfl, rfl, _, _, rfl, rfl, ⟨by decide, by decide, ?_⟩, _, _, rfl, rfl, (by show (0 : Int) < 2147483423; decide), ?_⟩
      · show (mx + 7919 * (t : Int) + 13).natAbs < 2 ^ 64
        omega
      refine ⟨_, rfl, _, _, rfl, rfl, .inr ⟨by decide, by decide⟩, _, rfl, _, _, rfl, rfl, .inl ⟨_, rfl, ?_⟩⟩
      refine ⟨_, _, rfl, rfl, (by show (0 : Int) < 4611686018427387847; decide), _, rfl, _, _, rfl, rfl, ?_, ?_⟩
      · show (0 : Int) < (m : Int)
        omega
      dsimp only
      generalize (mx + 7919 * (t : Int) + 13) ^ (3 : Int).toNat % 2147483423 * 2147483399 + mx = z
      obtain ⟨v, hv, ev⟩ := emod_nat (z % 4611686018427387847) hm
      rw [ev]
      refine q _ v hv ⟨t + 1, cs, rs, by omega, h0, h64, hrl, n1, n2, n3, ?_, hc1, hr1⟩ fun b o z1 z2 e => ?_
      · rw [upd_same]
        rfl
      · rw [upd_ne z1]
        exact e

end
end Lb
set_option Elab.async false
set_option linter.all false
set_option maxRecDepth 100000
set_option maxHeartbeats 8000000
namespace Lb
open PySem PySem.Spec PyProof.Rows L2 RZ TL
section
variable {P : Program} {w : World} {K : PySem.W.Frag} {mg : Str → Option Value} {base : Heap}
theorem sc__law_deck : FnScope ["_law_script", "_law_cells", "_law_cell"] ["_law_script"] (defScope s__law_deck) := ⟨rfl, rfl, rfl, by decide +kernel, rfl, by decide +kernel, by decide +kernel⟩
theorem own_deck (D : Df K mg "_law_deck" s__law_deck) (B : Blt mg) : Own P w K mg base "_law_deck" 1 ["_law_script"] (spDeck K) := by
  refine own_of D sc__law_deck (fun _ _ _ _ _ _ us hl => match us, hl with | [_], _ => rfl) (fun vs H Q E h => ?_) (fun f cdv A outer s H vs Q E hr h => ?_)
  · obtain ⟨_, _, rfl, _⟩ := h
    rfl
  · obtain ⟨a, ns, rfl, hS, hl, q⟩ := h
    refine ⟨_, (pss_cons (ps_set (i := 1) sc__law_deck.nd rfl (.inl rfl) (pe_op op_cat (pe_callTy (T := "list") call_list_of (by rfl) B.b_list (by decide +kernel) (pa_cons (pe_slice sl_list (pv 0) po_none (po_some pe_int)) pa_nil)) (pe_op op_rep (pe_lst (pa_cons pe_int pa_nil)) (pe_callTy (T := "int") call_int1 (by rfl) B.b_int PyProof.Rows.boot_int (pa_cons (pe_cmpR op_eq (pe_callB (id := "len") call_len_seq (by rfl) B.b_len PySem.boot_len (pa_cons (pv 0) pa_nil)) pe_int (nomark _)) pa_nil)))))
      (pss_one (ps_ret (pe_lst (pa_cons (pv 1) (pa_cons pe_int (pa_cons (pe_lc (own := [("_law_cell", 2)]) (g := gName 2) (tt := tYes) rfl sc__law_deck.nd (pi_list (pv 1)) (blkOk_by (own := [("_law_cell", 2)]) (N := ["_law_script", "_law_cells", "_law_cell"]) (sc := defScope s__law_deck) (by decide +kernel)) (fun _ _ _ _ _ => (pg_name (i := 2) sc__law_deck.nd rfl (.inl rfl))) (fun _ _ _ _ _ => pts_nil) (fun _ _ _ _ _ => (pe_op op_mul (pv 2) (pe_callTy (T := "int") call_int1 (by rfl) B.b_int PyProof.Rows.boot_int (pa_cons (pe_cmpR op_ge (pv 2) (pe_op op_pow pe_int pe_int) (nomark _)) pa_nil))))) pa_nil))))))), ?_⟩
    -- list(script[:63])
    refine ⟨_, rfl, 63, rfl, a, _, rfl, hS, fun p1 z1 => ?_⟩
    have s1 := same_upd (o := .lst (cutV (ns.map V.int) none (some 63))) z1
    refine ⟨p1, _, rfl, .inl (SqL.of upd_same), fun p2 z2 => ?_⟩
    have s2 := s1.trans (same_upd (o := .lst (cutV (ns.map V.int) none (some 63))) z2)
    -- [0] * int(len(script) == 0)
    refine ⟨(by show 1 ≤ sizeLine; decide), fun p3 z3 => ?_⟩
    have s3 := s2.trans (same_upd (o := .lst [V.int 0]) z3)
    refine ⟨_, rfl, a, _, rfl, .inl (s3.seq hS), rfl, .inr ⟨_, rfl, ?_⟩⟩
    have hb : ∀ b : Bool, (-(2 ^ 63) : Int) ≤ (if b then 1 else 0) ∧ (if b then (1 : Int) else 0) < 2 ^ 63 ∧ [V.int 0].length * (if b then (1 : Int) else 0).toNat ≤ sizeLine := fun b => by cases b <;> decide
    obtain ⟨b1, b2, b3⟩ := hb (decide (V.int ((ns.map V.int).length : Int) = V.int 0))
    refine ⟨p3, _, _, rfl, rfl, upd_same, b1, b2, b3, fun p4 z4 => ?_⟩
    dsimp only
    generalize hcs : (List.replicate (if decide (V.int ((ns.map V.int).length : Int) = V.int 0) = true then (1 : Int) else 0).toNat [V.int 0]).flatten = more at *
    have s4 := s3.trans (same_upd (o := .lst more) z4)
    have e2 : upd (upd (upd (upd H p1 (.lst (cutV (ns.map V.int) none (some 63)))) p2 (.lst (cutV (ns.map V.int) none (some 63)))) p3 (.lst [V.int 0])) p4 (.lst more) p2 = some (.lst (cutV (ns.map V.int) none (some 63))) :=
      same_upd z4 _ _ (same_upd z3 _ _ upd_same)
    obtain ⟨zs, hz, hz2⟩ : ∃ zs : List Int, more = zs.map V.int ∧ 0 < ns.length + zs.length ∧ zs.length ≤ 1 := by
      rw [← hcs]
      cases ns with
      | nil => exact ⟨[0], rfl, by decide, by decide⟩
      | cons x xs => exact ⟨[], by
          rw [decide_eq_false (fun z => by
            have := V.int.inj z
            simp at this
            omega)]
          rfl, by simp, by simp⟩
    subst hz
    rw [cut63 ns hl] at *
    refine ⟨p2, p4, _, _, rfl, rfl, e2, upd_same, ?_, fun p5 z5 => ?_⟩
    · rw [List.length_map, List.length_map]
      exact Nat.le_of_lt (small1000 (by omega))
    generalize hH5 : upd (upd (upd (upd (upd H p1 (.lst (ns.map V.int))) p2 (.lst (ns.map V.int))) p3 (.lst [V.int 0])) p4 (.lst (zs.map V.int))) p5 (.lst (ns.map V.int ++ zs.map V.int)) = H5
    have e5 : H5 p5 = some (.lst ((ns ++ zs).map V.int)) := by
      rw [← hH5, upd_same, List.map_append]
    have s5 : Same H H5 := by
      rw [← hH5]
      exact s4.trans (same_upd z5)
    have f5 : H p5 = none := s4.free z5
    -- [cells, 0, [..]]
    refine ⟨_, rfl, _, rfl, p5, rfl, ⟨_, SqL.of e5⟩, fun D hD => ?_⟩
    have f6 : H D = none := s5.free hD
    have n56 : p5 ≠ D := ne_of_none e5 hD
    refine lc_list (K := K) (a := p5) (xs := (ns ++ zs).map V.int) (fun i H' => Same H5 H' ∧ ∃ rs : List Int, rs.length = i ∧ H' D = some (.lst (rs.map V.int)))
      ⟨same_upd hD, [], rfl, upd_same⟩ (fun i H' _ hP => hP.1.seq (SqL.of e5)) ?_ ?_
    · rintro i x H' hi ⟨sm, rs, hr1, hr2⟩
      have hlt : i < (ns ++ zs).length := by
        have := (List.getElem?_eq_some_iff.mp hi).1
        rw [List.length_map] at this
        exact this
      obtain ⟨u, rfl, _⟩ := int_at hi
      refine ⟨rfl, all_in ?_⟩
      refine ⟨_, rfl, _, rfl, _, _, rfl, rfl, ⟨by decide, by decide, by decide⟩, _, _, rfl, rfl, .inr ⟨_, rfl, ?_⟩⟩
      refine ⟨_, _, rfl, rfl, .inr ?_, rs.map V.int, hr2, ?_, ?_, ?_⟩
      · cases decide ((10 : Int) ^ (18 : Int).toNat ≤ u) <;> exact ⟨by decide, by decide⟩
      · rw [List.length_map]
        exact small1000 (by rw [List.length_append] at hlt; omega)
      · intro b o e
        rw [upd_ne (ne_of_none e hD)]
        exact sm _ _ e
      · refine ⟨rs ++ [u * (if decide ((10 : Int) ^ (18 : Int).toNat ≤ u) = true then 1 else 0)], by rw [List.length_append, hr1]; rfl, ?_⟩
        rw [upd_same, List.map_append]
        rfl
    · rintro H' ⟨sm, rs, hr1, hr2⟩
      rw [List.length_map] at hr1
      refine ⟨(by show 3 ≤ sizeLine; decide), fun p7 z7 => ?_⟩
      have s7 := same_upd (o := .lst [V.ref p5, V.int 0, V.ref D]) z7
      have a5 := s7 _ _ (sm _ _ e5)
      have aD := s7 _ _ hr2
      refine q _ p7 p5 D ((s5.trans sm).trans s7) ((s5.trans sm).free z7) f5 f6 ⟨0, ns ++ zs, rs, Nat.le_refl _, ?_, ?_, hr1, ?_, ?_, n56, upd_same, a5, aD⟩
      · rw [List.length_append]
        exact hz2.1
      · rw [List.length_append]
        omega
      · exact (ne_of_none (sm _ _ e5) z7).symm
      · exact (ne_of_none hr2 z7).symm

end
end Lb
set_option Elab.async false
set_option linter.all false
set_option maxRecDepth 100000
set_option maxHeartbeats 8000000
namespace Lb
open PySem PySem.Spec PyProof.Rows L2 RZ TL
section
variable {P : Program} {w : World} {K : PySem.W.Frag} {mg : Str → Option Value} {base : Heap}
theorem sc__law_bag : FnScope ["_law_deck_here", "_law_goods", "_law_most", "_law_good"] ["_law_deck_here", "_law_goods", "_law_most"] (defScope s__law_bag) := ⟨rfl, rfl, rfl, by decide +kernel, rfl, by decide +kernel, by decide +kernel⟩
theorem own_bag (D : Df K mg "_law_bag" s__law_bag) (B : Blt mg) (O__law_draw : Own P w K mg base "_law_draw" 1 ["_law_deck_here", "_law_many"] spDraw) : Own P w K mg base "_law_bag" 2 ["_law_deck_here", "_law_goods", "_law_most"] spBag := by
  refine own_of D sc__law_bag (fun _ _ _ _ _ _ us hl => match us, hl with | [_, _, _], _ => rfl) (fun vs H Q E h => ?_) (fun f cdv A outer s H vs Q E hr h => ?_)
  · obtain ⟨_, _, _, _, _, _, rfl, _⟩ := h
    rfl
  · obtain ⟨d, c, r, n, g, m, rfl, dk, hn, hg, hm, q⟩ := h
    refine ⟨_, (pss_one (ps_ret (pe_callTy (T := "tuple") call_tuple_of (by rfl) B.b_tuple (by decide +kernel) (pa_cons (pe_lc (own := [("_law_good", 3)]) (g := gName 3) (tt := tYes) rfl sc__law_bag.nd (pi_range1 (by rfl) B.b_range (pa_cons (pv 1) pa_nil)) (blkOk_by (own := [("_law_good", 3)]) (N := ["_law_deck_here", "_law_goods", "_law_most", "_law_good"]) (sc := defScope s__law_bag) (by decide +kernel)) (fun _ _ _ _ _ => (pg_name (i := 3) sc__law_bag.nd rfl (.inl rfl))) (fun _ _ _ _ _ => pts_nil) (fun _ _ _ _ _ => (pe_own O__law_draw (hr.mono (by omega)) (by rfl) (pa_cons (pv 0) (pa_cons (pe_op op_add (pv 2) pe_int) pa_nil))))) pa_nil)))), ?_⟩
    refine ⟨_, rfl, (g : Int), rfl, by omega, by omega, fun D hD => ?_⟩
    rw [Int.toNat_natCast]
    have nd := dk.nd hD
    refine lc_range (lo := 0) (n := g) (fun i H' => ∃ b : List Int, b.length = i ∧ (∀ x ∈ b, 0 ≤ x ∧ x ≤ (m : Int)) ∧ Dk H' d c r (n + i) ∧ Kp d r H H' ∧ H' D = some (.lst (b.map V.int)))
      ⟨[], rfl, fun x hx => absurd hx List.not_mem_nil, dk.same (same_upd hD), Kp.of (same_upd hD), upd_same⟩ ?_ ?_
    · rintro i H' hi ⟨b, lb, hb, dk', k', eD⟩
      refine ⟨rfl, all_in ?_⟩
      refine ⟨_, rfl, _, rfl, _, _, rfl, rfl, ?_⟩
      refine ⟨d, c, r, n + i, m + 1, rfl, dk', by omega, by omega, by omega, fun H2 v hv dk2 k2 => ?_⟩
      refine ⟨_, k2 _ _ nd.1 nd.2.1 eD, by rw [List.length_map]; exact small1000 (by omega), b ++ [(v : Int)], by rw [List.length_append, lb]; rfl, fun x hx => ?_, upd_dk dk2 nd.1 nd.2.1 nd.2.2, fun z o z1 z2 ez => ?_, ?_⟩
      · rcases List.mem_append.mp hx with h | h
        · exact hb x h
        · rw [List.mem_singleton.mp h]
          omega
      · rw [upd_ne (ne_of_none ez hD)]
        exact k2 _ _ z1 z2 (k' _ _ z1 z2 ez)
      · rw [upd_same, List.map_append]
        rfl
    · rintro H' ⟨b, lb, hb, dk', k', eD⟩
      refine ⟨D, _, rfl, .inl ⟨SqL.of eD, fun p hp => ?_⟩⟩
      have sp := same_upd (o := .tup (b.map V.int)) hp
      exact q _ p b lb hb (kp_free k' dk' hp) upd_same (dk'.same sp) (k'.trans (Kp.of sp))

end
end Lb
set_option Elab.async false
set_option linter.all false
set_option maxRecDepth 100000
set_option maxHeartbeats 8000000
namespace Lb
open PySem PySem.Spec PyProof.Rows L2 RZ TL
section
variable {P : Program} {w : World} {K : PySem.W.Frag} {mg : Str → Option Value} {base : Heap}
theorem sc__law_plus : FnScope ["_law_one", "_law_other", "_law_own", "_law_more"] ["_law_one", "_law_other"] (defScope s__law_plus) := ⟨rfl, rfl, rfl, by decide +kernel, rfl, by decide +kernel, by decide +kernel⟩
theorem own_plus (D : Df K mg "_law_plus" s__law_plus) (B : Blt mg) : Own P w K mg base "_law_plus" 1 ["_law_one", "_law_other"] (spPlus K) := by
  refine own_of D sc__law_plus (fun _ _ _ _ _ _ us hl => match us, hl with | [_, _], _ => rfl) (fun vs H Q E h => ?_) (fun f cdv A outer s H vs Q E hr h => ?_)
  · obtain ⟨_, _, _, _, rfl, _⟩ := h
    rfl
  · obtain ⟨a, b, x, y, rfl, hA, hB, hl, hl2, q⟩ := h
    refine ⟨_, (pss_one (ps_ret (pe_callTy (T := "tuple") call_tuple_of (by rfl) B.b_tuple (by decide +kernel) (pa_cons (pe_lc (own := [("_law_own", 2), ("_law_more", 3)]) (g := gTup _ 2 (gCons (gName 2) (gCons (gName 3) gNil))) (tt := tYes) rfl sc__law_plus.nd (pi_zipA (by rfl) B.b_zip (pa_cons (pv 0) (pa_cons (pv 1) pa_nil))) (blkOk_by (own := [("_law_own", 2), ("_law_more", 3)]) (N := ["_law_one", "_law_other", "_law_own", "_law_more"]) (sc := defScope s__law_plus) (by decide +kernel)) (fun _ _ _ _ _ => (pg_tup rfl (pgs_cons (pg_name (i := 2) sc__law_plus.nd rfl (.inl rfl)) (pgs_cons (pg_name (i := 3) sc__law_plus.nd rfl (.inl rfl)) pgs_nil)))) (fun _ _ _ _ _ => pts_nil) (fun _ _ _ _ _ => (pe_op op_add (pv 2) (pv 3)))) pa_nil)))), ?_⟩
    refine ⟨_, rfl, _, rfl, a, b, _, _, rfl, .inr ⟨hA, hB, fun D hD => ?_⟩⟩
    refine lc_zipT (K := K) (xs := x.map V.int) (ys := y.map V.int) (by rw [List.length_map, List.length_map]; exact hl) (fun i H' => Same H H' ∧ H' D = some (.lst (((List.zipWith (· + ·) x y).take i).map V.int)))
      ⟨same_upd hD, upd_same⟩ (fun i H' hP => ⟨same_tup hP.1 hA, same_tup hP.1 hB⟩) ?_ ?_
    · rintro i u v T H' hu hv ⟨sm, eD⟩ hT
      obtain ⟨u, rfl, hu'⟩ := int_at hu
      obtain ⟨v, rfl, hv'⟩ := int_at hv
      have nTD : D ≠ T := ne_of_none eD hT
      refine ⟨T, _, rfl, .inl (.inl upd_same), rfl, _, _, rfl, _, _, rfl, rfl, rfl, all_in ?_⟩
      refine ⟨_, rfl, _, rfl, _, _, rfl, rfl, _, (same_upd hT) _ _ eD, ?_, ?_, ?_⟩
      · rw [List.length_map, List.length_take]
        refine small1000 (Nat.le_trans (Nat.min_le_right _ _) ?_)
        rw [List.length_zipWith]
        omega
      · intro b o e
        rw [upd_ne (ne_of_none e hD)]
        exact (same_upd hT) _ _ (sm _ _ e)
      · rw [upd_same, zip_take hu' hv', List.map_append]
        rfl
    · rintro H' ⟨sm, eD⟩
      have el : (List.zipWith (· + ·) x y).take (x.map V.int).length = List.zipWith (· + ·) x y := List.take_of_length_le (by rw [List.length_zipWith, List.length_map]; omega)
      rw [el] at eD
      refine ⟨D, _, rfl, .inl ⟨SqL.of eD, fun p hp => ?_⟩⟩
      exact q _ p (sm.trans (same_upd hp)) (sm.free hp) upd_same

end
end Lb
set_option Elab.async false
set_option linter.all false
set_option maxRecDepth 100000
set_option maxHeartbeats 8000000
namespace Lb
open PySem PySem.Spec PyProof.Rows L2 RZ TL
section
variable {P : Program} {w : World} {K : PySem.W.Frag} {mg : Str → Option Value} {base : Heap}
theorem sc__law_less : FnScope ["_law_one", "_law_other", "_law_own", "_law_more"] ["_law_one", "_law_other"] (defScope s__law_less) := ⟨rfl, rfl, rfl, by decide +kernel, rfl, by decide +kernel, by decide +kernel⟩
theorem own_less (D : Df K mg "_law_less" s__law_less) (B : Blt mg) : Own P w K mg base "_law_less" 1 ["_law_one", "_law_other"] (spMinus K) := by
  refine own_of D sc__law_less (fun _ _ _ _ _ _ us hl => match us, hl with | [_, _], _ => rfl) (fun vs H Q E h => ?_) (fun f cdv A outer s H vs Q E hr h => ?_)
  · obtain ⟨_, _, _, _, rfl, _⟩ := h
    rfl
  · obtain ⟨a, b, x, y, rfl, hA, hB, hl, hl2, q⟩ := h
    refine ⟨_, (pss_one (ps_ret (pe_callTy (T := "tuple") call_tuple_of (by rfl) B.b_tuple (by decide +kernel) (pa_cons (pe_lc (own := [("_law_own", 2), ("_law_more", 3)]) (g := gTup _ 2 (gCons (gName 2) (gCons (gName 3) gNil))) (tt := tYes) rfl sc__law_less.nd (pi_zipA (by rfl) B.b_zip (pa_cons (pv 0) (pa_cons (pv 1) pa_nil))) (blkOk_by (own := [("_law_own", 2), ("_law_more", 3)]) (N := ["_law_one", "_law_other", "_law_own", "_law_more"]) (sc := defScope s__law_less) (by decide +kernel)) (fun _ _ _ _ _ => (pg_tup rfl (pgs_cons (pg_name (i := 2) sc__law_less.nd rfl (.inl rfl)) (pgs_cons (pg_name (i := 3) sc__law_less.nd rfl (.inl rfl)) pgs_nil)))) (fun _ _ _ _ _ => pts_nil) (fun _ _ _ _ _ => (pe_op op_sub (pv 2) (pv 3)))) pa_nil)))), ?_⟩
    refine ⟨_, rfl, _, rfl, a, b, _, _, rfl, .inr ⟨hA, hB, fun D hD => ?_⟩⟩
    refine lc_zipT (K := K) (xs := x.map V.int) (ys := y.map V.int) (by rw [List.length_map, List.length_map]; exact hl) (fun i H' => Same H H' ∧ H' D = some (.lst (((minusL x y).take i).map V.int)))
      ⟨same_upd hD, upd_same⟩ (fun i H' hP => ⟨same_tup hP.1 hA, same_tup hP.1 hB⟩) ?_ ?_
    · rintro i u v T H' hu hv ⟨sm, eD⟩ hT
      obtain ⟨u, rfl, hu'⟩ := int_at hu
      obtain ⟨v, rfl, hv'⟩ := int_at hv
      have nTD : D ≠ T := ne_of_none eD hT
      refine ⟨T, _, rfl, .inl (.inl upd_same), rfl, _, _, rfl, _, _, rfl, rfl, rfl, all_in ?_⟩
      refine ⟨_, rfl, _, rfl, _, _, rfl, rfl, _, (same_upd hT) _ _ eD, ?_, ?_, ?_⟩
      · rw [List.length_map, List.length_take]
        refine small1000 (Nat.le_trans (Nat.min_le_right _ _) ?_)
        rw [List.length_zipWith]
        omega
      · intro b o e
        rw [upd_ne (ne_of_none e hD)]
        exact (same_upd hT) _ _ (sm _ _ e)
      · rw [upd_same, zipW_take hu' hv', List.map_append]
        rfl
    · rintro H' ⟨sm, eD⟩
      have el : (minusL x y).take (x.map V.int).length = minusL x y := List.take_of_length_le (by rw [List.length_zipWith, List.length_map]; omega)
      rw [el] at eD
      refine ⟨D, _, rfl, .inl ⟨SqL.of eD, fun p hp => ?_⟩⟩
      exact q _ p (sm.trans (same_upd hp)) (sm.free hp) upd_same

end
end Lb
set_option Elab.async false
set_option linter.all false
set_option maxRecDepth 100000
set_option maxHeartbeats 8000000
namespace Lb
open PySem PySem.Spec PyProof.Rows L2 RZ TL
section
variable {P : Program} {w : World} {K : PySem.W.Frag} {mg : Str → Option Value} {base : Heap}
theorem sc__law_holds : FnScope ["_law_one", "_law_other", "_law_own", "_law_more"] ["_law_one", "_law_other"] (defScope s__law_holds) := ⟨rfl, rfl, rfl, by decide +kernel, rfl, by decide +kernel, by decide +kernel⟩
theorem own_lholds (D : Df K mg "_law_holds" s__law_holds) (B : Blt mg) : Own P w K mg base "_law_holds" 1 ["_law_one", "_law_other"] (spHolds K) := by
  refine own_of D sc__law_holds (fun _ _ _ _ _ _ us hl => match us, hl with | [_, _], _ => rfl) (fun vs H Q E h => ?_) (fun f cdv A outer s H vs Q E hr h => ?_)
  · obtain ⟨_, _, _, _, rfl, _⟩ := h
    rfl
  · obtain ⟨a, b, x, y, rfl, hA, hB, hl, hl2, q⟩ := h
    refine ⟨_, (pss_one (ps_ret (pe_cmpR (op_eqE hr.units0) (pe_lc (own := [("_law_own", 2), ("_law_more", 3)]) (g := gTup _ 2 (gCons (gName 2) (gCons (gName 3) gNil))) (tt := _) rfl sc__law_holds.nd (pi_zipA (by rfl) B.b_zip (pa_cons (pv 0) (pa_cons (pv 1) pa_nil))) (blkOk_by (own := [("_law_own", 2), ("_law_more", 3)]) (N := ["_law_one", "_law_other", "_law_own", "_law_more"]) (sc := defScope s__law_holds) (by decide +kernel)) (fun _ _ _ _ _ => (pg_tup rfl (pgs_cons (pg_name (i := 2) sc__law_holds.nd rfl (.inl rfl)) (pgs_cons (pg_name (i := 3) sc__law_holds.nd rfl (.inl rfl)) pgs_nil)))) (fun _ _ _ _ _ => (pts_one (pt_cmpR op_lt (pv 2) (pv 3) (nomark _)))) (fun _ _ _ _ _ => (pv 2))) (pe_lst pa_nil) (nomark _)))), ?_⟩
    refine ⟨_, rfl, _, rfl, a, b, _, _, rfl, .inr ⟨hA, hB, fun D hD => ?_⟩⟩
    refine lc_zipT (K := K) (xs := x.map V.int) (ys := y.map V.int) (by rw [List.length_map, List.length_map]; exact hl) (fun i H' => Same H H' ∧ ∃ acc, H' D = some (.lst acc) ∧ acc.isEmpty = geB (x.take i) (y.take i) ∧ acc.length ≤ i)
      ⟨same_upd hD, [], upd_same, rfl, Nat.le_refl _⟩ (fun i H' hP => ⟨same_tup hP.1 hA, same_tup hP.1 hB⟩) ?_ ?_
    · rintro i u v T H' hu hv ⟨sm, acc, eD, ee, el⟩ hT
      obtain ⟨u, rfl, hu'⟩ := int_at hu
      obtain ⟨v, rfl, hv'⟩ := int_at hv
      have nTD : D ≠ T := ne_of_none eD hT
      have hi : i < x.length := (List.getElem?_eq_some_iff.mp hu').1
      have sT := same_upd (o := .tup [V.int u, V.int v]) hT
      refine ⟨T, _, rfl, .inl (.inl upd_same), rfl, _, _, rfl, _, _, rfl, rfl, rfl, ?_⟩
      refine ⟨_, rfl, _, rfl, _, _, rfl, rfl, _, rfl, ?_⟩
      have tk : geB (x.take (i + 1)) (y.take (i + 1)) = (geB (x.take i) (y.take i) && decide (u ≥ v)) := geB_take hu' hv'
      by_cases hlt : u < v
      · rw [decide_eq_true hlt]
        refine iteT ⟨_, rfl, acc, sT _ _ eD, by rw [sizeLine_eq]; omega, fun b o e => ?_, acc ++ [V.int u], upd_same, ?_, ?_⟩
        · rw [upd_ne (ne_of_none e hD)]
          exact sT _ _ (sm _ _ e)
        · rw [tk, decide_eq_false (by omega), Bool.and_false]
          cases acc <;> rfl
        · rw [List.length_append, List.length_singleton]
          omega
      · rw [decide_eq_false hlt]
        refine iteF ⟨sm.trans sT, acc, sT _ _ eD, ?_, by omega⟩
        rw [tk, decide_eq_true (by omega), Bool.and_true]
        exact ee
    · rintro H' ⟨sm, acc, eD, ee, el⟩
      rw [List.length_map, List.take_length, hl, List.take_length] at ee
      refine ⟨Nat.zero_le _, fun M hM => ⟨D, M, acc, rfl, rfl, (same_upd hM) _ _ eD, upd_same, ?_⟩⟩
      rw [ee]
      exact q _ (sm.trans (same_upd hM))

end
end Lb
set_option Elab.async false
set_option linter.all false
set_option maxRecDepth 100000
set_option maxHeartbeats 8000000
namespace Lb
open PySem PySem.Spec PyProof.Rows L2 RZ TL
section
variable {P : Program} {w : World} {K : PySem.W.Frag} {mg : Str → Option Value} {base : Heap}
theorem sc__law_behind : FnScope ["_law_trades", "_law_stock", "_law_k", "_law_is_back", "_law_take", "_law_put"] ["_law_trades", "_law_stock", "_law_k", "_law_is_back"] (defScope s__law_behind) := ⟨rfl, rfl, rfl, by decide +kernel, rfl, by decide +kernel, by decide +kernel⟩
theorem own_behind (D : Df K mg "_law_behind" s__law_behind) (B : Blt mg) (O__law_plus : Own P w K mg base "_law_plus" 1 ["_law_one", "_law_other"] (spPlus K)) (O__law_less : Own P w K mg base "_law_less" 1 ["_law_one", "_law_other"] (spMinus K)) (O__law_holds : Own P w K mg base "_law_holds" 1 ["_law_one", "_law_other"] (spHolds K)) :
    Own P w K mg base "_law_behind" 2 ["_law_trades", "_law_stock", "_law_k", "_law_is_back"] spBehind := by
  refine own_of D sc__law_behind (fun _ _ _ _ _ _ us hl => match us, hl with | [_, _, _, _], _ => rfl) (fun vs H Q E h => ?_) (fun f cdv A outer s H vs Q E hr h => ?_)
  · obtain ⟨_, _, _, _, _, _, _, _, rfl, _⟩ := h
    rfl
  · obtain ⟨R, m, s, g, ts, x, k, b, rfl, dm, ds, hE, hg, hx, hk, new, q⟩ := h
    refine ⟨_, (pss_cons (ps_asg (pe_ifExp (pt_val (pv 3)) (pe_tup (pa_cons (pe_ix ix_tup (pe_ix ix_tup (pv 0) (pv 2) (fun _ _ => rfl)) pe_int (fun _ _ => rfl)) (pa_cons (pe_ix ix_tup (pe_ix ix_tup (pv 0) (pv 2) (fun _ _ => rfl)) pe_int (fun _ _ => rfl)) pa_nil))) (pe_tup (pa_cons (pe_ix ix_tup (pe_ix ix_tup (pv 0) (pv 2) (fun _ _ => rfl)) pe_int (fun _ _ => rfl)) (pa_cons (pe_ix ix_tup (pe_ix ix_tup (pv 0) (pv 2) (fun _ _ => rfl)) pe_int (fun _ _ => rfl)) pa_nil)))) (pg_tup rfl (pgs_cons (pg_name (i := 4) sc__law_behind.nd rfl (.inl rfl)) (pgs_cons (pg_name (i := 5) sc__law_behind.nd rfl (.inl rfl)) pgs_nil))))
      (pss_one (ps_ret (pe_ifExp (pt_val (pe_own O__law_holds (hr.mono (by omega)) (by rfl) (pa_cons (pv 1) (pa_cons (pv 4) pa_nil)))) (pe_own O__law_plus (hr.mono (by omega)) (by rfl) (pa_cons (pe_own O__law_less (hr.mono (by omega)) (by rfl) (pa_cons (pv 1) (pa_cons (pv 4) pa_nil))) (pa_cons (pv 5) pa_nil))) pe_non)))), ?_⟩
    obtain ⟨tv, ys, rfl, rtv, etv, dys⟩ := dm.tupI
    obtain ⟨tk, htk⟩ : ∃ tk, ts[k]? = some tk := ⟨_, List.getElem?_eq_getElem hk⟩
    obtain ⟨y, hy, dy⟩ := dys.get (i := k) (d := trdD tk) (by rw [List.getElem?_map, htk]; rfl)
    obtain ⟨ay, v1, v2, rfl, ry, ey, dv1, dv2⟩ := Dat.pair dy
    obtain ⟨b1, rfl, rb1, eb1⟩ := dv1.bag
    obtain ⟨b2, rfl, rb2, eb2⟩ := dv2.bag
    obtain ⟨bs, rfl, rbs, ebs⟩ := ds.bag
    obtain ⟨l1, l2⟩ := hE tk (List.mem_of_getElem? htk)
    have eB : behind ts x k b = if b = true then exch x tk.2 tk.1 else exch x tk.1 tk.2 := by
      unfold behind
      rw [htk]
    refine ⟨_, rfl, _, rfl, ?_⟩
    cases b with
    | true =>
      refine iteT ?_
      refine ⟨_, rfl, _, rfl, tv, _, _, _, rfl, rfl, .inl (.inl etv), atI_nat hy, ay, _, _, _, rfl, rfl, tup_at0 ey, rfl, _, rfl, _, rfl, tv, _, _, _, rfl, rfl, .inl (.inl etv), atI_nat hy, ay, _, _, _, rfl, rfl, tup_at0 ey, rfl, ?_⟩
      refine ⟨(by show 2 ≤ sizeLine; decide), fun p1 z1 => ?_⟩
      have s1 := same_upd (o := .tup [V.ref b2, V.ref b1]) z1
      refine ⟨p1, _, rfl, .inl (.inl upd_same), rfl, _, _, rfl, _, _, rfl, rfl, ?_⟩
      generalize upd H p1 (.tup [V.ref b2, V.ref b1]) = H1 at s1 ⊢
      have eB2 : behind ts x k true = exch x tk.2 tk.1 := eB
      refine ⟨_, rfl, _, rfl, bs, b2, x, tk.2, rfl, .inl (.inl (s1 _ _ ebs)), .inl (.inl (s1 _ _ eb2)), by omega, by omega, fun H2 s2 => ?_⟩
      refine ⟨_, rfl, ?_⟩
      have s12 := s1.trans s2
      cases hgb : geB x tk.2 with
      | false =>
        refine iteF (q H2 .non s12 ?_)
        rw [eB2]
        unfold exch
        rw [hgb]
        exact .non
      | true =>
        refine iteT ⟨_, rfl, _, rfl, bs, b2, x, tk.2, rfl, .inl (.inl (s12 _ _ ebs)), .inl (.inl (s12 _ _ eb2)), by omega, by omega, fun H3 p3 s3 n3 e3 => ?_⟩
        have s13 := s12.trans s3
        refine ⟨_, rfl, p3, b1, _, tk.1, rfl, .inl (.inl e3), .inl (.inl (s13 _ _ eb1)), by rw [List.length_zipWith]; omega, by rw [List.length_zipWith]; omega, fun H4 p4 s4 n4 e4 => q H4 _ (s13.trans s4) ?_⟩
        rw [eB2]
        unfold exch
        rw [hgb, if_pos rfl]
        exact Dat.mkBag (new _ (s13.free n4)) e4
    | false =>
      refine iteF ?_
      refine ⟨_, rfl, _, rfl, tv, _, _, _, rfl, rfl, .inl (.inl etv), atI_nat hy, ay, _, _, _, rfl, rfl, tup_at0 ey, rfl, _, rfl, _, rfl, tv, _, _, _, rfl, rfl, .inl (.inl etv), atI_nat hy, ay, _, _, _, rfl, rfl, tup_at0 ey, rfl, ?_⟩
      refine ⟨(by show 2 ≤ sizeLine; decide), fun p1 z1 => ?_⟩
      have s1 := same_upd (o := .tup [V.ref b1, V.ref b2]) z1
      refine ⟨p1, _, rfl, .inl (.inl upd_same), rfl, _, _, rfl, _, _, rfl, rfl, ?_⟩
      generalize upd H p1 (.tup [V.ref b1, V.ref b2]) = H1 at s1 ⊢
      have eB2 : behind ts x k false = exch x tk.1 tk.2 := eB
      refine ⟨_, rfl, _, rfl, bs, b1, x, tk.1, rfl, .inl (.inl (s1 _ _ ebs)), .inl (.inl (s1 _ _ eb1)), by omega, by omega, fun H2 s2 => ?_⟩
      refine ⟨_, rfl, ?_⟩
      have s12 := s1.trans s2
      cases hgb : geB x tk.1 with
      | false =>
        refine iteF (q H2 .non s12 ?_)
        rw [eB2]
        unfold exch
        rw [hgb]
        exact .non
      | true =>
        refine iteT ⟨_, rfl, _, rfl, bs, b1, x, tk.1, rfl, .inl (.inl (s12 _ _ ebs)), .inl (.inl (s12 _ _ eb1)), by omega, by omega, fun H3 p3 s3 n3 e3 => ?_⟩
        have s13 := s12.trans s3
        refine ⟨_, rfl, p3, b2, _, tk.2, rfl, .inl (.inl e3), .inl (.inl (s13 _ _ eb2)), by rw [List.length_zipWith]; omega, by rw [List.length_zipWith]; omega, fun H4 p4 s4 n4 e4 => q H4 _ (s13.trans s4) ?_⟩
        rw [eB2]
        unfold exch
        rw [hgb, if_pos rfl]
        exact Dat.mkBag (new _ (s13.free n4)) e4

end
end Lb
set_option Elab.async false
set_option linter.all false
set_option maxRecDepth 100000
set_option maxHeartbeats 8000000
namespace Lb
open PySem PySem.Spec PyProof.Rows L2 RZ TL
section
variable {P : Program} {w : World} {K : PySem.W.Frag} {mg : Str → Option Value} {base : Heap}
theorem sc__law_side : FnScope ["_law_deck_here", "_law_goods", "_law_most", "_law_row", "_law_k", "_law_at"] ["_law_deck_here", "_law_goods", "_law_most"] (defScope s__law_side) := ⟨rfl, rfl, rfl, by decide +kernel, rfl, by decide +kernel, by decide +kernel⟩
theorem own_side (D : Df K mg "_law_side" s__law_side) (B : Blt mg) (O__law_draw : Own P w K mg base "_law_draw" 1 ["_law_deck_here", "_law_many"] spDraw) : Own P w K mg base "_law_side" 2 ["_law_deck_here", "_law_goods", "_law_most"] spSide := by
  refine own_of D sc__law_side (fun _ _ _ _ _ _ us hl => match us, hl with | [_, _, _], _ => rfl) (fun vs H Q E h => ?_) (fun f cdv A outer s H vs Q E hr h => ?_)
  · obtain ⟨_, _, _, _, _, _, rfl, _⟩ := h
    rfl
  · obtain ⟨d, c, r, n, g, m, rfl, dk, hn, hg, hg2, hm, q⟩ := h
    refine ⟨_, (pss_cons (ps_set (i := 3) sc__law_side.nd rfl (.inl rfl) (pe_op op_rep (pe_lst (pa_cons pe_int pa_nil)) (pv 1)))
      (pss_cons (ps_for PassesOwn.never rfl (pi_range1 (by rfl) B.b_range (pa_cons (pe_own O__law_draw (hr.mono (by omega)) (by rfl) (pa_cons (pv 0) (pa_cons (pe_op op_add (pv 2) pe_int) pa_nil))) pa_nil)) (pg_name (i := 4) sc__law_side.nd rfl (.inl rfl))
        (pss_cons (ps_set (i := 5) sc__law_side.nd rfl (.inl rfl) (pe_own O__law_draw (hr.mono (by omega)) (by rfl) (pa_cons (pv 0) (pa_cons (pv 1) pa_nil))))
      (pss_one (ps_asg (pe_op op_add (pe_ix ix_list (pv 3) (pv 5) (fun _ _ => rfl)) (pe_callTy (T := "int") call_int1 (by rfl) B.b_int PyProof.Rows.boot_int (pa_cons (pe_cmpR op_lt (pe_ix ix_list (pv 3) (pv 5) (fun _ _ => rfl)) pe_int (nomark _)) pa_nil))) (pg_sub (pv 3) (pv 5) set_list)))))
      (pss_one (ps_ret (pe_callTy (T := "tuple") call_tuple_of (by rfl) B.b_tuple (by decide +kernel) (pa_cons (pv 3) pa_nil)))))), ?_⟩
    -- row = [0] * goods
    refine ⟨(by show 1 ≤ sizeLine; decide), fun p1 z1 => ?_⟩
    refine ⟨_, rfl, p1, _, _, rfl, rfl, upd_same, by omega, by omega, ?_, fun p2 z2 => ?_⟩
    · show 1 * (g : Int).toNat ≤ sizeLine
      exact Nat.le_of_lt (small1000 (by omega))
    have e0 : (List.replicate (g : Int).toNat [V.int 0]).flatten = (List.replicate g (0 : Int)).map V.int := by
      rw [Int.toNat_natCast, rep0]
    dsimp only
    rw [e0]
    have s2 : Same H (upd (upd H p1 (.lst [V.int 0])) p2 (.lst ((List.replicate g (0 : Int)).map V.int))) := (same_upd z1).trans (same_upd z2)
    generalize hH2 : upd (upd H p1 (.lst [V.int 0])) p2 (.lst ((List.replicate g (0 : Int)).map V.int)) = H2 at *
    have e2 : H2 p2 = some (.lst ((List.replicate g (0 : Int)).map V.int)) := by
      rw [← hH2, upd_same]
    have f2 : H p2 = none := (same_upd z1).free z2
    -- range(draw(deck, most + 1))
    refine ⟨_, rfl, _, rfl, _, _, rfl, rfl, ?_⟩
    refine ⟨d, c, r, n, m + 1, rfl, dk.same s2, by omega, by omega, by omega, fun H3 v hv dk3 k3 => ?_⟩
    have nd := dk.nd f2
    refine ⟨(v : Int), rfl, by omega, by omega, ?_⟩
    rw [Int.toNat_natCast]
    refine for_range (n := v) (fun i σ H' => ∃ (y4 y5 : Option V) (b : List Int), σ = [some (.ref d), some (.int (g : Int)), some (.int (m : Int)), some (.ref p2), y4, y5] ∧ Dk H' d c r (n + 1 + i) ∧ Kp d r H H' ∧ H' p2 = some (.lst (b.map V.int)) ∧ Side g i b)
      ⟨none, none, List.replicate g 0, rfl, dk3, (Kp.of s2).trans k3, k3 _ _ nd.1 nd.2.1 e2, ?_⟩ ?_ ?_
    · refine ⟨List.length_replicate, fun x hx => ?_, ?_⟩
      · rw [(List.mem_replicate.mp hx).2]
        exact ⟨by decide, by decide⟩
      · rw [sum_rep0]
        exact Int.le_refl _
    · rintro i σ H4 hi ⟨y4, y5, b, rfl, dk4, k4, eb, sd⟩
      -- at = draw(deck, goods)
      refine ⟨_, rfl, _, rfl, d, c, r, n + 1 + i, g, rfl, dk4, by omega, hg, by omega, fun H5 j hj dk5 k5 => ?_⟩
      have eb5 : H5 p2 = some (.lst (b.map V.int)) := k5 _ _ nd.1 nd.2.1 eb
      have hjb : j < b.length := by
        rw [sd.len]
        exact hj
      -- row[at] = row[at] + int(row[at] < 3)
      refine ⟨_, rfl, _, rfl, p2, _, _, _, rfl, rfl, SqL.of eb5, nat_at hjb, ?_⟩
      refine ⟨_, rfl, _, rfl, p2, _, _, _, rfl, rfl, SqL.of eb5, nat_at hjb, _, _, rfl, rfl, .inr ⟨_, rfl, ?_⟩⟩
      refine ⟨_, _, rfl, rfl, ?_⟩
      refine ⟨_, rfl, _, rfl, p2, _, _, j, rfl, rfl, eb5, ixN_nat (by rw [List.length_map]; exact hjb), ?_⟩
      have hm0 : b.getD j 0 ∈ b := by
        rw [List.getD_eq_getElem?_getD, List.getElem?_eq_getElem hjb]
        exact List.getElem_mem hjb
      have hm1 := sd.amt _ hm0
      have hst : (b.set j (b.getD j 0 + (if decide (b.getD j 0 < 3) = true then 1 else 0))).sum = b.sum - b.getD j 0 + (b.getD j 0 + (if decide (b.getD j 0 < 3) = true then 1 else 0)) :=
        sum_set (by rw [List.getD_eq_getElem?_getD, List.getElem?_eq_getElem hjb]; rfl)
      refine ⟨_, _, b.set j (b.getD j 0 + (if decide (b.getD j 0 < 3) = true then 1 else 0)), rfl, ?_, ?_, ?_, ?_, ?_, ?_⟩
      · have n2 : p2 ≠ d := nd.1
        have n3 : p2 ≠ r := nd.2.1
        have n4 : p2 ≠ c := nd.2.2
        obtain ⟨t, cs, rs, g1, g2, g3, g4, g5, g6, g7, w1, w2, w3⟩ := dk5
        exact ⟨t, cs, rs, g1, g2, g3, g4, g5, g6, g7, by rw [upd_ne n2.symm]; exact w1, by rw [upd_ne n4.symm]; exact w2, by rw [upd_ne n3.symm]; exact w3⟩
      · intro z o z1 z2 ez
        rw [upd_ne (ne_of_none ez f2)]
        exact k5 _ _ z1 z2 (k4 _ _ z1 z2 ez)
      · rw [upd_same, List.map_set]
      · rw [List.length_set]
        exact sd.len
      · intro x hx
        rcases List.mem_or_eq_of_mem_set hx with h | h
        · exact sd.amt x h
        · rw [h]
          by_cases h3 : b.getD j 0 < 3
          · rw [decide_eq_true h3, if_pos rfl]
            omega
          · rw [decide_eq_false h3, if_neg Bool.false_ne_true]
            omega
      · rw [hst]
        have := sd.tot
        by_cases h3 : b.getD j 0 < 3
        · rw [decide_eq_true h3, if_pos rfl]
          omega
        · rw [decide_eq_false h3, if_neg Bool.false_ne_true]
          omega
    · rintro σ H4 ⟨y4, y5, b, rfl, dk4, k4, eb, sd⟩
      refine ⟨_, rfl, p2, _, rfl, .inl ⟨SqL.of eb, fun p hp => ?_⟩⟩
      have sp := same_upd (o := .tup (b.map V.int)) hp
      refine q _ p b (sd.mono (by omega)) ?_ upd_same ((dk4.same sp).mono (by omega)) (k4.trans (Kp.of sp))
      cases e : H p with
      | none => rfl
      | some o =>
        have := dk4.nd hp
        rw [k4 _ _ this.1 this.2.1 e] at hp
        cases hp

end
end Lb
set_option Elab.async false
set_option linter.all false
set_option maxRecDepth 100000
set_option maxHeartbeats 8000000
namespace Lb
open PySem PySem.Spec PyProof.Rows L2 RZ TL
section
variable {P : Program} {w : World} {K : PySem.W.Frag} {mg : Str → Option Value} {base : Heap}
theorem sc__law_trade : FnScope ["_law_deck_here", "_law_goods", "_law_most", "_law_at", "_law_many", "_law_beside", "_law_good", "_law_one", "_law_other"] ["_law_deck_here", "_law_goods", "_law_most"] (defScope s__law_trade) := ⟨rfl, rfl, rfl, by decide +kernel, rfl, by decide +kernel, by decide +kernel⟩
theorem own_trade (D : Df K mg "_law_trade" s__law_trade) (B : Blt mg) (O__law_draw : Own P w K mg base "_law_draw" 1 ["_law_deck_here", "_law_many"] spDraw) (O__law_side : Own P w K mg base "_law_side" 2 ["_law_deck_here", "_law_goods", "_law_most"] spSide)
    (O__law_plus : Own P w K mg base "_law_plus" 1 ["_law_one", "_law_other"] (spPlus K)) : Own P w K mg base "_law_trade" 3 ["_law_deck_here", "_law_goods", "_law_most"] spTrade := by
  refine own_of D sc__law_trade (fun _ _ _ _ _ _ us hl => match us, hl with | [_, _, _], _ => rfl) (fun vs H Q E h => ?_) (fun f cdv A outer s H vs Q E hr h => ?_)
  · obtain ⟨_, _, _, _, _, _, _, rfl, _⟩ := h
    rfl
  · obtain ⟨R, d, c, r, n, g, m, rfl, dk, hn, hg, hg2, hm, rg, q⟩ := h
    refine ⟨_, (pss_cons (ps_if (PW.pt (pw_or (pt_cmpR op_lt (pv 2) pe_int (nomark _)) (pw_or1 (pt_cmpR op_eq (pe_own O__law_draw (hr.mono (by omega)) (by rfl) (pa_cons (pv 0) (pa_cons pe_int pa_nil))) pe_int (nomark _))))) (pss_one (ps_ret (pe_tup (pa_cons (pe_own O__law_side (hr.mono (by omega)) (by rfl) (pa_cons (pv 0) (pa_cons (pv 1) (pa_cons (pv 2) pa_nil)))) (pa_cons (pe_own O__law_side (hr.mono (by omega)) (by rfl) (pa_cons (pv 0) (pa_cons (pv 1) (pa_cons (pv 2) pa_nil)))) pa_nil))))) pss_nil)
      (pss_cons (ps_asg (pe_tup (pa_cons (pe_own O__law_draw (hr.mono (by omega)) (by rfl) (pa_cons (pv 0) (pa_cons (pv 1) pa_nil))) (pa_cons (pe_op op_add pe_int (pe_own O__law_draw (hr.mono (by omega)) (by rfl) (pa_cons (pv 0) (pa_cons (pe_op op_sub (pv 2) pe_int) pa_nil)))) pa_nil))) (pg_tup rfl (pgs_cons (pg_name (i := 3) sc__law_trade.nd rfl (.inr rfl)) (pgs_cons (pg_name (i := 4) sc__law_trade.nd rfl (.inr rfl)) pgs_nil))))
      (pss_cons (ps_set (i := 5) sc__law_trade.nd rfl (.inl rfl) (pe_callTy (T := "tuple") call_tuple_of (by rfl) B.b_tuple (by decide +kernel) (pa_cons (pe_lc (own := [("_law_good", 6)]) (g := gName 6) (tt := tYes) rfl sc__law_trade.nd (pi_range1 (by rfl) B.b_range (pa_cons (pv 1) pa_nil)) (blkOk_by (own := [("_law_good", 6)]) (N := ["_law_deck_here", "_law_goods", "_law_most", "_law_at", "_law_many", "_law_beside", "_law_good", "_law_one", "_law_other"]) (sc := defScope s__law_trade) (by decide +kernel)) (fun _ _ _ _ _ => (pg_name (i := 6) sc__law_trade.nd rfl (.inl rfl))) (fun _ _ _ _ _ => pts_nil) (fun _ _ _ _ _ => (pe_op op_mul (pv 4) (pe_callTy (T := "int") call_int1 (by rfl) B.b_int PyProof.Rows.boot_int (pa_cons (pe_cmpR op_eq (pv 6) (pv 3) (nomark _)) pa_nil))))) pa_nil)))
      (pss_cons (ps_par (i := 7) (j := 8) rfl sc__law_trade.nd rfl rfl (by decide) rfl rfl (pa_cons (pe_own O__law_side (hr.mono (by omega)) (by rfl) (pa_cons (pv 0) (pa_cons (pv 1) (pa_cons pe_int pa_nil)))) (pa_cons (pe_own O__law_side (hr.mono (by omega)) (by rfl) (pa_cons (pv 0) (pa_cons (pv 1) (pa_cons pe_int pa_nil)))) pa_nil)) rfl)
      (pss_one (ps_ret (pe_ifExp (pt_cmpR op_lt (pv 4) pe_int (nomark _)) (pe_tup (pa_cons (pe_own O__law_plus (hr.mono (by omega)) (by rfl) (pa_cons (pv 7) (pa_cons (pv 5) pa_nil))) (pa_cons (pe_own O__law_plus (hr.mono (by omega)) (by rfl) (pa_cons (pv 8) (pa_cons (pv 5) pa_nil))) pa_nil))) (pe_tup (pa_cons (pe_own O__law_plus (hr.mono (by omega)) (by rfl) (pa_cons (pv 7) (pa_cons (pv 5) pa_nil))) (pa_cons (pv 5) pa_nil)))))))))), ?_⟩
    refine ⟨_, rfl, _, _, rfl, rfl, _, rfl, ite2 (fun hlt => ?_) (fun hlt => ?_)⟩
    · refine iteT ?_
      exact two_sides rfl rfl rfl dk (by omega) hg hg2 hm rg fun H' v t ok dt dk' k' => q H' v t ok dt (dk'.mono (by omega)) k'
    have hm3 : 3 ≤ m := by
      have : ¬ (m : Int) < 3 := fun z => hlt (decide_eq_true z)
      omega
    refine ⟨_, rfl, d, c, r, n, 2, rfl, dk, by omega, by omega, by omega, fun H1 v hv dk1 k1 => ?_⟩
    refine ⟨rfl, _, rfl, ite2 (fun _ => ?_) (fun _ => ?_)⟩
    · exact two_sides rfl rfl rfl dk1 (by omega) hg hg2 hm (rg.kp k1 dk1) fun H' v t ok dt dk' k' => q H' v t ok dt (dk'.mono (by omega)) (k1.trans k')
    have rg1 := rg.kp k1 dk1
    -- at, many = draw(deck, goods), 1 + draw(deck, most - 2)
    refine ⟨_, rfl, _, rfl, d, c, r, n + 1, g, rfl, dk1, by omega, hg, by omega, fun H2 at_ ha dk2 k2 => ?_⟩
    refine ⟨_, rfl, _, rfl, _, _, rfl, rfl, ?_⟩
    have em : (m : Int) - 2 = ((m - 2 : Nat) : Int) := by omega
    refine ⟨d, c, r, n + 1 + 1, m - 2, by dsimp only; rw [em]; rfl, dk2, by omega, by omega, by omega, fun H3 mm hmm dk3 k3 => ?_⟩
    refine ⟨_, _, rfl, rfl, ?_⟩
    have rg3 := (rg1.kp k2 dk2).kp k3 dk3
    have hmm1 : (1 : Int) + (mm : Int) ≤ 2 := by omega
    refine ⟨(by show 2 ≤ sizeLine; decide), fun p4 z4 => ?_⟩
    have s4 := same_upd (o := .tup [V.int (at_ : Int), V.int (1 + (mm : Int))]) z4
    refine ⟨p4, _, rfl, .inl (.inl upd_same), rfl, _, _, rfl, _, _, rfl, rfl, ?_⟩
    generalize upd H3 p4 (.tup [V.int (at_ : Int), V.int (1 + (mm : Int))]) = H4 at *
    have dk4 := dk3.same s4
    -- beside = tuple([many * int(good == at) for good in range(goods)])
    refine ⟨_, rfl, (g : Int), rfl, by omega, by omega, fun D hD => ?_⟩
    rw [Int.toNat_natCast]
    refine lc_range (lo := 0) (n := g) (fun i H' => Same H4 H' ∧ H' D = some (.lst ((besideL i at_ (1 + (mm : Int))).map V.int))) ⟨same_upd hD, upd_same⟩ ?_ ?_
    · rintro i H' hi ⟨sm, eD⟩
      refine ⟨rfl, all_in ?_⟩
      refine ⟨_, rfl, _, rfl, _, rfl, rfl, .inr ⟨_, rfl, ?_⟩⟩
      refine ⟨_, _, rfl, rfl, .inl ⟨by omega, by omega⟩, _, eD, ?_, ?_, ?_⟩
      · rw [List.length_map, beside_len]
        exact small1000 (by omega)
      · intro b o e
        rw [upd_ne (ne_of_none e hD)]
        exact sm _ _ e
      · rw [upd_same]
        unfold besideL
        rw [List.range_succ, List.map_append, List.map_append]
        rfl
    rintro H5 ⟨s5, eD⟩
    refine ⟨D, _, rfl, .inl ⟨SqL.of eD, fun p6 z6 => ?_⟩⟩
    have s6 := same_upd (o := .tup ((besideL g at_ (1 + (mm : Int))).map V.int)) z6
    have e6 : upd H5 p6 (.tup ((besideL g at_ (1 + (mm : Int))).map V.int)) p6 = some (.tup ((besideL g at_ (1 + (mm : Int))).map V.int)) := upd_same
    have s46 := s5.trans s6
    have f6 : H4 p6 = none := s5.free z6
    generalize upd H5 p6 (.tup ((besideL g at_ (1 + (mm : Int))).map V.int)) = H6 at *
    have dk6 := dk4.same s46
    have k6 : Kp d r H H6 := ((k1.trans k2).trans k3).trans (Kp.of (s4.trans s46))
    have rg6 : Rg R H6 d r := rg3.same (s4.trans s46)
    have r6 : R p6 := (rg3.same s4).new _ f6
    -- one, other = side(deck, goods, 1), side(deck, goods, 2)
    refine ⟨_, rfl, _, rfl, d, c, r, _, g, 1, rfl, dk6, by omega, hg, by omega, by omega, fun H7 p7 b7 sd7 f7 e7 dk7 k7 => ?_⟩
    refine ⟨_, rfl, _, rfl, d, c, r, _, g, 2, rfl, dk7, by omega, hg, by omega, by omega, fun H8 p8 b8 sd8 f8 e8 dk8 k8 => ?_⟩
    refine ⟨_, _, rfl, ?_⟩
    have nd6 := dk4.nd f6
    have nd7 := dk6.nd f7
    have e68 : H8 p6 = some (.tup ((besideL g at_ (1 + (mm : Int))).map V.int)) := k8 _ _ nd6.1 nd6.2.1 (k7 _ _ nd6.1 nd6.2.1 e6)
    have e78 : H8 p7 = some (.tup (b7.map V.int)) := k8 _ _ nd7.1 nd7.2.1 e7
    have rg7 := rg6.kp k7 dk7
    have rg8 := rg7.kp k8 dk8
    have r7 : R p7 := rg6.new _ f7
    have r8 : R p8 := rg7.new _ f8
    have k68 : Kp d r H H8 := (k6.trans k7).trans k8
    refine ⟨_, rfl, _, _, rfl, rfl, _, rfl, ite2 (fun hl => ?_) (fun hl => ?_)⟩
    · have hl1 : (1 : Int) + (mm : Int) < 2 := of_decide_eq_true hl
      refine ⟨_, rfl, _, rfl, p7, p6, _, _, rfl, .inl (.inl e78), .inl (.inl e68), by rw [sd7.len, beside_len], by rw [sd7.len]; omega, fun H9 p9 s9 f9 e9 => ?_⟩
      refine ⟨_, rfl, _, rfl, p8, p6, _, _, rfl, .inl (.inl (s9 _ _ e8)), .inl (.inl (s9 _ _ e68)), by rw [sd8.len, beside_len], by rw [sd8.len]; omega, fun H10 p10 s10 f10 e10 => ?_⟩
      refine ⟨(by show 2 ≤ sizeLine; decide), fun p11 z11 => ?_⟩
      have s11 := same_upd (o := .tup [V.ref p9, V.ref p10]) z11
      have rg9 := rg8.same s9
      have rg10 := rg9.same s10
      refine q _ _ (_, _) ⟨(side_plus sd7 (by omega) (by omega)).mono hm3, (side_plus sd8 (by omega) (by omega)).mono hm3⟩
        (.tup (rg10.new _ z11) upd_same (.cons (Dat.mkBag (rg8.new _ f9) (s11 _ _ (s10 _ _ e9))) (.cons (Dat.mkBag (rg9.new _ f10) (s11 _ _ e10)) .nil)))
        ((dk8.same ((s9.trans s10).trans s11)).mono (by omega)) (k68.trans (Kp.of ((s9.trans s10).trans s11)))
    · refine ⟨_, rfl, _, rfl, p7, p6, _, _, rfl, .inl (.inl e78), .inl (.inl e68), by rw [sd7.len, beside_len], by rw [sd7.len]; omega, fun H9 p9 s9 f9 e9 => ?_⟩
      refine ⟨_, rfl, (by show 2 ≤ sizeLine; decide), fun p11 z11 => ?_⟩
      have s11 := same_upd (o := .tup [V.ref p9, V.ref p6]) z11
      have rg9 := rg8.same s9
      refine q _ _ (_, _) ⟨(side_plus sd7 (by omega) (by omega)).mono hm3, (side_beside (by omega) (by omega)).mono hm3⟩
        (.tup (rg9.new _ z11) upd_same (.cons (Dat.mkBag (rg8.new _ f9) (s11 _ _ e9)) (.cons (Dat.mkBag r6 (s11 _ _ (s9 _ _ e68))) .nil)))
        ((dk8.same (s9.trans s11)).mono (by omega)) (k68.trans (Kp.of (s9.trans s11)))

end
end Lb
set_option Elab.async false
set_option linter.all false
set_option maxRecDepth 100000
set_option maxHeartbeats 8000000
namespace Lb
open PySem PySem.Spec PyProof.Rows L2 RZ TL
section
variable {P : Program} {w : World} {K : PySem.W.Frag} {mg : Str → Option Value} {base : Heap}
theorem sc__law_market : FnScope ["_law_deck_here", "_law_goods", "_law_trades", "_law_most", "_law_k"] ["_law_deck_here", "_law_goods", "_law_trades", "_law_most"] (defScope s__law_market) := ⟨rfl, rfl, rfl, by decide +kernel, rfl, by decide +kernel, by decide +kernel⟩
theorem own_market (D : Df K mg "_law_market" s__law_market) (B : Blt mg) (O__law_draw : Own P w K mg base "_law_draw" 1 ["_law_deck_here", "_law_many"] spDraw) (O__law_trade : Own P w K mg base "_law_trade" 3 ["_law_deck_here", "_law_goods", "_law_most"] spTrade) :
    Own P w K mg base "_law_market" 4 ["_law_deck_here", "_law_goods", "_law_trades", "_law_most"] spMarket := by
  refine own_of D sc__law_market (fun _ _ _ _ _ _ us hl => match us, hl with | [_, _, _, _], _ => rfl) (fun vs H Q E h => ?_) (fun f cdv A outer s H vs Q E hr h => ?_)
  · obtain ⟨_, _, _, _, _, _, _, _, rfl, _⟩ := h
    rfl
  · obtain ⟨R, d, c, r, n, g, tr, m, rfl, dk, hn, hg, hg2, ht, hm, rg, q⟩ := h
    refine ⟨_, (pss_one (ps_ret (pe_tup (pa_cons (pv 1) (pa_cons (pe_callTy (T := "tuple") call_tuple_of (by rfl) B.b_tuple (by decide +kernel) (pa_cons (pe_lc (own := [("_law_k", 4)]) (g := gName 4) (tt := tYes) rfl sc__law_market.nd (pi_range1 (by rfl) B.b_range (pa_cons (pe_own O__law_draw (hr.mono (by omega)) (by rfl) (pa_cons (pv 0) (pa_cons (pe_op op_add (pv 2) pe_int) pa_nil))) pa_nil)) (blkOk_by (own := [("_law_k", 4)]) (N := ["_law_deck_here", "_law_goods", "_law_trades", "_law_most", "_law_k"]) (sc := defScope s__law_market) (by decide +kernel)) (fun _ _ _ _ _ => (pg_name (i := 4) sc__law_market.nd rfl (.inl rfl))) (fun _ _ _ _ _ => pts_nil) (fun _ _ _ _ _ => (pe_own O__law_trade (hr.mono (by omega)) (by rfl) (pa_cons (pv 0) (pa_cons (pv 1) (pa_cons (pv 3) pa_nil)))))) pa_nil)) pa_nil))))), ?_⟩
    refine ⟨_, rfl, _, rfl, _, rfl, _, _, rfl, rfl, ?_⟩
    refine ⟨d, c, r, n, tr + 1, rfl, dk, by omega, by omega, by omega, fun H1 v hv dk1 k1 => ?_⟩
    refine ⟨(v : Int), rfl, by omega, by omega, fun L hL => ?_⟩
    rw [Int.toNat_natCast]
    have rg1 := rg.kp k1 dk1
    have ndL := dk1.nd hL
    refine lc_range (lo := 0) (n := v) (fun i H' => ∃ (ts : List Trd) (vs : List V), ts.length = i ∧ (∀ t ∈ ts, TrdOk g m t) ∧ H' L = some (.lst vs) ∧ Dats (wo R L) H' vs (ts.map trdD) ∧ Dk H' d c r (n + 1 + 20 * i) ∧ Kp d r H1 H' ∧ Rg R H' d r)
      ⟨[], [], rfl, (fun _ z => nomatch z), upd_same, .nil, dk1.same (same_upd hL), Kp.of (same_upd hL), rg1.same (same_upd hL)⟩ ?_ ?_
    · rintro i H2 hi ⟨ts, vs, hl, ok, eL, dt, dk2, k2, rg2⟩
      refine ⟨rfl, all_in ?_⟩
      refine ⟨_, rfl, _, rfl, _, rfl, wo R L, d, c, r, _, g, m, rfl, dk2, by omega, hg, hg2, hm, wo_rg rg2 eL, fun H3 u t tok dtu dk3 k3 => ?_⟩
      have eL3 : H3 L = some (.lst vs) := k3 _ _ ndL.1 ndL.2.1 eL
      have rg3 := rg2.kp k3 dk3
      refine ⟨vs, eL3, ?_, ?_⟩
      · rw [dt.length, List.length_map, hl]
        exact small1000 (by omega)
      refine ⟨ts ++ [t], vs ++ [u], by rw [List.length_append, hl]; rfl, ?_, upd_same, ?_, ?_, ?_, ?_⟩
      · intro t' ht'
        rcases List.mem_append.mp ht' with h | h
        · exact ok t' h
        · rw [List.mem_singleton.mp h]
          exact tok
      · rw [List.map_append]
        have onW : On (wo R L) H2 H3 := fun b o hb e => k3 b o (fun z => rg2.nd (z ▸ hb.1)) (fun z => rg2.nr (z ▸ hb.1)) e
        exact ((dt.on onW).append (.cons dtu .nil)).on wo_on
      · obtain ⟨t', cs, rs, g1, g2, g3, g4, g5, g6, g7, w1, w2, w3⟩ := dk3
        exact ⟨t', cs, rs, by omega, g2, g3, g4, g5, g6, g7, by rw [upd_ne ndL.1.symm]; exact w1, by rw [upd_ne ndL.2.2.symm]; exact w2, by rw [upd_ne ndL.2.1.symm]; exact w3⟩
      · intro b o z1 z2 e
        rw [upd_ne (ne_of_none e hL)]
        exact k3 _ _ z1 z2 (k2 _ _ z1 z2 e)
      · refine ⟨rg3.nd, rg3.nr, fun p hp => rg3.new p ?_⟩
        by_cases hpL : p = L
        · rw [hpL, upd_same] at hp
          cases hp
        · rw [upd_ne hpL] at hp
          exact hp
    · rintro H2 ⟨ts, vs, hl, ok, eL, dt, dk2, k2, rg2⟩
      refine ⟨L, _, rfl, .inl ⟨SqL.of eL, fun p3 z3 => ?_⟩⟩
      have s3 := same_upd (o := .tup vs) z3
      refine ⟨(by show 2 ≤ sizeLine; decide), fun p4 z4 => ?_⟩
      have s4 := same_upd (o := .tup [V.int (g : Int), V.ref p3]) z4
      have dR : Dats R H2 vs (ts.map trdD) := dt.sub fun b o hb _ => hb.1
      refine q _ _ ts (by omega) ok (.tup ((rg2.same s3).new _ z4) upd_same (.cons (.int _) (.cons (.tup (rg2.new _ z3) (s4 _ _ upd_same) (dR.same (s3.trans s4))) .nil))) ((dk2.same (s3.trans s4)).mono (by omega)) ((k1.trans k2).trans (Kp.of (s3.trans s4)))

end
end Lb
set_option Elab.async false
set_option linter.all false
set_option maxRecDepth 100000
set_option maxHeartbeats 8000000
namespace Lb
open PySem PySem.Spec PyProof.Rows L2 RZ TL
section
variable {P : Program} {w : World} {K : PySem.W.Frag} {mg : Str → Option Value} {base : Heap}
theorem sc__law_any_market : FnScope ["_law_deck_here", "_law_goods"] ["_law_deck_here"] (defScope s__law_any_market) := ⟨rfl, rfl, rfl, by decide +kernel, rfl, by decide +kernel, by decide +kernel⟩
theorem own_anyS (D : Df K mg "_law_any_market" s__law_any_market) (B : Blt mg) (O__law_draw : Own P w K mg base "_law_draw" 1 ["_law_deck_here", "_law_many"] spDraw) (O__law_market : Own P w K mg base "_law_market" 4 ["_law_deck_here", "_law_goods", "_law_trades", "_law_most"] spMarket) :
    Own P w K mg base "_law_any_market" 5 ["_law_deck_here"] spAnyS := by
  refine own_of D sc__law_any_market (fun _ _ _ _ _ _ us hl => match us, hl with | [_], _ => rfl) (fun vs H Q E h => ?_) (fun f cdv A outer s H vs Q E hr h => ?_)
  · obtain ⟨_, _, _, _, _, rfl, _⟩ := h
    rfl
  · obtain ⟨R, d, c, r, n, rfl, dk, hn, rg, q⟩ := h
    refine ⟨_, (pss_cons (ps_set (i := 1) sc__law_any_market.nd rfl (.inl rfl) (pe_op op_add pe_int (pe_own O__law_draw (hr.mono (by omega)) (by rfl) (pa_cons (pv 0) (pa_cons pe_int pa_nil)))))
      (pss_one (ps_ret (pe_own O__law_market (hr.mono (by omega)) (by rfl) (pa_cons (pv 0) (pa_cons (pv 1) (pa_cons (pe_ifExp (pt_cmpR op_lt (pv 1) pe_int (nomark _)) pe_int (pe_op op_sub pe_int (pv 1))) (pa_cons (pe_ifExp (pt_cmpR op_lt (pv 1) pe_int (nomark _)) pe_int pe_int) pa_nil)))))))), ?_⟩
    refine ⟨_, rfl, d, c, r, n, 4, rfl, dk, by omega, by omega, by omega, fun H1 v hv dk1 k1 => ?_⟩
    refine ⟨_, _, rfl, rfl, ?_⟩
    have eg : (1 : Int) + (v : Int) = ((1 + v : Nat) : Int) := by omega
    dsimp only
    rw [eg]
    have rg1 := rg.kp k1 dk1
    refine ⟨_, rfl, _, rfl, ?_⟩
    by_cases hlt : ((1 + v : Nat) : Int) < 3
    · refine ⟨_, rfl, _, _, rfl, rfl, _, rfl, ?_⟩
      rw [decide_eq_true hlt]
      refine iteT ?_
      refine ⟨_, rfl, _, _, rfl, rfl, _, rfl, ?_⟩
      rw [decide_eq_true hlt]
      refine iteT ?_
      refine ⟨R, d, c, r, n + 1, 1 + v, 4, 4, rfl, dk1, by omega, by omega, by omega, by omega, by omega, rg1, fun H' u ts hl ok dt dk' k' => ?_⟩
      exact q H' u (1 + v) ts ⟨by omega, by omega, hl, ok⟩ (.inr (by omega)) dt (dk'.mono (by omega)) (k1.trans k')
    · refine ⟨_, rfl, _, _, rfl, rfl, _, rfl, ?_⟩
      rw [decide_eq_false hlt]
      refine iteF ?_
      refine ⟨_, rfl, _, _, rfl, rfl, ?_⟩
      refine ⟨_, rfl, _, _, rfl, rfl, _, rfl, ?_⟩
      rw [decide_eq_false hlt]
      refine iteF ?_
      have e5 : (5 : Int) - ((1 + v : Nat) : Int) = ((4 - v : Nat) : Int) := by omega
      refine ⟨R, d, c, r, n + 1, 1 + v, 4 - v, 3, by dsimp only; rw [e5]; rfl, dk1, by omega, by omega, by omega, by omega, by omega, rg1, fun H' u ts hl ok dt dk' k' => ?_⟩
      exact q H' u (1 + v) ts ⟨by omega, by omega, by omega, fun t ht => ⟨(ok t ht).1.mono (by omega), (ok t ht).2.mono (by omega)⟩⟩ (.inl (by omega)) dt (dk'.mono (by omega)) (k1.trans k')

end
end Lb
set_option Elab.async false
set_option linter.all false
set_option maxRecDepth 100000
set_option maxHeartbeats 8000000
namespace Lb
open PySem PySem.Spec PyProof.Rows L2 RZ TL
section
variable {P : Program} {w : World} {K : PySem.W.Frag} {mg : Str → Option Value} {base : Heap}
theorem sc__law_around : FnScope ["_law_trades", "_law_stock", "_law_found", "_law_k", "_law_is_back", "_law_later"] ["_law_trades", "_law_stock"] (defScope s__law_around) := ⟨rfl, rfl, rfl, by decide +kernel, rfl, by decide +kernel, by decide +kernel⟩
theorem own_around (D : Df K mg "_law_around" s__law_around) (B : Blt mg) (O__law_behind : Own P w K mg base "_law_behind" 2 ["_law_trades", "_law_stock", "_law_k", "_law_is_back"] spBehind) : Own P w K mg base "_law_around" 3 ["_law_trades", "_law_stock"] spAround := by
  refine own_of D sc__law_around (fun _ _ _ _ _ _ us hl => match us, hl with | [_, _], _ => rfl) (fun vs H Q E h => ?_) (fun f cdv A outer s H vs Q E hr h => ?_)
  · obtain ⟨_, _, _, _, _, _, rfl, _⟩ := h
    rfl
  · obtain ⟨R, m, sv, g, ts, x, rfl, dm, ds, hE, hg, hx, ht, new, q⟩ := h
    refine ⟨_, (pss_cons (ps_set (i := 2) sc__law_around.nd rfl (.inl rfl) (pe_lst pa_nil))
      (pss_cons (ps_for PassesOwn.never rfl (pi_range1 (by rfl) B.b_range (pa_cons (pe_callB (id := "len") call_len_seq (by rfl) B.b_len PySem.boot_len (pa_cons (pv 0) pa_nil)) pa_nil)) (pg_name (i := 3) sc__law_around.nd rfl (.inl rfl))
        (pss_one (ps_for PassesOwn.never rfl (pi_tup (pe_tup (pa_cons pe_bl (pa_cons pe_bl pa_nil)))) (pg_name (i := 4) sc__law_around.nd rfl (.inl rfl))
        (pss_cons (ps_set (i := 5) sc__law_around.nd rfl (.inl rfl) (pe_own O__law_behind (hr.mono (by omega)) (by rfl) (pa_cons (pv 0) (pa_cons (pv 1) (pa_cons (pv 3) (pa_cons (pv 4) pa_nil))))))
      (pss_one (ps_if (pt_cmp (pc_notN (pv 5))) (pss_one (ps_expr (pe_bm PySem.F.plainAttrs_list PySem.F.slot_list_append PySem.F.type_list_append mt_append (pv 2) (pa_cons (pv 5) pa_nil)))) pss_nil))))))
      (pss_one (ps_ret (pv 2))))), ?_⟩
    obtain ⟨tv, ys, rfl, rtv, etv, dys⟩ := id dm.tupI
    have hyl : ys.length = ts.length := by rw [dys.length, List.length_map]
    refine ⟨(by show 0 ≤ sizeLine; decide), fun L hL => ?_⟩
    have subL : ∀ b o, R b → H b = some o → wo R L b := fun b o hb e => ⟨hb, ne_of_none e hL⟩
    have sL := same_upd (o := .lst []) hL
    have dm1 := (dm.sub subL).same sL
    have ds1 := (ds.sub subL).same sL
    have etv1 := sL _ _ etv
    have rtv1 := subL _ _ rtv etv
    have eL0 : upd H L (.lst []) L = some (.lst []) := upd_same
    generalize upd H L (.lst []) = H1 at sL dm1 ds1 etv1 eL0 ⊢
    have newL : ∀ {H' : Hp} {o : HO}, Same H H' → H' L = some o → ∀ p, H' p = none → wo R L p := fun {H' o} sm eL p hp => ⟨new p (sm.free hp), fun z => by rw [z, eL] at hp; cases hp⟩
    refine ⟨_, rfl, tv, ys, rfl, .inr (SqT.of etv1), _, rfl, by omega, by omega, ?_⟩
    rw [hyl, show ((ts.length : Nat) : Int).toNat = ts.length by omega]
    refine for_it (walk_range (lo := 0) (n := ts.length)) (fun k σ H' => ∃ y3 y4 y5 us, σ = [some (.ref tv), some sv, some (.ref L), y3, y4, y5] ∧ Same H H' ∧ On (wo R L) H1 H' ∧ H' L = some (.lst us) ∧ Dats (wo R L) H' us ((arnd ts x k).map bagD))
      ⟨none, none, none, [], rfl, sL, On.of (Same.refl _), eL0, .nil⟩ (fun _ _ _ _ _ => trivial) ?_ ?_
    · rintro k y σ H2 H3 hk ⟨y3, y4, y5, us, rfl, sm, on2, eL, du⟩ ⟨rfl, rfl⟩
      dsimp only
      rw [Int.zero_add]
      refine ⟨(by show 2 ≤ sizeLine; decide), fun p hp => ?_⟩
      have sp := same_upd (o := .tup [.bl false, .bl true]) hp
      have ep : upd H3 p (.tup [.bl false, .bl true]) p = some (.tup [.bl false, .bl true]) := upd_same
      generalize upd H3 p (.tup [.bl false, .bl true]) = H4 at sp ep ⊢
      have pL : p ≠ L := fun z => by
        rw [z, eL] at hp
        cases hp
      refine ⟨p, rfl, ⟨_, SqT.of ep⟩, ?_⟩
      refine for_it (walk_tup (xs := [.bl false, .bl true])) (fun j σ H' => ∃ y4 y5 us, σ = [some (.ref tv), some sv, some (.ref L), some (.int (k : Int)), y4, y5] ∧ Same H H' ∧ On (wo R L) H1 H' ∧ H' p = some (.tup [.bl false, .bl true]) ∧ H' L = some (.lst us) ∧ Dats (wo R L) H' us ((arnd ts x k ++ ([(k, false), (k, true)].take j).filterMap fun s => behind ts x s.1 s.2).map bagD))
        ⟨_, _, us, rfl, sm.trans sp, on2.trans (On.of sp), ep, sp _ _ eL, by rw [List.take_zero, List.filterMap_nil, List.append_nil]; exact du.same sp⟩ (fun j σ H' _ hP => by obtain ⟨_, _, _, _, _, _, e, _⟩ := hP; exact SqT.of e) ?_ ?_
      · rintro j z σ H5 H6 hj ⟨z4, z5, vs, rfl, sm5, on5, ep5, eL5, dv⟩ ⟨rfl, hz⟩
        obtain ⟨b, rfl, hb⟩ : ∃ b, z = .bl b ∧ [(k, false), (k, true)][j]? = some (k, b) := by
          match j, hz with
          | 0, h => exact ⟨false, (Option.some.inj h).symm, rfl⟩
          | 1, h => exact ⟨true, (Option.some.inj h).symm, rfl⟩
        have hl : vs.length ≤ 400 := by
          have h1 := arnd_len ts x k
          have h2 := List.length_filterMap_le (fun s : Nat × Bool => behind ts x s.1 s.2) ([(k, false), (k, true)].take j)
          rw [List.length_take] at h2
          have h3 : min j [(k, false), (k, true)].length ≤ 2 := Nat.min_le_right _ _
          rw [dv.length, List.length_map, List.length_append]
          omega
        have etk : [(k, false), (k, true)].take (j + 1) = [(k, false), (k, true)].take j ++ [(k, b)] := by
          rw [List.take_add_one, hb]
          rfl
        refine ⟨_, rfl, _, rfl, _, rfl, _, rfl, wo R L, .ref tv, sv, g, ts, x, k, b, rfl, dm1.on on5, ds1.on on5, hE, hg, hx, hk, newL sm5 eL5, fun H7 v s7 dw => ?_⟩
        refine ⟨_, rfl, _, rfl, ?_⟩
        cases hbe : behind ts x k b with
        | none =>
          rw [hbe] at dw
          obtain rfl := dw.nonI
          refine iteF ⟨_, _, vs, rfl, sm5.trans s7, on5.trans (On.of s7), s7 _ _ ep5, s7 _ _ eL5, ?_⟩
          rw [etk, List.filterMap_append]
          have e0 : List.filterMap (fun s : Nat × Bool => behind ts x s.1 s.2) [(k, b)] = [] := by
            rw [List.filterMap_cons, hbe]
            rfl
          rw [e0, List.append_nil]
          exact dv.same s7
        | some w =>
          rw [hbe] at dw
          obtain ⟨pw, rfl, rw_, ew⟩ := Dat.bag dw
          have eL7 := s7 _ _ eL5
          refine iteT ⟨_, rfl, .inl ⟨rfl, _, SqL.of eL7⟩, _, rfl, L, _, _, rfl, rfl, eL7, by rw [sizeLine_eq]; omega, ?_⟩
          refine ⟨_, _, vs ++ [.ref pw], rfl, fun c o e => ?_, (on5.trans (On.of s7)).trans wo_on, ?_, upd_same, ?_⟩
          · rw [upd_ne (ne_of_none e hL)]
            exact s7 _ _ (sm5 _ _ e)
          · rw [upd_ne pL]
            exact s7 _ _ ep5
          · rw [etk, List.filterMap_append]
            have e0 : List.filterMap (fun s : Nat × Bool => behind ts x s.1 s.2) [(k, b)] = [w] := by
              rw [List.filterMap_cons, hbe]
              rfl
            rw [e0, ← List.append_assoc, List.map_append]
            exact ((dv.same s7).on wo_on).append (.cons (Dat.on wo_on dw) .nil)
      · rintro σ H5 ⟨z4, z5, vs, rfl, sm5, on5, ep5, eL5, dv⟩
        refine ⟨_, _, _, vs, rfl, sm5, on5, eL5, ?_⟩
        have e1 : arnd ts x (k + 1) = arnd ts x k ++ ([(k, false), (k, true)].take [L2.V.bl false, L2.V.bl true].length).filterMap fun s => behind ts x s.1 s.2 := by
          unfold arnd
          rw [steps2_succ, List.filterMap_append]
          rfl
        rw [e1]
        exact dv
    · rintro σ H2 ⟨y3, y4, y5, us, rfl, sm, on2, eL, du⟩
      exact ⟨_, rfl, q H2 L us sm hL eL (du.sub fun b o hb _ => hb.1)⟩

end
end Lb
set_option Elab.async false
set_option linter.all false
set_option maxRecDepth 100000
set_option maxHeartbeats 8000000
namespace Lb
open PySem PySem.Spec PyProof.Rows L2 RZ TL
section
variable {P : Program} {w : World} {K : PySem.W.Frag} {mg : Str → Option Value} {base : Heap}
theorem valV_none_iff {K : Type} [DecidableEq K] {kvs : List (K × L2.V)} {k : K} : valV kvs k = none ↔ ∀ p ∈ kvs, p.1 ≠ k := by
  refine ⟨?_, valV_none⟩
  induction kvs with
  | nil => exact fun _ p hp => absurd hp List.not_mem_nil
  | cons q kvs ih =>
    intro h p hp
    by_cases e : q.1 = k
    · rw [valV_pos e] at h
      cases h
    · rw [valV_neg e] at h
      rcases List.mem_cons.mp hp with rfl | hp
      · exact e
      · exact ih h p hp
theorem seen_none {E : List (List L2.Key × L2.V)} {fr : List (List Int)} {y : List Int} {n : Int} : valV (E ++ fr.map fun z => (z.map Sum.inl, L2.V.int n)) (y.map Sum.inl) = none ↔ valV E (y.map Sum.inl) = none ∧ y ∉ fr := by
  rw [valV_none_iff, valV_none_iff]
  refine ⟨fun h => ⟨fun p hp => h p (List.mem_append_left _ hp), fun hy => h (y.map Sum.inl, L2.V.int n) (List.mem_append_right _ (List.mem_map.mpr ⟨y, hy, rfl⟩)) rfl⟩, fun ⟨h1, h2⟩ p hp e => ?_⟩
  rcases List.mem_append.mp hp with hp | hp
  · exact h1 p hp e
  · obtain ⟨z, hz, rfl⟩ := List.mem_map.mp hp
    have ez : z = y := keyI_inj e
    exact h2 (by rw [← ez]; exact hz)
theorem at_last {ls : List L2.V} {k : Nat} {v : L2.V} (hl : ls.length = k + 1) (h : ls[k]? = some v) : atI ls (-1) = some v := by
  have e : ls = ls.take k ++ [v] := by
    have := List.take_add_one (l := ls) (i := k)
    rw [h, List.take_of_length_le (by omega)] at this
    exact this
  rw [e]
  exact atI_last _ _
structure RgL (H0 : Hp) (L : Addr) (H : Hp) (ls : List L2.V) (lay : Nat → List (List Int)) (n : Nat) : Prop where
  len : ls.length = n
  at_ : ∀ j, j < n → ∃ a us, ls[j]? = some (.ref a) ∧ a ≠ L ∧ H a = some (.lst us) ∧ Bgs H us (lay j)
  new : ∀ (j : Nat) (a : Addr), ls[j]? = some (L2.V.ref a) → H0 a = none
/-- all but a and b stays -/
def Bt2 (a b : Addr) (H H' : Hp) : Prop := ∀ c o, c ≠ a → c ≠ b → H c = some o → H' c = some o
theorem sc__law_rings : FnScope ["_law_trades", "_law_stock", "_law_many", "_law_seen", "_law_layers", "_law_turn", "_law_fresh", "_law_old", "_law_later"] ["_law_trades", "_law_stock", "_law_many"] (defScope s__law_rings) := ⟨rfl, rfl, rfl, by decide +kernel, rfl, by decide +kernel, by decide +kernel⟩
theorem own_rings (D : Df K mg "_law_rings" s__law_rings) (B : Blt mg) (O__law_around : Own P w K mg base "_law_around" 3 ["_law_trades", "_law_stock"] spAround) : Own P w K mg base "_law_rings" 4 ["_law_trades", "_law_stock", "_law_many"] spRings := by
  refine own_of D sc__law_rings (fun _ _ _ _ _ _ us hl => match us, hl with | [_, _, _], _ => rfl) (fun vs H Q E h => ?_) (fun f cdv A outer s H vs Q E hr h => ?_)
  · obtain ⟨_, _, _, _, _, _, rfl, _⟩ := h
    rfl
  · obtain ⟨tv, sv, g, ts, x, d, rfl, dt, ds, ev, lx, n4, g4, g1, few, q⟩ := h
    refine ⟨_, (pss_cons (ps_par (i := 3) (j := 4) rfl sc__law_rings.nd rfl rfl (by decide) rfl rfl (pa_cons (pe_disp1 (hu8_of hr) (pv 1) pe_int) (pa_cons (pe_lst (pa_cons (pe_lst (pa_cons (pv 1) pa_nil)) pa_nil)) pa_nil)) rfl)
      (pss_cons (ps_for PassesOwn.never rfl (pi_range1 (by rfl) B.b_range (pa_cons (pv 2) pa_nil)) (pg_name (i := 5) sc__law_rings.nd rfl (.inl rfl))
        (pss_cons (ps_set (i := 6) sc__law_rings.nd rfl (.inl rfl) (pe_lst pa_nil))
      (pss_cons (ps_for PassesOwn.never rfl (pi_list (pe_ix ix_list (pv 4) (pe_un un_neg pe_int) (fun _ _ => rfl))) (pg_name (i := 7) sc__law_rings.nd rfl (.inl rfl))
        (pss_one (ps_for PassesOwn.never rfl (pi_list (pe_own O__law_around (hr.mono (by omega)) (by rfl) (pa_cons (pv 0) (pa_cons (pv 7) pa_nil)))) (pg_name (i := 8) sc__law_rings.nd rfl (.inl rfl))
        (pss_one (ps_if (pt_cmp (pc_dnotin (hu_of hr) (pv 8) (pv 3))) (pss_cons (ps_dput (hu_of hr) (pv 3) (pv 8) (pe_op op_add (pv 5) pe_int) rfl)
      (pss_one (ps_expr (pe_bm PySem.F.plainAttrs_list PySem.F.slot_list_append PySem.F.type_list_append mt_append (pv 6) (pa_cons (pv 8) pa_nil))))) pss_nil)))))
      (pss_one (ps_expr (pe_bm PySem.F.plainAttrs_list PySem.F.slot_list_append PySem.F.type_list_append mt_append (pv 4) (pa_cons (pe_callB (id := "sorted") (cr_sortA hr.units) (by rfl) B.b_sorted (by decide +kernel) (pa_cons (pv 6) pa_nil)) pa_nil)))))))
      (pss_one (ps_ret (pv 4))))), ?_⟩
    obtain ⟨sa, rfl, _, esa⟩ := ds.bag
    intro kn hkn
    have s0 := same_upd (o := .dT []) hkn
    refine ⟨_, rfl, upd_same, sa, x.map Sum.inl, rfl, by rw [keyI_vals]; exact s0 _ _ esa, ?_⟩
    have e00 : upd (upd H kn (.dT [])) kn (.dT [(x.map Sum.inl, V.int 0)]) kn = some (.dT (entL (fun _ => [x]) 1)) := by rw [upd_same, ent_zero]
    have s1 : Same H (upd (upd H kn (.dT [])) kn (.dT [(x.map Sum.inl, V.int 0)])) := fun b o e => by
      rw [upd_ne (ne_of_none e hkn)]
      exact s0 _ _ e
    generalize upd (upd H kn (.dT [])) kn (.dT [(x.map Sum.inl, V.int 0)]) = H1 at e00 s1 ⊢
    refine ⟨_, rfl, (by show 1 ≤ sizeLine; decide), fun l0 hl0 => ⟨(by show 1 ≤ sizeLine; decide), fun L hL => ?_⟩⟩
    have s2 := same_upd (o := .lst [.ref sa]) hl0
    have el0 : upd H1 l0 (.lst [.ref sa]) l0 = some (.lst [.ref sa]) := upd_same
    generalize upd H1 l0 (.lst [.ref sa]) = H2 at s2 el0 hL ⊢
    have s3 := same_upd (o := .lst [.ref l0]) hL
    have eL0 : upd H2 L (.lst [.ref l0]) L = some (.lst [.ref l0]) := upd_same
    generalize upd H2 L (.lst [.ref l0]) = H3 at s3 eL0 ⊢
    have s03 := (s1.trans s2).trans s3
    have ekn3 := s3 _ _ (s2 _ _ e00)
    have nkL : kn ≠ L := ne_of_none (s2 _ _ e00) hL
    have hLH : H L = none := (s1.trans s2).free hL
    have nl0 : l0 ≠ L := ne_of_none el0 hL
    refine ⟨_, _, rfl, ?_⟩
    refine ⟨_, rfl, (d : Int), rfl, by omega, by omega, ?_⟩
    rw [show ((d : Nat) : Int).toNat = d by omega]
    refine for_it (walk_range (lo := 0) (n := d)) (fun k σ H' => ∃ (ls : List V) (lay : Nat → List (List Int)) (Ed : List (List L2.Key × V)) (y5 y6 y7 y8 : Option V), σ = [some tv, some (.ref sa), some (.int (d : Int)), some (.ref kn), some (.ref L), y5, y6, y7, y8] ∧ Same H H' ∧ H' kn = some (.dT Ed) ∧ (∀ y : List Int, valV Ed (y.map Sum.inl) = none ↔ valV (entL lay (k + 1)) (y.map Sum.inl) = none) ∧ Ed.length ≤ (k + 1) * 129 ∧ Lays ts x k lay ∧ H' L = some (.lst ls) ∧ RgL H L H' ls lay (k + 1))
      ⟨[.ref l0], fun _ => [x], entL (fun _ => [x]) 1, none, none, none, none, rfl, s03, ekn3, fun _ => Iff.rfl, by rw [ent_zero]; show 1 ≤ (0 + 1) * 129; omega, lays_zero ts x, eL0, rfl, fun j hj => by
        obtain rfl : j = 0 := by omega
        exact ⟨l0, [.ref sa], rfl, nl0, s3 _ _ el0, .cons (s03 _ _ esa) .nil⟩, fun j a hj => by
        match j, hj with
        | 0, h => cases h; exact s1.free hl0
        | j + 1, h => simp at h⟩ (fun _ _ _ _ _ => trivial) ?_ ?_
    · rintro k y σ H4 H5 hk ⟨ls, lay, Ed, y5, y6, y7, y8, rfl, sm, ekn, hE, lenE, ly, eL, rg⟩ ⟨rfl, rfl⟩
      dsimp only
      rw [Int.zero_add]
      have d6 : d ≤ 6 := by rcases few with z | z <;> omega
      have lenE2 : (k + 1) * 129 ≤ 6 * 129 := Nat.mul_le_mul_right _ (by omega)
      -- fresh
      refine ⟨(by show 0 ≤ sizeLine; decide), fun F hF => ?_⟩
      have sF := same_upd (o := .lst []) hF
      have eF0 : upd H5 F (.lst []) F = some (.lst []) := upd_same
      generalize upd H5 F (.lst []) = Ha at sF eF0 ⊢
      have s0a := sm.trans sF
      have ekna := sF _ _ ekn
      have eLa := sF _ _ eL
      have nkF : kn ≠ F := ne_of_none ekn hF
      have nLF : L ≠ F := ne_of_none eL hF
      have hFH : H F = none := sm.free hF
      obtain ⟨ak, usk, elk, nakL, eak, bgk⟩ := rg.at_ k (by omega)
      have naF : ak ≠ F := ne_of_none eak hF
      have nak : ak ≠ kn := fun z => by
        rw [z, ekn] at eak
        cases eak
      have eaka := sF _ _ eak
      have bgka := bgk.tk (TK.of sF)
      have tk2 : ∀ {H' : Hp}, Bt2 kn F Ha H' → TK Ha H' := fun {H'} b c xs e => b c _ (fun z => by rw [z, ekna] at e; cases e) (fun z => by rw [z, eF0] at e; cases e) e
      have same2 : ∀ {H' : Hp}, Bt2 kn F Ha H' → Same H H' := fun {H'} b c o e => b c o (ne_of_none e hkn) (ne_of_none e hFH) (s0a _ _ e)
      have small : ∀ {fr : List (List Int)}, fr.Nodup → (∀ y ∈ fr, y ∈ (lay k).flatMap (fun z => around ts z) ∧ valV (Ed) (y.map Sum.inl) = none) → fr.length ≤ 129 := fun {fr} nd h =>
        layer_len ev lx few (n := k + 1) (by omega) nd fun y hy => ((next_iff ly).mp ⟨(h y hy).1, (hE y).mp (h y hy).2⟩).1
      -- for old in layers[-1]
      refine ⟨_, rfl, (1 : Int), rfl, L, ls, (-1 : Int), _, rfl, rfl, SqL.of eLa, at_last rg.len elk, ak, rfl, ⟨_, SqL.of eaka⟩, ?_⟩
      refine for_it (walk_list (xs := usk)) (fun i σ H' => ∃ (fr : List (List Int)) (us : List V) (y7 y8 : Option V), σ = [some tv, some (.ref sa), some (.int (d : Int)), some (.ref kn), some (.ref L), some (.int (k : Int)), some (.ref F), y7, y8] ∧ Bt2 kn F Ha H' ∧
          H' kn = some (.dT (Ed ++ fr.map fun y => (y.map Sum.inl, V.int ((k + 1 : Nat) : Int)))) ∧ H' F = some (.lst us) ∧ Bgs H' us fr ∧ fr.Nodup ∧ ∀ y, y ∈ fr ↔ (y ∈ ((lay k).take i).flatMap (fun z => around ts z) ∧ valV (Ed) (y.map Sum.inl) = none))
        ⟨[], [], y7, y8, rfl, fun _ _ _ _ e => e, by rw [List.map_nil, List.append_nil]; exact ekna, eF0, .nil, List.nodup_nil, fun y => ⟨fun h => absurd h List.not_mem_nil, fun h => absurd h.1 (by rw [List.take_zero]; exact List.not_mem_nil)⟩⟩
        (fun i σ H' _ hP => by
          obtain ⟨_, _, _, _, _, b, _⟩ := hP
          exact SqL.of (b _ _ nak naF eaka)) ?_ ?_
      · rintro i v σ H6 H7 hi ⟨fr, us, y7, y8, rfl, b6, ekn6, eF6, bg6, nd6, mem6⟩ ⟨rfl, hv⟩
        obtain ⟨b, z, rfl, hz, eb⟩ := bgka.get hv
        have eb7 := tk2 b6 _ _ eb
        have lz : z.length = g := (rch_place ev lx ((ly.mem k (Nat.le_refl k) z).mp (List.mem_of_getElem? hz)).1).1
        have dt7 := dt.same (same2 b6)
        refine ⟨_, rfl, _, rfl, fun _ => True, tv, .ref b, g, ts, z, rfl, dt7, Dat.mkBag trivial eb7, ev, by omega, lz, by omega, fun _ _ => trivial, fun H8 W us8 s8 nW eW du8 => ?_⟩
        have bg8 := Bgs.of du8
        have etk : (lay k).take (i + 1) = (lay k).take i ++ [z] := by
          rw [List.take_add_one, hz]
          rfl
        have nWk : W ≠ kn := fun e => by
          rw [e, ekn6] at nW
          cases nW
        have nWF : W ≠ F := fun e => by
          rw [e, eF6] at nW
          cases nW
        have b8 : Bt2 kn F Ha H8 := fun c o n1 n2 e => s8 _ _ (b6 c o n1 n2 e)
        refine ⟨W, rfl, ⟨_, SqL.of eW⟩, ?_⟩
        refine for_it (walk_list (xs := us8)) (fun j σ H' => ∃ (fr : List (List Int)) (us : List V) (y8 : Option V), σ = [some tv, some (.ref sa), some (.int (d : Int)), some (.ref kn), some (.ref L), some (.int (k : Int)), some (.ref F), some (.ref b), y8] ∧ Bt2 kn F Ha H' ∧ H' W = some (.lst us8) ∧ Bgs H' us8 (around ts z) ∧
            H' kn = some (.dT (Ed ++ fr.map fun y => (y.map Sum.inl, V.int ((k + 1 : Nat) : Int)))) ∧ H' F = some (.lst us) ∧ Bgs H' us fr ∧ fr.Nodup ∧ ∀ y, y ∈ fr ↔ ((y ∈ ((lay k).take i).flatMap (fun z => around ts z) ∨ y ∈ (around ts z).take j) ∧ valV (Ed) (y.map Sum.inl) = none))
          ⟨fr, us, y8, rfl, b8, eW, bg8, s8 _ _ ekn6, s8 _ _ eF6, bg6.tk (TK.of s8), nd6, fun y => (mem6 y).trans ⟨fun h => ⟨.inl h.1, h.2⟩, fun h => ⟨h.1.elim id fun z => absurd z (by rw [List.take_zero]; exact List.not_mem_nil), h.2⟩⟩⟩
          (fun j σ H' _ hP => by
            obtain ⟨_, _, _, _, _, e, _⟩ := hP
            exact SqL.of e) ?_ ?_
        · rintro j v2 σ H9 H10 hj ⟨fr, us, y8, rfl, b9, eW9, bW9, ekn9, eF9, bg9, nd9, mem9⟩ ⟨rfl, hv2⟩
          obtain ⟨b2, y, rfl, hy, eb2⟩ := bW9.get hv2
          have etk2 : (around ts z).take (j + 1) = (around ts z).take j ++ [y] := by
            rw [List.take_add_one, hy]
            rfl
          have inAll : y ∈ (lay k).flatMap (fun z => around ts z) := List.mem_flatMap.mpr ⟨z, List.mem_of_getElem? hz, List.mem_of_getElem? hy⟩
          have sub : ∀ w, w ∈ fr → w ∈ (lay k).flatMap (fun z => around ts z) ∧ valV (Ed) (w.map Sum.inl) = none := fun w hw => by
            obtain ⟨h1, h2⟩ := (mem9 w).mp hw
            refine ⟨?_, h2⟩
            rcases h1 with h1 | h1
            · obtain ⟨u, hu, hw'⟩ := List.mem_flatMap.mp h1
              exact List.mem_flatMap.mpr ⟨u, List.mem_of_mem_take hu, hw'⟩
            · exact List.mem_flatMap.mpr ⟨z, List.mem_of_getElem? hz, List.mem_of_mem_take h1⟩
          have len9 := small nd9 sub
          have ul9 := bg9.length
          refine ⟨_, rfl, _, rfl, kn, _, rfl, DGet.t (k := y.map Sum.inl) ekn9 (by rw [keyI_vals]; exact eb2), _, rfl, ?_⟩
          cases hval : valV (Ed ++ fr.map fun y => ((y.map Sum.inl : List L2.Key), V.int ((k + 1 : Nat) : Int))) (y.map Sum.inl) with
          | some u =>
            refine iteF ⟨fr, us, _, rfl, b9, eW9, bW9, ekn9, eF9, bg9, nd9, fun w => (mem9 w).trans ⟨fun h => ⟨h.1.imp id fun h => by rw [etk2]; exact List.mem_append_left _ h, h.2⟩, fun h => ⟨?_, h.2⟩⟩⟩
            rcases h.1 with h1 | h1
            · exact .inl h1
            · rw [etk2] at h1
              rcases List.mem_append.mp h1 with h1 | h1
              · exact .inr h1
              · rw [List.mem_singleton.mp h1] at h ⊢
                have hin : y ∈ fr := Classical.byContradiction fun hn => by
                  rw [seen_none.mpr ⟨h.2, hn⟩] at hval
                  cases hval
                exact ((mem9 y).mp hin).1
          | none =>
            obtain ⟨hn, hf⟩ := seen_none.mp hval
            refine iteT ⟨_, rfl, _, _, rfl, rfl, _, rfl, _, rfl, kn, _, rfl, DPut.t (k := y.map Sum.inl) ekn9 (by rw [keyI_vals]; exact eb2) ?_, ?_⟩
            · rw [List.length_append, List.length_map, sizeLine_eq]
              omega
            rw [putK_new hval, List.append_assoc]
            have tkk : TK H10 (upd H10 kn (.dT (Ed ++ (fr.map (fun y => (y.map Sum.inl, V.int ((k + 1 : Nat) : Int))) ++ [(y.map Sum.inl, V.int (((k : Nat) : Int) + 1))])))) := TK.upd ekn9 fun _ z => nomatch z
            have keepk : ∀ c o, c ≠ kn → H10 c = some o → upd H10 kn (.dT (Ed ++ (fr.map (fun y => (y.map Sum.inl, V.int ((k + 1 : Nat) : Int))) ++ [(y.map Sum.inl, V.int (((k : Nat) : Int) + 1))]))) c = some o := fun c o n e => by
              rw [upd_ne n]
              exact e
            have eknN : upd H10 kn (.dT (Ed ++ (fr.map (fun y => (y.map Sum.inl, V.int ((k + 1 : Nat) : Int))) ++ [(y.map Sum.inl, V.int (((k : Nat) : Int) + 1))]))) kn = some (.dT (Ed ++ (fr ++ [y]).map fun y => (y.map Sum.inl, V.int ((k + 1 : Nat) : Int)))) := by
              rw [upd_same, List.map_append]
              rfl
            dsimp only
            generalize upd H10 kn (.dT (Ed ++ (fr.map (fun y => (y.map Sum.inl, V.int ((k + 1 : Nat) : Int))) ++ [(y.map Sum.inl, V.int (((k : Nat) : Int) + 1))]))) = H11 at tkk keepk eknN ⊢
            have eF11 := keepk F _ nkF.symm eF9
            refine ⟨_, rfl, .inl ⟨rfl, _, SqL.of eF11⟩, _, rfl, F, _, _, rfl, rfl, eF11, by rw [sizeLine_eq]; omega, ?_⟩
            have tkF : TK H11 (upd H11 F (.lst (us ++ [.ref b2]))) := TK.upd eF11 fun _ z => nomatch z
            have tkA := tkk.trans tkF
            refine ⟨fr ++ [y], us ++ [.ref b2], _, rfl, fun c o n1 n2 e => ?_, ?_, bW9.tk tkA, ?_, upd_same, (bg9.tk tkA).append (.cons (tkA _ _ eb2) .nil), ?_, fun w => ?_⟩
            · rw [upd_ne n2]
              exact keepk _ _ n1 (b9 c o n1 n2 e)
            · rw [upd_ne nWF]
              exact keepk _ _ nWk eW9
            · rw [upd_ne nkF]
              exact eknN
            · rw [List.nodup_append]
              exact ⟨nd9, List.nodup_cons.mpr ⟨List.not_mem_nil, List.nodup_nil⟩, fun u hu v hv e => hf (by rw [← List.mem_singleton.mp hv, ← e]; exact hu)⟩
            · rw [List.mem_append, mem9 w, etk2, List.mem_append, List.mem_singleton]
              constructor
              · rintro (⟨h1, h2⟩ | rfl)
                · exact ⟨h1.imp id .inl, h2⟩
                · exact ⟨.inr (.inr rfl), hn⟩
              · rintro ⟨h1 | h1 | rfl, h2⟩
                · exact .inl ⟨.inl h1, h2⟩
                · exact .inl ⟨.inr h1, h2⟩
                · exact .inr rfl
        · rintro σ H9 ⟨fr, us, y8, rfl, b9, eW9, bW9, ekn9, eF9, bg9, nd9, mem9⟩
          refine ⟨fr, us, _, _, rfl, b9, ekn9, eF9, bg9, nd9, fun y => (mem9 y).trans ?_⟩
          rw [etk, List.flatMap_append, bg8.length, List.take_length, List.mem_append, List.flatMap_cons, List.flatMap_nil, List.append_nil]
      · rintro σ H6 ⟨fr, us, y7, y8, rfl, b6, ekn6, eF6, bg6, nd6, mem6⟩
        rw [bgka.length, List.take_length] at mem6
        have s6 := same2 b6
        have memN : ∀ y, y ∈ fr ↔ Wk.Dst (around ts) (k + 1) x y := fun y => (mem6 y).trans ((and_congr_right fun _ => hE y).trans (next_iff ly))
        have eL6 := b6 _ _ nkL.symm nLF eLa
        obtain ⟨new, bgn, pmn, srn⟩ := srt_bgs bg6
        have frl := small nd6 fun y hy => (mem6 y).mp hy
        have ul := bg6.length
        have datF : ∀ {vs : List V} {l : List (List Int)}, Bgs H6 vs l → Dats (fun _ => True) H6 vs (l.map bagD) := fun {vs l} h => by
          induction h with
          | nil => exact .nil
          | cons e _ ih => exact .cons (Dat.mkBag trivial e) ih
        refine ⟨_, rfl, .inl ⟨rfl, _, SqL.of eL6⟩, _, rfl, fun _ => True, F, us, fr.map bagD, rfl, eF6, datF bg6, fun d1 hd1 d2 hd2 => ?_, .inl fun d1 hd1 => ?_, fun d1 hd1 => ?_, fun p hp => ?_⟩
        · obtain ⟨u, _, rfl⟩ := List.mem_map.mp hd1
          obtain ⟨w, _, rfl⟩ := List.mem_map.mp hd2
          exact alike_bag2 _ _
        · obtain ⟨u, hu, rfl⟩ := List.mem_map.mp hd1
          have := (rch_place ev lx ((memN u).mp hu).1).1
          cases u with
          | nil =>
            simp at this
            omega
          | cons z zs => exact ⟨.int z, zs.map PyData.int, rfl⟩
        · obtain ⟨u, _, rfl⟩ := List.mem_map.mp hd1
          rw [depth_bag]
          omega
        have sp := same_upd (o := .lst ((srtA us (fr.map bagD)).map Prod.fst)) hp
        have ep : upd H6 p (.lst ((srtA us (fr.map bagD)).map Prod.fst)) p = some (.lst ((srtA us (fr.map bagD)).map Prod.fst)) := upd_same
        generalize upd H6 p (.lst ((srtA us (fr.map bagD)).map Prod.fst)) = H7 at sp ep ⊢
        have eL7 := sp _ _ eL6
        have npL : p ≠ L := fun z => by
          rw [z, eL6] at hp
          cases hp
        refine ⟨L, _, _, rfl, rfl, eL7, by rw [rg.len, sizeLine_eq]; omega, ?_⟩
        have tkL : TK H7 (upd H7 L (.lst (ls ++ [.ref p]))) := TK.upd eL7 fun _ z => nomatch z
        have s7 := s6.trans sp
        have bt7 : ∀ c o, c ≠ kn → c ≠ F → Ha c = some o → H7 c = some o := fun c o n1 n2 e => sp _ _ (b6 c o n1 n2 e)
        refine ⟨ls ++ [.ref p], layN lay k new, Ed ++ fr.map (fun y => (y.map Sum.inl, V.int ((k + 1 : Nat) : Int))), _, _, _, _, rfl, fun c o e => ?_, ?_, fun y => ?_, ?_, lays_next ly (pmn.nodup_iff.mpr nd6) (fun y => pmn.mem_iff.trans (memN y)) srn, upd_same, by rw [List.length_append, rg.len]; rfl, fun j hj => ?_, fun j a hj => ?_⟩
        · rw [upd_ne (ne_of_none e hLH)]
          exact s7 _ _ e
        · rw [upd_ne nkL]
          exact sp _ _ ekn6
        · rw [ent_next, seen_none, seen_none, hE y]
          exact and_congr_right fun _ => not_congr pmn.mem_iff.symm
        · rw [List.length_append, List.length_map, Nat.succ_mul (k + 1)]
          omega
        · by_cases hjk : j < k + 1
          · obtain ⟨a, us', e1, n1, e2, e3⟩ := rg.at_ j hjk
            have na1 : a ≠ kn := fun z => by
              rw [z, ekn] at e2
              cases e2
            refine ⟨a, us', by rw [List.getElem?_append_left (by rw [rg.len]; exact hjk)]; exact e1, n1, ?_, ?_⟩
            · rw [upd_ne n1]
              exact bt7 _ _ na1 (ne_of_none e2 hF) (sF _ _ e2)
            · rw [show layN lay k new j = lay j from if_pos (by omega)]
              exact ((e3.tk (TK.of sF)).tk (tk2 b6)).tk ((TK.of sp).trans tkL)
          · obtain rfl : j = k + 1 := by omega
            refine ⟨p, (srtA us (fr.map bagD)).map Prod.fst, by rw [List.getElem?_append_right (by rw [rg.len]; exact Nat.le_refl _), rg.len, Nat.sub_self]; rfl, npL, ?_, ?_⟩
            · rw [upd_ne npL]
              exact ep
            · rw [layN_new]
              exact bgn.tk ((TK.of sp).trans tkL)
        · rcases Nat.lt_or_ge j ls.length with z | z
          · rw [List.getElem?_append_left z] at hj
            exact rg.new j a hj
          · rw [List.getElem?_append_right z] at hj
            have e0 : j - ls.length = 0 := by
              have := (List.getElem?_eq_some_iff.mp hj).1
              simp at this
              omega
            rw [e0] at hj
            cases hj
            exact s6.free hp
    · rintro σ H4 ⟨ls, lay, Ed, y5, y6, y7, y8, rfl, sm, ekn, hE, lenE, ly, eL, rg⟩
      exact ⟨_, rfl, q H4 L ls lay sm hLH eL ⟨rg.len, fun j hj => let ⟨a, us, e1, _, e2, e3⟩ := rg.at_ j hj; ⟨a, us, e1, e2, e3⟩⟩ rg.new ly⟩

end
end Lb
set_option Elab.async false
set_option linter.all false
set_option maxRecDepth 100000
set_option maxHeartbeats 8000000
namespace Lb
open PySem PySem.Spec PyProof.Rows L2 RZ TL
section
variable {P : Program} {w : World} {K : PySem.W.Frag} {mg : Str → Option Value} {base : Heap}
theorem passN {X : Cx} : Passes (CX X.prog X.w) X noE := fun pins σ H s e s' I h => by
  obtain ⟨_, _, _, _, _, _, _, _, _, _, _, _, _, hW⟩ := h
theorem if_sel {b : Bool} {X : VK} {H : Hp} {σ : L2.St} {v w : L2.V} (h : ∀ z, ((b = true ∧ z = v) ∨ (b = false ∧ z = w)) → X z H) : if b = true then tC v σ H X else tC w σ H X := by
  cases b with
  | true => exact iteT (h v (.inl ⟨rfl, rfl⟩))
  | false => exact iteF (h w (.inr ⟨rfl, rfl⟩))
theorem Dk.but {H H' : Hp} {d c r : Addr} {n : Nat} {L : Addr} (h : Dk H d c r n) (k : L ≠ d ∧ L ≠ r ∧ L ≠ c) (b : But L H H') : Dk H' d c r n := by
  obtain ⟨t, cs, rs, q1, q2, q3, q4, q5, q6, q7, q8, q9, q10⟩ := h
  exact ⟨t, cs, rs, q1, q2, q3, q4, q5, q6, q7, b _ _ k.1.symm q8, b _ _ k.2.2.symm q9, b _ _ k.2.1.symm q10⟩
theorem near_tk {H H' : Hp} (k : TK H H') {v : L2.V} {j : Nat} {y : List Int} (h : Dat (fun _ => True) H v (nearD j y)) : Dat (fun _ => True) H' v (nearD j y) := by
  obtain ⟨a1, u1, u2, rfl, _, e1, d1, d2⟩ := Dat.pair h
  obtain rfl := d1.intI
  obtain ⟨pw, rfl, _, ew⟩ := Dat.bag d2
  exact .tup trivial (k _ _ e1) (.cons (.int _) (.cons (Dat.mkBag trivial (k _ _ ew)) .nil))
theorem nears_tk {H H' : Hp} (k : TK H H') : ∀ {vs : List L2.V} {ds : List PyData}, (∀ d ∈ ds, ∃ j y, d = nearD j y) → Dats (fun _ => True) H vs ds → Dats (fun _ => True) H' vs ds
  | _, _, _, .nil => .nil
  | _, _, h, .cons a t => by
    obtain ⟨j, y, rfl⟩ := h _ List.mem_cons_self
    exact .cons (near_tk k a) (nears_tk k (fun d hd => h d (List.mem_cons_of_mem _ hd)) t)
theorem mem_near {lay : Nat → List (List Int)} {n : Nat} {e : PyData} (h : e ∈ nearL lay n) : ∃ j y, e = nearD j y := by
  unfold nearL at h
  obtain ⟨j, _, h⟩ := List.mem_flatMap.mp h
  obtain ⟨y, _, rfl⟩ := List.mem_map.mp h
  exact ⟨j, y, rfl⟩
theorem sc_law : FnScope ["_law_script", "_law_deck_here", "_law_turn", "_law_market_here", "_law_many", "_law_stock", "_law_due", "_law_layers", "_law_distance", "_law_other", "_law_pair"] ["_law_script"] (defScope s_law) := ⟨rfl, rfl, rfl, by decide +kernel, rfl, by decide +kernel, by decide +kernel⟩
theorem fn_law {f : Addr} {fd : FuncData} (F : Fun K "law" "law" s_law f fd) (B : Blt mg) (O__law_deck : Own P w K mg base "_law_deck" 1 ["_law_script"] (spDeck K)) (O__law_any_market : Own P w K mg base "_law_any_market" 5 ["_law_deck_here"] spAnyS)
    (O__law_draw : Own P w K mg base "_law_draw" 1 ["_law_deck_here", "_law_many"] spDraw) (O__law_bag : Own P w K mg base "_law_bag" 2 ["_law_deck_here", "_law_goods", "_law_most"] spBag) (O__law_rings : Own P w K mg base "_law_rings" 4 ["_law_trades", "_law_stock", "_law_many"] spRings)
    (O_each_near : OwnZ P w K mg base "each_near" 6 ["market", "stock", "steps"] spEach) : FnG P w K mg base CX0 25 f fd ["_law_script"] (spLaw K) := by
  refine lawG_of F sc_law (fun vs H Q E h => ?_) (fun cdv A outer s H vs Q E hgd hr h => ?_)
  · obtain ⟨_, _, rfl, _⟩ := h
    rfl
  · obtain ⟨a, ns, rfl, hS, hl, q⟩ := h
    have hud : (cxOf CX0 P w K mg base ["_law_script", "_law_deck_here", "_law_turn", "_law_market_here", "_law_many", "_law_stock", "_law_due", "_law_layers", "_law_distance", "_law_other", "_law_pair"] "law" (defScope s_law) f cdv A outer s H E).nox.A.units + 110 < cLine := by
      have := hr.un
      show (A.deeper _).units + 110 < cLine
      omega
    refine ⟨_, (pss_cons (ps_set (i := 1) sc_law.nd rfl (.inl rfl) (pe_own O__law_deck (hr.mono (by omega)) (by rfl) (pa_cons (pv 0) pa_nil)))
      (pss_cons (ps_for PassesOwn.never rfl (pi_range1 (by rfl) B.b_range (pa_cons pe_int pa_nil)) (pg_name (i := 2) sc_law.nd rfl (.inl rfl))
        (pss_cons (ps_set (i := 3) sc_law.nd rfl (.inl rfl) (pe_own O__law_any_market (hr.mono (by omega)) (by rfl) (pa_cons (pv 1) pa_nil)))
      (pss_cons (ps_set (i := 4) sc_law.nd rfl (.inl rfl) (pe_own O__law_draw (hr.mono (by omega)) (by rfl) (pa_cons (pv 1) (pa_cons (pe_ifExp (pt_cmpR op_lt (pe_callB (id := "len") call_len_seq (by rfl) B.b_len PySem.boot_len (pa_cons (pe_ix ix_tup (pv 3) pe_int (fun _ _ => rfl)) pa_nil)) pe_int (nomark _)) pe_int pe_int) pa_nil))))
      (pss_cons (ps_par (i := 5) (j := 6) rfl sc_law.nd rfl rfl (by decide) rfl rfl (pa_cons (pe_own O__law_bag (hr.mono (by omega)) (by rfl) (pa_cons (pv 1) (pa_cons (pe_ix ix_tup (pv 3) pe_int (fun _ _ => rfl)) (pa_cons pe_int pa_nil)))) (pa_cons (pe_lst pa_nil) pa_nil)) rfl)
      (pss_cons (ps_set (i := 7) sc_law.nd rfl (.inl rfl) (pe_own O__law_rings (hr.mono (by omega)) (by rfl) (pa_cons (pe_ix ix_tup (pv 3) pe_int (fun _ _ => rfl)) (pa_cons (pv 5) (pa_cons (pv 4) pa_nil)))))
      (pss_cons (ps_for PassesOwn.never rfl (pi_range1 (by rfl) B.b_range (pa_cons (pe_callB (id := "len") call_len_seq (by rfl) B.b_len PySem.boot_len (pa_cons (pv 7) pa_nil)) pa_nil)) (pg_name (i := 8) sc_law.nd rfl (.inr rfl))
        (pss_one (ps_expr (pe_bm PySem.F.plainAttrs_list PySem.F.slot_list_extend PySem.F.type_list_extend mt_extend (pv 6) (pa_cons (pe_lc (own := [("_law_other", 9)]) (g := gName 9) (tt := tYes) rfl sc_law.nd (pi_list (pe_ix ix_list (pv 7) (pv 8) (fun _ _ => rfl))) (blkOk_by (own := [("_law_other", 9)]) (N := ["_law_script", "_law_deck_here", "_law_turn", "_law_market_here", "_law_many", "_law_stock", "_law_due", "_law_layers", "_law_distance", "_law_other", "_law_pair"]) (sc := defScope s_law) (by decide +kernel)) (fun _ _ _ _ _ => (pg_name (i := 9) sc_law.nd rfl (.inl rfl))) (fun _ _ _ _ _ => pts_nil) (fun _ _ _ _ _ => (pe_tup (pa_cons (pv 8) (pa_cons (pv 9) pa_nil))))) pa_nil)))))
      (pss_cons (ps_if (pt_cmpR op_ne (pe_callB (id := "repr") (call_reprD hgd hud) (by rfl) B.b_repr PyProof.Rows.boot_repr (pa_cons (pe_listG (pg_own O_each_near (hr.mono (by omega)) (by rfl) (pa_cons (pv 3) (pa_cons (pv 5) (pa_cons (pv 4) pa_nil)))).gen passN (fun _ _ _ z => z.elim) (hr.mono (by omega)) (by rfl) B.b_list (by decide +kernel)) pa_nil)) (pe_callB (id := "repr") (call_reprD hgd hud) (by rfl) B.b_repr PyProof.Rows.boot_repr (pa_cons (pv 6) pa_nil)) (nomark _)) (pss_one (ps_ret pe_bl)) pss_nil)
      (pss_one (ps_if (pt_cmpR op_ne (pe_callB (id := "repr") (call_reprD hgd hud) (by rfl) B.b_repr PyProof.Rows.boot_repr (pa_cons (pe_lcGen (own := [("_law_pair", 10)]) rfl sc_law.nd (pg_own O_each_near (hr.mono (by omega)) (by rfl) (pa_cons (pv 3) (pa_cons (pv 5) (pa_cons pe_int pa_nil)))) (blkOk_by (own := [("_law_pair", 10)]) (N := ["_law_script", "_law_deck_here", "_law_turn", "_law_market_here", "_law_many", "_law_stock", "_law_due", "_law_layers", "_law_distance", "_law_other", "_law_pair"]) (sc := defScope s_law) (by decide +kernel)) (hr.mono (by omega)) (fun _ _ => rfl) (fun _ _ => rfl)) pa_nil)) (pe_callB (id := "repr") (call_reprD hgd hud) (by rfl) B.b_repr PyProof.Rows.boot_repr (pa_cons (pe_lst (pa_cons (pe_tup (pa_cons pe_int (pa_cons (pv 5) pa_nil))) pa_nil)) pa_nil)) (nomark _)) (pss_one (ps_ret pe_bl)) pss_nil)))))))))
      (pss_one (ps_ret pe_bl)))), ?_⟩
    refine ⟨_, rfl, a, ns, rfl, hS, hl, fun H1 d c r s1 fd1 fc1 fr1 dk1 => ?_⟩
    refine ⟨6, rfl, by decide, by decide, ?_⟩
    refine for_range (n := 6) (fun i σ H' => ∃ y2 y3 y4 y5 y6 y7 y8 y9 y10, σ = [some (.ref a), some (.ref d), y2, y3, y4, y5, y6, y7, y8, y9, y10] ∧ Dk H' d c r (400 * i)) ⟨none, none, none, none, none, none, none, none, none, rfl, dk1⟩ ?_ (fun σ H' _ => q H')
    rintro i σ H2 hi ⟨y2, y3, y4, y5, y6, y7, y8, y9, y10, rfl, dk2⟩
    have rg2 := rg0 dk2
    -- market
    refine ⟨_, rfl, R0 d r, d, c, r, _, rfl, dk2, by omega, rg2, fun H3 mv g ts mok hsz dm dk3 k3 => ?_⟩
    have rg3 := rg2.kp k3 dk3
    have g1 := mok.one
    have g4 := mok.four
    have n4 := mok.many
    obtain ⟨am, tv, ys, rfl, ram, eam, rtv, etv, tys⟩ := id dm.mkt
    have hyl : ys.length = ts.length := by rw [tys.length, List.length_map]
    -- many
    refine ⟨_, rfl, _, rfl, am, _, _, _, rfl, rfl, SqT.of eam, rfl, tv, ys, rfl, .inr (SqT.of etv), _, _, rfl, rfl, _, rfl, ?_⟩
    refine if_sel fun z hz => ?_
    obtain ⟨M, rfl, hM⟩ : ∃ M : Nat, z = .int (M : Int) ∧ ((M = 7 ∧ ts.length < 2) ∨ M = 4) := by
      rcases hz with ⟨h, rfl⟩ | ⟨_, rfl⟩
      · refine ⟨7, rfl, .inl ⟨rfl, ?_⟩⟩
        have h : ((ys.length : Nat) : Int) < 2 := of_decide_eq_true h
        omega
      · exact ⟨4, rfl, .inr rfl⟩
    refine ⟨d, c, r, _, M, rfl, dk3, by omega, by omega, by omega, fun H4 most hmost dk4 k4 => ?_⟩
    have few : Few ts.length most := by
      rcases hM with ⟨rfl, h⟩ | rfl
      · exact .inr ⟨by omega, by omega⟩
      · exact .inl ⟨n4, by omega⟩
    have m6 : most ≤ 6 := by rcases few with z | z <;> omega
    have rg4 := rg3.kp k4 dk4
    have eam4 := rg3.on k4 _ _ ram eam
    -- stock, due
    refine ⟨_, rfl, _, rfl, am, _, _, _, rfl, rfl, SqT.of eam4, rfl, d, c, r, _, g, 6, rfl, dk4, by omega, by omega, by decide, fun H5 p1 b1 l1 a1 f1 e1 dk5 k5 => ?_⟩
    have rg5 := rg4.kp k5 dk5
    have dm5 := (dm.on (rg3.on k4)).on (rg4.on k5)
    have sb1 : StkB g 6 b1 := ⟨l1, a1⟩
    refine ⟨(by show 0 ≤ sizeLine; decide), fun D hD => ⟨_, _, rfl, ?_⟩⟩
    have ndD := dk5.nd hD
    have sD := same_upd (o := .lst []) hD
    have eD : upd H5 D (.lst []) D = some (.lst []) := upd_same
    generalize upd H5 D (.lst []) = H6 at sD eD ⊢
    have dk6 := dk5.same sD
    have dm6 := (dm5.same sD).sub (R' := fun _ => True) fun _ _ _ _ => trivial
    have e16 := sD _ _ e1
    obtain ⟨_, tv6, ys6, eq6, _, eam6, _, etv6, tys6⟩ := id dm6.mkt
    cases eq6
    -- layers
    refine ⟨_, rfl, am, _, _, _, rfl, rfl, SqT.of eam6, rfl, _, rfl, _, rfl, .ref tv6, .ref p1, g, ts, b1, most, rfl, .tup trivial etv6 tys6, Dat.mkBag trivial e16, mok.even, l1, n4, g4, g1, few, fun H7 L ls lay s7 nL eL rgs rnew ly => ?_⟩
    have eD7 := s7 _ _ eD
    have nDL : D ≠ L := ne_of_none eD nL
    have lsl := rgs.len
    -- for distance
    refine ⟨_, rfl, L, ls, rfl, .inl (SqL.of eL), _, rfl, by omega, by omega, ?_⟩
    rw [lsl, show ((most + 1 : Nat) : Int).toNat = most + 1 by omega]
    have tkB : ∀ {H' : Hp}, But D H7 H' → TK H7 H' := fun {H'} b c xs e => b c _ (fun z => by rw [z, eD7] at e; cases e) e
    refine for_it (walk_range (lo := 0) (n := most + 1)) (fun j σ H' => ∃ ws y8 y9 y10, σ = [some (.ref a), some (.ref d), some (.int (0 + ((i : Nat) : Int))), some (.ref am), some (.int (most : Int)), some (.ref p1), some (.ref D), some (.ref L), y8, y9, y10] ∧ But D H7 H' ∧ H' D = some (.lst ws) ∧ Dats (fun _ => True) H' ws (nearL lay j))
      ⟨[], _, _, _, rfl, fun _ _ _ e => e, eD7, .nil⟩ (fun _ _ _ _ _ => trivial) ?_ ?_
    · rintro j y σ H8 H9 hj ⟨ws, y8, y9, y10, rfl, b8, eD8, dws⟩ ⟨rfl, rfl⟩
      dsimp only
      rw [Int.zero_add]
      obtain ⟨aj, uj, elj, eaj, bgj⟩ := rgs.at_ j hj
      have eL9 := b8 _ _ nDL.symm eL
      have naj : aj ≠ D := fun z => by
        have := rnew j aj elj
        rw [z, eD] at this
        cases this
      have eaj9 := b8 _ _ naj eaj
      have bgj9 := bgj.tk (tkB b8)
      have ujl := bgj9.length
      have ujs : (lay j).length ≤ 129 := layer_len mok.even l1 few (n := j) (by omega) (ly.nd j (by omega)) fun y hy => ((ly.mem j (by omega) y).mp hy).1
      have wsl := dws.length
      rw [near_len] at wsl
      have wl2 := ent_len mok.even l1 ly few (Nat.le_refl _) j (by omega)
      have wl3 : j * 129 ≤ 7 * 129 := Nat.mul_le_mul_right _ (by omega)
      refine ⟨_, rfl, .inl ⟨rfl, _, SqL.of eD8⟩, ?_⟩
      refine ⟨_, rfl, _, rfl, L, ls, ((j : Nat) : Int), _, rfl, rfl, SqL.of eL9, atI_nat elj, aj, rfl, ⟨_, SqL.of eaj9⟩, fun D2 hD2 => ?_⟩
      refine lcd (walk_list (xs := uj)) (fun _ => true) (fun k => nearD j ((lay j).getD k [])) hD2 (by omega) (fun H' s' => SqL.of (s' _ _ eaj9)) ?_ ?_
      · rintro k v H10 H11 Qn Qy hk s10 ⟨us2, eD2⟩ ⟨rfl, hv⟩ _ hq
        obtain ⟨b, y, rfl, hy, eb⟩ := bgj9.get hv
        have eg : (lay j).getD k [] = y := by
          rw [List.getD_eq_getElem?_getD, hy]
          rfl
        rw [eg] at hq
        have eb11 := s10 _ _ eb
        refine ⟨rfl, all_in ?_⟩
        refine ⟨_, rfl, _, rfl, (by show 2 ≤ sizeLine; decide), fun p hp => hq rfl _ _ (same_upd hp) (.tup (fun z => ?_) upd_same (.cons (.int _) (.cons (Dat.mkBag (fun z => ?_) ((same_upd hp) _ _ eb11)) .nil)))⟩
        · rw [z, eD2] at hp
          cases hp
        · rw [z, eD2] at eb11
          cases eb11
      · intro H10 us2 s10 eD2 d2
        rw [List.filter_eq_self.mpr (fun _ _ => rfl), ujl, range_getD (lay j) [] fun y => nearD j y] at d2
        have us2l := d2.length
        rw [List.length_map] at us2l
        have eD10 := s10 _ _ eD8
        refine ⟨D, D2, ws, us2, rfl, rfl, eD10, eD2, by rw [sizeLine_eq]; omega, ?_⟩
        have tkD : TK H10 (upd H10 D (.lst (ws ++ us2))) := TK.upd eD10 fun _ z => nomatch z
        refine ⟨ws ++ us2, _, _, _, rfl, fun c o n e => ?_, upd_same, ?_⟩
        · rw [upd_ne n]
          exact s10 _ _ (b8 c o n e)
        · rw [nearL_succ]
          refine Dats.append (nears_tk tkD (fun e he => mem_near he) (dws.same s10)) (nears_tk tkD (fun e he => ?_) (d2.sub fun _ _ _ _ => trivial))
          obtain ⟨y, _, rfl⟩ := List.mem_map.mp he
          exact ⟨j, y, rfl⟩
    · rintro σ H8 ⟨ws, y8, y9, y10, rfl, b8, eD8, dws⟩
      have tk8 := tkB b8
      have s07 := sD.trans s7
      have e18 := tk8 _ _ (s7 _ _ e16)
      have mk8 : MkV H8 (.ref am) g ts := ((MkV.of dm6).tk (TK.of s7)).tk tk8
      have dk8 : Dk H8 d c r _ := (dk6.same s7).but ndD b8
      have St : StdM H8 (.ref am) (.ref p1) g ts b1 := ⟨mk8, ⟨_, rfl, e18⟩, mok.even, l1, n4, g4, g1⟩
      have okN := nears_ok mok sb1 ly few (Nat.le_refl _) m6 (by decide +kernel)
      have sh1 := fine_show _ okN.fi
      have sh2 := okN.shown (by omega)
      have sh3 : (PyData.list (nearL lay (most + 1))).depth ≤ 100 := Nat.le_trans okN.dp (by omega)
      -- list(each_near)
      refine ⟨_, rfl, _, rfl, _, rfl, .ref am, .ref p1, g, ts, b1, most, rfl, St, few, fun H9 lay2 us2 s9 ly2 d2 p hp => ?_⟩
      have e2 : nearL lay2 (most + 1) = nearL lay (most + 1) := nearL_congr fun j hj => lays_uniq ly2 ly (by omega)
      rw [e2] at d2
      have sp := same_upd (o := .lst us2) hp
      refine ⟨fun _ => True, .ref p, .list (nearL lay (most + 1)), rfl, .lst trivial upd_same (d2.same sp), sh1, sh2, sh3, ?_⟩
      generalize upd H9 p (.lst us2) = H10 at sp ⊢
      have s8t := s9.trans sp
      refine ⟨_, rfl, fun _ => True, .ref D, .list (nearL lay (most + 1)), rfl, .lst trivial (s8t _ _ eD8) (dws.same s8t), sh1, sh2, sh3, ?_⟩
      refine ne_same (iteF' ?_)
      -- each_near(.., 0)
      refine ⟨_, rfl, _, rfl, .ref am, .ref p1, g, ts, b1, 0, rfl, St.tk (TK.of s8t), .inl ⟨n4, by omega⟩, fun H11 lay3 us3 s11 ly3 d3 p3 hp3 => ?_⟩
      have l0 : lay3 0 = [b1] := lays_uniq ly3 (lays_zero ts b1) (Nat.le_refl 0)
      have e3 : nearL lay3 (0 + 1) = [nearD 0 b1] := by
        show (lay3 0).map (fun y => nearD 0 y) ++ [] = _
        rw [l0]
        rfl
      have ok0 := nears_ok mok sb1 ly3 few (Nat.zero_le _) (by omega) (by decide +kernel)
      rw [e3] at d3 ok0
      have th1 := fine_show _ ok0.fi
      have th2 := ok0.shown (by omega)
      have th3 : (PyData.list [nearD 0 b1]).depth ≤ 100 := Nat.le_trans ok0.dp (by omega)
      have sp3 := same_upd (o := .lst us3) hp3
      refine ⟨fun _ => True, .ref p3, .list [nearD 0 b1], rfl, .lst trivial upd_same (d3.same sp3), th1, th2, th3, ?_⟩
      generalize upd H11 p3 (.lst us3) = H12 at sp3 ⊢
      have s812 := (s8t.trans s11).trans sp3
      refine ⟨_, rfl, (by show 2 ≤ sizeLine; decide), fun p4 hp4 => ⟨(by show 1 ≤ sizeLine; decide), fun p5 hp5 => ?_⟩⟩
      have sp4 := same_upd (o := .tup [.int 0, .ref p1]) hp4
      have e4 : upd H12 p4 (.tup [.int 0, .ref p1]) p4 = some (.tup [.int 0, .ref p1]) := upd_same
      generalize upd H12 p4 (.tup [.int 0, .ref p1]) = H13 at sp4 e4 hp5 ⊢
      have sp5 := same_upd (o := .lst [.ref p4]) hp5
      have s814 := (s812.trans sp4).trans sp5
      refine ⟨fun _ => True, .ref p5, .list [nearD 0 b1], rfl, .lst trivial upd_same (.cons (.tup trivial (sp5 _ _ e4) (.cons (.int 0) (.cons (Dat.mkBag trivial (s814 _ _ e18)) .nil))) .nil), th1, th2, th3, ?_⟩
      refine ne_same (iteF' ?_)
      exact ⟨_, _, _, _, _, _, _, _, _, rfl, (dk8.mono (m := 400 * (i + 1)) (by omega)).same s814⟩

end
end Lb
set_option Elab.async false
set_option linter.all false
set_option maxRecDepth 100000
set_option maxHeartbeats 8000000
namespace Lb
open PySem PySem.Spec PyProof.Rows L2 RZ
theorem all_mk {l : PySem.W.OpenLaw} {w : World} {K : PySem.W.Frag} {h : Heap} {mg : Str → Option Value} {fa f0 f1 f2 f3 f4 f5 f6 f7 f8 f9 f10 f11 f12 f13 f14 f15 f16 f17 f18 f19 : Addr} (X : K.In h) (G : h.Ns mainGlobals mg) (hfa : mg "law" = some (.ref fa))
    {od0 an0 : Option Addr} {sl0 : Array (Option Value)} {oc0 kV0 dc0 pm0 cd0 ct0 : Value}
    {od1 an1 : Option Addr} {sl1 : Array (Option Value)} {oc1 kV1 dc1 pm1 cd1 ct1 : Value}
    {od2 an2 : Option Addr} {sl2 : Array (Option Value)} {oc2 kV2 dc2 pm2 cd2 ct2 : Value}
    {od3 an3 : Option Addr} {sl3 : Array (Option Value)} {oc3 kV3 dc3 pm3 cd3 ct3 : Value}
    {od4 an4 : Option Addr} {sl4 : Array (Option Value)} {oc4 kV4 dc4 pm4 cd4 ct4 : Value}
    {od5 an5 : Option Addr} {sl5 : Array (Option Value)} {oc5 kV5 dc5 pm5 cd5 ct5 : Value}
    {od6 an6 : Option Addr} {sl6 : Array (Option Value)} {oc6 kV6 dc6 pm6 cd6 ct6 : Value}
    {od7 an7 : Option Addr} {sl7 : Array (Option Value)} {oc7 kV7 dc7 pm7 cd7 ct7 : Value}
    {od8 an8 : Option Addr} {sl8 : Array (Option Value)} {oc8 kV8 dc8 pm8 cd8 ct8 : Value}
    {od9 an9 : Option Addr} {sl9 : Array (Option Value)} {oc9 kV9 dc9 pm9 cd9 ct9 : Value}
    {od10 an10 : Option Addr} {sl10 : Array (Option Value)} {oc10 kV10 dc10 pm10 cd10 ct10 : Value}
    {od11 an11 : Option Addr} {sl11 : Array (Option Value)} {oc11 kV11 dc11 pm11 cd11 ct11 : Value}
    {od12 an12 : Option Addr} {sl12 : Array (Option Value)} {oc12 kV12 dc12 pm12 cd12 ct12 : Value}
    {od13 an13 : Option Addr} {sl13 : Array (Option Value)} {oc13 kV13 dc13 pm13 cd13 ct13 : Value}
    {od14 an14 : Option Addr} {sl14 : Array (Option Value)} {oc14 kV14 dc14 pm14 cd14 ct14 : Value}
    {od15 an15 : Option Addr} {sl15 : Array (Option Value)} {oc15 kV15 dc15 pm15 cd15 ct15 : Value}
    {od16 an16 : Option Addr} {sl16 : Array (Option Value)} {oc16 kV16 dc16 pm16 cd16 ct16 : Value}
    {od17 an17 : Option Addr} {sl17 : Array (Option Value)} {oc17 kV17 dc17 pm17 cd17 ct17 : Value}
    {od18 an18 : Option Addr} {sl18 : Array (Option Value)} {oc18 kV18 dc18 pm18 cd18 ct18 : Value}
    {od19 an19 : Option Addr} {sl19 : Array (Option Value)} {oc19 kV19 dc19 pm19 cd19 ct19 : Value}
    (a0 : PySem.W.nsIn K mainGlobals "_law_deck" = some (some (.ref f0)))
    (l0 : K.lookup f0 = some ⟨oc0, od0, .func (PySem.W.fnOf "_law_deck" "_law_deck" (defArgs s__law_deck) (defBody s__law_deck) (defScope s__law_deck) .none kV0 dc0 pm0 an0 cd0 ct0), sl0⟩) (c0 : PySem.W.codeIn K cd0 "_law_deck" = true) (k0 : PySem.W.keepIn K (.ref f0) = true)
    (a1 : PySem.W.nsIn K mainGlobals "_law_draw" = some (some (.ref f1)))
    (l1 : K.lookup f1 = some ⟨oc1, od1, .func (PySem.W.fnOf "_law_draw" "_law_draw" (defArgs s__law_draw) (defBody s__law_draw) (defScope s__law_draw) .none kV1 dc1 pm1 an1 cd1 ct1), sl1⟩) (c1 : PySem.W.codeIn K cd1 "_law_draw" = true) (k1 : PySem.W.keepIn K (.ref f1) = true)
    (a2 : PySem.W.nsIn K mainGlobals "_law_bag" = some (some (.ref f2)))
    (l2 : K.lookup f2 = some ⟨oc2, od2, .func (PySem.W.fnOf "_law_bag" "_law_bag" (defArgs s__law_bag) (defBody s__law_bag) (defScope s__law_bag) .none kV2 dc2 pm2 an2 cd2 ct2), sl2⟩) (c2 : PySem.W.codeIn K cd2 "_law_bag" = true) (k2 : PySem.W.keepIn K (.ref f2) = true)
    (a3 : PySem.W.nsIn K mainGlobals "_law_side" = some (some (.ref f3)))
    (l3 : K.lookup f3 = some ⟨oc3, od3, .func (PySem.W.fnOf "_law_side" "_law_side" (defArgs s__law_side) (defBody s__law_side) (defScope s__law_side) .none kV3 dc3 pm3 an3 cd3 ct3), sl3⟩) (c3 : PySem.W.codeIn K cd3 "_law_side" = true) (k3 : PySem.W.keepIn K (.ref f3) = true)
    (a4 : PySem.W.nsIn K mainGlobals "_law_trade" = some (some (.ref f4)))
    (l4 : K.lookup f4 = some ⟨oc4, od4, .func (PySem.W.fnOf "_law_trade" "_law_trade" (defArgs s__law_trade) (defBody s__law_trade) (defScope s__law_trade) .none kV4 dc4 pm4 an4 cd4 ct4), sl4⟩) (c4 : PySem.W.codeIn K cd4 "_law_trade" = true) (k4 : PySem.W.keepIn K (.ref f4) = true)
    (a5 : PySem.W.nsIn K mainGlobals "_law_market" = some (some (.ref f5)))
    (l5 : K.lookup f5 = some ⟨oc5, od5, .func (PySem.W.fnOf "_law_market" "_law_market" (defArgs s__law_market) (defBody s__law_market) (defScope s__law_market) .none kV5 dc5 pm5 an5 cd5 ct5), sl5⟩) (c5 : PySem.W.codeIn K cd5 "_law_market" = true) (k5 : PySem.W.keepIn K (.ref f5) = true)
    (a6 : PySem.W.nsIn K mainGlobals "_law_any_market" = some (some (.ref f6)))
    (l6 : K.lookup f6 = some ⟨oc6, od6, .func (PySem.W.fnOf "_law_any_market" "_law_any_market" (defArgs s__law_any_market) (defBody s__law_any_market) (defScope s__law_any_market) .none kV6 dc6 pm6 an6 cd6 ct6), sl6⟩) (c6 : PySem.W.codeIn K cd6 "_law_any_market" = true) (k6 : PySem.W.keepIn K (.ref f6) = true)
    (a7 : PySem.W.nsIn K mainGlobals "_law_plus" = some (some (.ref f7)))
    (l7 : K.lookup f7 = some ⟨oc7, od7, .func (PySem.W.fnOf "_law_plus" "_law_plus" (defArgs s__law_plus) (defBody s__law_plus) (defScope s__law_plus) .none kV7 dc7 pm7 an7 cd7 ct7), sl7⟩) (c7 : PySem.W.codeIn K cd7 "_law_plus" = true) (k7 : PySem.W.keepIn K (.ref f7) = true)
    (a8 : PySem.W.nsIn K mainGlobals "_law_less" = some (some (.ref f8)))
    (l8 : K.lookup f8 = some ⟨oc8, od8, .func (PySem.W.fnOf "_law_less" "_law_less" (defArgs s__law_less) (defBody s__law_less) (defScope s__law_less) .none kV8 dc8 pm8 an8 cd8 ct8), sl8⟩) (c8 : PySem.W.codeIn K cd8 "_law_less" = true) (k8 : PySem.W.keepIn K (.ref f8) = true)
    (a9 : PySem.W.nsIn K mainGlobals "_law_holds" = some (some (.ref f9)))
    (l9 : K.lookup f9 = some ⟨oc9, od9, .func (PySem.W.fnOf "_law_holds" "_law_holds" (defArgs s__law_holds) (defBody s__law_holds) (defScope s__law_holds) .none kV9 dc9 pm9 an9 cd9 ct9), sl9⟩) (c9 : PySem.W.codeIn K cd9 "_law_holds" = true) (k9 : PySem.W.keepIn K (.ref f9) = true)
    (a10 : PySem.W.nsIn K mainGlobals "_law_behind" = some (some (.ref f10)))
    (l10 : K.lookup f10 = some ⟨oc10, od10, .func (PySem.W.fnOf "_law_behind" "_law_behind" (defArgs s__law_behind) (defBody s__law_behind) (defScope s__law_behind) .none kV10 dc10 pm10 an10 cd10 ct10), sl10⟩) (c10 : PySem.W.codeIn K cd10 "_law_behind" = true) (k10 : PySem.W.keepIn K (.ref f10) = true)
    (a11 : PySem.W.nsIn K mainGlobals "_law_around" = some (some (.ref f11)))
    (l11 : K.lookup f11 = some ⟨oc11, od11, .func (PySem.W.fnOf "_law_around" "_law_around" (defArgs s__law_around) (defBody s__law_around) (defScope s__law_around) .none kV11 dc11 pm11 an11 cd11 ct11), sl11⟩) (c11 : PySem.W.codeIn K cd11 "_law_around" = true) (k11 : PySem.W.keepIn K (.ref f11) = true)
    (a12 : PySem.W.nsIn K mainGlobals "_law_rings" = some (some (.ref f12)))
    (l12 : K.lookup f12 = some ⟨oc12, od12, .func (PySem.W.fnOf "_law_rings" "_law_rings" (defArgs s__law_rings) (defBody s__law_rings) (defScope s__law_rings) .none kV12 dc12 pm12 an12 cd12 ct12), sl12⟩) (c12 : PySem.W.codeIn K cd12 "_law_rings" = true) (k12 : PySem.W.keepIn K (.ref f12) = true)
    (a13 : PySem.W.nsIn K mainGlobals "holds" = some (some (.ref f13)))
    (l13 : K.lookup f13 = some ⟨oc13, od13, .func (PySem.W.fnOf "holds" "holds" (defArgs s_holds) (defBody s_holds) (defScope s_holds) .none kV13 dc13 pm13 an13 cd13 ct13), sl13⟩) (c13 : PySem.W.codeIn K cd13 "holds" = true) (k13 : PySem.W.keepIn K (.ref f13) = true)
    (a14 : PySem.W.nsIn K mainGlobals "exchange" = some (some (.ref f14)))
    (l14 : K.lookup f14 = some ⟨oc14, od14, .func (PySem.W.fnOf "exchange" "exchange" (defArgs s_exchange) (defBody s_exchange) (defScope s_exchange) .none kV14 dc14 pm14 an14 cd14 ct14), sl14⟩) (c14 : PySem.W.codeIn K cd14 "exchange" = true) (k14 : PySem.W.keepIn K (.ref f14) = true)
    (a15 : PySem.W.nsIn K mainGlobals "after_step" = some (some (.ref f15)))
    (l15 : K.lookup f15 = some ⟨oc15, od15, .func (PySem.W.fnOf "after_step" "after_step" (defArgs s_after_step) (defBody s_after_step) (defScope s_after_step) .none kV15 dc15 pm15 an15 cd15 ct15), sl15⟩) (c15 : PySem.W.codeIn K cd15 "after_step" = true) (k15 : PySem.W.keepIn K (.ref f15) = true)
    (a16 : PySem.W.nsIn K mainGlobals "ways_on" = some (some (.ref f16)))
    (l16 : K.lookup f16 = some ⟨oc16, od16, .func (PySem.W.fnOf "ways_on" "ways_on" (defArgs s_ways_on) (defBody s_ways_on) (defScope s_ways_on) .none kV16 dc16 pm16 an16 cd16 ct16), sl16⟩) (c16 : PySem.W.codeIn K cd16 "ways_on" = true) (k16 : PySem.W.keepIn K (.ref f16) = true)
    (a17 : PySem.W.nsIn K mainGlobals "distances" = some (some (.ref f17)))
    (l17 : K.lookup f17 = some ⟨oc17, od17, .func (PySem.W.fnOf "distances" "distances" (defArgs s_distances) (defBody s_distances) (defScope s_distances) .none kV17 dc17 pm17 an17 cd17 ct17), sl17⟩) (c17 : PySem.W.codeIn K cd17 "distances" = true) (k17 : PySem.W.keepIn K (.ref f17) = true)
    (a18 : PySem.W.nsIn K mainGlobals "each_near" = some (some (.ref f18)))
    (l18 : K.lookup f18 = some ⟨oc18, od18, .func (PySem.W.fnOf "each_near" "each_near" (defArgs s_each_near) (defBody s_each_near) (defScope s_each_near) .none kV18 dc18 pm18 an18 cd18 ct18), sl18⟩) (c18 : PySem.W.codeIn K cd18 "each_near" = true) (k18 : PySem.W.keepIn K (.ref f18) = true)
    (a19 : PySem.W.nsIn K mainGlobals "law" = some (some (.ref f19)))
    (l19 : K.lookup f19 = some ⟨oc19, od19, .func (PySem.W.fnOf "law" "law" (defArgs s_law) (defBody s_law) (defScope s_law) .none kV19 dc19 pm19 an19 cd19 ct19), sl19⟩) (c19 : PySem.W.codeIn K cd19 "law" = true) (k19 : PySem.W.keepIn K (.ref f19) = true)
    (z_len : PySem.W.nsIn K mainGlobals "len" = some none)
    (z_range : PySem.W.nsIn K mainGlobals "range" = some none)
    (z_int : PySem.W.nsIn K mainGlobals "int" = some none)
    (z_bool : PySem.W.nsIn K mainGlobals "bool" = some none)
    (z_tuple : PySem.W.nsIn K mainGlobals "tuple" = some none)
    (z_list : PySem.W.nsIn K mainGlobals "list" = some none)
    (z_str : PySem.W.nsIn K mainGlobals "str" = some none)
    (z_dict : PySem.W.nsIn K mainGlobals "dict" = some none)
    (z_all : PySem.W.nsIn K mainGlobals "all" = some none)
    (z_any : PySem.W.nsIn K mainGlobals "any" = some none)
    (z_max : PySem.W.nsIn K mainGlobals "max" = some none)
    (z_min : PySem.W.nsIn K mainGlobals "min" = some none)
    (z_sum : PySem.W.nsIn K mainGlobals "sum" = some none)
    (z_zip : PySem.W.nsIn K mainGlobals "zip" = some none)
    (z_enumerate : PySem.W.nsIn K mainGlobals "enumerate" = some none)
    (z_isinstance : PySem.W.nsIn K mainGlobals "isinstance" = some none)
    (z_repr : PySem.W.nsIn K mainGlobals "repr" = some none)
    (z_sorted : PySem.W.nsIn K mainGlobals "sorted" = some none)
    : ∃ fd : FuncData, (∀ (s : Shared) (v : Value), BindsTo s fd ⟨[v], []⟩ [("_law_script", v)]) ∧ ∀ base : Heap, K.In base → base.Ns mainGlobals mg → FnG l.prog w K mg base CX0 25 fa fd ["_law_script"] (spLaw K) := by
  have e := hfa.symm.trans (PySem.W.mg_of X G a19)
  cases e
  have F := fun_mk (st := s_law) l19 c19 k19
  have B : Blt mg := ⟨PySem.W.mg_none_of X G z_len, PySem.W.mg_none_of X G z_range, PySem.W.mg_none_of X G z_int, PySem.W.mg_none_of X G z_bool, PySem.W.mg_none_of X G z_tuple, PySem.W.mg_none_of X G z_list, PySem.W.mg_none_of X G z_str, PySem.W.mg_none_of X G z_dict, PySem.W.mg_none_of X G z_all, PySem.W.mg_none_of X G z_any, PySem.W.mg_none_of X G z_max, PySem.W.mg_none_of X G z_min, PySem.W.mg_none_of X G z_sum, PySem.W.mg_none_of X G z_zip, PySem.W.mg_none_of X G z_enumerate, PySem.W.mg_none_of X G z_isinstance, PySem.W.mg_none_of X G z_repr, PySem.W.mg_none_of X G z_sorted⟩
  have D__law_deck : Df K mg "_law_deck" s__law_deck := df_mk X G a0 l0 c0 k0
  have D__law_draw : Df K mg "_law_draw" s__law_draw := df_mk X G a1 l1 c1 k1
  have D__law_bag : Df K mg "_law_bag" s__law_bag := df_mk X G a2 l2 c2 k2
  have D__law_side : Df K mg "_law_side" s__law_side := df_mk X G a3 l3 c3 k3
  have D__law_trade : Df K mg "_law_trade" s__law_trade := df_mk X G a4 l4 c4 k4
  have D__law_market : Df K mg "_law_market" s__law_market := df_mk X G a5 l5 c5 k5
  have D__law_any_market : Df K mg "_law_any_market" s__law_any_market := df_mk X G a6 l6 c6 k6
  have D__law_plus : Df K mg "_law_plus" s__law_plus := df_mk X G a7 l7 c7 k7
  have D__law_less : Df K mg "_law_less" s__law_less := df_mk X G a8 l8 c8 k8
  have D__law_holds : Df K mg "_law_holds" s__law_holds := df_mk X G a9 l9 c9 k9
  have D__law_behind : Df K mg "_law_behind" s__law_behind := df_mk X G a10 l10 c10 k10
  have D__law_around : Df K mg "_law_around" s__law_around := df_mk X G a11 l11 c11 k11
  have D__law_rings : Df K mg "_law_rings" s__law_rings := df_mk X G a12 l12 c12 k12
  have D_holds : Df K mg "holds" s_holds := df_mk X G a13 l13 c13 k13
  have D_exchange : Df K mg "exchange" s_exchange := df_mk X G a14 l14 c14 k14
  have D_after_step : Df K mg "after_step" s_after_step := df_mk X G a15 l15 c15 k15
  have D_ways_on : Df K mg "ways_on" s_ways_on := df_mk X G a16 l16 c16 k16
  have D_distances : Df K mg "distances" s_distances := df_mk X G a17 l17 c17 k17
  have D_each_near : Df K mg "each_near" s_each_near := df_mk X G a18 l18 c18 k18
  refine ⟨PySem.W.fnOf "law" "law" (defArgs s_law) (defBody s_law) (defScope s_law) .none kV19 dc19 pm19 an19 cd19 ct19, fun s v => .of_eq rfl, fun base _ _ => ?_⟩
  have O_draw := own_draw (P := l.prog) (w := w) (base := base) D__law_draw B
  have O_deck := own_deck (P := l.prog) (w := w) (base := base) D__law_deck B
  have O_plus := own_plus (P := l.prog) (w := w) (base := base) D__law_plus B
  have O_side := own_side D__law_side B O_draw
  have O_trade := own_trade D__law_trade B O_draw O_side O_plus
  have O_market := own_market D__law_market B O_draw O_trade
  have O_any := own_anyS D__law_any_market B O_draw O_market
  have O_bag := own_bag D__law_bag B O_draw
  have O_less := own_less (P := l.prog) (w := w) (base := base) D__law_less B
  have O_holds := own_lholds (P := l.prog) (w := w) (base := base) D__law_holds B
  have O_behind := own_behind D__law_behind B O_plus O_less O_holds
  have O_around := own_around D__law_around B O_behind
  have O_rings := own_rings D__law_rings B O_around
  have O_pholds := own_holds (P := l.prog) (w := w) (base := base) D_holds B
  have O_exch := own_exchange D_exchange B O_pholds
  have O_after := own_after D_after_step B O_exch
  have O_ways := own_wayson D_ways_on B O_after
  have O_dist := own_distances D_distances B O_ways
  have O_near := own_eachnear D_each_near B O_dist
  exact fn_law F B O_deck O_any O_draw O_bag O_rings O_near
end Lb
open PySem PySem.W PyProof.Rows in
set_option maxHeartbeats 0 in
theorem PySem.Challenge.cw_lentbeside_k03_what_is_near_holds : PySem.Challenge.rw_lentbeside_k03_what_is_near.Holds := by
  w_on; o_law; k_head; (case hw => w_witness2)
  k_fill
  refine Lb.walk_g (l := PySem.Challenge.rw_lentbeside_k03_what_is_near) (n := 63) (k := 25) (x := "_law_script") (CX := fun _ => L2.CX0) (sp := fun w => Lb.spLaw _) rfl (by decide) rfl ⟨rfl, by decide, by decide⟩ (fun w h Y => PySem.W.kIn_of Y) ?F (fun _ _ a ns hl _ hS => ⟨a, ns, rfl, hS, hl, fun _ => rfl⟩) (fun _ _ _ _ _ h => h)
  case F =>
    intro w mg fa h KX G hmg
    refine' Lb.all_mk KX G hmg ?a0 ?l0 ?c0 ?k0 ?a1 ?l1 ?c1 ?k1 ?a2 ?l2 ?c2 ?k2 ?a3 ?l3 ?c3 ?k3 ?a4 ?l4 ?c4 ?k4 ?a5 ?l5 ?c5 ?k5 ?a6 ?l6 ?c6 ?k6 ?a7 ?l7 ?c7 ?k7 ?a8 ?l8 ?c8 ?k8 ?a9 ?l9 ?c9 ?k9 ?a10 ?l10 ?c10 ?k10 ?a11 ?l11 ?c11 ?k11 ?a12 ?l12 ?c12 ?k12 ?a13 ?l13 ?c13 ?k13 ?a14 ?l14 ?c14 ?k14 ?a15 ?l15 ?c15 ?k15 ?a16 ?l16 ?c16 ?k16 ?a17 ?l17 ?c17 ?k17 ?a18 ?l18 ?c18 ?k18 ?a19 ?l19 ?c19 ?k19 ?z_len ?z_range ?z_int ?z_bool ?z_tuple ?z_list ?z_str ?z_dict ?z_all ?z_any ?z_max ?z_min ?z_sum ?z_zip ?z_enumerate ?z_isinstance ?z_repr ?z_sorted
    (case a0 => k_is)
    (case l0 => k_is)
    (case c0 => k_is)
    (case k0 => k_is)
    (case a1 => k_is)
    (case l1 => k_is)
    (case c1 => k_is)
    (case k1 => k_is)
    (case a2 => k_is)
    (case l2 => k_is)
    (case c2 => k_is)
    (case k2 => k_is)
    (case a3 => k_is)
    (case l3 => k_is)
    (case c3 => k_is)
    (case k3 => k_is)
    (case a4 => k_is)
    (case l4 => k_is)
    (case c4 => k_is)
    (case k4 => k_is)
    (case a5 => k_is)
    (case l5 => k_is)
    (case c5 => k_is)
    (case k5 => k_is)
    (case a6 => k_is)
    (case l6 => k_is)
    (case c6 => k_is)
    (case k6 => k_is)
    (case a7 => k_is)
    (case l7 => k_is)
    (case c7 => k_is)
    (case k7 => k_is)
    (case a8 => k_is)
    (case l8 => k_is)
    (case c8 => k_is)
    (case k8 => k_is)
    (case a9 => k_is)
    (case l9 => k_is)
    (case c9 => k_is)
    (case k9 => k_is)
    (case a10 => k_is)
    (case l10 => k_is)
    (case c10 => k_is)
    (case k10 => k_is)
    (case a11 => k_is)
    (case l11 => k_is)
    (case c11 => k_is)
    (case k11 => k_is)
    (case a12 => k_is)
    (case l12 => k_is)
    (case c12 => k_is)
    (case k12 => k_is)
    (case a13 => k_is)
    (case l13 => k_is)
    (case c13 => k_is)
    (case k13 => k_is)
    (case a14 => k_is)
    (case l14 => k_is)
    (case c14 => k_is)
    (case k14 => k_is)
    (case a15 => k_is)
    (case l15 => k_is)
    (case c15 => k_is)
    (case k15 => k_is)
    (case a16 => k_is)
    (case l16 => k_is)
    (case c16 => k_is)
    (case k16 => k_is)
    (case a17 => k_is)
    (case l17 => k_is)
    (case c17 => k_is)
    (case k17 => k_is)
    (case a18 => k_is)
    (case l18 => k_is)
    (case c18 => k_is)
    (case k18 => k_is)
    (case a19 => k_is)
    (case l19 => k_is)
    (case c19 => k_is)
    (case k19 => k_is)
    (case z_len => k_is)
    (case z_range => k_is)
    (case z_int => k_is)
    (case z_bool => k_is)
    (case z_tuple => k_is)
    (case z_list => k_is)
    (case z_str => k_is)
    (case z_dict => k_is)
    (case z_all => k_is)
    (case z_any => k_is)
    (case z_max => k_is)
    (case z_min => k_is)
    (case z_sum => k_is)
    (case z_zip => k_is)
    (case z_enumerate => k_is)
    (case z_isinstance => k_is)
    (case z_repr => k_is)
    (case z_sorted => k_is)
