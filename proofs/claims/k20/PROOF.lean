import PyProof.Rows.All
import Wide.All
import OpenK.AllK
import Wide.FinOn
import HandS.Base
import HandS.Call
import HandS.List
import HandS.Comp
import HandS.Ends
import HandS.Dict
import HandS.Iter
import HandS.Text
import HandS.Words
import HandS.WordsList
import KE.GoesEnum
import KE.KTupSum
import KE.DataMinMax
import HandS.TupMul
import HandS.TupAny
import HandS.IsInst
import HandS.Zip
import HandS.Style
import PyProof.ReprRoads
import PyProof.CallFns
import HandS.TryOnly
import KE.GoesMore
import HandS.ExcInit
import HandS.ExcField
import HandS.ExcOwn
import HandS.Lambda
import HandS.WordsExc
import HandS.EndOwn
import KE.LtData
import PyProof.SumAnyB
import KE.LcSums
import KE.GoesEnumKw
import KE.KUnpackStar
import HandS.FStr
import HandS.SortKw
import KE.SortCalls
import HandS.Sort
import KE.GoesZip
import HandS.Star
import HandS.Property
import HandS.ClsMeth
import HandS.SlotsOwn
import HandS.Small
import OpenK.KMeth
import OpenK.KOps
import KE.KOpsOwn
import KE.KCallOwn
import KE.KDictZip
import HandS.Wide
import PyProof.CallStr
import HandS.OwnIter
import HandS.IterVal
import PyProof.InstNe
import HandS.Defaults
import KE.KFmtOwn
import KE.KExcInit
import PyProof.ExcBaseAll.LookupError
import HandS.Conv
import KE.KSuper
import HandS.Nested
import KE.KExcRaise
import HandS.Walk
import PyProof.Claim2Refuses
import PySem.Challenge.RW_lentbeside_k20_net_numbers
set_option Elab.async false
set_option linter.all false
set_option maxRecDepth 100000
set_option maxHeartbeats 2000000
/-! Rules that the hand layer lacks: sums and greatest items of tuples, enumerate of a tuple, zip of three, t[::-1], t * 0, t * 1. -/
namespace Lb
open PySem PySem.Spec PyProof.Rows L2
section
variable {X : Cx}
/-! ### sum(t), max(t) -/
theorem reads_ints {h : Heap} : ∀ {its : List Value} {ns : List Int}, Vals (ns.map V.int) its → ReadsAll h its (ns.map PyData.int) []
  | [], [], _ => .nil
  | u :: us, n :: ns, r => by
    cases r with
    | cons r1 r2 =>
      obtain ⟨t, rfl⟩ := r1
      exact .cons (as := []) (.int n t) (reads_ints r2)
  | [], _ :: _, r => nomatch r
  | _ :: _, [], r => nomatch r
theorem maxD_ints : ∀ (ns : List Int) (n : Int), ∃ m, PySem.W.maxD (.int n) (ns.map PyData.int) = .int m ∧ m ∈ n :: ns ∧ ∀ y ∈ n :: ns, y ≤ m
  | [], n => ⟨n, rfl, List.mem_cons_self, fun y hy => by
      rw [List.mem_singleton.mp hy]
      exact Int.le_refl _⟩
  | k :: ns, n => by
    unfold PySem.W.maxD
    rw [List.map_cons, List.foldl_cons]
    by_cases h : n < k
    · have e : (if PySem.W.dataLt (.int n) (.int k) = true then PyData.int k else .int n) = .int k := by
        rw [if_pos]
        rw [PySem.W.dataLt_int]
        exact decide_eq_true h
      rw [e]
      obtain ⟨m, e2, h1, h2⟩ := maxD_ints ns k
      refine ⟨m, e2, List.mem_cons_of_mem _ h1, fun y hy => ?_⟩
      rcases List.mem_cons.mp hy with rfl | hy
      · have := h2 k List.mem_cons_self
        omega
      · exact h2 y hy
    · have e : (if PySem.W.dataLt (.int n) (.int k) = true then PyData.int k else .int n) = .int n := by
        rw [if_neg]
        intro z
        rw [PySem.W.dataLt_int] at z
        exact h (of_decide_eq_true z)
      rw [e]
      obtain ⟨m, e2, h1, h2⟩ := maxD_ints ns n
      refine ⟨m, e2, ?_, fun y hy => ?_⟩
      · rcases List.mem_cons.mp h1 with rfl | h1
        · exact List.mem_cons_self
        · exact List.mem_cons_of_mem _ (List.mem_cons_of_mem _ h1)
      · rcases List.mem_cons.mp hy with rfl | hy
        · exact h2 y List.mem_cons_self
        · rcases List.mem_cons.mp hy with rfl | hy
          · have := h2 n List.mem_cons_self
            omega
          · exact h2 y (List.mem_cons_of_mem _ hy)
def rMaxT (K : PySem.W.Frag) : List V → Hp → VK → Prop := fun vs H Q => ∃ (a : Addr) (ns : List Int), vs = [V.ref a] ∧ SqT K H a (ns.map V.int) ∧ 0 < ns.length ∧ ∀ m, m ∈ ns → (∀ y, y ∈ ns → y ≤ m) → Q (.int m) H
theorem depth_ints : ∀ ns : List Int, PyData.depthAll (ns.map PyData.int) = 0
  | [] => rfl
  | n :: ns => by
    rw [List.map_cons]
    simp [PyData.depthAll, PyData.depth, depth_ints ns]
theorem cr_maxT (hc : X.calm = true) (hu : X.A.units + 1 < cLine) : CallR X (.builtin "max") (rMaxT X.K) := by
  intro pins s σ H vs us Q I r h
  obtain ⟨a, ns, rfl, hs, hne, q⟩ := h
  obtain ⟨its, rv, ht, _⟩ := I.tuple hs
  rw [Vals.ref1 r]
  cases ns with
  | nil => exact absurd hne (Nat.lt_irrefl 0)
  | cons n ns =>
    have hr : ReadsAll s.heap its.toArray.toList (.int n :: ns.map PyData.int) [] := reads_ints (ns := n :: ns) rv
    refine PySem.W.max_tuple_data (I.ok.hd hc) ht hr ⟨fun x hx y hy => ?_, fun x hx => ?_⟩ ?_ fun i v h' tk bs hi rd hk => ?_
    · have e : ∀ z ∈ (PyData.int n :: ns.map PyData.int), ∃ k, z = PyData.int k := fun z hz => by
        rcases List.mem_cons.mp hz with rfl | hz
        · exact ⟨n, rfl⟩
        · obtain ⟨k, _, rfl⟩ := List.mem_map.mp hz
          exact ⟨k, rfl⟩
      obtain ⟨k1, rfl⟩ := e x hx
      obtain ⟨k2, rfl⟩ := e y hy
      rfl
    · rcases List.mem_cons.mp hx with rfl | hx
      · exact fun z => nomatch z
      · obtain ⟨k, _, rfl⟩ := List.mem_map.mp hx
        exact fun z => nomatch z
    · have := depth_ints (n :: ns)
      rw [List.map_cons] at this
      rw [this]
      exact hu
    · obtain ⟨m, e, h1, h2⟩ := maxD_ints ns n
      rw [e] at rd
      cases rd with
      | int _ t => exact ⟨.int m, H, I.kept hk, ⟨_, rfl⟩, q m h1 h2⟩
end
end Lb
set_option Elab.async false
set_option linter.all false
set_option maxRecDepth 100000
set_option maxHeartbeats 2000000
namespace Lb
open PySem PySem.Spec PyProof.Rows L2
/-! ### enumerate(t), t a tuple -/
set_option maxHeartbeats 4000000 in
theorem meets_enum1 {v : Value} {o : Obj} {G : Heap → Prop} (B : Begins v o G) :
    Meets (Builtin.«enumerate.__new__» ⟨[.type "enumerate", v], []⟩) (fun _ R s => G s.heap ∧
      R (.ok (.ret (.ref (s.heap.push o).objs.size))) { s with heap := (s.heap.push o).push { cls := .type "enumerate", data := .fields #[.none, .bool false, .ref s.heap.objs.size, rawInt 0, .none, .none] } }) :=
  .of_wp fun prog w A R s h => by
    obtain ⟨hp, g, d, tk, os⟩ := s
    obtain ⟨g1, h⟩ := h
    have hsub := sub_enumerate
    have qi : ∀ {A' : Around} {E : Value → Shared → Prop} {Q : Value → Shared → Prop}, Q (.ref hp.objs.size) ⟨hp.push o, g, d, tk, os⟩ → wpAny (model prog w) A' (pyIter v) Q E ⟨hp, g, d, tk, os⟩ :=
      fun q => B.iter prog w _ _ ⟨hp, g, d, tk, os⟩ _ g1 q
    wp_walk using qi
    refine wpAny_stack_any fun st => wpAny_pure ?_
    split
    · rename_i c _ _ _ _ _
      cases (c == Value.type "enumerate")
      · wp_walk using qi
        exact ⟨_, rfl, h⟩
      · wp_walk using qi
        exact ⟨_, rfl, h⟩
    · wp_walk using qi
      exact ⟨_, rfl, h⟩
theorem enum1 {prog : Program} {w : World} {A : Around} {E : Value → Shared → Prop} {s : Shared} {v : Value} {o : Obj} {G : Heap → Prop} {Q : Value → Shared → Prop} (B : Begins v o G) (g : G s.heap)
    (h : ∀ h', IsEnum h' (s.heap.objs.size + 1) s.heap.objs.size 0 .none → h'.get? s.heap.objs.size = some o → (∀ b o, s.heap.get? b = some o → h'.get? b = some o) → Q (.ref (s.heap.objs.size + 1)) { s with heap := h' }) :
    wpAny (model prog w) A (call (.type "enumerate") [v]) Q E s := by
  refine callType_new F.called_enumerate (by decide) (F.typeCall_enumerate_1 _) (F.newCall_enumerate_1 _) (fun obj => F.args_object_init_2 obj _) F.entry_enumerate_new (meets_enum1 B) ⟨g, ?_⟩
  have z1 : (s.heap.push o).objs.size = s.heap.objs.size + 1 := Heap.size_push ..
  show _ ∧ _
  rw [z1]
  have he : IsEnum ((s.heap.push o).push { cls := .type "enumerate", data := .fields #[.none, .bool false, .ref s.heap.objs.size, rawInt 0, .none, .none] }) (s.heap.objs.size + 1) s.heap.objs.size 0 .none := by
    have := Heap.get?_push_size (s.heap.push o) (o := { cls := .type "enumerate", data := .fields #[.none, .bool false, .ref s.heap.objs.size, rawInt 0, .none, .none] }) rfl
    rw [z1] at this
    exact this
  exact ⟨⟨_, he, rfl⟩, h _ he (Heap.get?_push_of_some _ (Heap.get?_push_size _ B.free)) fun b ob q => Heap.get?_push_of_some _ (Heap.get?_push_of_some _ q)⟩
/-- the tuple at a, each item in a new pair with its index -/
def IteT (K : PySem.W.Frag) (a : Addr) : It :=
  ⟨fun i H => ∃ (xs : List V) (x : V), SqT K H a xs ∧ xs[i]? = some x, fun i H v H' => ∃ T x, v = .ref T ∧ H T = none ∧ H' = upd H T (.tup [.int (i : Nat), x]) ∧ ∀ xs, SqT K H a xs → xs[i]? = some x,
    fun i H => ∃ xs : List V, SqT K H a xs ∧ xs.length ≤ i⟩
theorem tupIter_at {h h' : Heap} {it a : Addr} {i : Nat} (t : h.IsTupleIter it a i) (k : ∀ o, h.get? it = some o → h'.get? it = some o) : h'.IsTupleIter it a i :=
  let ⟨o, e, r⟩ := t
  ⟨o, k o e, r⟩
theorem turn_enumT {P : Program} {w : World} {K : PySem.W.Frag} {elts : List Expr} {kk : Nat} {tpos : Pos} (a e it : Addr) :
    Turn P w K (.Tuple elts kk tpos) (IteT K a) [e, it] e (fun i h => (∃ old, IsEnum h e it ((i : Nat) : Int) old) ∧ h.IsTupleIter it a i ∧ e ≠ it) where
  mem := by simp
  obj := fun i h st b hb => by
    obtain ⟨⟨old, he⟩, ⟨o, ho, hc, hd⟩, _⟩ := st
    have e' : b = e ∨ b = it := by simpa using hb
    rcases e' with z | z
    · rw [z]
      exact ⟨_, he, fun v q => nomatch q⟩
    · rw [z]
      exact ⟨o, ho, fun v q => by rw [hd] at q; cases q⟩
  keep := fun i h h' st k => let ⟨⟨old, he⟩, hi, hne⟩ := st; ⟨⟨old, k e (by simp) _ he⟩, tupIter_at hi fun o q => k it (by simp) o q, hne⟩
  item := by
    intro X hP hw hK hc i pins s σ H E I hf st hg
    subst hP hw hK
    obtain ⟨⟨old, he⟩, hit, hne⟩ := st
    obtain ⟨xs, x, hq, hx⟩ := hg
    obtain ⟨its, rv, p, hz⟩ := I.tuple hq
    obtain ⟨u, hu, ru⟩ := rv.get hx
    have hel : e < s.heap.objs.size := Heap.lt_size he
    have hil : it < s.heap.objs.size := by
      obtain ⟨_, q, _⟩ := hit
      exact Heap.lt_size q
    have hat : H a ≠ none ∨ ∃ o, X.K.lookup a = some o := by
      rcases hq with (q | ⟨_, q⟩) | ⟨o, _, _, q, _⟩
      · exact .inl (by rw [q]; exact fun z => nomatch z)
      · exact .inl (by rw [q]; exact fun z => nomatch z)
      · exact .inr ⟨o, q⟩
    have hai : ∀ c, c ∈ [e, it] → a ≠ c := fun c hc q => by
      obtain ⟨o, ho, ho2, n, ho3⟩ := p
      have f0 := (hf c hc).1
      have cls : ∀ o', s.heap.get? a = some o' → o' = o := fun o' q' => by rw [ho] at q'; exact (Option.some.inj q').symm
      have e' : c = e ∨ c = it := by simpa using hc
      rcases e' with z | z
      · rw [q, z] at cls
        have := cls _ he
        rw [← this] at ho2
        injection ho2 with z2
        exact absurd z2 (by decide)
      · obtain ⟨oi, hoi, hci, _⟩ := hit
        rw [q, z] at cls
        have := cls _ hoi
        rw [← this, hci] at ho2
        injection ho2 with z2
        exact absurd z2 (by decide)
    have D := Draws.tuple (prog := X.prog) (w := X.w) (A := X.A.in1) (I.ok.hd hc) it a (hai it (by simp)) its.toArray
    have hlt : i < its.toArray.size := by
      rw [List.size_toArray]
      exact (List.getElem?_eq_some_iff.mp hu).1
    refine wpAny_pyNext_enum_itemC (c := ((i : Nat) : Int)) D he ⟨hit, p⟩ hlt hne (fun z => ?_) fun y h' tk hy ho st' hT hsz hk => ?_
    · have z' : e = it ∨ e = a := by simpa using z
      rcases z' with z | z
      · exact hne z
      · exact hai e (by simp) z.symm
    have ey : y = u := by
      have : its.toArray[i]? = some u := by simpa using hu
      rw [this] at hy
      exact (Option.some.inj hy).symm
    subst ey
    refine ⟨_, rfl, wpAny_letOwnedTupleGo_enum (s := { s with heap := h', toks := tk + 1 }) ho fun h'' he' sb => ?_⟩
    have hT2 : h''.get? s.heap.objs.size = some { cls := .type "tuple", data := .seq #[.int i tk, y] } := (sb.2 _ (Nat.ne_of_gt hel)).trans hT
    have new : ObjOk X.prog X.w (upd H s.heap.objs.size (.tup [.int (i : Nat), x])) h'' s.heap.objs.size (.tup [.int (i : Nat), x]) :=
      ⟨by show 2 ≤ sizeLine; decide, [.int i tk, y], .cons ⟨_, rfl⟩ (.cons ru .nil), ⟨_, hT2, rfl, _, rfl⟩⟩
    have I1 : Inv X pins σ (upd H s.heap.objs.size (.tup [.int (i : Nat), x])) { s with heap := h'', toks := tk + 1 } :=
      I.turnedNew (ch := [e, it]) (fun b ob hb q => (sb.2 b (fun z => hb (by simp [z]))).trans (hk b ob (fun z => hb (by simp [z])) (fun z => hb (by simp [z])) q)) hf (Nat.le_refl _) new
    refine ⟨.ref s.heap.objs.size, _, I1, rfl, ⟨_, x, rfl, I.hok.fresh (Nat.le_refl _), rfl, fun ys hy => by rw [I.tuple_inj hy hq]; exact hx⟩, ⟨⟨y, ?_⟩, tupIter_at st'.1 fun o q => (sb.2 it (Ne.symm hne)).trans q, hne⟩, fun b hb => ?_⟩
    · have e1 : ((i + 1 : Nat) : Int) = (i : Int) + 1 := by omega
      rw [e1]
      exact he'
    · have hb' : b < s.heap.objs.size := by
        have e' : b = e ∨ b = it := by simpa using hb
        rcases e' with z | z
        · rw [z]
          exact hel
        · rw [z]
          exact hil
      rw [upd_ne (Nat.ne_of_lt hb')]
      exact (hf b hb).1
  done := by
    intro X hP hw hK hc i pins s σ H E I hf st hg
    subst hP hw hK
    obtain ⟨⟨old, he⟩, hit, hne⟩ := st
    obtain ⟨xs, hq, hx⟩ := hg
    obtain ⟨its, rv, p, hz⟩ := I.tuple hq
    obtain ⟨f0, f1, f2, f3, f4, f5⟩ := hf it (by simp)
    have hl := rv.length
    have D : Draws X.prog X.w X.A.in1 it [it, a] i (fun _ _ => False) (fun j h => j = i ∧ h.IsTupleIter it a i ∧ h.IsTuple a its.toArray) :=
      { live := fun _ _ st => let ⟨_, ⟨o, ho, _⟩, _⟩ := st; ⟨o, ho⟩
        frame := fun _ _ _ st hk => ⟨st.1, tupIter_at st.2.1 fun o q => hk it (by simp) o q, st.2.2.at fun o q => hk a (by simp) o q⟩
        item := fun j s Q E hj st _ => absurd st.1 (Nat.ne_of_lt hj)
        done := fun s Q E st hE => wpAny_nextOf_tuple_end (I.ok.hd hc) st.2.1 st.2.2 (by simp; omega) hE }
    exact wpAny_pyNext_enum_endD D he ⟨rfl, hit, p⟩ fun h' eb => ⟨rfl, I.turned (t' := s.toks) (fun b o hb q => eb b o hb q) f0 f1 f3 f4 f5⟩
  self := fun A i s Q E st h => let ⟨⟨_, he⟩, _⟩ := st; wpAny_pyIter_enum he h
def iEnumT (K : PySem.W.Frag) (ta : TA) : TI := fun σ H R => ta σ H fun vs H1 => ∃ a xs, vs = [.ref a] ∧ SqT K H1 a xs ∧ R (IteT K a) H1
theorem pi_enumT {X : Cx} {e : Expr} {ta : TA} {p pos tpos : Pos} {elts : List Expr} {kk : Nat} (hg : Gl X "enumerate") (hm : X.mg "enumerate" = none) (ha : PA X [e] ta) (hs : starEach [e] X.env = [(false, eval e X.env)] := by rfl) :
    PI X (.Tuple elts kk tpos) (.Call (.Name "enumerate" p) [e] [] pos) (iEnumT X.K ta) := by
  refine ⟨fun pins s σ H R I h => ?_⟩
  refine Call_ (ld_blt I hg hm boot_enumerate (PyProof.Rows.callWith_type1 (thn (ha.run pos pins s σ H _ I h) fun us s1 ⟨vs, H1, I1, r1, q1⟩ => ?_) hs rfl))
  obtain ⟨a, xs, ex, hq, q⟩ := q1
  subst ex
  rw [Vals.ref1 r1]
  obtain ⟨its, rv, p', hz⟩ := I1.tuple hq
  refine enum1 (begins_tuple a its.toArray) p' fun h' he ho hk => wpAny_pyIter_enum he ?_
  refine ⟨s1.heap.objs.size + 1, [s1.heap.objs.size + 1, s1.heap.objs.size], _, _, H1, rfl, I1.kept (t' := s1.toks) hk, turn_enumT a (s1.heap.objs.size + 1) s1.heap.objs.size, ⟨⟨.none, he⟩, ⟨_, ho, rfl, rfl⟩, Nat.succ_ne_self _⟩, fun b hb => ?_, q⟩
  have hle : s1.heap.objs.size ≤ b := by
    have e' : b = s1.heap.objs.size + 1 ∨ b = s1.heap.objs.size := by simpa using hb
    rcases e' with z | z
    · rw [z]
      exact Nat.le_add_right _ _
    · rw [z]
      exact Nat.le_refl _
  exact I1.fpOk hle (I1.hok.fresh hle)
end Lb
set_option Elab.async false
set_option linter.all false
set_option maxRecDepth 100000
set_option maxHeartbeats 2000000
namespace Lb
open PySem PySem.Spec PyProof.Rows L2
/-! ### values as data: None, bools, ints, texts, tuples, lists, {}; every address lies in the region R -/
abbrev Rgn := Addr → Prop
mutual
inductive Dat (R : Rgn) (H : Hp) : V → PyData → Prop
  | non : Dat R H .non .none
  | bl (b : Bool) : Dat R H (.bl b) (.bool b)
  | int (i : Int) : Dat R H (.int i) (.int i)
  | str (x : Str) : Dat R H (.str x) (.str x)
  | tup {a : Addr} {xs : List V} {ds : List PyData} (ra : R a) (e : H a = some (.tup xs)) (h : Dats R H xs ds) : Dat R H (.ref a) (.tuple ds)
  | lst {a : Addr} {xs : List V} {ds : List PyData} (ra : R a) (e : H a = some (.lst xs)) (h : Dats R H xs ds) : Dat R H (.ref a) (.list ds)
  | emp {a : Addr} (ra : R a) (e : H a = some (.dK [])) : Dat R H (.ref a) (.dict [])
inductive Dats (R : Rgn) (H : Hp) : List V → List PyData → Prop
  | nil : Dats R H [] []
  | cons {v : V} {vs : List V} {d : PyData} {ds : List PyData} (h : Dat R H v d) (t : Dats R H vs ds) : Dats R H (v :: vs) (d :: ds)
end
/-- what lies in the region is kept -/
def On (R : Rgn) (H H' : Hp) : Prop := ∀ b o, R b → H b = some o → H' b = some o
theorem On.of {R : Rgn} {H H' : Hp} (s : Same H H') : On R H H' := fun b o _ e => s b o e
theorem On.trans {R : Rgn} {H H1 H2 : Hp} (a : On R H H1) (b : On R H1 H2) : On R H H2 := fun c o r e => b c o r (a c o r e)
mutual
theorem Dat.on {R : Rgn} {H H' : Hp} (k : On R H H') : ∀ {v : V} {d : PyData}, Dat R H v d → Dat R H' v d
  | _, _, .non => .non
  | _, _, .bl b => .bl b
  | _, _, .int i => .int i
  | _, _, .str x => .str x
  | _, _, .tup ra e h => .tup ra (k _ _ ra e) (Dats.on k h)
  | _, _, .lst ra e h => .lst ra (k _ _ ra e) (Dats.on k h)
  | _, _, .emp ra e => .emp ra (k _ _ ra e)
theorem Dats.on {R : Rgn} {H H' : Hp} (k : On R H H') : ∀ {v : List V} {d : List PyData}, Dats R H v d → Dats R H' v d
  | _, _, .nil => .nil
  | _, _, .cons h t => .cons (Dat.on k h) (Dats.on k t)
end
theorem Dat.same {R : Rgn} {H H' : Hp} {v : V} {d : PyData} (h : Dat R H v d) (s : Same H H') : Dat R H' v d := h.on (On.of s)
theorem Dats.same {R : Rgn} {H H' : Hp} {v : List V} {d : List PyData} (h : Dats R H v d) (s : Same H H') : Dats R H' v d := h.on (On.of s)
mutual
/-- a region may be made smaller by what is not there -/
theorem Dat.sub {R R' : Rgn} {H : Hp} (k : ∀ b o, R b → H b = some o → R' b) : ∀ {v : V} {d : PyData}, Dat R H v d → Dat R' H v d
  | _, _, .non => .non
  | _, _, .bl b => .bl b
  | _, _, .int i => .int i
  | _, _, .str x => .str x
  | _, _, .tup ra e h => .tup (k _ _ ra e) e (Dats.sub k h)
  | _, _, .lst ra e h => .lst (k _ _ ra e) e (Dats.sub k h)
  | _, _, .emp ra e => .emp (k _ _ ra e) e
theorem Dats.sub {R R' : Rgn} {H : Hp} (k : ∀ b o, R b → H b = some o → R' b) : ∀ {v : List V} {d : List PyData}, Dats R H v d → Dats R' H v d
  | _, _, .nil => .nil
  | _, _, .cons h t => .cons (Dat.sub k h) (Dats.sub k t)
end
theorem Dats.length {R : Rgn} {H : Hp} : ∀ {v : List V} {d : List PyData}, Dats R H v d → v.length = d.length
  | _, _, .nil => rfl
  | _, _, .cons _ t => by rw [List.length_cons, List.length_cons, Dats.length t]
theorem Dats.get {R : Rgn} {H : Hp} : ∀ {vs : List V} {ds : List PyData} {i : Nat} {d : PyData}, Dats R H vs ds → ds[i]? = some d → ∃ v, vs[i]? = some v ∧ Dat R H v d
  | _, _, 0, _, .cons h _, e => by
    have e' := Option.some.inj e
    subst e'
    exact ⟨_, rfl, h⟩
  | _, _, i + 1, _, .cons _ t, e => Dats.get (i := i) t e
theorem Dats.get' {R : Rgn} {H : Hp} : ∀ {vs : List V} {ds : List PyData} {i : Nat} {v : V}, Dats R H vs ds → vs[i]? = some v → ∃ d, ds[i]? = some d ∧ Dat R H v d
  | _, _, 0, _, .cons h _, e => by
    have e' := Option.some.inj e
    subst e'
    exact ⟨_, rfl, h⟩
  | _, _, i + 1, _, .cons _ t, e => Dats.get' (i := i) t e
theorem Dats.append {R : Rgn} {H : Hp} : ∀ {vs ws : List V} {ds es : List PyData}, Dats R H vs ds → Dats R H ws es → Dats R H (vs ++ ws) (ds ++ es)
  | _, _, _, _, .nil, k => k
  | _, _, _, _, .cons h t, k => .cons h (Dats.append t k)
theorem Dats.take {R : Rgn} {H : Hp} : ∀ {vs : List V} {ds : List PyData} (n : Nat), Dats R H vs ds → Dats R H (vs.take n) (ds.take n)
  | _, _, 0, _ => .nil
  | _, _, _ + 1, .nil => .nil
  | _, _, n + 1, .cons h t => .cons h (Dats.take n t)
theorem Dats.drop {R : Rgn} {H : Hp} : ∀ {vs : List V} {ds : List PyData} (n : Nat), Dats R H vs ds → Dats R H (vs.drop n) (ds.drop n)
  | _, _, 0, k => k
  | _, _, _ + 1, .nil => .nil
  | _, _, n + 1, .cons _ t => Dats.drop n t
theorem Dats.reverse {R : Rgn} {H : Hp} : ∀ {vs : List V} {ds : List PyData}, Dats R H vs ds → Dats R H vs.reverse ds.reverse
  | _, _, .nil => .nil
  | _, _, .cons h t => by
    rw [List.reverse_cons, List.reverse_cons]
    exact Dats.append (Dats.reverse t) (.cons h .nil)
theorem Dats.rep {R : Rgn} {H : Hp} {vs : List V} {ds : List PyData} (h : Dats R H vs ds) : ∀ n : Nat, Dats R H (List.replicate n vs).flatten (List.replicate n ds).flatten
  | 0 => .nil
  | n + 1 => by
    rw [List.replicate_succ, List.replicate_succ, List.flatten_cons, List.flatten_cons]
    exact h.append (Dats.rep h n)
theorem Dats.ints {R : Rgn} {H : Hp} : ∀ ns : List Int, Dats R H (ns.map V.int) (ns.map PyData.int)
  | [] => .nil
  | n :: ns => .cons (.int n) (Dats.ints ns)
theorem Dats.of_ints {R : Rgn} {H : Hp} : ∀ {vs : List V} {ns : List Int}, Dats R H vs (ns.map PyData.int) → vs = ns.map V.int
  | _, [], .nil => rfl
  | _, n :: ns, .cons h t => by
    cases h
    rw [Dats.of_ints (ns := ns) t]
    rfl
/-- a new tuple, a new list -/
theorem same_upd {H : Hp} {p : Addr} {o : HO} (h : H p = none) : Same H (upd H p o) := fun b x e => by
  rw [upd_ne (ne_of_none e h)]
  exact e
theorem Dat.newT {R : Rgn} {H : Hp} {p : Addr} {xs : List V} {ds : List PyData} (n : H p = none) (r : R p) (h : Dats R H xs ds) : Dat R (upd H p (.tup xs)) (.ref p) (.tuple ds) := .tup r upd_same (h.same (same_upd n))
theorem Dat.newL {R : Rgn} {H : Hp} {p : Addr} {xs : List V} {ds : List PyData} (n : H p = none) (r : R p) (h : Dats R H xs ds) : Dat R (upd H p (.lst xs)) (.ref p) (.list ds) := .lst r upd_same (h.same (same_upd n))

/-! ### repr -/
section
variable {X : Cx} {pins : List (Addr × Obj)} {σ : L2.St} {H : Hp} {s : Shared} {R : Rgn}
mutual
theorem dat_reads (I : Inv X pins σ H s) : ∀ {v : V} {d : PyData} {u : Value}, Dat R H v d → RelV v u → ∃ as, Reads s.heap u d as
  | _, _, u, .non, r => by
    cases (show u = Value.none from r)
    exact ⟨_, .none⟩
  | _, _, u, .bl b, r => by
    cases (show u = Value.bool b from r)
    exact ⟨_, .bool b⟩
  | _, _, u, .int i, r => by
    obtain ⟨t, q⟩ := (show ∃ t, u = Value.int i t from r)
    cases q
    exact ⟨_, .int i t⟩
  | _, _, u, .str x, r => by
    obtain ⟨t, q⟩ := (show ∃ t, u = Value.str x t from r)
    cases q
    exact ⟨_, .str x t⟩
  | _, _, u, .tup (a := a) (xs := xs) _ e h, r => by
    cases (show u = Value.ref a from r)
    obtain ⟨its, rv, ⟨o, ho, hc, n, hd⟩, _⟩ := I.tuple (.inl (.inl e))
    obtain ⟨as, q⟩ := dats_reads I h rv
    exact ⟨_, .tuple ho hc hd q⟩
  | _, _, u, .lst (a := a) (xs := xs) _ e h, r => by
    cases (show u = Value.ref a from r)
    obtain ⟨its, rv, hp, _⟩ := I.list (.inl (.inl e))
    obtain ⟨o, n, ho, hc, _, hd⟩ := hp
    obtain ⟨as, q⟩ := dats_reads I h rv
    exact ⟨_, .list ho hc hd q⟩
  | _, _, u, .emp (a := a) _ e, r => by
    cases (show u = Value.ref a from r)
    obtain ⟨_, _, vs, kv, o, es, ep, ho, hx, hd, hk, hp, _⟩ := (show ObjOk X.prog X.w H s.heap a (.dK []) from I.hok a _ e)
    cases kv
    have e0 : es.toList = [] := by
      generalize es.toList = l at hp
      cases hp
      rfl
    refine ⟨_, .dict (kvs := []) (as := []) (bs := []) ho hx.1 hd ?_ ?_⟩
    · rw [e0]
      exact .nil
    · rw [e0]
      exact .nil
theorem dats_reads (I : Inv X pins σ H s) : ∀ {vs : List V} {ds : List PyData} {us : List Value}, Dats R H vs ds → Vals vs us → ∃ as, ReadsAll s.heap us ds as
  | _, _, _, .nil, .nil => ⟨_, .nil⟩
  | _, _, _, .cons h t, .cons r rr => by
    obtain ⟨as, q⟩ := dat_reads I h r
    obtain ⟨bs, q2⟩ := dats_reads I t rr
    exact ⟨_, .cons q q2⟩
end
theorem emp_at (I : Inv X pins σ H s) {a : Addr} (e : H a = some (.dK [])) : ∃ o n, s.heap.get? a = some o ∧ o.cls = .type "dict" ∧ o.data = .dict #[] n ∧ (a == sysModules) = false := by
  obtain ⟨_, hs, vs, kv, o, es, ep, ho, hx, hd, hk, hp, _⟩ := (show ObjOk X.prog X.w H s.heap a (.dK []) from I.hok a _ e)
  cases kv
  have e0 : es = #[] := by
    have : es.toList = [] := by
      generalize es.toList = l at hp
      cases hp
      rfl
    exact Array.toList_eq_nil_iff.mp this
  subst e0
  exact ⟨o, ep, ho, hx.1, hd, hs⟩
mutual
theorem dat_show (I : Inv X pins σ H s) : ∀ {v : V} {d : PyData} {u : Value}, Dat R H v d → RelV v u → d.showable = true → d.shown.length ≤ sizeLine →
    ∃ bs, ReadAtMost s.heap d.depth bs ∧ ReprK X.prog X.w bs s.heap d.depth u d.shown
  | _, _, u, .non, r, _, _ => by
    cases (show u = Value.none from r)
    refine ⟨[], (fun _ z => nomatch z), ?_⟩
    rw [PyData.shown]
    exact ReprK.of_is ReprIs.none _ _ _
  | _, _, u, .bl b, r, _, _ => by
    cases (show u = Value.bool b from r)
    refine ⟨[], (fun _ z => nomatch z), ?_⟩
    rw [PyData.shown]
    exact ReprK.of_is (ReprIs.bool b) _ _ _
  | _, _, u, .int i, r, hw, _ => by
    obtain ⟨t, q⟩ := (show ∃ t, u = Value.int i t from r)
    cases q
    refine ⟨[], (fun _ z => nomatch z), ?_⟩
    rw [PyData.shown]
    rw [PyData.showable] at hw
    exact ReprK.of_is (ReprIs.int t (of_decide_eq_true hw)) _ _ _
  | _, _, u, .str x, r, _, hz => by
    obtain ⟨t, q⟩ := (show ∃ t, u = Value.str x t from r)
    cases q
    refine ⟨[], (fun _ z => nomatch z), ?_⟩
    rw [PyData.shown] at hz ⊢
    exact ReprK.of_is (ReprIs.str x t hz) _ _ _
  | _, _, u, .tup (a := a) (xs := xs) (ds := ds) ra e h, r, hw, hz => by
    cases (show u = Value.ref a from r)
    obtain ⟨as, rd⟩ := dat_reads I (Dat.tup ra e h) rfl
    obtain ⟨its, rv, ⟨o, ho, hc, n, hd⟩, _⟩ := I.tuple (.inl (.inl e))
    rw [PyData.showable] at hw
    rw [PyData.shown] at hz
    obtain ⟨bs, hb, hk⟩ := dats_show I h rv hw fun t ht => Nat.le_trans (tupleText_mem_le ht) hz
    have na : a ∉ bs := not_mem_of_deeper rd (by rw [PyData.depth]; omega) hb
    refine ⟨a :: bs, ReadAtMost.cons rd (by rw [PyData.depth]; omega) hb, ?_⟩
    rw [PyData.depth, PyData.shown]
    exact ReprK.tuple ho hc hd na hk
  | _, _, u, .lst (a := a) (xs := xs) (ds := ds) ra e h, r, hw, hz => by
    cases (show u = Value.ref a from r)
    obtain ⟨as, rd⟩ := dat_reads I (Dat.lst ra e h) rfl
    obtain ⟨its, rv, hp, _⟩ := I.list (.inl (.inl e))
    obtain ⟨o, n, ho, hc, _, hd⟩ := hp
    rw [PyData.showable] at hw
    rw [PyData.shown] at hz
    obtain ⟨bs, hb, hk⟩ := dats_show I h rv hw fun t ht => Nat.le_trans (listText_mem_le ht) hz
    have na : a ∉ bs := not_mem_of_deeper rd (by rw [PyData.depth]; omega) hb
    refine ⟨a :: bs, ReadAtMost.cons rd (by rw [PyData.depth]; omega) hb, ?_⟩
    rw [PyData.depth, PyData.shown]
    cases its with
    | nil =>
      cases rv
      cases h
      rw [PyData.shownAll, listText_nil]
      exact ReprK.listEmpty ho hc hd
    | cons y ys =>
      refine ReprK.list ho hc hd na ?_ fun i z q => hk.item i z (by simpa using q)
      have := hk.length_eq
      simpa using this
  | _, _, u, .emp (a := a) ra e, r, _, _ => by
    cases (show u = Value.ref a from r)
    obtain ⟨as, rd⟩ := dat_reads I (Dat.emp ra e) rfl
    obtain ⟨o, n, ho, hc, hd, hs⟩ := emp_at I e
    refine ⟨[a], fun b hb => ?_, ?_⟩
    · rw [List.mem_singleton.mp hb]
      exact ⟨_, _, rd, Nat.le_refl _⟩
    · have k := ReprK.dict (prog := X.prog) (w := X.w) (as := []) (d := 0) (ps := []) ho hc hd hs (fun z => nomatch z) .nil
      have e1 : (PyData.dict []).shown = dictText [] := by
        rw [PyData.shown, PyData.shownKv]
      have e2 : (PyData.dict []).depth = 0 + 1 := by
        rw [PyData.depth, PyData.depthKv]
      rw [e1, e2]
      exact k
theorem dats_show (I : Inv X pins σ H s) : ∀ {vs : List V} {ds : List PyData} {us : List Value}, Dats R H vs ds → Vals vs us → PyData.showableAll ds = true → (∀ t ∈ PyData.shownAll ds, t.length ≤ sizeLine) →
    ∃ bs, ReadAtMost s.heap (PyData.depthAll ds) bs ∧ ReprAllK X.prog X.w bs s.heap (PyData.depthAll ds) us (PyData.shownAll ds)
  | _, _, _, .nil, .nil, _, _ => ⟨[], (fun _ z => nomatch z), by rw [PyData.shownAll]; exact .nil⟩
  | _, _, _, .cons (d := d) (ds := ds) h t, .cons r rr, hw, hz => by
    rw [PyData.showableAll, Bool.and_eq_true] at hw
    rw [PyData.shownAll] at hz
    obtain ⟨bs, hb, k⟩ := dat_show I h r hw.1 (hz _ List.mem_cons_self)
    obtain ⟨cs, hc, l⟩ := dats_show I t rr hw.2 fun z q => hz z (List.mem_cons_of_mem _ q)
    have l1 : d.depth ≤ max d.depth (PyData.depthAll ds) := Nat.le_max_left _ _
    have l2 : PyData.depthAll ds ≤ max d.depth (PyData.depthAll ds) := Nat.le_max_right _ _
    refine ⟨bs ++ cs, ?_, ?_⟩
    · rw [PyData.depthAll]
      exact ReadAtMost.append (hb.mono l1) (hc.mono l2)
    · rw [PyData.depthAll, PyData.shownAll]
      exact .cons ((k.more fun b q => List.mem_append_left _ q).level_le l1) (l.more_le (fun b q => List.mem_append_right _ q) l2)
end
end
/-- repr(x), x any data -/
def rRepr : List V → Hp → VK → Prop := fun xs H Q => ∃ (R : Rgn) (v : V) (d : PyData), xs = [v] ∧ Dat R H v d ∧ d.showable = true ∧ d.shown.length ≤ sizeLine ∧ d.depth ≤ 100 ∧ Q (.str d.shown) H
theorem Vals.one {v : V} {us : List Value} (r : Vals [v] us) : ∃ u, us = [u] ∧ RelV v u := by
  cases r with
  | cons a b =>
    cases b
    exact ⟨_, rfl, a⟩
theorem call_reprD {X : Cx} (hg : X.A.guards = some []) (hu : X.A.units + 110 < cLine) : CallR X (.builtin "repr") rRepr := by
  intro pins s σ H xs us Q I r h
  obtain ⟨R, v, d, rfl, hd, hw, hz, hdp, q⟩ := h
  obtain ⟨u, rfl, ru⟩ := Vals.one r
  have fin : ∀ (h' : Heap) (t : Tok) (tk : Nat), (∀ b o, s.heap.get? b = some o → h'.get? b = some o) → EP X pins σ Q (.str d.shown t) { s with heap := h', toks := tk } := fun h' t tk hk =>
    ⟨.str d.shown, H, I.kept hk, ⟨_, rfl⟩, q⟩
  have fin0 : ∀ (t : Tok) (tk : Nat), EP X pins σ Q (.str d.shown t) { s with toks := tk } := fun t tk => fin s.heap t tk fun _ _ e => e
  cases hd with
  | non =>
    cases (show u = Value.none from ru)
    have := fin0 s.toks (s.toks + 1)
    rw [PyData.shown] at this
    exact PySem.P.repr_of_none this
  | bl b =>
    cases (show u = Value.bool b from ru)
    have := fin0 s.toks (s.toks + 1)
    rw [PyData.shown] at this
    exact PySem.P.repr_of_bool this
  | int i =>
    obtain ⟨t, e⟩ := (show ∃ t, u = Value.int i t from ru)
    cases e
    have := fin0 s.toks (s.toks + 1)
    rw [PyData.shown] at this
    rw [PyData.showable] at hw
    exact PySem.P.repr_of_int (of_decide_eq_true hw) this
  | str x =>
    obtain ⟨t, e⟩ := (show ∃ t, u = Value.str x t from ru)
    cases e
    have := fin0 s.toks (s.toks + 1)
    rw [PyData.shown] at this hz
    exact PySem.P.repr_of_str this hz
  | @tup a xs ds ra e h =>
    cases (show u = Value.ref a from ru)
    obtain ⟨as, rd⟩ := dat_reads I (Dat.tup ra e h) rfl
    obtain ⟨its, rv, ⟨o, ho, hc, n, hd⟩, _⟩ := I.tuple (.inl (.inl e))
    rw [PyData.showable] at hw
    rw [PyData.shown] at hz
    rw [PyData.depth] at hdp
    obtain ⟨bs, hb, hk⟩ := dats_show I h rv hw fun t ht => Nat.le_trans (tupleText_mem_le ht) hz
    have na : a ∉ bs := not_mem_of_deeper rd (by rw [PyData.depth]; omega) hb
    refine call_repr_slot (by omega) ⟨o, ho, hc⟩ F.slot_tuple_repr (call_tuple_reprK ho hc hd na hk (A := X.A.in1) hg (fun b _ => Clear.nil b) (by show X.A.units + 1 + _ < _; omega) (fun _ _ e => e) (fun h' t tk hk' => ⟨_, _, rfl, ?_⟩) hz)
    have := fin h' t tk hk'
    rw [PyData.shown] at this
    exact this
  | @lst a xs ds ra e h =>
    cases (show u = Value.ref a from ru)
    obtain ⟨as, rd⟩ := dat_reads I (Dat.lst ra e h) rfl
    obtain ⟨its, rv, hp, _⟩ := I.list (.inl (.inl e))
    obtain ⟨o, n, ho, hc, _, hd⟩ := hp
    rw [PyData.showable] at hw
    rw [PyData.shown] at hz
    rw [PyData.depth] at hdp
    obtain ⟨bs, hb, hk⟩ := dats_show I h rv hw fun t ht => Nat.le_trans (listText_mem_le ht) hz
    have na : a ∉ bs := not_mem_of_deeper rd (by rw [PyData.depth]; omega) hb
    rw [PyData.shown] at fin fin0
    cases its with
    | nil =>
      cases rv
      cases h
      rw [PyData.shownAll, listText_nil] at fin fin0
      exact call_repr_slot (by omega) ⟨o, ho, hc⟩ F.slot_list_repr.toG (call_list_repr_empty ⟨o, ho, hc⟩ ho hd ⟨_, _, rfl, fin0 _ _⟩)
    | cons y ys =>
      refine call_repr_slot (by omega) ⟨o, ho, hc⟩ F.slot_list_repr.toG (call_list_reprK ho hc hd na ?_ (fun i z q => hk.item i z (by simpa using q)) (A := X.A.in1) hg (fun b _ => Clear.nil b) (by show X.A.units + 1 + _ < _; omega) (fun _ _ e => e)
        (fun h' t tk hk' => ⟨_, _, rfl, fin h' t tk hk'⟩) hz)
      have := hk.length_eq
      simpa using this
  | @emp a ra e =>
    cases (show u = Value.ref a from ru)
    obtain ⟨o, n, ho, hc, hd, hs⟩ := emp_at I e
    have e1 : (PyData.dict []).shown = dictText [] := by
      rw [PyData.shown, PyData.shownKv]
    rw [e1] at fin hz
    exact call_repr_slot (by omega) ⟨o, ho, hc⟩ F.slot_dict_repr (call_dict_reprK (as := []) (d := 0) (ps := []) ho hc hd hs (fun z => nomatch z) .nil (A := X.A.in1) hg (fun b _ => Clear.nil b) (by show X.A.units + 1 + _ < _; omega) (fun _ _ e => e)
      (fun h' t tk hk' => ⟨_, _, rfl, fin h' t tk hk'⟩) hz)
end Lb
set_option Elab.async false
set_option linter.all false
set_option maxRecDepth 100000
set_option maxHeartbeats 4000000
namespace Lb
open PySem PySem.Spec PyProof.Rows L2
/-! ### t[::-1] of a tuple -/
section
variable {prog : Program} {w : World} {A : Around} {E : Value → Shared → Prop} {s : Shared}
end
section
variable {X : Cx}
end
end Lb
set_option Elab.async false
set_option linter.all false
set_option maxRecDepth 100000
set_option maxHeartbeats 4000000
namespace Lb
open PySem PySem.Spec PyProof.Rows L2
/-! ### t * k, k any small number -/
section
variable {X : Cx}
end
/-! ### the law's own def, run where no repr is under way -/
structure FnG (P : Program) (w : World) (K : PySem.W.Frag) (mg : Str → Option Value) (base : Heap) (CX : CXT) (k : Nat) (f : Addr) (fd : FuncData) (ps : List Str) (sp : Sp) : Prop where
  len : ∀ vs H Q E, sp vs H Q E → vs.length = ps.length
  run : ∀ (A : Around) (outer : List Env) (s : Shared) (H : Hp) (args : Args) (us : List Value) (vs : List V) (Q : VK) (E : XK), A.guards = some [] → Room k A → Env0 P w K mg base A outer s H → BindsTo s fd args (ps.zip us) → Vals vs us → sp vs H Q E →
    codeAny (model P w) A (.call (.ref f) args) (CR CX outer P w H s Q E) s
theorem fnG_of {CX : CXT} {P : Program} {w : World} {K : PySem.W.Frag} {mg : Str → Option Value} {base : Heap} {k : Nat} {f : Addr} {x qual : Str} {st : Stmt} {fd : FuncData} {N ps : List Str} {sp : Sp} (F : Fun K x qual st f fd) (S : FnScope N ps (defScope st))
    (len : ∀ vs H Q E, sp vs H Q E → vs.length = ps.length)
    (hbody : ∀ (cdv : Value) (A : Around) (outer : List Env) (s : Shared) (H : Hp) (vs : List V) (Q : VK) (E : XK), (A.deeper (envOfC qual (defScope st) s.heap.objs.size f cdv)).guards = some [] → Room k (A.deeper (envOfC qual (defScope st) s.heap.objs.size f cdv)) → sp vs H Q E →
      ∃ t, PSs (cxOf CX P w K mg base N qual (defScope st) f cdv A outer s H E) (defBody st) t ∧ t { nx := fun _ H' => Q .non H', rt := Q } (start N vs) H) : FnG P w K mg base CX (k + 1) f fd ps sp := by
  obtain ⟨oc, od, kV, doc, pm, an, cdv, ct, osl, rfl, lk, hcd⟩ := F.ex
  refine ⟨len, fun A outer s H args us vs Q E hg hr e0 hb r hsp => ?_⟩
  have hl := len _ _ _ _ hsp
  have kin : K.In s.heap := e0.mod.kin.keeps fun b o z => (e0.bs b o z).1
  have lim : s.heap.NoLimit := e0.mod.nolimit.keeps fun b o z => (e0.bs b o z).1
  have kinds : ∀ y ∈ ps.zip us, (defScope st).names.lookup y.1 = some .local ∨ ((defScope st).names.lookup y.1 = some .cell ∧ ((cellsFrom (s.heap.objs.size + 1) (defScope st).names []).lookup y.1).isSome = true) := by
    rintro ⟨n, v⟩ hy
    rcases S.par n (List.of_mem_zip hy).1 with z | z
    · exact .inl z
    · exact .inr ⟨z, PySem.W.cellsFrom_some _ _ _ (.inl z)⟩
  refine codeAny_call_function hr.depth (kin _ _ lk) rfl S.co S.gen rfl (PySem.W.codeRec_of kin hcd) (hb _ _ _ _ ?_)
  refine wpAny_newFunctionEnv_cells S.kind kinds fun env he s1 inc => ?_
  subst he
  refine ⟨lim.keeps inc.toInCall.keep, codeAny_func ?_⟩
  obtain ⟨t, ht, hq⟩ := hbody cdv A outer s H vs Q E hg (hr.deeper _) hsp
  have I : Inv (cxOf CX P w K mg base N qual (defScope st) f cdv A outer s H E) [] (start N vs) H s1 := inv_start S hr.hd e0 hl r inc
  refine wpAny_mono (ht.run [] s1 (start N vs) H _ I hq) (fun fl s' hs => ?_) fun e s' hs => hs
  cases fl with
  | ret u =>
    obtain ⟨v, σ', H', J, rv, q⟩ := hs
    exact ⟨v, H', J.os, J.bare, J.base, J.hok, rv, q⟩
  | next =>
    obtain ⟨σ', H', J, q⟩ := hs
    exact ⟨.non, H', J.os, J.bare, J.base, J.hok, rfl, q⟩
  | brk =>
    obtain ⟨_, _, _, q⟩ := hs
    exact q.elim
  | cont =>
    obtain ⟨_, _, _, q⟩ := hs
    exact q.elim
theorem lawG_of {P : Program} {w : World} {K : PySem.W.Frag} {mg : Str → Option Value} {base : Heap} {k : Nat} {f : Addr} {x qual : Str} {st : Stmt} {fd : FuncData} {N ps : List Str} {sp : Sp} (F : Fun K x qual st f fd) (S : FnScope N ps (defScope st))
    (len : ∀ vs H Q E, sp vs H Q E → vs.length = ps.length)
    (hbody : ∀ (cdv : Value) (A : Around) (outer : List Env) (s : Shared) (H : Hp) (vs : List V) (Q : VK) (E : XK), (cxOf CX0 P w K mg base N qual (defScope st) f cdv A outer s H E).nox.A.guards = some [] → Room k (A.deeper (envOfC qual (defScope st) s.heap.objs.size f cdv)) → sp vs H Q E →
      ∃ t, PSs (cxOf CX0 P w K mg base N qual (defScope st) f cdv A outer s H E).nox (defBody st) t ∧ t { nx := fun _ H' => Q .non H', rt := Q } (start N vs) H) : FnG P w K mg base CX0 (k + 1) f fd ps sp :=
  fnG_of F S len fun cdv A outer s H vs Q E hg hr h => let ⟨t, p, q⟩ := hbody cdv A outer s H vs Q E hg hr h; ⟨t, p.nox, q⟩
end Lb
set_option Elab.async false
set_option linter.all false
set_option maxRecDepth 100000
set_option maxHeartbeats 4000000
namespace Lb
open PySem PySem.Spec PyProof.Rows L2
section
variable {P : Program} {w : World} {K : PySem.W.Frag} {mg mb : Str → Option Value} {CX : CXT} {k : Nat} {fa a : Addr} {fd : FuncData} {x : Str} {sp : Sp} {s1 : Shared} {vs : List Value} {ns : List Int}
/-- what the law's call must come to -/
abbrev LawEnd (s1 : Shared) : Result → Shared → Prop := fun r s' => r = .ok (.ret (.bool true)) ∧ OldK s1.heap s'.heap ∧ s'.os = s1.os ∧ AllBare s'.gens
theorem go_from {H : Hp} (kin : K.In s1.heap) (hns : s1.heap.Ns mainGlobals mg) (hb : s1.heap.Ns builtinsNs mb) (hbb : ∀ x : Str, x ≠ "__name__" → mb x = bootBuiltins x) (hlim : s1.heap.NoLimit) (hg : s1.gens = #[])
    (ha : s1.heap.get? a = some { cls := .type "list", data := .seq vs.toArray }) (hr : Room k callerA)
    (F : ∀ base : Heap, K.In base → base.Ns mainGlobals mg → FnG P w K mg base CX k fa fd [x] sp) (hbind : ∀ (s : Shared) (u : Value), BindsTo s fd ⟨[u], []⟩ [(x, u)])
    (only : Only H) (hok : HOk P w H s1.heap) (hA : ∀ b, H b ≠ none → b = a) (hK : H a ≠ none → K.lookup a = none)
    (hsp : sp [.ref a] H (fun v _ => v = .bl true) fun _ _ _ => False) (hCX : ∀ e s', CX [] H s1 (fun _ _ _ => False) e s' → False) :
    codeAny (model P w) callerA (.call (.ref fa) ⟨[.ref a], []⟩) (LawEnd s1) s1 := by
  have isA : ∀ {b : Addr} {u : HO}, H b = some u → b = a := fun {b u} e => hA b (by rw [e]; exact fun z => nomatch z)
  have dictFree : ∀ {b : Addr} {o : Obj} {es : Array DictEntry} {ep : Nat}, s1.heap.get? b = some o → o.data = .dict es ep → H b = none := by
    intro b o es ep e d
    cases q : H b with
    | none => rfl
    | some u =>
      have eb := isA q
      subst eb
      rw [ha] at e
      cases e
      exact nomatch (show Data.seq vs.toArray _ = Data.dict es ep from d)
  have ns : ∀ {b : Addr} {m : Str → Option Value}, s1.heap.Ns b m → (hidT s1.heap H).Ns b m := by
    rintro b m ⟨o, es, ep, e, d, r⟩
    exact ⟨o, es, ep, hidT_get e (dictFree e d), d, r⟩
  have kb : K.In (hidT s1.heap H) := by
    intro b o e
    refine hidT_get (kin b o e) ?_
    cases q : H b with
    | none => rfl
    | some u =>
      have eb := isA q
      subst eb
      rw [hK (by rw [q]; exact fun z => nomatch z)] at e
      cases e
  obtain ⟨mc, n1, n2⟩ := hlim
  have md : Mod K mg (hidT s1.heap H) := ⟨kb, ns hns, ⟨mb, ns hb, hbb⟩, ⟨mc, ns n1, n2⟩⟩
  have e0 : Env0 P w K mg (hidT s1.heap H) callerA [] s1 H :=
    ⟨rfl, md, fun b o e => of_hidT e, Nat.le_of_eq (hidT_size _ _), trivial, fun b hb => absurd (show b ∈ ([] : List Addr) from hb) (by simp), hok, .of_eq hg⟩
  refine codeAny_mono ((F _ kb (ns hns)).run callerA [] s1 H ⟨[.ref a], []⟩ [.ref a] [.ref a] _ _ rfl hr e0 (hbind s1 (.ref a)) (.cons rfl .nil) hsp) fun r s' h => ?_
  cases r with
  | error e => exact (hCX e s' h).elim
  | ok fl =>
    cases fl with
    | next => exact h.elim
    | brk => exact h.elim
    | cont => exact h.elim
    | ret u =>
      obtain ⟨v, H', os, bare, un, hok', ru, q⟩ := h
      have ev : v = .bl true := q
      subst ev
      obtain rfl : u = Value.bool true := ru
      refine ⟨rfl, OldK.of_keep fun b o e => ?_, os, bare⟩
      rcases only b with z | ⟨ob, xs, z⟩
      · exact un.keep b o e z (fun m => absurd (show b ∈ ([] : List Addr) from m) (by simp)) (by simp)
      · obtain ⟨g1, _⟩ := hok b _ z
        obtain ⟨g2, _⟩ := hok' b _ (un.frzs b ob _ z)
        rw [e] at g1
        cases g1
        exact g2
theorem law_go (kin : K.In s1.heap) (hns : s1.heap.Ns mainGlobals mg) (hb : s1.heap.Ns builtinsNs mb) (hbb : ∀ x : Str, x ≠ "__name__" → mb x = bootBuiltins x) (hlim : s1.heap.NoLimit) (hg : s1.gens = #[])
    (ha : s1.heap.get? a = some { cls := .type "list", data := .seq vs.toArray }) (hi : IntsAre vs ns) (hl : ns.length ≤ sizeLine) (hr : Room k callerA)
    (F : ∀ base : Heap, K.In base → base.Ns mainGlobals mg → FnG P w K mg base CX k fa fd [x] sp) (hbind : ∀ (s : Shared) (u : Value), BindsTo s fd ⟨[u], []⟩ [(x, u)])
    (hsp : ∀ H : Hp, Only H → SqL K H a (ns.map V.int) → sp [.ref a] H (fun v _ => v = .bl true) fun _ _ _ => False)
    (hCX : ∀ H e s', CX [] H s1 (fun _ _ _ => False) e s' → False) : codeAny (model P w) callerA (.call (.ref fa) ⟨[.ref a], []⟩) (LawEnd s1) s1 := by
  have rv := vals_ints hi
  cases hk : K.lookup a with
  | some o =>
    have e := kin a o hk
    rw [ha] at e
    cases e
    have only0 : Only (fun _ => none) := fun _ => .inl rfl
    refine go_from (H := fun _ => none) kin hns hb hbb hlim hg ha hr F hbind only0 (fun b u z => nomatch (show (none : Option HO) = some u from z)) (fun b z => absurd rfl z) (fun z => absurd rfl z) (hsp _ only0 (.inr ⟨_, vs.toArray, _, hk, rfl, rfl, rfl, ?_, by simpa using rv⟩)) fun e s' => hCX _ e s'
    rw [List.size_toArray, hi.length]
    exact hl
  | none =>
    let H1 : Hp := fun b => if b = a then some (.frz { cls := .type "list", data := .seq vs.toArray } (.lst (ns.map V.int))) else none
    have at_a : H1 a = some (.frz { cls := .type "list", data := .seq vs.toArray } (.lst (ns.map V.int))) := if_pos rfl
    have off : ∀ {b : Addr}, b ≠ a → H1 b = none := fun h => if_neg h
    have only1 : Only H1 := fun b => by
      by_cases hb : b = a
      · rw [hb]
        exact .inr ⟨_, _, at_a⟩
      · exact .inl (off hb)
    refine go_from (H := H1) kin hns hb hbb hlim hg ha hr F hbind only1 (fun b u z => ?_) (fun b z => ?_) (fun _ => hk) (hsp _ only1 (.inl (.inr ⟨_, at_a⟩))) fun e s' => hCX _ e s'
    · by_cases hb : b = a
      · subst hb
        rw [at_a] at z
        cases z
        exact ⟨ha, by rw [List.length_map]; exact hl, vs, _, rv, ha⟩
      · rw [off hb] at z
        cases z
    · exact Classical.byContradiction fun hb => z (off hb)
end
theorem walk_g {l : PySem.W.OpenLaw} {n k : Nat} {q : Program} {loose : List Str} {XP : (Str → Option Value) → Heap → Prop} {YP : World → Heap → Prop} {d : DefRec} {K : Params → PySem.W.Frag} {CX : World → CXT} {sp : World → Sp} {x : Str}
    (hn : l.most = some n) (hn2 : n ≤ sizeLine) (hdf : d.params.defaults = []) (hr : Room k callerA) (hY : ∀ (w : World) (h : Heap), YP w h → (K w.params).In h)
    (F : ∀ (w : World) (mg : Str → Option Value) (fa : Addr) (h : Heap), (K w.params).In h → h.Ns mainGlobals mg → mg d.name = some (.ref fa) →
      ∃ fd : FuncData, (∀ (s : Shared) (u : Value), BindsTo s fd ⟨[u], []⟩ [(x, u)]) ∧ ∀ base : Heap, (K w.params).In base → base.Ns mainGlobals mg → FnG l.prog w (K w.params) mg base (CX w) k fa fd [x] (sp w))
    (hsp : ∀ (w : World) (H : Hp) (a : Addr) (ns : List Int), ns.length ≤ n → Only H → SqL (K w.params) H a (ns.map V.int) → sp w [.ref a] H (fun v _ => v = .bl true) fun _ _ _ => False)
    (hCX : ∀ (w : World) (H : Hp) (s : Shared) (e : Value) (s' : Shared), CX w [] H s (fun _ _ _ => False) e s' → False) :
    PySem.W.WalkO q loose XP YP l.row.toRowW d [] (fun f vs => PySem.call f vs) := by
  refine Att.attach_call hn hdf fun w s0 s1 mg mb fa o pm cd doc a vs ns G Y ho hd hcd hmg hobj hints hlen hg => ?_
  have kin := hY w _ Y
  obtain ⟨fd, hb, hF⟩ := F w mg fa _ kin G.T.g hmg
  exact law_go kin G.T.g G.T.b G.T.builtins G.T.nolimit hg hobj hints (Nat.le_trans hlen hn2) hr hF hb (fun H hO hS => hsp w H a ns hlen hO hS) fun H e s' => hCX w H s1 e s'
end Lb
set_option Elab.async false
set_option linter.all false
set_option maxRecDepth 100000
set_option maxHeartbeats 4000000
namespace Lb
open PySem PySem.Spec PyProof.Rows L2 RZ
/-! ### defs by their names -/
structure Df (K : PySem.W.Frag) (mg : Str → Option Value) (x : Str) (st : Stmt) : Prop where
  ex : ∃ (f : Addr) (fd : FuncData), Fun K x x st f fd ∧ mg x = some (.ref f)
structure Own (P : Program) (w : World) (K : PySem.W.Frag) (mg : Str → Option Value) (base : Heap) (x : Str) (k : Nat) (ps : List Str) (sp : Sp) : Prop where
  ex : ∃ (f : Addr) (fd : FuncData), FnOk P w K mg base CX0 k f fd ps sp ∧ mg x = some (.ref f) ∧ PySem.W.keepIn K (.ref f) = true ∧ Binds K fd ps []
section
variable {P : Program} {w : World} {K : PySem.W.Frag} {mg : Str → Option Value} {base : Heap}
theorem own_of {x : Str} {st : Stmt} {N ps : List Str} {k : Nat} {sp : Sp} (D : Df K mg x st) (S : FnScope N ps (defScope st))
    (hb : ∀ (kV doc pm : Value) (an : Option Addr) (cdv ct : Value) (us : List Value), us.length = ps.length → bindArgs (PySem.W.fnOf x x (defArgs st) (defBody st) (defScope st) .none kV doc pm an cdv ct) ⟨us, []⟩ = pure (ps.zip us))
    (len : ∀ vs H Q E, sp vs H Q E → vs.length = ps.length)
    (hbody : ∀ (f : Addr) (cdv : Value) (A : Around) (outer : List Env) (s : Shared) (H : Hp) (vs : List V) (Q : VK) (E : XK), Room k (A.deeper (envOfC x (defScope st) s.heap.objs.size f cdv)) → sp vs H Q E →
      ∃ t, PSs (cxOf CX0 P w K mg base N x (defScope st) f cdv A outer s H E).nox (defBody st) t ∧ t { nx := fun _ H' => Q .non H', rt := Q } (start N vs) H) : Own P w K mg base x (k + 1) ps sp := by
  obtain ⟨f, fd, F, m⟩ := D.ex
  exact ⟨f, fd, F.ok S len (hbody f), m, F.kp, F.binds hb⟩
theorem df_mk {h : Heap} {x : Str} {st : Stmt} {f : Addr} {oc : Value} {od an : Option Addr} {osl : Array (Option Value)} {kV doc pm cdv ct : Value} (X : K.In h) (G : h.Ns mainGlobals mg) (a : PySem.W.nsIn K mainGlobals x = some (some (.ref f)))
    (l : K.lookup f = some ⟨oc, od, .func (PySem.W.fnOf x x (defArgs st) (defBody st) (defScope st) .none kV doc pm an cdv ct), osl⟩) (c : PySem.W.codeIn K cdv x = true) (k : PySem.W.keepIn K (.ref f) = true) : Df K mg x st :=
  ⟨f, _, fun_mk l c k, PySem.W.mg_of X G a⟩
end
section
variable {X : Cx} {k : Nat} {ps : List Str} {sp : Sp} {x : Str} {p pos : Pos} {e : Expr} {es : List Expr} {t : TA}
theorem pe_own (O : Own X.prog X.w X.K X.mg X.base x k ps sp) (hr : Room k X.A) (hg : Gl X x) (ha : PA X (e :: es) t) (hdb : (x == ("__debug__" : Str)) = false := by decide)
    (he : starEach (e :: es) X.env = (false, eval e X.env) :: starEach es X.env := by rfl) (hpl : (backTo pos (starEach es X.env)).any (·.1) = false := by rfl) : PE X (.Call (.Name x p) (e :: es) [] pos) (tCall sp [] E0 t) := by
  obtain ⟨f, fd, F, m, kp, b⟩ := O.ex
  exact pe_call F hr hg m kp b .nil pass0 ha hdb he hpl
end
/-- the built-ins' names are no names of the module -/
structure Blt (mg : Str → Option Value) : Prop where
  b_len : mg "len" = none
  b_range : mg "range" = none
  b_int : mg "int" = none
  b_bool : mg "bool" = none
  b_tuple : mg "tuple" = none
  b_list : mg "list" = none
  b_str : mg "str" = none
  b_dict : mg "dict" = none
  b_all : mg "all" = none
  b_any : mg "any" = none
  b_max : mg "max" = none
  b_min : mg "min" = none
  b_sum : mg "sum" = none
  b_zip : mg "zip" = none
  b_enumerate : mg "enumerate" = none
  b_isinstance : mg "isinstance" = none
  b_repr : mg "repr" = none
  b_sorted : mg "sorted" = none
/-! ### the deck -/
/-- the deck at d: its cells at c, at most n draws, what is left at r -/
def Dk (H : Hp) (d c r : Addr) (n : Nat) : Prop :=
  ∃ (t : Nat) (cs rs : List Int), t ≤ n ∧ 0 < cs.length ∧ cs.length ≤ 64 ∧ rs.length = cs.length ∧ d ≠ c ∧ d ≠ r ∧ c ≠ r ∧
    H d = some (.lst [.ref c, .int (t : Int), .ref r]) ∧ H c = some (.lst (cs.map V.int)) ∧ H r = some (.lst (rs.map V.int))
/-- all but the deck's two changing lists is kept -/
def Kp (d r : Addr) (H H' : Hp) : Prop := ∀ b o, b ≠ d → b ≠ r → H b = some o → H' b = some o
theorem Kp.refl (d r : Addr) (H : Hp) : Kp d r H H := fun _ _ _ _ e => e
theorem Kp.of {d r : Addr} {H H' : Hp} (s : Same H H') : Kp d r H H' := fun b o _ _ e => s b o e
theorem Kp.trans {d r : Addr} {H H1 H2 : Hp} (a : Kp d r H H1) (b : Kp d r H1 H2) : Kp d r H H2 := fun c o n1 n2 e => b c o n1 n2 (a c o n1 n2 e)
theorem Dk.mono {H : Hp} {d c r : Addr} {n m : Nat} (h : Dk H d c r n) (l : n ≤ m) : Dk H d c r m := by
  obtain ⟨t, cs, rs, h1, hh⟩ := h
  exact ⟨t, cs, rs, Nat.le_trans h1 l, hh⟩
theorem Dk.same {H H' : Hp} {d c r : Addr} {n : Nat} (h : Dk H d c r n) (s : Same H H') : Dk H' d c r n := by
  obtain ⟨t, cs, rs, h1, h2, h3, h4, h5, h6, h7, e1, e2, e3⟩ := h
  exact ⟨t, cs, rs, h1, h2, h3, h4, h5, h6, h7, s _ _ e1, s _ _ e2, s _ _ e3⟩
theorem Dk.nd {H : Hp} {d c r : Addr} {n : Nat} (h : Dk H d c r n) {p : Addr} (e : H p = none) : p ≠ d ∧ p ≠ r ∧ p ≠ c := by
  obtain ⟨t, cs, rs, _, _, _, _, _, _, _, e1, e2, e3⟩ := h
  exact ⟨(ne_of_none e1 e).symm, (ne_of_none e3 e).symm, (ne_of_none e2 e).symm⟩
/-- a local list's own place survives a draw -/
theorem Kp.at {H H' H0 : Hp} {d c r : Addr} {n : Nat} (k : Kp d r H H') (dk : Dk H0 d c r n) {p : Addr} {o : HO} (e0 : H0 p = none) (e : H p = some o) : H' p = some o :=
  let ⟨a, b, _⟩ := dk.nd e0
  k p o a b e
/-- the region of plain data: away from the deck, with all that is new -/
structure Rg (R : Rgn) (H : Hp) (d r : Addr) : Prop where
  nd : ¬ R d
  nr : ¬ R r
  new : ∀ p, H p = none → R p
theorem Rg.on {R : Rgn} {H H' H0 : Hp} {d r : Addr} (g : Rg R H0 d r) (k : Kp d r H H') : On R H H' := fun b o rb e => k b o (fun z => g.nd (z ▸ rb)) (fun z => g.nr (z ▸ rb)) e
theorem Rg.kp {R : Rgn} {H H' : Hp} {d c r : Addr} {n : Nat} (g : Rg R H d r) (k : Kp d r H H') (dk : Dk H' d c r n) : Rg R H' d r := by
  refine ⟨g.nd, g.nr, fun p e => g.new p ?_⟩
  obtain ⟨n1, n2, _⟩ := dk.nd e
  cases q : H p with
  | none => rfl
  | some o =>
    rw [k p o n1 n2 q] at e
    cases e
theorem Rg.same {R : Rgn} {H H' : Hp} {d r : Addr} (g : Rg R H d r) (s : Same H H') : Rg R H' d r := ⟨g.nd, g.nr, fun p e => g.new p (s.free e)⟩
theorem nat_at {ns : List Int} {j : Nat} (h : j < ns.length) : atI (ns.map V.int) ((j : Nat) : Int) = some (.int (ns.getD j 0)) := by
  refine atI_nat ?_
  rw [List.getElem?_map, List.getElem?_eq_getElem h, List.getD_eq_getElem?_getD, List.getElem?_eq_getElem h]
  rfl
theorem emod_nat (a : Int) {m : Nat} (h : 0 < m) : ∃ v : Nat, v < m ∧ a % (m : Int) = (v : Int) := by
  have h1 : 0 ≤ a % (m : Int) := Int.emod_nonneg a (by omega)
  have h2 : a % (m : Int) < (m : Int) := Int.emod_lt_of_pos a (by omega)
  exact ⟨(a % (m : Int)).toNat, by omega, by omega⟩
theorem ixN_nat {n j : Nat} (h : j < n) : ixN n ((j : Nat) : Int) = some j := by
  unfold ixN
  rw [if_pos (by omega), if_pos (by omega)]
  rfl
theorem all_in {σ : L2.St} {H : Hp} {A B : Hp → Prop} (h : A H) : tYes σ H (fun b H3 => if b = true then A H3 else B H3) := by
  show if true = true then A H else B H
  exact iteT h
theorem int_at {ns : List Int} {i : Nat} {x : V} (h : (ns.map V.int)[i]? = some x) : ∃ u, x = V.int u ∧ ns[i]? = some u := by
  rw [List.getElem?_map] at h
  cases e : ns[i]? with
  | none =>
    rw [e] at h
    cases h
  | some u =>
    rw [e] at h
    exact ⟨u, (Option.some.inj h).symm, rfl⟩
/-! ### comprehensions and loops over zip and enumerate of tuples -/
/-- what the reading of a comprehension asks behind its source -/
abbrev LcW (J : It) (g : TG) (tt : TT) (te : TE) (vs : List Nat) (σ : L2.St) (H1 : Hp) (D : Addr) (Qd : Hp → Prop) : Prop :=
  ∃ W : Nat → Nat → Hp → Prop, (∃ m, W 0 m (upd H1 D (.lst []))) ∧ ∀ i m H, W i m H →
    (J.stop i H ∧ Qd H) ∨ (J.go i H ∧ ∃ Nx : Hp → Prop, (∀ H', Nx H' → ∃ m', m' < m ∧ W (i + 1) m' H') ∧ ∀ x H', J.yld i H x H' → g x (wipe σ vs) H' fun σ2 H2 => wipe σ2 vs = wipe σ vs ∧ tt σ2 H2 fun b H3 =>
      if b = true then te σ2 H3 fun y H4 => ∃ acc, H4 D = some (.lst acc) ∧ acc.length < sizeLine ∧ Nx (upd H4 D (.lst (acc ++ [y]))) else Nx H3)
theorem lc_zipT {K : PySem.W.Frag} {a b : Addr} {xs ys : List V} {g : TG} {tt : TT} {te : TE} {vs : List Nat} {σ : L2.St} {H1 : Hp} {D : Addr} {Qd : Hp → Prop} (hl : xs.length = ys.length) (Pv : Nat → Hp → Prop) (h0 : Pv 0 (upd H1 D (.lst [])))
    (hq : ∀ i H, Pv i H → SqT K H a xs ∧ SqT K H b ys)
    (hs : ∀ (i : Nat) (x y : V) (T : Addr) (H : Hp), xs[i]? = some x → ys[i]? = some y → Pv i H → H T = none → g (.ref T) (wipe σ vs) (upd H T (.tup [x, y])) fun σ2 H2 => wipe σ2 vs = wipe σ vs ∧ tt σ2 H2 fun b H3 =>
      if b = true then te σ2 H3 fun y H4 => ∃ acc, H4 D = some (.lst acc) ∧ acc.length < sizeLine ∧ Pv (i + 1) (upd H4 D (.lst (acc ++ [y]))) else Pv (i + 1) H3) (hd : ∀ H, Pv xs.length H → Qd H) : LcW (ItzT K a b) g tt te vs σ H1 D Qd := by
  refine ⟨fun i m H => m = xs.length - i ∧ i ≤ xs.length ∧ Pv i H, ⟨xs.length, rfl, Nat.zero_le _, h0⟩, ?_⟩
  rintro i m H ⟨rfl, hi, p⟩
  obtain ⟨qx, qy⟩ := hq i H p
  by_cases hlt : i < xs.length
  · refine .inr ⟨⟨xs, ys, _, _, qx, qy, List.getElem?_eq_getElem hlt, List.getElem?_eq_getElem (by omega)⟩, Pv (i + 1), fun H' p' => ⟨xs.length - (i + 1), by omega, rfl, hlt, p'⟩, ?_⟩
    rintro v H' ⟨T, x', y', rfl, hT, rfl, f1, f2⟩
    exact hs i x' y' T H (f1 xs qx) (f2 ys qy) p hT
  · obtain rfl : i = xs.length := by omega
    exact .inl ⟨⟨xs, ys, qx, qy, .inl (Nat.le_refl _)⟩, hd H p⟩
/-! ### bags, trades, markets -/
/-- a side of a trade: so many goods, amounts up to three, a total up to m -/
structure Side (g m : Nat) (b : List Int) : Prop where
  len : b.length = g
  amt : ∀ x ∈ b, 0 ≤ x ∧ x ≤ 3
  tot : b.sum ≤ (m : Int)
theorem Side.mono {g m k : Nat} {b : List Int} (h : Side g m b) (l : m ≤ k) : Side g k b := ⟨h.len, h.amt, by have := h.tot; omega⟩
abbrev bagD (b : List Int) : PyData := .tuple (b.map PyData.int)
abbrev Trd := List Int × List Int
abbrev trdD (t : Trd) : PyData := .tuple [bagD t.1, bagD t.2]
abbrev mktD (g : Nat) (ts : List Trd) : PyData := .tuple [.int (g : Int), .tuple (ts.map trdD)]
def TrdOk (g m : Nat) (t : Trd) : Prop := Side g m t.1 ∧ Side g m t.2
structure MktOk (g : Nat) (ts : List Trd) : Prop where
  one : 1 ≤ g
  four : g ≤ 4
  many : ts.length ≤ 4
  all : ∀ t ∈ ts, TrdOk g 4 t
theorem sum_nonneg : ∀ {b : List Int}, (∀ x ∈ b, 0 ≤ x) → 0 ≤ b.sum
  | [], _ => by decide
  | x :: b, h => by
    rw [List.sum_cons]
    have h1 := h x List.mem_cons_self
    have h2 := sum_nonneg (b := b) fun y hy => h y (List.mem_cons_of_mem _ hy)
    omega
theorem le_sum : ∀ {b : List Int}, (∀ x ∈ b, 0 ≤ x) → ∀ x ∈ b, x ≤ b.sum
  | y :: b, h, x, hx => by
    rw [List.sum_cons]
    have h1 := h y List.mem_cons_self
    have hb : ∀ z ∈ b, 0 ≤ z := fun z hz => h z (List.mem_cons_of_mem _ hz)
    have h2 := sum_nonneg hb
    rcases List.mem_cons.mp hx with rfl | hx
    · omega
    · have h3 := le_sum hb x hx
      omega
theorem sum_zip : ∀ {a b : List Int}, a.length = b.length → (List.zipWith (· + ·) a b).sum = a.sum + b.sum
  | [], [], _ => rfl
  | x :: a, y :: b, h => by
    rw [List.zipWith_cons_cons, List.sum_cons, List.sum_cons, List.sum_cons, sum_zip (a := a) (b := b) (by simpa using h)]
    omega
theorem mem_zip {f : Int → Int → Int} : ∀ {a b : List Int} {z : Int}, z ∈ List.zipWith f a b → ∃ x ∈ a, ∃ y ∈ b, z = f x y
  | x :: a, y :: b, z, h => by
    rw [List.zipWith_cons_cons] at h
    rcases List.mem_cons.mp h with rfl | h
    · exact ⟨x, List.mem_cons_self, y, List.mem_cons_self, rfl⟩
    · obtain ⟨x', hx, y', hy, e⟩ := mem_zip h
      exact ⟨x', List.mem_cons_of_mem _ hx, y', List.mem_cons_of_mem _ hy, e⟩
theorem zip_take {f : Int → Int → Int} : ∀ {a b : List Int} {i : Nat} {x y : Int}, a[i]? = some x → b[i]? = some y → (List.zipWith f a b).take (i + 1) = (List.zipWith f a b).take i ++ [f x y]
  | x' :: a, y' :: b, 0, x, y, h1, h2 => by
    have e1 : x' = x := Option.some.inj h1
    have e2 : y' = y := Option.some.inj h2
    rw [e1, e2]
    rfl
  | x' :: a, y' :: b, i + 1, x, y, h1, h2 => by
    rw [List.zipWith_cons_cons, List.take_succ_cons, List.take_succ_cons, zip_take (i := i) (x := x) (y := y) h1 h2]
    rfl
theorem Dat.bag {R : Rgn} {H : Hp} {v : V} {b : List Int} (h : Dat R H v (bagD b)) : ∃ a, v = .ref a ∧ R a ∧ H a = some (.tup (b.map V.int)) := by
  cases h with
  | tup ra e t =>
    rw [Dats.of_ints t] at e
    exact ⟨_, rfl, ra, e⟩
theorem Dat.mkBag {R : Rgn} {H : Hp} {a : Addr} {b : List Int} (ra : R a) (e : H a = some (.tup (b.map V.int))) : Dat R H (.ref a) (bagD b) := .tup ra e (Dats.ints b)
theorem rep0 : ∀ g : Nat, (List.replicate g [V.int 0]).flatten = (List.replicate g (0 : Int)).map V.int
  | 0 => rfl
  | k + 1 => by
    rw [List.replicate_succ, List.flatten_cons, rep0 k, List.replicate_succ]
    rfl
theorem sum_rep0 : ∀ k : Nat, (List.replicate k (0 : Int)).sum = 0
  | 0 => rfl
  | k + 1 => by
    rw [List.replicate_succ, List.sum_cons, sum_rep0 k]
    rfl
def rLenQ (K : PySem.W.Frag) : List V → Hp → VK → Prop := fun xs H Q => ∃ p ys, xs = [.ref p] ∧ (SqL K H p ys ∨ SqT K H p ys) ∧ Q (.int ys.length) H
end Lb
set_option Elab.async false
set_option linter.all false
set_option maxRecDepth 100000
set_option maxHeartbeats 4000000
namespace Lb
open PySem PySem.Spec PyProof.Rows L2 RZ
/-! ### how long data is when shown -/
mutual
def wt : PyData → Nat
  | .none => 4
  | .bool _ => 5
  | .int i => (PyData.int i).shown.length
  | .str x => (reprText x).length
  | .list xs => 4 + wts xs
  | .tuple xs => 4 + wts xs
  | .dict _ => 2
def wts : List PyData → Nat
  | [] => 0
  | x :: xs => wt x + 2 + wts xs
end
mutual
def fine : PyData → Bool
  | .none => true
  | .bool _ => true
  | .int i => decide (i.natAbs.log2 < 1920)
  | .str _ => true
  | .list xs => fines xs
  | .tuple xs => fines xs
  | .dict kvs => kvs.isEmpty
def fines : List PyData → Bool
  | [] => true
  | x :: xs => fine x && fines xs
end
mutual
theorem fine_show : ∀ d : PyData, fine d = true → d.showable = true
  | .none, _ => by rw [PyData.showable]
  | .bool _, _ => by rw [PyData.showable]
  | .int i, h => by
    rw [PyData.showable]
    exact h
  | .str _, _ => by rw [PyData.showable]
  | .list xs, h => by
    rw [PyData.showable]
    exact fines_show xs h
  | .tuple xs, h => by
    rw [PyData.showable]
    exact fines_show xs h
  | .dict [], _ => by rw [PyData.showable, PyData.showableKv]
  | .dict (_ :: _), h => by
    simp [fine] at h
theorem fines_show : ∀ ds : List PyData, fines ds = true → PyData.showableAll ds = true
  | [], _ => by rw [PyData.showableAll]
  | d :: ds, h => by
    rw [fines, Bool.and_eq_true] at h
    rw [PyData.showableAll, fine_show d h.1, fines_show ds h.2]
    rfl
end
theorem tupleText_len (ts : List Str) : (tupleText ts).length ≤ piled ts + 4 := by
  unfold tupleText
  rw [strLen_append, strLen_append]
  have e1 : (("(" : String) : Str).length = 1 := rfl
  have e3 : ((if ts.length == 1 then ",)" else ")" : String) : Str).length ≤ 2 := by split <;> decide
  by_cases h : ts = []
  · subst h
    decide
  · have := join_length_add ts h
    rw [e1]
    omega
theorem textFrom_le : ∀ (ts : List Str) (k : Nat) (acc : Str), (textFrom k acc ts).length ≤ acc.length + piled ts
  | [], k, acc => by
    show acc.length ≤ _
    omega
  | t :: r, k, acc => by
    have ih := textFrom_le r (k + 1) (acc ++ (if k > 0 then ", " else "" : String) ++ t)
    have e : (acc ++ (if k > 0 then ", " else "" : String) ++ t).length ≤ acc.length + 2 + t.length := by
      rw [strLen_append, strLen_append]
      have : ((if k > 0 then ", " else "" : String) : Str).length ≤ 2 := by split <;> decide
      omega
    rw [piled_cons]
    show (textFrom (k + 1) (acc ++ (if k > 0 then ", " else "" : String) ++ t) r).length ≤ _
    omega
theorem listText_len (ts : List Str) : (listText ts).length ≤ piled ts + 4 := by
  unfold listText
  rw [strLen_append]
  have := textFrom_le ts 0 "["
  have e1 : (("[" : String) : Str).length = 1 := rfl
  have e2 : (("]" : String) : Str).length = 1 := rfl
  rw [e1] at this
  rw [e2]
  omega
mutual
theorem shown_le : ∀ d : PyData, fine d = true → d.shown.length ≤ wt d
  | .none, _ => by
    rw [PyData.shown]
    decide
  | .bool b, _ => by
    rw [PyData.shown]
    cases b <;> decide
  | .int i, _ => Nat.le_refl _
  | .str x, _ => by
    rw [PyData.shown]
    exact Nat.le_refl _
  | .list xs, h => by
    rw [PyData.shown, wt]
    have := listText_len (PyData.shownAll xs)
    have := piled_le xs h
    omega
  | .tuple xs, h => by
    rw [PyData.shown, wt]
    have := tupleText_len (PyData.shownAll xs)
    have := piled_le xs h
    omega
  | .dict [], _ => by
    rw [PyData.shown, PyData.shownKv]
    decide
  | .dict (_ :: _), h => by
    simp [fine] at h
theorem piled_le : ∀ ds : List PyData, fines ds = true → piled (PyData.shownAll ds) ≤ wts ds
  | [], _ => by
    rw [PyData.shownAll]
    exact Nat.le_refl _
  | d :: ds, h => by
    rw [fines, Bool.and_eq_true] at h
    rw [PyData.shownAll, piled_cons, wts]
    have := shown_le d h.1
    have := piled_le ds h.2
    omega
end
theorem fines_iff : ∀ ds : List PyData, fines ds = true ↔ ∀ d ∈ ds, fine d = true
  | [] => ⟨fun _ _ z => (List.not_mem_nil z).elim, fun _ => rfl⟩
  | d :: ds => by
    rw [fines, Bool.and_eq_true, fines_iff ds]
    exact ⟨fun h x hx => (List.mem_cons.mp hx).elim (fun e => e ▸ h.1) (h.2 x), fun h => ⟨h d List.mem_cons_self, fun x hx => h x (List.mem_cons_of_mem _ hx)⟩⟩
theorem depths_iff {k : Nat} : ∀ ds : List PyData, PyData.depthAll ds ≤ k ↔ ∀ d ∈ ds, d.depth ≤ k
  | [] => ⟨fun _ _ z => (List.not_mem_nil z).elim, fun _ => by rw [PyData.depthAll]; exact Nat.zero_le _⟩
  | d :: ds => by
    rw [PyData.depthAll, Nat.max_le, depths_iff ds]
    exact ⟨fun h x hx => (List.mem_cons.mp hx).elim (fun e => e ▸ h.1) (h.2 x), fun h => ⟨h d List.mem_cons_self, fun x hx => h x (List.mem_cons_of_mem _ hx)⟩⟩
theorem wts_append : ∀ a b : List PyData, wts (a ++ b) = wts a + wts b
  | [], b => by simp [wts]
  | x :: a, b => by
    rw [List.cons_append, wts, wts, wts_append a b]
    omega
theorem wts_mem : ∀ {ds : List PyData} {d : PyData}, d ∈ ds → wt d + 2 ≤ wts ds
  | x :: ds, d, h => by
    rw [wts]
    rcases List.mem_cons.mp h with rfl | h
    · omega
    · have := wts_mem h
      omega
theorem wts_take (ds : List PyData) (n : Nat) : wts (ds.take n) + wts (ds.drop n) = wts ds := by
  rw [← wts_append, List.take_append_drop]
theorem wts_len : ∀ ds : List PyData, 2 * ds.length ≤ wts ds
  | [] => Nat.le_refl _
  | d :: ds => by
    rw [wts, List.length_cons]
    have := wts_len ds
    omega
theorem wts_rev : ∀ ds : List PyData, wts ds.reverse = wts ds
  | [] => rfl
  | d :: ds => by
    rw [List.reverse_cons, wts_append, wts_rev ds, wts, wts, wts]
    omega
/-- data of a weight up to S and a depth up to k -/
structure Ok (S k : Nat) (d : PyData) : Prop where
  fi : fine d = true
  wt : wt d ≤ S
  dp : d.depth ≤ k
structure Oks (S k : Nat) (ds : List PyData) : Prop where
  fi : ∀ d ∈ ds, fine d = true
  wt : wts ds ≤ S
  dp : ∀ d ∈ ds, d.depth ≤ k
theorem Ok.mono {S k S' k' : Nat} {d : PyData} (h : Ok S k d) (a : S ≤ S') (b : k ≤ k') : Ok S' k' d := ⟨h.fi, Nat.le_trans h.wt a, Nat.le_trans h.dp b⟩
theorem Oks.mono {S k S' k' : Nat} {d : List PyData} (h : Oks S k d) (a : S ≤ S') (b : k ≤ k') : Oks S' k' d := ⟨h.fi, Nat.le_trans h.wt a, fun x hx => Nat.le_trans (h.dp x hx) b⟩
theorem Oks.tuple {S k : Nat} {ds : List PyData} (h : Oks S k ds) : Ok (S + 4) (k + 1) (.tuple ds) :=
  ⟨(fines_iff ds).mpr h.fi, by show 4 + wts ds ≤ S + 4; have := h.wt; omega, by rw [PyData.depth]; exact Nat.succ_le_succ ((depths_iff ds).mpr h.dp)⟩
theorem Oks.list {S k : Nat} {ds : List PyData} (h : Oks S k ds) : Ok (S + 4) (k + 1) (.list ds) :=
  ⟨(fines_iff ds).mpr h.fi, by show 4 + wts ds ≤ S + 4; have := h.wt; omega, by rw [PyData.depth]; exact Nat.succ_le_succ ((depths_iff ds).mpr h.dp)⟩
theorem Ok.items {S k : Nat} {ds : List PyData} (h : Ok S k (.tuple ds)) : Oks (S - 4) (k - 1) ds := by
  obtain ⟨h1, h2, h3⟩ := h
  rw [PyData.depth] at h3
  rw [Lb.wt] at h2
  exact ⟨(fines_iff ds).mp h1, by omega, (depths_iff ds).mp (by omega)⟩
theorem Oks.append {S T k : Nat} {a b : List PyData} (h : Oks S k a) (g : Oks T k b) : Oks (S + T) k (a ++ b) :=
  ⟨fun d hd => (List.mem_append.mp hd).elim (h.fi d) (g.fi d), by rw [wts_append]; have := h.wt; have := g.wt; omega, fun d hd => (List.mem_append.mp hd).elim (h.dp d) (g.dp d)⟩
theorem Oks.take {S k : Nat} {a : List PyData} (h : Oks S k a) (n : Nat) : Oks S k (a.take n) :=
  ⟨fun d hd => h.fi d (List.mem_of_mem_take hd), by have := wts_take a n; have := h.wt; omega, fun d hd => h.dp d (List.mem_of_mem_take hd)⟩
theorem Oks.drop {S k : Nat} {a : List PyData} (h : Oks S k a) (n : Nat) : Oks S k (a.drop n) :=
  ⟨fun d hd => h.fi d (List.mem_of_mem_drop hd), by have := wts_take a n; have := h.wt; omega, fun d hd => h.dp d (List.mem_of_mem_drop hd)⟩
theorem Oks.reverse {S k : Nat} {a : List PyData} (h : Oks S k a) : Oks S k a.reverse :=
  ⟨fun d hd => h.fi d (List.mem_reverse.mp hd), by rw [wts_rev]; exact h.wt, fun d hd => h.dp d (List.mem_reverse.mp hd)⟩
theorem Oks.one {S k : Nat} {d : PyData} (h : Ok S k d) : Oks (S + 2) k [d] :=
  ⟨fun x hx => by rw [List.mem_singleton.mp hx]; exact h.fi, by rw [wts, wts]; have := h.wt; omega, fun x hx => by rw [List.mem_singleton.mp hx]; exact h.dp⟩
theorem Oks.mem {S k : Nat} {a : List PyData} (h : Oks S k a) {d : PyData} (m : d ∈ a) : Ok S k d := ⟨h.fi d m, by have := wts_mem m; have := h.wt; omega, h.dp d m⟩
theorem Ok.shown {S k : Nat} {d : PyData} (h : Ok S k d) (hS : S ≤ 1000000) : d.shown.length ≤ sizeLine := by
  have h1 := shown_le d h.fi
  have h2 := h.wt
  rw [sizeLine_eq]
  omega
/-! ### xs == [] -/
def rEqE : R2 := fun x y H Q => ∃ (a b : Addr) (xs : List V), x = .ref a ∧ y = .ref b ∧ H a = some (.lst xs) ∧ H b = some (.lst []) ∧ Q (.bl xs.isEmpty) H
theorem op_eqE {X : Cx} (hu : X.A.units < cLine) : OpR X (compareOp .Eq) rEqE := by
  intro pins s σ H x y v u Q I rx ry h
  obtain ⟨a, b, xs, rfl, rfl, ea, eb, q⟩ := h
  cases rx
  cases ry
  obtain ⟨its, r, p, _⟩ := I.list (.inl (.inl ea))
  obtain ⟨its2, r2, p2, _⟩ := I.list (.inl (.inl eb))
  cases r2
  cases r with
  | nil => exact SeqAt.eq_listAt (e := fun _ => true) p.isList p2.isList rfl hu (fun j h1 _ => absurd h1 (Nat.not_lt_zero j)) ⟨.bl true, H, I, rfl, q⟩
  | cons r1 rr => exact SeqAt.eq_list_lengthsAt p.isList p2.isList rfl hu ⟨.bl false, H, I, rfl, q⟩
theorem dp_ints {K : PySem.W.Frag} {H : Hp} : ∀ ns : List Int, DpAll K H (ns.map V.int) (ns.map PyData.int)
  | [] => .nil
  | n :: ns => .cons (.int n) (dp_ints ns)
theorem lay_ints : ∀ ns : List Int, PyData.canLayAll0 (ns.map PyData.int) = true
  | [] => by
    rw [List.map_nil, PyData.canLayAll0]
  | n :: ns => by
    rw [List.map_cons, PyData.canLayAll0, lay_ints ns, PyData.canLay0]
    rfl
theorem shaped_ints (ns : List Int) : SeqAt.shaped (.list (ns.map PyData.int)) = true := by
  unfold SeqAt.shaped
  rw [PyData.canLay0, lay_ints, PyData.depth, depth_ints]
  rfl
end Lb
set_option Elab.async false
set_option linter.all false
set_option maxRecDepth 100000
set_option maxHeartbeats 4000000
namespace Lb
open PySem PySem.Spec PyProof.Rows L2 RZ
/-! ### zip of three tuples -/
/-- three tuples, their items in new tuples -/
def ItzU (K : PySem.W.Frag) (a b c : Addr) : It :=
  ⟨fun i H => ∃ (xs ys zs : List V) (x y z : V), SqT K H a xs ∧ SqT K H b ys ∧ SqT K H c zs ∧ xs[i]? = some x ∧ ys[i]? = some y ∧ zs[i]? = some z,
    fun i H v H' => ∃ T x y z, v = .ref T ∧ H T = none ∧ H' = upd H T (.tup [x, y, z]) ∧ (∀ xs, SqT K H a xs → xs[i]? = some x) ∧ (∀ ys, SqT K H b ys → ys[i]? = some y) ∧ ∀ zs, SqT K H c zs → zs[i]? = some z,
    fun i H => ∃ xs ys zs : List V, SqT K H a xs ∧ SqT K H b ys ∧ SqT K H c zs ∧ i ≤ xs.length ∧ i ≤ ys.length ∧ i ≤ zs.length ∧ (i = xs.length ∨ i = ys.length ∨ i = zs.length)⟩
structure Apart3 (q TI TO i1 i2 i3 a b c : Addr) : Prop where
  sep : ZipSep3 q TI TO i1 i2 i3 [i1, a] [i2, b] [i3, c]
  n1 : a ≠ i1
  n2 : b ≠ i2
  n3 : c ≠ i3
theorem apart3 (n a b c : Nat) (ha : a < n) (hb : b < n) (hc : c < n) : Apart3 (n + 5) (n + 3) (n + 4) n (n + 1) (n + 2) a b c := by
  have t : ∀ {x y z : Nat}, x ≠ y → x ≠ z → x ∉ [y, z] := fun {x y z} h1 h2 h => by
    rcases List.mem_cons.mp h with h | h
    · exact h1 h
    · exact h2 (List.mem_singleton.mp h)
  have d : ∀ {x y : Nat}, (x < y ∨ y < x) → x ≠ y := fun {x y} h z => by omega
  exact ⟨{ TIz := d (by omega), TOz := d (by omega), TITO := d (by omega), TIi1 := d (by omega), mem1 := List.mem_cons_self, zf1 := t (d (by omega)) (d (by omega)), Tf1 := t (d (by omega)) (d (by omega)), TIi2 := d (by omega), mem2 := List.mem_cons_self, zf2 := t (d (by omega)) (d (by omega)), Tf2 := t (d (by omega)) (d (by omega)), TIi3 := d (by omega), mem3 := List.mem_cons_self, zf3 := t (d (by omega)) (d (by omega)), Tf3 := t (d (by omega)) (d (by omega)), sep1_2 := t (d (by omega)) (d (by omega)), sep1_3 := t (d (by omega)) (d (by omega)), sep2_1 := t (d (by omega)) (d (by omega)), sep2_3 := t (d (by omega)) (d (by omega)), sep3_1 := t (d (by omega)) (d (by omega)), sep3_2 := t (d (by omega)) (d (by omega)) }, d (by omega), d (by omega), d (by omega)⟩
theorem turn_zipU {P : Program} {w : World} {K : PySem.W.Frag} {elts : List Expr} {kk : Nat} {tpos : Pos} {a b c q TI TO i1 i2 i3 : Addr} (D : Apart3 q TI TO i1 i2 i3 a b c) :
    Turn P w K (.Tuple elts kk tpos) (ItzU K a b c) [q, TI, TO, i1, i2, i3] q (fun i h => IsZip h q TI TO .none ∧ IsTupOf3 h TI (.ref i1) (.ref i2) (.ref i3) ∧ (∃ x y z, IsTupOf3 h TO x y z) ∧ h.IsTupleIter i1 a i ∧ h.IsTupleIter i2 b i ∧ h.IsTupleIter i3 c i) where
  mem := by simp
  obj := fun i h st c hc => by
    obtain ⟨hz, hTI, ⟨x, y, z, hTO⟩, ⟨o1, e1, _, d1⟩, ⟨o2, e2, _, d2⟩, ⟨o3, e3, _, d3⟩⟩ := st
    have e' : c = q ∨ c = TI ∨ c = TO ∨ c = i1 ∨ c = i2 ∨ c = i3 := by simpa using hc
    rcases e' with k | k | k | k | k | k
    · rw [k]; exact ⟨_, hz, fun v u => nomatch u⟩
    · rw [k]; exact ⟨_, hTI, fun v u => nomatch u⟩
    · rw [k]; exact ⟨_, hTO, fun v u => nomatch u⟩
    · rw [k]; exact ⟨o1, e1, fun v u => by rw [d1] at u; cases u⟩
    · rw [k]; exact ⟨o2, e2, fun v u => by rw [d2] at u; cases u⟩
    · rw [k]; exact ⟨o3, e3, fun v u => by rw [d3] at u; cases u⟩
  keep := fun i h h' st k => by
    obtain ⟨hz, hTI, ⟨x, y, z, hTO⟩, h1, h2, h3⟩ := st
    exact ⟨k q (by simp) _ hz, k TI (by simp) _ hTI, ⟨x, y, z, k TO (by simp) _ hTO⟩, h1.at fun o u => k i1 (by simp) o u, h2.at fun o u => k i2 (by simp) o u, h3.at fun o u => k i3 (by simp) o u⟩
  item := by
    intro X hP hw hK hc i pins s σ H E I hf st hg
    subst hP hw hK
    obtain ⟨hz, hTI, ⟨x0, y0, z0, hTO⟩, h1, h2, h3⟩ := st
    obtain ⟨xs, ys, zs, x, y, z, hqx, hqy, hqz, hx, hy, hv⟩ := hg
    obtain ⟨its, rv, p, _⟩ := I.tuple hqx
    obtain ⟨its2, rv2, p2, _⟩ := I.tuple hqy
    obtain ⟨its3, rv3, p3, _⟩ := I.tuple hqz
    obtain ⟨u, hu, ru⟩ := rv.get hx
    obtain ⟨u2, hu2, ru2⟩ := rv2.get hy
    obtain ⟨u3, hu3, ru3⟩ := rv3.get hv
    have hzl : q < s.heap.objs.size := Heap.lt_size hz
    have l1 : i < its.toArray.size := by simpa using (List.getElem?_eq_some_iff.mp hu).1
    have l2 : i < its2.toArray.size := by simpa using (List.getElem?_eq_some_iff.mp hu2).1
    have l3 : i < its3.toArray.size := by simpa using (List.getElem?_eq_some_iff.mp hu3).1
    refine wpAny_pyNext_zipD3_item D.sep (Draws.tuple (A := X.A.in1) (I.ok.hd hc) i1 a D.n1 its.toArray) (Draws.tuple (A := X.A.in1) (I.ok.hd hc) i2 b D.n2 its2.toArray) (Draws.tuple (A := X.A.in1) (I.ok.hd hc) i3 c D.n3 its3.toArray)
      hz hTI hTO ⟨h1, p⟩ ⟨h2, p2⟩ ⟨h3, p3⟩ l1 l2 l3 fun x1 x2 x3 h' tk y1 y2 y3 z' TO' s1' s2' s3' hT hsz hk => ?_
    have g1 : x1 = u := Option.some.inj (y1.symm.trans (by simpa using hu))
    have g2 : x2 = u2 := Option.some.inj (y2.symm.trans (by simpa using hu2))
    have g3 : x3 = u3 := Option.some.inj (y3.symm.trans (by simpa using hu3))
    subst g1 g2 g3
    refine ⟨_, rfl, wpAny_letOwnedTupleGo_zip (s := { s with heap := h', toks := tk }) z' fun h'' z'' sb => ?_⟩
    have hT2 : h''.get? s.heap.objs.size = some { cls := .type "tuple", data := .seq #[x1, x2, x3] } := (sb.2 _ (Nat.ne_of_gt hzl)).trans hT
    have new : ObjOk X.prog X.w (upd H s.heap.objs.size (.tup [x, y, z])) h'' s.heap.objs.size (.tup [x, y, z]) :=
      ⟨by show 3 ≤ sizeLine; decide, [x1, x2, x3], .cons ru (.cons ru2 (.cons ru3 .nil)), ⟨_, hT2, rfl, _, rfl⟩⟩
    have I1 : Inv X pins σ (upd H s.heap.objs.size (.tup [x, y, z])) { s with heap := h'', toks := tk } :=
      I.turnedNew (t' := tk) (ch := [q, TI, TO, i1, i2, i3]) (fun c o hb u => (sb.2 c (fun q' => hb (by simp [q']))).trans (hk c o (fun q' => hb (by simp [q'])) (fun q' => hb (by simp [q'])) (fun q' => hb (by simp [q'])) (fun q' => hb (by simp [q'])) (fun q' => hb (by simp [q'])) u)) hf (Nat.le_refl _) new
    refine ⟨.ref s.heap.objs.size, _, I1, rfl, ⟨_, x, y, z, rfl, I.hok.fresh (Nat.le_refl _), rfl, fun l hl => by rw [I.tuple_inj hl hqx]; exact hx, fun l hl => by rw [I.tuple_inj hl hqy]; exact hy, fun l hl => by rw [I.tuple_inj hl hqz]; exact hv⟩, ⟨z'', ?_, ⟨x1, x2, x3, ?_⟩, ?_, ?_, ?_⟩, fun c hcm => ?_⟩
    · exact (sb.2 _ D.sep.TIz).trans (hk _ _ D.sep.TIz D.sep.TITO D.sep.TIi1 D.sep.TIi2 D.sep.TIi3 hTI)
    · exact (sb.2 _ D.sep.TOz).trans TO'
    · exact s1'.1.at fun o u => (sb.2 _ D.sep.zi1.symm).trans u
    · exact s2'.1.at fun o u => (sb.2 _ D.sep.zi2.symm).trans u
    · exact s3'.1.at fun o u => (sb.2 _ D.sep.zi3.symm).trans u
    · have hlt : c < s.heap.objs.size := by
        have e' : c = q ∨ c = TI ∨ c = TO ∨ c = i1 ∨ c = i2 ∨ c = i3 := by simpa using hcm
        rcases e' with k | k | k | k | k | k
        · rw [k]; exact hzl
        · rw [k]; exact Heap.lt_size hTI
        · rw [k]; exact Heap.lt_size hTO
        · rw [k]; obtain ⟨_, e1, _⟩ := h1; exact Heap.lt_size e1
        · rw [k]; obtain ⟨_, e2, _⟩ := h2; exact Heap.lt_size e2
        · rw [k]; obtain ⟨_, e3, _⟩ := h3; exact Heap.lt_size e3
      rw [upd_ne (Nat.ne_of_lt hlt)]
      exact (hf c hcm).1
  done := by
    intro X hP hw hK hc i pins s σ H E I hf st hg
    subst hP hw hK
    obtain ⟨hz, hTI, ⟨x0, y0, z0, hTO⟩, h1, h2, h3⟩ := st
    obtain ⟨xs, ys, zs, hqx, hqy, hqz, b1, b2, b3, hend⟩ := hg
    obtain ⟨its, rv, p, _⟩ := I.tuple hqx
    obtain ⟨its2, rv2, p2, _⟩ := I.tuple hqy
    obtain ⟨its3, rv3, p3, _⟩ := I.tuple hqz
    have l1 : its.toArray.size = xs.length := by simpa using rv.length.symm
    have l2 : its2.toArray.size = ys.length := by simpa using rv2.length.symm
    have l3 : its3.toArray.size = zs.length := by simpa using rv3.length.symm
    exact wpAny_pyNext_zipD3_end D.sep (Draws.tuple (A := X.A.in1) (I.ok.hd hc) i1 a D.n1 its.toArray) (Draws.tuple (A := X.A.in1) (I.ok.hd hc) i2 b D.n2 its2.toArray) (Draws.tuple (A := X.A.in1) (I.ok.hd hc) i3 c D.n3 its3.toArray)
      hz hTI hTO ⟨h1, p⟩ ⟨h2, p2⟩ ⟨h3, p3⟩ (by omega) (by omega) (by omega) (by omega) fun h' tk hk => ⟨rfl, I.turnedL (t' := tk) (ch := [q, TI, TO, i1, i2, i3]) (fun c o hb u =>
      hk c o (fun q' => hb (by simp [q'])) (fun q' => hb (by simp [q'])) (fun q' => hb (by simp [q'])) (fun q' => hb (by simp [q'])) (fun q' => hb (by simp [q'])) u) hf⟩
  self := fun A i s Q E st h => wpAny_pyIter_zip st.1 h
def iZipU (K : PySem.W.Frag) (ta : TA) : TI := fun σ H R => ta σ H fun vs H1 => ∃ a b c xs ys zs, vs = [.ref a, .ref b, .ref c] ∧ SqT K H1 a xs ∧ SqT K H1 b ys ∧ SqT K H1 c zs ∧ R (ItzU K a b c) H1
theorem iter_at {h : Heap} {i a : Addr} (e : h.get? i = some { cls := .type "tuple_iterator", data := .fields #[.ref a, .int 0 0] }) : h.IsTupleIter i a 0 := ⟨_, e, rfl, rfl⟩
theorem pi_zip3 {X : Cx} {e e2 e3 : Expr} {ta : TA} {p pos tpos : Pos} {elts : List Expr} {kk : Nat} (hg : Gl X "zip") (hm : X.mg "zip" = none) (ha : PA X [e, e2, e3] ta)
    (hs : starEach [e, e2, e3] X.env = (false, eval e X.env) :: starEach [e2, e3] X.env := by rfl) (hpl : (backTo pos (starEach [e2, e3] X.env)).any (·.1) = false := by rfl) :
    PI X (.Tuple elts kk tpos) (.Call (.Name "zip" p) [e, e2, e3] [] pos) (iZipU X.K ta) := by
  refine ⟨fun pins s σ H R I h => ?_⟩
  refine Call_ (ld_blt I hg hm PyProof.Rows.boot_zip (PyProof.Rows.callWith_type1 (thn (ha.run pos pins s σ H _ I h) fun us s1 ⟨vs, H1, I1, r1, q1⟩ => ?_) hs hpl))
  obtain ⟨a, b, c, xs, ys, zs, ex, hqx, hqy, hqz, q⟩ := q1
  subst ex
  cases r1 with
  | cons r rr =>
    cases rr with
    | cons r' rr =>
      cases rr with
      | cons r'' rr =>
        cases rr
        cases r
        cases r'
        cases r''
        have fresh6 : ∀ c, c ∈ [s1.heap.objs.size + 5, s1.heap.objs.size + 3, s1.heap.objs.size + 4, s1.heap.objs.size, s1.heap.objs.size + 1, s1.heap.objs.size + 2] → FpOk X pins H1 c := fun c hcm => by
          have e' : c = s1.heap.objs.size + 5 ∨ c = s1.heap.objs.size + 3 ∨ c = s1.heap.objs.size + 4 ∨ c = s1.heap.objs.size ∨ c = s1.heap.objs.size + 1 ∨ c = s1.heap.objs.size + 2 := by simpa using hcm
          have hle : s1.heap.objs.size ≤ c := by
            rcases e' with z | z | z | z | z | z
            · rw [z]; exact Nat.le_add_right _ _
            · rw [z]; exact Nat.le_add_right _ _
            · rw [z]; exact Nat.le_add_right _ _
            · rw [z]; exact Nat.le_refl _
            · rw [z]; exact Nat.le_add_right _ _
            · rw [z]; exact Nat.le_add_right _ _
          exact I1.fpOk hle (I1.hok.fresh hle)
        obtain ⟨its, rv, p1, _⟩ := I1.tuple hqx
        obtain ⟨its2, rv2, p2, _⟩ := I1.tuple hqy
        obtain ⟨its3, rv3, p3, _⟩ := I1.tuple hqz
        obtain ⟨o1, ho1, _⟩ := id p1
        obtain ⟨o2, ho2, _⟩ := id p2
        obtain ⟨o3, ho3, _⟩ := id p3
        refine zip_begins3 (begins_tuple a its.toArray) (begins_tuple b its2.toArray) (begins_tuple c its3.toArray) p1 p2 p3 fun h' hz hTI hTO h1 h2 h3 hsz hk => wpAny_pyIter_zip hz ?_
        have I2 : Inv X pins σ H1 { s1 with heap := h' } := I1.kept (t' := s1.toks) hk
        exact ⟨s1.heap.objs.size + 5, [s1.heap.objs.size + 5, s1.heap.objs.size + 3, s1.heap.objs.size + 4, s1.heap.objs.size, s1.heap.objs.size + 1, s1.heap.objs.size + 2], _, _, H1, rfl, I2, turn_zipU (apart3 s1.heap.objs.size a b c (Heap.lt_size ho1) (Heap.lt_size ho2) (Heap.lt_size ho3)), ⟨hz, hTI, ⟨_, _, _, hTO⟩, iter_at h1, iter_at h2, iter_at h3⟩, fresh6, q⟩
end Lb
set_option Elab.async false
set_option linter.all false
set_option maxRecDepth 100000
set_option maxHeartbeats 4000000
namespace Lb
open PySem PySem.Spec PyProof.Rows L2 RZ
section
variable {P : Program} {w : World} {K : PySem.W.Frag} {mg : Str → Option Value} {base : Heap}
def spDraw : Sp := fun vs H Q _ => ∃ (d c r : Addr) (n m : Nat), vs = [.ref d, .int (m : Int)] ∧ Dk H d c r n ∧ n < 2 ^ 40 ∧ 0 < m ∧ m < 1000000 ∧ ∀ (H' : Hp) (v : Nat), v < m → Dk H' d c r (n + 1) → Kp d r H H' → Q (.int (v : Int)) H'
def spDeck (K : PySem.W.Frag) : Sp := fun vs H Q _ => ∃ (a : Addr) (ns : List Int), vs = [.ref a] ∧ SqL K H a (ns.map V.int) ∧ ns.length ≤ 63 ∧ ∀ (H' : Hp) (d c r : Addr), Same H H' → H d = none → H c = none → H r = none → Dk H' d c r 0 → Q (.ref d) H'
theorem cut63 (ns : List Int) (h : ns.length ≤ 63) : cutV (ns.map V.int) none (some 63) = ns.map V.int := by
  unfold cutV
  rw [HT.sIx_none, show HT.sIx (ns.map V.int).length (ns.map V.int).length (some 63) = min 63 (ns.map V.int).length from HT.sIx_nat _ _ 63]
  rw [List.drop_zero]
  refine List.take_of_length_le ?_
  rw [List.length_map]
  omega
def spOne : Sp := fun vs H Q _ => ∃ (d c r l : Addr) (n : Nat) (xs : List V), vs = [.ref d, .ref l] ∧ Dk H d c r n ∧ n < 2 ^ 40 ∧ H l = some (.lst xs) ∧ l ≠ d ∧ l ≠ r ∧ 0 < xs.length ∧ xs.length ≤ 1000 ∧
  ∀ (H' : Hp) (v : Nat) (x : V), xs[v]? = some x → Dk H' d c r (n + 1) → Kp d r H H' → Q x H'
def spPlus (K : PySem.W.Frag) : Sp := fun vs H Q _ => ∃ (a b : Addr) (x y : List Int), vs = [.ref a, .ref b] ∧ SqT K H a (x.map V.int) ∧ SqT K H b (y.map V.int) ∧ x.length = y.length ∧ x.length ≤ 1000 ∧
  ∀ (H' : Hp) (p : Addr), Same H H' → H p = none → H' p = some (.tup ((List.zipWith (· + ·) x y).map V.int)) → Q (.ref p) H'
theorem same_tup {K : PySem.W.Frag} {H H' : Hp} {a : Addr} {xs : List V} (e : Same H H') (h : SqT K H a xs) : SqT K H' a xs := by
  rcases h with (h | ⟨o, h⟩) | h
  · exact .inl (.inl (e _ _ h))
  · exact .inl (.inr ⟨o, e _ _ h⟩)
  · exact .inr h
def spSide : Sp := fun vs H Q _ => ∃ (d c r : Addr) (n g m : Nat), vs = [.ref d, .int (g : Int), .int (m : Int)] ∧ Dk H d c r n ∧ n < 2 ^ 39 ∧ 0 < g ∧ g ≤ 1000 ∧ m ≤ 1000 ∧
  ∀ (H' : Hp) (p : Addr) (b : List Int), Side g m b → H p = none → H' p = some (.tup (b.map V.int)) → Dk H' d c r (n + 1 + m) → Kp d r H H' → Q (.ref p) H'
theorem kp_free {H H' : Hp} {d c r : Addr} {n : Nat} (k : Kp d r H H') (dk : Dk H' d c r n) {p : Addr} (e : H' p = none) : H p = none := by
  cases q : H p with
  | none => rfl
  | some o =>
    have := dk.nd e
    rw [k _ _ this.1 this.2.1 q] at e
    cases e
def spTrade : Sp := fun vs H Q _ => ∃ (R : Rgn) (d c r : Addr) (n g m : Nat), vs = [.ref d, .int (g : Int), .int (m : Int)] ∧ Dk H d c r n ∧ n < 2 ^ 38 ∧ 0 < g ∧ g ≤ 100 ∧ m ≤ 4 ∧ Rg R H d r ∧
  ∀ (H' : Hp) (v : V) (t : Trd), TrdOk g m t → Dat R H' v (trdD t) → Dk H' d c r (n + 20) → Kp d r H H' → Q v H'
theorem two_sides {D : Ends} {σ : L2.St} {H : Hp} {d c r : Addr} {n g m : Nat} {R : Rgn} (h0 : σ[0]? = some (some (.ref d))) (h1 : σ[1]? = some (some (.int (g : Int)))) (h2 : σ[2]? = some (some (.int (m : Int))))
    (dk : Dk H d c r n) (hn : n < 2 ^ 38 + 1) (hg : 0 < g) (hg2 : g ≤ 100) (hm : m ≤ 4) (rg : Rg R H d r)
    (q : ∀ (H' : Hp) (v : V) (t : Trd), TrdOk g m t → Dat R H' v (trdD t) → Dk H' d c r (n + 10) → Kp d r H H' → D.rt v H') :
    tRet (tTup (tCons (tCall spSide [] E0 (tCons (tVar 0) (tCons (tVar 1) (tCons (tVar 2) tNil)))) (tCons (tCall spSide [] E0 (tCons (tVar 0) (tCons (tVar 1) (tCons (tVar 2) tNil)))) tNil))) D σ H := by
  refine ⟨_, h0, _, h1, _, h2, d, c, r, n, g, m, rfl, dk, by omega, hg, by omega, by omega, fun H1 p1 b1 sd1 f1 e1 dk1 k1 => ?_⟩
  refine ⟨_, h0, _, h1, _, h2, d, c, r, n + 1 + m, g, m, rfl, dk1, by omega, hg, by omega, by omega, fun H2 p2 b2 sd2 f2 e2 dk2 k2 => ?_⟩
  have nd := dk.nd f1
  have e1' := k2 _ _ nd.1 nd.2.1 e1
  refine ⟨(by show 2 ≤ sizeLine; decide), fun p3 z3 => ?_⟩
  have rg2 := (rg.kp k1 dk1).kp k2 dk2
  have sm := same_upd (o := .tup [V.ref p1, V.ref p2]) z3
  refine q _ _ (b1, b2) ⟨sd1, sd2⟩ (.tup (rg2.new _ z3) upd_same (.cons (Dat.mkBag (rg.new _ f1) (sm _ _ e1')) (.cons (Dat.mkBag ((rg.kp k1 dk1).new _ f2) (sm _ _ e2)) .nil))) ((dk2.same sm).mono (by omega)) ((k1.trans k2).trans (Kp.of sm))
def besideL (g : Nat) (at_ : Nat) (many : Int) : List Int := (List.range g).map fun (k : Nat) => many * (if decide (V.int ((0 : Int) + (k : Int)) = V.int (at_ : Int)) = true then 1 else 0)
theorem beside_mem {g a : Nat} {m : Int} (hm : 0 ≤ m) : ∀ x ∈ besideL g a m, 0 ≤ x ∧ x ≤ m := by
  intro x hx
  obtain ⟨k, _, rfl⟩ := List.mem_map.mp hx
  by_cases h : V.int ((0 : Int) + (k : Int)) = V.int (a : Int)
  · rw [decide_eq_true h, if_pos rfl]
    omega
  · rw [decide_eq_false h, if_neg Bool.false_ne_true]
    omega
theorem beside_sum {a : Nat} {m : Int} (hm : 0 ≤ m) : ∀ g : Nat, (besideL g a m).sum = if a < g then m else 0
  | 0 => by
    rw [if_neg (Nat.not_lt_zero _)]
    rfl
  | g + 1 => by
    unfold besideL
    rw [List.range_succ, List.map_append, List.sum_append]
    have ih := beside_sum hm g (a := a)
    unfold besideL at ih
    rw [ih, List.map_singleton, List.sum_cons, List.sum_nil]
    by_cases h : a = g
    · subst h
      rw [if_neg (Nat.lt_irrefl _), if_pos (Nat.lt_succ_self _), decide_eq_true (by simp), if_pos rfl]
      omega
    · rw [decide_eq_false (fun z => h (by have := V.int.inj z; omega)), if_neg Bool.false_ne_true]
      by_cases h2 : a < g
      · rw [if_pos h2, if_pos (by omega)]
        omega
      · rw [if_neg h2, if_neg (by omega)]
        omega
theorem beside_len (g a : Nat) (m : Int) : (besideL g a m).length = g := by
  unfold besideL
  rw [List.length_map, List.length_range]
theorem side_plus {g k a : Nat} {m : Int} {b : List Int} (s : Side g k b) (h1 : 0 ≤ m) (h2 : (k : Int) + m ≤ 3) : Side g 3 (List.zipWith (· + ·) b (besideL g a m)) := by
  have nn : ∀ x ∈ b, 0 ≤ x := fun x hx => (s.amt x hx).1
  refine ⟨?_, fun z hz => ?_, ?_⟩
  · rw [List.length_zipWith, s.len, beside_len, Nat.min_self]
  · obtain ⟨x, hx, y, hy, rfl⟩ := mem_zip hz
    have a1 := le_sum nn x hx
    have a2 := s.tot
    have a3 := beside_mem h1 y hy
    have a4 := nn x hx
    omega
  · rw [sum_zip (by rw [s.len, beside_len]), beside_sum h1]
    have a2 := s.tot
    split <;> omega
theorem side_beside {g a : Nat} {m : Int} (h1 : 0 ≤ m) (h2 : m ≤ 3) : Side g 3 (besideL g a m) := by
  refine ⟨beside_len _ _ _, fun x hx => ?_, ?_⟩
  · have := beside_mem h1 x hx
    omega
  · rw [beside_sum h1]
    split <;> omega
def wo (R : Rgn) (D : Addr) : Rgn := fun b => R b ∧ b ≠ D
theorem wo_on {R : Rgn} {D : Addr} {H : Hp} {o : HO} : On (wo R D) H (upd H D o) := fun b u hb e => by
  rw [upd_ne hb.2]
  exact e
theorem wo_rg {R : Rgn} {H : Hp} {d r D : Addr} {o : HO} (g : Rg R H d r) (e : H D = some o) : Rg (wo R D) H d r := ⟨fun z => g.nd z.1, fun z => g.nr z.1, fun p hp => ⟨g.new p hp, (ne_of_none e hp).symm⟩⟩
def spMarket : Sp := fun vs H Q _ => ∃ (R : Rgn) (d c r : Addr) (n g tr m : Nat), vs = [.ref d, .int (g : Int), .int (tr : Int), .int (m : Int)] ∧ Dk H d c r n ∧ n < 2 ^ 37 ∧ 0 < g ∧ g ≤ 100 ∧ tr ≤ 4 ∧ m ≤ 4 ∧ Rg R H d r ∧
  ∀ (H' : Hp) (v : V) (ts : List Trd), ts.length ≤ tr → (∀ t ∈ ts, TrdOk g m t) → Dat R H' v (mktD g ts) → Dk H' d c r (n + 100) → Kp d r H H' → Q v H'
def tyOf : PyData → String
  | .none => "NoneType"
  | .bool _ => "bool"
  | .int _ => "int"
  | .str _ => "str"
  | .list _ => "list"
  | .tuple _ => "tuple"
  | .dict _ => "dict"
def isTup : PyData → Bool
  | .tuple _ => true
  | _ => false
def isInt : PyData → Bool
  | .int _ => true
  | .bool _ => true
  | _ => false
def isBool : PyData → Bool
  | .bool _ => true
  | _ => false
theorem dat_ty {K : PySem.W.Frag} {R : Rgn} {H : Hp} {v : V} {d : PyData} (h : Dat R H v d) : TyX K H v (.type (tyOf d)) := by
  cases h with
  | non => exact .base .non
  | bl b => exact .base (.bl b)
  | int i => exact .base (.int i)
  | str x => exact .base (.str x)
  | tup ra e t => exact .base (.tup e)
  | lst ra e t => exact .base (.lst e)
  | emp ra e => exact .base (.dK e)
theorem kit_tup : ∀ d : PyData, kitB (tyOf d) "tuple" = some (isTup d)
  | .none => (by decide +kernel : kitB "NoneType" "tuple" = some false)
  | .bool _ => (by decide +kernel : kitB "bool" "tuple" = some false)
  | .int _ => (by decide +kernel : kitB "int" "tuple" = some false)
  | .str _ => (by decide +kernel : kitB "str" "tuple" = some false)
  | .list _ => (by decide +kernel : kitB "list" "tuple" = some false)
  | .tuple _ => (by decide +kernel : kitB "tuple" "tuple" = some true)
  | .dict _ => (by decide +kernel : kitB "dict" "tuple" = some false)
theorem kit_int : ∀ d : PyData, kitB (tyOf d) "int" = some (isInt d)
  | .none => (by decide +kernel : kitB "NoneType" "int" = some false)
  | .bool _ => (by decide +kernel : kitB "bool" "int" = some true)
  | .int _ => (by decide +kernel : kitB "int" "int" = some true)
  | .str _ => (by decide +kernel : kitB "str" "int" = some false)
  | .list _ => (by decide +kernel : kitB "list" "int" = some false)
  | .tuple _ => (by decide +kernel : kitB "tuple" "int" = some false)
  | .dict _ => (by decide +kernel : kitB "dict" "int" = some false)
theorem kit_bool : ∀ d : PyData, kitB (tyOf d) "bool" = some (isBool d)
  | .none => (by decide +kernel : kitB "NoneType" "bool" = some false)
  | .bool _ => (by decide +kernel : kitB "bool" "bool" = some true)
  | .int _ => (by decide +kernel : kitB "int" "bool" = some false)
  | .str _ => (by decide +kernel : kitB "str" "bool" = some false)
  | .list _ => (by decide +kernel : kitB "list" "bool" = some false)
  | .tuple _ => (by decide +kernel : kitB "tuple" "bool" = some false)
  | .dict _ => (by decide +kernel : kitB "dict" "bool" = some false)
def whole : PyData → Bool
  | .int _ => true
  | _ => false
def nn : PyData → Bool
  | .int i => decide (0 ≤ i)
  | _ => false
theorem tup_at0 {H : Hp} {a : Addr} {x y : V} {K : PySem.W.Frag} (e : H a = some (.tup [x, y])) : SqT K H a [x, y] := .inl (.inl e)
theorem sIx_lo (n j : Nat) (h : j ≤ n) : HT.sIx n 0 (some (j : Int)) = j := by
  rw [show HT.sIx n 0 (some (j : Int)) = min j n from HT.sIx_nat n 0 j]
  omega
theorem cut_from (xs : List V) (j : Nat) (h : j ≤ xs.length) : cutV xs (some (j : Int)) none = xs.drop j := by
  unfold cutV
  rw [HT.sIx_none, sIx_lo _ _ h]
  refine List.take_of_length_le ?_
  rw [List.length_drop]
  exact Nat.le_refl _
theorem rd_from {K : PySem.W.Frag} {R : Rgn} {H : Hp} {a : Addr} {xs : List V} {ds : List PyData} {j : Nat} {Q : VK} (ra : R a) (e : H a = some (.tup xs)) (t : Dats R H xs ds) (hj : j ≤ xs.length) (new : ∀ p, H p = none → R p)
    (q : ∀ (H' : Hp) (p : Addr), Same H H' → R p → H' p = some (.tup (xs.drop j)) → Q (.ref p) H') : rSlA K (.ref a) (some (j : Int)) none H Q := by
  refine ⟨a, xs, rfl, .inl (.inl e), fun h => ?_, fun h p hp => ?_⟩
  · have : j = 0 := by
      have := h.1
      rw [sIx_lo _ _ hj] at this
      exact this
    refine q H a (Same.refl H) ra ?_
    rw [e, this, List.drop_zero]
  · rw [cut_from xs j hj]
    exact q _ p (same_upd hp) (new p hp) upd_same
theorem rd_cat {K : PySem.W.Frag} {R : Rgn} {H : Hp} {a b : Addr} {xs ys : List V} {Q : VK} (ra : R a) (rb : R b) (ea : H a = some (.tup xs)) (eb : H b = some (.tup ys)) (hz : xs.length + ys.length ≤ 1000000) (new : ∀ p, H p = none → R p)
    (q : ∀ (H' : Hp) (p : Addr), Same H H' → R p → H' p = some (.tup (xs ++ ys)) → Q (.ref p) H') : rCatA K (.ref a) (.ref b) H Q := by
  refine ⟨a, b, xs, ys, rfl, rfl, .inl (.inl ea), .inl (.inl eb), by rw [sizeLine_eq]; omega, fun h => ?_, fun h h2 => ?_, fun h h2 p hp => ?_⟩
  · exact q H b (Same.refl H) rb (by rw [eb, h]; rfl)
  · exact q H a (Same.refl H) ra (by rw [ea, h2, List.append_nil])
  · exact q _ p (same_upd hp) (new p hp) upd_same
theorem np {σ : L2.St} {H : Hp} {Q : Option Int → Hp → Prop} (h : Q none H) : tNoPart σ H Q := h
end
end Lb
set_option Elab.async false
set_option linter.all false
set_option maxRecDepth 100000
set_option maxHeartbeats 4000000
namespace Lb
open PySem PySem.Spec PyProof.Rows L2 RZ
/-! ### values of which only the size is known -/
def Vd (R : Rgn) (H : Hp) (S D : Nat) (v : V) : Prop := ∃ x, Dat R H v x ∧ Ok S D x
def Pk (R : Rgn) (H : Hp) (S D : Nat) (vs : List V) : Prop := ∃ ds, Dats R H vs ds ∧ Oks S D ds
structure Tp (R : Rgn) (H : Hp) (S D : Nat) (a : Addr) (xs : List V) : Prop where
  ra : R a
  at_ : H a = some (.tup xs)
  pk : Pk R H S D xs
section
variable {R : Rgn} {H H' : Hp} {S T D : Nat} {v : V} {a b p : Addr} {xs ys vs : List V} {K : PySem.W.Frag} {Q : VK}
theorem Vd.on (h : Vd R H S D v) (k : On R H H') : Vd R H' S D v := let ⟨x, d, o⟩ := h; ⟨x, d.on k, o⟩
theorem Vd.same (h : Vd R H S D v) (k : Same H H') : Vd R H' S D v := h.on (On.of k)
theorem Vd.mono {S' D' : Nat} (h : Vd R H S D v) (a : S ≤ S') (b : D ≤ D') : Vd R H S' D' v := let ⟨x, d, o⟩ := h; ⟨x, d, o.mono a b⟩
theorem Pk.on (h : Pk R H S D vs) (k : On R H H') : Pk R H' S D vs := let ⟨x, d, o⟩ := h; ⟨x, d.on k, o⟩
theorem Pk.same (h : Pk R H S D vs) (k : Same H H') : Pk R H' S D vs := h.on (On.of k)
theorem Pk.mono {S' D' : Nat} (h : Pk R H S D vs) (a : S ≤ S') (b : D ≤ D') : Pk R H S' D' vs := let ⟨x, d, o⟩ := h; ⟨x, d, o.mono a b⟩
theorem Pk.nil : Pk R H 0 D [] := ⟨[], .nil, (fun _ z => (List.not_mem_nil z).elim), Nat.le_refl _, (fun _ z => (List.not_mem_nil z).elim)⟩
theorem Pk.cons (h : Vd R H S D v) (t : Pk R H T D vs) : Pk R H (S + 2 + T) D (v :: vs) := by
  obtain ⟨x, d, o⟩ := h
  obtain ⟨ds, ts, os⟩ := t
  refine ⟨x :: ds, .cons d ts, ?_⟩
  have := (Oks.one o).append os
  exact this
theorem Pk.append (h : Pk R H S D xs) (t : Pk R H T D ys) : Pk R H (S + T) D (xs ++ ys) := by
  obtain ⟨ds, d, o⟩ := h
  obtain ⟨es, e, o2⟩ := t
  exact ⟨ds ++ es, d.append e, o.append o2⟩
theorem Pk.take (h : Pk R H S D xs) (n : Nat) : Pk R H S D (xs.take n) := let ⟨ds, d, o⟩ := h; ⟨ds.take n, d.take n, o.take n⟩
theorem Pk.drop (h : Pk R H S D xs) (n : Nat) : Pk R H S D (xs.drop n) := let ⟨ds, d, o⟩ := h; ⟨ds.drop n, d.drop n, o.drop n⟩
theorem Pk.len (h : Pk R H S D xs) : 2 * xs.length ≤ S := by
  obtain ⟨ds, d, o⟩ := h
  rw [d.length]
  exact Nat.le_trans (wts_len ds) o.wt
theorem Pk.rep (h : Pk R H S D xs) : ∀ n : Nat, Pk R H (n * S) D (List.replicate n xs).flatten
  | 0 => by
    rw [Nat.zero_mul]
    exact Pk.nil
  | n + 1 => by
    rw [List.replicate_succ, List.flatten_cons, Nat.succ_mul, Nat.add_comm]
    exact h.append (Pk.rep h n)
theorem Pk.get (h : Pk R H S D xs) {i : Nat} (e : xs[i]? = some v) : Vd R H S D v := by
  obtain ⟨ds, d, o⟩ := h
  obtain ⟨x, hx, dx⟩ := d.get' e
  exact ⟨x, dx, o.mem (List.mem_of_getElem? hx)⟩
theorem Vd.int (i : Int) (h : decide ((PyData.int i).shown.length ≤ 12) = true) (h2 : decide (i.natAbs.log2 < 1920) = true) : Vd R H 12 D (.int i) := ⟨.int i, .int i, h2, of_decide_eq_true h, by rw [PyData.depth]; exact Nat.zero_le _⟩
theorem Vd.bl (b : Bool) : Vd R H 12 D (.bl b) := ⟨.bool b, .bl b, rfl, by show 5 ≤ 12; decide, by rw [PyData.depth]; exact Nat.zero_le _⟩
theorem Vd.non : Vd R H 12 D .non := ⟨.none, .non, rfl, by show 4 ≤ 12; decide, by rw [PyData.depth]; exact Nat.zero_le _⟩
theorem Vd.str (x : Str) (h : decide ((reprText x).length ≤ 12) = true) : Vd R H 12 D (.str x) := ⟨.str x, .str x, rfl, of_decide_eq_true h, by rw [PyData.depth]; exact Nat.zero_le _⟩
theorem Vd.nat {g : Nat} (h : g ≤ 9) : Vd R H 12 D (.int (g : Int)) := by
  match g, h with
  | 0, _ | 1, _ | 2, _ | 3, _ | 4, _ | 5, _ | 6, _ | 7, _ | 8, _ | 9, _ => exact Vd.int _ (by decide +kernel) (by decide +kernel)
theorem Tp.val (t : Tp R H S D a xs) : Vd R H (S + 4) (D + 1) (.ref a) := by
  obtain ⟨ds, d, o⟩ := t.pk
  exact ⟨.tuple ds, .tup t.ra t.at_ d, o.tuple⟩
theorem Tp.on (t : Tp R H S D a xs) (k : On R H H') : Tp R H' S D a xs := ⟨t.ra, k _ _ t.ra t.at_, t.pk.on k⟩
theorem Tp.same (t : Tp R H S D a xs) (k : Same H H') : Tp R H' S D a xs := t.on (On.of k)
theorem Tp.new (h : Pk R H S D xs) (n : H p = none) (r : R p) : Tp R (upd H p (.tup xs)) S D p xs := ⟨r, upd_same, h.same (same_upd n)⟩
end
/-! ### sizes of markets and of what is told -/
theorem wt_amt {x : Int} (h : 0 ≤ x ∧ x ≤ 3) : fine (.int x) = true ∧ wt (.int x) = 1 := by
  obtain ⟨n, rfl⟩ : ∃ n : Nat, x = (n : Int) := ⟨x.toNat, by omega⟩
  have : n ≤ 3 := by omega
  match n, this with
  | 0, _ | 1, _ | 2, _ | 3, _ => exact ⟨by decide +kernel, by decide +kernel⟩
theorem wts_bag : ∀ {b : List Int}, (∀ x ∈ b, 0 ≤ x ∧ x ≤ 3) → wts (b.map PyData.int) = 3 * b.length
  | [], _ => rfl
  | x :: b, h => by
    rw [List.map_cons, wts, (wt_amt (h x List.mem_cons_self)).2, wts_bag fun y hy => h y (List.mem_cons_of_mem _ hy), List.length_cons]
    omega
theorem bag_ok {g m : Nat} {b : List Int} (s : Side g m b) (hg : g ≤ 4) : Ok 16 1 (bagD b) := by
  refine ⟨(fines_iff _).mpr fun d hd => ?_, ?_, ?_⟩
  · obtain ⟨x, hx, rfl⟩ := List.mem_map.mp hd
    exact (wt_amt (s.amt x hx)).1
  · show 4 + wts (b.map PyData.int) ≤ 16
    rw [wts_bag s.amt, s.len]
    omega
  · rw [PyData.depth, depth_ints]
    exact Nat.le_refl _
theorem trd_ok {g m : Nat} {t : Trd} (h : TrdOk g m t) (hg : g ≤ 4) : Ok 40 2 (trdD t) :=
  ((Oks.one (bag_ok h.1 hg)).append (Oks.one (bag_ok h.2 hg))).tuple.mono (by omega) (by omega)
theorem trds_ok {g m : Nat} (hg : g ≤ 4) : ∀ {ts : List Trd}, (∀ t ∈ ts, TrdOk g m t) → Oks (42 * ts.length) 2 (ts.map trdD)
  | [], _ => ⟨(fun _ z => (List.not_mem_nil z).elim), Nat.le_refl _, (fun _ z => (List.not_mem_nil z).elim)⟩
  | t :: ts, h => by
    have h1 := trd_ok (h t List.mem_cons_self) hg
    have h2 := trds_ok hg (ts := ts) fun x hx => h x (List.mem_cons_of_mem _ hx)
    have := (Oks.one h1).append h2
    exact this.mono (by rw [List.length_cons]; omega) (Nat.le_refl _)
end Lb
set_option Elab.async false
set_option linter.all false
set_option maxRecDepth 100000
set_option maxHeartbeats 4000000
namespace Lb
open PySem PySem.Spec PyProof.Rows L2 RZ
section
variable {P : Program} {w : World} {K : PySem.W.Frag} {mg : Str → Option Value} {base : Heap}
theorem upd_dk {H : Hp} {d c r L : Addr} {n : Nat} {o : HO} (dk : Dk H d c r n) (h1 : L ≠ d) (h2 : L ≠ r) (h3 : L ≠ c) : Dk (upd H L o) d c r n := by
  obtain ⟨t, cs, rs, g1, g2, g3, g4, g5, g6, g7, w1, w2, w3⟩ := dk
  exact ⟨t, cs, rs, g1, g2, g3, g4, g5, g6, g7, by rw [upd_ne h1.symm]; exact w1, by rw [upd_ne h3.symm]; exact w2, by rw [upd_ne h2.symm]; exact w3⟩
def R0 (d r : Addr) : Rgn := fun b => b ≠ d ∧ b ≠ r
theorem rg0 {H : Hp} {d c r : Addr} {n : Nat} (dk : Dk H d c r n) : Rg (R0 d r) H d r := ⟨fun z => z.1 rfl, fun z => z.2 rfl, fun p e => ⟨(dk.nd e).1, (dk.nd e).2.1⟩⟩
def spLaw (K : PySem.W.Frag) : Sp := fun vs H Q _ => ∃ (a : Addr) (ns : List Int), vs = [.ref a] ∧ SqL K H a (ns.map V.int) ∧ ns.length ≤ 63 ∧ ∀ H', Q (.bl true) H'
end
end Lb
set_option Elab.async false
set_option linter.all false
set_option maxRecDepth 100000
set_option maxHeartbeats 4000000
namespace Lb
open PySem PySem.Spec PyProof.Rows L2 RZ
/-! ### what a step leaves -/
def geB (x y : List Int) : Bool := (List.zipWith (fun a b => decide (a ≥ b)) x y).all id
abbrev minusL (x y : List Int) : List Int := List.zipWith (· - ·) x y
abbrev plusL (x y : List Int) : List Int := List.zipWith (· + ·) x y
def exch (x t p : List Int) : Option (List Int) := if geB x t = true then some (plusL (minusL x t) p) else none
def behind (ts : List Trd) (x : List Int) (k : Nat) (b : Bool) : Option (List Int) :=
  match ts[k]? with
  | none => none
  | some t => if b = true then exch x t.2 t.1 else exch x t.1 t.2
def optD : Option (List Int) → PyData
  | none => .none
  | some b => bagD b
theorem zipW_take {α : Type} {f : Int → Int → α} : ∀ {a b : List Int} {i : Nat} {x y : Int}, a[i]? = some x → b[i]? = some y → (List.zipWith f a b).take (i + 1) = (List.zipWith f a b).take i ++ [f x y]
  | x' :: a, y' :: b, 0, x, y, h1, h2 => by
    have e1 : x' = x := Option.some.inj h1
    have e2 : y' = y := Option.some.inj h2
    rw [e1, e2]
    rfl
  | x' :: a, y' :: b, i + 1, x, y, h1, h2 => by
    rw [List.zipWith_cons_cons, List.take_succ_cons, List.take_succ_cons, zipW_take (i := i) (x := x) (y := y) h1 h2]
    rfl
theorem geB_cons (a b : Int) (x y : List Int) : geB (a :: x) (b :: y) = (decide (a ≥ b) && geB x y) := rfl
theorem geB_take : ∀ {x y : List Int} {i : Nat} {u v : Int}, x[i]? = some u → y[i]? = some v → geB (x.take (i + 1)) (y.take (i + 1)) = (geB (x.take i) (y.take i) && decide (u ≥ v))
  | a :: x, b :: y, 0, u, v, h1, h2 => by
    have e1 : a = u := Option.some.inj h1
    have e2 : b = v := Option.some.inj h2
    subst e1 e2
    show (decide (a ≥ b) && true) = (true && decide (a ≥ b))
    rw [Bool.and_true, Bool.true_and]
  | a :: x, b :: y, i + 1, u, v, h1, h2 => by
    rw [List.take_succ_cons, List.take_succ_cons, geB_cons, geB_take (i := i) (u := u) (v := v) h1 h2, List.take_succ_cons, List.take_succ_cons, geB_cons, Bool.and_assoc]
/-! ### the promises of the steps' defs -/
def spHolds (K : PySem.W.Frag) : Sp := fun vs H Q _ => ∃ (a b : Addr) (x y : List Int), vs = [.ref a, .ref b] ∧ SqT K H a (x.map V.int) ∧ SqT K H b (y.map V.int) ∧ x.length = y.length ∧ x.length ≤ 1000 ∧ ∀ H', Same H H' → Q (.bl (geB x y)) H'
def spMinus (K : PySem.W.Frag) : Sp := fun vs H Q _ => ∃ (a b : Addr) (x y : List Int), vs = [.ref a, .ref b] ∧ SqT K H a (x.map V.int) ∧ SqT K H b (y.map V.int) ∧ x.length = y.length ∧ x.length ≤ 1000 ∧
  ∀ (H' : Hp) (p : Addr), Same H H' → H p = none → H' p = some (.tup ((minusL x y).map V.int)) → Q (.ref p) H'
/-- trades of so many goods -/
def Even (g : Nat) (ts : List Trd) : Prop := ∀ t ∈ ts, t.1.length = g ∧ t.2.length = g
theorem MktOk.even {g : Nat} {ts : List Trd} (m : MktOk g ts) : Even g ts := fun t ht => ⟨(m.all t ht).1.len, (m.all t ht).2.len⟩
/-- the law's own: the trades, the stock, the index, whether back -/
def spBehind : Sp := fun vs H Q _ => ∃ (R : Rgn) (m s : V) (g : Nat) (ts : List Trd) (x : List Int) (k : Nat) (b : Bool), vs = [m, s, .int (k : Int), .bl b] ∧ Dat R H m (.tuple (ts.map trdD)) ∧ Dat R H s (bagD x) ∧ Even g ts ∧ g ≤ 1000 ∧ x.length = g ∧ k < ts.length ∧ (∀ p, H p = none → R p) ∧
  ∀ (H' : Hp) (v : V), Same H H' → Dat R H' v (optD (behind ts x k b)) → Q v H'
/-- the parts of a pair that is plain data -/
theorem Dat.pair {R : Rgn} {H : Hp} {v : V} {x y : PyData} (h : Dat R H v (.tuple [x, y])) : ∃ a u w, v = .ref a ∧ R a ∧ H a = some (.tup [u, w]) ∧ Dat R H u x ∧ Dat R H w y := by
  cases h with
  | tup ra e t =>
    cases t with
    | cons h1 t =>
      cases t with
      | cons h2 t =>
        cases t
        exact ⟨_, _, _, rfl, ra, e, h1, h2⟩
theorem Dat.tupI {R : Rgn} {H : Hp} {v : V} {ds : List PyData} (h : Dat R H v (.tuple ds)) : ∃ a xs, v = .ref a ∧ R a ∧ H a = some (.tup xs) ∧ Dats R H xs ds := by
  cases h with
  | tup ra e t => exact ⟨_, _, rfl, ra, e, t⟩
theorem Dat.intI {R : Rgn} {H : Hp} {v : V} {i : Int} (h : Dat R H v (.int i)) : v = .int i := by
  cases h
  rfl
theorem Dat.blI {R : Rgn} {H : Hp} {v : V} {b : Bool} (h : Dat R H v (.bool b)) : v = .bl b := by
  cases h
  rfl
theorem Dat.nonI {R : Rgn} {H : Hp} {v : V} (h : Dat R H v .none) : v = .non := by
  cases h
  rfl
/-- a bag drawn -/
def spBag : Sp := fun vs H Q _ => ∃ (d c r : Addr) (n g m : Nat), vs = [.ref d, .int (g : Int), .int (m : Int)] ∧ Dk H d c r n ∧ n < 2 ^ 38 ∧ g ≤ 1000 ∧ m ≤ 1000 ∧
  ∀ (H' : Hp) (p : Addr) (b : List Int), b.length = g → (∀ x ∈ b, 0 ≤ x ∧ x ≤ (m : Int)) → H p = none → H' p = some (.tup (b.map V.int)) → Dk H' d c r (n + g) → Kp d r H H' → Q (.ref p) H'
end Lb
set_option Elab.async false
set_option linter.all false
set_option maxRecDepth 100000
set_option maxHeartbeats 4000000
namespace Lb
open PySem PySem.Spec PyProof.Rows L2 RZ
/-! ### defs that may raise -/
section
variable {P : Program} {w : World} {K : PySem.W.Frag} {mg : Str → Option Value} {base : Heap}
/-! ### an error class of one field -/
end
/-! ### lambdas -/
mutual
theorem Dat.extN {R : Rgn} {H H' : Hp} (k : LamX.ExtN H H') : ∀ {v : V} {d : PyData}, Dat R H v d → Dat R H' v d
  | _, _, .non => .non
  | _, _, .bl b => .bl b
  | _, _, .int i => .int i
  | _, _, .str x => .str x
  | _, _, .tup ra e h => .tup ra (k _ _ e fun _ z => nomatch z) (Dats.extN k h)
  | _, _, .lst ra e h => .lst ra (k _ _ e fun _ z => nomatch z) (Dats.extN k h)
  | _, _, .emp ra e => .emp ra (k _ _ e fun _ z => nomatch z)
theorem Dats.extN {R : Rgn} {H H' : Hp} (k : LamX.ExtN H H') : ∀ {v : List V} {d : List PyData}, Dats R H v d → Dats R H' v d
  | _, _, .nil => .nil
  | _, _, .cons h t => .cons (Dat.extN k h) (Dats.extN k t)
end
theorem Dk.extN {H H' : Hp} {d c r : Addr} {n : Nat} (h : Dk H d c r n) (k : LamX.ExtN H H') : Dk H' d c r n := by
  obtain ⟨t, cs, rs, g1, g2, g3, g4, g5, g6, g7, w1, w2, w3⟩ := h
  exact ⟨t, cs, rs, g1, g2, g3, g4, g5, g6, g7, k _ _ w1 (fun _ z => nomatch z), k _ _ w2 (fun _ z => nomatch z), k _ _ w3 (fun _ z => nomatch z)⟩
/-! ### walks -/
def stepOf (n : Nat) : PyData → Option (Nat × Bool)
  | .tuple [.int k, .bool b] => if 0 ≤ k ∧ k < (n : Int) then some (k.toNat, b) else none
  | _ => none
def nxt (ts : List Trd) (cur : List Int) (d : PyData) : Option (List Int) :=
  match stepOf ts.length d with
  | none => none
  | some (k, b) => behind ts cur k b
end Lb
set_option Elab.async false
set_option linter.all false
set_option maxRecDepth 100000
set_option maxHeartbeats 4000000
namespace Lb
open PySem PySem.Spec PyProof.Rows L2 RZ
/-! ### the law's own def, its code object told -/
/-- the law's promise, its table of code objects empty as yet -/
def spLawT (K : PySem.W.Frag) (Pt : Addr) : Sp := fun vs H Q _ => ∃ (a : Addr) (ns : List Int), vs = [.ref a] ∧ SqL K H a (ns.map V.int) ∧ ns.length ≤ 63 ∧ H Pt = some (.tbl #[]) ∧ ∀ H', Q (.bl true) H'
/-! ### amounts on the way -/
/-! ### steps drawn -/
theorem Vd.newL {R : Rgn} {H : Hp} {S D : Nat} {p : Addr} {xs : List V} (h : Pk R H S D xs) (n : H p = none) (r : R p) : Vd R (upd H p (.lst xs)) (S + 4) (D + 1) (.ref p) := by
  obtain ⟨ds, d, o⟩ := h
  exact ⟨.list ds, Dat.newL n r d, o.list⟩
theorem Vd.extN {R : Rgn} {H H' : Hp} {S D : Nat} {v : V} (h : Vd R H S D v) (k : LamX.ExtN H H') : Vd R H' S D v := let ⟨x, d, o⟩ := h; ⟨x, d.extN k, o⟩
end Lb
set_option Elab.async false
set_option linter.all false
set_option maxRecDepth 100000
set_option maxHeartbeats 4000000
namespace Lb
open PySem PySem.Spec PyProof.Rows L2
/-! ### the law's end where it makes a lambda -/
section
variable {P : Program} {w : World} {K : PySem.W.Frag} {mg mb : Str → Option Value} {CX : CXT} {k : Nat} {fa a c Pt : Addr} {fd : FuncData} {x : Str} {sp : Sp} {s1 : Shared} {vs : List Value} {ns : List Int}
theorem go_tab {H : Hp} (kin : K.In s1.heap) (hns : s1.heap.Ns mainGlobals mg) (hb : s1.heap.Ns builtinsNs mb) (hbb : ∀ x : Str, x ≠ "__name__" → mb x = bootBuiltins x) (hlim : s1.heap.NoLimit) (hg : s1.gens = #[])
    (hT : s1.heap.get? Pt = some { cls := .none, data := .fields #[] }) (nT : K.lookup Pt = none) (C : PySem.W.CodeHd s1.heap c Pt)
    (hbm : ∃ (bm : Addr) (ob : Obj), mg "__builtins__" = some (.ref bm) ∧ bm ≠ builtinsNs ∧ s1.heap.get? bm = some ob ∧ ob.cls = .type "module" ∧ ob.dict = some builtinsNs ∧ ob.data = .plain)
    (ha : s1.heap.get? a = some { cls := .type "list", data := .seq vs.toArray }) (hr : Room k callerA)
    (F : ∀ base : Heap, K.In base → base.Ns mainGlobals mg → LamX.TabB base mg c Pt → FnG P w K mg base CX k fa fd [x] sp) (hbind : ∀ (s : Shared) (u : Value), BindsTo s fd ⟨[u], []⟩ [(x, u)])
    (hP : H Pt = some (.tbl #[])) (only : ∀ b, H b = none ∨ b = Pt ∨ ∃ o xs, H b = some (.frz o (.lst xs))) (hok : HOk P w H s1.heap) (hA : ∀ b, H b ≠ none → b = a ∨ b = Pt) (hK : H a ≠ none → K.lookup a = none)
    (hsp : sp [.ref a] H (fun v _ => v = .bl true) fun _ _ _ => False) (hCX : ∀ e s', CX [] H s1 (fun _ _ _ => False) e s' → False) :
    codeAny (model P w) callerA (.call (.ref fa) ⟨[.ref a], []⟩) (LawEnd s1) s1 := by
  have nP : a ≠ Pt := fun z => by
    rw [z, hT] at ha
    exact nomatch (show Data.fields #[] = Data.seq vs.toArray _ from congrArg Obj.data (Option.some.inj ha))
  have isA : ∀ {b : Addr} {u : HO}, H b = some u → b = a ∨ b = Pt := fun {b u} e => hA b (by rw [e]; exact fun z => nomatch z)
  -- what is neither the script nor the table is hidden from nobody
  have free : ∀ {b : Addr} {o : Obj}, s1.heap.get? b = some o → (∀ us n, o.data ≠ .seq us n) → o.data ≠ .fields #[] → H b = none := by
    intro b o e d1 d2
    cases q : H b with
    | none => rfl
    | some u =>
      rcases isA q with eb | eb
      · subst eb
        rw [ha] at e
        cases e
        exact absurd rfl (d1 _ _)
      · subst eb
        rw [hT] at e
        cases e
        exact absurd rfl d2
  have ns : ∀ {b : Addr} {m : Str → Option Value}, s1.heap.Ns b m → (hidT s1.heap H).Ns b m := by
    rintro b m ⟨o, es, ep, e, d, r⟩
    exact ⟨o, es, ep, hidT_get e (free e (fun us n z => by rw [d] at z; cases z) (fun z => by rw [d] at z; cases z)), d, r⟩
  have kb : K.In (hidT s1.heap H) := by
    intro b o e
    refine hidT_get (kin b o e) ?_
    cases q : H b with
    | none => rfl
    | some u =>
      rcases isA q with eb | eb
      · subst eb
        rw [hK (by rw [q]; exact fun z => nomatch z)] at e
        cases e
      · rw [eb, nT] at e
        cases e
  have tb : LamX.TabB (hidT s1.heap H) mg c Pt := by
    refine ⟨?_, ?_, fun z => ?_⟩
    · obtain ⟨o, us, file, tf, flags, tg, inF, text, tt, e1, r1, r2, r3, rest⟩ := C
      refine ⟨o, us, file, tf, flags, tg, inF, text, tt, hidT_get e1 (free e1 (fun us n z => by rw [r2] at z; cases z) fun z => ?_), r1, r2, r3, rest⟩
      rw [r2] at z
      cases z
      simp at r3
    · obtain ⟨bm, ob, b1, b2, b3, b4, b5, b6⟩ := hbm
      refine ⟨bm, ob, b1, b2, fun z => ?_, fun z => ?_, hidT_get b3 (free b3 (fun us n z => by rw [b6] at z; cases z) (fun z => by rw [b6] at z; cases z)), b4, b5, b6⟩
      · obtain ⟨o, es, ep, e, d, _⟩ := hns
        rw [z, e] at b3
        cases b3
        rw [d] at b6
        cases b6
      · rw [z, hT] at b3
        cases b3
        cases b6
    · obtain ⟨o, es, ep, e, d, _⟩ := hns
      rw [z, hT] at e
      cases e
      cases d
  obtain ⟨mc, n1, n2⟩ := hlim
  have md : Mod K mg (hidT s1.heap H) := ⟨kb, ns hns, ⟨mb, ns hb, hbb⟩, ⟨mc, ns n1, n2⟩⟩
  have e0 : Env0 P w K mg (hidT s1.heap H) callerA [] s1 H :=
    ⟨rfl, md, fun b o e => of_hidT e, Nat.le_of_eq (hidT_size _ _), trivial, fun b hb => absurd (show b ∈ ([] : List Addr) from hb) (by simp), hok, .of_eq hg⟩
  refine codeAny_mono ((F _ kb (ns hns) tb).run callerA [] s1 H ⟨[.ref a], []⟩ [.ref a] [.ref a] _ _ rfl hr e0 (hbind s1 (.ref a)) (.cons rfl .nil) hsp) fun r s' h => ?_
  cases r with
  | error e => exact (hCX e s' h).elim
  | ok fl =>
    cases fl with
    | next => exact h.elim
    | brk => exact h.elim
    | cont => exact h.elim
    | ret u =>
      obtain ⟨v, H', os, bare, un, hok', ru, q⟩ := h
      have ev : v = .bl true := q
      subst ev
      obtain rfl : u = Value.bool true := ru
      have key : ∀ b o, b ≠ Pt → s1.heap.get? b = some o → s'.heap.get? b = some o := by
        intro b o nb e
        rcases only b with z | z | ⟨ob, xs, z⟩
        · exact un.keep b o e z (fun m => absurd (show b ∈ ([] : List Addr) from m) (by simp)) (by simp)
        · exact absurd z nb
        · obtain ⟨g1, _⟩ := hok b _ z
          obtain ⟨g2, _⟩ := hok' b _ (un.frzs b ob _ z)
          rw [e] at g1
          cases g1
          exact g2
      obtain ⟨more, hm⟩ : ∃ more : Array Value, s'.heap.get? Pt = some { cls := .none, data := .fields more } := by
        obtain ⟨more, z⟩ := un.tbls Pt #[] hP
        exact ⟨_, hok' Pt _ z⟩
      refine ⟨rfl, ⟨fun b o e => ?_, fun b o e => ?_⟩, os, bare⟩
      · by_cases hbp : b = Pt
        · subst hbp
          rw [hT] at e
          cases e
          exact .inr (.inl ⟨(C.tab hT).isCodeTable, rfl, #[], more, rfl, by rw [Array.empty_append]; exact hm⟩)
        · exact .inl (key b o hbp e)
      · by_cases hbp : b = Pt
        · rw [hbp]
          exact ⟨_, hm⟩
        · exact ⟨o, key b o hbp e⟩
theorem law_tab (kin : K.In s1.heap) (hns : s1.heap.Ns mainGlobals mg) (hb : s1.heap.Ns builtinsNs mb) (hbb : ∀ x : Str, x ≠ "__name__" → mb x = bootBuiltins x) (hlim : s1.heap.NoLimit) (hg : s1.gens = #[])
    (hT : s1.heap.get? Pt = some { cls := .none, data := .fields #[] }) (nT : K.lookup Pt = none) (C : PySem.W.CodeHd s1.heap c Pt)
    (hbm : ∃ (bm : Addr) (ob : Obj), mg "__builtins__" = some (.ref bm) ∧ bm ≠ builtinsNs ∧ s1.heap.get? bm = some ob ∧ ob.cls = .type "module" ∧ ob.dict = some builtinsNs ∧ ob.data = .plain)
    (ha : s1.heap.get? a = some { cls := .type "list", data := .seq vs.toArray }) (hi : IntsAre vs ns) (hl : ns.length ≤ sizeLine) (hr : Room k callerA)
    (F : ∀ base : Heap, K.In base → base.Ns mainGlobals mg → LamX.TabB base mg c Pt → FnG P w K mg base CX k fa fd [x] sp) (hbind : ∀ (s : Shared) (u : Value), BindsTo s fd ⟨[u], []⟩ [(x, u)])
    (hsp : ∀ H : Hp, H Pt = some (.tbl #[]) → SqL K H a (ns.map V.int) → sp [.ref a] H (fun v _ => v = .bl true) fun _ _ _ => False)
    (hCX : ∀ H e s', CX [] H s1 (fun _ _ _ => False) e s' → False) : codeAny (model P w) callerA (.call (.ref fa) ⟨[.ref a], []⟩) (LawEnd s1) s1 := by
  have rv := vals_ints hi
  have nP : a ≠ Pt := fun z => by
    rw [z, hT] at ha
    exact nomatch (show Data.fields #[] = Data.seq vs.toArray _ from congrArg Obj.data (Option.some.inj ha))
  cases hk : K.lookup a with
  | some o =>
    have e := kin a o hk
    rw [ha] at e
    cases e
    let H0 : Hp := fun b => if b = Pt then some (.tbl #[]) else none
    have atP : H0 Pt = some (.tbl #[]) := if_pos rfl
    have off : ∀ {b : Addr}, b ≠ Pt → H0 b = none := fun h => if_neg h
    refine go_tab (H := H0) kin hns hb hbb hlim hg hT nT C hbm ha hr F hbind atP (fun b => ?_) (fun b u z => ?_) (fun b z => ?_) (fun z => absurd (off nP) z) (hsp _ atP (.inr ⟨_, vs.toArray, _, hk, rfl, rfl, rfl, ?_, by simpa using rv⟩)) fun e s' => hCX _ e s'
    · by_cases h : b = Pt
      · exact .inr (.inl h)
      · exact .inl (off h)
    · by_cases h : b = Pt
      · subst h
        rw [atP] at z
        cases z
        exact hT
      · rw [off h] at z
        cases z
    · exact .inr (Classical.byContradiction fun h => z (off h))
    · rw [List.size_toArray, hi.length]
      exact hl
  | none =>
    let H1 : Hp := fun b => if b = a then some (.frz { cls := .type "list", data := .seq vs.toArray } (.lst (ns.map V.int))) else if b = Pt then some (.tbl #[]) else none
    have at_a : H1 a = some (.frz { cls := .type "list", data := .seq vs.toArray } (.lst (ns.map V.int))) := if_pos rfl
    have atP : H1 Pt = some (.tbl #[]) := (if_neg nP.symm).trans (if_pos rfl)
    have off : ∀ {b : Addr}, b ≠ a → b ≠ Pt → H1 b = none := fun h1 h2 => (if_neg h1).trans (if_neg h2)
    refine go_tab (H := H1) kin hns hb hbb hlim hg hT nT C hbm ha hr F hbind atP (fun b => ?_) (fun b u z => ?_) (fun b z => ?_) (fun _ => hk) (hsp _ atP (.inl (.inr ⟨_, at_a⟩))) fun e s' => hCX _ e s'
    · by_cases h : b = a
      · rw [h]
        exact .inr (.inr ⟨_, _, at_a⟩)
      · by_cases h2 : b = Pt
        · exact .inr (.inl h2)
        · exact .inl (off h h2)
    · by_cases h : b = a
      · subst h
        rw [at_a] at z
        cases z
        exact ⟨ha, by rw [List.length_map]; exact hl, vs, _, rv, ha⟩
      · by_cases h2 : b = Pt
        · subst h2
          rw [atP] at z
          cases z
          exact hT
        · rw [off h h2] at z
          cases z
    · by_cases h : b = a
      · exact .inl h
      · exact .inr (Classical.byContradiction fun h2 => z (off h h2))
end
/-- what is known of a law that makes a lambda, at the head's heap -/
def LawT (l : PySem.W.OpenLaw) (w : World) (K : PySem.W.Frag) (k : Nat) (x : Str) (mg : Str → Option Value) (fa : Addr) (h : Heap) : Prop :=
  ∃ (fd : FuncData) (c Pt : Addr), h.get? Pt = some { cls := .none, data := .fields #[] } ∧ K.lookup Pt = none ∧ PySem.W.CodeHd h c Pt ∧ (∀ (s : Shared) (u : Value), BindsTo s fd ⟨[u], []⟩ [(x, u)]) ∧
    ∀ base : Heap, K.In base → base.Ns mainGlobals mg → LamX.TabB base mg c Pt → FnG l.prog w K mg base CX0 k fa fd [x] (spLawT K Pt)
theorem walk_gT {l : PySem.W.OpenLaw} {k : Nat} {q : Program} {loose : List Str} {XP : (Str → Option Value) → Heap → Prop} {YP : World → Heap → Prop} {d : DefRec} {K : Params → PySem.W.Frag} {x : Str}
    (hn : l.most = some 63) (hdf : d.params.defaults = []) (hr : Room k callerA) (hrec : ((recsOf q).any fun e => e.name == d.name) = true) (hY : ∀ (w : World) (h : Heap), YP w h → (K w.params).In h)
    (F : ∀ (w : World) (mg : Str → Option Value) (fa : Addr) (h : Heap), (K w.params).In h → h.Ns mainGlobals mg → mg d.name = some (.ref fa) → LamX.OwnTab (K w.params) fa h → LawT l w (K w.params) k x mg fa h) :
    PySem.W.WalkO q loose XP YP l.row.toRowW d [] (fun f vs => PySem.call f vs) := by
  refine Att.attach_call hn hdf fun w s0 s1 mg mb fa o pm cd doc a vs ns G Y ho hd hcd hmg hobj hints hlen hg => ?_
  have kin := hY w _ Y
  have own : LamX.OwnTab (K w.params) fa s1.heap := by
    intro c P o1 fd1 e dd vs1 sl k1 k2 k3 k4 k5
    obtain ⟨dL, hm, hnm⟩ := List.any_eq_true.mp hrec
    obtain ⟨a', o', fd', c', P', h1, h2, h3, h4, h5, ⟨oc, vc, e1, _, e3, e4⟩, hP⟩ := G.T.tab dL hm
    rw [beq_iff_eq.mp hnm, hmg] at h1
    cases h1
    rw [kin _ _ k1] at h2
    cases h2
    rw [k2] at h3
    cases h3
    rw [k3] at h4
    cases h4
    rw [kin _ _ k4] at e1
    cases e1
    cases e3
    rw [k5] at e4
    cases e4
    exact hP
  obtain ⟨fd, c, Pt, hT, nT, C, hb, hF⟩ := F w mg fa _ kin G.T.g hmg own
  exact law_tab kin G.T.g G.T.b G.T.builtins G.T.nolimit hg hT nT C G.T.bmain hobj hints (Nat.le_trans hlen (by decide)) hr hF hb (fun H hP hS => ⟨a, ns, rfl, hS, hlen, hP, fun _ => rfl⟩) fun H e s' h => h
end Lb
set_option Elab.async false
set_option linter.all false
set_option maxRecDepth 100000
set_option maxHeartbeats 4000000
namespace Lb
open PySem PySem.Spec PyProof.Rows L2
/-! ### d < e of plain data that is alike -/
/-! ### sum of a list of bools -/
/-! ### defs that use repr -/
structure OwnG (P : Program) (w : World) (K : PySem.W.Frag) (mg : Str → Option Value) (base : Heap) (x : Str) (k : Nat) (ps : List Str) (sp : Sp) : Prop where
  ex : ∃ (f : Addr) (fd : FuncData), FnG P w K mg base CX0 k f fd ps sp ∧ mg x = some (.ref f) ∧ PySem.W.keepIn K (.ref f) = true ∧ Binds K fd ps []
section
variable {P : Program} {w : World} {K : PySem.W.Frag} {mg : Str → Option Value} {base : Heap}
theorem ownG_of {x : Str} {st : Stmt} {N ps : List Str} {k : Nat} {sp : Sp} (D : Df K mg x st) (S : FnScope N ps (defScope st))
    (hb : ∀ (kV doc pm : Value) (an : Option Addr) (cdv ct : Value) (us : List Value), us.length = ps.length → bindArgs (PySem.W.fnOf x x (defArgs st) (defBody st) (defScope st) .none kV doc pm an cdv ct) ⟨us, []⟩ = pure (ps.zip us))
    (len : ∀ vs H Q E, sp vs H Q E → vs.length = ps.length)
    (hbody : ∀ (f : Addr) (cdv : Value) (A : Around) (outer : List Env) (s : Shared) (H : Hp) (vs : List V) (Q : VK) (E : XK), (cxOf CX0 P w K mg base N x (defScope st) f cdv A outer s H E).nox.A.guards = some [] → Room k (A.deeper (envOfC x (defScope st) s.heap.objs.size f cdv)) → sp vs H Q E →
      ∃ t, PSs (cxOf CX0 P w K mg base N x (defScope st) f cdv A outer s H E).nox (defBody st) t ∧ t { nx := fun _ H' => Q .non H', rt := Q } (start N vs) H) : OwnG P w K mg base x (k + 1) ps sp := by
  obtain ⟨f, fd, F, m⟩ := D.ex
  exact ⟨f, fd, lawG_of F S len (hbody f), m, F.kp, F.binds hb⟩
end
section
variable {X : Cx} {k : Nat} {ps : List Str} {sp : Sp} {x : Str} {p pos : Pos} {e : Expr} {es : List Expr} {t : TA}
theorem run_fnG {CX : CXT} {f : Addr} {fd : FuncData} {dvs : List V} {ds : List Value} {E : XK} {pins : List (Addr × Obj)} {σ : L2.St} {H : Hp} {s : Shared} {Q : VK} {us : List Value} {vs : List V} (F : FnG X.prog X.w X.K X.mg X.base CX k f fd ps sp) (hg : X.A.guards = some []) (hr : Room k X.A) (hb : Binds X.K fd ps ds) (hd : Vals dvs ds) (hx : Passes CX X E)
    (I : Inv X pins σ H s) (r : Vals vs us) (h : sp (vs ++ dvs) H Q E) : wpAny (model X.prog X.w) X.A (call (.ref f) us) (EP X pins σ Q) X.xe s := by
  have r2 : Vals (vs ++ dvs) (us ++ ds) := r.append hd
  have hl : (us ++ ds).length = ps.length := by rw [← r2.length]; exact F.len _ _ _ _ h
  refine wpAny_call (codeAny_mono (F.run X.A X.stack s H ⟨us, []⟩ (us ++ ds) (vs ++ dvs) Q E hg hr I.env0 (hb s us I.kIn hl) r2 h) fun r s' hq => ?_)
  cases r with
  | error e => exact hx pins σ H s e s' I hq
  | ok fl =>
    cases fl with
    | ret u => exact I.after hq
    | next => exact False.elim hq
    | brk => exact False.elim hq
    | cont => exact False.elim hq
theorem pe_ownG (O : OwnG X.prog X.w X.K X.mg X.base x k ps sp) (hgd : X.A.guards = some []) (hr : Room k X.A) (hg : Gl X x) (ha : PA X (e :: es) t) (hdb : (x == ("__debug__" : Str)) = false := by decide)
    (he : starEach (e :: es) X.env = (false, eval e X.env) :: starEach es X.env := by rfl) (hpl : (backTo pos (starEach es X.env)).any (·.1) = false := by rfl) : PE X (.Call (.Name x p) (e :: es) [] pos) (tCall sp [] E0 t) := by
  obtain ⟨f, fd, F, m, kp, b⟩ := O.ex
  refine ⟨fun pins s σ H Q I h => ?_⟩
  refine wpAny_Call_Name_kw (ld_glob I hg m ?_ hdb)
  refine PySem.W.callWith_K (h₀ := X.base) I.ok.mod.kin kp (thn (ha.run pos pins s σ H _ I h) fun us s1 ⟨vs, H1, I1, r, q⟩ => ⟨I1.kIn, ?_⟩) he hpl
  exact run_fnG F hgd hr b .nil pass0 I1 r q
end
/-! ### plainness -/
/-- the order of rows of ints -/
def ltL : List Int → List Int → Bool
  | [], [] => false
  | [], _ :: _ => true
  | _ :: _, [] => false
  | x :: a, y :: b => if x = y then ltL a b else decide (x < y)
theorem lex_bag : ∀ a b : List Int, PyProof.Rows.lexLt PyProof.Rows.itemOrd (PySem.W.keyToksAll (a.map PyData.int)) (PySem.W.keyToksAll (b.map PyData.int)) = ltL a b
  | [], [] => by
    rw [List.map_nil, PySem.W.keyToksAll]
    rfl
  | [], y :: b => by
    rw [List.map_nil, List.map_cons, PySem.W.toks_all_cons, PySem.W.keyToksAll, PyProof.Rows.lex_diff (O := PyProof.Rows.itemOrd) (by simp)]
    rfl
  | x :: a, [] => by
    rw [List.map_nil, List.map_cons, PySem.W.toks_all_cons, PySem.W.keyToksAll, PyProof.Rows.lex_diff (O := PyProof.Rows.itemOrd) (by simp)]
    rfl
  | x :: a, y :: b => by
    rw [List.map_cons, List.map_cons, PySem.W.toks_all_cons, PySem.W.toks_all_cons, PyProof.Rows.lex_self (O := PyProof.Rows.itemOrd), PySem.W.keyToks, PySem.W.keyToks, List.singleton_append, List.singleton_append, ltL]
    by_cases h : x = y
    · rw [if_pos h, h, PyProof.Rows.lex_self (O := PyProof.Rows.itemOrd)]
      exact lex_bag a b
    · rw [if_neg h, PyProof.Rows.lex_diff (O := PyProof.Rows.itemOrd) (fun z => h (Sum.inl.inj z))]
      rfl
/-- what bags are compared by -/
abbrev keyD (b : List Int) : PyData := .tuple [.int (b.getD (b.length - 1) 0), .int b.sum, bagD b]
end Lb
namespace Lb
open PySem PySem.Spec PyProof.Rows L2
def spDiffer : Sp := fun vs H Q _ => ∃ (R S : Rgn) (v u : V) (d : PyData), vs = [v, u] ∧ Dat R H v d ∧ Dat S H u d ∧ Ok 100000 60 d ∧ Q (.bl false) H
/-! the mathematics of plainness -/
end Lb
namespace Lb
open PySem PySem.Spec PyProof.Rows L2
theorem eqv_ints : ∀ x y : List Int, PyData.eqvAll (x.map PyData.int) (y.map PyData.int) = decide (x = y)
  | [], [] => by rw [List.map_nil, PyData.eqvAll]; rfl
  | [], b :: y => by rw [List.map_nil, List.map_cons, PyData.eqvAll]; rfl
  | a :: x, [] => by rw [List.map_nil, List.map_cons, PyData.eqvAll]; rfl
  | a :: x, b :: y => by
    rw [List.map_cons, List.map_cons, PyData.eqvAll, eqv_ints x y, PyData.eqv]
    by_cases h : a = b
    · rw [h]
      by_cases g : x = y
      · rw [g]
        simp
      · rw [decide_eq_false g, decide_eq_false (fun z => g (List.cons.inj z).2), Bool.and_false]
    · rw [decide_eq_false (fun z => h (List.cons.inj z).1), beq_eq_false_iff_ne.mpr h, Bool.false_and]
theorem shaped_bag (ns : List Int) : SeqAt.shaped (bagD ns) = true := by
  have h := shaped_ints ns
  first | exact h | (unfold SeqAt.shaped at *; simpa [PyData.canLay0, PyData.depth] using h)
theorem dp_bag {K : PySem.W.Frag} {H : Hp} {a : Addr} {x : List Int} (e : H a = some (.tup (x.map V.int))) : Dp K H (.ref a) (bagD x) := .tup (.inl (.inl e)) (dp_ints x)
theorem bool_ok (b : Bool) : Ok 20 0 (.bool b) := by
  cases b
  · exact ⟨by decide +kernel, by decide +kernel, by rw [PyData.depth]; exact Nat.le_refl _⟩
  · exact ⟨by decide +kernel, by decide +kernel, by rw [PyData.depth]; exact Nat.le_refl _⟩
end Lb
set_option Elab.async false
set_option linter.all false
set_option maxRecDepth 100000
set_option maxHeartbeats 4000000
namespace Lb
open PySem PySem.Spec PyProof.Rows L2 RZ
end Lb
set_option Elab.async false
set_option linter.all false
set_option maxRecDepth 100000
set_option maxHeartbeats 4000000
namespace Lb
open PySem PySem.Spec PyProof.Rows L2 RZ
/-! ### x, *ys = a list -/
/-! ### enumerate(xs, start=1) -/
section
variable {M : Model} {A : Around} {E : Value → Shared → Prop} {s : Shared} {env : Env}
end
end Lb
set_option Elab.async false
set_option linter.all false
set_option maxRecDepth 100000
set_option maxHeartbeats 4000000
namespace Lb
open PySem PySem.Spec PyProof.Rows L2 RZ TL
/-! ### texts of markets -/
/-! reading -/
/-! small numbers and their texts -/
/-! joined lists -/
end Lb
namespace Lb
open PySem PySem.Spec PyProof.Rows L2 RZ TL
end Lb
namespace Lb
open PySem PySem.Spec PyProof.Rows L2 RZ TL
end Lb
namespace Lb
open PySem PySem.Spec PyProof.Rows L2 RZ TL
theorem Dat.strI {R : Rgn} {H : Hp} {v : V} {s : Str} (h : Dat R H v (.str s)) : v = .str s := by
  cases h
  rfl
end Lb
namespace Lb
open PySem PySem.Spec PyProof.Rows L2 RZ TL
theorem passX0 {X : Cx} : Passes (L2.CX X.prog X.w) X L2.E0 := by
  intro pins σ H s e s' I h
  exfalso
  unfold L2.CX at h
  obtain ⟨_, _, _, h⟩ := h
  simp [L2.E0] at h
end Lb
namespace Lb
open PySem PySem.Spec PyProof.Rows L2 RZ TL
end Lb
set_option Elab.async false
set_option linter.all false
set_option maxRecDepth 100000
set_option maxHeartbeats 4000000
namespace Lb
open PySem PySem.Spec PyProof.Rows L2 RZ TL
/-! ### readings that the law does itself -/
/-! promises -/
end Lb
namespace Lb
open PySem PySem.Spec PyProof.Rows L2 RZ TL
/-! ### xs != [] -/
def rNeA : R2 := fun x y H Q => ∃ (a b : Addr) (xs : List V), x = .ref a ∧ y = .ref b ∧ H a = some (.lst xs) ∧ H b = some (.lst []) ∧ Q (.bl (!xs.isEmpty)) H
theorem op_neA {X : Cx} (hu : X.A.units < cLine) : OpR X (compareOp .NotEq) rNeA := by
  intro pins s σ H x y v u Q I rx ry h
  obtain ⟨a, b, xs, rfl, rfl, ea, eb, q⟩ := h
  cases rx
  cases ry
  obtain ⟨its, r, p, _⟩ := I.list (.inl (.inl ea))
  obtain ⟨its2, r2, p2, _⟩ := I.list (.inl (.inl eb))
  cases r2
  cases r with
  | nil =>
    have z := SeqAt.RcNeAt.lists (A := X.A) (s := s) (e := fun _ => true) p.isList p2.isList rfl hu (fun j h1 _ => absurd h1 (Nat.not_lt_zero j))
    exact z X.prog X.w X.xe (EP X pins σ Q) ⟨.bl false, H, I, rfl, q⟩
  | cons r1 rr =>
    have z := SeqAt.RcNeAt.lists_lengths (A := X.A) (s := s) p.isList p2.isList rfl hu
    exact z X.prog X.w X.xe (EP X pins σ Q) ⟨.bl true, H, I, rfl, q⟩
end Lb
set_option Elab.async false
set_option linter.all false
set_option maxRecDepth 100000
set_option maxHeartbeats 4000000
namespace Lb
open PySem PySem.Spec PyProof.Rows L2 RZ
/-! ### sorted(xs), xs plain data that is alike -/
end Lb
set_option Elab.async false
set_option linter.all false
set_option maxRecDepth 100000
set_option maxHeartbeats 4000000
namespace Lb
open PySem PySem.Spec PyProof.Rows L2 RZ
/-! ### zip over any number of tuples of one length -/
section
variable {prog : Program} {w : World} {A : Around} {E : Value → Shared → Prop}
end
/-! ### zip of four tuples -/
end Lb
set_option Elab.async false
set_option linter.all false
set_option maxRecDepth 100000
set_option maxHeartbeats 4000000
namespace Lb
open PySem PySem.Spec PyProof.Rows L2 RZ TL
/-! ### falling: the mathematics -/
end Lb
namespace Lb
open PySem PySem.Spec PyProof.Rows L2 RZ TL
end Lb
namespace Lb
open PySem PySem.Spec PyProof.Rows L2 RZ TL
end Lb
set_option Elab.async false
set_option linter.all false
set_option maxRecDepth 100000
set_option maxHeartbeats 4000000
namespace Lb
open PySem PySem.Spec PyProof.Rows L2 RZ TL
/-! ### amounts of any size: how long they are when shown -/
/-! ### a pair of a key and its bag -/
abbrev pairD (x : List Int) : PyData := .tuple [keyD x, bagD x]
/-! ### amounts on the way down -/
end Lb
namespace Lb
open PySem PySem.Spec PyProof.Rows L2 RZ TL
theorem Dat.dpB {K : PySem.W.Frag} {R : Rgn} {H : Hp} {v : V} {x : List Int} (h : Dat R H v (bagD x)) : Dp K H v (bagD x) := by
  obtain ⟨a, rfl, _, e⟩ := h.bag
  exact dp_bag e
theorem Dat.dpP {K : PySem.W.Frag} {R : Rgn} {H : Hp} {v : V} {x : List Int} (h : Dat R H v (pairD x)) : Dp K H v (pairD x) := by
  obtain ⟨a, u, w, rfl, ra, e, du, dw⟩ := h.pair
  obtain ⟨k, ks, rfl, rk, ek, tk⟩ := du.tupI
  refine .tup (.inl (.inl e)) (.cons (.tup (.inl (.inl ek)) ?_) (.cons dw.dpB .nil))
  cases tk with
  | cons h1 t1 =>
    cases t1 with
    | cons h2 t2 =>
      cases t2 with
      | cons h3 t3 =>
        cases t3
        obtain rfl := h1.intI
        obtain rfl := h2.intI
        exact .cons (.int _) (.cons (.int _) (.cons h3.dpB .nil))
end Lb
set_option Elab.async false
set_option linter.all false
set_option maxRecDepth 100000
set_option maxHeartbeats 4000000
namespace Lb
open PySem PySem.Spec PyProof.Rows L2 RZ
/-! ### markets with a note -/
/-! ### the promises -/
theorem Dat.trd {R : Rgn} {H : Hp} {v : V} {t : Trd} (h : Dat R H v (trdD t)) : ∃ a b c, v = .ref a ∧ R a ∧ H a = some (.tup [.ref b, .ref c]) ∧ R b ∧ H b = some (.tup (t.1.map V.int)) ∧ R c ∧ H c = some (.tup (t.2.map V.int)) := by
  cases h with
  | tup ra e t =>
    cases t with
    | cons h1 t =>
      cases t with
      | cons h2 t =>
        cases t
        obtain ⟨b, rfl, rb, eb⟩ := h1.bag
        obtain ⟨c, rfl, rc, ec⟩ := h2.bag
        exact ⟨_, _, _, rfl, ra, e, rb, eb, rc, ec⟩
theorem Dat.mkt {R : Rgn} {H : Hp} {v : V} {g : Nat} {ts : List Trd} (h : Dat R H v (mktD g ts)) : ∃ am tv ys, v = .ref am ∧ R am ∧ H am = some (.tup [.int (g : Int), .ref tv]) ∧ R tv ∧ H tv = some (.tup ys) ∧ Dats R H ys (ts.map trdD) := by
  cases h with
  | tup ra e t =>
    cases t with
    | cons h1 t =>
      cases h1
      cases t with
      | cons h2 t =>
        cases t
        cases h2 with
        | tup rb eb tb => exact ⟨_, _, _, rfl, ra, e, rb, eb, tb⟩
theorem Dat.mkTrd {R : Rgn} {H : Hp} {a b c : Addr} {x y : List Int} (ra : R a) (e : H a = some (.tup [.ref b, .ref c])) (rb : R b) (eb : H b = some (.tup (x.map V.int))) (rc : R c) (ec : H c = some (.tup (y.map V.int))) : Dat R H (.ref a) (trdD (x, y)) :=
  .tup ra e (.cons (Dat.mkBag rb eb) (.cons (Dat.mkBag rc ec) .nil))
end Lb
namespace Lb
open PySem PySem.Spec PyProof.Rows L2 RZ
theorem Dats.zipMem {R : Rgn} {H : Hp} : ∀ {vs : List V} {ds : List PyData}, Dats R H vs ds → ∀ z ∈ vs.zip ds, Dat R H z.1 z.2 ∧ z.2 ∈ ds
  | _, _, .nil => fun z hz => absurd hz List.not_mem_nil
  | _, _, .cons h t => fun z hz => by
    rw [List.zip_cons_cons] at hz
    rcases List.mem_cons.mp hz with rfl | hz
    · exact ⟨h, List.mem_cons_self⟩
    · exact ⟨(Dats.zipMem t z hz).1, List.mem_cons_of_mem _ (Dats.zipMem t z hz).2⟩
end Lb
set_option Elab.async false
set_option linter.all false
set_option maxRecDepth 100000
set_option maxHeartbeats 4000000
namespace Lb
open PySem PySem.Spec PyProof.Rows L2 RZ
/-! ### an error class without fields, raised without arguments -/
/-! ### operators of an own class -/
section
variable {X : Cx} {CX : CXT} {C g : Addr} {n : Nat} {sp : Sp} {E : XK}
end
end Lb
set_option Elab.async false
set_option linter.all false
set_option maxRecDepth 100000
set_option maxHeartbeats 4000000
namespace Lb
open PySem PySem.Spec PyProof.Rows L2 RZ PySem.SeqAt
/-! ### sorted(xs), xs tuples that are alike, the first of them empty -/
section
variable {prog : Program} {w : World} {A : Around} {E : Value → Shared → Prop} {s : Shared}
end
end Lb
namespace Lb
open PySem PySem.Spec PyProof.Rows L2 RZ
end Lb
set_option Elab.async false
set_option linter.all false
set_option maxRecDepth 100000
set_option maxHeartbeats 4000000
namespace Lb
open PySem PySem.Spec PyProof.Rows L2 RZ
/-! ### enumerate(zip(t, u)), t and u tuples -/
section
variable {prog : Program} {w : World} {A : Around} {E : Value → Shared → Prop} {s : Shared} {z TI TO i1 i2 a b : Addr} {i : Nat}
end
end Lb
set_option Elab.async false
set_option linter.all false
set_option maxRecDepth 100000
set_option maxHeartbeats 4000000
namespace Lb
open PySem PySem.Spec PyProof.Rows L2 RZ TL
section
variable {P : Program} {w : World} {K : PySem.W.Frag} {mg : Str → Option Value} {base : Heap}
theorem FnOk.imp2 {CX : CXT} {k : Nat} {f : Addr} {fd : FuncData} {ps : List Str} {sp sp' : Sp} (F : FnOk P w K mg base CX k f fd ps sp) (h : ∀ vs H Q E, sp' vs H Q E → sp vs H Q E) : FnOk P w K mg base CX k f fd ps sp' :=
  ⟨fun vs H Q E q => F.len vs H Q E (h _ _ _ _ q), fun A outer s H args us vs Q E hr e0 hb r q => F.run A outer s H args us vs Q E hr e0 hb r (h _ _ _ _ q)⟩
theorem Own.imp {x : Str} {k : Nat} {ps : List Str} {sp sp' : Sp} (O : Own P w K mg base x k ps sp) (h : ∀ vs H Q E, sp' vs H Q E → sp vs H Q E) : Own P w K mg base x k ps sp' := by
  obtain ⟨f, fd, F, r⟩ := O.ex
  exact ⟨f, fd, FnOk.imp2 F h, r⟩
/-! ### methods of an own class -/
structure OwnM (P : Program) (w : World) (K : PySem.W.Frag) (mg : Str → Option Value) (base : Heap) (C : Addr) (m : Str) (k : Nat) (ps : List Str) (sp : Sp) : Prop where
  ex : ∃ (f : Addr) (fd : FuncData), Meth K C m f ∧ FnOk P w K mg base (L2.CX P w) k f fd ps sp ∧ Binds K fd ps []
/-- a method's def, as the text has it -/
structure DfM (K : PySem.W.Frag) (C : Addr) (m qual : Str) (st : Stmt) : Prop where
  ex : ∃ (f : Addr) (fd : FuncData), Fun K m qual st f fd ∧ Meth K C m f
theorem ownM_of {C : Addr} {m qual : Str} {st : Stmt} {N ps : List Str} {k : Nat} {sp : Sp} (D : DfM K C m qual st) (S : FnScope N ps (defScope st))
    (hb : ∀ (kV doc pm : Value) (an : Option Addr) (cdv ct : Value) (us : List Value), us.length = ps.length → bindArgs (PySem.W.fnOf m qual (defArgs st) (defBody st) (defScope st) .none kV doc pm an cdv ct) ⟨us, []⟩ = pure (ps.zip us))
    (len : ∀ vs H Q E, sp vs H Q E → vs.length = ps.length)
    (hbody : ∀ (f : Addr) (cdv : Value) (A : Around) (outer : List Env) (s : Shared) (H : Hp) (vs : List V) (Q : VK) (E : XK), Room k (A.deeper (envOfC qual (defScope st) s.heap.objs.size f cdv)) → sp vs H Q E →
      ∃ t, PSs (cxOf (L2.CX P w) P w K mg base N qual (defScope st) f cdv A outer s H E) (defBody st) t ∧ t { nx := fun _ H' => Q .non H', rt := Q } (start N vs) H) : OwnM P w K mg base C m (k + 1) ps sp := by
  obtain ⟨f, fd, F, M⟩ := D.ex
  exact ⟨f, fd, M, F.okX S len (hbody f), F.binds hb⟩
theorem dfM_mk {C : Addr} {m qual : Str} {st : Stmt} {f : Addr} {oc : Value} {od an : Option Addr} {osl : Array (Option Value)} {kV doc pm cdv ct : Value} (a : PySem.W.findIn K (.ref C) m = some (some (.ref f))) (j : PySem.W.typeIn K (.ref f) = some (.type "function"))
    (l : K.lookup f = some ⟨oc, od, .func (PySem.W.fnOf m qual (defArgs st) (defBody st) (defScope st) .none kV doc pm an cdv ct), osl⟩) (c : PySem.W.codeIn K cdv qual = true) (k : PySem.W.keepIn K (.ref f) = true) : DfM K C m qual st :=
  ⟨f, _, fun_mk l c k, ⟨a, by unfold PySem.W.isFn; rw [j]; exact beq_self_eq_true _, k⟩⟩
end
section
variable {X : Cx} {C : Addr} {m : Str} {k : Nat} {ps : List Str} {sp : Sp} {E : XK}
theorem OwnM.fnR (O : OwnM X.prog X.w X.K X.mg X.base C m k ps sp) : ∃ g, Meth X.K C m g ∧ FnR X.prog X.w X.K X.mg X.base (L2.CX X.prog X.w) k g sp := by
  obtain ⟨f, fd, M, F, b⟩ := O.ex
  exact ⟨f, M, (FnOk.raw F b .nil).imp fun vs H Q E h => by rw [List.append_nil]; exact h⟩
theorem pe_methX {o e : Expr} {es : List Expr} {ta : TE} {t : TA} {apos pos : Pos} {pl : Sem Bool} (he : PE X o ta) (c : Cls X.K C) (O : OwnM X.prog X.w X.K X.mg X.base C m k ps sp) (hr : Room k X.A) (hx : Passes (L2.CX X.prog X.w) X E) (ha : PA X (e :: es) t)
    (h1 : starEach (e :: es) X.env = (false, eval e X.env) :: starEach es X.env := by rfl) (h2 : (backTo pos (starEach es X.env)).any (·.1) = false := by rfl)
    (h3 : eval (.Call (.Attribute o m apos) (e :: es) [] pos) X.env = (do
      let ov ← eval o X.env
      standAt apos.atName
      let (f, first) ← holding [ov] (getMethod ov m pl)
      callWith pos f first (backTo pos (starEach (e :: es) X.env)) (backToKw pos (keywordEach [] X.env))) := by rfl) : PE X (.Call (.Attribute o m apos) (e :: es) [] pos) (tMeth C m sp [] E ta t) := by
  obtain ⟨f, fd, M, F, b⟩ := O.ex
  exact pe_meth he c M F hr b .nil hx ha h1 h2 h3
end
/-! ### types stay -/
theorem TyX.same {K : PySem.W.Frag} {H H' : Hp} {v : V} {t : Value} (h : TyX K H v t) (s : Same H H') : TyX K H' v t := by
  cases h with
  | base b =>
    refine .base ?_
    cases b with
    | non => exact .non
    | bl x => exact .bl x
    | int i => exact .int i
    | str x => exact .str x
    | flt x => exact .flt x
    | lst e => exact .lst (s _ _ e)
    | frz e => exact .frz (s _ _ e)
    | tup e => exact .tup (s _ _ e)
    | dK e => exact .dK (s _ _ e)
    | dT e => exact .dT (s _ _ e)
    | ins e cl ha hn htk hm => exact .ins (s _ _ e) cl ha hn htk hm
  | byt b => exact .byt b
  | set e => exact .set (s _ _ e)
  | kList e c => exact .kList e c
  | kTuple e c => exact .kTuple e c
  | kDict e c => exact .kDict e c
  | fTuple e => exact .fTuple (s _ _ e)
  | fDict e => exact .fDict (s _ _ e)
/-! ### tuple([f(u, v) for u, v in zip(x, y)]) -/
/-! ### Bags -/
def mkB : PyData → Bool
  | .tuple ds => decide (1 ≤ ds.length) && decide (ds.length ≤ 4) && ds.all nn
  | _ => false
/-- a Bag at a with its tuple at t -/
structure Bg (C : Addr) (H : Hp) (a t : Addr) (b : List Int) : Prop where
  ins : ∃ dx, H a = some (.ins C dx [("held", .ref t)])
  tup : H t = some (.tup (b.map V.int))
theorem Bg.same {C : Addr} {H H' : Hp} {a t : Addr} {b : List Int} (h : Bg C H a t b) (s : Same H H') : Bg C H' a t b := ⟨let ⟨dx, e⟩ := h.ins; ⟨dx, s _ _ e⟩, s _ _ h.tup⟩
structure BgOk (b : List Int) : Prop where
  one : 1 ≤ b.length
  four : b.length ≤ 4
  nn : ∀ x ∈ b, 0 ≤ x
/-- a value that is not of the class -/
def NotC (K : PySem.W.Frag) (C : Addr) (H : Hp) (v : V) : Prop := ∃ ty, TyX K H v ty ∧ PySem.W.kitOne K ty (.ref C) = some false
theorem NotC.same {K : PySem.W.Frag} {C : Addr} {H H' : Hp} {v : V} (h : NotC K C H v) (s : Same H H') : NotC K C H' v := let ⟨t, a, b⟩ := h; ⟨t, Lb.TyX.same a s, b⟩
end Lb
set_option Elab.async false
set_option linter.all false
set_option maxRecDepth 100000
set_option maxHeartbeats 4000000
namespace Lb
open PySem PySem.Spec PyProof.Rows L2 RZ TL
def lackN : List Int → List Int → Nat → Option Nat
  | x :: xs, y :: ys, k => if x < y then some k else lackN xs ys (k + 1)
  | _, _, _ => none
abbrev maxI (a b : Int) : Int := if b > a then b else a
end Lb
namespace Lb
open PySem PySem.Spec PyProof.Rows L2 RZ TL
/-! ### draws below great numbers -/
end Lb
set_option Elab.async false
set_option linter.all false
set_option maxRecDepth 100000
set_option maxHeartbeats 4000000
namespace Lb
open PySem PySem.Spec PyProof.Rows L2 RZ TL
def AmtsW (b : List Int) : Prop := ∀ x ∈ b, 0 ≤ x ∧ x < 10 ^ 30
/-! ### what is lacking, what is left -/
/-! ### (x - y).amounts, or what is lacking -/
end Lb
set_option Elab.async false
set_option linter.all false
set_option maxRecDepth 100000
set_option maxHeartbeats 4000000
namespace Lb
open PySem PySem.Spec PyProof.Rows L2 RZ TL
theorem kp_obj {H H' : Hp} {d c r p : Addr} {n : Nat} {o : HO} (k : Kp d r H H') (dk : Dk H d c r n) (e : H p = some o) (ne : ∀ xs, o ≠ .lst xs) : H' p = some o := by
  obtain ⟨_, _, _, _, _, _, _, _, _, _, w1, _, w3⟩ := dk
  refine k p o (fun z => ?_) (fun z => ?_) e
  · rw [z, w1] at e
    exact ne _ (Option.some.inj e).symm
  · rw [z, w3] at e
    exact ne _ (Option.some.inj e).symm
theorem Bg.kp {C : Addr} {H H' : Hp} {d c r : Addr} {n : Nat} {a t : Addr} {b : List Int} (h : Bg C H a t b) (k : Kp d r H H') (dk : Dk H d c r n) : Bg C H' a t b :=
  ⟨let ⟨dx, e⟩ := h.ins; ⟨dx, kp_obj k dk e fun _ z => nomatch z⟩, kp_obj k dk h.tup fun _ z => nomatch z⟩
section
variable {K : PySem.W.Frag} {C CB CL CT : Addr} {H : Hp} {a t b s : Addr} {x z : List Int} {Q : VK} {E : XK}
end
/-! ### the list of what is lacking -/
end Lb
set_option Elab.async false
set_option linter.all false
set_option maxRecDepth 100000
set_option maxHeartbeats 4000000
namespace Lb
open PySem PySem.Spec PyProof.Rows L2 RZ TL
/-! ### values of the plain built-in types -/
def Std : List String := ["tuple", "NoneType", "int", "bool", "str", "list", "dict"]
/-- a value whose type is one of these -/
def TyS (K : PySem.W.Frag) (H : Hp) (y : V) : Prop := ∃ T, T ∈ Std ∧ TyX K H y (.type T)
theorem TyS.same {K : PySem.W.Frag} {H H' : Hp} {v : V} (h : TyS K H v) (s : Same H H') : TyS K H' v := let ⟨t, a, b⟩ := h; ⟨t, a, Lb.TyX.same b s⟩
/-- none of them is of the class at C -/
def StdC (K : PySem.W.Frag) (C : Addr) : Prop := ∀ T ∈ Std, PySem.W.kitOne K (.type T) (.ref C) = some false
theorem TyS.notC {K : PySem.W.Frag} {C : Addr} {H : Hp} {y : V} (h : TyS K H y) (c : StdC K C) : NotC K C H y := by
  obtain ⟨T, hT, ty⟩ := h
  exact ⟨_, ty, c T hT⟩
theorem Dat.tyS {K : PySem.W.Frag} {R : Rgn} {H : Hp} {v : V} {d : PyData} (h : Dat R H v d) : TyS K H v := by
  refine ⟨_, ?_, dat_ty h⟩
  cases d <;> simp [tyOf, Std]
/-! ### x op y, y of such a type -/
section
open PySem.W
variable {prog : Program} {w : World} {A : Around} {E : Value → Shared → Prop} {s : Shared} {K : Frag} {x C L f : Addr} {h₀ : Heap} {m : Str → Option Value} {ox : Obj} {od : Option Obj} {T : String}
end
section
variable {X : Cx} {C : Addr} {m : Str} {k : Nat} {ps : List Str} {sp : Sp} {E : XK}
/-! ### len(x), bool(x), str(x), x[i] -/
end
end Lb
set_option Elab.async false
set_option linter.all false
set_option maxRecDepth 100000
set_option maxHeartbeats 4000000
namespace Lb
open PySem PySem.Spec PyProof.Rows L2 RZ TL
theorem Bg.extN {C : Addr} {H H' : Hp} {a t : Addr} {b : List Int} (h : Bg C H a t b) (k : LamX.ExtN H H') : Bg C H' a t b := ⟨let ⟨dx, e⟩ := h.ins; ⟨dx, k _ _ e fun _ z => nomatch z⟩, k _ _ h.tup fun _ z => nomatch z⟩
end Lb
set_option Elab.async false
set_option linter.all false
set_option maxRecDepth 100000
set_option maxHeartbeats 4000000
namespace Lb
open PySem PySem.Spec PyProof.Rows L2 RZ TL
end Lb
namespace Lb
open PySem PySem.Spec PyProof.Rows L2 RZ TL
end Lb
set_option Elab.async false
set_option linter.all false
set_option maxRecDepth 100000
set_option maxHeartbeats 4000000
namespace Lb
open PySem PySem.Spec PyProof.Rows L2 RZ TL
/-! ### iter(t), t a tuple -/
/-! ### list(x) by such an __iter__ -/
section
variable {X : Cx} {pins : List (Addr × Obj)} {σ : L2.St} {H : Hp}
end
end Lb
set_option Elab.async false
set_option linter.all false
set_option maxRecDepth 100000
set_option maxHeartbeats 4000000
namespace Lb
open PySem PySem.Spec PyProof.Rows L2 RZ TL
section
variable {X : Cx} {C : Addr} {k : Nat} {ps : List Str} {sp : Sp} {E : XK}
/-! ### bool(x) -/
/-! ### x[i] -/
theorem DfM.fnIn {K : PySem.W.Frag} {m qual : Str} {st : Stmt} (D : DfM K C m qual st) : ∀ g, PySem.W.findIn K (.ref C) m = some (some (.ref g)) → PySem.W.fnIn K g = true := by
  intro g hg
  obtain ⟨f, fd, F, M⟩ := D.ex
  have e := M.at_
  rw [hg] at e
  cases e
  obtain ⟨oc, od, kV, doc, pm, an, cdv, ct, osl, rfl, lk, hcd⟩ := F.ex
  unfold PySem.W.fnIn
  rw [lk]
/-! ### x != y -/
end
end Lb
namespace Lb
open PySem PySem.Spec PyProof.Rows L2 RZ TL
end Lb
namespace Lb
open PySem PySem.Spec PyProof.Rows L2 RZ TL
section
variable {X : Cx} {C : Addr} {k : Nat} {dv : V} {sp : Sp} {E : XK} {m : Str} {o e : Expr} {es : List Expr} {pos apos : Pos} {ta : TE} {t : TA} {pl : Sem Bool}
end
end Lb
namespace Lb
open PySem PySem.Spec PyProof.Rows L2 RZ TL
end Lb
namespace Lb
open PySem PySem.Spec PyProof.Rows L2 RZ TL
end Lb
set_option Elab.async false
set_option linter.all false
set_option maxRecDepth 100000
set_option maxHeartbeats 4000000
namespace Lb
open PySem PySem.Spec PyProof.Rows L2 RZ TL
end Lb
namespace Lb
open PySem PySem.Spec PyProof.Rows L2 RZ TL
end Lb
namespace Lb
open PySem PySem.Spec PyProof.Rows L2 RZ TL
end Lb
set_option Elab.async false
set_option linter.all false
set_option maxRecDepth 100000
set_option maxHeartbeats 4000000
namespace Lb
open PySem PySem.Spec PyProof.Rows L2 RZ TL
/-! ### desks: what is wrong with a market at a desk -/
end Lb
namespace Lb
open PySem PySem.Spec PyProof.Rows L2 RZ TL
/-- check_room(bag): the first good of which there is too much -/
def muchN (x : List Int) : Option Nat := lackN (List.replicate x.length 6) x 0
end Lb
namespace Lb
open PySem PySem.Spec PyProof.Rows L2 RZ TL
end Lb
namespace Lb
open PySem PySem.Spec PyProof.Rows L2 RZ TL
/-- the fields of a desk -/
def dskF (mv sv ow : V) (pl : Addr) : List (Str × V) := [("place", mv), ("present", sv), ("owed", ow), ("past", .ref pl)]
end Lb
set_option Elab.async false
set_option linter.all false
set_option maxRecDepth 100000
set_option maxHeartbeats 4000000
namespace Lb
open PySem PySem.Spec PyProof.Rows L2 RZ TL
/-! ### C.f(..), f a plain def of the class -/
section
variable {X : Cx} {C : Addr} {k : Nat} {sp : Sp} {E : XK} {m : Str} {o e : Expr} {es : List Expr} {pos apos : Pos} {ta : TE} {t : TA} {pl : Sem Bool}
end
end Lb
namespace Lb
open PySem PySem.Spec PyProof.Rows L2 RZ TL
end Lb
namespace Lb
open PySem PySem.Spec PyProof.Rows L2 RZ TL
end Lb
set_option Elab.async false
set_option linter.all false
set_option maxRecDepth 100000
set_option maxHeartbeats 4000000
namespace Lb
open PySem PySem.Spec PyProof.Rows L2 RZ TL
end Lb
set_option Elab.async false
set_option linter.all false
set_option maxRecDepth 100000
set_option maxHeartbeats 4000000
namespace Lb
open PySem PySem.Spec PyProof.Rows L2 RZ TL
mutual
/-- plain data without dicts, as == reads it -/
theorem Dat.dp {K : PySem.W.Frag} {R : Rgn} {H : Hp} : ∀ {v : V} {d : PyData}, Dat R H v d → d.hasDict = false → Dp K H v d
  | _, _, .non, _ => .non
  | _, _, .bl b, _ => .bl b
  | _, _, .int i, _ => .int i
  | _, _, .str x, _ => .str x
  | _, _, .tup (ds := ds) ra e h, hd => .tup (.inl (.inl e)) (Dats.dp h (by rw [PyData.hasDict] at hd; exact hd))
  | _, _, .lst (ds := ds) ra e h, hd => .lst (SqL.of e) (Dats.dp h (by rw [PyData.hasDict] at hd; exact hd))
  | _, _, .emp ra e, hd => by rw [PyData.hasDict] at hd; cases hd
theorem Dats.dp {K : PySem.W.Frag} {R : Rgn} {H : Hp} : ∀ {vs : List V} {ds : List PyData}, Dats R H vs ds → PyData.hasDictAll ds = false → DpAll K H vs ds
  | _, _, .nil, _ => .nil
  | _, _, .cons h t, hd => by
    rw [PyData.hasDictAll, Bool.or_eq_false_iff] at hd
    exact .cons (Dat.dp h hd.1) (Dats.dp t hd.2)
end
end Lb
set_option Elab.async false
set_option linter.all false
set_option maxRecDepth 100000
set_option maxHeartbeats 4000000
namespace Lb
open PySem PySem.Spec PyProof.Rows L2 RZ TL
/-! ### try with any number of clauses, with and without names -/
/-- an exception that has come down in the frame of X; behind it stands a state without it -/
structure Down (X : Cx) (pins : List (Addr × Obj)) (σ : L2.St) (H : Hp) (cls : Value) (d : Option Addr) (a : Addr) (s : Shared) : Prop where
  st : X.stack = X.env :: X.outer
  fr : X.env.frame = some X.env.locals
  ex : ∃ (G : Heap) (t : Shared), Inv X pins σ H t ∧ (∀ p ob, t.heap.get? p = some ob → p ∉ frs X.stack → G.get? p = some ob) ∧ t.heap.UpToSlots s.heap ∧
    HandSPX.FlyingZ G (X.env :: X.outer) a (Zc cls d) s.heap ∧ s.os = t.os ∧ AllBare s.gens
  no : H a = none
section
variable {X : Cx} {pins : List (Addr × Obj)} {σ : L2.St} {H : Hp} {cls : Value} {d : Option Addr} {a : Addr} {s : Shared}
theorem Down.inv (h : Down X pins σ H cls d a s) : Inv X pins σ H s := by
  obtain ⟨G, t, It, hG, hu, hfl, ho, hg⟩ := h.ex
  exact It.landed hG hfl.1 hu ho hg
/-- the suite of a clause can begin -/
theorem Down.begin (h : Down X pins σ H cls d a s) : ∃ ob, s.heap.get? a = some ob ∧ Zc cls d ob ∧ (∃ vs, ob.data = .fields vs) ∧ Inv (X.suite a ((a, ob) :: (X.pn ++ pins))) [] σ H s := by
  obtain ⟨G, t, It, hG, hu, hfl, ho, hg⟩ := h.ex
  obtain ⟨ob, vs, e, hz, hd⟩ := hfl.there
  have out : a ∉ frs (X.env :: X.outer) := by
    intro hm
    obtain ⟨_, ob', e', hnot⟩ := (hfl.2.2.1).mem hm
    rw [e] at e'
    cases e'
    exact hnot _ hd
  refine ⟨ob, e, hz, ⟨vs, hd⟩, h.inv.suite e hd h.no (fun z => out ?_) (fun hm => out ?_)⟩
  · exact List.mem_filterMap.mpr ⟨X.env, .head _, by rw [h.fr, z]⟩
  · obtain ⟨v, hv, q⟩ := List.mem_filterMap.mp hm
    exact List.mem_filterMap.mpr ⟨v, .tail _ hv, q⟩
theorem Down.again (h : Down X pins σ H cls d a s) {M : Model} {A : Around} {E : Value → Shared → Prop} {Q : Unit → Shared → Prop} (q : ∀ s', Down X pins σ H cls d a s' → Q () s') : wpAny M A (setFlight (.ref a) none) Q E s := by
  obtain ⟨G, t, It, hG, hu, hfl, ho, hg⟩ := h.ex
  exact HandSPX.lands_againZ hfl fun g gf gu => q _ ⟨h.st, h.fr, ⟨G, t, It, hG, hu.trans gu, gf, ho, hg⟩, h.no⟩
end
section
variable {X : Cx} {x n : Str} {c : Value} {i : Nat} {ss : List Stmt} {b : Stmt} {np pos : Pos} {hds : List ExceptHandler} {t : Addr → Value → Option Addr → TS} {w : Ends → WX} {W0 : WX}
/-- the clause's class is read and asked -/
theorem asks {pins : List (Addr × Obj)} {σ : L2.St} {H : Hp} {cls : Value} {d : Option Addr} {a : Addr} {s : Shared} {r : Bool} {Q : Value → Shared → Prop} {E : Value → Shared → Prop} (h : Down X pins σ H cls d a s) (nm : Names X x c) (q : Q c s) :
    wpAny (model X.prog X.w) (X.A.mark (some (.ref a))) (eval (.Name x np) X.env) Q E s := by
  obtain ⟨ob, _, _, _, S⟩ := h.begin
  obtain ⟨gx, nd, mx | ⟨mx, bx, nx⟩⟩ := nm
  · exact ld_glob (X := X.suite a ((a, ob) :: (X.pn ++ pins))) S gx mx q nd
  · exact ld_blt (X := X.suite a ((a, ob) :: (X.pn ++ pins))) S gx mx bx q nx nd
end
section
variable {X : Cx} {body : List Stmt} {h1 : ExceptHandler} {hds : List ExceptHandler} {pos : Pos} {tb : WX → TS} {w : Ends → WX}
end
end Lb
set_option Elab.async false
set_option linter.all false
set_option maxRecDepth 100000
set_option maxHeartbeats 4000000
namespace Lb
open PySem PySem.Spec PyProof.Rows L2 RZ TL
end Lb
set_option Elab.async false
set_option linter.all false
set_option maxRecDepth 100000
set_option maxHeartbeats 4000000
namespace Lb
open PySem PySem.Spec PyProof.Rows L2 RZ TL
/-! ### {x} of an own class -/
section
variable {X : Cx} {C : Addr} {k : Nat} {ps : List Str} {sp : Sp} {E : XK}
end
/-! ### x == y of two classes, x != y where the right one is of a subclass -/
section
variable {X : Cx} {C C2 : Addr} {k : Nat} {ps : List Str} {sp : Sp} {E : XK}
end
/-! ### the texts of desks -/
end Lb
namespace Lb
open PySem PySem.Spec PyProof.Rows L2 RZ TL
end Lb
set_option Elab.async false
set_option linter.all false
set_option maxRecDepth 100000
set_option maxHeartbeats 4000000
namespace Lb
open PySem PySem.Spec PyProof.Rows L2 RZ TL
/-! ### what the making of a desk must tell -/
/-- the goods of which there is too much -/
def great : List Int → Nat → List Nat
  | [], _ => []
  | a :: x, i => if 6 < a then i :: great x (i + 1) else great x (i + 1)
end Lb
set_option Elab.async false
set_option linter.all false
set_option maxRecDepth 100000
set_option maxHeartbeats 4000000
namespace Lb
open PySem PySem.Spec PyProof.Rows L2 RZ TL
/-! ### what the making of a desk tells -/
/-- the list that is told: what is due, or ok and a desk -/
def FoundL (C CX : Addr) (R : Rgn) (H : Hp) (due : PyData) (mv sv : V) (row : Option (List Int)) (more : List (Str × V)) (l : List V) : Prop :=
  (∃ (w : Str) (ds : List PyData) (r : List V), l = .str w :: r ∧ w ≠ "ok" ∧ due = .list (.str w :: ds) ∧ Dats R H r ds ∧ r.length ≤ 1) ∨
    (due = .list [.str "ok"] ∧ ∃ (z : List Int) (x dx ow to pl : Addr), row = some z ∧ l = [.str "ok", .ref x] ∧ H x = some (.ins CX dx (dskF mv sv (.ref ow) pl ++ more)) ∧ Bg C H ow to (List.replicate z.length 0) ∧ H pl = some (.lst []))
section
variable {K : PySem.W.Frag} {C CB CM CT CV CX x dx : Addr} {R : Rgn} {H : Hp} {Q : VK} {mv sv : V} {d : PyData} {row : Option (List Int)}
end
theorem FoundL.same {C CX : Addr} {R : Rgn} {H H' : Hp} {due : PyData} {mv sv : V} {row : Option (List Int)} {more : List (Str × V)} {l : List V} (h : FoundL C CX R H due mv sv row more l) (s : Same H H') : FoundL C CX R H' due mv sv row more l := by
  rcases h with ⟨w, ds, r, h1, h2, h3, h4, h5⟩ | ⟨h1, z, x, dx, ow, to, pl, h2, h3, h4, h5, h6⟩
  · exact .inl ⟨w, ds, r, h1, h2, h3, h4.same s, h5⟩
  · exact .inr ⟨h1, z, x, dx, ow, to, pl, h2, h3, s _ _ h4, h5.same s, s _ _ h6⟩
/-- found[:1] + found[1:] * int(found[0] != 'ok') -/
theorem FoundL.cut {C CX : Addr} {R : Rgn} {H : Hp} {due : PyData} {mv sv : V} {row : Option (List Int)} {more : List (Str × V)} {l : List V} (h : FoundL C CX R H due mv sv row more l) :
    ∃ (w : Str) (r : List V) (ds : List PyData), l = .str w :: r ∧ r.length ≤ 1 ∧ due = .list ds ∧ Dats R H ([V.str w] ++ (List.replicate (if (!decide (V.str w = V.str "ok")) = true then (1 : Int) else 0).toNat r).flatten) ds := by
  rcases h with ⟨w, ds, r, h1, h2, h3, h4, h5⟩ | ⟨h1, z, x, dx, ow, to, pl, h2, h3, h4, h5, h6⟩
  · refine ⟨w, r, _, h1, h5, h3, ?_⟩
    rw [decide_eq_false (fun z => h2 (V.str.inj z))]
    have e : (List.replicate (if (!false) = true then (1 : Int) else 0).toNat r).flatten = r := by
      show (List.replicate 1 r).flatten = r
      simp
    rw [e]
    exact .cons (.str _) h4
  · refine ⟨"ok", [.ref x], _, h3, Nat.le_refl _, h1, ?_⟩
    rw [decide_eq_true rfl]
    exact .cons (.str _) .nil
end Lb
set_option Elab.async false
set_option linter.all false
set_option maxRecDepth 100000
set_option maxHeartbeats 4000000
namespace Lb
open PySem PySem.Spec PyProof.Rows L2 RZ TL
mutual
theorem lay_nd : ∀ {d : PyData}, d.canLay0 = true → d.hasDict = false
  | .none, _ => by rw [PyData.hasDict]
  | .bool _, _ => by rw [PyData.hasDict]
  | .int _, _ => by rw [PyData.hasDict]
  | .str _, _ => by rw [PyData.hasDict]
  | .list xs, h => by
    rw [PyData.canLay0] at h
    rw [PyData.hasDict]
    exact lay_nds h
  | .tuple xs, h => by
    rw [PyData.canLay0] at h
    rw [PyData.hasDict]
    exact lay_nds h
  | .dict _, h => by
    rw [PyData.canLay0] at h
    cases h
theorem lay_nds : ∀ {ds : List PyData}, PyData.canLayAll0 ds = true → PyData.hasDictAll ds = false
  | [], _ => by rw [PyData.hasDictAll]
  | d :: ds, h => by
    rw [PyData.canLayAll0, Bool.and_eq_true] at h
    rw [PyData.hasDictAll, lay_nd h.1, lay_nds h.2]
    rfl
end
theorem lay_all : ∀ {ds : List PyData}, (∀ d ∈ ds, d.canLay0 = true) → PyData.canLayAll0 ds = true
  | [], _ => by rw [PyData.canLayAll0]
  | d :: ds, h => by
    rw [PyData.canLayAll0, h d List.mem_cons_self, lay_all fun x hx => h x (List.mem_cons_of_mem _ hx)]
    rfl
theorem lay_tup {ds : List PyData} (h : ∀ d ∈ ds, d.canLay0 = true) : (PyData.tuple ds).canLay0 = true := by
  rw [PyData.canLay0]
  exact lay_all h
theorem lay_int (n : Int) : (PyData.int n).canLay0 = true := by rw [PyData.canLay0]
theorem shaped_of {d : PyData} {S k : Nat} (h : d.canLay0 = true) (ok : Ok S k d) (hk : k ≤ 64) : SeqAt.shaped d = true := by
  unfold SeqAt.shaped
  rw [h, decide_eq_true (Nat.le_trans ok.dp hk)]
  rfl
theorem FoundL.extN {C CX : Addr} {R : Rgn} {H H' : Hp} {due : PyData} {mv sv : V} {row : Option (List Int)} {more : List (Str × V)} {l : List V} (h : FoundL C CX R H due mv sv row more l) (k : LamX.ExtN H H') : FoundL C CX R H' due mv sv row more l := by
  rcases h with ⟨w, ds, r, h1, h2, h3, h4, h5⟩ | ⟨h1, z, x, dx, ow, to, pl, h2, h3, h4, h5, h6⟩
  · exact .inl ⟨w, ds, r, h1, h2, h3, Dats.extN k h4, h5⟩
  · exact .inr ⟨h1, z, x, dx, ow, to, pl, h2, h3, k _ _ h4 (fun _ z => nomatch z), h5.extN k, k _ _ h6 (fun _ z => nomatch z)⟩
/-- is it ok -/
theorem FoundL.eqv {C CX : Addr} {R : Rgn} {H : Hp} {due : PyData} {mv sv : V} {row : Option (List Int)} {more : List (Str × V)} {l : List V} (h : FoundL C CX R H due mv sv row more l) :
    (PyData.eqv due (.list [.str "ok"]) = false) ∨ (PyData.eqv due (.list [.str "ok"]) = true ∧ due = .list [.str "ok"] ∧ ∃ (z : List Int) (x dx ow to pl : Addr), row = some z ∧ l = [.str "ok", .ref x] ∧ H x = some (.ins CX dx (dskF mv sv (.ref ow) pl ++ more)) ∧ Bg C H ow to (List.replicate z.length 0) ∧ H pl = some (.lst [])) := by
  rcases h with ⟨w, ds, r, h1, h2, h3, h4, h5⟩ | ⟨h1, h2⟩
  · refine .inl ?_
    rw [h3, PyData.eqv, PyData.eqvAll, PyData.eqv]
    have : (w == ("ok" : Str)) = false := by simpa using h2
    rw [this, Bool.false_and]
  · refine .inr ⟨?_, h1, h2⟩
    rw [h1]
    decide +kernel
end Lb
set_option Elab.async false
set_option linter.all false
set_option maxRecDepth 100000
set_option maxHeartbeats 4000000
namespace Lb
open PySem PySem.Spec PyProof.Rows L2 RZ TL
/-! ### desks and their deeds -/
/-- the pairs of stock and debt ahead of each deed -/
inductive PastV (C : Addr) (H : Hp) : List V → List (List Int × List Int) → Prop
  | nil : PastV C H [] []
  | cons {p b t o u : Addr} {x y : List Int} {vs : List V} {l : List (List Int × List Int)} (e : H p = some (.tup [.ref b, .ref o])) (hb : Bg C H b t x) (ho : Bg C H o u y) (r : PastV C H vs l) : PastV C H (.ref p :: vs) ((x, y) :: l)
theorem PastV.length {C : Addr} {H : Hp} : ∀ {vs : List V} {l : List (List Int × List Int)}, PastV C H vs l → vs.length = l.length
  | _, _, .nil => rfl
  | _, _, .cons _ _ _ r => by rw [List.length_cons, List.length_cons, r.length]
/-- what is no desk, no list is kept: enough for Bags and tuples -/
theorem PastV.keep {C : Addr} {H H' : Hp} (k : ∀ b o, (∃ xs, o = .tup xs) ∨ (∃ dx fs, o = .ins C dx fs) → H b = some o → H' b = some o) : ∀ {vs : List V} {l : List (List Int × List Int)}, PastV C H vs l → PastV C H' vs l
  | _, _, .nil => .nil
  | _, _, .cons e hb ho r => .cons (k _ _ (.inl ⟨_, rfl⟩) e) ⟨let ⟨dx, e⟩ := hb.ins; ⟨dx, k _ _ (.inr ⟨_, _, rfl⟩) e⟩, k _ _ (.inl ⟨_, rfl⟩) hb.tup⟩ ⟨let ⟨dx, e⟩ := ho.ins; ⟨dx, k _ _ (.inr ⟨_, _, rfl⟩) e⟩, k _ _ (.inl ⟨_, rfl⟩) ho.tup⟩ (r.keep k)
theorem PastV.append {C : Addr} {H : Hp} : ∀ {vs ws : List V} {l m : List (List Int × List Int)}, PastV C H vs l → PastV C H ws m → PastV C H (vs ++ ws) (l ++ m)
  | _, _, _, _, .nil, h => h
  | _, _, _, _, .cons e hb ho r, h => .cons e hb ho (r.append h)
theorem PastV.split {C : Addr} {H : Hp} : ∀ {vs : List V} {l : List (List Int × List Int)} {z : List Int × List Int}, PastV C H vs (l ++ [z]) → ∃ (ws : List V) (p b t o u : Addr), vs = ws ++ [.ref p] ∧ PastV C H ws l ∧ H p = some (.tup [.ref b, .ref o]) ∧ Bg C H b t z.1 ∧ Bg C H o u z.2
  | _, [], _, .cons e hb ho .nil => ⟨[], _, _, _, _, _, rfl, .nil, e, hb, ho⟩
  | _, _ :: l, z, .cons e hb ho r => by
    obtain ⟨ws, p, b, t, o, u, rfl, h1, h2, h3, h4⟩ := r.split (l := l) (z := z)
    exact ⟨_ :: ws, p, b, t, o, u, rfl, .cons e hb ho h1, h2, h3, h4⟩
/-- a desk at a: class, dict, market, more fields, stock, debt, past -/
structure DeskAt (K : PySem.W.Frag) (C CX : Addr) (H : Hp) (a dx pl : Addr) (mv : V) (more : List (Str × V)) (x y : List Int) (past : List (List Int × List Int)) : Prop where
  ex : ∃ (b t o u : Addr) (vs : List V), H a = some (.ins CX dx (dskF mv (.ref b) (.ref o) pl ++ more)) ∧ Bg C H b t x ∧ Bg C H o u y ∧ H pl = some (.lst vs) ∧ PastV C H vs past
  ne : C ≠ CX
/-- all is kept but a and pl -/
def Ke (a pl : Addr) (H H' : Hp) : Prop := ∀ b o, b ≠ a → b ≠ pl → H b = some o → H' b = some o
theorem Ke.of {a pl : Addr} {H H' : Hp} (s : Same H H') : Ke a pl H H' := fun b o _ _ e => s b o e
theorem Ke.trans {a pl : Addr} {H H1 H2 : Hp} (h : Ke a pl H H1) (k : Ke a pl H1 H2) : Ke a pl H H2 := fun b o n1 n2 e => k b o n1 n2 (h b o n1 n2 e)
theorem Bg.ke {C CX : Addr} {H H' : Hp} {a dx pl b t : Addr} {fs : List (Str × V)} {vs : List V} {x : List Int} (h : Bg C H b t x) (k : Ke a pl H H') (ne : C ≠ CX) (ea : H a = some (.ins CX dx fs)) (ep : H pl = some (.lst vs)) : Bg C H' b t x := by
  obtain ⟨db, eb⟩ := h.ins
  refine ⟨⟨db, k _ _ (fun z => ?_) (fun z => ?_) eb⟩, k _ _ (fun z => ?_) (fun z => ?_) h.tup⟩
  · rw [z, ea] at eb
    cases eb
    exact ne rfl
  · rw [z, ep] at eb
    cases eb
  · have := h.tup
    rw [z, ea] at this
    cases this
  · have := h.tup
    rw [z, ep] at this
    cases this
theorem DeskAt.same {K : PySem.W.Frag} {C CX : Addr} {H H' : Hp} {a dx pl : Addr} {mv : V} {more : List (Str × V)} {x y : List Int} {past : List (List Int × List Int)} (h : DeskAt K C CX H a dx pl mv more x y past) (s : Same H H') : DeskAt K C CX H' a dx pl mv more x y past := by
  obtain ⟨b, t, o, u, vs, h1, h2, h3, h4, h5⟩ := h.ex
  exact ⟨⟨b, t, o, u, vs, s _ _ h1, h2.same s, h3.same s, s _ _ h4, h5.keep fun b o _ e => s b o e⟩, h.ne⟩
end Lb
set_option Elab.async false
set_option linter.all false
set_option maxRecDepth 100000
set_option maxHeartbeats 4000000
namespace Lb
open PySem PySem.Spec PyProof.Rows L2 RZ TL
abbrev plusZ (x z : List Int) : List Int := List.zipWith (· + ·) x z
abbrev lessZ (x z : List Int) : List Int := List.zipWith (· - ·) x z
abbrev joinZ (x z : List Int) : List Int := List.zipWith maxI x z
/-- more fields of a desk: none, or the cap -/
def MoreOk (more : List (Str × V)) : Prop := more = [] ∨ ∃ v : V, more = [(("most" : Str), v)]
theorem MoreOk.len {more : List (Str × V)} (h : MoreOk more) : more.length ≤ 1 := by
  rcases h with rfl | ⟨v, rfl⟩
  · exact Nat.zero_le _
  · exact Nat.le_refl _
theorem MoreOk.all {more : List (Str × V)} (h : MoreOk more) : ∀ p ∈ more, p.1 = ("most" : Str) := by
  rcases h with rfl | ⟨v, rfl⟩
  · exact fun p hp => absurd hp List.not_mem_nil
  · exact fun p hp => by rw [List.mem_singleton.mp hp]
/-- no field has the name of a method -/
theorem MoreOk.no {more : List (Str × V)} (h : MoreOk more) {mv s o : V} {pl : Addr} {m : Str} (n1 : m ≠ "place") (n2 : m ≠ "present") (n3 : m ≠ "owed") (n4 : m ≠ "past") (n5 : m ≠ "most") : (dskF mv s o pl ++ more).lookup m = none := by
  have b : ∀ {x y : Str}, x ≠ y → (x == y) = false := fun {x y} h => by simpa using h
  rcases h with rfl | ⟨v, rfl⟩
  · show List.lookup m [("place", mv), ("present", s), ("owed", o), ("past", .ref pl)] = none
    simp only [List.lookup, b n1, b n2, b n3, b n4]
  · show List.lookup m [("place", mv), ("present", s), ("owed", o), ("past", .ref pl), ("most", v)] = none
    simp only [List.lookup, b n1, b n2, b n3, b n4, b n5]
end Lb
set_option Elab.async false
set_option linter.all false
set_option maxRecDepth 100000
set_option maxHeartbeats 4000000
namespace Lb
open PySem PySem.Spec PyProof.Rows L2
/-! ### the law's end where several defs make lambdas -/
/-- the law's promise, the tables of cs empty -/
def spLawS (K : PySem.W.Frag) (cs : List (Addr × Addr)) : Sp := fun vs H Q _ => ∃ (a : Addr) (ns : List Int), vs = [.ref a] ∧ SqL K H a (ns.map V.int) ∧ ns.length ≤ 63 ∧ (∀ q ∈ cs, H q.2 = some (.tbl #[])) ∧ ∀ H', Q (.bl true) H'
section
variable {P : Program} {w : World} {K : PySem.W.Frag} {mg mb : Str → Option Value} {CX : CXT} {k : Nat} {fa a : Addr} {cs : List (Addr × Addr)} {fd : FuncData} {x : Str} {sp : Sp} {s1 : Shared} {vs : List Value} {ns : List Int}
/-- b is one of the tables -/
def InTb (cs : List (Addr × Addr)) (b : Addr) : Prop := ∃ q ∈ cs, b = q.2
theorem go_tabs {H : Hp} (kin : K.In s1.heap) (hns : s1.heap.Ns mainGlobals mg) (hb : s1.heap.Ns builtinsNs mb) (hbb : ∀ x : Str, x ≠ "__name__" → mb x = bootBuiltins x) (hlim : s1.heap.NoLimit) (hg : s1.gens = #[])
    (hTs : ∀ q ∈ cs, s1.heap.get? q.2 = some { cls := .none, data := .fields #[] }) (nTs : ∀ q ∈ cs, K.lookup q.2 = none) (Cs : ∀ q ∈ cs, PySem.W.CodeHd s1.heap q.1 q.2)
    (hbm : ∃ (bm : Addr) (ob : Obj), mg "__builtins__" = some (.ref bm) ∧ bm ≠ builtinsNs ∧ s1.heap.get? bm = some ob ∧ ob.cls = .type "module" ∧ ob.dict = some builtinsNs ∧ ob.data = .plain)
    (ha : s1.heap.get? a = some { cls := .type "list", data := .seq vs.toArray }) (hr : Room k callerA)
    (F : ∀ base : Heap, K.In base → base.Ns mainGlobals mg → (∀ q ∈ cs, LamX.TabB base mg q.1 q.2) → FnG P w K mg base CX k fa fd [x] sp) (hbind : ∀ (s : Shared) (u : Value), BindsTo s fd ⟨[u], []⟩ [(x, u)])
    (hPs : ∀ q ∈ cs, H q.2 = some (.tbl #[])) (only : ∀ b, H b = none ∨ InTb cs b ∨ ∃ o xs, H b = some (.frz o (.lst xs))) (hok : HOk P w H s1.heap) (hA : ∀ b, H b ≠ none → b = a ∨ InTb cs b) (hK : H a ≠ none → K.lookup a = none)
    (hsp : sp [.ref a] H (fun v _ => v = .bl true) fun _ _ _ => False) (hCX : ∀ e s', CX [] H s1 (fun _ _ _ => False) e s' → False) :
    codeAny (model P w) callerA (.call (.ref fa) ⟨[.ref a], []⟩) (LawEnd s1) s1 := by
  have isA : ∀ {b : Addr} {u : HO}, H b = some u → b = a ∨ InTb cs b := fun {b u} e => hA b (by rw [e]; exact fun z => nomatch z)
  -- what is neither the script nor a table is hidden from nobody
  have free : ∀ {b : Addr} {o : Obj}, s1.heap.get? b = some o → (∀ us n, o.data ≠ .seq us n) → o.data ≠ .fields #[] → H b = none := by
    intro b o e d1 d2
    cases q : H b with
    | none => rfl
    | some u =>
      rcases isA q with eb | ⟨p, hp, eb⟩
      · subst eb
        rw [ha] at e
        cases e
        exact absurd rfl (d1 _ _)
      · subst eb
        rw [hTs p hp] at e
        cases e
        exact absurd rfl d2
  have ns : ∀ {b : Addr} {m : Str → Option Value}, s1.heap.Ns b m → (hidT s1.heap H).Ns b m := by
    rintro b m ⟨o, es, ep, e, d, r⟩
    exact ⟨o, es, ep, hidT_get e (free e (fun us n z => by rw [d] at z; cases z) (fun z => by rw [d] at z; cases z)), d, r⟩
  have kb : K.In (hidT s1.heap H) := by
    intro b o e
    refine hidT_get (kin b o e) ?_
    cases q : H b with
    | none => rfl
    | some u =>
      rcases isA q with eb | ⟨p, hp, eb⟩
      · subst eb
        rw [hK (by rw [q]; exact fun z => nomatch z)] at e
        cases e
      · rw [eb, nTs p hp] at e
        cases e
  have tbs : ∀ p ∈ cs, LamX.TabB (hidT s1.heap H) mg p.1 p.2 := by
    intro p hp
    have hT := hTs p hp
    refine ⟨?_, ?_, fun z => ?_⟩
    · obtain ⟨o, us, file, tf, flags, tg, inF, text, tt, e1, r1, r2, r3, rest⟩ := Cs p hp
      refine ⟨o, us, file, tf, flags, tg, inF, text, tt, hidT_get e1 (free e1 (fun us n z => by rw [r2] at z; cases z) fun z => ?_), r1, r2, r3, rest⟩
      rw [r2] at z
      cases z
      simp at r3
    · obtain ⟨bm, ob, b1, b2, b3, b4, b5, b6⟩ := hbm
      refine ⟨bm, ob, b1, b2, fun z => ?_, fun z => ?_, hidT_get b3 (free b3 (fun us n z => by rw [b6] at z; cases z) (fun z => by rw [b6] at z; cases z)), b4, b5, b6⟩
      · obtain ⟨o, es, ep, e, d, _⟩ := hns
        rw [z, e] at b3
        cases b3
        rw [d] at b6
        cases b6
      · rw [z, hT] at b3
        cases b3
        cases b6
    · obtain ⟨o, es, ep, e, d, _⟩ := hns
      rw [z, hT] at e
      cases e
      cases d
  obtain ⟨mc, n1, n2⟩ := hlim
  have md : Mod K mg (hidT s1.heap H) := ⟨kb, ns hns, ⟨mb, ns hb, hbb⟩, ⟨mc, ns n1, n2⟩⟩
  have e0 : Env0 P w K mg (hidT s1.heap H) callerA [] s1 H :=
    ⟨rfl, md, fun b o e => of_hidT e, Nat.le_of_eq (hidT_size _ _), trivial, fun b hb => absurd (show b ∈ ([] : List Addr) from hb) (by simp), hok, .of_eq hg⟩
  refine codeAny_mono ((F _ kb (ns hns) tbs).run callerA [] s1 H ⟨[.ref a], []⟩ [.ref a] [.ref a] _ _ rfl hr e0 (hbind s1 (.ref a)) (.cons rfl .nil) hsp) fun r s' h => ?_
  cases r with
  | error e => exact (hCX e s' h).elim
  | ok fl =>
    cases fl with
    | next => exact h.elim
    | brk => exact h.elim
    | cont => exact h.elim
    | ret u =>
      obtain ⟨v, H', os, bare, un, hok', ru, q⟩ := h
      have ev : v = .bl true := q
      subst ev
      obtain rfl : u = Value.bool true := ru
      have key : ∀ b o, ¬ InTb cs b → s1.heap.get? b = some o → s'.heap.get? b = some o := by
        intro b o nb e
        rcases only b with z | z | ⟨ob, xs, z⟩
        · exact un.keep b o e z (fun m => absurd (show b ∈ ([] : List Addr) from m) (by simp)) (by simp)
        · exact absurd z nb
        · obtain ⟨g1, _⟩ := hok b _ z
          obtain ⟨g2, _⟩ := hok' b _ (un.frzs b ob _ z)
          rw [e] at g1
          cases g1
          exact g2
      have hm : ∀ p ∈ cs, ∃ more : Array Value, s'.heap.get? p.2 = some { cls := .none, data := .fields more } := by
        intro p hp
        obtain ⟨more, z⟩ := un.tbls p.2 #[] (hPs p hp)
        exact ⟨_, hok' p.2 _ z⟩
      refine ⟨rfl, ⟨fun b o e => ?_, fun b o e => ?_⟩, os, bare⟩
      · rcases Classical.em (InTb cs b) with ⟨p, hp, eb⟩ | hn
        · subst eb
          obtain ⟨more, hm⟩ := hm p hp
          rw [hTs p hp] at e
          cases e
          exact .inr (.inl ⟨((Cs p hp).tab (hTs p hp)).isCodeTable, rfl, #[], more, rfl, by rw [Array.empty_append]; exact hm⟩)
        · exact .inl (key b o hn e)
      · rcases Classical.em (InTb cs b) with ⟨p, hp, eb⟩ | hn
        · subst eb
          obtain ⟨more, hm⟩ := hm p hp
          exact ⟨_, hm⟩
        · exact ⟨o, key b o hn e⟩
theorem law_tabs (kin : K.In s1.heap) (hns : s1.heap.Ns mainGlobals mg) (hb : s1.heap.Ns builtinsNs mb) (hbb : ∀ x : Str, x ≠ "__name__" → mb x = bootBuiltins x) (hlim : s1.heap.NoLimit) (hg : s1.gens = #[])
    (hTs : ∀ q ∈ cs, s1.heap.get? q.2 = some { cls := .none, data := .fields #[] }) (nTs : ∀ q ∈ cs, K.lookup q.2 = none) (Cs : ∀ q ∈ cs, PySem.W.CodeHd s1.heap q.1 q.2)
    (hbm : ∃ (bm : Addr) (ob : Obj), mg "__builtins__" = some (.ref bm) ∧ bm ≠ builtinsNs ∧ s1.heap.get? bm = some ob ∧ ob.cls = .type "module" ∧ ob.dict = some builtinsNs ∧ ob.data = .plain)
    (ha : s1.heap.get? a = some { cls := .type "list", data := .seq vs.toArray }) (hi : IntsAre vs ns) (hl : ns.length ≤ sizeLine) (hr : Room k callerA)
    (F : ∀ base : Heap, K.In base → base.Ns mainGlobals mg → (∀ q ∈ cs, LamX.TabB base mg q.1 q.2) → FnG P w K mg base CX k fa fd [x] sp) (hbind : ∀ (s : Shared) (u : Value), BindsTo s fd ⟨[u], []⟩ [(x, u)])
    (hsp : ∀ H : Hp, (∀ q ∈ cs, H q.2 = some (.tbl #[])) → SqL K H a (ns.map V.int) → sp [.ref a] H (fun v _ => v = .bl true) fun _ _ _ => False)
    (hCX : ∀ H e s', CX [] H s1 (fun _ _ _ => False) e s' → False) : codeAny (model P w) callerA (.call (.ref fa) ⟨[.ref a], []⟩) (LawEnd s1) s1 := by
  classical
  have rv := vals_ints hi
  have nP : ¬ InTb cs a := fun ⟨p, hp, z⟩ => by
    rw [z, hTs p hp] at ha
    exact nomatch (show Data.fields #[] = Data.seq vs.toArray _ from congrArg Obj.data (Option.some.inj ha))
  cases hk : K.lookup a with
  | some o =>
    have e := kin a o hk
    rw [ha] at e
    cases e
    let H0 : Hp := fun b => if InTb cs b then some (.tbl #[]) else none
    have atP : ∀ {b : Addr}, InTb cs b → H0 b = some (.tbl #[]) := fun h => if_pos h
    have off : ∀ {b : Addr}, ¬ InTb cs b → H0 b = none := fun h => if_neg h
    refine go_tabs (H := H0) kin hns hb hbb hlim hg hTs nTs Cs hbm ha hr F hbind (fun q hq => atP ⟨q, hq, rfl⟩) (fun b => ?_) (fun b u z => ?_) (fun b z => ?_) (fun z => absurd (off nP) z) (hsp _ (fun q hq => atP ⟨q, hq, rfl⟩) (.inr ⟨_, vs.toArray, _, hk, rfl, rfl, rfl, ?_, by simpa using rv⟩)) fun e s' => hCX _ e s'
    · rcases Classical.em (InTb cs b) with h | h
      · exact .inr (.inl h)
      · exact .inl (off h)
    · rcases Classical.em (InTb cs b) with h | h
      · rw [atP h] at z
        cases z
        obtain ⟨p, hp, rfl⟩ := h
        exact hTs p hp
      · rw [off h] at z
        cases z
    · exact .inr (Classical.byContradiction fun h => z (off h))
    · rw [List.size_toArray, hi.length]
      exact hl
  | none =>
    let H1 : Hp := fun b => if b = a then some (.frz { cls := .type "list", data := .seq vs.toArray } (.lst (ns.map V.int))) else if InTb cs b then some (.tbl #[]) else none
    have at_a : H1 a = some (.frz { cls := .type "list", data := .seq vs.toArray } (.lst (ns.map V.int))) := if_pos rfl
    have atP : ∀ {b : Addr}, InTb cs b → H1 b = some (.tbl #[]) := fun {b} h => (if_neg (fun z : b = a => nP (z ▸ h))).trans (if_pos h)
    have off : ∀ {b : Addr}, b ≠ a → ¬ InTb cs b → H1 b = none := fun h1 h2 => (if_neg h1).trans (if_neg h2)
    refine go_tabs (H := H1) kin hns hb hbb hlim hg hTs nTs Cs hbm ha hr F hbind (fun q hq => atP ⟨q, hq, rfl⟩) (fun b => ?_) (fun b u z => ?_) (fun b z => ?_) (fun _ => hk) (hsp _ (fun q hq => atP ⟨q, hq, rfl⟩) (.inl (.inr ⟨_, at_a⟩))) fun e s' => hCX _ e s'
    · by_cases h : b = a
      · rw [h]
        exact .inr (.inr ⟨_, _, at_a⟩)
      · rcases Classical.em (InTb cs b) with h2 | h2
        · exact .inr (.inl h2)
        · exact .inl (off h h2)
    · by_cases h : b = a
      · subst h
        rw [at_a] at z
        cases z
        exact ⟨ha, by rw [List.length_map]; exact hl, vs, _, rv, ha⟩
      · rcases Classical.em (InTb cs b) with h2 | h2
        · rw [atP h2] at z
          cases z
          obtain ⟨p, hp, rfl⟩ := h2
          exact hTs p hp
        · rw [off h h2] at z
          cases z
    · by_cases h : b = a
      · exact .inl h
      · exact .inr (Classical.byContradiction fun h2 => z (off h h2))
end
/-- what is known of a law in which some defs make lambdas, at the head's heap -/
def LawTs (l : PySem.W.OpenLaw) (w : World) (K : PySem.W.Frag) (k : Nat) (x : Str) (mg : Str → Option Value) (fa : Addr) (h : Heap) : Prop :=
  ∃ (fd : FuncData) (cs : List (Addr × Addr)), (∀ q ∈ cs, h.get? q.2 = some { cls := .none, data := .fields #[] }) ∧ (∀ q ∈ cs, K.lookup q.2 = none) ∧ (∀ q ∈ cs, PySem.W.CodeHd h q.1 q.2) ∧ (∀ (s : Shared) (u : Value), BindsTo s fd ⟨[u], []⟩ [(x, u)]) ∧
    ∀ base : Heap, K.In base → base.Ns mainGlobals mg → (∀ q ∈ cs, LamX.TabB base mg q.1 q.2) → FnG l.prog w K mg base CX0 k fa fd [x] (spLawS K cs)
theorem walk_gTs {l : PySem.W.OpenLaw} {k : Nat} {q : Program} {loose : List Str} {XP : (Str → Option Value) → Heap → Prop} {YP : World → Heap → Prop} {d : DefRec} {K : Params → PySem.W.Frag} {x : Str} (names : List Str)
    (hn : l.most = some 63) (hdf : d.params.defaults = []) (hr : Room k callerA) (hrec : (names.all fun y => (recsOf q).any fun e => e.name == y) = true) (hY : ∀ (w : World) (h : Heap), YP w h → (K w.params).In h)
    (F : ∀ (w : World) (mg : Str → Option Value) (fa : Addr) (h : Heap), (K w.params).In h → h.Ns mainGlobals mg → mg d.name = some (.ref fa) → (∀ y ∈ names, ∀ f, mg y = some (.ref f) → LamX.OwnTab (K w.params) f h) → LawTs l w (K w.params) k x mg fa h) :
    PySem.W.WalkO q loose XP YP l.row.toRowW d [] (fun f vs => PySem.call f vs) := by
  refine Att.attach_call hn hdf fun w s0 s1 mg mb fa o pm cd doc a vs ns G Y ho hd hcd hmg hobj hints hlen hg => ?_
  have kin := hY w _ Y
  have own : ∀ y ∈ names, ∀ f, mg y = some (.ref f) → LamX.OwnTab (K w.params) f s1.heap := by
    intro y hy f hf c P o1 fd1 e dd vs1 sl k1 k2 k3 k4 k5
    obtain ⟨dL, hm, hnm⟩ := List.any_eq_true.mp (List.all_eq_true.mp hrec y hy)
    obtain ⟨a', o', fd', c', P', h1, h2, h3, h4, h5, ⟨oc, vc, e1, _, e3, e4⟩, hP⟩ := G.T.tab dL hm
    rw [beq_iff_eq.mp hnm, hf] at h1
    cases h1
    rw [kin _ _ k1] at h2
    cases h2
    rw [k2] at h3
    cases h3
    rw [k3] at h4
    cases h4
    rw [kin _ _ k4] at e1
    cases e1
    cases e3
    rw [k5] at e4
    cases e4
    exact hP
  obtain ⟨fd, cs, hT, nT, C, hb, hF⟩ := F w mg fa _ kin G.T.g hmg own
  exact law_tabs kin G.T.g G.T.b G.T.builtins G.T.nolimit hg hT nT C G.T.bmain hobj hints (Nat.le_trans hlen (by decide)) hr hF hb (fun H hP hS => ⟨a, ns, rfl, hS, hlen, hP, fun _ => rfl⟩) fun H e s' h => h
/-! ### o.m(e, .., k = v, ..) of an own class -/
end Lb
set_option Elab.async false
set_option linter.all false
set_option maxRecDepth 100000
set_option maxHeartbeats 4000000
namespace Lb
open PySem PySem.Spec PyProof.Rows L2 RZ TL
/-! ### what comes of a deed -/
/-- stock, debt, and the pairs of them ahead of each deed that stands -/
structure DS where
  x : List Int
  y : List Int
  past : List (List Int × List Int)
/-- what a deed comes to -/
inductive Oc
  | trade (v : V) | times (v : V) | lacking (k : Nat) | owed (k : Nat) | much (k : Nat) | bag | cap | nothing
  | did (s : DS) | undid (s : DS)
def Oc.vals : Oc → List V
  | .trade v => [.str "trade", v]
  | .times v => [.str "times", v]
  | .lacking k => [.str "lacking", .int (k : Int)]
  | .owed k => [.str "owed", .int (k : Int)]
  | .much k => [.str "much", .int (k : Int)]
  | .bag => [.str "bag"]
  | .cap => [.str "cap"]
  | .nothing => [.str "nothing"]
  | .did s => [.str "ok", .int (s.past.length : Int)]
  | .undid _ => [.str "ok", .non]
def Oc.next (s : DS) : Oc → DS
  | .did s' => s'
  | .undid s' => s'
  | _ => s
/-- a deed is done, if no amount is too great -/
def keptO (s : DS) (x y : List Int) : Oc := match muchN (joinZ x y) with
  | some k => .much k
  | none => .did ⟨x, y, s.past ++ [(s.x, s.y)]⟩
def borrowO (g : Nat) (cap : Option Int) (s : DS) : Option (List Int) → Oc
  | none => .bag
  | some z => if z.length = g then (match cap with
    | some c => if c < s.y.sum + z.sum then .cap else keptO s (plusZ s.x z) (plusZ s.y z)
    | none => keptO s (plusZ s.x z) (plusZ s.y z)) else .bag
def payO (g : Nat) (s : DS) : Option (List Int) → Oc
  | none => .bag
  | some z => if z.length = g then (match lackN s.y z 0 with
    | some k => .owed k
    | none => match lackN s.x z 0 with
      | some k => .lacking k
      | none => keptO s (lessZ s.x z) (lessZ s.y z)) else .bag
def undoO (s : DS) : Oc := match s.past.getLast? with
  | none => .nothing
  | some z => .undid ⟨z.1, z.2, s.past.dropLast⟩
/-- so many times: what is lacking, or the stock that is left -/
def tradeL : Nat → List Int → List Int → List Int → Nat ⊕ List Int
  | 0, _, _, x => .inr x
  | n + 1, a, b, x => match lackN x a 0 with
    | some k => .inl k
    | none => tradeL n a b (plusZ (lessZ x a) b)
/-- the trade of this index -/
def trdAt (ts : List Trd) : Option Int → Option Trd
  | none => none
  | some k => if 0 ≤ k ∧ k < (ts.length : Int) then ts[k.toNat]? else none
def timesOf : Option Int → Option Nat
  | none => none
  | some k => if 1 ≤ k ∧ k ≤ 9 then some k.toNat else none
def tradeO (ts : List Trd) (s : DS) (kv tv : V) (kz tz : Option Int) (back : Bool) : Oc := match trdAt ts kz with
  | none => .trade kv
  | some t => match timesOf tz with
    | none => .times tv
    | some n => match tradeL n (if back then t.2 else t.1) (if back then t.1 else t.2) s.x with
      | .inl k => .lacking k
      | .inr x => keptO s x s.y
/-- the state of a desk in a market of g goods -/
structure DsOk (g : Nat) (s : DS) : Prop where
  lx : s.x.length = g
  ly : s.y.length = g
  ax : ∀ v ∈ s.x, 0 ≤ v ∧ v ≤ 6
  ay : ∀ v ∈ s.y, 0 ≤ v ∧ v ≤ 6
  ap : ∀ p ∈ s.past, (p.1.length = g ∧ ∀ v ∈ p.1, 0 ≤ v ∧ v ≤ 6) ∧ (p.2.length = g ∧ ∀ v ∈ p.2, 0 ≤ v ∧ v ≤ 6)
end Lb
set_option Elab.async false
set_option linter.all false
set_option maxRecDepth 100000
set_option maxHeartbeats 4000000
namespace Lb
open PySem PySem.Spec PyProof.Rows L2 RZ TL
/-! ### what stays: tuples and Bags -/
def KC (C : Addr) (H H' : Hp) : Prop := ∀ b o, (∃ xs, o = .tup xs) ∨ (∃ dx fs, o = .ins C dx fs) → H b = some o → H' b = some o
theorem KC.of {C : Addr} {H H' : Hp} (s : Same H H') : KC C H H' := fun b o _ e => s b o e
theorem KC.trans {C : Addr} {H H1 H2 : Hp} (h : KC C H H1) (k : KC C H1 H2) : KC C H H2 := fun b o t e => k b o t (h b o t e)
theorem KC.extN {C : Addr} {H H' : Hp} (k : LamX.ExtN H H') : KC C H H' := fun b o t e => k b o e fun ps z => by
  rcases t with ⟨xs, q⟩ | ⟨dx, fs, q⟩ <;> rw [q] at z <;> cases z
/-- two objects that are neither change -/
theorem KC.two {C : Addr} {H H' : Hp} {a b : Addr} {oa ob : HO} (ea : H a = some oa) (eb : H b = some ob) (na : ∀ xs, oa ≠ .tup xs) (na' : ∀ dx fs, oa ≠ .ins C dx fs) (nb : ∀ xs, ob ≠ .tup xs) (nb' : ∀ dx fs, ob ≠ .ins C dx fs) (k : ∀ c o, c ≠ a → c ≠ b → H c = some o → H' c = some o) : KC C H H' := by
  intro c o t e
  refine k c o (fun z => ?_) (fun z => ?_) e
  · rw [z, ea] at e
    cases e
    rcases t with ⟨xs, q⟩ | ⟨dx, fs, q⟩
    · exact na xs q
    · exact na' dx fs q
  · rw [z, eb] at e
    cases e
    rcases t with ⟨xs, q⟩ | ⟨dx, fs, q⟩
    · exact nb xs q
    · exact nb' dx fs q
theorem KC.lists {C : Addr} {H H' : Hp} {a b : Addr} {us vs : List V} (ea : H a = some (.lst us)) (eb : H b = some (.lst vs)) (k : ∀ c o, c ≠ a → c ≠ b → H c = some o → H' c = some o) : KC C H H' :=
  KC.two ea eb (fun _ z => nomatch z) (fun _ _ z => nomatch z) (fun _ z => nomatch z) (fun _ _ z => nomatch z) k
theorem KC.kp {C : Addr} {H H' : Hp} {d c r : Addr} {n : Nat} (dk : Dk H d c r n) (k : Kp d r H H') : KC C H H' := by
  obtain ⟨_, _, _, _, _, _, _, _, _, _, e1, _, e3⟩ := dk
  exact KC.lists e1 e3 k
theorem KC.desk {C CX : Addr} {H H' : Hp} {a pl dx : Addr} {fs : List (Str × V)} {vs : List V} (ea : H a = some (.ins CX dx fs)) (ep : H pl = some (.lst vs)) (ne : C ≠ CX) (k : Ke a pl H H') : KC C H H' :=
  KC.two ea ep (fun _ z => nomatch z) (fun _ _ z => by cases z; exact ne rfl) (fun _ z => nomatch z) (fun _ _ z => nomatch z) k
theorem Bg.kc {C : Addr} {H H' : Hp} {b t : Addr} {x : List Int} (h : Bg C H b t x) (k : KC C H H') : Bg C H' b t x := ⟨let ⟨dx, e⟩ := h.ins; ⟨dx, k _ _ (.inr ⟨_, _, rfl⟩) e⟩, k _ _ (.inl ⟨_, rfl⟩) h.tup⟩
theorem PastV.kc {C : Addr} {H H' : Hp} {vs : List V} {l : List (List Int × List Int)} (h : PastV C H vs l) (k : KC C H H') : PastV C H' vs l := h.keep k
theorem KC.tup {C : Addr} {H H' : Hp} (k : KC C H H') {b : Addr} {xs : List V} (e : H b = some (.tup xs)) : H' b = some (.tup xs) := k _ _ (.inl ⟨_, rfl⟩) e
/-! ### markets as tuples -/
inductive TrdsV (H : Hp) : List V → List Trd → Prop
  | nil : TrdsV H [] []
  | cons {p u v : Addr} {x y : List Int} {vs : List V} {ts : List Trd} (e : H p = some (.tup [.ref u, .ref v])) (eu : H u = some (.tup (x.map V.int))) (ev : H v = some (.tup (y.map V.int))) (r : TrdsV H vs ts) : TrdsV H (.ref p :: vs) ((x, y) :: ts)
theorem TrdsV.kc {C : Addr} {H H' : Hp} (k : KC C H H') : ∀ {vs : List V} {ts : List Trd}, TrdsV H vs ts → TrdsV H' vs ts
  | _, _, .nil => .nil
  | _, _, .cons e eu ev r => .cons (k.tup e) (k.tup eu) (k.tup ev) (r.kc k)
theorem TrdsV.length {H : Hp} : ∀ {vs : List V} {ts : List Trd}, TrdsV H vs ts → vs.length = ts.length
  | _, _, .nil => rfl
  | _, _, .cons _ _ _ r => by rw [List.length_cons, List.length_cons, r.length]
theorem TrdsV.get {H : Hp} : ∀ {vs : List V} {ts : List Trd} {i : Nat} {t : Trd}, TrdsV H vs ts → ts[i]? = some t → ∃ p u v, vs[i]? = some (.ref p) ∧ H p = some (.tup [.ref u, .ref v]) ∧ H u = some (.tup (t.1.map V.int)) ∧ H v = some (.tup (t.2.map V.int))
  | _, _, 0, _, .cons e eu ev r, h => by
    cases h
    exact ⟨_, _, _, rfl, e, eu, ev⟩
  | _, _, i + 1, _, .cons e eu ev r, h => TrdsV.get (i := i) r h
theorem TrdsV.dats {R : Rgn} {H : Hp} (R1 : ∀ b xs, H b = some (.tup xs) → R b) : ∀ {vs : List V} {ts : List Trd}, TrdsV H vs ts → Dats R H vs (ts.map trdD)
  | _, _, .nil => .nil
  | _, _, .cons e eu ev r => .cons (.tup (R1 _ _ e) e (.cons (Dat.mkBag (R1 _ _ eu) eu) (.cons (Dat.mkBag (R1 _ _ ev) ev) .nil))) (r.dats R1)
theorem TrdsV.of {R : Rgn} {H : Hp} : ∀ {vs : List V} {ts : List Trd}, Dats R H vs (ts.map trdD) → TrdsV H vs ts
  | [], [], _ => .nil
  | _, [], .nil => .nil
  | _, (x, y) :: ts, .cons h t => by
    cases h with
    | tup ra e h =>
      cases h with
      | cons h1 h2 =>
        cases h2 with
        | cons h2 h3 =>
          cases h3
          obtain ⟨u, rfl, _, eu⟩ := Dat.bag h1
          obtain ⟨v, rfl, _, ev⟩ := Dat.bag h2
          exact .cons e eu ev (TrdsV.of t)
/-- a market -/
def MkV (H : Hp) (mv : V) (g : Nat) (ts : List Trd) : Prop := ∃ (m tt : Addr) (vs : List V), mv = .ref m ∧ H m = some (.tup [.int (g : Int), .ref tt]) ∧ H tt = some (.tup vs) ∧ TrdsV H vs ts
theorem MkV.kc {C : Addr} {H H' : Hp} {mv : V} {g : Nat} {ts : List Trd} (h : MkV H mv g ts) (k : KC C H H') : MkV H' mv g ts := by
  obtain ⟨m, tt, vs, rfl, e1, e2, h⟩ := h
  exact ⟨m, tt, vs, rfl, k.tup e1, k.tup e2, h.kc k⟩
theorem MkV.dat {R : Rgn} {H : Hp} {mv : V} {g : Nat} {ts : List Trd} (h : MkV H mv g ts) (R1 : ∀ b xs, H b = some (.tup xs) → R b) : Dat R H mv (mktD g ts) := by
  obtain ⟨m, tt, vs, rfl, e1, e2, h⟩ := h
  exact .tup (R1 _ _ e1) e1 (.cons (.int _) (.cons (.tup (R1 _ _ e2) e2 (h.dats R1)) .nil))
theorem MkV.of {R : Rgn} {H : Hp} {mv : V} {g : Nat} {ts : List Trd} (h : Dat R H mv (mktD g ts)) : MkV H mv g ts := by
  cases h with
  | tup ra e h =>
    cases h with
    | cons h1 h2 =>
      cases h1
      cases h2 with
      | cons h2 h3 =>
        cases h3
        cases h2 with
        | tup rb e2 h => exact ⟨_, _, _, rfl, e, e2, TrdsV.of h⟩
/-! ### the law's own keeping -/
inductive PstV (H : Hp) : List V → List (List Int × List Int) → Prop
  | nil : PstV H [] []
  | cons {p t u : Addr} {x y : List Int} {vs : List V} {l : List (List Int × List Int)} (e : H p = some (.tup [.ref t, .ref u])) (e1 : H t = some (.tup (x.map V.int))) (e2 : H u = some (.tup (y.map V.int))) (r : PstV H vs l) : PstV H (.ref p :: vs) ((x, y) :: l)
theorem PstV.kc {C : Addr} {H H' : Hp} (k : KC C H H') : ∀ {vs : List V} {l : List (List Int × List Int)}, PstV H vs l → PstV H' vs l
  | _, _, .nil => .nil
  | _, _, .cons e e1 e2 r => .cons (k.tup e) (k.tup e1) (k.tup e2) (r.kc k)
theorem PstV.length {H : Hp} : ∀ {vs : List V} {l : List (List Int × List Int)}, PstV H vs l → vs.length = l.length
  | _, _, .nil => rfl
  | _, _, .cons _ _ _ r => by rw [List.length_cons, List.length_cons, r.length]
theorem PstV.append {H : Hp} : ∀ {vs ws : List V} {l m : List (List Int × List Int)}, PstV H vs l → PstV H ws m → PstV H (vs ++ ws) (l ++ m)
  | _, _, _, _, .nil, h => h
  | _, _, _, _, .cons e e1 e2 r, h => .cons e e1 e2 (r.append h)
theorem PstV.split {H : Hp} : ∀ {vs : List V} {l : List (List Int × List Int)} {z : List Int × List Int}, PstV H vs (l ++ [z]) → ∃ (ws : List V) (p t u : Addr), vs = ws ++ [.ref p] ∧ PstV H ws l ∧ H p = some (.tup [.ref t, .ref u]) ∧ H t = some (.tup (z.1.map V.int)) ∧ H u = some (.tup (z.2.map V.int))
  | _, [], _, .cons e e1 e2 .nil => ⟨[], _, _, _, rfl, .nil, e, e1, e2⟩
  | _, _ :: l, z, .cons e e1 e2 r => by
    obtain ⟨ws, p, t, u, rfl, h1, h2, h3, h4⟩ := r.split (l := l) (z := z)
    exact ⟨_ :: ws, p, t, u, rfl, .cons e e1 e2 h1, h2, h3, h4⟩
/-- the list [market, stock, debt, past, cap] at st, past at sl -/
structure StAt (H : Hp) (st sl : Addr) (mv cv : V) (s : DS) : Prop where
  ex : ∃ (t u : Addr) (vs : List V), H st = some (.lst [mv, .ref t, .ref u, .ref sl, cv]) ∧ H t = some (.tup (s.x.map V.int)) ∧ H u = some (.tup (s.y.map V.int)) ∧ H sl = some (.lst vs) ∧ PstV H vs s.past
theorem StAt.ne {H : Hp} {st sl : Addr} {mv cv : V} {s : DS} (h : StAt H st sl mv cv s) : st ≠ sl ∨ ∃ vs, H sl = some (.lst vs) := by
  obtain ⟨_, _, vs, _, _, _, e, _⟩ := h.ex
  exact .inr ⟨vs, e⟩
theorem StAt.keep {C : Addr} {H H' : Hp} {st sl : Addr} {mv cv : V} {s : DS} (h : StAt H st sl mv cv s) (k : KC C H H') (k1 : ∀ xs, H st = some (.lst xs) → H' st = some (.lst xs)) (k2 : ∀ xs, H sl = some (.lst xs) → H' sl = some (.lst xs)) : StAt H' st sl mv cv s := by
  obtain ⟨t, u, vs, e1, e2, e3, e4, h⟩ := h.ex
  exact ⟨t, u, vs, k1 _ e1, k.tup e2, k.tup e3, k2 _ e4, h.kc k⟩
theorem StAt.same {H H' : Hp} {st sl : Addr} {mv cv : V} {s : DS} (h : StAt H st sl mv cv s) (k : Same H H') : StAt H' st sl mv cv s := h.keep (C := 0) (KC.of k) (fun _ e => k _ _ e) (fun _ e => k _ _ e)
theorem DeskAt.keep {K : PySem.W.Frag} {C CX : Addr} {H H' : Hp} {a dx pl : Addr} {mv : V} {more : List (Str × V)} {x y : List Int} {past : List (List Int × List Int)} (h : DeskAt K C CX H a dx pl mv more x y past) (k : KC C H H') (k1 : ∀ fs, H a = some (.ins CX dx fs) → H' a = some (.ins CX dx fs)) (k2 : ∀ xs, H pl = some (.lst xs) → H' pl = some (.lst xs)) : DeskAt K C CX H' a dx pl mv more x y past := by
  obtain ⟨b, t, o, u, vs, h1, h2, h3, h4, h5⟩ := h.ex
  exact ⟨⟨b, t, o, u, vs, k1 _ h1, h2.kc k, h3.kc k, k2 _ h4, h5.kc k⟩, h.ne⟩
/-! ### desk, keeping, deck and tables beside each other -/
/-- where everything lies -/
structure Lay where
  d : Addr
  cc : Addr
  r : Addr
  a : Addr
  dx : Addr
  pl : Addr
  st : Addr
  sl : Addr
/-- the lists are unlike -/
structure Lay.Sep (L : Lay) : Prop where
  s1 : L.st ≠ L.sl
  s2 : L.st ≠ L.pl
  s3 : L.sl ≠ L.pl
  s4 : L.st ≠ L.d
  s5 : L.st ≠ L.r
  s6 : L.sl ≠ L.d
  s7 : L.sl ≠ L.r
  s8 : L.pl ≠ L.d
  s9 : L.pl ≠ L.r
  s10 : L.st ≠ L.cc
  s11 : L.sl ≠ L.cc
  s12 : L.pl ≠ L.cc
structure Wd (K : PySem.W.Frag) (C CX : Addr) (H : Hp) (L : Lay) (TS : List (Addr × Str)) (mv cv : V) (more : List (Str × V)) (g : Nat) (ts : List Trd) (n : Nat) (s s' : DS) : Prop where
  dk : Dk H L.d L.cc L.r n
  da : DeskAt K C CX H L.a L.dx L.pl mv more s.x s.y s.past
  sa : StAt H L.st L.sl mv cv s'
  tb : LamX.Tabs TS H
  mv_ : MkV H mv g ts
  sep : L.Sep
section
variable {K : PySem.W.Frag} {C CX : Addr} {H H' : Hp} {L : Lay} {TS : List (Addr × Str)} {mv cv : V} {more : List (Str × V)} {g : Nat} {ts : List Trd} {n : Nat} {s s' : DS}
theorem Wd.same (h : Wd K C CX H L TS mv cv more g ts n s s') (k : Same H H') : Wd K C CX H' L TS mv cv more g ts n s s' :=
  ⟨h.dk.same k, h.da.same k, h.sa.same k, h.tb.ext k, h.mv_.kc (C := C) (KC.of k), h.sep⟩
theorem Wd.mono {m : Nat} (h : Wd K C CX H L TS mv cv more g ts n s s') (l : n ≤ m) : Wd K C CX H L TS mv cv more g ts m s s' := ⟨h.dk.mono l, h.da, h.sa, h.tb, h.mv_, h.sep⟩
/-- no list is a table's, no instance is one -/
theorem tabs_two {a b : Addr} {oa ob : HO} (t : LamX.Tabs TS H) (ea : H a = some oa) (eb : H b = some ob) (na : ∀ ps, oa ≠ .tbl ps) (nb : ∀ ps, ob ≠ .tbl ps) (na' : ∀ c q, oa ≠ LamX.CodeO c q) (nb' : ∀ c q, ob ≠ LamX.CodeO c q) (k : ∀ c o, c ≠ a → c ≠ b → H c = some o → H' c = some o) : LamX.Tabs TS H' := by
  intro p hp
  obtain ⟨ps, h1, h2, h3⟩ := t p hp
  refine ⟨ps, k _ _ (fun z => ?_) (fun z => ?_) h1, h2, fun pos cv hc => ?_⟩
  · rw [z, ea] at h1
    cases h1
    exact na _ rfl
  · rw [z, eb] at h1
    cases h1
    exact nb _ rfl
  · obtain ⟨c, e1, e2⟩ := h3 pos cv hc
    refine ⟨c, e1, k _ _ (fun z => ?_) (fun z => ?_) e2⟩
    · rw [z, ea] at e2
      exact na' _ _ (Option.some.inj e2)
    · rw [z, eb] at e2
      exact nb' _ _ (Option.some.inj e2)
theorem lst_code {vs : List V} : ∀ c q, HO.lst vs ≠ LamX.CodeO c q := fun c q z => by
  unfold LamX.CodeO at z
  cases z
theorem ins_code {c0 dx : Addr} {fs : List (Str × V)} : ∀ c q, HO.ins c0 dx fs ≠ LamX.CodeO c q := fun c q z => by
  unfold LamX.CodeO at z
  cases z
/-- a draw -/
theorem Wd.draw {m : Nat} (h : Wd K C CX H L TS mv cv more g ts n s s') (k : Kp L.d L.r H H') (dk : Dk H' L.d L.cc L.r m) : Wd K C CX H' L TS mv cv more g ts m s s' := by
  have kc : KC C H H' := KC.kp h.dk k
  have sep := h.sep
  obtain ⟨_, _, _, _, _, _, _, _, _, _, e1, _, e3⟩ := h.dk
  refine ⟨dk, h.da.keep kc (fun fs e => k _ _ (fun z => ?_) (fun z => ?_) e) (fun xs e => k _ _ sep.s8 sep.s9 e), h.sa.keep kc (fun xs e => k _ _ sep.s4 sep.s5 e) (fun xs e => k _ _ sep.s6 sep.s7 e), ?_, h.mv_.kc kc, sep⟩
  · rw [z, e1] at e
    cases e
  · rw [z, e3] at e
    cases e
  · exact tabs_two h.tb e1 e3 (fun _ z => nomatch z) (fun _ z => nomatch z) lst_code lst_code k
/-- a deed at the desk -/
theorem Wd.desk {s1 : DS} (h : Wd K C CX H L TS mv cv more g ts n s s') (k : Ke L.a L.pl H H') (da : DeskAt K C CX H' L.a L.dx L.pl mv more s1.x s1.y s1.past) : Wd K C CX H' L TS mv cv more g ts n s1 s' := by
  obtain ⟨b, t, o, u, vs, ea, hb, ho, ep, hp⟩ := h.da.ex
  have kc : KC C H H' := KC.desk ea ep h.da.ne k
  have sep := h.sep
  have na : ∀ {p : Addr} {us : List V}, H p = some (.lst us) → p ≠ L.a := fun {p us} e z => by
    rw [z, ea] at e
    cases e
  refine ⟨?_, da, h.sa.keep kc (fun xs e => k _ _ (na e) sep.s2 e) (fun xs e => k _ _ (na e) sep.s3 e), tabs_two h.tb ea ep (fun _ z => nomatch z) (fun _ z => nomatch z) ins_code lst_code k, h.mv_.kc kc, sep⟩
  obtain ⟨t, cs, rs, h1, h2, h3, h4, h5, h6, h7, e1, e2, e3⟩ := h.dk
  exact ⟨t, cs, rs, h1, h2, h3, h4, h5, h6, h7, k _ _ (na e1) (Ne.symm sep.s8) e1, k _ _ (na e2) (Ne.symm sep.s12) e2, k _ _ (na e3) (Ne.symm sep.s9) e3⟩
/-- a deed in the law's own keeping -/
theorem Wd.kept {s1 : DS} (h : Wd K C CX H L TS mv cv more g ts n s s') (k : Ke L.st L.sl H H') (sa : StAt H' L.st L.sl mv cv s1) : Wd K C CX H' L TS mv cv more g ts n s s1 := by
  obtain ⟨t, u, vs, e1, e2, e3, e4, hp⟩ := h.sa.ex
  have kc : KC C H H' := KC.lists e1 e4 k
  have sep := h.sep
  refine ⟨?_, h.da.keep kc (fun fs e => k _ _ (fun z => ?_) (fun z => ?_) e) (fun xs e => k _ _ (Ne.symm sep.s2) (Ne.symm sep.s3) e), sa, tabs_two h.tb e1 e4 (fun _ z => nomatch z) (fun _ z => nomatch z) lst_code lst_code k, h.mv_.kc kc, sep⟩
  · obtain ⟨t, cs, rs, h1, h2, h3, h4, h5, h6, h7, d1, d2, d3⟩ := h.dk
    exact ⟨t, cs, rs, h1, h2, h3, h4, h5, h6, h7, k _ _ (Ne.symm sep.s4) (Ne.symm sep.s6) d1, k _ _ (Ne.symm sep.s10) (Ne.symm sep.s11) d2, k _ _ (Ne.symm sep.s5) (Ne.symm sep.s7) d3⟩
  · rw [z, e1] at e
    cases e
  · rw [z, e4] at e
    cases e
/-- a lambda is made -/
theorem Wd.lam (h : Wd K C CX H L TS mv cv more g ts n s s') (k : LamX.ExtN H H') (tb : LamX.Tabs TS H') : Wd K C CX H' L TS mv cv more g ts n s s' := by
  have kc : KC C H H' := KC.extN k
  have kl : ∀ {p : Addr} {us : List V}, H p = some (.lst us) → H' p = some (.lst us) := fun {p us} e => k _ _ e fun _ z => nomatch z
  refine ⟨?_, h.da.keep kc (fun fs e => k _ _ e fun _ z => nomatch z) (fun xs e => kl e), h.sa.keep kc (fun xs e => kl e) (fun xs e => kl e), tb, h.mv_.kc kc, h.sep⟩
  obtain ⟨t, cs, rs, h1, h2, h3, h4, h5, h6, h7, d1, d2, d3⟩ := h.dk
  exact ⟨t, cs, rs, h1, h2, h3, h4, h5, h6, h7, kl d1, kl d2, kl d3⟩
end
end Lb
set_option Elab.async false
set_option linter.all false
set_option maxRecDepth 100000
set_option maxHeartbeats 4000000
/-! ### errors of an own class over LookupError, with one field -/
namespace Lb
section
open PySem PySem.HandSPX Builtin Builtin.ObjectAttr
variable {prog : Program} {w : World} {A : Around} {R : Result → Shared → Prop} {hp : Heap} {gs : Array GenState} {dr : Drawn} {tn : Nat} {os : OsState}
end
open PySem PySem.Spec PyProof.Rows L2 RZ TL
section
variable {X : Cx}
end
end Lb
set_option Elab.async false
set_option linter.all false
set_option maxRecDepth 100000
set_option maxHeartbeats 4000000
namespace Lb
open PySem PySem.Spec PyProof.Rows L2 RZ TL
/-! ### o.f as a target among several -/
/-! ### methods whose last parameters are named -/
/-! ### what a desk does -/
structure ErrCs where
  trade : Addr
  times : Addr
  lacking : Addr
  owed : Addr
  much : Addr
  bag : Addr
  cap : Addr
  nothing : Addr
/-- the fields beyond: none, or the cap -/
def CapOk (more : List (Str × V)) (cv : V) : Option Int → Prop
  | none => more = [] ∧ cv = .non
  | some c => more = [(("most" : Str), V.int c)] ∧ cv = .int c
theorem CapOk.more {more : List (Str × V)} {cv : V} {cap : Option Int} (h : CapOk more cv cap) : MoreOk more := by
  cases cap with
  | none => exact .inl h.1
  | some c => exact .inr ⟨_, h.1⟩
theorem DsOk.bx {g : Nat} {s : DS} (h : DsOk g s) (g1 : 1 ≤ g) (g4 : g ≤ 4) : BgOk s.x := ⟨by rw [h.lx]; exact g1, by rw [h.lx]; exact g4, fun v hv => (h.ax v hv).1⟩
theorem DsOk.by_ {g : Nat} {s : DS} (h : DsOk g s) (g1 : 1 ≤ g) (g4 : g ≤ 4) : BgOk s.y := ⟨by rw [h.ly]; exact g1, by rw [h.ly]; exact g4, fun v hv => (h.ay v hv).1⟩
end Lb
namespace Lb
open PySem PySem.Spec PyProof.Rows L2 RZ TL
theorem Bg.updL {C : Addr} {H : Hp} {b t L : Addr} {x : List Int} {us : List V} {o : HO} (h : Bg C H b t x) (e : H L = some (.lst us)) : Bg C (upd H L o) b t x := by
  obtain ⟨⟨dx, eb⟩, et⟩ := h
  refine ⟨⟨dx, ?_⟩, ?_⟩
  · rw [upd_ne (fun z => by rw [z, e] at eb; cases eb)]
    exact eb
  · rw [upd_ne (fun z => by rw [z, e] at et; cases et)]
    exact et
theorem Side.bok {g : Nat} {b : List Int} (h : Side g 4 b) (g1 : 1 ≤ g) (g4 : g ≤ 4) : BgOk b := ⟨by rw [h.len]; exact g1, by rw [h.len]; exact g4, fun v hv => (h.amt v hv).1⟩
theorem OwnM.up {P : Program} {w : World} {K : PySem.W.Frag} {mg : Str → Option Value} {base : Heap} {C : Addr} {m : Str} {k j : Nat} {ps : List Str} {sp sp' : Sp} (O : OwnM P w K mg base C m k ps sp) (h : k ≤ j) (i : ∀ vs H Q E, sp' vs H Q E → sp vs H Q E) : OwnM P w K mg base C m j ps sp' := by
  obtain ⟨f, fd, M, F, b⟩ := O.ex
  exact ⟨f, fd, M, ⟨fun vs H Q E z => F.len vs H Q E (i vs H Q E z), fun A outer s H args us vs Q E hr e0 hb r z => F.run A outer s H args us vs Q E (hr.mono h) e0 hb r (i vs H Q E z)⟩, b⟩
end Lb
set_option Elab.async false
set_option linter.all false
set_option maxRecDepth 100000
set_option maxHeartbeats 4000000
namespace Lb
open PySem PySem.Spec PyProof.Rows L2 RZ TL
/-! ### [k for k in range(n) if ..] -/
/-! ### what the law's own keeping tells -/
end Lb
namespace Lb
open PySem PySem.Spec PyProof.Rows L2 RZ TL
end Lb
namespace Lb
open PySem PySem.Spec PyProof.Rows L2 RZ TL
end Lb
set_option Elab.async false
set_option linter.all false
set_option maxRecDepth 100000
set_option maxHeartbeats 4000000
namespace Lb
open PySem PySem.Spec PyProof.Rows L2 RZ TL
/-! ### what a call tells, or what it raises -/
section
variable {K : PySem.W.Frag} {C CX : Addr} {cs : ErrCs} {H : Hp} {a dx pl : Addr} {mv : V} {more : List (Str × V)} {Qd : VK} {s : DS} {o : Oc}
end
end Lb
namespace Lb
open PySem PySem.Spec PyProof.Rows L2 RZ TL
/-! ### what a desk shows -/
theorem DsOk.aw {g : Nat} {s : DS} (h : DsOk g s) : AmtsW s.x ∧ AmtsW s.y := ⟨fun v hv => by have := h.ax v hv; omega, fun v hv => by have := h.ay v hv; omega⟩
end Lb
set_option Elab.async false
set_option linter.all false
set_option maxRecDepth 100000
set_option maxHeartbeats 4000000
namespace Lb
open PySem PySem.Spec PyProof.Rows L2 RZ TL
/-- what a deed leaves -/
inductive DeedR (g : Nat) (ts : List Trd) (cap : Option Int) (s : DS) : DS → Prop
  | trade (kv tv : V) (kz tz : Option Int) (back : Bool) : DeedR g ts cap s ((tradeO ts s kv tv kz tz back).next s)
  | borrow (z : List Int) (h : ∀ v ∈ z, 0 ≤ v) : DeedR g ts cap s ((borrowO g cap s (some z)).next s)
  | pay (z : List Int) (h : ∀ v ∈ z, 0 ≤ v) : DeedR g ts cap s ((payO g s (some z)).next s)
  | undo : DeedR g ts cap s ((undoO s).next s)
end Lb
namespace Lb
open PySem PySem.Spec PyProof.Rows L2 RZ TL
end Lb
namespace Lb
open PySem PySem.Spec PyProof.Rows L2 RZ TL
end Lb
namespace Lb
open PySem PySem.Spec PyProof.Rows L2 RZ TL
end Lb
namespace Lb
open PySem PySem.Spec PyProof.Rows L2 RZ TL
/-- no more than the cap is owed, and was owed ahead of any deed that stands -/
def CapS (c : Int) (s : DS) : Prop := s.y.sum ≤ c ∧ ∀ p ∈ s.past, p.2.sum ≤ c
theorem sum_less : ∀ {y z : List Int}, y.length = z.length → (∀ v ∈ z, 0 ≤ v) → (lessZ y z).sum ≤ y.sum
  | [], [], _, _ => Int.le_refl _
  | a :: y, b :: z, hl, hz => by
    have h := sum_less (y := y) (z := z) (by simpa using hl) fun v hv => hz v (List.mem_cons_of_mem _ hv)
    have hb := hz b List.mem_cons_self
    show ((a - b) :: lessZ y z).sum ≤ (a :: y).sum
    rw [List.sum_cons, List.sum_cons]
    omega
theorem kept_cap {c : Int} {s : DS} {x y : List Int} (k : CapS c s) (hy : y.sum ≤ c) : CapS c ((keptO s x y).next s) := by
  unfold keptO
  cases muchN (joinZ x y) with
  | some n => exact k
  | none =>
    refine ⟨hy, fun p hp => ?_⟩
    rcases List.mem_append.mp hp with hp | hp
    · exact k.2 p hp
    · rw [List.mem_singleton.mp hp]
      exact k.1
theorem DeedR.cap {g : Nat} {ts : List Trd} {c : Int} {s s' : DS} (h : DeedR g ts (some c) s s') (ok : DsOk g s) (k : CapS c s) : CapS c s' := by
  cases h with
  | trade kv tv kz tz back =>
    unfold tradeO
    cases trdAt ts kz with
    | none => exact k
    | some t =>
      dsimp only
      cases timesOf tz with
      | none => exact k
      | some n =>
        dsimp only
        cases tradeL n (if back then t.2 else t.1) (if back then t.1 else t.2) s.x with
        | inl j => exact k
        | inr x => exact kept_cap k k.1
  | borrow z hz =>
    unfold borrowO
    dsimp only
    by_cases hl : z.length = g
    · rw [if_pos hl]
      by_cases hc : c < s.y.sum + z.sum
      · rw [if_pos hc]
        exact k
      · rw [if_neg hc]
        refine kept_cap k ?_
        rw [sum_zip (ok.ly.trans hl.symm)]
        omega
    · rw [if_neg hl]
      exact k
  | pay z hz =>
    unfold payO
    dsimp only
    by_cases hl : z.length = g
    · rw [if_pos hl]
      cases lackN s.y z 0 with
      | some j => exact k
      | none =>
        cases lackN s.x z 0 with
        | some j => exact k
        | none =>
          refine kept_cap k ?_
          have := sum_less (ok.ly.trans hl.symm) hz
          have := k.1
          omega
    · rw [if_neg hl]
      exact k
  | undo =>
    unfold undoO
    cases e : s.past.getLast? with
    | none => exact k
    | some z => exact ⟨k.2 z (List.mem_of_getLast? e), fun p hp => k.2 p (List.dropLast_subset _ hp)⟩
end Lb
set_option Elab.async false
set_option linter.all false
set_option maxRecDepth 100000
set_option maxHeartbeats 4000000
namespace Lb
open PySem PySem.Spec PyProof.Rows L2 RZ TL
/-! ### desks of drawn markets -/
section
variable {K : PySem.W.Frag} {C CB CM CT CV CX x dx b t : Addr} {H : Hp} {Qx : Hp → Prop} {E : XK} {mv : V} {g : Nat} {ts : List Trd} {z : List Int}
end
end Lb
namespace Lb
open PySem PySem.Spec PyProof.Rows L2 RZ TL
end Lb
set_option Elab.async false
set_option linter.all false
set_option maxRecDepth 100000
set_option maxHeartbeats 4000000
namespace Lb
open PySem PySem.Spec PyProof.Rows L2 RZ TL
/-! ### return super().m(x), the last row of a method -/
section
variable {X : Cx}
end
end Lb
set_option Elab.async false
set_option linter.all false
set_option maxRecDepth 100000
set_option maxHeartbeats 4000000
namespace Lb
open PySem PySem.Spec PyProof.Rows L2 RZ TL
/-! ### x op= y of an own class -/
end Lb
namespace Lb
open PySem PySem.Spec PyProof.Rows L2 RZ TL
end Lb
namespace Lb
open PySem PySem.Spec PyProof.Rows L2 RZ TL
end Lb
set_option Elab.async false
set_option linter.all false
set_option maxRecDepth 100000
set_option maxHeartbeats 4000000
namespace Lb
open PySem PySem.Spec PyProof.Rows L2 RZ TL
/-! ### desks of either class -/
section
variable {K : PySem.W.Frag} {C CX : Addr} {cs : ErrCs} {H : Hp} {a dx pl : Addr} {mv : V} {more : List (Str × V)} {Qd : VK} {s : DS} {o : Oc}
end
end Lb
namespace Lb
open PySem PySem.Spec PyProof.Rows L2 RZ TL
end Lb
set_option Elab.async false
set_option linter.all false
set_option maxRecDepth 100000
set_option maxHeartbeats 4000000
namespace Lb
open PySem PySem.Spec PyProof.Rows L2 RZ TL
/-! ### a bare raise at the end of a clause's suite -/
theorem inv_hide {X : Cx} {pins : List (Addr × Obj)} {σ : L2.St} {H : Hp} {s : Shared} (I : Inv X pins σ H s) (l : List Addr) (h0 : ∀ b ∈ l, X.s_0.heap.get? b = none) (hL : X.env.locals ∉ l) (hC : ∀ x c, X.env.cells.lookup x = some c → c ∉ l) (hP : ∀ p ∈ X.pn ++ pins, p.1 ∉ l) (hH : ∀ b ∈ l, H b = none) :
    Inv X pins σ H { s with heap := PySem.W.hideAll s.heap l } := by
  have n0 : ∀ {b : Addr} {o : Obj}, X.s_0.heap.get? b = some o → b ∉ l := fun e hm => by
    rw [h0 _ hm] at e
    cases e
  obtain ⟨m, ⟨o, es, ep, e1, e2, e3⟩, hl⟩ := id I.loc
  refine ⟨I.ok, I.os, I.bare, ⟨fun b o e n hb hx => ?_, fun b o e n hb hx => ?_, I.base.free, fun b o e hx => ?_, I.base.tups, I.base.frzs, I.base.tbls⟩, ⟨m, ⟨o, es, ep, PySem.W.hideAll_get _ e1 hL, e2, e3⟩, fun i x v f1 f2 f3 => ?_⟩, fun x c e => ?_, I.free, I.freeC, fun p hp => ?_, fun b o e => ?_, I.len⟩
  · exact PySem.W.hideAll_get _ (I.base.keep b o e n hb hx) (n0 e)
  · obtain ⟨sl, q⟩ := I.base.slot b o e n hb hx
    exact ⟨sl, PySem.W.hideAll_get _ q (n0 e)⟩
  · obtain ⟨o', q⟩ := I.base.there b o e hx
    exact ⟨o', PySem.W.hideAll_get _ q (n0 e)⟩
  · obtain ⟨u, r, z⟩ := hl i x v f1 f2 f3
    refine ⟨u, r, ?_⟩
    rcases z with z | ⟨k, c, hc, ob, ho, hd⟩
    · exact .inl z
    · exact .inr ⟨k, c, hc, ob, PySem.W.hideAll_get _ ho (hC x c hc), hd⟩
  · obtain ⟨v, ob, ho, hd⟩ := I.cell x c e
    exact ⟨v, ob, PySem.W.hideAll_get _ ho (hC x c e), hd⟩
  · obtain ⟨q1, q2⟩ := I.pin p hp
    exact ⟨PySem.W.hideAll_get _ q1 (hP p hp), q2⟩
  · refine (I.hok b o e).stay (fun c u hc r => PySem.W.hideAll_get _ r fun hm => ?_) (fun _ r => r) fun _ _ r => r
    have z := hH c hm
    rcases hc with hc | hc
    · rw [hc, e] at z
      cases z
    · rw [hc] at z
      cases z
/-- the context of a suite that may raise again -/
abbrev suiteX (X : Cx) (a : Addr) (pn : List (Addr × Obj)) : Cx := { X with A := X.A.mark (some (.ref a)), calm := false, pn := pn, xe := notedBy (model X.prog X.w) (X.A.mark (some (.ref a))) X.env (cameBackBy (model X.prog X.w) X.A X.env X.xe) }
theorem ok_suiteX {X : Cx} (ok : X.Ok) (a : Addr) (pn : List (Addr × Obj)) : (suiteX X a pn).Ok :=
  ⟨ok.mod, ok.kind, ok.glob, ok.blt, ok.above, ok.inj, ok.has, ok.cab, (fun z => absurd (show false = true from z) Bool.false_ne_true), ok.frames, ok.stk, ok.exf, ok.bs, ok.bsz, ok.noex, ok.exfs, ok.funs, ok.frf⟩
theorem obj_has {P : Program} {w : World} {H : Hp} {h : Heap} {b : Addr} {o : HO} (x : ObjOk P w H h b o) : ∃ u, h.get? b = some u := by
  cases o with
  | lst xs => obtain ⟨_, _, _, _, e⟩ := x; exact ⟨_, e⟩
  | tup xs => obtain ⟨_, _, _, ob, e, _⟩ := x; exact ⟨_, e⟩
  | dK kvs => obtain ⟨_, _, _, _, o, _, _, e, _⟩ := x; exact ⟨_, e⟩
  | dT kvs => obtain ⟨_, _, _, _, o, _, _, e, _⟩ := x; exact ⟨_, e⟩
  | set S n => obtain ⟨o, _, _, _, e, _⟩ := x; exact ⟨_, e⟩
  | ins C dx fs => obtain ⟨_, _, _, e, _⟩ := x; exact ⟨_, e⟩
  | own y => exact x
  | xd fs => obtain ⟨_, ⟨_, _, _, e, _⟩, _⟩ := x; exact ⟨_, e⟩
  | rng lo hi => obtain ⟨_, _, _, e⟩ := x; exact ⟨_, e⟩
  | frz ob u => obtain ⟨e, _⟩ := x; exact ⟨_, e⟩
  | tbl ps => exact ⟨_, x⟩
  | met f y => exact ⟨_, x⟩
  | ext φ => exact x.2.1
theorem hok_none {P : Program} {w : World} {H : Hp} {h : Heap} {b : Addr} (k : HOk P w H h) (n : h.get? b = none) : H b = none := by
  cases e : H b with
  | none => rfl
  | some o =>
    obtain ⟨u, z⟩ := obj_has (k b o e)
    rw [n] at z
    cases z
section
variable {X : Cx} {pins : List (Addr × Obj)} {σ : L2.St} {H : Hp} {cls : Value} {d : Option Addr} {a : Addr} {s : Shared}
/-- the suite of a clause can begin; whatever it does, the exception stands as before -/
theorem Down.again2 (h : Down X pins σ H cls d a s) (hex : X.ex = []) : ∃ pn : List (Addr × Obj), Inv (suiteX X a pn) [] σ H s ∧ ∀ (pins' : List (Addr × Obj)) (σ' : L2.St) (H' : Hp) (s3 : Shared), Inv (suiteX X a pn) pins' σ' H' s3 → Down X pins σ' H' cls d a s3 := by
  obtain ⟨G, t, It, hG, hu, hfl, ho, hg⟩ := id h.ex
  have I := h.inv
  obtain ⟨hkb, hen, hl, oe, vs, T, oT, ts, he, hz, hd, h1, hnT, hTe, hT, hdT, h3⟩ := hfl
  have notF : ∀ {b : Addr} {o : Obj} {us : Array Value}, s.heap.get? b = some o → o.data = .fields us → b ∉ frs (X.env :: X.outer) := fun {b o us} e dd hm => by
    obtain ⟨_, o', e', hnf⟩ := hl.mem hm
    rw [e] at e'
    cases e'
    exact hnf _ dd
  have aF := notF he hd
  have TF := notF hT hdT
  have hst : frs X.stack = frs (X.env :: X.outer) := by rw [h.st]
  have inT : ∀ {b : Addr}, G.get? b = none → b ∉ frs (X.env :: X.outer) → t.heap.get? b = none := fun {b} n nf => by
    cases e : t.heap.get? b with
    | none => rfl
    | some o =>
      have z := hG b o e (by rw [hst]; exact nf)
      rw [n] at z
      cases z
  have at_ := inT hen aF
  have Tt := inT hnT TF
  have HT : H T = none := hok_none It.hok Tt
  have s0 : ∀ {b : Addr}, t.heap.get? b = none → X.s_0.heap.get? b = none := fun {b} n => by
    cases e : X.s_0.heap.get? b with
    | none => rfl
    | some o =>
      obtain ⟨o', z⟩ := It.base.there b o e (by rw [hex]; exact List.not_mem_nil)
      rw [n] at z
      cases z
  have nL : ∀ {b : Addr}, t.heap.get? b = none → b ≠ X.env.locals := fun {b} n z => by
    obtain ⟨m, ⟨o, es, ep, e, _⟩, _⟩ := It.loc
    rw [← z, n] at e
    cases e
  have nF : ∀ {b : Addr}, b ∉ frs (X.env :: X.outer) → b ∉ X.fs := fun {b} n hm => by
    obtain ⟨e, he, q⟩ := List.mem_filterMap.mp hm
    exact n (List.mem_filterMap.mpr ⟨e, .tail _ he, q⟩)
  have nC : ∀ {b : Addr}, t.heap.get? b = none → ∀ x c, X.env.cells.lookup x = some c → c ≠ b := fun {b} n x c e z => by
    obtain ⟨v, o, q, _⟩ := It.cell x c e
    rw [z, n] at q
    cases q
  have nP : ∀ {b : Addr}, t.heap.get? b = none → ∀ p ∈ X.pn ++ pins, p.1 ≠ b := fun {b} n p hp z => by
    have q := (It.pin p hp).1
    rw [z, n] at q
    cases q
  have nd : ∀ {o : Obj} {us : Array Value}, o.data = .fields us → ∀ v, o.data ≠ .cell v := fun {o us} e v z => by
    rw [e] at z
    cases z
  refine ⟨(a, oe) :: (T, oT) :: (X.pn ++ pins), ⟨ok_suiteX I.ok _ _, I.os, I.bare, I.base, I.loc, I.cell, I.free, I.freeC, fun p hp => ?_, I.hok, I.len⟩, fun pins' σ' H' s3 J => ?_⟩
  · rw [List.append_nil] at hp
    rcases List.mem_cons.mp hp with rfl | hp
    · exact ⟨he, h.no, nL at_, nF aF, nd hd⟩
    rcases List.mem_cons.mp hp with rfl | hp
    · exact ⟨hT, HT, nL Tt, nF TF, nd hdT⟩
    · exact I.pin p hp
  · have pa := J.pin (a, oe) (List.mem_append_left _ (.head _))
    have pT := J.pin (T, oT) (List.mem_append_left _ (.tail _ (.head _)))
    have Jx : Inv X pins σ' H' s3 := ⟨I.ok, J.os, J.bare, J.base, J.loc, J.cell, J.free, J.freeC, fun p hp => J.pin p (List.mem_append_left _ (.tail _ (.tail _ hp))), J.hok, J.len⟩
    have mem2 : ∀ {P : Addr → Prop}, P a → P T → ∀ b ∈ [a, T], P b := fun {P} p1 p2 b hb => by
      rcases List.mem_cons.mp hb with rfl | hb
      · exact p1
      · rw [List.mem_singleton.mp hb]
        exact p2
    have It3 : Inv X pins σ' H' { s3 with heap := PySem.W.hideAll s3.heap [a, T] } := inv_hide Jx [a, T] (mem2 (s0 at_) (s0 Tt)) (fun hm => mem2 (P := fun b => b ≠ X.env.locals) (nL at_) (nL Tt) _ hm rfl)
      (fun x c e hm => mem2 (P := fun b => c ≠ b) (nC at_ x c e) (nC Tt x c e) _ hm rfl) (fun p hp hm => mem2 (P := fun b => p.1 ≠ b) (nP at_ p hp) (nP Tt p hp) _ hm rfl) (mem2 pa.2.1 pT.2.1)
    refine ⟨h.st, h.fr, ⟨PySem.W.hideAll s3.heap (frs X.stack ++ [a, T]), { s3 with heap := PySem.W.hideAll s3.heap [a, T] }, It3, fun p ob e hp => ?_, Heap.UpToSlots.of_keeps fun b o e => PySem.W.of_hideAll _ e, ⟨fun b o e => PySem.W.of_hideAll _ e, PySem.W.hideAll_none _ (List.mem_append_right _ (.head _)), ?_, oe, vs, T, oT, ts, pa.1, hz, hd, h1, PySem.W.hideAll_none _ (List.mem_append_right _ (.tail _ (.head _))), hTe, pT.1, hdT, h3⟩, rfl, J.bare⟩, pa.2.1⟩
    · have e3 := PySem.W.of_hideAll _ e
      refine PySem.W.hideAll_get _ e3 fun hm => ?_
      rcases List.mem_append.mp hm with hm | hm
      · exact hp hm
      · rw [PySem.W.hideAll_none _ hm] at e
        cases e
    · rw [← h.st]
      exact funFrames_none Jx.stack fun b hb => PySem.W.hideAll_none _ (List.mem_append_left _ hb)
end
section
variable {X : Cx} {x : Str} {c : Value} {ss : List Stmt} {b : Stmt} {np pos : Pos} {hds : List ExceptHandler} {t : Addr → Value → Option Addr → TS} {w : Ends → WX} {W0 : WX}
end
end Lb
set_option Elab.async false
set_option linter.all false
set_option maxRecDepth 100000
set_option maxHeartbeats 4000000
namespace Lb
open PySem PySem.Spec PyProof.Rows L2 RZ TL
open NdefX (NF FnO NOk CellsAt Caps slotAt)
/-! ### an inner def that is handed out: its cells are tracked -/
section
variable {cl : List (Str × Addr)} {fr : List Str} {ws : List V} {b : Addr} {v v' : V} {H H' : Hp}
end
/-- what is neither list nor instance nor table stays -/
def KX (H H' : Hp) : Prop := ∀ b φ, H b = some (.ext φ) → H' b = some (.ext φ)
theorem KX.of {H H' : Hp} (s : Same H H') : KX H H' := fun b φ e => s b _ e
theorem KX.trans {H H1 H2 : Hp} (a : KX H H1) (b : KX H1 H2) : KX H H2 := fun c φ e => b c φ (a c φ e)
theorem KX.extN {H H' : Hp} (k : LamX.ExtN H H') : KX H H' := fun b φ e => k b _ e fun _ z => nomatch z
theorem KX.two {H H' : Hp} {a b : Addr} {oa ob : HO} (ea : H a = some oa) (eb : H b = some ob) (na : ∀ φ, oa ≠ .ext φ) (nb : ∀ φ, ob ≠ .ext φ) (k : ∀ c o, c ≠ a → c ≠ b → H c = some o → H' c = some o) : KX H H' := fun c φ e => by
  refine k c _ (fun z => ?_) (fun z => ?_) e
  · rw [z, ea] at e
    exact na φ (Option.some.inj e)
  · rw [z, eb] at e
    exact nb φ (Option.some.inj e)
section
variable {P : Program} {w : World} {K : PySem.W.Frag} {mg : Str → Option Value} {base : Heap} {k : Nat} {f : Addr} {F : NF} {ps fr : List Str} {sp : List (Option V) → Sp} {A : Around} {outer : List Env} {s : Shared} {H : Hp} {us : List Value} {vs : List V} {ws : List V} {Q : VK} {E : XK}
end
/-! ### a def that hands one out -/
end Lb
set_option Elab.async false
set_option linter.all false
set_option maxRecDepth 100000
set_option maxHeartbeats 4000000
namespace Lb
open PySem PySem.Spec PyProof.Rows L2 RZ TL
/-! ### attempts: what work comes to -/
/-- what work comes to: an error of the package, another error (the state is kept), or done -/
inductive WkR
  | err (o : Oc)
  | trade (s : DS)
  | done (s : DS)
/-- the state behind an attempt -/
def WkR.next (s : DS) : WkR → DS
  | .err _ => s
  | .trade s' => s'
  | .done s' => s'
/-- what an exception that tells the outcome o must meet, in heaps of which P is true -/
def WErr (E : XK) (cs : ErrCs) (P : Hp → Prop) : Oc → Prop
  | .trade v => ∀ H' dd, P H' → H' dd = some (.xd [("value", v)]) → E (.ref cs.trade) (some dd) H'
  | .times v => ∀ H' dd, P H' → H' dd = some (.xd [("value", v)]) → E (.ref cs.times) (some dd) H'
  | .lacking k => ∀ H' dd, P H' → H' dd = some (.xd [("good", .int (k : Int))]) → E (.ref cs.lacking) (some dd) H'
  | .owed k => ∀ H' dd, P H' → H' dd = some (.xd [("good", .int (k : Int))]) → E (.ref cs.owed) (some dd) H'
  | .much k => ∀ H' dd, P H' → H' dd = some (.xd [("good", .int (k : Int))]) → E (.ref cs.much) (some dd) H'
  | .bag => ∀ H', P H' → E (.ref cs.bag) none H'
  | .cap => ∀ H', P H' → E (.ref cs.cap) none H'
  | .nothing => ∀ H', P H' → E (.ref cs.nothing) none H'
  | .did _ => False
  | .undid _ => False
theorem WErr.imp {E : XK} {cs : ErrCs} {P P' : Hp → Prop} (i : ∀ H, P' H → P H) : ∀ {o : Oc}, WErr E cs P o → WErr E cs P' o
  | .trade _, h => fun H' dd p => h H' dd (i _ p)
  | .times _, h => fun H' dd p => h H' dd (i _ p)
  | .lacking _, h => fun H' dd p => h H' dd (i _ p)
  | .owed _, h => fun H' dd p => h H' dd (i _ p)
  | .much _, h => fun H' dd p => h H' dd (i _ p)
  | .bag, h => fun H' p => h H' (i _ p)
  | .cap, h => fun H' p => h H' (i _ p)
  | .nothing, h => fun H' p => h H' (i _ p)
/-! ### what the law's own keeping tells of it -/
/-- whether an outcome is told as "ok" -/
def Oc.fine : Oc → Bool
  | .did _ => true
  | .undid _ => true
  | _ => false
end Lb
set_option Elab.async false
set_option linter.all false
set_option maxRecDepth 100000
set_option maxHeartbeats 4000000
namespace Lb
open PySem PySem.Spec PyProof.Rows L2 RZ TL
open NdefX (NF FnO NOk CellsAt Caps slotAt)
/-! ### Desk.attempt -/
/-- the errors of the package, and the one that is none -/
structure MkE (K : PySem.W.Frag) (CM : Addr) (cs : ErrCs) : Prop where
  lacking : PySem.W.exmOne K (.ref cs.lacking) (.ref CM) = some true
  owed : PySem.W.exmOne K (.ref cs.owed) (.ref CM) = some true
  much : PySem.W.exmOne K (.ref cs.much) (.ref CM) = some true
  bag : PySem.W.exmOne K (.ref cs.bag) (.ref CM) = some true
  cap : PySem.W.exmOne K (.ref cs.cap) (.ref CM) = some true
  nothing : PySem.W.exmOne K (.ref cs.nothing) (.ref CM) = some true
  times : PySem.W.exmOne K (.ref cs.times) (.ref CM) = some true
  trade : PySem.W.exmOne K (.ref cs.trade) (.ref CM) = some false
/-- an outcome that is an error of the package -/
def Oc.isErr : Oc → Bool
  | .trade _ => false
  | .did _ => false
  | .undid _ => false
  | _ => true
theorem WErr.map {K : PySem.W.Frag} {CM : Addr} {cs : ErrCs} {E E1 : XK} {P P' : Hp → Prop} {o : Oc} (M : MkE K CM cs) (ho : o.isErr = true)
    (h : ∀ cls d H', PySem.W.exmOne K cls (.ref CM) = some true → P H' → ∃ H'', P' H'' ∧ (∀ dd fs, H' dd = some (.xd fs) → H'' dd = some (.xd fs)) ∧ (E cls d H'' → E1 cls d H')) (k : WErr E cs P' o) : WErr E1 cs P o := by
  cases o with
  | trade v => cases ho
  | did s => cases ho
  | undid s => cases ho
  | times v =>
    intro H' dd p e
    obtain ⟨H'', p', kp, i⟩ := h _ (some dd) H' M.times p
    exact i (k H'' dd p' (kp _ _ e))
  | lacking v =>
    intro H' dd p e
    obtain ⟨H'', p', kp, i⟩ := h _ (some dd) H' M.lacking p
    exact i (k H'' dd p' (kp _ _ e))
  | owed v =>
    intro H' dd p e
    obtain ⟨H'', p', kp, i⟩ := h _ (some dd) H' M.owed p
    exact i (k H'' dd p' (kp _ _ e))
  | much v =>
    intro H' dd p e
    obtain ⟨H'', p', kp, i⟩ := h _ (some dd) H' M.much p
    exact i (k H'' dd p' (kp _ _ e))
  | bag =>
    intro H' p
    obtain ⟨H'', p', kp, i⟩ := h _ none H' M.bag p
    exact i (k H'' p')
  | cap =>
    intro H' p
    obtain ⟨H'', p', kp, i⟩ := h _ none H' M.cap p
    exact i (k H'' p')
  | nothing =>
    intro H' p
    obtain ⟨H'', p', kp, i⟩ := h _ none H' M.nothing p
    exact i (k H'' p')
def WkR.isErr : WkR → Bool
  | .err o => o.isErr
  | _ => true
end Lb
set_option Elab.async false
set_option linter.all false
set_option maxRecDepth 100000
set_option maxHeartbeats 4000000
namespace Lb
open PySem PySem.Spec PyProof.Rows L2 RZ TL
open NdefX (NF FnO NOk CellsAt Caps slotAt)
/-! ### the making of the work, what is due -/
/-- D lies beside all lists -/
structure Lay.Off (L : Lay) (D : Addr) : Prop where
  d : D ≠ L.d
  cc : D ≠ L.cc
  r : D ≠ L.r
  pl : D ≠ L.pl
  st : D ≠ L.st
  sl : D ≠ L.sl
section
variable {K : PySem.W.Frag} {C CX : Addr} {H H' : Hp} {L : Lay} {TS : List (Addr × Str)} {mv cv : V} {more : List (Str × V)} {g : Nat} {ts : List Trd} {n : Nat} {s s' : DS} {D : Addr} {xs : List V}
/-- what is new lies beside them -/
theorem Wd.nOff (h : Wd K C CX H L TS mv cv more g ts n s s') (z : H D = none) : L.Off D := by
  obtain ⟨_, _, _, _, _, ea, _, _, ep, _⟩ := id h.da.ex
  obtain ⟨_, _, _, est, _, _, esl, _⟩ := id h.sa.ex
  have nd := h.dk.nd z
  exact ⟨nd.1, nd.2.2, nd.2.1, (ne_of_none ep z).symm, (ne_of_none est z).symm, (ne_of_none esl z).symm⟩
/-- a list beside them changes -/
theorem Wd.off (h : Wd K C CX H L TS mv cv more g ts n s s') (eD : H D = some (.lst xs)) (o : L.Off D) (k : ∀ b u, b ≠ D → H b = some u → H' b = some u) : Wd K C CX H' L TS mv cv more g ts n s s' := by
  obtain ⟨_, _, _, _, _, ea, _, _, ep, _⟩ := id h.da.ex
  have kc : KC C H H' := KC.lists eD eD fun c u n1 _ e => k c u n1 e
  have na : L.a ≠ D := fun z => by
    rw [z, eD] at ea
    cases ea
  refine ⟨?_, h.da.keep kc (fun fs e => k _ _ na e) (fun xs e => k _ _ o.pl.symm e), h.sa.keep kc (fun xs e => k _ _ o.st.symm e) (fun xs e => k _ _ o.sl.symm e), tabs_two h.tb eD eD (fun _ z => nomatch z) (fun _ z => nomatch z) lst_code lst_code fun c u n1 _ e => k c u n1 e, h.mv_.kc kc, h.sep⟩
  obtain ⟨t, cs, rs, h1, h2, h3, h4, h5, h6, h7, e1, e2, e3⟩ := h.dk
  exact ⟨t, cs, rs, h1, h2, h3, h4, h5, h6, h7, k _ _ o.d.symm e1, k _ _ o.cc.symm e2, k _ _ o.r.symm e3⟩
end
end Lb
set_option Elab.async false
set_option linter.all false
set_option maxRecDepth 100000
set_option maxHeartbeats 4000000
namespace Lb
open PySem PySem.Spec PyProof.Rows L2 RZ TL
/-! ### lists of what is told -/
/-- a list of lists that are told, none of them among the bad ones -/
inductive OcsV (H : Hp) (bad : Addr → Prop) : List V → List Oc → Prop
  | nil : OcsV H bad [] []
  | cons {p : Addr} {o : Oc} {vs : List V} {os : List Oc} (e : H p = some (.lst o.vals)) (n : ¬ bad p) (r : OcsV H bad vs os) : OcsV H bad (.ref p :: vs) (o :: os)
section
variable {H H' : Hp} {bad : Addr → Prop}
theorem OcsV.keep (k : ∀ b o, ¬ bad b → H b = some o → H' b = some o) : ∀ {vs : List V} {os : List Oc}, OcsV H bad vs os → OcsV H' bad vs os
  | _, _, .nil => .nil
  | _, _, .cons e n r => .cons (k _ _ n e) n (r.keep k)
theorem OcsV.length : ∀ {vs : List V} {os : List Oc}, OcsV H bad vs os → vs.length = os.length
  | _, _, .nil => rfl
  | _, _, .cons _ _ r => by rw [List.length_cons, List.length_cons, r.length]
theorem OcsV.get : ∀ {vs : List V} {os : List Oc} {i : Nat} {x : V}, OcsV H bad vs os → vs[i]? = some x → ∃ p o, x = .ref p ∧ os[i]? = some o ∧ H p = some (.lst o.vals) ∧ ¬ bad p
  | _, _, 0, _, .cons e n _, h => by
    cases h
    exact ⟨_, _, rfl, rfl, e, n⟩
  | _, _, i + 1, _, .cons _ _ r, h => r.get (i := i) h
theorem OcsV.snoc {p : Addr} {o : Oc} (e : H p = some (.lst o.vals)) (n : ¬ bad p) : ∀ {vs : List V} {os : List Oc}, OcsV H bad vs os → OcsV H bad (vs ++ [.ref p]) (os ++ [o])
  | _, _, .nil => .cons e n .nil
  | _, _, .cons f m r => .cons f m (r.snoc e n)
theorem OcsV.head {vs : List V} {os : List Oc} {o : Oc} (h : OcsV H bad vs os) (e : os.head? = some o) : ∃ p ws, vs = .ref p :: ws ∧ H p = some (.lst o.vals) ∧ ¬ bad p := by
  cases h with
  | nil => cases e
  | cons f n r =>
    cases e
    exact ⟨_, _, rfl, f, n⟩
end
end Lb
set_option Elab.async false
set_option linter.all false
set_option maxRecDepth 100000
set_option maxHeartbeats 4000000
namespace Lb
open PySem PySem.Spec PyProof.Rows L2 RZ TL
/-! ### what comes of an attempt, as it is told -/
section
variable {K : PySem.W.Frag} {C CX : Addr} {cs : ErrCs} {H : Hp} {a dx pl : Addr} {mv : V} {more : List (Str × V)} {Qd : VK} {s : DS} {r : WkR}
end
end Lb
set_option Elab.async false
set_option linter.all false
set_option maxRecDepth 100000
set_option maxHeartbeats 4000000
namespace Lb.Gr
/-! ### grids as functions: the turns and their arithmetic -/
abbrev F2 := Nat → Nat → Int
def swp (a b k : Nat) : Nat := if k = a then b else if k = b then a else k
def brT (a r c : Nat) (T : F2) : F2 := fun i j => T (swp a r i) (swp a c j)
def brV (a c : Nat) (V : F2) : F2 := fun i j => V i (swp a c j)
def rwT (a : Nat) (T : F2) : F2 := fun i j => if a < i then T i j - (T i a).fdiv (T a a) * T a j else T i j
def clT (g a : Nat) (T : F2) : F2 := fun i j => if a < j ∧ j < g then T i j - (T a j).fdiv (T a a) * T i a else T i j
def clV (g a : Nat) (T V : F2) : F2 := fun i j => if a < j ∧ j < g then V i j - (T a j).fdiv (T a a) * V i a else V i j
def stT (g a r c : Nat) (T : F2) : F2 := clT g a (rwT a (brT a r c T))
def stV (g a r c : Nat) (T V : F2) : F2 := clV g a (rwT a (brT a r c T)) (brV a c V)
theorem swp_left (a b : Nat) : swp a b a = b := if_pos rfl
theorem swp_lt {a b k : Nat} (h : k < a) (hb : a ≤ b) : swp a b k = k := by
  unfold swp
  rw [if_neg (by omega), if_neg (by omega)]
theorem swp_gt {a b k : Nat} (h : b < k) (hb : a ≤ b) : swp a b k = k := by
  unfold swp
  rw [if_neg (by omega), if_neg (by omega)]
theorem swp_ge {a b k : Nat} (h : a ≤ k) (hb : a ≤ b) : a ≤ swp a b k := by
  unfold swp
  split
  · exact hb
  · split
    · exact Nat.le_refl _
    · exact h
theorem swp_bd {a b k n : Nat} (h : k < n) (ha : a < n) (hb : b < n) : swp a b k < n := by
  unfold swp
  split
  · exact hb
  · split
    · exact ha
    · exact h
theorem swp_swp (a b k : Nat) : swp a b (swp a b k) = k := by
  unfold swp
  split
  · rename_i h
    split
    · omega
    · rw [if_pos rfl]
      exact h.symm
  · rename_i h
    split
    · rename_i h2
      rw [if_pos rfl]
      exact h2.symm
    · rfl
/-! numbers -/
theorem ediv_natAbs (a : Int) {b : Int} (h : 0 < b) : (a / b).natAbs ≤ a.natAbs := by
  have h1 := Int.mul_ediv_add_emod a b
  have h2 := Int.emod_nonneg a (Int.ne_of_gt h)
  have h3 := Int.emod_lt_of_pos a h
  rcases Int.lt_or_le a 0 with ha | ha
  · have h4 : a / b < 0 := Int.ediv_neg_of_neg_of_pos ha h
    have h5 : a ≤ a / b := by
      rcases Int.lt_or_le (a / b) a with q | q
      · exfalso
        have h6 : b * (a / b) ≤ 1 * (a / b) := Int.mul_le_mul_of_nonpos_right (by omega) (by omega)
        have h7 : b * (a / b) ≤ b * (a - 1) := Int.mul_le_mul_of_nonneg_left (by omega) (by omega)
        have h8 : b * (a - 1) ≤ 1 * (a - 1) := Int.mul_le_mul_of_nonpos_right (by omega) (by omega)
        have h9 : b * (a - 1) = b * a - b := by rw [Int.mul_sub, Int.mul_one]
        have h10 : b * a ≤ 1 * a := Int.mul_le_mul_of_nonpos_right (by omega) (by omega)
        omega
      · exact q
    omega
  · have h4 : 0 ≤ a / b := Int.ediv_nonneg ha (by omega)
    have h5 : a / b ≤ a := Int.ediv_le_self b ha
    omega
theorem fdiv_natAbs (a : Int) {b : Int} (h : b ≠ 0) : (a.fdiv b).natAbs ≤ a.natAbs := by
  rcases Int.lt_or_le b 0 with hb | hb
  · rw [← Int.neg_fdiv_neg a b, Int.fdiv_eq_ediv_of_nonneg _ (by omega)]
    have := ediv_natAbs (-a) (b := -b) (by omega)
    rwa [Int.natAbs_neg] at this
  · rw [Int.fdiv_eq_ediv_of_nonneg _ hb]
    exact ediv_natAbs a (by omega)
theorem fmod_eq (a b : Int) : a - a.fdiv b * b = a.fmod b := by rw [Int.fmod_def, Int.mul_comm]
theorem fmod_natAbs (a : Int) {b : Int} (h : b ≠ 0) : (a.fmod b).natAbs < b.natAbs := by
  rcases Int.lt_or_le b 0 with hb | hb
  · have e : a.fmod b = -((-a).fmod (-b)) := by rw [Int.neg_fmod_neg]; omega
    have h1 := Int.fmod_lt_of_pos (-a) (b := -b) (by omega)
    have h2 := Int.fmod_nonneg_of_pos (-a) (b := -b) (by omega)
    omega
  · have h1 := Int.fmod_lt_of_pos a (b := b) (by omega)
    have h2 := Int.fmod_nonneg_of_pos a (b := b) (by omega)
    omega
theorem fmod_neg_sgn (a : Int) {b : Int} (h : b < 0) : a.fmod b ≤ 0 := by
  have e : a.fmod b = -((-a).fmod (-b)) := by rw [Int.neg_fmod_neg]; omega
  have h2 := Int.fmod_nonneg_of_pos (-a) (b := -b) (by omega)
  omega
/-- numbers of one sign -/
theorem nat_quot {a b : Int} (ha : 0 ≤ a) (hb : 0 < b) (h : a = 0 ∨ b ≤ a) : (a.fdiv b).natAbs * b.natAbs ≤ a.natAbs ∧ (a.fmod b).natAbs ≤ a.natAbs - b.natAbs := by
  have h0 := Int.fmod_def a b
  have h1 := Int.fmod_lt_of_pos a hb
  have h2 := Int.fmod_nonneg_of_pos a hb
  have e : a.fdiv b = a / b := Int.fdiv_eq_ediv_of_nonneg a (by omega)
  have h3 : 0 ≤ a.fdiv b := by rw [e]; exact Int.ediv_nonneg ha (by omega)
  have e1 : ((a.fdiv b).natAbs : Int) = a.fdiv b := by omega
  have e2 : ((b.natAbs : Nat) : Int) = b := by omega
  have h4 : (a.fdiv b).natAbs * b.natAbs ≤ a.natAbs := by
    have : (((a.fdiv b).natAbs * b.natAbs : Nat) : Int) = b * a.fdiv b := by
      rw [Int.natCast_mul, e1, e2, Int.mul_comm]
    omega
  refine ⟨h4, ?_⟩
  rcases h with rfl | h
  · have : (0 : Int).fmod b = 0 := Int.zero_fmod b
    omega
  · have h5 : 1 ≤ a.fdiv b := by
      rw [e]
      exact (Int.le_ediv_iff_mul_le hb).mpr (by omega)
    have h6 : b * 1 ≤ b * a.fdiv b := Int.mul_le_mul_of_nonneg_left h5 (by omega)
    omega
theorem sgn_quot {a b : Int} (hs : (0 ≤ a ∧ 0 < b) ∨ (a ≤ 0 ∧ b < 0)) (h : a = 0 ∨ b.natAbs ≤ a.natAbs) : (a.fdiv b).natAbs * b.natAbs ≤ a.natAbs ∧ (a.fmod b).natAbs ≤ a.natAbs - b.natAbs := by
  rcases hs with ⟨h1, h2⟩ | ⟨h1, h2⟩
  · exact nat_quot h1 h2 (by omega)
  · have := nat_quot (a := -a) (b := -b) (by omega) (by omega) (by omega)
    rw [Int.neg_fdiv_neg, Int.neg_fmod_neg, Int.natAbs_neg, Int.natAbs_neg, Int.natAbs_neg] at this
    exact this
theorem sub_mul_natAbs {x q y : Int} {A B C : Nat} (hx : x.natAbs ≤ A) (hq : q.natAbs ≤ B) (hy : y.natAbs ≤ C) : (x - q * y).natAbs ≤ A + B * C := by
  have h1 : (q * y).natAbs ≤ B * C := by
    rw [Int.natAbs_mul]
    exact Nat.mul_le_mul hq hy
  omega
/-! one line of numbers, each with a vector beside it -/
structure Ln (N K : Nat) (c : Nat → Int) (w : F2) (P p o W : Nat) : Prop where
  fr : (c 1).natAbs = p
  p1 : 1 ≤ p
  oth : ∀ i, 1 < i → i < N → (c i).natAbs ≤ o
  op : o < p
  sum : p + o ≤ P
  sgn : (∀ i, 1 ≤ i → i < N → 0 ≤ c i) ∨ (∀ i, 1 ≤ i → i < N → c i ≤ 0)
  bd : ∀ i k, 1 ≤ i → i < N → k < K → (w i k).natAbs ≤ W
/-- the turn that brings v to the front -/
structure LnTurn (N K v : Nat) (c c' : Nat → Int) (w w' : F2) : Prop where
  v1 : 1 ≤ v
  vN : v < N
  nz : c v ≠ 0
  mn : ∀ i, 1 ≤ i → i < N → c i ≠ 0 → (c v).natAbs ≤ (c i).natAbs
  c1 : c' 1 = c v
  ci : ∀ i, 1 < i → i < N → c' i = (c (swp 1 v i)).fmod (c v)
  w1 : ∀ k, k < K → w' 1 k = w v k
  wi : ∀ i k, 1 < i → i < N → k < K → w' i k = w (swp 1 v i) k - (c (swp 1 v i)).fdiv (c v) * w v k
theorem LnTurn.fresh {N K v B : Nat} {c c' : Nat → Int} {w w' : F2} (t : LnTurn N K v c c' w w') (hc : ∀ i, 1 ≤ i → i < N → (c i).natAbs ≤ B) (hw : ∀ i k, 1 ≤ i → i < N → k < K → (w i k).natAbs ≤ B) :
    ∃ p, p ≤ B ∧ Ln N K c' w' (2 * p) p (p - 1) (B + B * B) := by
  have n1 : 1 < N ∨ N ≤ 1 := by omega
  have hp : 1 ≤ (c v).natAbs := by
    have := t.nz
    omega
  refine ⟨(c v).natAbs, hc v t.v1 t.vN, ⟨by rw [t.c1], hp, ?_, by omega, by omega, ?_, ?_⟩⟩
  · intro i h1 h2
    rw [t.ci i h1 h2]
    have := fmod_natAbs (c (swp 1 v i)) t.nz
    omega
  · rcases Int.lt_or_le (c v) 0 with h | h
    · refine .inr fun i h1 h2 => ?_
      rcases Nat.lt_or_ge 1 i with q | q
      · rw [t.ci i q h2]
        exact fmod_neg_sgn _ h
      · obtain rfl : i = 1 := by omega
        rw [t.c1]
        omega
    · refine .inl fun i h1 h2 => ?_
      rcases Nat.lt_or_ge 1 i with q | q
      · rw [t.ci i q h2]
        have := t.nz
        exact Int.fmod_nonneg_of_pos _ (by omega)
      · obtain rfl : i = 1 := by omega
        rw [t.c1]
        exact h
  · intro i k h1 h2 hk
    have hN : 1 < N ∨ N ≤ 1 := by omega
    rcases Nat.lt_or_ge 1 i with q | q
    · rw [t.wi i k q h2 hk]
      have e1 : 1 ≤ swp 1 v i := swp_ge h1 t.v1
      have e2 : swp 1 v i < N := swp_bd h2 (by omega) t.vN
      exact sub_mul_natAbs (hw _ k e1 e2 hk) (Nat.le_trans (fdiv_natAbs _ t.nz) (hc _ e1 e2)) (hw v k t.v1 t.vN hk)
    · obtain rfl : i = 1 := by omega
      rw [t.w1 k hk]
      exact Nat.le_trans (hw v k t.v1 t.vN hk) (Nat.le_add_right _ _)
theorem LnTurn.next {N K v P p o W : Nat} {c c' : Nat → Int} {w w' : F2} (t : LnTurn N K v c c' w w') (L : Ln N K c w P p o W) (hz : ∃ i, 1 < i ∧ i < N ∧ c i ≠ 0) :
    ∃ p' o' W', p' < p ∧ Ln N K c' w' p p' o' W' ∧ W' * p * p' ≤ W * P * p := by
  obtain ⟨i0, z1, z2, z3⟩ := hz
  have hp : 1 ≤ (c v).natAbs := by
    have := t.nz
    omega
  have po : (c v).natAbs ≤ o := Nat.le_trans (t.mn i0 (by omega) z2 z3) (L.oth i0 z1 z2)
  have hop := L.op
  have hsum := L.sum
  have big : ∀ i, 1 ≤ i → i < N → (c i).natAbs ≤ p := fun i h1 h2 => by
    rcases Nat.lt_or_ge 1 i with q | q
    · have := L.oth i q h2
      omega
    · obtain rfl : i = 1 := by omega
      exact Nat.le_of_eq L.fr
  have sg : ∀ i, 1 ≤ i → i < N → (0 ≤ c i ∧ 0 < c v) ∨ (c i ≤ 0 ∧ c v < 0) := fun i h1 h2 => by
    have hn := t.nz
    rcases L.sgn with h | h
    · have a1 := h i h1 h2
      have a2 := h v t.v1 t.vN
      exact .inl ⟨a1, by omega⟩
    · have a1 := h i h1 h2
      have a2 := h v t.v1 t.vN
      exact .inr ⟨a1, by omega⟩
  have qt : ∀ i, 1 ≤ i → i < N → ((c i).fdiv (c v)).natAbs * (c v).natAbs ≤ (c i).natAbs ∧ ((c i).fmod (c v)).natAbs ≤ (c i).natAbs - (c v).natAbs := fun i h1 h2 => by
    refine sgn_quot (sg i h1 h2) ?_
    rcases Int.decEq (c i) 0 with q | q
    · exact .inr (t.mn i h1 h2 q)
    · exact .inl q
  generalize hpv : (c v).natAbs = p' at *
  refine ⟨p', min (p' - 1) (p - p'), W + p / p' * W, by omega, ⟨by rw [t.c1, hpv], hp, ?_, by omega, by omega, ?_, ?_⟩, ?_⟩
  · intro i h1 h2
    have e1 : 1 ≤ swp 1 v i := swp_ge (by omega) t.v1
    have e2 : swp 1 v i < N := swp_bd h2 (by omega) t.vN
    rw [t.ci i h1 h2]
    have a1 := fmod_natAbs (c (swp 1 v i)) t.nz
    have a2 := (qt _ e1 e2).2
    have a3 := big _ e1 e2
    omega
  · have hn := t.nz
    rcases Int.lt_or_le (c v) 0 with h | h
    · refine .inr fun i h1 h2 => ?_
      rcases Nat.lt_or_ge 1 i with q | q
      · rw [t.ci i q h2]
        exact fmod_neg_sgn _ h
      · obtain rfl : i = 1 := by omega
        rw [t.c1]
        omega
    · refine .inl fun i h1 h2 => ?_
      rcases Nat.lt_or_ge 1 i with q | q
      · rw [t.ci i q h2]
        exact Int.fmod_nonneg_of_pos _ (by omega)
      · obtain rfl : i = 1 := by omega
        rw [t.c1]
        exact h
  · intro i k h1 h2 hk
    rcases Nat.lt_or_ge 1 i with q | q
    · rw [t.wi i k q h2 hk]
      have e1 : 1 ≤ swp 1 v i := swp_ge h1 t.v1
      have e2 : swp 1 v i < N := swp_bd h2 (by omega) t.vN
      refine sub_mul_natAbs (L.bd _ k e1 e2 hk) ?_ (L.bd v k t.v1 t.vN hk)
      have a1 := (qt _ e1 e2).1
      have a3 := big _ e1 e2
      exact (Nat.le_div_iff_mul_le (by omega)).mpr (Nat.le_trans a1 a3)
    · obtain rfl : i = 1 := by omega
      rw [t.w1 k hk]
      exact Nat.le_trans (L.bd v k t.v1 t.vN hk) (Nat.le_add_right _ _)
  · have a1 : p / p' * p' ≤ p := Nat.div_mul_le_self p p'
    have a2 : (W + p / p' * W) * p' ≤ W * P := by
      have e : (W + p / p' * W) * p' = W * (p' + p / p' * p') := by
        rw [Nat.add_mul, Nat.mul_add, Nat.mul_right_comm, Nat.mul_comm (p / p' * p') W]
      rw [e]
      exact Nat.mul_le_mul_left _ (by omega)
    calc (W + p / p' * W) * p * p' = (W + p / p' * W) * p' * p := Nat.mul_right_comm _ _ _
      _ ≤ W * P * p := Nat.mul_le_mul_right _ a2
end Lb.Gr
set_option Elab.async false
set_option linter.all false
set_option maxRecDepth 100000
set_option maxHeartbeats 4000000
namespace Lb.Gr
/-! ### the least number's place -/
abbrev T3 := Nat × Nat × Nat
def lt3 (x y : T3) : Bool := decide (x.1 < y.1 ∨ (x.1 = y.1 ∧ (x.2.1 < y.2.1 ∨ (x.2.1 = y.2.1 ∧ x.2.2 < y.2.2))))
def least3 (x : T3) (xs : List T3) : T3 := xs.foldl (fun m y => if lt3 y m then y else m) x
def cand (n g a : Nat) : List (Nat × Nat) := (List.range' a (n - a)).flatMap fun i => (List.range' a (g - a)).map fun j => (i, j)
def found (n g : Nat) (T : F2) (a : Nat) : List T3 := ((cand n g a).filter fun p => T p.1 p.2 != 0).map fun p => ((T p.1 p.2).natAbs, p.1, p.2)
def best : List T3 → Option T3
  | [] => none
  | x :: xs => some (least3 x xs)
theorem least3_spec : ∀ (xs : List T3) (x : T3), least3 x xs ∈ x :: xs ∧ ∀ y ∈ x :: xs, (least3 x xs).1 ≤ y.1
  | [], x => ⟨List.mem_cons_self, fun y h => by rw [List.mem_singleton.mp h]; exact Nat.le_refl _⟩
  | z :: xs, x => by
    have e : least3 x (z :: xs) = least3 (if lt3 z x then z else x) xs := rfl
    obtain ⟨h1, h2⟩ := least3_spec xs (if lt3 z x then z else x)
    rw [e]
    cases q : lt3 z x with
    | true =>
      rw [if_pos rfl]
      rw [q, if_pos rfl] at h1 h2
      have q1 := of_decide_eq_true q
      refine ⟨List.mem_cons_of_mem _ h1, fun y hy => ?_⟩
      rcases List.mem_cons.mp hy with rfl | hy
      · exact Nat.le_trans (h2 z List.mem_cons_self) (by omega)
      · exact h2 y hy
    | false =>
      rw [if_neg (by decide)]
      rw [q, if_neg (by decide)] at h1 h2
      have q1 := of_decide_eq_false q
      refine ⟨?_, fun y hy => ?_⟩
      · rcases List.mem_cons.mp h1 with h | h
        · rw [h]
          exact List.mem_cons_self
        · exact List.mem_cons_of_mem _ (List.mem_cons_of_mem _ h)
      · rcases List.mem_cons.mp hy with rfl | hy
        · exact h2 y List.mem_cons_self
        · rcases List.mem_cons.mp hy with rfl | hy
          · exact Nat.le_trans (h2 x List.mem_cons_self) (by omega)
          · exact h2 y (List.mem_cons_of_mem _ hy)
theorem mem_cand {n g a i j : Nat} : (i, j) ∈ cand n g a ↔ (a ≤ i ∧ i < n) ∧ a ≤ j ∧ j < g := by
  unfold cand
  rw [List.mem_flatMap]
  constructor
  · rintro ⟨i', h1, h2⟩
    obtain ⟨j', h3, h4⟩ := List.mem_map.mp h2
    rw [List.mem_range'_1] at h1 h3
    cases h4
    omega
  · rintro ⟨⟨h1, h2⟩, h3, h4⟩
    exact ⟨i, List.mem_range'_1.mpr (by omega), List.mem_map.mpr ⟨j, List.mem_range'_1.mpr (by omega), rfl⟩⟩
theorem mem_found {n g a : Nat} {T : F2} {z : T3} : z ∈ found n g T a ↔ ∃ i j, ((a ≤ i ∧ i < n) ∧ a ≤ j ∧ j < g) ∧ T i j ≠ 0 ∧ z = ((T i j).natAbs, i, j) := by
  unfold found
  rw [List.mem_map]
  constructor
  · rintro ⟨⟨i, j⟩, h1, rfl⟩
    rw [List.mem_filter] at h1
    exact ⟨i, j, mem_cand.mp h1.1, by simpa using h1.2, rfl⟩
  · rintro ⟨i, j, h1, h2, rfl⟩
    exact ⟨(i, j), List.mem_filter.mpr ⟨mem_cand.mpr h1, by simpa using h2⟩, rfl⟩
theorem best_none {n g a : Nat} {T : F2} (h : best (found n g T a) = none) : ∀ i j, a ≤ i → i < n → a ≤ j → j < g → T i j = 0 := by
  intro i j h1 h2 h3 h4
  rcases Int.decEq (T i j) 0 with q | q
  · have hm : ((T i j).natAbs, i, j) ∈ found n g T a := mem_found.mpr ⟨i, j, ⟨⟨h1, h2⟩, h3, h4⟩, q, rfl⟩
    cases e : found n g T a with
    | nil =>
      rw [e] at hm
      exact absurd hm List.not_mem_nil
    | cons x xs =>
      rw [e] at h
      exact nomatch h
  · exact q
/-- the number to bring to the front -/
structure Lst (n g : Nat) (T : F2) (a i j : Nat) : Prop where
  ai : a ≤ i
  i_n : i < n
  aj : a ≤ j
  jg : j < g
  nz : T i j ≠ 0
  mn : ∀ i' j', a ≤ i' → i' < n → a ≤ j' → j' < g → T i' j' ≠ 0 → (T i j).natAbs ≤ (T i' j').natAbs
theorem best_some {n g a : Nat} {T : F2} {z : T3} (h : best (found n g T a) = some z) : Lst n g T a z.2.1 z.2.2 ∧ z.1 = (T z.2.1 z.2.2).natAbs := by
  cases e : found n g T a with
  | nil =>
    rw [e] at h
    exact nomatch h
  | cons x xs =>
    rw [e] at h
    have hz : least3 x xs = z := Option.some.inj h
    obtain ⟨h1, h2⟩ := least3_spec xs x
    rw [← e, hz] at h1 h2
    obtain ⟨i, j, ⟨⟨r1, r2⟩, r3, r4⟩, nz, rfl⟩ := mem_found.mp h1
    refine ⟨⟨r1, r2, r3, r4, nz, fun i' j' s1 s2 s3 s4 s5 => ?_⟩, rfl⟩
    exact h2 _ (mem_found.mpr ⟨i', j', ⟨⟨s1, s2⟩, s3, s4⟩, s5, rfl⟩)
/-! ### a turn -/
structure Gs where
  T : F2
  V : F2
  a : Nat
def clr (n g a : Nat) (T : F2) : Bool := !((List.range' (a + 1) (n - (a + 1))).map (fun i => T i a) ++ (List.range' (a + 1) (g - (a + 1))).map (fun j => T a j)).any fun x => x != 0
theorem clr_iff {n g a : Nat} {T : F2} : clr n g a T = true ↔ (∀ i, a < i → i < n → T i a = 0) ∧ ∀ j, a < j → j < g → T a j = 0 := by
  unfold clr
  rw [Bool.not_eq_true', List.any_eq_false]
  constructor
  · intro h
    refine ⟨fun i h1 h2 => ?_, fun j h1 h2 => ?_⟩
    · have := h (T i a) (List.mem_append_left _ (List.mem_map.mpr ⟨i, List.mem_range'_1.mpr (by omega), rfl⟩))
      simpa using this
    · have := h (T a j) (List.mem_append_right _ (List.mem_map.mpr ⟨j, List.mem_range'_1.mpr (by omega), rfl⟩))
      simpa using this
  · rintro ⟨h1, h2⟩ x hx
    rcases List.mem_append.mp hx with hx | hx
    · obtain ⟨i, hi, rfl⟩ := List.mem_map.mp hx
      rw [List.mem_range'_1] at hi
      rw [h1 i (by omega) (by omega)]
      decide
    · obtain ⟨i, hi, rfl⟩ := List.mem_map.mp hx
      rw [List.mem_range'_1] at hi
      rw [h2 i (by omega) (by omega)]
      decide
theorem clr_false {n g a : Nat} {T : F2} (h : clr n g a T = false) : (∃ i, a < i ∧ i < n ∧ T i a ≠ 0) ∨ ∃ j, a < j ∧ j < g ∧ T a j ≠ 0 := by
  unfold clr at h
  rw [Bool.not_eq_false', List.any_eq_true] at h
  obtain ⟨x, hx, nz⟩ := h
  have nz : x ≠ 0 := by simpa using nz
  rcases List.mem_append.mp hx with hx | hx
  · obtain ⟨i, hi, rfl⟩ := List.mem_map.mp hx
    rw [List.mem_range'_1] at hi
    exact .inl ⟨i, by omega, by omega, nz⟩
  · obtain ⟨i, hi, rfl⟩ := List.mem_map.mp hx
    rw [List.mem_range'_1] at hi
    exact .inr ⟨i, by omega, by omega, nz⟩
def nxt (n g : Nat) (S : Gs) (r c : Nat) : Gs :=
  ⟨stT g S.a r c S.T, stV g S.a r c S.T S.V, if clr n g S.a (stT g S.a r c S.T) then S.a + 1 else S.a⟩
def Bd (n w B : Nat) (T : F2) : Prop := ∀ i j, i < n → j < w → (T i j).natAbs ≤ B
structure BdS (n g B : Nat) (S : Gs) : Prop where
  t : Bd n (g + n) B S.T
  v : Bd g g B S.V
theorem Bd.mono {n w B C : Nat} {T : F2} (h : Bd n w B T) (l : B ≤ C) : Bd n w C T := fun i j h1 h2 => Nat.le_trans (h i j h1 h2) l
theorem BdS.mono {n g B C : Nat} {S : Gs} (h : BdS n g B S) (l : B ≤ C) : BdS n g C S := ⟨h.t.mono l, h.v.mono l⟩
inductive Run (n g B : Nat) : Nat → Gs → Gs → Prop
  | done {S : Gs} (b : BdS n g B S) (e : best (found n g S.T S.a) = none) : Run n g B 0 S S
  | turn {S S' : Gs} {k : Nat} {z : T3} (b : BdS n g B S) (e : best (found n g S.T S.a) = some z) (r : Run n g B k (nxt n g S z.2.1 z.2.2) S') : Run n g B (k + 1) S S'
theorem Run.same {n g B : Nat} {k k' : Nat} {S S1 S2 : Gs} (h : Run n g B k S S1) (h' : Run n g B k' S S2) : S1 = S2 := by
  induction h generalizing k' S2 with
  | done b e =>
    cases h' with
    | done => rfl
    | turn _ e' _ =>
      rw [e] at e'
      exact nomatch e'
  | turn b e r ih =>
    cases h' with
    | done _ e' =>
      rw [e] at e'
      exact nomatch e'
    | turn _ e' r' =>
      rw [e] at e'
      cases e'
      exact ih r'
section
variable {n g a r c : Nat} {T V : F2}
theorem brT_aa : brT a r c T a a = T r c := by
  unfold brT
  rw [swp_left, swp_left]
theorem rwT_row {j : Nat} : rwT a T a j = T a j := if_neg (Nat.lt_irrefl a)
theorem rwT_gt {i j : Nat} (h : a < i) : rwT a T i j = T i j - (T i a).fdiv (T a a) * T a j := if_pos h
theorem rwT_le {i j : Nat} (h : i ≤ a) : rwT a T i j = T i j := if_neg (by omega)
theorem clT_in {i j : Nat} (h : a < j) (h2 : j < g) : clT g a T i j = T i j - (T a j).fdiv (T a a) * T i a := if_pos ⟨h, h2⟩
theorem clT_out {i j : Nat} (h : j ≤ a ∨ g ≤ j) : clT g a T i j = T i j := if_neg (by omega)
theorem clV_in {i j : Nat} (h : a < j) (h2 : j < g) : clV g a T V i j = V i j - (T a j).fdiv (T a a) * V i a := if_pos ⟨h, h2⟩
theorem clV_out {i j : Nat} (h : j ≤ a ∨ g ≤ j) : clV g a T V i j = V i j := if_neg (by omega)
theorem stT_aa : stT g a r c T a a = T r c := by
  unfold stT
  rw [clT_out (.inl (Nat.le_refl a)), rwT_row, brT_aa]
theorem stT_col {i : Nat} (h : a < i) : stT g a r c T i a = (T (swp a r i) c).fmod (T r c) := by
  unfold stT
  rw [clT_out (.inl (Nat.le_refl a)), rwT_gt h, brT_aa, fmod_eq]
  unfold brT
  rw [swp_left]
theorem stT_row {j : Nat} (h : a < j) (h2 : j < g) : stT g a r c T a j = (T r (swp a c j)).fmod (T r c) := by
  unfold stT
  rw [clT_in h h2, rwT_row, rwT_row, brT_aa, fmod_eq]
  unfold brT
  rw [swp_left]
/-- a crude bound of what a turn makes -/
theorem st_bd {w B : Nat} (L : Lst n g T a r c) (gw : g ≤ w) (h : Bd n w B T) : Bd n w (B * (1 + B) * (1 + B)) (stT g a r c T) := by
  have an : a < n := by have := L.ai; have := L.i_n; omega
  have ag : a < g := by have := L.aj; have := L.jg; omega
  have h1 : Bd n w B (brT a r c T) := fun i j hi hj => h _ _ (swp_bd hi an L.i_n) (swp_bd hj (by omega) (by have := L.jg; omega))
  have nz : brT a r c T a a ≠ 0 := by rw [brT_aa]; exact L.nz
  unfold stT
  generalize brT a r c T = T1 at h1 nz
  have h2 : Bd n w (B + B * B) (rwT a T1) := fun i j hi hj => by
    rcases Nat.lt_or_ge a i with q | q
    · rw [rwT_gt q]
      exact sub_mul_natAbs (h1 i j hi hj) (Nat.le_trans (fdiv_natAbs _ nz) (h1 i a hi (by omega))) (h1 a j an hj)
    · rw [rwT_le q]
      exact Nat.le_trans (h1 i j hi hj) (Nat.le_add_right _ _)
  have e : B * (1 + B) * (1 + B) = (B + B * B) + B * (B + B * B) := by
    have e1 : B * (1 + B) = B + B * B := by rw [Nat.mul_add, Nat.mul_one]
    rw [e1, Nat.mul_add (B + B * B), Nat.mul_one, Nat.mul_comm (B + B * B) B]
  rw [e]
  intro i j hi hj
  by_cases q : a < j ∧ j < g
  · rw [clT_in q.1 q.2]
    refine sub_mul_natAbs (h2 i j hi hj) ?_ (h2 i a hi (by omega))
    rw [rwT_row, rwT_row]
    exact Nat.le_trans (fdiv_natAbs _ nz) (h1 a j an hj)
  · rw [clT_out (by omega)]
    exact Nat.le_trans (h2 i j hi hj) (Nat.le_add_right _ _)
theorem stV_bd {w B : Nat} (L : Lst n g T a r c) (gw : g ≤ w) (h : Bd n w B T) (hv : Bd g g B V) : Bd g g (B + B * B) (stV g a r c T V) := by
  have an : a < n := by have := L.ai; have := L.i_n; omega
  have ag : a < g := by have := L.aj; have := L.jg; omega
  have h1 : Bd n w B (brT a r c T) := fun i j hi hj => h _ _ (swp_bd hi an L.i_n) (swp_bd hj (by omega) (by have := L.jg; omega))
  have nz : brT a r c T a a ≠ 0 := by rw [brT_aa]; exact L.nz
  have h2 : Bd g g B (brV a c V) := fun i j hi hj => hv _ _ hi (swp_bd hj ag L.jg)
  unfold stV
  intro i j hi hj
  by_cases q : a < j ∧ j < g
  · rw [clV_in q.1 q.2]
    refine sub_mul_natAbs (h2 i j hi hj) ?_ (h2 i a hi ag)
    rw [rwT_row, rwT_row]
    exact Nat.le_trans (fdiv_natAbs _ nz) (h1 a j an (by omega))
  · rw [clV_out (by omega)]
    exact Nat.le_trans (h2 i j hi hj) (Nat.le_add_right _ _)
theorem nxt_bd {B : Nat} {S : Gs} (L : Lst n g S.T S.a r c) (h : BdS n g B S) : BdS n g (B * (1 + B) * (1 + B)) (nxt n g S r c) := by
  refine ⟨st_bd L (Nat.le_add_right _ _) h.t, (stV_bd L (Nat.le_add_right _ _) h.t h.v).mono ?_⟩
  have e1 : B * (1 + B) = B + B * B := by rw [Nat.mul_add, Nat.mul_one]
  rw [e1]
  exact Nat.le_mul_of_pos_right _ (by omega)
/-- rows and columns ahead of a are clear -/
def Cl (n g a : Nat) (T : F2) : Prop := ∀ i j, i < n → j < g → i ≠ j → i < a ∨ j < a → T i j = 0
theorem Cl.zero : Cl n g 0 T := fun i j _ _ _ h => by omega
theorem Cl.st (h : Cl n g a T) (L : Lst n g T a r c) : Cl n g a (stT g a r c T) := by
  have an : a < n := by have := L.ai; have := L.i_n; omega
  have ag : a < g := by have := L.aj; have := L.jg; omega
  have h1 : Cl n g a (brT a r c T) := fun i j hi hj ne q => by
    unfold brT
    refine h _ _ (swp_bd hi an L.i_n) (swp_bd hj ag L.jg) ?_ ?_
    · rcases q with q | q
      · rw [swp_lt q L.ai]
        rcases Nat.lt_or_ge j a with z | z
        · rw [swp_lt z L.aj]
          exact ne
        · have := swp_ge z L.aj
          omega
      · rw [swp_lt q L.aj]
        rcases Nat.lt_or_ge i a with z | z
        · rw [swp_lt z L.ai]
          exact ne
        · have := swp_ge z L.ai
          omega
    · rcases q with q | q
      · rw [swp_lt q L.ai]
        exact .inl q
      · rw [swp_lt q L.aj]
        exact .inr q
  unfold stT
  generalize brT a r c T = T1 at h1
  have h2 : Cl n g a (rwT a T1) := fun i j hi hj ne q => by
    rcases Nat.lt_or_ge a i with z | z
    · rw [rwT_gt z, h1 i j hi hj ne q, h1 a j an hj (by omega) (by omega), Int.mul_zero]
      rfl
    · rw [rwT_le z]
      exact h1 i j hi hj ne q
  intro i j hi hj ne q
  by_cases z : a < j ∧ j < g
  · rw [clT_in z.1 z.2, h2 i j hi hj ne q, h2 i a hi ag (by omega) (by omega), Int.mul_zero]
    rfl
  · rw [clT_out (by omega)]
    exact h2 i j hi hj ne q
theorem Cl.next {S : Gs} (h : Cl n g S.a S.T) (L : Lst n g S.T S.a r c) : Cl n g (nxt n g S r c).a (nxt n g S r c).T := by
  have h1 := h.st L
  show Cl n g (if clr n g S.a (stT g S.a r c S.T) = true then S.a + 1 else S.a) (stT g S.a r c S.T)
  cases q : clr n g S.a (stT g S.a r c S.T) with
  | false => exact h1
  | true =>
    obtain ⟨z1, z2⟩ := clr_iff.mp q
    rw [if_pos rfl]
    intro i j hi hj ne q
    by_cases y : i < S.a ∨ j < S.a
    · exact h1 i j hi hj ne y
    · rcases q with q | q
      · obtain rfl : i = S.a := by omega
        exact z2 j (by omega) hj
      · obtain rfl : j = S.a := by omega
        exact z1 i (by omega) hi
end
theorem Run.cl {n g B k : Nat} {S S' : Gs} (h : Run n g B k S S') (hc : Cl n g S.a S.T) : ∀ i j, i < n → j < g → i ≠ j → S'.T i j = 0 := by
  induction h with
  | done b e =>
    intro i j hi hj ne
    rename_i S
    by_cases q : i < S.a ∨ j < S.a
    · exact hc i j hi hj ne q
    · exact best_none e i j (by omega) hi (by omega) hj
  | turn b e r ih => exact ih (hc.next (best_some e).1)
theorem Run.bd {n g B k : Nat} {S S' : Gs} (h : Run n g B k S S') : BdS n g B S' := by
  induction h with
  | done b e => exact b
  | turn b e r ih => exact ih
theorem Run.mono {n g B C k : Nat} {S S' : Gs} (h : Run n g B k S S') (l : B ≤ C) : Run n g C k S S' := by
  induction h with
  | done b e => exact .done (b.mono l) e
  | turn b e r ih => exact .turn (b.mono l) e ih
end Lb.Gr
set_option Elab.async false
set_option linter.all false
set_option maxRecDepth 100000
set_option maxHeartbeats 4000000
namespace Lb.Gr
/-! ### the turns end, and how great the numbers get -/
/-- the bound of all that a grid of a drawn market holds -/
def BB : Nat := 2 ^ 400
/-- the bound behind the first pivot -/
def B1 : Nat := 2 ^ 51
def step0 (B : Nat) : Nat := B * (1 + B) * (1 + B)
theorem b_chain : step0 3 = 48 ∧ step0 48 = 115248 ∧ step0 115248 ≤ B1 := by decide +kernel
theorem b1_bb : B1 ≤ BB := by decide +kernel
section
variable {n g : Nat}
/-- nothing is left where there are no more rows or columns -/
theorem run_out {S : Gs} {B : Nat} (b : BdS n g B S) (h : n ≤ S.a ∨ g ≤ S.a) : Run n g B 0 S S := by
  refine .done b ?_
  cases e : best (found n g S.T S.a) with
  | none => rfl
  | some z =>
    have L := (best_some e).1
    have := L.ai
    have := L.i_n
    have := L.aj
    have := L.jg
    omega
/-- the second pivot in one column -/
structure Cz (n : Nat) (B P p o W : Nat) (S : Gs) : Prop where
  a1 : S.a = 1
  cl : Cl n 2 1 S.T
  ln : Ln n (2 + n) (fun i => S.T i 1) S.T P p o W
  pot : W * P * p ≤ B
  r0 : ∀ j, j < 2 + n → (S.T 0 j).natAbs ≤ B
  v : Bd 2 2 B S.V
  pb : p ≤ B
  nc : ∃ i, 1 < i ∧ i < n ∧ S.T i 1 ≠ 0
theorem col_turn {S : Gs} {r c : Nat} (ha : S.a = 1) (L : Lst n 2 S.T 1 r c) : c = 1 ∧ LnTurn n (2 + n) r (fun i => S.T i 1) (fun i => (nxt n 2 S r c).T i 1) S.T (nxt n 2 S r c).T := by
  have hc : c = 1 := by
    have := L.aj
    have := L.jg
    omega
  subst hc
  have e : (nxt n 2 S r 1).T = stT 2 1 r 1 S.T := by
    show stT 2 S.a r 1 S.T = _
    rw [ha]
  have s1 : ∀ j, swp 1 1 j = j := fun j => by
    unfold swp
    split
    · omega
    · rfl
  have e2 : ∀ i j, (nxt n 2 S r 1).T i j = rwT 1 (brT 1 r 1 S.T) i j := fun i j => by
    rw [e]
    unfold stT
    exact clT_out (by omega)
  refine ⟨rfl, ⟨L.ai, L.i_n, L.nz, fun i h1 h2 nz => L.mn i 1 h1 h2 (by omega) (by omega) nz, ?_, ?_, ?_, ?_⟩⟩
  · show (nxt n 2 S r 1).T 1 1 = _
    rw [e]
    exact stT_aa
  · intro i h1 h2
    show (nxt n 2 S r 1).T i 1 = _
    rw [e]
    exact stT_col h1
  · intro k hk
    rw [e2, rwT_row]
    unfold brT
    rw [swp_left, s1]
  · intro i k h1 h2 hk
    rw [e2, rwT_gt h1, brT_aa]
    unfold brT
    simp only [swp_left, s1]
theorem col_rest {S : Gs} {r c : Nat} {B : Nat} (ha : S.a = 1) (L : Lst n 2 S.T 1 r c) (r0 : ∀ j, j < 2 + n → (S.T 0 j).natAbs ≤ B) (v : Bd 2 2 B S.V) :
    (∀ j, j < 2 + n → ((nxt n 2 S r c).T 0 j).natAbs ≤ B) ∧ Bd 2 2 B (nxt n 2 S r c).V := by
  have hc : c = 1 := by
    have := L.aj
    have := L.jg
    omega
  subst hc
  have s1 : ∀ j, swp 1 1 j = j := fun j => by
    unfold swp
    split
    · omega
    · rfl
  constructor
  · intro j hj
    show (stT 2 S.a r 1 S.T 0 j).natAbs ≤ B
    rw [ha]
    unfold stT
    rw [clT_out (by omega), rwT_le (by omega)]
    unfold brT
    rw [s1, swp_lt (by omega) L.ai]
    exact r0 j hj
  · intro i j hi hj
    show (stV 2 S.a r 1 S.T S.V i j).natAbs ≤ B
    rw [ha]
    unfold stV
    rw [clV_out (by omega)]
    unfold brV
    rw [s1]
    exact v i j hi hj
theorem cz_bd {S : Gs} {B P p o W : Nat} (h : Cz n B P p o W S) : BdS n 2 B S := by
  refine ⟨fun i j hi hj => ?_, h.v⟩
  cases i with
  | zero => exact h.r0 j hj
  | succ i =>
    have h1 := h.ln.bd (i + 1) j (by omega) hi hj
    have h2 := h.ln.p1
    have h3 := h.ln.sum
    have h4 := h.pot
    have h5 : W * 1 * 1 ≤ W * P * p := Nat.mul_le_mul (Nat.mul_le_mul_left _ (by omega)) h2
    omega
theorem cz_run {B : Nat} : ∀ (p : Nat) {P o W : Nat} {S : Gs}, Cz n B P p o W S → ∃ k S', Run n 2 B k S S' := by
  intro p
  induction p using Nat.strongRecOn with
  | _ p ih =>
    intro P o W S h
    have ha := h.a1
    cases e : best (found n 2 S.T S.a) with
    | none => exact ⟨_, _, .done (cz_bd h) e⟩
    | some z =>
      have L := (best_some e).1
      have hcl : Cl n 2 S.a S.T := by
        rw [ha]
        exact h.cl
      have cl2 := hcl.next L
      rw [ha] at L
      obtain ⟨_, t⟩ := col_turn ha L
      obtain ⟨p', o', W', hp, ln, pot⟩ := t.next h.ln h.nc
      obtain ⟨q1, q2⟩ := col_rest ha L h.r0 h.v
      have bd' : BdS n 2 B (nxt n 2 S z.2.1 z.2.2) := by
        refine ⟨fun i j hi hj => ?_, q2⟩
        cases i with
        | zero => exact q1 j hj
        | succ i =>
          have h1 := ln.bd (i + 1) j (by omega) hi hj
          have h2 := ln.p1
          have h3 := ln.sum
          have h4 := h.pot
          have h5 : W' * 1 * 1 ≤ W' * p * p' := Nat.mul_le_mul (Nat.mul_le_mul_left _ (by omega)) h2
          omega
      cases q : clr n 2 S.a (stT 2 S.a z.2.1 z.2.2 S.T) with
      | true =>
        have ea : (nxt n 2 S z.2.1 z.2.2).a = 2 := by
          show (if clr n 2 S.a (stT 2 S.a z.2.1 z.2.2 S.T) = true then S.a + 1 else S.a) = 2
          rw [q, if_pos rfl, ha]
        exact ⟨_, _, .turn (cz_bd h) e (run_out bd' (.inr (by omega)))⟩
      | false =>
        have ea : (nxt n 2 S z.2.1 z.2.2).a = 1 := by
          show (if clr n 2 S.a (stT 2 S.a z.2.1 z.2.2 S.T) = true then S.a + 1 else S.a) = 1
          rw [q, if_neg (by decide), ha]
        have nc : ∃ i, 1 < i ∧ i < n ∧ (nxt n 2 S z.2.1 z.2.2).T i 1 ≠ 0 := by
          rw [ha] at q
          rcases clr_false q with ⟨i, h1, h2, h3⟩ | ⟨j, h1, h2, _⟩
          · refine ⟨i, h1, h2, ?_⟩
            show stT 2 S.a z.2.1 z.2.2 S.T i 1 ≠ 0
            rw [ha]
            exact h3
          · omega
        rw [ea] at cl2
        obtain ⟨k, S', r⟩ := ih p' hp ⟨ea, cl2, ln, Nat.le_trans pot h.pot, q1, q2, Nat.le_trans (Nat.le_of_lt hp) h.pb, nc⟩
        exact ⟨_, _, .turn (cz_bd h) e r⟩
/-- the bound of what the second pivot makes -/
theorem b_pot {p B : Nat} (h : p ≤ B) (hB : B = B1) : (B + B * B) * (2 * p) * p ≤ BB := by
  subst hB
  refine Nat.le_trans (Nat.mul_le_mul (Nat.mul_le_mul_left _ (Nat.mul_le_mul_left _ h)) h) ?_
  decide +kernel
theorem col_run {S : Gs} (ha : S.a = 1) (hcl : Cl n 2 1 S.T) (b : BdS n 2 B1 S) : ∃ k S', Run n 2 BB k S S' := by
  have b' := b.mono b1_bb
  cases e : best (found n 2 S.T S.a) with
  | none => exact ⟨_, _, .done b' e⟩
  | some z =>
    have L := (best_some e).1
    have hcl' : Cl n 2 S.a S.T := by
      rw [ha]
      exact hcl
    have cl2 := hcl'.next L
    have big := (nxt_bd L b).mono (C := BB) (by decide +kernel)
    rw [ha] at L
    obtain ⟨_, t⟩ := col_turn ha L
    obtain ⟨p, hp, ln⟩ := t.fresh (B := B1) (fun i h1 h2 => b.t i 1 h2 (by omega)) (fun i k h1 h2 hk => b.t i k h2 hk)
    cases q : clr n 2 S.a (stT 2 S.a z.2.1 z.2.2 S.T) with
    | true =>
      have ea : (nxt n 2 S z.2.1 z.2.2).a = 2 := by
        show (if clr n 2 S.a (stT 2 S.a z.2.1 z.2.2 S.T) = true then S.a + 1 else S.a) = 2
        rw [q, if_pos rfl, ha]
      exact ⟨_, _, .turn b' e (run_out big (.inr (by omega)))⟩
    | false =>
      have ea : (nxt n 2 S z.2.1 z.2.2).a = 1 := by
        show (if clr n 2 S.a (stT 2 S.a z.2.1 z.2.2 S.T) = true then S.a + 1 else S.a) = 1
        rw [q, if_neg (by decide), ha]
      have nc : ∃ i, 1 < i ∧ i < n ∧ (nxt n 2 S z.2.1 z.2.2).T i 1 ≠ 0 := by
        rw [ha] at q
        rcases clr_false q with ⟨i, h1, h2, h3⟩ | ⟨j, h1, h2, _⟩
        · refine ⟨i, h1, h2, ?_⟩
          show stT 2 S.a z.2.1 z.2.2 S.T i 1 ≠ 0
          rw [ha]
          exact h3
        · omega
      rw [ea] at cl2
      have n0 : 0 < n := by have := L.i_n; omega
      obtain ⟨k, S', r⟩ := cz_run p ⟨ea, cl2, ln, b_pot hp rfl, fun j hj => big.t 0 j n0 hj, big.v, Nat.le_trans hp b1_bb, nc⟩
      exact ⟨_, _, .turn b' e r⟩
/-! the second pivot in one row -/
structure Rz (g : Nat) (B P p o W : Nat) (S : Gs) : Prop where
  a1 : S.a = 1
  cl : Cl 2 g 1 S.T
  ln : Ln g g (fun j => S.T 1 j) (fun j i => S.V i j) P p o W
  pot : W * P * p ≤ B
  t0 : ∀ j, j < g + 2 → (j = 0 ∨ g ≤ j) → ∀ i, i < 2 → (S.T i j).natAbs ≤ B
  v0 : ∀ i, i < g → (S.V i 0).natAbs ≤ B
  pb : p ≤ B
  nc : ∃ j, 1 < j ∧ j < g ∧ S.T 1 j ≠ 0
theorem row_turn {S : Gs} {r c : Nat} (ha : S.a = 1) (L : Lst 2 g S.T 1 r c) : r = 1 ∧ LnTurn g g c (fun j => S.T 1 j) (fun j => (nxt 2 g S r c).T 1 j) (fun j i => S.V i j) (fun j i => (nxt 2 g S r c).V i j) := by
  have hr : r = 1 := by
    have := L.ai
    have := L.i_n
    omega
  subst hr
  have e : (nxt 2 g S 1 c).T = stT g 1 1 c S.T := by
    show stT g S.a 1 c S.T = _
    rw [ha]
  have ev : (nxt 2 g S 1 c).V = stV g 1 1 c S.T S.V := by
    show stV g S.a 1 c S.T S.V = _
    rw [ha]
  refine ⟨rfl, ⟨L.aj, L.jg, L.nz, fun j h1 h2 nz => L.mn 1 j (by omega) (by omega) h1 h2 nz, ?_, ?_, ?_, ?_⟩⟩
  · show (nxt 2 g S 1 c).T 1 1 = _
    rw [e]
    exact stT_aa
  · intro j h1 h2
    show (nxt 2 g S 1 c).T 1 j = _
    rw [e]
    exact stT_row h1 h2
  · intro i hi
    show (nxt 2 g S 1 c).V i 1 = _
    rw [ev]
    unfold stV
    rw [clV_out (by omega)]
    unfold brV
    rw [swp_left]
  · intro j i h1 h2 hi
    show (nxt 2 g S 1 c).V i j = _
    rw [ev]
    unfold stV
    rw [clV_in h1 h2, rwT_row, rwT_row, brT_aa]
    unfold brV brT
    rw [swp_left, swp_left]
theorem row_rest {S : Gs} {r c : Nat} {B : Nat} (ha : S.a = 1) (L : Lst 2 g S.T 1 r c) (t0 : ∀ j, j < g + 2 → (j = 0 ∨ g ≤ j) → ∀ i, i < 2 → (S.T i j).natAbs ≤ B) (v0 : ∀ i, i < g → (S.V i 0).natAbs ≤ B) :
    (∀ j, j < g + 2 → (j = 0 ∨ g ≤ j) → ∀ i, i < 2 → ((nxt 2 g S r c).T i j).natAbs ≤ B) ∧ ∀ i, i < g → ((nxt 2 g S r c).V i 0).natAbs ≤ B := by
  have hr : r = 1 := by
    have := L.ai
    have := L.i_n
    omega
  subst hr
  have s1 : ∀ j, swp 1 1 j = j := fun j => by
    unfold swp
    split
    · omega
    · rfl
  have c1 := L.aj
  have cg := L.jg
  constructor
  · intro j hj hz i hi
    show (stT g S.a 1 c S.T i j).natAbs ≤ B
    rw [ha]
    unfold stT
    rw [clT_out (by omega), rwT_le (by omega)]
    unfold brT
    rw [s1]
    have es : swp 1 c j = j := by
      rcases hz with rfl | hz
      · exact swp_lt (by omega) c1
      · exact swp_gt (by omega) c1
    rw [es]
    exact t0 j hj hz i hi
  · intro i hi
    show (stV g S.a 1 c S.T S.V i 0).natAbs ≤ B
    rw [ha]
    unfold stV
    rw [clV_out (by omega)]
    unfold brV
    rw [swp_lt (by omega) c1]
    exact v0 i hi
theorem rz_bd' {S : Gs} {B P p o W : Nat} (g1 : 1 ≤ g) (cl : Cl 2 g 1 S.T) (ln : Ln g g (fun j => S.T 1 j) (fun j i => S.V i j) P p o W) (pot : W * P * p ≤ B)
    (t0 : ∀ j, j < g + 2 → (j = 0 ∨ g ≤ j) → ∀ i, i < 2 → (S.T i j).natAbs ≤ B) (v0 : ∀ i, i < g → (S.V i 0).natAbs ≤ B) (pb : p ≤ B) : BdS 2 g B S := by
  have h2 := ln.p1
  have h3 := ln.sum
  have h5 : W * 1 * 1 ≤ W * P * p := Nat.mul_le_mul (Nat.mul_le_mul_left _ (by omega)) h2
  constructor
  · intro i j hi hj
    by_cases z : j = 0 ∨ g ≤ j
    · exact t0 j hj z i hi
    · rcases Nat.lt_or_ge i 1 with q | q
      · obtain rfl : i = 0 := by omega
        rw [cl 0 j (by omega) (by omega) (by omega) (.inl (by omega))]
        exact Nat.zero_le _
      · obtain rfl : i = 1 := by omega
        rcases Nat.lt_or_ge 1 j with y | y
        · have := ln.oth j y (by omega)
          have := ln.op
          omega
        · obtain rfl : j = 1 := by omega
          have := ln.fr
          omega
  · intro i j hi hj
    cases j with
    | zero => exact v0 i hi
    | succ j =>
      have := ln.bd (j + 1) i (by omega) hj hi
      omega
theorem rz_bd {S : Gs} {B P p o W : Nat} (h : Rz g B P p o W S) : BdS 2 g B S := by
  obtain ⟨j, h1, h2, _⟩ := h.nc
  exact rz_bd' (by omega) h.cl h.ln h.pot h.t0 h.v0 h.pb
theorem rz_run {B : Nat} : ∀ (p : Nat) {P o W : Nat} {S : Gs}, Rz g B P p o W S → ∃ k S', Run 2 g B k S S' := by
  intro p
  induction p using Nat.strongRecOn with
  | _ p ih =>
    intro P o W S h
    have ha := h.a1
    cases e : best (found 2 g S.T S.a) with
    | none => exact ⟨_, _, .done (rz_bd h) e⟩
    | some z =>
      have L := (best_some e).1
      have hcl : Cl 2 g S.a S.T := by
        rw [ha]
        exact h.cl
      have cl2 := hcl.next L
      have cl1 := hcl.st L
      rw [ha] at L
      obtain ⟨_, t⟩ := row_turn ha L
      obtain ⟨p', o', W', hp, ln, pot⟩ := t.next h.ln h.nc
      obtain ⟨q1, q2⟩ := row_rest ha L h.t0 h.v0
      have pb' : p' ≤ B := Nat.le_trans (Nat.le_of_lt hp) h.pb
      have pot' := Nat.le_trans pot h.pot
      have bd' : BdS 2 g B (nxt 2 g S z.2.1 z.2.2) := by
        refine rz_bd' (by have := L.jg; omega) ?_ ln pot' q1 q2 pb'
        rw [ha] at cl1
        show Cl 2 g 1 (stT g S.a z.2.1 z.2.2 S.T)
        rw [ha]
        exact cl1
      cases q : clr 2 g S.a (stT g S.a z.2.1 z.2.2 S.T) with
      | true =>
        have ea : (nxt 2 g S z.2.1 z.2.2).a = 2 := by
          show (if clr 2 g S.a (stT g S.a z.2.1 z.2.2 S.T) = true then S.a + 1 else S.a) = 2
          rw [q, if_pos rfl, ha]
        exact ⟨_, _, .turn (rz_bd h) e (run_out bd' (.inl (by omega)))⟩
      | false =>
        have ea : (nxt 2 g S z.2.1 z.2.2).a = 1 := by
          show (if clr 2 g S.a (stT g S.a z.2.1 z.2.2 S.T) = true then S.a + 1 else S.a) = 1
          rw [q, if_neg (by decide), ha]
        have nc : ∃ j, 1 < j ∧ j < g ∧ (nxt 2 g S z.2.1 z.2.2).T 1 j ≠ 0 := by
          rw [ha] at q
          rcases clr_false q with ⟨i, h1, h2, h3⟩ | ⟨j, h1, h2, h3⟩
          · omega
          · refine ⟨j, h1, h2, ?_⟩
            show stT g S.a z.2.1 z.2.2 S.T 1 j ≠ 0
            rw [ha]
            exact h3
        rw [ea] at cl2
        obtain ⟨k, S', r⟩ := ih p' hp ⟨ea, cl2, ln, pot', q1, q2, pb', nc⟩
        exact ⟨_, _, .turn (rz_bd h) e r⟩
theorem row_run {S : Gs} (ha : S.a = 1) (hcl : Cl 2 g 1 S.T) (b : BdS 2 g B1 S) : ∃ k S', Run 2 g BB k S S' := by
  have b' := b.mono b1_bb
  cases e : best (found 2 g S.T S.a) with
  | none => exact ⟨_, _, .done b' e⟩
  | some z =>
    have L := (best_some e).1
    have hcl' : Cl 2 g S.a S.T := by
      rw [ha]
      exact hcl
    have cl2 := hcl'.next L
    have big := (nxt_bd L b).mono (C := BB) (by decide +kernel)
    rw [ha] at L
    obtain ⟨_, t⟩ := row_turn ha L
    obtain ⟨p, hp, ln⟩ := t.fresh (B := B1) (fun i h1 h2 => b.t 1 i (by omega) (by omega)) (fun i k h1 h2 hk => b.v k i hk h2)
    cases q : clr 2 g S.a (stT g S.a z.2.1 z.2.2 S.T) with
    | true =>
      have ea : (nxt 2 g S z.2.1 z.2.2).a = 2 := by
        show (if clr 2 g S.a (stT g S.a z.2.1 z.2.2 S.T) = true then S.a + 1 else S.a) = 2
        rw [q, if_pos rfl, ha]
      exact ⟨_, _, .turn b' e (run_out big (.inl (by omega)))⟩
    | false =>
      have ea : (nxt 2 g S z.2.1 z.2.2).a = 1 := by
        show (if clr 2 g S.a (stT g S.a z.2.1 z.2.2 S.T) = true then S.a + 1 else S.a) = 1
        rw [q, if_neg (by decide), ha]
      have nc : ∃ j, 1 < j ∧ j < g ∧ (nxt 2 g S z.2.1 z.2.2).T 1 j ≠ 0 := by
        rw [ha] at q
        rcases clr_false q with ⟨i, h1, h2, h3⟩ | ⟨j, h1, h2, h3⟩
        · omega
        · refine ⟨j, h1, h2, ?_⟩
          show stT g S.a z.2.1 z.2.2 S.T 1 j ≠ 0
          rw [ha]
          exact h3
      rw [ea] at cl2
      have g0 : 0 < g := by have := L.jg; omega
      obtain ⟨k, S', r⟩ := rz_run p ⟨ea, cl2, ln, b_pot hp rfl, fun j hj _ i hi => big.t i j hi hj, fun i hi => big.v i 0 hi g0, Nat.le_trans hp b1_bb, nc⟩
      exact ⟨_, _, .turn b' e r⟩
/-! the first pivot -/
/-- the market's size -/
def Small (n g : Nat) : Prop := n ≤ 1 ∨ g ≤ 1 ∨ g = 2 ∨ n = 2
theorem run1 (hs : Small n g) {S : Gs} (ha : S.a = 1) (hcl : Cl n g 1 S.T) (b : BdS n g B1 S) : ∃ k S', Run n g BB k S S' := by
  rcases hs with h | h | rfl | rfl
  · exact ⟨_, _, run_out (b.mono b1_bb) (.inl (by omega))⟩
  · exact ⟨_, _, run_out (b.mono b1_bb) (.inr (by omega))⟩
  · exact col_run ha hcl b
  · exact row_run ha hcl b
theorem run0 (hs : Small n g) : ∀ (m B : Nat) {S : Gs}, S.a = 0 → BdS n g B S → ((m = 3 ∧ B = 3) ∨ (m = 2 ∧ B = 48) ∨ (m = 1 ∧ B = 115248)) → (∀ i j, i < n → j < g → S.T i j ≠ 0 → m < 3 → ∃ i' j', i' < n ∧ j' < g ∧ S.T i' j' ≠ 0 ∧ (S.T i' j').natAbs ≤ m) → ∃ k S', Run n g BB k S S' := by
  intro m
  induction m with
  | zero =>
    intro B S _ _ h _
    omega
  | succ m ih =>
    intro B S ha b hm hz
    have hB : B ≤ B1 := by
      have := b_chain
      have e : B1 = 2251799813685248 := by decide +kernel
      omega
    have b' := b.mono (Nat.le_trans hB b1_bb)
    cases e : best (found n g S.T S.a) with
    | none => exact ⟨_, _, .done b' e⟩
    | some z =>
      have L := (best_some e).1
      have hcl : Cl n g S.a S.T := by
        rw [ha]
        exact Cl.zero
      have cl2 := hcl.next L
      have b2 := nxt_bd L b
      have hp : (S.T z.2.1 z.2.2).natAbs ≤ m + 1 := by
        rcases Nat.lt_or_ge (m + 1) 3 with q | q
        · obtain ⟨i', j', h1, h2, h3, h4⟩ := hz _ _ L.i_n L.jg L.nz q
          exact Nat.le_trans (L.mn i' j' (by omega) h1 (by omega) h2 h3) h4
        · have := b.t _ _ L.i_n (by have := L.jg; omega : z.2.2 < g + n)
          omega
      cases q : clr n g S.a (stT g S.a z.2.1 z.2.2 S.T) with
      | true =>
        have ea : (nxt n g S z.2.1 z.2.2).a = 1 := by
          show (if clr n g S.a (stT g S.a z.2.1 z.2.2 S.T) = true then S.a + 1 else S.a) = 1
          rw [q, if_pos rfl, ha]
        rw [ea] at cl2
        have hb : B * (1 + B) * (1 + B) ≤ B1 := by
          have c := b_chain
          have e : B1 = 2251799813685248 := by decide +kernel
          rcases hm with ⟨_, rfl⟩ | ⟨_, rfl⟩ | ⟨_, rfl⟩
          · omega
          · omega
          · exact c.2.2
        obtain ⟨k, S', r⟩ := run1 hs ea cl2 (b2.mono hb)
        exact ⟨_, _, .turn b' e r⟩
      | false =>
        have ea : (nxt n g S z.2.1 z.2.2).a = 0 := by
          show (if clr n g S.a (stT g S.a z.2.1 z.2.2 S.T) = true then S.a + 1 else S.a) = 0
          rw [q, if_neg (by decide), ha]
        have hw : ∃ i' j', i' < n ∧ j' < g ∧ (nxt n g S z.2.1 z.2.2).T i' j' ≠ 0 ∧ ((nxt n g S z.2.1 z.2.2).T i' j').natAbs ≤ m := by
          have an : S.a < n := by have := L.ai; have := L.i_n; omega
          have ag : S.a < g := by have := L.aj; have := L.jg; omega
          rcases clr_false q with ⟨i, h1, h2, h3⟩ | ⟨j, h1, h2, h3⟩
          · refine ⟨i, S.a, h2, ag, h3, ?_⟩
            show (stT g S.a z.2.1 z.2.2 S.T i S.a).natAbs ≤ m
            rw [stT_col h1]
            have := fmod_natAbs (S.T (swp S.a z.2.1 i) z.2.2) L.nz
            omega
          · refine ⟨S.a, j, an, h2, h3, ?_⟩
            show (stT g S.a z.2.1 z.2.2 S.T S.a j).natAbs ≤ m
            rw [stT_row h1 h2]
            have := fmod_natAbs (S.T z.2.1 (swp S.a z.2.2 j)) L.nz
            omega
        have m0 : m ≠ 0 := by
          obtain ⟨i', j', _, _, h3, h4⟩ := hw
          omega
        obtain ⟨k, S', r⟩ := ih (B * (1 + B) * (1 + B)) ea b2 (by
          have c := b_chain
          unfold step0 at c
          rcases hm with ⟨_, rfl⟩ | ⟨_, rfl⟩ | ⟨_, rfl⟩
          · exact .inr (.inl ⟨by omega, c.1⟩)
          · exact .inr (.inr ⟨by omega, c.2.1⟩)
          · omega) (fun _ _ _ _ _ _ => hw)
        exact ⟨_, _, .turn b' e r⟩
/-- each grid of a small market comes to its end -/
theorem run_all (hs : Small n g) {S : Gs} (ha : S.a = 0) (b : BdS n g 3 S) : ∃ k S', Run n g BB k S S' :=
  run0 hs 3 3 ha b (.inl ⟨rfl, rfl⟩) fun i j _ _ _ h => by omega
end
end Lb.Gr
set_option Elab.async false
set_option linter.all false
set_option maxRecDepth 100000
set_option maxHeartbeats 4000000
namespace Lb.Gr
/-! ### what the turns keep -/
def dot : Nat → (Nat → Int) → (Nat → Int) → Int
  | 0, _, _ => 0
  | n + 1, x, y => dot n x y + x n * y n
theorem dot_add (n : Nat) (x y z : Nat → Int) : dot n x (fun k => y k + z k) = dot n x y + dot n x z := by
  induction n with
  | zero => rfl
  | succ n ih =>
    show dot n x (fun k => y k + z k) + x n * (y n + z n) = (dot n x y + x n * y n) + (dot n x z + x n * z n)
    rw [ih, Int.mul_add]
    omega
theorem dot_smul (n : Nat) (x y : Nat → Int) (q : Int) : dot n x (fun k => q * y k) = q * dot n x y := by
  induction n with
  | zero => exact (Int.mul_zero q).symm
  | succ n ih =>
    show dot n x (fun k => q * y k) + x n * (q * y n) = q * (dot n x y + x n * y n)
    rw [ih, Int.mul_add, Int.mul_left_comm]
theorem dot_sub (n : Nat) (x y z : Nat → Int) (q : Int) : dot n x (fun k => y k - q * z k) = dot n x y - q * dot n x z := by
  have e : (fun k => y k - q * z k) = fun k => y k + (-q) * z k := by
    funext k
    rw [Int.neg_mul]
    omega
  rw [e, dot_add, dot_smul, Int.neg_mul]
  omega
theorem dot_comm (n : Nat) (x y : Nat → Int) : dot n x y = dot n y x := by
  induction n with
  | zero => rfl
  | succ n ih =>
    show dot n x y + x n * y n = dot n y x + y n * x n
    rw [ih, Int.mul_comm]
theorem dot_congr {n : Nat} {x x' y y' : Nat → Int} (hx : ∀ k, k < n → x k = x' k) (hy : ∀ k, k < n → y k = y' k) : dot n x y = dot n x' y' := by
  induction n with
  | zero => rfl
  | succ n ih =>
    show dot n x y + x n * y n = dot n x' y' + x' n * y' n
    rw [ih (fun k h => hx k (by omega)) (fun k h => hy k (by omega)), hx n (by omega), hy n (by omega)]
theorem dot_zero {n : Nat} {x y : Nat → Int} (h : ∀ k, k < n → y k = 0) : dot n x y = 0 := by
  induction n with
  | zero => rfl
  | succ n ih =>
    show dot n x y + x n * y n = 0
    rw [ih fun k h' => h k (by omega), h n (by omega), Int.mul_zero]
    rfl
theorem dot_unit {n c : Nat} (x : Nat → Int) (h : c < n) : dot n x (fun k => if k = c then 1 else 0) = x c := by
  induction n with
  | zero => omega
  | succ n ih =>
    show dot n x (fun k => if k = c then 1 else 0) + x n * (if n = c then 1 else 0) = x c
    by_cases q : n = c
    · subst q
      rw [if_pos rfl, dot_zero (fun k hk => if_neg (by omega)), Int.mul_one]
      omega
    · rw [if_neg q, ih (by omega), Int.mul_zero]
      omega
section
variable {n g a r c : Nat} {T V A : F2}
/-- what a trade counts in the columns -/
def av (g : Nat) (A V : F2) (k c : Nat) : Int := dot g (A k) fun m => V m c
inductive Sp (n : Nat) (T : F2) : (Nat → Int) → Prop
  | zero : Sp n T fun _ => 0
  | add {v : Nat → Int} (i : Nat) (q : Int) (h : i < n) (s : Sp n T v) : Sp n T fun j => v j + q * T i j
theorem Sp.eq {v w : Nat → Int} (h : Sp n T v) (e : ∀ j, v j = w j) : Sp n T w := by
  have : v = w := funext e
  rwa [this] at h
theorem Sp.row {i : Nat} (h : i < n) : Sp n T (T i) := (Sp.zero.add i 1 h).eq fun j => by
  rw [Int.one_mul]
  omega
theorem Sp.br (ra : a < n) (rr : r < n) {v : Nat → Int} (h : Sp n T v) : Sp n (brT a r c T) fun j => v (swp a c j) := by
  induction h with
  | zero => exact .zero
  | add i q h s ih =>
    refine (ih.add (swp a r i) q (swp_bd h ra rr)).eq fun j => ?_
    unfold brT
    rw [swp_swp]
theorem Sp.rw (ra : a < n) {v : Nat → Int} (h : Sp n T v) : Sp n (rwT a T) v := by
  induction h with
  | zero => exact .zero
  | @add v i q h s ih =>
    rcases Nat.lt_or_ge a i with z | z
    · refine ((ih.add i q h).add a (q * (T i a).fdiv (T a a)) ra).eq fun j => ?_
      rw [rwT_gt z, rwT_row, Int.mul_sub, Int.mul_assoc]
      omega
    · refine (ih.add i q h).eq fun j => ?_
      rw [rwT_le z]
def colF (g a : Nat) (T : F2) (v : Nat → Int) : Nat → Int := fun j => if a < j ∧ j < g then v j - (T a j).fdiv (T a a) * v a else v j
theorem Sp.cl {v : Nat → Int} (h : Sp n T v) : Sp n (clT g a T) (colF g a T v) := by
  induction h with
  | zero =>
    refine Sp.zero.eq fun j => ?_
    unfold colF
    split
    · rw [Int.mul_zero]
      rfl
    · rfl
  | @add v i q h s ih =>
    refine (ih.add i q h).eq fun j => ?_
    unfold colF clT
    dsimp only
    generalize (T a j).fdiv (T a a) = f
    split
    · rw [Int.mul_sub, Int.mul_add, Int.mul_left_comm f q]
      omega
    · rfl
/-- the grid tells the sums of the trades -/
structure Kpt (n g : Nat) (A T V : F2) : Prop where
  sp : ∀ k, k < n → ∃ v, Sp n T v ∧ ∀ c, c < g → v c = av g A V k c
  u : ∀ i c, i < n → c < g → T i c = dot n (fun k => T i (g + k)) fun k => av g A V k c
  inj : ∀ x : Nat → Int, (∀ c, c < g → dot g x (fun m => V m c) = 0) → ∀ m, m < g → x m = 0
theorem Kpt.br (h : Kpt n g A T V) (an : a < n) (rn : r < n) (ag : a < g) (cg : c < g) : Kpt n g A (brT a r c T) (brV a c V) := by
  refine ⟨fun k hk => ?_, fun i j hi hj => ?_, fun x hx => h.inj x fun j hj => ?_⟩
  · obtain ⟨v, s, e⟩ := h.sp k hk
    exact ⟨_, s.br (c := c) an rn, fun j hj => e _ (swp_bd hj ag cg)⟩
  · have e := h.u (swp a r i) (swp a c j) (swp_bd hi an rn) (swp_bd hj ag cg)
    show T (swp a r i) (swp a c j) = _
    rw [e]
    refine dot_congr (fun k _ => ?_) fun k _ => rfl
    show _ = T (swp a r i) (swp a c (g + k))
    congr 1
    unfold swp
    rw [if_neg (by omega), if_neg (by omega)]
  · have := hx (swp a c j) (swp_bd hj ag cg)
    unfold brV at this
    rwa [swp_swp] at this
theorem Kpt.rw (h : Kpt n g A T V) (an : a < n) : Kpt n g A (rwT a T) V := by
  refine ⟨fun k hk => ?_, fun i j hi hj => ?_, h.inj⟩
  · obtain ⟨v, s, e⟩ := h.sp k hk
    exact ⟨v, s.rw an, e⟩
  · rcases Nat.lt_or_ge a i with z | z
    · rw [rwT_gt z, h.u i j hi hj, h.u a j an hj, dot_comm, dot_comm n (fun k => T a (g + k)), ← dot_sub, dot_comm]
      exact dot_congr (fun k _ => (rwT_gt z).symm) fun _ _ => rfl
    · rw [rwT_le z, h.u i j hi hj]
      exact dot_congr (fun k _ => (rwT_le z).symm) fun _ _ => rfl
theorem av_cl {k j : Nat} (q : a < j ∧ j < g) : av g A (clV g a T V) k j = av g A V k j - (T a j).fdiv (T a a) * av g A V k a := by
  unfold av
  rw [← dot_sub]
  exact dot_congr (fun _ _ => rfl) fun m _ => clV_in q.1 q.2
theorem av_cl' {k j : Nat} (q : ¬ (a < j ∧ j < g)) : av g A (clV g a T V) k j = av g A V k j := by
  unfold av
  exact dot_congr (fun _ _ => rfl) fun m _ => clV_out (by omega)
theorem Kpt.cl (h : Kpt n g A T V) (ag : a < g) : Kpt n g A (clT g a T) (clV g a T V) := by
  refine ⟨fun k hk => ?_, fun i j hi hj => ?_, fun x hx => h.inj x fun j hj => ?_⟩
  · obtain ⟨v, s, e⟩ := h.sp k hk
    refine ⟨_, s.cl (g := g) (a := a), fun j hj => ?_⟩
    unfold colF
    by_cases q : a < j ∧ j < g
    · rw [if_pos q, av_cl q, e j hj, e a ag]
    · rw [if_neg q, av_cl' q, e j hj]
  · have eu : ∀ y : Nat → Int, dot n (fun k => clT g a T i (g + k)) y = dot n (fun k => T i (g + k)) y := fun y => dot_congr (fun k _ => clT_out (.inr (Nat.le_add_right g k))) fun _ _ => rfl
    rw [eu]
    by_cases q : a < j ∧ j < g
    · rw [clT_in q.1 q.2, h.u i j hi hj, h.u i a hi ag, ← dot_sub]
      exact dot_congr (fun _ _ => rfl) fun k _ => (av_cl q).symm
    · rw [clT_out (by omega), h.u i j hi hj]
      exact dot_congr (fun _ _ => rfl) fun k _ => (av_cl' q).symm
  · have e0 : dot g x (fun m => V m a) = 0 := by
      have := hx a ag
      have e : dot g x (fun m => clV g a T V m a) = dot g x (fun m => V m a) := dot_congr (fun _ _ => rfl) fun m _ => clV_out (.inl (Nat.le_refl a))
      rwa [e] at this
    by_cases q : a < j ∧ j < g
    · have := hx j hj
      have e : dot g x (fun m => clV g a T V m j) = dot g x (fun m => V m j - (T a j).fdiv (T a a) * V m a) := dot_congr (fun _ _ => rfl) fun m _ => clV_in q.1 q.2
      rw [e, dot_sub, e0, Int.mul_zero] at this
      omega
    · have := hx j hj
      have e : dot g x (fun m => clV g a T V m j) = dot g x (fun m => V m j) := dot_congr (fun _ _ => rfl) fun m _ => clV_out (by omega)
      rwa [e] at this
theorem Kpt.st (h : Kpt n g A T V) (L : Lst n g T a r c) : Kpt n g A (stT g a r c T) (stV g a r c T V) := by
  have an : a < n := by have := L.ai; have := L.i_n; omega
  have ag : a < g := by have := L.aj; have := L.jg; omega
  exact ((h.br an L.i_n ag L.jg).rw an).cl ag
end
theorem Run.kpt {n g B k : Nat} {A : F2} {S S' : Gs} (h : Run n g B k S S') (hk : Kpt n g A S.T S.V) : Kpt n g A S'.T S'.V := by
  induction h with
  | done b e => exact hk
  | turn b e r ih => exact ih (hk.st (best_some e).1)
/-! the grid at first and at last -/
def T0 (g : Nat) (A : F2) : F2 := fun i j => if j < g then A i j else if j - g = i then 1 else 0
def V0 : F2 := fun i j => if i = j then 1 else 0
def S0 (g : Nat) (A : F2) : Gs := ⟨T0 g A, V0, 0⟩
theorem av0 {g k c : Nat} {A : F2} (h : c < g) : av g A V0 k c = A k c := dot_unit (A k) h
theorem kpt0 (n g : Nat) (A : F2) : Kpt n g A (T0 g A) V0 := by
  refine ⟨fun k hk => ⟨_, Sp.row hk, fun c hc => ?_⟩, fun i c hi hc => ?_, fun x hx m hm => ?_⟩
  · rw [av0 hc]
    exact if_pos hc
  · have e : dot n (fun k => T0 g A i (g + k)) (fun k => av g A V0 k c) = dot n (fun k => av g A V0 k c) (fun k => if k = i then 1 else 0) := by
      rw [dot_comm]
      refine dot_congr (fun _ _ => rfl) fun k _ => ?_
      unfold T0
      rw [if_neg (by omega), Nat.add_sub_cancel_left]
    rw [e, dot_unit _ hi, av0 hc]
    exact if_pos hc
  · have := hx m hm
    rwa [show dot g x (fun k => V0 k m) = x m from dot_unit x hm] at this
theorem bds0 {n g : Nat} {A : F2} (h : ∀ i j, i < n → j < g → (A i j).natAbs ≤ 3) : BdS n g 3 (S0 g A) := by
  refine ⟨fun i j hi hj => ?_, fun i j hi hj => ?_⟩
  · show (T0 g A i j).natAbs ≤ 3
    unfold T0
    split
    · rename_i q
      exact h i j hi q
    · split
      · decide
      · decide
  · show (V0 i j).natAbs ≤ 3
    unfold V0
    split
    · decide
    · decide
/-- what each column is counted by -/
def dg (n : Nat) (T : F2) (c : Nat) : Nat := if c < n then (T c c).natAbs else 0
/-- the last grid of a market -/
structure Lastly (n g : Nat) (A : F2) (S : Gs) : Prop where
  bd : BdS n g BB S
  diag : ∀ i j, i < n → j < g → i ≠ j → S.T i j = 0
  kp : Kpt n g A S.T S.V
theorem lastly {n g k : Nat} {A : F2} {S : Gs} (h : Run n g BB k (S0 g A) S) : Lastly n g A S := ⟨h.bd, h.cl Cl.zero, h.kpt (kpt0 n g A)⟩
theorem run_grid {n g : Nat} {A : F2} (hs : Small n g) (h : ∀ i j, i < n → j < g → (A i j).natAbs ≤ 3) : ∃ k S, Run n g BB k (S0 g A) S := run_all hs rfl (bds0 h)
/-- each trade keeps each count -/
theorem Lastly.keeps {n g : Nat} {A : F2} {S : Gs} (h : Lastly n g A S) {k c : Nat} (hk : k < n) (hc : c < g) : ((dg n S.T c : Nat) : Int) ∣ av g A S.V k c := by
  obtain ⟨v, s, e⟩ := h.kp.sp k hk
  rw [← e c hc]
  clear e
  have hd := h.diag
  induction s with
  | zero => exact Int.dvd_zero _
  | @add v i q hi s ih =>
    refine Int.dvd_add ih (Int.dvd_mul_of_dvd_right ?_)
    by_cases z : i = c
    · subst z
      unfold dg
      rw [if_pos hi]
      exact Int.natAbs_dvd.mpr (Int.dvd_refl _)
    · rw [hd i c hi hc z]
      exact Int.dvd_zero _
end Lb.Gr
set_option Elab.async false
set_option linter.all false
set_option maxRecDepth 100000
set_option maxHeartbeats 4000000
namespace Lb.Gr
/-! ### counts and net numbers of a grid at its end -/
/-- a count's weight -/
def wt (n : Nat) (S : Gs) (c k : Nat) : Int := if 0 < dg n S.T c then S.V k c % (dg n S.T c : Int) else S.V k c
/-- the weighed sum, by the grid's own weights -/
def wsum (g : Nat) (S : Gs) (c : Nat) (y : Nat → Int) : Int := dot g y fun m => S.V m c
theorem dot_dvd {n : Nat} {d : Int} {x y : Nat → Int} (h : ∀ k, k < n → d ∣ y k) : d ∣ dot n x y := by
  induction n with
  | zero => exact Int.dvd_zero d
  | succ n ih => exact Int.dvd_add (ih fun k hk => h k (by omega)) (Int.dvd_mul_of_dvd_right (h n (by omega)))
theorem wt_sum {n g : Nat} {S : Gs} {c : Nat} (y : Nat → Int) : (dg n S.T c : Int) ∣ wsum g S c y - dot g y (wt n S c) := by
  have e : wsum g S c y - dot g y (wt n S c) = dot g y fun m => S.V m c - 1 * wt n S c m := by
    rw [dot_sub, Int.one_mul]
    rfl
  rw [e]
  refine dot_dvd fun k _ => ?_
  unfold wt
  split
  · rw [Int.one_mul]
    exact Int.dvd_self_sub_emod
  · rw [Int.one_mul, Int.sub_self]
    exact Int.dvd_zero _
theorem wt_iff {n g : Nat} {S : Gs} {c : Nat} (y : Nat → Int) : (dg n S.T c : Int) ∣ dot g y (wt n S c) ↔ (dg n S.T c : Int) ∣ wsum g S c y := by
  have h := wt_sum (n := n) (g := g) (S := S) (c := c) y
  constructor
  · intro h1
    have := Int.dvd_add h h1
    rwa [Int.sub_add_cancel] at this
  · intro h1
    have := Int.dvd_sub h1 h
    rwa [show wsum g S c y - (wsum g S c y - dot g y (wt n S c)) = dot g y (wt n S c) by omega] at this
/-- a number that a modulus divides, as the laws ask it -/
theorem dvd_ask {d : Nat} {x : Int} : ((d : Int) ∣ x) ↔ (x = 0 ∨ (0 < d ∧ x % (d : Int) = 0)) := by
  constructor
  · intro h
    rcases Nat.eq_zero_or_pos d with rfl | q
    · exact .inl (Int.zero_dvd.mp h)
    · exact .inr ⟨q, Int.emod_eq_zero_of_dvd h⟩
  · rintro (rfl | ⟨_, h⟩)
    · exact Int.dvd_zero _
    · exact Int.dvd_of_emod_eq_zero h
theorem Lastly.trade {n g : Nat} {A : F2} {S : Gs} (h : Lastly n g A S) {k c : Nat} (hk : k < n) (hc : c < g) : (dg n S.T c : Int) ∣ dot g (A k) (wt n S c) :=
  wt_iff (A k) |>.mpr (h.keeps hk hc)
theorem wt_bd {n g : Nat} {A : F2} {S : Gs} (h : Lastly n g A S) {k c : Nat} (hk : k < g) (hc : c < g) : (wt n S c k).natAbs ≤ BB := by
  unfold wt
  split
  · rename_i q
    have h1 := Int.emod_nonneg (S.V k c) (b := (dg n S.T c : Int)) (by omega)
    have h2 := Int.emod_lt_of_pos (S.V k c) (b := (dg n S.T c : Int)) (by omega)
    have h3 : dg n S.T c ≤ BB := by
      unfold dg
      split
      · rename_i z
        exact h.bd.t c c z (by omega)
      · exact Nat.zero_le _
    omega
  · exact h.bd.v k c hk hc
theorem dg_bd {n g : Nat} {A : F2} {S : Gs} (h : Lastly n g A S) {c : Nat} (hc : c < g) : dg n S.T c ≤ BB := by
  unfold dg
  split
  · rename_i z
    exact h.bd.t c c z (by omega)
  · exact Nat.zero_le _
/-! net numbers -/
def sg (x y : Int) : Int := if 0 < x then y else -y
/-- the numbers when c columns are done -/
def netN (n g : Nat) (S : Gs) (ch : Nat → Int) : Nat → Option (Nat → Int)
  | 0 => some fun _ => 0
  | c + 1 => (netN n g S ch c).bind fun N =>
    if 0 < dg n S.T c ∧ wsum g S c ch % (dg n S.T c : Int) = 0 then some fun k => N k + wsum g S c ch / (dg n S.T c : Int) * sg (S.T c c) (S.T c (g + k))
    else if wsum g S c ch ≠ 0 then none else some N
theorem sg_mul (x y z : Int) : sg x y * z = sg x (y * z) := by
  unfold sg
  split
  · rfl
  · rw [Int.neg_mul]
theorem dot_sg {n : Nat} {x : Int} {y z : Nat → Int} : dot n (fun k => sg x (y k)) z = sg x (dot n y z) := by
  induction n with
  | zero =>
    unfold sg
    split <;> rfl
  | succ n ih =>
    show dot n (fun k => sg x (y k)) z + sg x (y n) * z n = sg x (dot n y z + y n * z n)
    rw [ih, sg_mul]
    unfold sg
    split
    · rfl
    · omega
theorem net_at {n g : Nat} {A : F2} {S : Gs} (h : Lastly n g A S) {ch : Nat → Int} : ∀ {c : Nat} {N : Nat → Int}, c ≤ g → netN n g S ch c = some N → (∀ j, j < g → dot n N (fun k => av g A S.V k j) = if j < c then wsum g S j ch else 0) := by
  intro c
  induction c with
  | zero =>
    intro N _ e j hj
    cases e
    rw [if_neg (by omega), dot_comm]
    exact dot_zero fun _ _ => rfl
  | succ c ih =>
    intro N hc e j hj
    unfold netN at e
    cases e1 : netN n g S ch c with
    | none =>
      rw [e1] at e
      exact nomatch e
    | some M =>
      rw [e1] at e
      have ihj := ih (by omega) e1 j hj
      dsimp only [Option.bind_some] at e
      split at e
      · rename_i q
        cases e
        obtain ⟨q1, q2⟩ := q
        have cn : c < n := by
          unfold dg at q1
          split at q1
          · assumption
          · omega
        have ed : dg n S.T c = (S.T c c).natAbs := if_pos cn
        have es : dot n (fun k => M k + wsum g S c ch / (dg n S.T c : Int) * sg (S.T c c) (S.T c (g + k))) (fun k => av g A S.V k j) = dot n M (fun k => av g A S.V k j) + wsum g S c ch / (dg n S.T c : Int) * sg (S.T c c) (S.T c j) := by
          rw [dot_comm, dot_add, dot_smul, dot_comm n _ M, dot_comm n _ (fun k => sg (S.T c c) (S.T c (g + k))), dot_sg, ← h.kp.u c j cn hj]
        rw [es, ihj]
        by_cases z : j = c
        · subst z
          rw [if_neg (by omega), if_pos (by omega)]
          have e3 : sg (S.T j j) (S.T j j) = (dg n S.T j : Int) := by
            rw [ed]
            unfold sg
            split
            · omega
            · omega
          rw [e3]
          have := Int.ediv_mul_cancel (Int.dvd_of_emod_eq_zero q2)
          omega
        · rw [h.diag c j cn hj (Ne.symm z)]
          have e3 : sg (S.T c c) 0 = 0 := by
            unfold sg
            split <;> rfl
          rw [e3, Int.mul_zero]
          by_cases y : j < c
          · rw [if_pos y, if_pos (by omega)]
            omega
          · rw [if_neg y, if_neg (by omega)]
            rfl
      · rename_i q
        split at e
        · exact nomatch e
        · rename_i q2
          cases e
          rw [ihj]
          by_cases z : j = c
          · subst z
            rw [if_neg (by omega), if_pos (by omega)]
            rcases Int.decEq (wsum g S j ch) 0 with w | w
            · exact absurd w q2
            · exact w.symm
          · by_cases y : j < c
            · rw [if_pos y, if_pos (by omega)]
            · rw [if_neg y, if_neg (by omega)]
/-- the numbers lead to the change -/
theorem net_leads {n g : Nat} {A : F2} {S : Gs} (h : Lastly n g A S) {ch : Nat → Int} {N : Nat → Int} (e : netN n g S ch g = some N) : ∀ m, m < g → dot n N (fun k => A k m) = ch m := by
  have h1 : ∀ j, j < g → dot g (fun m => dot n N (fun k => A k m) - 1 * ch m) (fun m => S.V m j) = 0 := fun j hj => by
    have e1 := net_at h (Nat.le_refl g) e j hj
    rw [if_pos hj] at e1
    have sw : dot g (fun m => S.V m j) (fun m => dot n N fun k => A k m) = dot n N fun k => av g A S.V k j := by
      clear e1 e h
      unfold av
      induction n with
      | zero => exact dot_zero fun _ _ => rfl
      | succ n ih =>
        show dot g (fun m => S.V m j) (fun m => dot n N (fun k => A k m) + N n * A n m) = dot n N (fun k => dot g (A k) fun m => S.V m j) + N n * dot g (A n) fun m => S.V m j
        rw [dot_add, dot_smul, ih, dot_comm g (fun m => S.V m j) (A n)]
    rw [dot_comm, dot_sub, sw, e1, Int.one_mul, dot_comm]
    exact Int.sub_self _
  intro m hm
  have := h.kp.inj _ h1 m hm
  omega
/-- there are none just if some column's modulus divides not -/
theorem net_none {n g : Nat} {S : Gs} {ch : Nat → Int} : ∀ c, netN n g S ch c = none ↔ ∃ j, j < c ∧ ¬ ((dg n S.T j : Int) ∣ wsum g S j ch) := by
  intro c
  induction c with
  | zero => exact ⟨fun h => (nomatch h), fun ⟨j, h, _⟩ => (by omega)⟩
  | succ c ih =>
    unfold netN
    cases e : netN n g S ch c with
    | none =>
      obtain ⟨j, h1, h2⟩ := ih.mp e
      exact ⟨fun _ => ⟨j, by omega, h2⟩, fun _ => rfl⟩
    | some M =>
      dsimp only [Option.bind_some]
      have no : ∀ j, j < c → (dg n S.T j : Int) ∣ wsum g S j ch := fun j hj => by
        by_cases q : (dg n S.T j : Int) ∣ wsum g S j ch
        · exact q
        · have := ih.mpr ⟨j, hj, q⟩
          rw [e] at this
          exact nomatch this
      have last : (¬ ((dg n S.T c : Int) ∣ wsum g S c ch)) ↔ ∃ j, j < c + 1 ∧ ¬ ((dg n S.T j : Int) ∣ wsum g S j ch) := by
        constructor
        · exact fun h => ⟨c, by omega, h⟩
        · rintro ⟨j, h1, h2⟩
          by_cases z : j = c
          · rwa [z] at h2
          · exact absurd (no j (by omega)) h2
      rw [← last, dvd_ask]
      split
      · rename_i q
        refine ⟨fun h => (by cases h), fun h => absurd (.inr q) h⟩
      · rename_i q
        split
        · rename_i w
          refine ⟨fun _ h => ?_, fun _ => rfl⟩
          rcases h with h | h
          · exact w h
          · exact q h
        · rename_i w
          refine ⟨fun h => (by cases h), fun h => absurd (.inl ?_) h⟩
          rcases Int.decEq (wsum g S c ch) 0 with y | y
          · exact absurd y w
          · exact y
end Lb.Gr
set_option Elab.async false
set_option linter.all false
set_option maxRecDepth 100000
set_option maxHeartbeats 4000000
namespace Lb
open PySem PySem.Spec PyProof.Rows L2 RZ TL
/-! ### lists of ints by a function -/
def rowL (w : Nat) (f : Nat → Int) : List V := (List.range w).map fun k => V.int (f k)
theorem rowL_len (w : Nat) (f : Nat → Int) : (rowL w f).length = w := by
  unfold rowL
  rw [List.length_map, List.length_range]
theorem rowL_get {w k : Nat} {f : Nat → Int} (h : k < w) : (rowL w f)[k]? = some (V.int (f k)) := by
  unfold rowL
  rw [List.getElem?_map, List.getElem?_range h]
  rfl
theorem rowL_at {w k : Nat} {f : Nat → Int} (h : k < w) : atI (rowL w f) ((k : Nat) : Int) = some (V.int (f k)) := atI_nat (rowL_get h)
theorem rowL_succ (w : Nat) (f : Nat → Int) : rowL (w + 1) f = rowL w f ++ [V.int (f w)] := by
  unfold rowL
  rw [List.range_succ, List.map_append]
  rfl
theorem rowL_congr {w : Nat} {f h : Nat → Int} (e : ∀ k, k < w → f k = h k) : rowL w f = rowL w h := by
  unfold rowL
  refine List.map_congr_left fun k hk => ?_
  rw [e k (List.mem_range.mp hk)]
theorem rowL_of (x : List Int) : x.map V.int = rowL x.length fun k => x.getD k 0 := by
  unfold rowL
  refine List.ext_getElem (by rw [List.length_map, List.length_map, List.length_range]) fun k h1 h2 => ?_
  rw [List.getElem_map, List.getElem_map, List.getElem_range]
  congr 1
  show _ = x.getD k 0
  rw [List.getD_eq_getElem?_getD, List.getElem?_eq_getElem (by rw [List.length_map] at h1; exact h1)]
  rfl
theorem rowL_append (m n : Nat) (f h : Nat → Int) : rowL m f ++ rowL n h = rowL (m + n) fun k => if k < m then f k else h (k - m) := by
  induction n with
  | zero =>
    rw [Nat.add_zero]
    show rowL m f ++ [] = _
    rw [List.append_nil]
    exact rowL_congr fun k hk => (if_pos hk).symm
  | succ n ih =>
    rw [rowL_succ, ← List.append_assoc, ih, ← Nat.add_assoc, rowL_succ, if_neg (by omega)]
    rw [show m + n - m = n by omega]
theorem int_row {w k : Nat} {f : Nat → Int} {x : V} (h : (rowL w f)[k]? = some x) : k < w ∧ x = V.int (f k) := by
  have hk : k < w := by
    rcases Nat.lt_or_ge k w with q | q
    · exact q
    · rw [List.getElem?_eq_none (by rw [rowL_len]; exact q)] at h
      cases h
  rw [rowL_get hk] at h
  exact ⟨hk, (Option.some.inj h).symm⟩
theorem rowL_set {w j : Nat} {f : Nat → Int} {z : Int} : (rowL w f).set j (V.int z) = rowL w fun k => if k = j then z else f k := by
  refine List.ext_getElem? fun k => ?_
  rw [List.getElem?_set]
  by_cases hk : k < w
  · rw [rowL_get hk, rowL_get hk, rowL_len]
    by_cases e : j = k
    · subst e
      rw [if_pos rfl, if_pos hk, if_pos rfl]
    · rw [if_neg e, if_neg (Ne.symm e)]
  · have e1 : (rowL w f)[k]? = none := List.getElem?_eq_none (by rw [rowL_len]; omega)
    have e2 : (rowL w fun k => if k = j then z else f k)[k]? = none := List.getElem?_eq_none (by rw [rowL_len]; omega)
    rw [e1, e2, rowL_len]
    split
    · split
      · omega
      · rfl
    · rfl
theorem rgV_row (n : Nat) : rgV 0 (n : Int) = rowL n fun k => (k : Int) := by
  unfold rgV rowL
  rw [show ((n : Int) - 0).toNat = n by omega]
  exact List.map_congr_left fun k _ => by rw [Int.zero_add]
theorem rowL_ix {w k : Nat} {f : Nat → Int} (h : k < w) : ixN (rowL w f).length ((k : Nat) : Int) = some k := by
  rw [rowL_len]
  exact ixN_nat h
theorem walk_zipT {K : PySem.W.Frag} {a b : Addr} {xs ys : List V} {n : Nat} (hn : n = xs.length) (hl : xs.length = ys.length) : L2.Walk (ItzT K a b) n (fun H => SqT K H a xs ∧ SqT K H b ys) (YPair (fun i => xs[i]?) (fun i => ys[i]?)) := by
  subst hn
  refine ⟨fun i _ hi q => ?_, fun _ q => ⟨xs, ys, q.1, q.2, .inl (Nat.le_refl _)⟩, fun i H v H' _ q y => ?_⟩
  · exact ⟨xs, ys, xs[i], ys[i], q.1, q.2, List.getElem?_eq_getElem hi, List.getElem?_eq_getElem (by omega)⟩
  · obtain ⟨T, x, z, h1, h2, h3, h4, h5⟩ := y
    exact ⟨T, x, z, h1, h2, h3, h4 xs q.1, h5 ys q.2⟩
/-- a comprehension that makes a list of ints -/
theorem lc_rowW {J : It} {n : Nat} {G : Hp → Prop} {Y : Nat → Hp → V → Hp → Prop} (wk : L2.Walk J n G Y) {g : TG} {te : TE} {vs : List Nat} {σ : L2.St} {H1 : Hp} {D : Addr} {Qd : Hp → Prop} (f : Nat → Int) (hD : H1 D = none) (hn : n ≤ 1000) (hG : ∀ H', Same H1 H' → G H')
    (hs : ∀ (i : Nat) (x : V) (H H' : Hp) (Qy : VK), i < n → Same H1 H → Y i H x H' → (∀ H'', Same H H'' → Qy (.int (f i)) H'') → g x (wipe σ vs) H' fun σ2 H2 => wipe σ2 vs = wipe σ vs ∧ te σ2 H2 Qy)
    (hd : ∀ H', Same H1 H' → H' D = some (.lst (rowL n f)) → Qd H') : LcW J g tYes te vs σ H1 D Qd := by
  refine lc_it wk (fun i H => Same H1 H ∧ H D = some (.lst (rowL i f))) ⟨same_upd hD, upd_same⟩ (fun i H _ h => hG H h.1) ?_ (fun H h => hd H h.1 h.2)
  rintro i x H H' hi ⟨sm, eD⟩ y
  refine hs i x H H' (fun y H4 => ∃ acc, H4 D = some (.lst acc) ∧ acc.length < sizeLine ∧ Same H1 (upd H4 D (.lst (acc ++ [y]))) ∧ upd H4 D (.lst (acc ++ [y])) D = some (.lst (rowL (i + 1) f))) hi sm y fun H'' s2 => ?_
  refine ⟨_, s2 _ _ eD, small1000 (by rw [rowL_len]; omega), fun b o e => ?_, ?_⟩
  · rw [upd_ne (ne_of_none e hD)]
    exact s2 _ _ (sm _ _ e)
  · rw [upd_same, rowL_succ]
/-! ### what the helpers of the grid answer -/
/-- a new list of ints -/
abbrev NewRow (H : Hp) (Q : VK) (w : Nat) (f : Nat → Int) : Prop := ∀ (H' : Hp) (p : Addr), Same H H' → H p = none → H' p = some (.lst (rowL w f)) → Q (.ref p) H'
def gain (t : Trd) (k : Nat) : Int := t.2.getD k 0 - t.1.getD k 0
def spGains (K : PySem.W.Frag) : Sp := fun vs H Q _ => ∃ (a u v : Addr) (t : Trd), vs = [.ref a] ∧ H a = some (.tup [.ref u, .ref v]) ∧ H u = some (.tup (t.1.map V.int)) ∧ H v = some (.tup (t.2.map V.int)) ∧ t.1.length = t.2.length ∧ t.1.length ≤ 100 ∧
  NewRow H Q t.1.length (gain t)
def spUnit : Sp := fun vs H Q _ => ∃ (n a : Nat), vs = [.int (n : Int), .int (a : Int)] ∧ n ≤ 100 ∧ NewRow H Q n fun k => if k = a then 1 else 0
def spSwapped : Sp := fun vs H Q _ => ∃ (r : Addr) (w a b : Nat) (f : Nat → Int), vs = [.ref r, .int (a : Int), .int (b : Int)] ∧ H r = some (.lst (rowL w f)) ∧ w ≤ 100 ∧ a < w ∧ b < w ∧ NewRow H Q w fun k => f (Gr.swp a b k)
def spReduced : Sp := fun vs H Q _ => ∃ (r : Addr) (w a b : Nat) (q : Int) (f : Nat → Int), vs = [.ref r, .int (a : Int), .int (b : Int), .int q] ∧ H r = some (.lst (rowL w f)) ∧ w ≤ 100 ∧ a < w ∧ b < w ∧ CMulW q (f b) ∧
  NewRow H Q w fun k => if k = a then f k - q * f b else f k
def spAnyS : Sp := fun vs H Q _ => ∃ (R : Rgn) (d c r : Addr) (n : Nat), vs = [.ref d] ∧ Dk H d c r n ∧ n < 2 ^ 36 ∧ Rg R H d r ∧
  ∀ (H' : Hp) (v : V) (g : Nat) (ts : List Trd), MktOk g ts → (ts.length + g ≤ 5 ∨ g ≤ 2) → Dat R H' v (mktD g ts) → Dk H' d c r (n + 101) → Kp d r H H' → Q v H'
end Lb
set_option Elab.async false
set_option linter.all false
set_option maxRecDepth 100000
set_option maxHeartbeats 4000000
namespace Lb
open PySem PySem.Spec PyProof.Rows L2 RZ TL
/-! ### a grid on the heap -/
structure GrdC (K : PySem.W.Frag) (C : Addr) : Prop where
  cl : Cls K C
  ng : NoAttr K C "goods"
  nt : NoAttr K C "tops"
  nl : NoAttr K C "lows"
/-- rows as lists -/
structure Rows (H : Hp) (vs : List V) (n w : Nat) (T : Gr.F2) : Prop where
  len : vs.length = n
  row : ∀ i, i < n → ∃ r, vs[i]? = some (.ref r) ∧ H r = some (.lst (rowL w (T i)))
theorem Rows.same {H H' : Hp} {vs : List V} {n w : Nat} {T : Gr.F2} (h : Rows H vs n w T) (s : Same H H') : Rows H' vs n w T :=
  ⟨h.len, fun i hi => let ⟨r, e1, e2⟩ := h.row i hi; ⟨r, e1, s _ _ e2⟩⟩
/-- a list of references is no row -/
theorem row_ne {H : Hp} {r p : Addr} {w n : Nat} {f : Nat → Int} {vs : List V} {T : Gr.F2} (hw : 1 ≤ w) (er : H r = some (.lst (rowL w f))) (ep : H p = some (.lst vs)) (hv : ∀ x ∈ vs, ∃ q, x = V.ref q) : r ≠ p := by
  rintro rfl
  rw [er] at ep
  have e : rowL w f = vs := by cases ep; rfl
  obtain ⟨q, z⟩ := hv (V.int (f 0)) (by
    rw [← e]
    exact List.mem_of_getElem? (rowL_get hw))
  cases z
theorem Rows.refs {H : Hp} {vs : List V} {n w : Nat} {T : Gr.F2} (h : Rows H vs n w T) : ∀ x ∈ vs, ∃ q, x = V.ref q := by
  intro x hx
  obtain ⟨i, hi⟩ := List.getElem?_of_mem hx
  have hin : i < n := by
    rcases Nat.lt_or_ge i vs.length with q | q
    · rw [← h.len]
      exact q
    · rw [List.getElem?_eq_none q] at hi
      cases hi
  obtain ⟨r, e1, _⟩ := h.row i hin
  rw [hi] at e1
  exact ⟨r, Option.some.inj e1⟩
/-- another list of references changes -/
theorem Rows.upd {H : Hp} {vs us ws : List V} {n w : Nat} {T : Gr.F2} {p : Addr} (h : Rows H vs n w T) (hw : 1 ≤ w) (ep : H p = some (.lst us)) (hu : ∀ x ∈ us, ∃ q, x = V.ref q) : Rows (upd H p (.lst ws)) vs n w T :=
  ⟨h.len, fun i hi => by
    obtain ⟨r, e1, e2⟩ := h.row i hi
    refine ⟨r, e1, ?_⟩
    rw [upd_ne (row_ne (n := n) (T := T) hw e2 ep hu)]
    exact e2⟩
theorem Rows.snoc {H : Hp} {vs : List V} {n w : Nat} {T : Gr.F2} {r : Addr} (h : Rows H vs n w T) (e : H r = some (.lst (rowL w (T n)))) : Rows H (vs ++ [.ref r]) (n + 1) w T := by
  refine ⟨by rw [List.length_append, h.len]; rfl, fun i hi => ?_⟩
  by_cases q : i < n
  · obtain ⟨r', e1, e2⟩ := h.row i q
    exact ⟨r', by rw [List.getElem?_append_left (by rw [h.len]; exact q)]; exact e1, e2⟩
  · obtain rfl : i = n := by omega
    refine ⟨r, ?_, e⟩
    rw [List.getElem?_append_right (by rw [h.len]; exact Nat.le_refl _), h.len, Nat.sub_self]
    rfl
theorem Rows.congr {H : Hp} {vs : List V} {n w : Nat} {T U : Gr.F2} (h : Rows H vs n w T) (e : ∀ i j, i < n → j < w → T i j = U i j) : Rows H vs n w U :=
  ⟨h.len, fun i hi => by
    obtain ⟨r, e1, e2⟩ := h.row i hi
    refine ⟨r, e1, ?_⟩
    rw [e2, rowL_congr fun k hk => e i k hi hk]⟩
theorem Rows.at {H : Hp} {vs : List V} {n w i : Nat} {T : Gr.F2} (h : Rows H vs n w T) (hi : i < n) : ∃ r, atI vs ((i : Nat) : Int) = some (.ref r) ∧ H r = some (.lst (rowL w (T i))) := by
  obtain ⟨r, e1, e2⟩ := h.row i hi
  exact ⟨r, atI_nat e1, e2⟩
/-- a row is put in -/
theorem Rows.set {H : Hp} {vs : List V} {n w k : Nat} {T : Gr.F2} {r : Addr} {f : Nat → Int} (h : Rows H vs n w T) (e : H r = some (.lst (rowL w f))) : Rows H (vs.set k (.ref r)) n w fun i => if i = k then f else T i := by
  refine ⟨by rw [List.length_set]; exact h.len, fun i hi => ?_⟩
  by_cases q : i = k
  · subst q
    refine ⟨r, ?_, ?_⟩
    · rw [List.getElem?_set, if_pos rfl, if_pos (by rw [h.len]; exact hi)]
    · rw [if_pos rfl]
      exact e
  · obtain ⟨r', e1, e2⟩ := h.row i hi
    refine ⟨r', ?_, ?_⟩
    · rw [List.getElem?_set, if_neg (Ne.symm q)]
      exact e1
    · rw [if_neg q]
      exact e2
/-- a comprehension that makes a list of rows -/
theorem lc_rowsW {J : It} {n w : Nat} {G : Hp → Prop} {Y : Nat → Hp → V → Hp → Prop} (wk : L2.Walk J n G Y) {g : TG} {te : TE} {vs : List Nat} {σ : L2.St} {H1 : Hp} {D : Addr} {Qd : Hp → Prop} (T : Gr.F2) (hw : 1 ≤ w) (hD : H1 D = none) (hn : n ≤ 1000) (hG : ∀ H', Same H1 H' → G H')
    (hs : ∀ (i : Nat) (x : V) (H H' : Hp) (Qy : VK), i < n → Same H1 H → Y i H x H' → (∀ H'' p, Same H H'' → H'' p = some (.lst (rowL w (T i))) → Qy (.ref p) H'') → g x (wipe σ vs) H' fun σ2 H2 => wipe σ2 vs = wipe σ vs ∧ te σ2 H2 Qy)
    (hd : ∀ H' us, Same H1 H' → H' D = some (.lst us) → Rows H' us n w T → Qd H') : LcW J g tYes te vs σ H1 D Qd := by
  refine lc_it wk (fun i H => Same H1 H ∧ ∃ us, H D = some (.lst us) ∧ Rows H us i w T) ⟨same_upd hD, [], upd_same, rfl, fun i hi => (by omega)⟩ (fun i H _ h => hG H h.1) ?_ (fun H h => ?_)
  · rintro i x H H' hi ⟨sm, us, eD, ru⟩ y
    refine hs i x H H' (fun y H4 => ∃ acc, H4 D = some (.lst acc) ∧ acc.length < sizeLine ∧ Same H1 (upd H4 D (.lst (acc ++ [y]))) ∧ ∃ us, upd H4 D (.lst (acc ++ [y])) D = some (.lst us) ∧ Rows (upd H4 D (.lst (acc ++ [y]))) us (i + 1) w T) hi sm y fun H'' p s2 ep => ?_
    refine ⟨us, s2 _ _ eD, small1000 (by rw [ru.len]; omega), fun b o e => ?_, _, upd_same, ?_⟩
    · rw [upd_ne (ne_of_none e hD)]
      exact s2 _ _ (sm _ _ e)
    · exact ((ru.same s2).snoc ep).upd hw (s2 _ _ eD) ru.refs
  · obtain ⟨sm, us, eD, ru⟩ := h
    exact hd H us sm eD ru
abbrev grF (g : Nat) (t l : Addr) : List (Str × V) := [("goods", .int (g : Int)), ("tops", .ref t), ("lows", .ref l)]
/-- a grid made behind H0: n trades, g goods -/
structure GrAt (C : Addr) (H0 H : Hp) (a dx : Addr) (n g : Nat) (T V : Gr.F2) : Prop where
  same : Same H0 H
  na : H0 a = none
  ex : ∃ (t l : Addr) (vs us : List L2.V), H a = some (.ins C dx (grF g t l)) ∧ H t = some (.lst vs) ∧ H l = some (.lst us) ∧ H0 t = none ∧ t ≠ l ∧ Rows H vs n (g + n) T ∧ Rows H us g g V
  g1 : 1 ≤ g
  g4 : g ≤ 4
  n4 : n ≤ 4
end Lb
set_option Elab.async false
set_option linter.all false
set_option maxRecDepth 100000
set_option maxHeartbeats 4000000
namespace Lb
open PySem PySem.Spec PyProof.Rows L2 RZ TL
theorem walk_enumT {K : PySem.W.Frag} {a : Addr} {xs : List V} : L2.Walk (IteT K a) xs.length (fun H => SqT K H a xs) (YPair (fun i => some (.int (i : Nat))) (fun i => xs[i]?)) := by
  refine ⟨fun i _ hi q => ⟨xs, xs[i], q, List.getElem?_eq_getElem hi⟩, fun _ q => ⟨xs, q, Nat.le_refl _⟩, fun i H v H' _ q y => ?_⟩
  obtain ⟨T, x, h1, h2, h3, h4⟩ := y
  exact ⟨T, .int (i : Nat), x, h1, h2, h3, rfl, h4 xs q⟩
/-- an object of the class changes: tuples stay -/
theorem kc_ins {CG x dx : Addr} {H : Hp} {fs : List (Str × V)} {o : HO} (ex : H x = some (.ins CG dx fs)) : KC (CG + 1) H (upd H x o) := fun b u t e => by
  rw [upd_ne (fun z => ?_)]
  · exact e
  · rw [z, ex] at e
    cases e
    rcases t with ⟨xs, q⟩ | ⟨dx', fs', q⟩
    · cases q
    · cases q
theorem Rows.ins {H : Hp} {vs : List V} {n w : Nat} {T : Gr.F2} {x C dx : Addr} {fs : List (Str × V)} {o : HO} (h : Rows H vs n w T) (ex : H x = some (.ins C dx fs)) : Rows (L2.upd H x o) vs n w T :=
  ⟨h.len, fun i hi => by
    obtain ⟨r, e1, e2⟩ := h.row i hi
    refine ⟨r, e1, ?_⟩
    rw [upd_ne (fun z => by rw [z, ex] at e2; cases e2)]
    exact e2⟩
/-! ### what the methods of a grid answer -/
/-- what the trades add -/
def mA (ts : List Trd) : Gr.F2 := fun i j => gain (ts.getD i ([], [])) j
def spGInit (C : Addr) : Sp := fun vs H Q _ => ∃ (x dx : Addr) (mv : V) (H0 : Hp) (g : Nat) (ts : List Trd), vs = [.ref x, mv] ∧ H x = some (.ins C dx []) ∧ Same H0 H ∧ H0 x = none ∧ MkV H mv g ts ∧ MktOk g ts ∧
  ∀ H', GrAt C H0 H' x dx ts.length g (Gr.T0 g (mA ts)) Gr.V0 → Q .non H'
end Lb
set_option Elab.async false
set_option linter.all false
set_option maxRecDepth 100000
set_option maxHeartbeats 4000000
namespace Lb
open PySem PySem.Spec PyProof.Rows L2 RZ TL
/-- // by any divisor but 0 -/
def CDivZ (_ j : Int) : Prop := j ≠ 0 ∧ j.natAbs.log2 < 9000
theorem op_fdivZ {X : Cx} : OpR X (binaryOp .FloorDiv) (rI CDivZ fun i j => .int (i.fdiv j)) := opI fun i j _ _ _ _ _ hc q =>
  floordiv_int hc.1 q (.inl (PyProof.noPylong_of_log2 hc.2))
theorem GrAt.keep {C : Addr} {H0 H H' : Hp} {a dx : Addr} {n g : Nat} {T V : Gr.F2} (h : GrAt C H0 H a dx n g T V) (s : Same H H') : GrAt C H0 H' a dx n g T V := by
  obtain ⟨t, l, vs, us, e1, e2, e3, e4, e5, e6, e7⟩ := h.ex
  exact ⟨h.same.trans s, h.na, ⟨t, l, vs, us, s _ _ e1, s _ _ e2, s _ _ e3, e4, e5, e6.same s, e7.same s⟩, h.g1, h.g4, h.n4⟩
def spBring (C : Addr) : Sp := fun vs H Q _ => ∃ (x dx : Addr) (H0 : Hp) (n g a r c : Nat) (T V : Gr.F2), vs = [.ref x, .int (a : Int), .int (r : Int), .int (c : Int)] ∧ GrAt C H0 H x dx n g T V ∧ a < n ∧ r < n ∧ a < g ∧ c < g ∧
  ∀ H', GrAt C H0 H' x dx n g (Gr.brT a r c T) (Gr.brV a c V) → Q .non H'
def spModulus (C : Addr) : Sp := fun vs H Q _ => ∃ (x dx : Addr) (H0 : Hp) (n g c : Nat) (T V : Gr.F2), vs = [.ref x, .int (c : Int)] ∧ GrAt C H0 H x dx n g T V ∧ c < g ∧ Q (.int (Gr.dg n T c : Int)) H
def spWeights (C : Addr) : Sp := fun vs H Q _ => ∃ (x dx : Addr) (H0 : Hp) (n g c : Nat) (T V : Gr.F2), vs = [.ref x, .int (c : Int)] ∧ GrAt C H0 H x dx n g T V ∧ c < g ∧ NewRow H Q g fun k => V k c
def spRedR (C : Addr) : Sp := fun vs H Q _ => ∃ (x dx : Addr) (H0 : Hp) (n g a : Nat) (T V : Gr.F2), vs = [.ref x, .int (a : Int)] ∧ GrAt C H0 H x dx n g T V ∧ a < n ∧ a < g ∧ T a a ≠ 0 ∧ Gr.Bd n (g + n) Gr.BB T ∧
  ∀ H', GrAt C H0 H' x dx n g (Gr.rwT a T) V → Q .non H'
def spRedC (C : Addr) : Sp := fun vs H Q _ => ∃ (x dx : Addr) (H0 : Hp) (n g a : Nat) (T V : Gr.F2), vs = [.ref x, .int (a : Int)] ∧ GrAt C H0 H x dx n g T V ∧ a < n ∧ a < g ∧ T a a ≠ 0 ∧ Gr.Bd n (g + n) (Gr.BB * Gr.BB * Gr.BB) T ∧ Gr.Bd g g Gr.BB V ∧
  ∀ H', GrAt C H0 H' x dx n g (Gr.clT g a T) (Gr.clV g a T V) → Q .non H'
def spClear (C : Addr) : Sp := fun vs H Q _ => ∃ (x dx : Addr) (H0 : Hp) (n g a : Nat) (T V : Gr.F2), vs = [.ref x, .int (a : Int)] ∧ GrAt C H0 H x dx n g T V ∧ a < n ∧ a < g ∧ ∀ H', Same H H' → Q (.bl (Gr.clr n g a T)) H'
def spFinish (C : Addr) : Sp := fun vs H Q _ => ∃ (x dx : Addr) (H0 : Hp) (n g k : Nat) (S S' : Gr.Gs), vs = [.ref x] ∧ GrAt C H0 H x dx n g S.T S.V ∧ S.a = 0 ∧ Gr.Run n g Gr.BB k S S' ∧ ∀ H', GrAt C H0 H' x dx n g S'.T S'.V → Q .non H'
end Lb
set_option Elab.async false
set_option linter.all false
set_option maxRecDepth 100000
set_option maxHeartbeats 4000000
namespace Lb
open PySem PySem.Spec PyProof.Rows L2 RZ TL
theorem rowL_drop (s m : Nat) (f : Nat → Int) : (rowL (s + m) f).drop s = rowL m fun k => f (s + k) := by
  refine List.ext_getElem? fun k => ?_
  rw [List.getElem?_drop]
  by_cases h : k < m
  · rw [rowL_get h, rowL_get (by omega)]
  · rw [List.getElem?_eq_none (by rw [rowL_len]; omega), List.getElem?_eq_none (by rw [rowL_len]; omega)]
theorem rowL_take {w e : Nat} {f : Nat → Int} (h : e ≤ w) : (rowL w f).take e = rowL e f := by
  refine List.ext_getElem? fun k => ?_
  rw [List.getElem?_take]
  split
  · rw [rowL_get (show k < w by omega), rowL_get (by assumption)]
  · rw [List.getElem?_eq_none (by rw [rowL_len]; omega)]
theorem cut_row {w s e : Nat} {f : Nat → Int} (h1 : s ≤ e) (h2 : e ≤ w) : cutV (rowL w f) (some (s : Int)) (some (e : Int)) = rowL (e - s) fun k => f (s + k) := by
  unfold cutV
  rw [rowL_len, HT.sIx_nat, HT.sIx_nat, Nat.min_eq_left h2, Nat.min_eq_left (Nat.le_trans h1 h2)]
  obtain ⟨m, rfl⟩ : ∃ m, w = s + m := ⟨w - s, by omega⟩
  rw [rowL_drop, rowL_take (by omega)]
theorem cut_fromN {xs : List V} {s : Nat} (h : s ≤ xs.length) : cutV xs (some (s : Int)) none = xs.drop s := by
  unfold cutV
  rw [HT.sIx_nat, Nat.min_eq_left h]
  exact List.take_of_length_le (by rw [List.length_drop]; exact Nat.le_refl _)
theorem Rows.drop {H : Hp} {vs : List V} {n w s : Nat} {T : Gr.F2} (h : Rows H vs n w T) : Rows H (vs.drop s) (n - s) w fun i => T (s + i) :=
  ⟨by rw [List.length_drop, h.len], fun i hi => by
    obtain ⟨r, e1, e2⟩ := h.row (s + i) (by omega)
    exact ⟨r, by rw [List.getElem?_drop]; exact e1, e2⟩⟩
theorem rowL_of_fn (s m : Nat) (f : Nat → Int) : (rowL m fun k => f (s + k)) = ((List.range' s m).map f).map V.int := by
  unfold rowL
  rw [List.range'_eq_map_range, List.map_map, List.map_map]
  rfl
/-- a comprehension that makes a list of values -/
theorem lc_valsW {J : It} {n : Nat} {G : Hp → Prop} {Y : Nat → Hp → V → Hp → Prop} (wk : L2.Walk J n G Y) {g : TG} {te : TE} {vs : List Nat} {σ : L2.St} {H1 : Hp} {D : Addr} {Qd : Hp → Prop} (f : Nat → V) (hD : H1 D = none) (hn : n ≤ 1000) (hG : ∀ H', Same H1 H' → G H')
    (hs : ∀ (i : Nat) (x : V) (H H' : Hp) (Qy : VK), i < n → Same H1 H → Y i H x H' → (∀ H'', Same H H'' → Qy (f i) H'') → g x (wipe σ vs) H' fun σ2 H2 => wipe σ2 vs = wipe σ vs ∧ te σ2 H2 Qy)
    (hd : ∀ H', Same H1 H' → H' D = some (.lst ((List.range n).map f)) → Qd H') : LcW J g tYes te vs σ H1 D Qd := by
  refine lc_it wk (fun i H => Same H1 H ∧ H D = some (.lst ((List.range i).map f))) ⟨same_upd hD, upd_same⟩ (fun i H _ h => hG H h.1) ?_ (fun H h => hd H h.1 h.2)
  rintro i x H H' hi ⟨sm, eD⟩ y
  refine hs i x H H' (fun y H4 => ∃ acc, H4 D = some (.lst acc) ∧ acc.length < sizeLine ∧ Same H1 (upd H4 D (.lst (acc ++ [y]))) ∧ upd H4 D (.lst (acc ++ [y])) D = some (.lst ((List.range (i + 1)).map f))) hi sm y fun H'' s2 => ?_
  refine ⟨_, s2 _ _ eD, small1000 (by rw [List.length_map, List.length_range]; omega), fun b o e => ?_, ?_⟩
  · rw [upd_ne (ne_of_none e hD)]
    exact s2 _ _ (sm _ _ e)
  · rw [upd_same, List.range_succ, List.map_append]
    rfl
theorem any_of (xs : List Int) : ((List.range xs.length).map fun k => decide (¬ xs.getD k 0 = 0)).any id = xs.any fun x => x != 0 := by
  rw [List.any_map]
  have e : xs = (List.range xs.length).map fun k => xs.getD k 0 := by
    refine List.ext_getElem (by rw [List.length_map, List.length_range]) fun k h1 h2 => ?_
    rw [List.getElem_map, List.getElem_range, List.getD_eq_getElem?_getD, List.getElem?_eq_getElem h1]
    rfl
  conv => rhs; rw [e]
  rw [List.any_map]
  congr 1
  funext k
  show decide (¬ xs.getD k 0 = 0) = (xs.getD k 0 != 0)
  by_cases h : xs.getD k 0 = 0
  · rw [h]
    rfl
  · rw [decide_eq_true h]
    exact (bne_iff_ne.mpr h).symm
/-! ### min(xs), xs a list of alike data -/
def rMinD (K : PySem.W.Frag) : List V → Hp → VK → Prop := fun vs H Q => ∃ (R : Rgn) (a : Addr) (xs : List V) (x : PyData) (ds : List PyData), vs = [.ref a] ∧ SqL K H a xs ∧ Dats R H xs (x :: ds) ∧ PySem.W.AlikeAll (x :: ds) ∧ PyData.depthAll (x :: ds) ≤ 60 ∧
  ∀ (i : Nat) (u : V), xs[i]? = some u → (x :: ds)[i]? = some (PySem.W.minD x ds) → Q u H
theorem cr_minD {X : Cx} (hc : X.calm = true) (hu : X.A.units + 64 < cLine) : CallR X (.builtin "min") (rMinD X.K) := by
  intro pins s σ H vs us Q I r h
  obtain ⟨R, a, xs, x, ds, rfl, ea, hd, hal, hdp, q⟩ := h
  obtain ⟨its, rv, hl, hz⟩ := I.list ea
  rw [Vals.ref1 r]
  have hl' : s.heap.IsList a its.toArray := by
    obtain ⟨o, n, ho, hc, _, hd⟩ := hl
    exact ⟨o, ho, hc, n, hd⟩
  obtain ⟨as, rd⟩ := dats_reads I hd rv
  refine PySem.W.min_list_data (A := X.A) (vs := its.toArray) (I.ok.hd hc) hl' rd hal (by omega) fun i v h' tk bs hv rm hk => ?_
  have hv' : its[i]? = some v := by
    rw [← hv]
    simp
  have hx : ∃ u, xs[i]? = some u ∧ RelV u v := by
    cases e : xs[i]? with
    | none =>
      rw [rv.none_of e] at hv'
      cases hv'
    | some u =>
      obtain ⟨w, e1, e2⟩ := rv.get e
      rw [hv'] at e1
      cases e1
      exact ⟨u, rfl, e2⟩
  obtain ⟨u, eu, ru⟩ := hx
  obtain ⟨d, ed, du⟩ := hd.get' eu
  obtain ⟨as', rd'⟩ := dat_reads I du ru
  have e1 := (PySem.Reads.unique (PyProof.Rows.Reads.keeps hk rd') _ _ rm).1
  exact ⟨u, H, I.kept hk, ru, q i u eu (by rw [ed, e1])⟩
abbrev tD (z : Gr.T3) : PyData := .tuple [.int (z.1 : Int), .int (z.2.1 : Int), .int (z.2.2 : Int)]
theorem toks3 (a b c : Int) : PySem.W.keyToksAll [.int a, .int b, .int c] = [.inl 1, .inl a, .inl 1, .inl b, .inl 1, .inl c, .inl 0] := by
  simp only [PySem.W.keyToksAll, PySem.W.keyToks, List.cons_append, List.nil_append]
theorem lexI (a d : Int) (r t : List (Int ⊕ List Nat)) : PyProof.Rows.lexLt PyProof.Rows.itemOrd (.inl a :: r) (.inl d :: t) = (decide (a < d) || (!decide (d < a) && PyProof.Rows.lexLt PyProof.Rows.itemOrd r t)) := rfl
theorem dataLt3 (y z : Gr.T3) : PySem.W.dataLt (tD y) (tD z) = Gr.lt3 y z := by
  obtain ⟨a, b, c⟩ := y
  obtain ⟨d, e, f⟩ := z
  rw [PySem.W.dataLt_tuple, toks3, toks3, lexI, lexI, lexI, lexI, lexI, lexI, lexI]
  have e0 : PyProof.Rows.lexLt PyProof.Rows.itemOrd [] [] = false := rfl
  rw [e0]
  unfold Gr.lt3
  rw [Bool.eq_iff_iff]
  simp only [Bool.or_eq_true, Bool.and_eq_true, Bool.not_eq_true', decide_eq_true_eq, decide_eq_false_iff_not, Bool.and_false, Bool.or_false]
  omega
theorem minD_tD : ∀ (xs : List Gr.T3) (x : Gr.T3), PySem.W.minD (tD x) (xs.map tD) = tD (Gr.least3 x xs)
  | [], _ => rfl
  | y :: xs, x => by
    show PySem.W.minD (if PySem.W.dataLt (tD y) (tD x) = true then tD y else tD x) (xs.map tD) = tD (Gr.least3 (if Gr.lt3 y x then y else x) xs)
    rw [dataLt3, ← minD_tD xs]
    cases Gr.lt3 y x <;> rfl
theorem alike_tD (xs : List Gr.T3) : PySem.W.AlikeAll (xs.map tD) := by
  refine ⟨fun x hx y hy => ?_, fun x hx => ?_⟩
  · obtain ⟨a, _, rfl⟩ := List.mem_map.mp hx
    obtain ⟨b, _, rfl⟩ := List.mem_map.mp hy
    rfl
  · obtain ⟨a, _, rfl⟩ := List.mem_map.mp hx
    exact fun z => nomatch z
end Lb
set_option Elab.async false
set_option linter.all false
set_option maxRecDepth 100000
set_option maxHeartbeats 4000000
namespace Lb
open PySem PySem.Spec PyProof.Rows L2 RZ TL
/-! ### pairs of places -/
structure Prs (H : Hp) (us : List V) (l : List (Nat × Nat)) : Prop where
  len : us.length = l.length
  at_ : ∀ (k : Nat) (p : Nat × Nat), l[k]? = some p → ∃ r, us[k]? = some (.ref r) ∧ H r = some (.tup [.int (p.1 : Int), .int (p.2 : Int)])
theorem Prs.nil {H : Hp} : Prs H [] [] := ⟨rfl, fun k p h => by cases k <;> cases h⟩
theorem Prs.same {H H' : Hp} {us : List V} {l : List (Nat × Nat)} (h : Prs H us l) (s : Same H H') : Prs H' us l :=
  ⟨h.len, fun k p e => let ⟨r, e1, e2⟩ := h.at_ k p e; ⟨r, e1, s _ _ e2⟩⟩
theorem Prs.upd {H : Hp} {us : List V} {l : List (Nat × Nat)} {D : Addr} {vs ws : List V} (h : Prs H us l) (e : H D = some (.lst vs)) : Prs (L2.upd H D (.lst ws)) us l :=
  ⟨h.len, fun k p q => by
    obtain ⟨r, e1, e2⟩ := h.at_ k p q
    refine ⟨r, e1, ?_⟩
    rw [upd_ne (fun z => by rw [z, e] at e2; cases e2)]
    exact e2⟩
theorem Prs.snoc {H : Hp} {us : List V} {l : List (Nat × Nat)} {r i j : Nat} (h : Prs H us l) (e : H r = some (.tup [.int (i : Int), .int (j : Int)])) : Prs H (us ++ [.ref r]) (l ++ [(i, j)]) := by
  refine ⟨by rw [List.length_append, List.length_append, h.len]; rfl, fun k p q => ?_⟩
  rcases Nat.lt_or_ge k l.length with z | z
  · rw [List.getElem?_append_left z] at q
    obtain ⟨r', e1, e2⟩ := h.at_ k p q
    exact ⟨r', by rw [List.getElem?_append_left (by rw [h.len]; exact z)]; exact e1, e2⟩
  · rw [List.getElem?_append_right z] at q
    have hk : k - l.length = 0 := by
      cases y : k - l.length with
      | zero => rfl
      | succ n =>
        rw [y] at q
        cases q
    rw [hk] at q
    cases q
    refine ⟨r, ?_, e⟩
    rw [List.getElem?_append_right (by rw [h.len]; exact z), h.len, hk]
    rfl
/-- the rows a .. a + i - 1, each with m columns from a on -/
def cnd (a m i : Nat) : List (Nat × Nat) := (List.range' a i).flatMap fun r => (List.range' a m).map fun c => (r, c)
theorem cnd_succ (a m i : Nat) : cnd a m (i + 1) = cnd a m i ++ (List.range' a m).map fun c => (a + i, c) := by
  unfold cnd
  rw [List.range'_concat, List.flatMap_append]
  congr 1
  show List.flatMap _ [a + 1 * i] = _
  rw [List.flatMap_cons, List.flatMap_nil, List.append_nil, Nat.one_mul]
theorem cnd_len (a m i : Nat) : (cnd a m i).length = i * m := by
  induction i with
  | zero => exact (Nat.zero_mul m).symm
  | succ i ih => rw [cnd_succ, List.length_append, ih, List.length_map, List.length_range', Nat.succ_mul]
theorem lc2_pairs {a n m v1 v2 : Nat} {wi1 : TI} {te : TE} {vs vs1 : List Nat} {σ : L2.St} {H1 : Hp} {D : Addr} {Qd : Hp → Prop} (hD : H1 D = none) (hnm : n * m + m ≤ 900)
    (w1 : ∀ x, wipe ((wipe σ vs).set v1 x) vs = wipe σ vs) (w2 : ∀ x y, wipe ((wipe ((wipe σ vs).set v1 x) vs1).set v2 y) vs1 = wipe ((wipe σ vs).set v1 x) vs1)
    (hw : ∀ (x : Option V) (H : Hp) (R : It → Hp → Prop), Same H1 H → R (Itr (a : Int) m) H → wi1 ((wipe σ vs).set v1 x) H R)
    (ht : ∀ (i j : Nat) (H : Hp) (Qy : VK), (∀ p, H p = none → Qy (.ref p) (upd H p (.tup [.int (i : Int), .int (j : Int)]))) → te ((wipe ((wipe σ vs).set v1 (some (.int (i : Int)))) vs1).set v2 (some (.int (j : Int)))) H Qy)
    (hd : ∀ H' us, Same H1 H' → H' D = some (.lst us) → Prs H' us (cnd a m n) → Qd H') :
    ∃ W : Nat → Nat → Hp → Prop, (∃ m, W 0 m (upd H1 D (.lst []))) ∧ ∀ i k H, W i k H →
      ((Itr (a : Int) n).stop i H ∧ Qd H) ∨ ((Itr (a : Int) n).go i H ∧ ∃ Nx : Hp → Prop, (∀ H', Nx H' → ∃ m', m' < k ∧ W (i + 1) m' H') ∧ ∀ x H', (Itr (a : Int) n).yld i H x H' → gName v1 x (wipe σ vs) H' fun σ2 H2 => wipe σ2 vs = wipe σ vs ∧ tYes σ2 H2 fun b H3 =>
        if b = true then wi1 σ2 H3 fun J1 H4 => ∃ W1 : Nat → Nat → Hp → Prop, (∃ m, W1 0 m H4) ∧ ∀ j k H, W1 j k H →
          (J1.stop j H ∧ Nx H) ∨ (J1.go j H ∧ ∃ Nx1 : Hp → Prop, (∀ H', Nx1 H' → ∃ k', k' < k ∧ W1 (j + 1) k' H') ∧ ∀ x H', J1.yld j H x H' → gName v2 x (wipe σ2 vs1) H' fun σ3 H5 => wipe σ3 vs1 = wipe σ2 vs1 ∧ tYes σ3 H5 fun b H6 =>
            if b = true then te σ3 H6 fun y H7 => ∃ acc, H7 D = some (.lst acc) ∧ acc.length < sizeLine ∧ Nx1 (upd H7 D (.lst (acc ++ [y]))) else Nx1 H6)
        else Nx H3) := by
  refine ⟨fun i k H => k = n - i ∧ i ≤ n ∧ Same H1 H ∧ ∃ us, H D = some (.lst us) ∧ Prs H us (cnd a m i), ⟨n, rfl, Nat.zero_le _, same_upd hD, [], upd_same, .nil⟩, ?_⟩
  rintro i k H ⟨rfl, hi, sm, us, eD, pr⟩
  by_cases hlt : i < n
  · refine .inr ⟨hlt, fun H' => Same H1 H' ∧ ∃ us, H' D = some (.lst us) ∧ Prs H' us (cnd a m (i + 1)), fun H' ⟨s', u', e', p'⟩ => ⟨n - (i + 1), by omega, rfl, hlt, s', u', e', p'⟩, ?_⟩
    rintro x H' ⟨rfl, rfl⟩
    refine ⟨w1 _, all_in (hw _ H' _ sm ?_)⟩
    refine ⟨fun j k H => k = m - j ∧ j ≤ m ∧ Same H1 H ∧ ∃ us, H D = some (.lst us) ∧ Prs H us (cnd a m i ++ (List.range' a j).map fun c => (a + i, c)), ⟨m, rfl, Nat.zero_le _, sm, us, eD, by rw [show (List.range' a 0).map (fun c => (a + i, c)) = [] from rfl, List.append_nil]; exact pr⟩, ?_⟩
    rintro j k H2 ⟨rfl, hj, sm2, us2, eD2, pr2⟩
    by_cases hjt : j < m
    · refine .inr ⟨hjt, fun H' => Same H1 H' ∧ ∃ us, H' D = some (.lst us) ∧ Prs H' us (cnd a m i ++ (List.range' a (j + 1)).map fun c => (a + i, c)), fun H' ⟨s', u', e', p'⟩ => ⟨m - (j + 1), by omega, rfl, hjt, s', u', e', p'⟩, ?_⟩
      rintro y H3 ⟨rfl, rfl⟩
      rw [show (a : Int) + ((i : Nat) : Int) = ((a + i : Nat) : Int) by omega, show (a : Int) + ((j : Nat) : Int) = ((a + j : Nat) : Int) by omega]
      refine ⟨w2 _ _, all_in (ht (a + i) (a + j) H3 _ fun p hp => ?_)⟩
      have hl : us2.length ≤ 900 := by
        rw [pr2.len, List.length_append, cnd_len, List.length_map, List.length_range']
        have : i * m ≤ n * m := Nat.mul_le_mul_right _ hi
        omega
      have s3 := same_upd (o := .tup [.int ((a + i : Nat) : Int), .int ((a + j : Nat) : Int)]) hp
      have ep : upd H3 p (.tup [.int ((a + i : Nat) : Int), .int ((a + j : Nat) : Int)]) p = some (.tup [.int ((a + i : Nat) : Int), .int ((a + j : Nat) : Int)]) := upd_same
      generalize upd H3 p (.tup [.int ((a + i : Nat) : Int), .int ((a + j : Nat) : Int)]) = H4 at s3 ep ⊢
      refine ⟨us2, s3 _ _ eD2, small1000 (by omega), fun b o e => ?_, _, upd_same, ?_⟩
      · rw [upd_ne (ne_of_none e hD)]
        exact s3 _ _ (sm2 _ _ e)
      · rw [List.range'_concat, List.map_append, ← List.append_assoc, Nat.one_mul]
        exact ((pr2.same s3).snoc ep).upd (s3 _ _ eD2)
    · obtain rfl : j = m := by omega
      refine .inl ⟨Nat.le_refl _, sm2, us2, eD2, ?_⟩
      rw [cnd_succ]
      exact pr2
  · obtain rfl : i = n := by omega
    exact .inl ⟨Nat.le_refl _, hd H us sm eD pr⟩
end Lb
set_option Elab.async false
set_option linter.all false
set_option maxRecDepth 100000
set_option maxHeartbeats 4000000
namespace Lb
open PySem PySem.Spec PyProof.Rows L2 RZ TL
/-! ### counts as data -/
abbrev rowI (g : Nat) (f : Nat → Int) : List Int := (List.range g).map f
theorem rowL_map (w : Nat) (f : Nat → Int) : rowL w f = (rowI w f).map V.int := by
  unfold rowL rowI
  rw [List.map_map]
  rfl
theorem rowI_len (g : Nat) (f : Nat → Int) : (rowI g f).length = g := by
  unfold rowI
  rw [List.length_map, List.length_range]
abbrev cntD (g : Nat) (f : Nat → Int) (d : Nat) : PyData := .tuple [bagD (rowI g f), .int (d : Int)]
def cols (n g : Nat) (S : Gr.Gs) : List Nat := (List.range g).filter fun c => Gr.dg n S.T c != 1
abbrev colD (n g : Nat) (S : Gr.Gs) (c : Nat) : PyData := cntD g (Gr.wt n S c) (Gr.dg n S.T c)
abbrev cntsD (n g : Nat) (S : Gr.Gs) : PyData := .tuple ((cols n g S).map (colD n g S))
theorem mem_cols {n g c : Nat} {S : Gr.Gs} : c ∈ cols n g S ↔ c < g ∧ Gr.dg n S.T c ≠ 1 := by
  unfold cols
  rw [List.mem_filter, List.mem_range]
  simp
theorem cols_len (n g : Nat) (S : Gr.Gs) : (cols n g S).length ≤ g := by
  have := List.length_filter_le (fun c => Gr.dg n S.T c != 1) (List.range g)
  rwa [List.length_range] at this
/-- what is new behind H -/
abbrev Nw (H : Hp) : Rgn := fun b => H b = none
/-- a comprehension with a test that makes a list of plain data -/
theorem lc_dats {J : It} {n : Nat} {G : Hp → Prop} {Y : Nat → Hp → V → Hp → Prop} (wk : L2.Walk J n G Y) {g : TG} {tt : TT} {te : TE} {vs : List Nat} {σ : L2.St} {H1 : Hp} {D : Addr} {Qd : Hp → Prop} (p : Nat → Bool) (dd : Nat → PyData) (hD : H1 D = none) (hn : n ≤ 1000) (hG : ∀ H', Same H1 H' → G H')
    (hs : ∀ (i : Nat) (x : V) (H H' : Hp) (Qn : Hp → Prop) (Qy : VK), i < n → Same H1 H → Y i H x H' → (p i = false → ∀ H'', Same H H'' → Qn H'') → (p i = true → ∀ H'' v, Same H H'' → Dat (Nw H) H'' v (dd i) → Qy v H'') →
      g x (wipe σ vs) H' fun σ2 H2 => wipe σ2 vs = wipe σ vs ∧ tt σ2 H2 fun b H3 => if b = true then te σ2 H3 Qy else Qn H3)
    (hd : ∀ H' us, Same H1 H' → H' D = some (.lst us) → Dats (wo (Nw H1) D) H' us (((List.range n).filter p).map dd) → Qd H') : LcW J g tt te vs σ H1 D Qd := by
  refine lc_it wk (fun i H => Same H1 H ∧ ∃ us, H D = some (.lst us) ∧ Dats (wo (Nw H1) D) H us (((List.range i).filter p).map dd)) ⟨same_upd hD, [], upd_same, .nil⟩ (fun i H _ h => hG H h.1) ?_ (fun H h => hd H _ h.1 h.2.choose_spec.1 h.2.choose_spec.2)
  rintro i x H H' hi ⟨sm, us, eD, du⟩ y
  have er : (List.range (i + 1)).filter p = (List.range i).filter p ++ if p i then [i] else [] := by
    rw [List.range_succ, List.filter_append]
    congr 1
    cases q : p i with
    | true => rw [List.filter_cons_of_pos q]; rfl
    | false => rw [List.filter_cons_of_neg (by rw [q]; decide)]; rfl
  refine hs i x H H' (fun H2 => Same H1 H2 ∧ ∃ us, H2 D = some (.lst us) ∧ Dats (wo (Nw H1) D) H2 us (((List.range (i + 1)).filter p).map dd)) (fun y H4 => ∃ acc, H4 D = some (.lst acc) ∧ acc.length < sizeLine ∧ Same H1 (upd H4 D (.lst (acc ++ [y]))) ∧ ∃ us, upd H4 D (.lst (acc ++ [y])) D = some (.lst us) ∧ Dats (wo (Nw H1) D) (upd H4 D (.lst (acc ++ [y]))) us (((List.range (i + 1)).filter p).map dd)) hi sm y (fun hp H2 s2 => ?_) (fun hp H2 v s2 dv => ?_)
  · rw [er, hp, if_neg (by decide), List.append_nil]
    exact ⟨sm.trans s2, us, s2 _ _ eD, du.same s2⟩
  · have hl : us.length ≤ i := by
      rw [du.length, List.length_map]
      have := List.length_filter_le p (List.range i)
      rwa [List.length_range] at this
    refine ⟨us, s2 _ _ eD, small1000 (by omega), fun b o e => ?_, _, upd_same, ?_⟩
    · rw [upd_ne (ne_of_none e hD)]
      exact s2 _ _ (sm _ _ e)
    · rw [er, hp, if_pos rfl, List.map_append]
      have dv' : Dat (wo (Nw H1) D) H2 v (dd i) := dv.sub fun b o hb e => ⟨sm.free hb, fun z => by
        have hb' : H b = none := hb
        rw [z, eD] at hb'
        cases hb'⟩
      exact ((du.same s2).on wo_on).append (.cons (dv'.on wo_on) .nil)
/-! ### how long numbers are when shown -/
theorem log_ofL {m k : Nat} (h : m ≤ 2 ^ k) : m.log2 ≤ k := by
  rcases Nat.eq_zero_or_pos m with rfl | q
  · rw [show (0 : Nat).log2 = 0 by decide]
    exact Nat.zero_le _
  · have : m.log2 < k + 1 := (Nat.log2_lt (by omega)).mpr (Nat.lt_of_le_of_lt h (by rw [Nat.pow_succ]; have := Nat.two_pow_pos k; omega))
    omega
/-! ### what the defs around the grid answer -/
/-- the place that is told -/
def PlaceAt (H : Hp) (v : V) : Option Gr.T3 → Prop
  | none => v = .non
  | some z => ∃ p, v = .ref p ∧ H p = some (.tup [.int (z.2.1 : Int), .int (z.2.2 : Int)])
def spLeastP (C : Addr) : Sp := fun vs H Q _ => ∃ (x dx : Addr) (H0 : Hp) (n g a : Nat) (T V : Gr.F2), vs = [.ref x, .int (a : Int)] ∧ GrAt C H0 H x dx n g T V ∧ a ≤ 100 ∧
  ∀ H' v, Same H H' → PlaceAt H' v (Gr.best (Gr.found n g T a)) → Q v H'
def spGridOf (C : Addr) : Sp := fun vs H Q _ => ∃ (mv : V) (g k : Nat) (ts : List Trd) (S : Gr.Gs), vs = [mv] ∧ MkV H mv g ts ∧ MktOk g ts ∧ Gr.Run ts.length g Gr.BB k (Gr.S0 g (mA ts)) S ∧
  ∀ H' x dx, GrAt C H H' x dx ts.length g S.T S.V → Q (.ref x) H'
def spCountOf : Sp := fun vs H Q _ => ∃ (r : Addr) (g d : Nat) (f : Nat → Int), vs = [.ref r, .int (d : Int)] ∧ H r = some (.lst (rowL g f)) ∧ g ≤ 100 ∧
  ∀ H' v, Same H H' → Dat (Nw H) H' v (cntD g (fun k => if 0 < d then f k % (d : Int) else f k) d) → Q v H'
def spCounts : Sp := fun vs H Q _ => ∃ (mv : V) (g k : Nat) (ts : List Trd) (S : Gr.Gs), vs = [mv] ∧ MkV H mv g ts ∧ MktOk g ts ∧ Gr.Run ts.length g Gr.BB k (Gr.S0 g (mA ts)) S ∧
  ∀ H' v, Same H H' → Dat (Nw H) H' v (cntsD ts.length g S) → Q v H'
end Lb
set_option Elab.async false
set_option linter.all false
set_option maxRecDepth 100000
set_option maxHeartbeats 4000000
namespace Lb
open PySem PySem.Spec PyProof.Rows L2 RZ TL
/-! ### zip of two sequences, each a list or a tuple -/
/-- a list (true) or a tuple (false) with these items -/
def SqK (k : Bool) (K : PySem.W.Frag) (H : Hp) (a : Addr) (xs : List V) : Prop := match k with
  | true => SqL K H a xs
  | false => SqT K H a xs
def OnK (k : Bool) (h : Heap) (a : Addr) (us : Array Value) : Prop := match k with
  | true => h.IsList a us
  | false => h.IsTuple a us
def ItK (k : Bool) (h : Heap) (it a : Addr) (i : Nat) : Prop := match k with
  | true => h.IsListIter it a i
  | false => h.IsTupleIter it a i
abbrev nmK (k : Bool) : String := match k with
  | true => "list_iterator"
  | false => "tuple_iterator"
abbrev oK (k : Bool) (a : Addr) : Obj := { cls := .type (nmK k), data := .fields #[.ref a, .int 0 0] }
theorem itK_new {k : Bool} {h : Heap} {i a : Addr} (e : h.get? i = some (oK k a)) : ItK k h i a 0 := by
  cases k
  · exact ⟨_, e, rfl, rfl⟩
  · exact ⟨_, e, rfl, rfl⟩
theorem itK_obj {k : Bool} {h : Heap} {it a : Addr} {i : Nat} (x : ItK k h it a i) : ∃ o, h.get? it = some o ∧ ∃ us, o.data = .fields us := by
  cases k
  · obtain ⟨o, e, _, d⟩ := x
    exact ⟨o, e, _, d⟩
  · obtain ⟨o, e, _, d⟩ := x
    exact ⟨o, e, _, d⟩
theorem itK_at {k : Bool} {h h' : Heap} {it a : Addr} {i : Nat} (x : ItK k h it a i) (q : ∀ o, h.get? it = some o → h'.get? it = some o) : ItK k h' it a i := by
  cases k
  · exact Heap.IsTupleIter.at x q
  · exact Heap.IsListIter.at x q
theorem onK_lt {k : Bool} {h : Heap} {a : Addr} {us : Array Value} (x : OnK k h a us) : a < h.objs.size := by
  cases k
  · obtain ⟨o, e, _⟩ := x
    exact Heap.lt_size e
  · obtain ⟨o, e, _⟩ := x
    exact Heap.lt_size e
theorem drawsK (k : Bool) {prog : Program} {w : World} {A : Around} (hh : A.handled = none) (it a : Addr) (hne : a ≠ it) (us : Array Value) :
    Draws prog w A it [it, a] us.size (fun i v => us[i]? = some v) (fun i h => ItK k h it a i ∧ OnK k h a us) := by
  cases k
  · exact Draws.tuple hh it a hne us
  · exact Draws.list hh it a hne us
theorem beginsK (k : Bool) (a : Addr) (us : Array Value) : Begins (.ref a) (oK k a) fun h => OnK k h a us := by
  cases k
  · exact begins_tuple a us
  · exact begins_list a us
theorem invK {k : Bool} {X : Cx} {pins : List (Addr × Obj)} {σ : L2.St} {H : Hp} {s : Shared} {a : Addr} {xs : List V} (I : Inv X pins σ H s) (q : SqK k X.K H a xs) : ∃ us : List Value, Vals xs us ∧ OnK k s.heap a us.toArray := by
  cases k
  · obtain ⟨us, r, p, _⟩ := I.tuple q
    exact ⟨us, r, p⟩
  · obtain ⟨us, r, ⟨o, n, e, c, _, d⟩, _⟩ := I.list q
    exact ⟨us, r, o, e, c, n, d⟩
theorem injK {k : Bool} {X : Cx} {pins : List (Addr × Obj)} {σ : L2.St} {H : Hp} {s : Shared} {a : Addr} {xs ys : List V} (I : Inv X pins σ H s) (q : SqK k X.K H a xs) (r : SqK k X.K H a ys) : xs = ys := by
  cases k
  · exact I.tuple_inj q r
  · exact I.list_inj q r
/-- the items of a and of b in new pairs -/
def ItzM (k l : Bool) (K : PySem.W.Frag) (a b : Addr) : It :=
  ⟨fun i H => ∃ (xs ys : List V) (x y : V), SqK k K H a xs ∧ SqK l K H b ys ∧ xs[i]? = some x ∧ ys[i]? = some y,
    fun i H v H' => ∃ T x y, v = .ref T ∧ H T = none ∧ H' = upd H T (.tup [x, y]) ∧ (∀ xs, SqK k K H a xs → xs[i]? = some x) ∧ ∀ ys, SqK l K H b ys → ys[i]? = some y,
    fun i H => ∃ xs ys : List V, SqK k K H a xs ∧ SqK l K H b ys ∧ i ≤ xs.length ∧ i ≤ ys.length ∧ (i = xs.length ∨ i = ys.length)⟩
structure ApartM (q TI TO i1 i2 a b : Addr) : Prop where
  sep : ZipSep2 q TI TO i1 i2 [i1, a] [i2, b]
  n1 : a ≠ i1
  n2 : b ≠ i2
theorem apartM (n a b : Nat) (ha : a < n) (hb : b < n) : ApartM (n + 4) (n + 2) (n + 3) n (n + 1) a b := by
  have t : ∀ {x y z : Nat}, x ≠ y → x ≠ z → x ∉ [y, z] := fun {x y z} h1 h2 h => by
    rcases List.mem_cons.mp h with h | h
    · exact h1 h
    · exact h2 (List.mem_singleton.mp h)
  have d : ∀ {x y : Nat}, (x < y ∨ y < x) → x ≠ y := fun {x y} h z => by omega
  refine ⟨⟨d (by omega), d (by omega), d (by omega), d (by omega), List.mem_cons_self, t (d (by omega)) (d (by omega)), t (d (by omega)) (d (by omega)), d (by omega), List.mem_cons_self, t (d (by omega)) (d (by omega)), t (d (by omega)) (d (by omega)), t (d (by omega)) (d (by omega)), t (d (by omega)) (d (by omega))⟩, d (by omega), d (by omega)⟩
theorem turn_zipM {k l : Bool} {P : Program} {w : World} {K : PySem.W.Frag} {elts : List Expr} {kk : Nat} {tpos : Pos} {a b q TI TO i1 i2 : Addr} (D : ApartM q TI TO i1 i2 a b) :
    Turn P w K (.Tuple elts kk tpos) (ItzM k l K a b) [q, TI, TO, i1, i2] q (fun i h => IsZip h q TI TO .none ∧ IsTupOf2 h TI (.ref i1) (.ref i2) ∧ (∃ x y, IsTupOf2 h TO x y) ∧ ItK k h i1 a i ∧ ItK l h i2 b i) where
  mem := by simp
  obj := fun i h st c hc => by
    obtain ⟨hz, hTI, ⟨x, y, hTO⟩, s1, s2⟩ := st
    obtain ⟨o1, e1, u1, d1⟩ := itK_obj s1
    obtain ⟨o2, e2, u2, d2⟩ := itK_obj s2
    have e' : c = q ∨ c = TI ∨ c = TO ∨ c = i1 ∨ c = i2 := by simpa using hc
    rcases e' with z | z | z | z | z
    · rw [z]; exact ⟨_, hz, fun v u => nomatch u⟩
    · rw [z]; exact ⟨_, hTI, fun v u => nomatch u⟩
    · rw [z]; exact ⟨_, hTO, fun v u => nomatch u⟩
    · rw [z]; exact ⟨o1, e1, fun v u => by rw [d1] at u; cases u⟩
    · rw [z]; exact ⟨o2, e2, fun v u => by rw [d2] at u; cases u⟩
  keep := fun i h h' st m => by
    obtain ⟨hz, hTI, ⟨x, y, hTO⟩, s1, s2⟩ := st
    exact ⟨m q (by simp) _ hz, m TI (by simp) _ hTI, ⟨x, y, m TO (by simp) _ hTO⟩, itK_at s1 fun o u => m i1 (by simp) o u, itK_at s2 fun o u => m i2 (by simp) o u⟩
  item := by
    intro X hP hw hK hc i pins s σ H E I hf st hg
    subst hP hw hK
    obtain ⟨hz, hTI, ⟨x0, y0, hTO⟩, s1, s2⟩ := st
    obtain ⟨xs, ys, x, y, hqx, hqy, hx, hy⟩ := hg
    obtain ⟨us, rv, p⟩ := invK I hqx
    obtain ⟨us2, rv2, p2⟩ := invK I hqy
    obtain ⟨u, hu, ru⟩ := rv.get hx
    obtain ⟨u2, hu2, ru2⟩ := rv2.get hy
    have hzl : q < s.heap.objs.size := Heap.lt_size hz
    have l1 : i < us.toArray.size := by simpa using (List.getElem?_eq_some_iff.mp hu).1
    have l2 : i < us2.toArray.size := by simpa using (List.getElem?_eq_some_iff.mp hu2).1
    refine wpAny_pyNext_zipD2_item D.sep (drawsK k (A := X.A.in1) (I.ok.hd hc) i1 a D.n1 us.toArray) (drawsK l (A := X.A.in1) (I.ok.hd hc) i2 b D.n2 us2.toArray) hz hTI hTO ⟨s1, p⟩ ⟨s2, p2⟩ l1 l2 fun x1 x2 h' tk y1 y2 z' TO' t1 t2 hT hsz hk => ?_
    have g1 : x1 = u := Option.some.inj (y1.symm.trans (by simpa using hu))
    have g2 : x2 = u2 := Option.some.inj (y2.symm.trans (by simpa using hu2))
    subst g1 g2
    refine ⟨_, rfl, wpAny_letOwnedTupleGo_zip (s := { s with heap := h', toks := tk }) z' fun h'' z'' sb => ?_⟩
    have hT2 : h''.get? s.heap.objs.size = some { cls := .type "tuple", data := .seq #[x1, x2] } := (sb.2 _ (Nat.ne_of_gt hzl)).trans hT
    have new : ObjOk X.prog X.w (upd H s.heap.objs.size (.tup [x, y])) h'' s.heap.objs.size (.tup [x, y]) :=
      ⟨by show 2 ≤ sizeLine; decide, [x1, x2], .cons ru (.cons ru2 .nil), ⟨_, hT2, rfl, _, rfl⟩⟩
    have I1 : Inv X pins σ (upd H s.heap.objs.size (.tup [x, y])) { s with heap := h'', toks := tk } :=
      I.turnedNew (t' := tk) (ch := [q, TI, TO, i1, i2]) (fun c o hb v => (sb.2 c (fun e => hb (by simp [e]))).trans (hk c o (fun e => hb (by simp [e])) (fun e => hb (by simp [e])) (fun e => hb (by simp [e])) (fun e => hb (by simp [e])) v)) hf (Nat.le_refl _) new
    refine ⟨.ref s.heap.objs.size, _, I1, rfl, ⟨_, x, y, rfl, I.hok.fresh (Nat.le_refl _), rfl, fun m hm => by rw [injK I hm hqx]; exact hx, fun m hm => by rw [injK I hm hqy]; exact hy⟩, ⟨z'', ?_, ⟨x1, x2, ?_⟩, ?_, ?_⟩, fun c hcm => ?_⟩
    · exact (sb.2 _ D.sep.TIz).trans (hk _ _ D.sep.TIz D.sep.TITO D.sep.TIi1 D.sep.TIi2 hTI)
    · exact (sb.2 _ D.sep.TOz).trans TO'
    · exact itK_at t1.1 fun o v => (sb.2 _ D.sep.zi1.symm).trans v
    · exact itK_at t2.1 fun o v => (sb.2 _ D.sep.zi2.symm).trans v
    · have hlt : c < s.heap.objs.size := by
        obtain ⟨_, e1, _⟩ := itK_obj s1
        obtain ⟨_, e2, _⟩ := itK_obj s2
        have e' : c = q ∨ c = TI ∨ c = TO ∨ c = i1 ∨ c = i2 := by simpa using hcm
        rcases e' with z | z | z | z | z
        · rw [z]; exact hzl
        · rw [z]; exact Heap.lt_size hTI
        · rw [z]; exact Heap.lt_size hTO
        · rw [z]; exact Heap.lt_size e1
        · rw [z]; exact Heap.lt_size e2
      rw [upd_ne (Nat.ne_of_lt hlt)]
      exact (hf c hcm).1
  done := by
    intro X hP hw hK hc i pins s σ H E I hf st hg
    subst hP hw hK
    obtain ⟨hz, hTI, ⟨x0, y0, hTO⟩, s1, s2⟩ := st
    obtain ⟨xs, ys, hqx, hqy, b1, b2, hend⟩ := hg
    obtain ⟨us, rv, p⟩ := invK I hqx
    obtain ⟨us2, rv2, p2⟩ := invK I hqy
    have l1 : us.toArray.size = xs.length := by simpa using rv.length.symm
    have l2 : us2.toArray.size = ys.length := by simpa using rv2.length.symm
    exact wpAny_pyNext_zipD2_end D.sep (drawsK k (A := X.A.in1) (I.ok.hd hc) i1 a D.n1 us.toArray) (drawsK l (A := X.A.in1) (I.ok.hd hc) i2 b D.n2 us2.toArray) hz hTI hTO ⟨s1, p⟩ ⟨s2, p2⟩ (by omega) (by omega) (by omega) fun h' tk hk => ⟨rfl, I.turnedL (t' := tk) (ch := [q, TI, TO, i1, i2]) (fun c o hb v =>
      hk c o (fun e => hb (by simp [e])) (fun e => hb (by simp [e])) (fun e => hb (by simp [e])) (fun e => hb (by simp [e])) v) hf⟩
  self := fun A i s Q E st h => wpAny_pyIter_zip st.1 h
def iZipM (k l : Bool) (K : PySem.W.Frag) (ta : TA) : TI := fun σ H R => ta σ H fun vs H1 => ∃ a b xs ys, vs = [.ref a, .ref b] ∧ SqK k K H1 a xs ∧ SqK l K H1 b ys ∧ R (ItzM k l K a b) H1
theorem pi_zipM (k l : Bool) {X : Cx} {e e2 : Expr} {ta : TA} {p pos tpos : Pos} {elts : List Expr} {kk : Nat} (hg : Gl X "zip") (hm : X.mg "zip" = none) (ha : PA X [e, e2] ta)
    (hs : starEach [e, e2] X.env = (false, eval e X.env) :: starEach [e2] X.env := by rfl) (hpl : (backTo pos (starEach [e2] X.env)).any (·.1) = false := by rfl) :
    PI X (.Tuple elts kk tpos) (.Call (.Name "zip" p) [e, e2] [] pos) (iZipM k l X.K ta) := by
  refine ⟨fun pins s σ H R I h => ?_⟩
  refine Call_ (ld_blt I hg hm PyProof.Rows.boot_zip (PyProof.Rows.callWith_type1 (thn (ha.run pos pins s σ H _ I h) fun us s1 ⟨vs, H1, I1, r1, q1⟩ => ?_) hs hpl))
  obtain ⟨a, b, xs, ys, ex, hqx, hqy, q⟩ := q1
  subst ex
  cases r1 with
  | cons r rr =>
    cases rr with
    | cons r' rr =>
      cases rr
      cases r
      cases r'
      have fresh5 : ∀ c, c ∈ [s1.heap.objs.size + 4, s1.heap.objs.size + 2, s1.heap.objs.size + 3, s1.heap.objs.size, s1.heap.objs.size + 1] → FpOk X pins H1 c := fun c hcm => by
        have e' : c = s1.heap.objs.size + 4 ∨ c = s1.heap.objs.size + 2 ∨ c = s1.heap.objs.size + 3 ∨ c = s1.heap.objs.size ∨ c = s1.heap.objs.size + 1 := by simpa using hcm
        have hle : s1.heap.objs.size ≤ c := by omega
        exact I1.fpOk hle (I1.hok.fresh hle)
      obtain ⟨us, rv, p1⟩ := invK I1 hqx
      obtain ⟨us2, rv2, p2⟩ := invK I1 hqy
      refine zip_begins2 (beginsK k a us.toArray) (beginsK l b us2.toArray) p1 p2 fun h' hz hTI hTO h1 h2 hsz hk => wpAny_pyIter_zip hz ?_
      have I2 : Inv X pins σ H1 { s1 with heap := h' } := I1.kept (t' := s1.toks) hk
      exact ⟨s1.heap.objs.size + 4, [s1.heap.objs.size + 4, s1.heap.objs.size + 2, s1.heap.objs.size + 3, s1.heap.objs.size, s1.heap.objs.size + 1], _, _, H1, rfl, I2, turn_zipM (apartM s1.heap.objs.size a b (onK_lt p1) (onK_lt p2)), ⟨hz, hTI, ⟨_, _, hTO⟩, itK_new h1, itK_new h2⟩, fresh5, q⟩
theorem walk_zipM {k l : Bool} {K : PySem.W.Frag} {a b : Addr} {xs ys : List V} {n : Nat} (hn : n = xs.length) (hl : xs.length = ys.length) : L2.Walk (ItzM k l K a b) n (fun H => SqK k K H a xs ∧ SqK l K H b ys) (YPair (fun i => xs[i]?) (fun i => ys[i]?)) := by
  subst hn
  refine ⟨fun i _ hi q => ?_, fun _ q => ⟨xs, ys, q.1, q.2, Nat.le_refl _, by omega, .inl rfl⟩, fun i H v H' _ q y => ?_⟩
  · exact ⟨xs, ys, xs[i], ys[i], q.1, q.2, List.getElem?_eq_getElem hi, List.getElem?_eq_getElem (by omega)⟩
  · obtain ⟨T, x, z, h1, h2, h3, h4, h5⟩ := y
    exact ⟨T, x, z, h1, h2, h3, h4 xs q.1, h5 ys q.2⟩
end Lb
set_option Elab.async false
set_option linter.all false
set_option maxRecDepth 100000
set_option maxHeartbeats 4000000
namespace Lb
open PySem PySem.Spec PyProof.Rows L2 RZ TL
/-! ### stocks and what lies around them -/
/-- so many amounts, up to m -/
structure StkB (g m : Nat) (x : List Int) : Prop where
  len : x.length = g
  amt : ∀ z ∈ x, 0 ≤ z ∧ z ≤ (m : Int)
theorem StkB.mono {g m n : Nat} {x : List Int} (h : StkB g m x) (l : m ≤ n) : StkB g n x := ⟨h.len, fun z hz => by have := h.amt z hz; omega⟩
theorem StkB.get {g m : Nat} {x : List Int} (h : StkB g m x) (k : Nat) : 0 ≤ x.getD k 0 ∧ x.getD k 0 ≤ (m : Int) := by
  rw [List.getD_eq_getElem?_getD]
  rcases Nat.lt_or_ge k x.length with q | q
  · rw [List.getElem?_eq_getElem q]
    exact h.amt _ (List.getElem_mem q)
  · rw [List.getElem?_eq_none q]
    exact ⟨Int.le_refl _, by show (0 : Int) ≤ _; omega⟩
theorem geB_at {x y : List Int} {i : Nat} {u v : Int} (h : geB x y = true) (hx : x[i]? = some u) (hy : y[i]? = some v) : v ≤ u := by
  unfold geB at h
  rw [List.all_eq_true] at h
  have hm : decide (u ≥ v) ∈ List.zipWith (fun a b => decide (a ≥ b)) x y := by
    refine List.mem_of_getElem? (i := i) ?_
    rw [List.getElem?_zipWith, hx, hy]
  have := h _ hm
  simpa using this
theorem exch_bd {g m : Nat} {x t p b : List Int} (hx : StkB g m x) (ht : t.length = g) (hp : StkB g 3 p) (tn : ∀ z ∈ t, 0 ≤ z) (e : exch x t p = some b) : StkB g (m + 3) b := by
  unfold exch at e
  split at e
  · rename_i hg
    cases e
    refine ⟨by rw [List.length_zipWith, List.length_zipWith, hx.len, ht, hp.len]; omega, fun z hz => ?_⟩
    obtain ⟨i, hi⟩ := List.getElem?_of_mem hz
    have hl : i < g := by
      have := (List.getElem?_eq_some_iff.mp hi).1
      rw [List.length_zipWith, List.length_zipWith, hx.len, ht, hp.len] at this
      omega
    obtain ⟨u, ex⟩ : ∃ u, x[i]? = some u := ⟨_, List.getElem?_eq_getElem (show i < x.length by rw [hx.len]; exact hl)⟩
    obtain ⟨v, et⟩ : ∃ v, t[i]? = some v := ⟨_, List.getElem?_eq_getElem (show i < t.length by rw [ht]; exact hl)⟩
    obtain ⟨w, ep⟩ : ∃ w, p[i]? = some w := ⟨_, List.getElem?_eq_getElem (show i < p.length by rw [hp.len]; exact hl)⟩
    rw [List.getElem?_zipWith, List.getElem?_zipWith, ex, et, ep] at hi
    have hz2 : u - v + w = z := Option.some.inj hi
    have h1 := geB_at hg ex et
    have h2 := hx.amt _ (List.mem_of_getElem? ex)
    have h3 := hp.amt _ (List.mem_of_getElem? ep)
    have h4 := tn _ (List.mem_of_getElem? et)
    omega
  · cases e
theorem Side.stk {g m : Nat} {b : List Int} (h : Side g m b) : StkB g 3 b := ⟨h.len, fun z hz => h.amt z hz⟩
theorem behind_bd {g m : Nat} {ts : List Trd} {x b : List Int} {k : Nat} {c : Bool} (mok : MktOk g ts) (hx : StkB g m x) (e : behind ts x k c = some b) : StkB g (m + 3) b := by
  unfold behind at e
  split at e
  · cases e
  · rename_i t ht
    have htm := mok.all t (List.mem_of_getElem? ht)
    split at e
    · exact exch_bd hx htm.2.len htm.1.stk (fun z hz => (htm.2.amt z hz).1) e
    · exact exch_bd hx htm.1.len htm.2.stk (fun z hz => (htm.1.amt z hz).1) e
/-- the steps in order -/
def steps2 (n : Nat) : List (Nat × Bool) := (List.range n).flatMap fun k => [(k, false), (k, true)]
theorem steps2_succ (n : Nat) : steps2 (n + 1) = steps2 n ++ [(n, false), (n, true)] := by
  unfold steps2
  rw [List.range_succ, List.flatMap_append]
  rfl
theorem steps2_len (n : Nat) : (steps2 n).length = 2 * n := by
  induction n with
  | zero => rfl
  | succ n ih =>
    rw [steps2_succ, List.length_append, ih]
    show 2 * n + 2 = _
    omega
def arnd (ts : List Trd) (x : List Int) (n : Nat) : List (List Int) := (steps2 n).filterMap fun s => behind ts x s.1 s.2
abbrev around (ts : List Trd) (x : List Int) : List (List Int) := arnd ts x ts.length
theorem arnd_len (ts : List Trd) (x : List Int) (n : Nat) : (arnd ts x n).length ≤ 2 * n := by
  have := List.length_filterMap_le (fun s : Nat × Bool => behind ts x s.1 s.2) (steps2 n)
  rw [steps2_len] at this
  exact this
theorem mem_arnd {ts : List Trd} {x y : List Int} {n : Nat} (h : y ∈ arnd ts x n) : ∃ k b, behind ts x k b = some y := by
  obtain ⟨s, _, e⟩ := List.mem_filterMap.mp h
  exact ⟨s.1, s.2, e⟩
theorem around_bd {g m : Nat} {ts : List Trd} {x y : List Int} (mok : MktOk g ts) (hx : StkB g m x) (h : y ∈ around ts x) : StkB g (m + 3) y := by
  obtain ⟨k, b, e⟩ := mem_arnd h
  exact behind_bd mok hx e
/-! ### what the defs of the laws about counts answer -/
def spOneT : Sp := fun vs H Q _ => ∃ (d c r l : Addr) (n : Nat) (xs : List V), vs = [.ref d, .ref l] ∧ Dk H d c r n ∧ n < 2 ^ 40 ∧ H l = some (.tup xs) ∧ l ≠ d ∧ l ≠ r ∧ 0 < xs.length ∧ xs.length ≤ 1000 ∧
  ∀ (H' : Hp) (v : Nat) (x : V), xs[v]? = some x → Dk H' d c r (n + 1) → Kp d r H H' → Q x H'
def spAround : Sp := fun vs H Q _ => ∃ (R : Rgn) (m s : V) (g : Nat) (ts : List Trd) (x : List Int), vs = [m, s] ∧ Dat R H m (.tuple (ts.map trdD)) ∧ Dat R H s (bagD x) ∧ Even g ts ∧ g ≤ 1000 ∧ x.length = g ∧ ts.length ≤ 100 ∧ (∀ p, H p = none → R p) ∧
  ∀ (H' : Hp) (L : Addr) (us : List V), Same H H' → H L = none → H' L = some (.lst us) → Dats R H' us ((around ts x).map bagD) → Q (.ref L) H'
def spNear : Sp := fun vs H Q _ => ∃ (R : Rgn) (d c r : Addr) (n g m many : Nat) (mv sv : V) (ts : List Trd) (x : List Int), vs = [.ref d, mv, sv, .int (many : Int)] ∧ Dk H d c r n ∧ n < 2 ^ 38 ∧ Rg R H d r ∧ Dat R H mv (mktD g ts) ∧ Dat R H sv (bagD x) ∧ MktOk g ts ∧ StkB g m x ∧ many ≤ 10 ∧
  ∀ (H' : Hp) (v : V) (y : List Int), StkB g (m + 3 * many) y → Dat R H' v (bagD y) → Dk H' d c r (n + many) → Kp d r H H' → Q v H'
/-- two stocks told -/
abbrev TwoStk (R : Rgn) (H : Hp) (Q : VK) (d c r : Addr) (n g m : Nat) : Prop := ∀ (H' : Hp) (p : Addr) (u w : V) (x y : List Int), R p → H' p = some (.tup [u, w]) → Dat R H' u (bagD x) → Dat R H' w (bagD y) → StkB g m x → StkB g m y → Dk H' d c r n → Kp d r H H' → Q (.ref p) H'
def spPairL : Sp := fun vs H Q _ => ∃ (R : Rgn) (d c r : Addr) (n g m : Nat) (mv : V) (ts : List Trd), vs = [.ref d, mv, .int (m : Int)] ∧ Dk H d c r n ∧ n < 2 ^ 37 ∧ Rg R H d r ∧ Dat R H mv (mktD g ts) ∧ MktOk g ts ∧ m ≤ 100 ∧ TwoStk R H Q d c r (n + 20) g (m + 12)
/-- how amounts change by so many of each trade -/
def chg (ts : List Trd) (ns : List Int) (m : Nat) : Int := Gr.dot ts.length (fun k => ns.getD k 0) fun k => mA ts k m
def spChange (l : Bool) (K : PySem.W.Frag) : Sp := fun vs H Q _ => ∃ (R : Rgn) (na : Addr) (mv : V) (g : Nat) (ts : List Trd) (ns : List Int), vs = [mv, .ref na] ∧ Dat R H mv (mktD g ts) ∧ MktOk g ts ∧ SqK l K H na (ns.map V.int) ∧ ns.length = ts.length ∧ (∀ z ∈ ns, z.natAbs.log2 ≤ 2000) ∧
  ∀ (H' : Hp) (L : Addr), Same H H' → H L = none → H' L = some (.lst (rowL g (chg ts ns))) → Q (.ref L) H'
def spAgreeing : Sp := fun vs H Q _ => ∃ (R : Rgn) (d c r : Addr) (n g : Nat) (mv : V) (ts : List Trd), vs = [.ref d, mv, .int 40] ∧ Dk H d c r n ∧ n < 2 ^ 37 ∧ Rg R H d r ∧ Dat R H mv (mktD g ts) ∧ MktOk g ts ∧ TwoStk R H Q d c r (n + 20) g 40
def spAreSame : Sp := fun vs H Q _ => ∃ (R : Rgn) (cv ov uv : V) (g d : Nat) (f : Nat → Int) (x y : List Int), vs = [cv, ov, uv] ∧ Dat R H cv (cntD g f d) ∧ Dat R H ov (bagD x) ∧ Dat R H uv (bagD y) ∧ StkB g 1000 x ∧ StkB g 1000 y ∧ g ≤ 4 ∧ (∀ k, k < g → (f k).natAbs ≤ Gr.BB) ∧
  ∀ (H' : Hp) (b : Bool), Same H H' → (b = true ↔ (d : Int) ∣ Gr.dot g (gain (x, y)) f) → Q (.bl b) H'
/-! ### what the program's defs answer -/
def spTradesFor (C : Addr) : Sp := fun vs H Q _ => ∃ (x dx : Addr) (H0 : Hp) (n g c : Nat) (T V : Gr.F2), vs = [.ref x, .int (c : Int)] ∧ GrAt C H0 H x dx n g T V ∧ c < n ∧ NewRow H Q n fun k => Gr.sg (T c c) (T c (g + k))
def spWorthP : Sp := fun vs H Q _ => ∃ (a b : Addr) (g : Nat) (f h : Nat → Int), vs = [.ref a, .ref b] ∧ H a = some (.lst (rowL g f)) ∧ H b = some (.lst (rowL g h)) ∧ g ≤ 100 ∧ (∀ k, k < g → CMulW (f k) (h k)) ∧ ∀ H', Same H H' → Q (.int (Gr.dot g f h)) H'
/-- net numbers, or none -/
def NetAt (H H' : Hp) (v : V) (n : Nat) : Option (Nat → Int) → Prop
  | none => v = .non
  | some N => Dat (Nw H) H' v (bagD (rowI n N))
abbrev NetIn (H : Hp) (mv ov uv : V) (g : Nat) (ts : List Trd) (S : Gr.Gs) (x y : List Int) : Prop := MkV H mv g ts ∧ MktOk g ts ∧ (∃ k, Gr.Run ts.length g Gr.BB k (Gr.S0 g (mA ts)) S) ∧ (∃ a, ov = .ref a ∧ H a = some (.tup (x.map V.int))) ∧ (∃ a, uv = .ref a ∧ H a = some (.tup (y.map V.int))) ∧ StkB g 1000 x ∧ StkB g 1000 y
def spNet : Sp := fun vs H Q _ => ∃ (mv ov uv : V) (g : Nat) (ts : List Trd) (S : Gr.Gs) (x y : List Int), vs = [mv, ov, uv] ∧ NetIn H mv ov uv g ts S x y ∧
  ∀ H' v, Same H H' → NetAt H H' v ts.length (Gr.netN ts.length g S (gain (x, y)) g) → Q v H'
def spAgree : Sp := fun vs H Q _ => ∃ (mv ov uv : V) (g : Nat) (ts : List Trd) (S : Gr.Gs) (x y : List Int), vs = [mv, ov, uv] ∧ NetIn H mv ov uv g ts S x y ∧
  ∀ H', Same H H' → Q (.bl (Gr.netN ts.length g S (gain (x, y)) g).isSome) H'
/-! ### the size of net numbers -/
theorem dot_bd {n X Y : Nat} {x y : Nat → Int} (hx : ∀ k, k < n → (x k).natAbs ≤ X) (hy : ∀ k, k < n → (y k).natAbs ≤ Y) : (Gr.dot n x y).natAbs ≤ n * (X * Y) := by
  induction n with
  | zero => exact Nat.zero_le _
  | succ n ih =>
    have h1 := ih (fun k hk => hx k (by omega)) (fun k hk => hy k (by omega))
    have h2 : (x n * y n).natAbs ≤ X * Y := by
      rw [Int.natAbs_mul]
      exact Nat.mul_le_mul (hx n (by omega)) (hy n (by omega))
    show (Gr.dot n x y + x n * y n).natAbs ≤ _
    rw [Nat.succ_mul]
    omega
theorem gain_bd {g m : Nat} {x y : List Int} (hx : StkB g m x) (hy : StkB g m y) (k : Nat) : (gain (x, y) k).natAbs ≤ m := by
  have h1 := hx.get k
  have h2 := hy.get k
  show (y.getD k 0 - x.getD k 0).natAbs ≤ m
  omega
theorem wsum_bd {n g m : Nat} {A : Gr.F2} {S : Gr.Gs} (h : Gr.Lastly n g A S) {c : Nat} (hc : c < g) {ch : Nat → Int} (hch : ∀ k, k < g → (ch k).natAbs ≤ m) : (Gr.wsum g S c ch).natAbs ≤ g * (m * Gr.BB) := dot_bd hch fun k hk => h.bd.v k c hk hc
theorem sg_abs (x y : Int) : (Gr.sg x y).natAbs = y.natAbs := by
  unfold Gr.sg
  split
  · rfl
  · exact Int.natAbs_neg y
theorem net_bd {n g m : Nat} {A : Gr.F2} {S : Gr.Gs} (h : Gr.Lastly n g A S) {ch : Nat → Int} (hch : ∀ k, k < g → (ch k).natAbs ≤ m) : ∀ {c : Nat} {N : Nat → Int}, c ≤ g → Gr.netN n g S ch c = some N → ∀ k, k < n → (N k).natAbs ≤ c * (g * (m * Gr.BB) * Gr.BB) := by
  intro c
  induction c with
  | zero =>
    intro N _ e k _
    cases e
    exact Nat.zero_le _
  | succ c ih =>
    intro N hc e k hk
    unfold Gr.netN at e
    cases e1 : Gr.netN n g S ch c with
    | none =>
      rw [e1] at e
      exact nomatch e
    | some M =>
      rw [e1] at e
      have h1 := ih (by omega) e1 k hk
      dsimp only [Option.bind_some] at e
      rw [Nat.succ_mul]
      split at e
      · rename_i q
        cases e
        have cn : c < n := by
          have q1 := q.1
          unfold Gr.dg at q1
          split at q1
          · assumption
          · omega
        have h2 : (Gr.wsum g S c ch / (Gr.dg n S.T c : Int)).natAbs ≤ g * (m * Gr.BB) := Nat.le_trans (Gr.ediv_natAbs _ (by omega)) (wsum_bd h (by omega) hch)
        have h3 : (Gr.sg (S.T c c) (S.T c (g + k))).natAbs ≤ Gr.BB := by
          rw [sg_abs]
          exact h.bd.t c (g + k) cn (by omega)
        have h4 : (Gr.wsum g S c ch / (Gr.dg n S.T c : Int) * Gr.sg (S.T c c) (S.T c (g + k))).natAbs ≤ g * (m * Gr.BB) * Gr.BB := by
          rw [Int.natAbs_mul]
          exact Nat.mul_le_mul h2 h3
        show (M k + Gr.wsum g S c ch / (Gr.dg n S.T c : Int) * Gr.sg (S.T c c) (S.T c (g + k))).natAbs ≤ _
        omega
      · split at e
        · exact nomatch e
        · cases e
          omega
end Lb
set_option Elab.async false
set_option linter.all false
set_option maxRecDepth 100000
set_option maxHeartbeats 4000000
namespace Lb
open PySem PySem.Spec PyProof.Rows L2 RZ TL
theorem same_lstK {K : PySem.W.Frag} {H H' : Hp} {a : Addr} {xs : List V} (e : Same H H') (h : SqL K H a xs) : SqL K H' a xs := by
  rcases h with (h | ⟨o, h⟩) | h
  · exact .inl (.inl (e _ _ h))
  · exact .inl (.inr ⟨o, e _ _ h⟩)
  · exact .inr h
theorem SqK.same {k : Bool} {K : PySem.W.Frag} {H H' : Hp} {a : Addr} {xs : List V} (h : SqK k K H a xs) (e : Same H H') : SqK k K H' a xs := by
  cases k
  · exact same_tup e h
  · exact same_lstK e h
theorem rep_row0 (n : Nat) : (List.replicate n [L2.V.int 0]).flatten = rowL n fun _ => 0 := by
  induction n with
  | zero => rfl
  | succ n ih =>
    rw [List.replicate_succ', List.flatten_append, ih, rowL_succ]
    rfl
theorem zip_row {f : Int → Int → Int} {x y : List Int} {g : Nat} (hx : x.length = g) (hy : y.length = g) : (List.zipWith f x y).map L2.V.int = rowL g fun k => f (x.getD k 0) (y.getD k 0) := by
  rw [rowL_of, List.length_zipWith, hx, hy, Nat.min_self]
  refine rowL_congr fun k hk => ?_
  rw [List.getD_eq_getElem?_getD, List.getElem?_zipWith]
  have e1 : x[k]? = some (x.getD k 0) := by
    rw [List.getD_eq_getElem?_getD, List.getElem?_eq_getElem (by omega)]
    rfl
  have e2 : y[k]? = some (y.getD k 0) := by
    rw [List.getD_eq_getElem?_getD, List.getElem?_eq_getElem (by omega)]
    rfl
  rw [e1, e2]
  rfl
theorem minus_row {g : Nat} {t : Trd} (h1 : t.1.length = g) (h2 : t.2.length = g) : (minusL t.2 t.1).map L2.V.int = rowL g (gain t) := zip_row h2 h1
theorem mA_at {ts : List Trd} {k : Nat} {t : Trd} (h : ts[k]? = some t) : mA ts k = gain t := by
  unfold mA
  rw [List.getD_eq_getElem?_getD, h]
  rfl
theorem int_getD {ns : List Int} {k : Nat} {u : Int} (h : ns[k]? = some u) : ns.getD k 0 = u := by
  rw [List.getD_eq_getElem?_getD, h]
  rfl
/-- a row grows by one -/
theorem rowL_put {i : Nat} {f : Nat → Int} {z : Int} : rowL i f ++ [L2.V.int z] = rowL (i + 1) fun k => if k = i then z else f k := by
  rw [rowL_succ, if_pos rfl]
  congr 1
  exact rowL_congr fun k hk => (if_neg (by omega)).symm
theorem walk_zipU {K : PySem.W.Frag} {a b c : Addr} {xs ys zs : List V} {n : Nat} (hn : n = xs.length) (h1 : xs.length = ys.length) (h2 : xs.length = zs.length) :
    L2.Walk (ItzU K a b c) n (fun H => SqT K H a xs ∧ SqT K H b ys ∧ SqT K H c zs) (fun i H v H' => ∃ T x y z, v = .ref T ∧ H T = none ∧ H' = upd H T (.tup [x, y, z]) ∧ xs[i]? = some x ∧ ys[i]? = some y ∧ zs[i]? = some z) := by
  subst hn
  refine ⟨fun i _ hi q => ?_, fun _ q => ⟨xs, ys, zs, q.1, q.2.1, q.2.2, Nat.le_refl _, by omega, by omega, .inl rfl⟩, fun i H v H' _ q y => ?_⟩
  · exact ⟨xs, ys, zs, xs[i], ys[i], zs[i], q.1, q.2.1, q.2.2, List.getElem?_eq_getElem hi, List.getElem?_eq_getElem (by omega), List.getElem?_eq_getElem (by omega)⟩
  · obtain ⟨T, x, u, z, h1, h2, h3, h4, h5, h6⟩ := y
    exact ⟨T, x, u, z, h1, h2, h3, h4 xs q.1, h5 ys q.2.1, h6 zs q.2.2⟩
theorem chg_bd {g : Nat} {ts : List Trd} (mok : MktOk g ts) {ns : List Int} {Z : Nat} (hz : ∀ z ∈ ns, z.natAbs ≤ Z) (hl : ns.length = ts.length) (m : Nat) : (chg ts ns m).natAbs ≤ 4 * (Z * 3) := by
  refine Nat.le_trans (dot_bd (X := Z) (Y := 3) (fun k hk => ?_) fun k hk => ?_) (Nat.mul_le_mul_right _ mok.many)
  · refine hz _ ?_
    rw [List.getD_eq_getElem?_getD, List.getElem?_eq_getElem (by omega)]
    exact List.getElem_mem _
  · have ht := mok.all _ (List.getElem_mem hk)
    rw [mA_at (List.getElem?_eq_getElem hk)]
    have h1 := ht.1.stk.get m
    have h2 := ht.2.stk.get m
    show (ts[k].2.getD m 0 - ts[k].1.getD m 0).natAbs ≤ 3
    omega
end Lb
set_option Elab.async false
set_option linter.all false
set_option maxRecDepth 100000
set_option maxHeartbeats 8000000
namespace Lb
open PySem PySem.Spec PyProof.Rows L2 RZ TL
def topS (i : Nat) : Stmt := PySem.Challenge.pw_lentbeside_k20_net_numbers.main.body.getD i (.Pass ⟨0, 0, 0, 0⟩)
abbrev s_gains : Stmt := topS 1
abbrev s_unit_row : Stmt := topS 2
abbrev s_swapped : Stmt := topS 3
abbrev s_reduced : Stmt := topS 4
abbrev s_Grid___init__ : Stmt := inClass (topS 5) 0
abbrev s_Grid_least_place : Stmt := inClass (topS 5) 1
abbrev s_Grid_bring : Stmt := inClass (topS 5) 2
abbrev s_Grid_reduce_rows : Stmt := inClass (topS 5) 3
abbrev s_Grid_reduce_columns : Stmt := inClass (topS 5) 4
abbrev s_Grid_is_clear : Stmt := inClass (topS 5) 5
abbrev s_Grid_finish : Stmt := inClass (topS 5) 6
abbrev s_Grid_modulus : Stmt := inClass (topS 5) 7
abbrev s_Grid_weights : Stmt := inClass (topS 5) 8
abbrev s_Grid_trades_for : Stmt := inClass (topS 5) 9
abbrev s_grid_of : Stmt := topS 6
abbrev s_count_of : Stmt := topS 7
abbrev s_counts : Stmt := topS 8
abbrev s_worth : Stmt := topS 9
abbrev s_net : Stmt := topS 10
abbrev s_agree : Stmt := topS 11
abbrev s__law_deck : Stmt := topS 13
abbrev s__law_draw : Stmt := topS 14
abbrev s__law_one : Stmt := topS 15
abbrev s__law_bag : Stmt := topS 16
abbrev s__law_side : Stmt := topS 17
abbrev s__law_trade : Stmt := topS 18
abbrev s__law_market : Stmt := topS 19
abbrev s__law_any_market : Stmt := topS 20
abbrev s__law_plus : Stmt := topS 21
abbrev s__law_less : Stmt := topS 22
abbrev s__law_holds : Stmt := topS 23
abbrev s__law_behind : Stmt := topS 24
abbrev s__law_around : Stmt := topS 25
abbrev s__law_near : Stmt := topS 26
abbrev s__law_pair : Stmt := topS 27
abbrev s__law_change : Stmt := topS 28
abbrev s__law_agreeing : Stmt := topS 29
abbrev s__law_differ : Stmt := topS 30
abbrev s__law_are_same : Stmt := topS 31
abbrev s_law : Stmt := topS 32
end Lb
set_option Elab.async false
set_option linter.all false
set_option maxRecDepth 100000
set_option maxHeartbeats 8000000
namespace Lb
open PySem PySem.Spec PyProof.Rows L2 RZ TL
section
variable {P : Program} {w : World} {K : PySem.W.Frag} {mg : Str → Option Value} {base : Heap}
theorem sc__law_draw : FnScope ["_law_deck_here", "_law_many", "_law_cells", "_law_turn", "_law_rests", "_law_at", "_law_digit", "_law_mixed", "_law_again"] ["_law_deck_here", "_law_many"] (defScope s__law_draw) := ⟨rfl, rfl, rfl, by decide +kernel, rfl, by decide +kernel, by decide +kernel⟩
theorem own_draw (D : Df K mg "_law_draw" s__law_draw) (B : Blt mg) : Own P w K mg base "_law_draw" 1 ["_law_deck_here", "_law_many"] spDraw := by
  refine own_of D sc__law_draw (fun _ _ _ _ _ _ us hl => match us, hl with | [_, _], _ => rfl) (fun vs H Q E h => ?_) (fun f cdv A outer s H vs Q E hr h => ?_)
  · obtain ⟨_, _, _, _, _, rfl, _⟩ := h
    rfl
  · obtain ⟨d, c, r, n, m, rfl, dk, hn, hm, hm2, q⟩ := h
    obtain ⟨t, cs, rs, ht, h0, h64, hrl, n1, n2, n3, e1, e2, e3⟩ := dk
    refine ⟨_, (pss_cons (ps_asg (pv 0) (pg_lst rfl (pgs_cons (pg_name (i := 2) sc__law_draw.nd rfl (.inl rfl)) (pgs_cons (pg_name (i := 3) sc__law_draw.nd rfl (.inl rfl)) (pgs_cons (pg_name (i := 4) sc__law_draw.nd rfl (.inl rfl)) pgs_nil)))))
      (pss_cons (ps_set (i := 5) sc__law_draw.nd rfl (.inl rfl) (pe_op op_mod (pe_callTy (T := "int") call_int1 (by rfl) B.b_int PyProof.Rows.boot_int (pa_cons (pv 3) pa_nil)) (pe_callB (id := "len") call_len_seq (by rfl) B.b_len PySem.boot_len (pa_cons (pv 2) pa_nil))))
      (pss_cons (ps_asg (pe_op op_add (pv 3) pe_int) (pg_sub (pv 0) pe_int set_list))
      (pss_cons (ps_if (pt_cmpR op_gt (pe_ix ix_list (pv 4) (pv 5) (fun _ _ => rfl)) pe_int (nomark _)) (pss_cons (ps_set (i := 6) sc__law_draw.nd rfl (.inl rfl) (pe_op op_mod (pe_callTy (T := "int") call_int1 (by rfl) B.b_int PyProof.Rows.boot_int (pa_cons (pe_ix ix_list (pv 4) (pv 5) (fun _ _ => rfl)) pa_nil)) (pv 1)))
      (pss_cons (ps_asg (pe_op op_fdiv (pe_ix ix_list (pv 4) (pv 5) (fun _ _ => rfl)) (pv 1)) (pg_sub (pv 4) (pv 5) set_list))
      (pss_one (ps_ret (pv 6))))) pss_nil)
      (pss_cons (ps_set (i := 7) sc__law_draw.nd rfl (.inl rfl) (pe_op op_mod (pe_op op_pow (pe_op op_add (pe_op op_add (pe_op op_mod (pe_callTy (T := "int") call_int1 (by rfl) B.b_int PyProof.Rows.boot_int (pa_cons (pe_ix ix_list (pv 2) (pv 5) (fun _ _ => rfl)) pa_nil)) pe_int) (pe_op op_mul pe_int (pv 3))) pe_int) pe_int) pe_int))
      (pss_cons (ps_set (i := 8) sc__law_draw.nd rfl (.inl rfl) (pe_op op_mod (pe_op op_pow (pe_op op_add (pe_op op_add (pv 7) (pe_op op_mul pe_int (pv 3))) pe_int) pe_int) pe_int))
      (pss_one (ps_ret (pe_op op_mod (pe_op op_mod (pe_callTy (T := "int") call_int1 (by rfl) B.b_int PyProof.Rows.boot_int (pa_cons (pe_op op_add (pe_op op_mul (pv 8) pe_int) (pv 7)) pa_nil)) pe_int) (pv 1)))))))))), ?_⟩
    -- cells, turn, rests = deck; at = int(turn) % len(cells)
    refine ⟨_, rfl, d, _, rfl, SqL.of e1, rfl, _, _, rfl, _, _, rfl, _, _, rfl, rfl, ?_⟩
    refine ⟨_, rfl, .inl ⟨_, rfl, ?_⟩⟩
    refine ⟨_, rfl, c, _, rfl, .inl (SqL.of e2), _, _, rfl, rfl, ?_, ?_⟩
    · show (0 : Int) < ((cs.map V.int).length : Int)
      rw [List.length_map]
      omega
    dsimp only
    rw [List.length_map]
    obtain ⟨j, hj, ej⟩ := emod_nat (t : Int) h0
    rw [ej]
    -- deck[1] = turn + 1
    refine ⟨_, rfl, _, _, rfl, rfl, ?_⟩
    refine ⟨_, rfl, d, _, _, 1, rfl, rfl, e1, rfl, ?_⟩
    have hr1 : upd H d (.lst ([V.ref c, .int (t : Int), .ref r].set 1 (.int ((t : Int) + 1)))) r = some (.lst (rs.map V.int)) := by
      rw [upd_ne n2.symm]
      exact e3
    have hc1 : upd H d (.lst ([V.ref c, .int (t : Int), .ref r].set 1 (.int ((t : Int) + 1)))) c = some (.lst (cs.map V.int)) := by
      rw [upd_ne n1.symm]
      exact e2
    -- if rests[at] > 0
    refine ⟨_, rfl, _, rfl, r, _, _, _, rfl, rfl, SqL.of hr1, nat_at (by omega), _, _, rfl, rfl, _, rfl, ite2 (fun hp => ?_) (fun hp => ?_)⟩
    · refine ⟨_, rfl, _, rfl, r, _, _, _, rfl, rfl, SqL.of hr1, nat_at (by omega), .inl ⟨_, rfl, ?_⟩⟩
      refine ⟨_, rfl, _, _, rfl, rfl, ?_, ?_⟩
      · show (0 : Int) < (m : Int)
        omega
      obtain ⟨v, hv, ev⟩ := emod_nat (rs.getD j 0) hm
      dsimp only
      rw [ev]
      refine ⟨_, rfl, _, rfl, r, _, _, _, rfl, rfl, SqL.of hr1, nat_at (by omega), ?_⟩
      refine ⟨_, rfl, _, _, rfl, rfl, ⟨by omega, by omega⟩, ?_⟩
      refine ⟨_, rfl, _, rfl, r, _, _, j, rfl, rfl, hr1, ixN_nat (by rw [List.length_map]; omega), ?_⟩
      refine ⟨_, rfl, q _ v hv ⟨t + 1, cs, rs.set j (rs.getD j 0 / (m : Int)), by omega, h0, h64, by rw [List.length_set]; exact hrl, n1, n2, n3, ?_, ?_, ?_⟩ ?_⟩
      · rw [upd_ne n2, upd_same]
        rfl
      · rw [upd_ne n3]
        exact hc1
      · rw [upd_same, List.map_set]
      · intro b o z1 z2 e
        rw [upd_ne z2, upd_ne z1]
        exact e
    · have ht2 : (t : Int) < 2 ^ 40 := by omega
      have md : ∀ (a b : Int), 0 < b → 0 ≤ a % b ∧ a % b < b := fun a b hb => ⟨Int.emod_nonneg a (by omega), Int.emod_lt_of_pos a hb⟩
      refine ⟨_, rfl, _, rfl, c, _, _, _, rfl, rfl, SqL.of hc1, nat_at hj, .inl ⟨_, rfl, ?_⟩⟩
      refine ⟨_, _, rfl, rfl, (by show (0 : Int) < 2147483543; decide), ?_⟩
      have k1 := md (cs.getD j 0) 2147483543 (by decide)
      refine ⟨_, rfl, _, _, rfl, rfl, .inl ⟨by decide, by decide⟩, _, _, rfl, rfl, _, _, rfl, rfl, _, _, rfl, rfl, ⟨by decide, by decide, ?_⟩, _, _, rfl, rfl, (by show (0 : Int) < 2147483497; decide), ?_⟩
      · generalize cs.getD j 0 % 2147483543 = x at k1
        show (x + 75979 * (t : Int) + 4481).natAbs < 2 ^ 64
        omega
      dsimp only
      generalize hm3 : (cs.getD j 0 % 2147483543 + 75979 * (t : Int) + 4481) ^ (3 : Int).toNat % 2147483497 = mx
      have k2 := md ((cs.getD j 0 % 2147483543 + 75979 * (t : Int) + 4481) ^ (3 : Int).toNat) 2147483497 (by decide)
      rw [hm3] at k2
      refine ⟨_, rfl, _, rfl, _, _, rfl, rfl, .inl ⟨by decide, by decide⟩, _, _, rfl, rfl, _, _, rfl, rfl, _, _, rfl, rfl, ⟨by decide, by decide, ?_⟩, _, _, rfl, rfl, (by show (0 : Int) < 2147483423; decide), ?_⟩
      · show (mx + 7919 * (t : Int) + 13).natAbs < 2 ^ 64
        omega
      refine ⟨_, rfl, _, _, rfl, rfl, .inr ⟨by decide, by decide⟩, _, rfl, _, _, rfl, rfl, .inl ⟨_, rfl, ?_⟩⟩
      refine ⟨_, _, rfl, rfl, (by show (0 : Int) < 4611686018427387847; decide), _, rfl, _, _, rfl, rfl, ?_, ?_⟩
      · show (0 : Int) < (m : Int)
        omega
      dsimp only
      generalize (mx + 7919 * (t : Int) + 13) ^ (3 : Int).toNat % 2147483423 * 2147483399 + mx = z
      obtain ⟨v, hv, ev⟩ := emod_nat (z % 4611686018427387847) hm
      rw [ev]
      refine q _ v hv ⟨t + 1, cs, rs, by omega, h0, h64, hrl, n1, n2, n3, ?_, hc1, hr1⟩ fun b o z1 z2 e => ?_
      · rw [upd_same]
        rfl
      · rw [upd_ne z1]
        exact e

end
end Lb
set_option Elab.async false
set_option linter.all false
set_option maxRecDepth 100000
set_option maxHeartbeats 8000000
namespace Lb
open PySem PySem.Spec PyProof.Rows L2 RZ TL
section
variable {P : Program} {w : World} {K : PySem.W.Frag} {mg : Str → Option Value} {base : Heap}
theorem sc__law_deck : FnScope ["_law_script", "_law_cells", "_law_cell"] ["_law_script"] (defScope s__law_deck) := ⟨rfl, rfl, rfl, by decide +kernel, rfl, by decide +kernel, by decide +kernel⟩
theorem own_deck (D : Df K mg "_law_deck" s__law_deck) (B : Blt mg) : Own P w K mg base "_law_deck" 1 ["_law_script"] (spDeck K) := by
  refine own_of D sc__law_deck (fun _ _ _ _ _ _ us hl => match us, hl with | [_], _ => rfl) (fun vs H Q E h => ?_) (fun f cdv A outer s H vs Q E hr h => ?_)
  · obtain ⟨_, _, rfl, _⟩ := h
    rfl
  · obtain ⟨a, ns, rfl, hS, hl, q⟩ := h
    refine ⟨_, (pss_cons (ps_set (i := 1) sc__law_deck.nd rfl (.inl rfl) (pe_op op_cat (pe_callTy (T := "list") call_list_of (by rfl) B.b_list (by decide +kernel) (pa_cons (pe_slice sl_list (pv 0) po_none (po_some pe_int)) pa_nil)) (pe_op op_rep (pe_lst (pa_cons pe_int pa_nil)) (pe_callTy (T := "int") call_int1 (by rfl) B.b_int PyProof.Rows.boot_int (pa_cons (pe_cmpR op_eq (pe_callB (id := "len") call_len_seq (by rfl) B.b_len PySem.boot_len (pa_cons (pv 0) pa_nil)) pe_int (nomark _)) pa_nil)))))
      (pss_one (ps_ret (pe_lst (pa_cons (pv 1) (pa_cons pe_int (pa_cons (pe_lc (own := [("_law_cell", 2)]) (g := gName 2) (tt := tYes) rfl sc__law_deck.nd (pi_list (pv 1)) (blkOk_by (own := [("_law_cell", 2)]) (N := ["_law_script", "_law_cells", "_law_cell"]) (sc := defScope s__law_deck) (by decide +kernel)) (fun _ _ _ _ _ => (pg_name (i := 2) sc__law_deck.nd rfl (.inl rfl))) (fun _ _ _ _ _ => pts_nil) (fun _ _ _ _ _ => (pe_op op_mul (pv 2) (pe_callTy (T := "int") call_int1 (by rfl) B.b_int PyProof.Rows.boot_int (pa_cons (pe_cmpR op_ge (pv 2) (pe_op op_pow pe_int pe_int) (nomark _)) pa_nil))))) pa_nil))))))), ?_⟩
    -- list(script[:63])
    refine ⟨_, rfl, 63, rfl, a, _, rfl, hS, fun p1 z1 => ?_⟩
    have s1 := same_upd (o := .lst (cutV (ns.map V.int) none (some 63))) z1
    refine ⟨p1, _, rfl, .inl (SqL.of upd_same), fun p2 z2 => ?_⟩
    have s2 := s1.trans (same_upd (o := .lst (cutV (ns.map V.int) none (some 63))) z2)
    -- [0] * int(len(script) == 0)
    refine ⟨(by show 1 ≤ sizeLine; decide), fun p3 z3 => ?_⟩
    have s3 := s2.trans (same_upd (o := .lst [V.int 0]) z3)
    refine ⟨_, rfl, a, _, rfl, .inl (s3.seq hS), rfl, .inr ⟨_, rfl, ?_⟩⟩
    have hb : ∀ b : Bool, (-(2 ^ 63) : Int) ≤ (if b then 1 else 0) ∧ (if b then (1 : Int) else 0) < 2 ^ 63 ∧ [V.int 0].length * (if b then (1 : Int) else 0).toNat ≤ sizeLine := fun b => by cases b <;> decide
    obtain ⟨b1, b2, b3⟩ := hb (decide (V.int ((ns.map V.int).length : Int) = V.int 0))
    refine ⟨p3, _, _, rfl, rfl, upd_same, b1, b2, b3, fun p4 z4 => ?_⟩
    dsimp only
    generalize hcs : (List.replicate (if decide (V.int ((ns.map V.int).length : Int) = V.int 0) = true then (1 : Int) else 0).toNat [V.int 0]).flatten = more at *
    have s4 := s3.trans (same_upd (o := .lst more) z4)
    have e2 : upd (upd (upd (upd H p1 (.lst (cutV (ns.map V.int) none (some 63)))) p2 (.lst (cutV (ns.map V.int) none (some 63)))) p3 (.lst [V.int 0])) p4 (.lst more) p2 = some (.lst (cutV (ns.map V.int) none (some 63))) :=
      same_upd z4 _ _ (same_upd z3 _ _ upd_same)
    obtain ⟨zs, hz, hz2⟩ : ∃ zs : List Int, more = zs.map V.int ∧ 0 < ns.length + zs.length ∧ zs.length ≤ 1 := by
      rw [← hcs]
      cases ns with
      | nil => exact ⟨[0], rfl, by decide, by decide⟩
      | cons x xs => exact ⟨[], by
          rw [decide_eq_false (fun z => by
            have := V.int.inj z
            simp at this
            omega)]
          rfl, by simp, by simp⟩
    subst hz
    rw [cut63 ns hl] at *
    refine ⟨p2, p4, _, _, rfl, rfl, e2, upd_same, ?_, fun p5 z5 => ?_⟩
    · rw [List.length_map, List.length_map]
      exact Nat.le_of_lt (small1000 (by omega))
    generalize hH5 : upd (upd (upd (upd (upd H p1 (.lst (ns.map V.int))) p2 (.lst (ns.map V.int))) p3 (.lst [V.int 0])) p4 (.lst (zs.map V.int))) p5 (.lst (ns.map V.int ++ zs.map V.int)) = H5
    have e5 : H5 p5 = some (.lst ((ns ++ zs).map V.int)) := by
      rw [← hH5, upd_same, List.map_append]
    have s5 : Same H H5 := by
      rw [← hH5]
      exact s4.trans (same_upd z5)
    have f5 : H p5 = none := s4.free z5
    -- [cells, 0, [..]]
    refine ⟨_, rfl, _, rfl, p5, rfl, ⟨_, SqL.of e5⟩, fun D hD => ?_⟩
    have f6 : H D = none := s5.free hD
    have n56 : p5 ≠ D := ne_of_none e5 hD
    refine lc_list (K := K) (a := p5) (xs := (ns ++ zs).map V.int) (fun i H' => Same H5 H' ∧ ∃ rs : List Int, rs.length = i ∧ H' D = some (.lst (rs.map V.int)))
      ⟨same_upd hD, [], rfl, upd_same⟩ (fun i H' _ hP => hP.1.seq (SqL.of e5)) ?_ ?_
    · rintro i x H' hi ⟨sm, rs, hr1, hr2⟩
      have hlt : i < (ns ++ zs).length := by
        have := (List.getElem?_eq_some_iff.mp hi).1
        rw [List.length_map] at this
        exact this
      obtain ⟨u, rfl, _⟩ := int_at hi
      refine ⟨rfl, all_in ?_⟩
      refine ⟨_, rfl, _, rfl, _, _, rfl, rfl, ⟨by decide, by decide, by decide⟩, _, _, rfl, rfl, .inr ⟨_, rfl, ?_⟩⟩
      refine ⟨_, _, rfl, rfl, .inr ?_, rs.map V.int, hr2, ?_, ?_, ?_⟩
      · cases decide ((10 : Int) ^ (18 : Int).toNat ≤ u) <;> exact ⟨by decide, by decide⟩
      · rw [List.length_map]
        exact small1000 (by rw [List.length_append] at hlt; omega)
      · intro b o e
        rw [upd_ne (ne_of_none e hD)]
        exact sm _ _ e
      · refine ⟨rs ++ [u * (if decide ((10 : Int) ^ (18 : Int).toNat ≤ u) = true then 1 else 0)], by rw [List.length_append, hr1]; rfl, ?_⟩
        rw [upd_same, List.map_append]
        rfl
    · rintro H' ⟨sm, rs, hr1, hr2⟩
      rw [List.length_map] at hr1
      refine ⟨(by show 3 ≤ sizeLine; decide), fun p7 z7 => ?_⟩
      have s7 := same_upd (o := .lst [V.ref p5, V.int 0, V.ref D]) z7
      have a5 := s7 _ _ (sm _ _ e5)
      have aD := s7 _ _ hr2
      refine q _ p7 p5 D ((s5.trans sm).trans s7) ((s5.trans sm).free z7) f5 f6 ⟨0, ns ++ zs, rs, Nat.le_refl _, ?_, ?_, hr1, ?_, ?_, n56, upd_same, a5, aD⟩
      · rw [List.length_append]
        exact hz2.1
      · rw [List.length_append]
        omega
      · exact (ne_of_none (sm _ _ e5) z7).symm
      · exact (ne_of_none hr2 z7).symm

end
end Lb
set_option Elab.async false
set_option linter.all false
set_option maxRecDepth 100000
set_option maxHeartbeats 8000000
namespace Lb
open PySem PySem.Spec PyProof.Rows L2 RZ TL
section
variable {P : Program} {w : World} {K : PySem.W.Frag} {mg : Str → Option Value} {base : Heap}
theorem sc__law_one : FnScope ["_law_deck_here", "_law_items"] ["_law_deck_here", "_law_items"] (defScope s__law_one) := ⟨rfl, rfl, rfl, by decide +kernel, rfl, by decide +kernel, by decide +kernel⟩
theorem own_one (D : Df K mg "_law_one" s__law_one) (B : Blt mg) (O__law_draw : Own P w K mg base "_law_draw" 1 ["_law_deck_here", "_law_many"] spDraw) : Own P w K mg base "_law_one" 2 ["_law_deck_here", "_law_items"] spOne := by
  refine own_of D sc__law_one (fun _ _ _ _ _ _ us hl => match us, hl with | [_, _], _ => rfl) (fun vs H Q E h => ?_) (fun f cdv A outer s H vs Q E hr h => ?_)
  · obtain ⟨_, _, _, _, _, _, rfl, _⟩ := h
    rfl
  · obtain ⟨d, c, r, l, n, xs, rfl, dk, hn, el, nd, nr, h0, h1, q⟩ := h
    refine ⟨_, (pss_one (ps_ret (pe_ix ix_list (pv 1) (pe_own O__law_draw (hr.mono (by omega)) (by rfl) (pa_cons (pv 0) (pa_cons (pe_callB (id := "len") call_len_seq (by rfl) B.b_len PySem.boot_len (pa_cons (pv 1) pa_nil)) pa_nil))) (fun _ _ => rfl)))), ?_⟩
    refine ⟨_, rfl, _, rfl, _, rfl, l, _, rfl, .inl (SqL.of el), ?_⟩
    refine ⟨d, c, r, n, xs.length, rfl, dk, hn, h0, by omega, fun H' v hv dk' kp => ?_⟩
    exact ⟨l, xs, _, _, rfl, rfl, SqL.of (kp _ _ nd nr el), atI_nat (List.getElem?_eq_getElem hv), q H' v _ (List.getElem?_eq_getElem hv) dk' kp⟩

end
end Lb
set_option Elab.async false
set_option linter.all false
set_option maxRecDepth 100000
set_option maxHeartbeats 8000000
namespace Lb
open PySem PySem.Spec PyProof.Rows L2 RZ TL
section
variable {P : Program} {w : World} {K : PySem.W.Frag} {mg : Str → Option Value} {base : Heap}
theorem sc__law_bag : FnScope ["_law_deck_here", "_law_goods", "_law_most", "_law_good"] ["_law_deck_here", "_law_goods", "_law_most"] (defScope s__law_bag) := ⟨rfl, rfl, rfl, by decide +kernel, rfl, by decide +kernel, by decide +kernel⟩
theorem own_bag (D : Df K mg "_law_bag" s__law_bag) (B : Blt mg) (O__law_draw : Own P w K mg base "_law_draw" 1 ["_law_deck_here", "_law_many"] spDraw) : Own P w K mg base "_law_bag" 2 ["_law_deck_here", "_law_goods", "_law_most"] spBag := by
  refine own_of D sc__law_bag (fun _ _ _ _ _ _ us hl => match us, hl with | [_, _, _], _ => rfl) (fun vs H Q E h => ?_) (fun f cdv A outer s H vs Q E hr h => ?_)
  · obtain ⟨_, _, _, _, _, _, rfl, _⟩ := h
    rfl
  · obtain ⟨d, c, r, n, g, m, rfl, dk, hn, hg, hm, q⟩ := h
    refine ⟨_, (pss_one (ps_ret (pe_callTy (T := "tuple") call_tuple_of (by rfl) B.b_tuple (by decide +kernel) (pa_cons (pe_lc (own := [("_law_good", 3)]) (g := gName 3) (tt := tYes) rfl sc__law_bag.nd (pi_range1 (by rfl) B.b_range (pa_cons (pv 1) pa_nil)) (blkOk_by (own := [("_law_good", 3)]) (N := ["_law_deck_here", "_law_goods", "_law_most", "_law_good"]) (sc := defScope s__law_bag) (by decide +kernel)) (fun _ _ _ _ _ => (pg_name (i := 3) sc__law_bag.nd rfl (.inl rfl))) (fun _ _ _ _ _ => pts_nil) (fun _ _ _ _ _ => (pe_own O__law_draw (hr.mono (by omega)) (by rfl) (pa_cons (pv 0) (pa_cons (pe_op op_add (pv 2) pe_int) pa_nil))))) pa_nil)))), ?_⟩
    refine ⟨_, rfl, (g : Int), rfl, by omega, by omega, fun D hD => ?_⟩
    rw [Int.toNat_natCast]
    have nd := dk.nd hD
    refine lc_range (lo := 0) (n := g) (fun i H' => ∃ b : List Int, b.length = i ∧ (∀ x ∈ b, 0 ≤ x ∧ x ≤ (m : Int)) ∧ Dk H' d c r (n + i) ∧ Kp d r H H' ∧ H' D = some (.lst (b.map V.int)))
      ⟨[], rfl, fun x hx => absurd hx List.not_mem_nil, dk.same (same_upd hD), Kp.of (same_upd hD), upd_same⟩ ?_ ?_
    · rintro i H' hi ⟨b, lb, hb, dk', k', eD⟩
      refine ⟨rfl, all_in ?_⟩
      refine ⟨_, rfl, _, rfl, _, _, rfl, rfl, ?_⟩
      refine ⟨d, c, r, n + i, m + 1, rfl, dk', by omega, by omega, by omega, fun H2 v hv dk2 k2 => ?_⟩
      refine ⟨_, k2 _ _ nd.1 nd.2.1 eD, by rw [List.length_map]; exact small1000 (by omega), b ++ [(v : Int)], by rw [List.length_append, lb]; rfl, fun x hx => ?_, upd_dk dk2 nd.1 nd.2.1 nd.2.2, fun z o z1 z2 ez => ?_, ?_⟩
      · rcases List.mem_append.mp hx with h | h
        · exact hb x h
        · rw [List.mem_singleton.mp h]
          omega
      · rw [upd_ne (ne_of_none ez hD)]
        exact k2 _ _ z1 z2 (k' _ _ z1 z2 ez)
      · rw [upd_same, List.map_append]
        rfl
    · rintro H' ⟨b, lb, hb, dk', k', eD⟩
      refine ⟨D, _, rfl, .inl ⟨SqL.of eD, fun p hp => ?_⟩⟩
      have sp := same_upd (o := .tup (b.map V.int)) hp
      exact q _ p b lb hb (kp_free k' dk' hp) upd_same (dk'.same sp) (k'.trans (Kp.of sp))

end
end Lb
set_option Elab.async false
set_option linter.all false
set_option maxRecDepth 100000
set_option maxHeartbeats 8000000
namespace Lb
open PySem PySem.Spec PyProof.Rows L2 RZ TL
section
variable {P : Program} {w : World} {K : PySem.W.Frag} {mg : Str → Option Value} {base : Heap}
theorem sc__law_plus : FnScope ["_law_one_here", "_law_other", "_law_own", "_law_more"] ["_law_one_here", "_law_other"] (defScope s__law_plus) := ⟨rfl, rfl, rfl, by decide +kernel, rfl, by decide +kernel, by decide +kernel⟩
theorem own_plus (D : Df K mg "_law_plus" s__law_plus) (B : Blt mg) : Own P w K mg base "_law_plus" 1 ["_law_one_here", "_law_other"] (spPlus K) := by
  refine own_of D sc__law_plus (fun _ _ _ _ _ _ us hl => match us, hl with | [_, _], _ => rfl) (fun vs H Q E h => ?_) (fun f cdv A outer s H vs Q E hr h => ?_)
  · obtain ⟨_, _, _, _, rfl, _⟩ := h
    rfl
  · obtain ⟨a, b, x, y, rfl, hA, hB, hl, hl2, q⟩ := h
    refine ⟨_, (pss_one (ps_ret (pe_callTy (T := "tuple") call_tuple_of (by rfl) B.b_tuple (by decide +kernel) (pa_cons (pe_lc (own := [("_law_own", 2), ("_law_more", 3)]) (g := gTup _ 2 (gCons (gName 2) (gCons (gName 3) gNil))) (tt := tYes) rfl sc__law_plus.nd (pi_zipA (by rfl) B.b_zip (pa_cons (pv 0) (pa_cons (pv 1) pa_nil))) (blkOk_by (own := [("_law_own", 2), ("_law_more", 3)]) (N := ["_law_one_here", "_law_other", "_law_own", "_law_more"]) (sc := defScope s__law_plus) (by decide +kernel)) (fun _ _ _ _ _ => (pg_tup rfl (pgs_cons (pg_name (i := 2) sc__law_plus.nd rfl (.inl rfl)) (pgs_cons (pg_name (i := 3) sc__law_plus.nd rfl (.inl rfl)) pgs_nil)))) (fun _ _ _ _ _ => pts_nil) (fun _ _ _ _ _ => (pe_op op_add (pv 2) (pv 3)))) pa_nil)))), ?_⟩
    refine ⟨_, rfl, _, rfl, a, b, _, _, rfl, .inr ⟨hA, hB, fun D hD => ?_⟩⟩
    refine lc_zipT (K := K) (xs := x.map V.int) (ys := y.map V.int) (by rw [List.length_map, List.length_map]; exact hl) (fun i H' => Same H H' ∧ H' D = some (.lst (((List.zipWith (· + ·) x y).take i).map V.int)))
      ⟨same_upd hD, upd_same⟩ (fun i H' hP => ⟨same_tup hP.1 hA, same_tup hP.1 hB⟩) ?_ ?_
    · rintro i u v T H' hu hv ⟨sm, eD⟩ hT
      obtain ⟨u, rfl, hu'⟩ := int_at hu
      obtain ⟨v, rfl, hv'⟩ := int_at hv
      have nTD : D ≠ T := ne_of_none eD hT
      refine ⟨T, _, rfl, .inl (.inl upd_same), rfl, _, _, rfl, _, _, rfl, rfl, rfl, all_in ?_⟩
      refine ⟨_, rfl, _, rfl, _, _, rfl, rfl, _, (same_upd hT) _ _ eD, ?_, ?_, ?_⟩
      · rw [List.length_map, List.length_take]
        refine small1000 (Nat.le_trans (Nat.min_le_right _ _) ?_)
        rw [List.length_zipWith]
        omega
      · intro b o e
        rw [upd_ne (ne_of_none e hD)]
        exact (same_upd hT) _ _ (sm _ _ e)
      · rw [upd_same, zip_take hu' hv', List.map_append]
        rfl
    · rintro H' ⟨sm, eD⟩
      have el : (List.zipWith (· + ·) x y).take (x.map V.int).length = List.zipWith (· + ·) x y := List.take_of_length_le (by rw [List.length_zipWith, List.length_map]; omega)
      rw [el] at eD
      refine ⟨D, _, rfl, .inl ⟨SqL.of eD, fun p hp => ?_⟩⟩
      exact q _ p (sm.trans (same_upd hp)) (sm.free hp) upd_same

end
end Lb
set_option Elab.async false
set_option linter.all false
set_option maxRecDepth 100000
set_option maxHeartbeats 8000000
namespace Lb
open PySem PySem.Spec PyProof.Rows L2 RZ TL
section
variable {P : Program} {w : World} {K : PySem.W.Frag} {mg : Str → Option Value} {base : Heap}
theorem sc__law_less : FnScope ["_law_one_here", "_law_other", "_law_own", "_law_more"] ["_law_one_here", "_law_other"] (defScope s__law_less) := ⟨rfl, rfl, rfl, by decide +kernel, rfl, by decide +kernel, by decide +kernel⟩
theorem own_less (D : Df K mg "_law_less" s__law_less) (B : Blt mg) : Own P w K mg base "_law_less" 1 ["_law_one_here", "_law_other"] (spMinus K) := by
  refine own_of D sc__law_less (fun _ _ _ _ _ _ us hl => match us, hl with | [_, _], _ => rfl) (fun vs H Q E h => ?_) (fun f cdv A outer s H vs Q E hr h => ?_)
  · obtain ⟨_, _, _, _, rfl, _⟩ := h
    rfl
  · obtain ⟨a, b, x, y, rfl, hA, hB, hl, hl2, q⟩ := h
    refine ⟨_, (pss_one (ps_ret (pe_callTy (T := "tuple") call_tuple_of (by rfl) B.b_tuple (by decide +kernel) (pa_cons (pe_lc (own := [("_law_own", 2), ("_law_more", 3)]) (g := gTup _ 2 (gCons (gName 2) (gCons (gName 3) gNil))) (tt := tYes) rfl sc__law_less.nd (pi_zipA (by rfl) B.b_zip (pa_cons (pv 0) (pa_cons (pv 1) pa_nil))) (blkOk_by (own := [("_law_own", 2), ("_law_more", 3)]) (N := ["_law_one_here", "_law_other", "_law_own", "_law_more"]) (sc := defScope s__law_less) (by decide +kernel)) (fun _ _ _ _ _ => (pg_tup rfl (pgs_cons (pg_name (i := 2) sc__law_less.nd rfl (.inl rfl)) (pgs_cons (pg_name (i := 3) sc__law_less.nd rfl (.inl rfl)) pgs_nil)))) (fun _ _ _ _ _ => pts_nil) (fun _ _ _ _ _ => (pe_op op_sub (pv 2) (pv 3)))) pa_nil)))), ?_⟩
    refine ⟨_, rfl, _, rfl, a, b, _, _, rfl, .inr ⟨hA, hB, fun D hD => ?_⟩⟩
    refine lc_zipT (K := K) (xs := x.map V.int) (ys := y.map V.int) (by rw [List.length_map, List.length_map]; exact hl) (fun i H' => Same H H' ∧ H' D = some (.lst (((minusL x y).take i).map V.int)))
      ⟨same_upd hD, upd_same⟩ (fun i H' hP => ⟨same_tup hP.1 hA, same_tup hP.1 hB⟩) ?_ ?_
    · rintro i u v T H' hu hv ⟨sm, eD⟩ hT
      obtain ⟨u, rfl, hu'⟩ := int_at hu
      obtain ⟨v, rfl, hv'⟩ := int_at hv
      have nTD : D ≠ T := ne_of_none eD hT
      refine ⟨T, _, rfl, .inl (.inl upd_same), rfl, _, _, rfl, _, _, rfl, rfl, rfl, all_in ?_⟩
      refine ⟨_, rfl, _, rfl, _, _, rfl, rfl, _, (same_upd hT) _ _ eD, ?_, ?_, ?_⟩
      · rw [List.length_map, List.length_take]
        refine small1000 (Nat.le_trans (Nat.min_le_right _ _) ?_)
        rw [List.length_zipWith]
        omega
      · intro b o e
        rw [upd_ne (ne_of_none e hD)]
        exact (same_upd hT) _ _ (sm _ _ e)
      · rw [upd_same, zipW_take hu' hv', List.map_append]
        rfl
    · rintro H' ⟨sm, eD⟩
      have el : (minusL x y).take (x.map V.int).length = minusL x y := List.take_of_length_le (by rw [List.length_zipWith, List.length_map]; omega)
      rw [el] at eD
      refine ⟨D, _, rfl, .inl ⟨SqL.of eD, fun p hp => ?_⟩⟩
      exact q _ p (sm.trans (same_upd hp)) (sm.free hp) upd_same

end
end Lb
set_option Elab.async false
set_option linter.all false
set_option maxRecDepth 100000
set_option maxHeartbeats 8000000
namespace Lb
open PySem PySem.Spec PyProof.Rows L2 RZ TL
section
variable {P : Program} {w : World} {K : PySem.W.Frag} {mg : Str → Option Value} {base : Heap}
theorem sc__law_holds : FnScope ["_law_one_here", "_law_other", "_law_own", "_law_more"] ["_law_one_here", "_law_other"] (defScope s__law_holds) := ⟨rfl, rfl, rfl, by decide +kernel, rfl, by decide +kernel, by decide +kernel⟩
theorem own_lholds (D : Df K mg "_law_holds" s__law_holds) (B : Blt mg) : Own P w K mg base "_law_holds" 1 ["_law_one_here", "_law_other"] (spHolds K) := by
  refine own_of D sc__law_holds (fun _ _ _ _ _ _ us hl => match us, hl with | [_, _], _ => rfl) (fun vs H Q E h => ?_) (fun f cdv A outer s H vs Q E hr h => ?_)
  · obtain ⟨_, _, _, _, rfl, _⟩ := h
    rfl
  · obtain ⟨a, b, x, y, rfl, hA, hB, hl, hl2, q⟩ := h
    refine ⟨_, (pss_one (ps_ret (pe_cmpR (op_eqE hr.units0) (pe_lc (own := [("_law_own", 2), ("_law_more", 3)]) (g := gTup _ 2 (gCons (gName 2) (gCons (gName 3) gNil))) (tt := _) rfl sc__law_holds.nd (pi_zipA (by rfl) B.b_zip (pa_cons (pv 0) (pa_cons (pv 1) pa_nil))) (blkOk_by (own := [("_law_own", 2), ("_law_more", 3)]) (N := ["_law_one_here", "_law_other", "_law_own", "_law_more"]) (sc := defScope s__law_holds) (by decide +kernel)) (fun _ _ _ _ _ => (pg_tup rfl (pgs_cons (pg_name (i := 2) sc__law_holds.nd rfl (.inl rfl)) (pgs_cons (pg_name (i := 3) sc__law_holds.nd rfl (.inl rfl)) pgs_nil)))) (fun _ _ _ _ _ => (pts_one (pt_cmpR op_lt (pv 2) (pv 3) (nomark _)))) (fun _ _ _ _ _ => (pv 2))) (pe_lst pa_nil) (nomark _)))), ?_⟩
    refine ⟨_, rfl, _, rfl, a, b, _, _, rfl, .inr ⟨hA, hB, fun D hD => ?_⟩⟩
    refine lc_zipT (K := K) (xs := x.map V.int) (ys := y.map V.int) (by rw [List.length_map, List.length_map]; exact hl) (fun i H' => Same H H' ∧ ∃ acc, H' D = some (.lst acc) ∧ acc.isEmpty = geB (x.take i) (y.take i) ∧ acc.length ≤ i)
      ⟨same_upd hD, [], upd_same, rfl, Nat.le_refl _⟩ (fun i H' hP => ⟨same_tup hP.1 hA, same_tup hP.1 hB⟩) ?_ ?_
    · rintro i u v T H' hu hv ⟨sm, acc, eD, ee, el⟩ hT
      obtain ⟨u, rfl, hu'⟩ := int_at hu
      obtain ⟨v, rfl, hv'⟩ := int_at hv
      have nTD : D ≠ T := ne_of_none eD hT
      have hi : i < x.length := (List.getElem?_eq_some_iff.mp hu').1
      have sT := same_upd (o := .tup [V.int u, V.int v]) hT
      refine ⟨T, _, rfl, .inl (.inl upd_same), rfl, _, _, rfl, _, _, rfl, rfl, rfl, ?_⟩
      refine ⟨_, rfl, _, rfl, _, _, rfl, rfl, _, rfl, ?_⟩
      have tk : geB (x.take (i + 1)) (y.take (i + 1)) = (geB (x.take i) (y.take i) && decide (u ≥ v)) := geB_take hu' hv'
      by_cases hlt : u < v
      · rw [decide_eq_true hlt]
        refine iteT ⟨_, rfl, acc, sT _ _ eD, by rw [sizeLine_eq]; omega, fun b o e => ?_, acc ++ [V.int u], upd_same, ?_, ?_⟩
        · rw [upd_ne (ne_of_none e hD)]
          exact sT _ _ (sm _ _ e)
        · rw [tk, decide_eq_false (by omega), Bool.and_false]
          cases acc <;> rfl
        · rw [List.length_append, List.length_singleton]
          omega
      · rw [decide_eq_false hlt]
        refine iteF ⟨sm.trans sT, acc, sT _ _ eD, ?_, by omega⟩
        rw [tk, decide_eq_true (by omega), Bool.and_true]
        exact ee
    · rintro H' ⟨sm, acc, eD, ee, el⟩
      rw [List.length_map, List.take_length, hl, List.take_length] at ee
      refine ⟨Nat.zero_le _, fun M hM => ⟨D, M, acc, rfl, rfl, (same_upd hM) _ _ eD, upd_same, ?_⟩⟩
      rw [ee]
      exact q _ (sm.trans (same_upd hM))

end
end Lb
set_option Elab.async false
set_option linter.all false
set_option maxRecDepth 100000
set_option maxHeartbeats 8000000
namespace Lb
open PySem PySem.Spec PyProof.Rows L2 RZ TL
section
variable {P : Program} {w : World} {K : PySem.W.Frag} {mg : Str → Option Value} {base : Heap}
theorem sc__law_behind : FnScope ["_law_trades", "_law_stock", "_law_k", "_law_is_back", "_law_take", "_law_put"] ["_law_trades", "_law_stock", "_law_k", "_law_is_back"] (defScope s__law_behind) := ⟨rfl, rfl, rfl, by decide +kernel, rfl, by decide +kernel, by decide +kernel⟩
theorem own_behind (D : Df K mg "_law_behind" s__law_behind) (B : Blt mg) (O__law_plus : Own P w K mg base "_law_plus" 1 ["_law_one_here", "_law_other"] (spPlus K)) (O__law_less : Own P w K mg base "_law_less" 1 ["_law_one_here", "_law_other"] (spMinus K)) (O__law_holds : Own P w K mg base "_law_holds" 1 ["_law_one_here", "_law_other"] (spHolds K)) :
    Own P w K mg base "_law_behind" 2 ["_law_trades", "_law_stock", "_law_k", "_law_is_back"] spBehind := by
  refine own_of D sc__law_behind (fun _ _ _ _ _ _ us hl => match us, hl with | [_, _, _, _], _ => rfl) (fun vs H Q E h => ?_) (fun f cdv A outer s H vs Q E hr h => ?_)
  · obtain ⟨_, _, _, _, _, _, _, _, rfl, _⟩ := h
    rfl
  · obtain ⟨R, m, s, g, ts, x, k, b, rfl, dm, ds, hE, hg, hx, hk, new, q⟩ := h
    refine ⟨_, (pss_cons (ps_asg (pe_ifExp (pt_val (pv 3)) (pe_tup (pa_cons (pe_ix ix_tup (pe_ix ix_tup (pv 0) (pv 2) (fun _ _ => rfl)) pe_int (fun _ _ => rfl)) (pa_cons (pe_ix ix_tup (pe_ix ix_tup (pv 0) (pv 2) (fun _ _ => rfl)) pe_int (fun _ _ => rfl)) pa_nil))) (pe_tup (pa_cons (pe_ix ix_tup (pe_ix ix_tup (pv 0) (pv 2) (fun _ _ => rfl)) pe_int (fun _ _ => rfl)) (pa_cons (pe_ix ix_tup (pe_ix ix_tup (pv 0) (pv 2) (fun _ _ => rfl)) pe_int (fun _ _ => rfl)) pa_nil)))) (pg_tup rfl (pgs_cons (pg_name (i := 4) sc__law_behind.nd rfl (.inl rfl)) (pgs_cons (pg_name (i := 5) sc__law_behind.nd rfl (.inl rfl)) pgs_nil))))
      (pss_one (ps_ret (pe_ifExp (pt_val (pe_own O__law_holds (hr.mono (by omega)) (by rfl) (pa_cons (pv 1) (pa_cons (pv 4) pa_nil)))) (pe_own O__law_plus (hr.mono (by omega)) (by rfl) (pa_cons (pe_own O__law_less (hr.mono (by omega)) (by rfl) (pa_cons (pv 1) (pa_cons (pv 4) pa_nil))) (pa_cons (pv 5) pa_nil))) pe_non)))), ?_⟩
    obtain ⟨tv, ys, rfl, rtv, etv, dys⟩ := dm.tupI
    obtain ⟨tk, htk⟩ : ∃ tk, ts[k]? = some tk := ⟨_, List.getElem?_eq_getElem hk⟩
    obtain ⟨y, hy, dy⟩ := dys.get (i := k) (d := trdD tk) (by rw [List.getElem?_map, htk]; rfl)
    obtain ⟨ay, v1, v2, rfl, ry, ey, dv1, dv2⟩ := Dat.pair dy
    obtain ⟨b1, rfl, rb1, eb1⟩ := dv1.bag
    obtain ⟨b2, rfl, rb2, eb2⟩ := dv2.bag
    obtain ⟨bs, rfl, rbs, ebs⟩ := ds.bag
    obtain ⟨l1, l2⟩ := hE tk (List.mem_of_getElem? htk)
    have eB : behind ts x k b = if b = true then exch x tk.2 tk.1 else exch x tk.1 tk.2 := by
      unfold behind
      rw [htk]
    refine ⟨_, rfl, _, rfl, ?_⟩
    cases b with
    | true =>
      refine iteT ?_
      refine ⟨_, rfl, _, rfl, tv, _, _, _, rfl, rfl, .inl (.inl etv), atI_nat hy, ay, _, _, _, rfl, rfl, tup_at0 ey, rfl, _, rfl, _, rfl, tv, _, _, _, rfl, rfl, .inl (.inl etv), atI_nat hy, ay, _, _, _, rfl, rfl, tup_at0 ey, rfl, ?_⟩
      refine ⟨(by show 2 ≤ sizeLine; decide), fun p1 z1 => ?_⟩
      have s1 := same_upd (o := .tup [V.ref b2, V.ref b1]) z1
      refine ⟨p1, _, rfl, .inl (.inl upd_same), rfl, _, _, rfl, _, _, rfl, rfl, ?_⟩
      generalize upd H p1 (.tup [V.ref b2, V.ref b1]) = H1 at s1 ⊢
      have eB2 : behind ts x k true = exch x tk.2 tk.1 := eB
      refine ⟨_, rfl, _, rfl, bs, b2, x, tk.2, rfl, .inl (.inl (s1 _ _ ebs)), .inl (.inl (s1 _ _ eb2)), by omega, by omega, fun H2 s2 => ?_⟩
      refine ⟨_, rfl, ?_⟩
      have s12 := s1.trans s2
      cases hgb : geB x tk.2 with
      | false =>
        refine iteF (q H2 .non s12 ?_)
        rw [eB2]
        unfold exch
        rw [hgb]
        exact .non
      | true =>
        refine iteT ⟨_, rfl, _, rfl, bs, b2, x, tk.2, rfl, .inl (.inl (s12 _ _ ebs)), .inl (.inl (s12 _ _ eb2)), by omega, by omega, fun H3 p3 s3 n3 e3 => ?_⟩
        have s13 := s12.trans s3
        refine ⟨_, rfl, p3, b1, _, tk.1, rfl, .inl (.inl e3), .inl (.inl (s13 _ _ eb1)), by rw [List.length_zipWith]; omega, by rw [List.length_zipWith]; omega, fun H4 p4 s4 n4 e4 => q H4 _ (s13.trans s4) ?_⟩
        rw [eB2]
        unfold exch
        rw [hgb, if_pos rfl]
        exact Dat.mkBag (new _ (s13.free n4)) e4
    | false =>
      refine iteF ?_
      refine ⟨_, rfl, _, rfl, tv, _, _, _, rfl, rfl, .inl (.inl etv), atI_nat hy, ay, _, _, _, rfl, rfl, tup_at0 ey, rfl, _, rfl, _, rfl, tv, _, _, _, rfl, rfl, .inl (.inl etv), atI_nat hy, ay, _, _, _, rfl, rfl, tup_at0 ey, rfl, ?_⟩
      refine ⟨(by show 2 ≤ sizeLine; decide), fun p1 z1 => ?_⟩
      have s1 := same_upd (o := .tup [V.ref b1, V.ref b2]) z1
      refine ⟨p1, _, rfl, .inl (.inl upd_same), rfl, _, _, rfl, _, _, rfl, rfl, ?_⟩
      generalize upd H p1 (.tup [V.ref b1, V.ref b2]) = H1 at s1 ⊢
      have eB2 : behind ts x k false = exch x tk.1 tk.2 := eB
      refine ⟨_, rfl, _, rfl, bs, b1, x, tk.1, rfl, .inl (.inl (s1 _ _ ebs)), .inl (.inl (s1 _ _ eb1)), by omega, by omega, fun H2 s2 => ?_⟩
      refine ⟨_, rfl, ?_⟩
      have s12 := s1.trans s2
      cases hgb : geB x tk.1 with
      | false =>
        refine iteF (q H2 .non s12 ?_)
        rw [eB2]
        unfold exch
        rw [hgb]
        exact .non
      | true =>
        refine iteT ⟨_, rfl, _, rfl, bs, b1, x, tk.1, rfl, .inl (.inl (s12 _ _ ebs)), .inl (.inl (s12 _ _ eb1)), by omega, by omega, fun H3 p3 s3 n3 e3 => ?_⟩
        have s13 := s12.trans s3
        refine ⟨_, rfl, p3, b2, _, tk.2, rfl, .inl (.inl e3), .inl (.inl (s13 _ _ eb2)), by rw [List.length_zipWith]; omega, by rw [List.length_zipWith]; omega, fun H4 p4 s4 n4 e4 => q H4 _ (s13.trans s4) ?_⟩
        rw [eB2]
        unfold exch
        rw [hgb, if_pos rfl]
        exact Dat.mkBag (new _ (s13.free n4)) e4

end
end Lb
set_option Elab.async false
set_option linter.all false
set_option maxRecDepth 100000
set_option maxHeartbeats 8000000
namespace Lb
open PySem PySem.Spec PyProof.Rows L2 RZ TL
section
variable {P : Program} {w : World} {K : PySem.W.Frag} {mg : Str → Option Value} {base : Heap}
theorem sc__law_side : FnScope ["_law_deck_here", "_law_goods", "_law_most", "_law_row", "_law_k", "_law_at"] ["_law_deck_here", "_law_goods", "_law_most"] (defScope s__law_side) := ⟨rfl, rfl, rfl, by decide +kernel, rfl, by decide +kernel, by decide +kernel⟩
theorem own_side (D : Df K mg "_law_side" s__law_side) (B : Blt mg) (O__law_draw : Own P w K mg base "_law_draw" 1 ["_law_deck_here", "_law_many"] spDraw) : Own P w K mg base "_law_side" 2 ["_law_deck_here", "_law_goods", "_law_most"] spSide := by
  refine own_of D sc__law_side (fun _ _ _ _ _ _ us hl => match us, hl with | [_, _, _], _ => rfl) (fun vs H Q E h => ?_) (fun f cdv A outer s H vs Q E hr h => ?_)
  · obtain ⟨_, _, _, _, _, _, rfl, _⟩ := h
    rfl
  · obtain ⟨d, c, r, n, g, m, rfl, dk, hn, hg, hg2, hm, q⟩ := h
    refine ⟨_, (pss_cons (ps_set (i := 3) sc__law_side.nd rfl (.inl rfl) (pe_op op_rep (pe_lst (pa_cons pe_int pa_nil)) (pv 1)))
      (pss_cons (ps_for PassesOwn.never rfl (pi_range1 (by rfl) B.b_range (pa_cons (pe_own O__law_draw (hr.mono (by omega)) (by rfl) (pa_cons (pv 0) (pa_cons (pe_op op_add (pv 2) pe_int) pa_nil))) pa_nil)) (pg_name (i := 4) sc__law_side.nd rfl (.inl rfl))
        (pss_cons (ps_set (i := 5) sc__law_side.nd rfl (.inl rfl) (pe_own O__law_draw (hr.mono (by omega)) (by rfl) (pa_cons (pv 0) (pa_cons (pv 1) pa_nil))))
      (pss_one (ps_asg (pe_op op_add (pe_ix ix_list (pv 3) (pv 5) (fun _ _ => rfl)) (pe_callTy (T := "int") call_int1 (by rfl) B.b_int PyProof.Rows.boot_int (pa_cons (pe_cmpR op_lt (pe_ix ix_list (pv 3) (pv 5) (fun _ _ => rfl)) pe_int (nomark _)) pa_nil))) (pg_sub (pv 3) (pv 5) set_list)))))
      (pss_one (ps_ret (pe_callTy (T := "tuple") call_tuple_of (by rfl) B.b_tuple (by decide +kernel) (pa_cons (pv 3) pa_nil)))))), ?_⟩
    -- row = [0] * goods
    refine ⟨(by show 1 ≤ sizeLine; decide), fun p1 z1 => ?_⟩
    refine ⟨_, rfl, p1, _, _, rfl, rfl, upd_same, by omega, by omega, ?_, fun p2 z2 => ?_⟩
    · show 1 * (g : Int).toNat ≤ sizeLine
      exact Nat.le_of_lt (small1000 (by omega))
    have e0 : (List.replicate (g : Int).toNat [V.int 0]).flatten = (List.replicate g (0 : Int)).map V.int := by
      rw [Int.toNat_natCast, rep0]
    dsimp only
    rw [e0]
    have s2 : Same H (upd (upd H p1 (.lst [V.int 0])) p2 (.lst ((List.replicate g (0 : Int)).map V.int))) := (same_upd z1).trans (same_upd z2)
    generalize hH2 : upd (upd H p1 (.lst [V.int 0])) p2 (.lst ((List.replicate g (0 : Int)).map V.int)) = H2 at *
    have e2 : H2 p2 = some (.lst ((List.replicate g (0 : Int)).map V.int)) := by
      rw [← hH2, upd_same]
    have f2 : H p2 = none := (same_upd z1).free z2
    -- range(draw(deck, most + 1))
    refine ⟨_, rfl, _, rfl, _, _, rfl, rfl, ?_⟩
    refine ⟨d, c, r, n, m + 1, rfl, dk.same s2, by omega, by omega, by omega, fun H3 v hv dk3 k3 => ?_⟩
    have nd := dk.nd f2
    refine ⟨(v : Int), rfl, by omega, by omega, ?_⟩
    rw [Int.toNat_natCast]
    refine for_range (n := v) (fun i σ H' => ∃ (y4 y5 : Option V) (b : List Int), σ = [some (.ref d), some (.int (g : Int)), some (.int (m : Int)), some (.ref p2), y4, y5] ∧ Dk H' d c r (n + 1 + i) ∧ Kp d r H H' ∧ H' p2 = some (.lst (b.map V.int)) ∧ Side g i b)
      ⟨none, none, List.replicate g 0, rfl, dk3, (Kp.of s2).trans k3, k3 _ _ nd.1 nd.2.1 e2, ?_⟩ ?_ ?_
    · refine ⟨List.length_replicate, fun x hx => ?_, ?_⟩
      · rw [(List.mem_replicate.mp hx).2]
        exact ⟨by decide, by decide⟩
      · rw [sum_rep0]
        exact Int.le_refl _
    · rintro i σ H4 hi ⟨y4, y5, b, rfl, dk4, k4, eb, sd⟩
      -- at = draw(deck, goods)
      refine ⟨_, rfl, _, rfl, d, c, r, n + 1 + i, g, rfl, dk4, by omega, hg, by omega, fun H5 j hj dk5 k5 => ?_⟩
      have eb5 : H5 p2 = some (.lst (b.map V.int)) := k5 _ _ nd.1 nd.2.1 eb
      have hjb : j < b.length := by
        rw [sd.len]
        exact hj
      -- row[at] = row[at] + int(row[at] < 3)
      refine ⟨_, rfl, _, rfl, p2, _, _, _, rfl, rfl, SqL.of eb5, nat_at hjb, ?_⟩
      refine ⟨_, rfl, _, rfl, p2, _, _, _, rfl, rfl, SqL.of eb5, nat_at hjb, _, _, rfl, rfl, .inr ⟨_, rfl, ?_⟩⟩
      refine ⟨_, _, rfl, rfl, ?_⟩
      refine ⟨_, rfl, _, rfl, p2, _, _, j, rfl, rfl, eb5, ixN_nat (by rw [List.length_map]; exact hjb), ?_⟩
      have hm0 : b.getD j 0 ∈ b := by
        rw [List.getD_eq_getElem?_getD, List.getElem?_eq_getElem hjb]
        exact List.getElem_mem hjb
      have hm1 := sd.amt _ hm0
      have hst : (b.set j (b.getD j 0 + (if decide (b.getD j 0 < 3) = true then 1 else 0))).sum = b.sum - b.getD j 0 + (b.getD j 0 + (if decide (b.getD j 0 < 3) = true then 1 else 0)) :=
        sum_set (by rw [List.getD_eq_getElem?_getD, List.getElem?_eq_getElem hjb]; rfl)
      refine ⟨_, _, b.set j (b.getD j 0 + (if decide (b.getD j 0 < 3) = true then 1 else 0)), rfl, ?_, ?_, ?_, ?_, ?_, ?_⟩
      · have n2 : p2 ≠ d := nd.1
        have n3 : p2 ≠ r := nd.2.1
        have n4 : p2 ≠ c := nd.2.2
        obtain ⟨t, cs, rs, g1, g2, g3, g4, g5, g6, g7, w1, w2, w3⟩ := dk5
        exact ⟨t, cs, rs, g1, g2, g3, g4, g5, g6, g7, by rw [upd_ne n2.symm]; exact w1, by rw [upd_ne n4.symm]; exact w2, by rw [upd_ne n3.symm]; exact w3⟩
      · intro z o z1 z2 ez
        rw [upd_ne (ne_of_none ez f2)]
        exact k5 _ _ z1 z2 (k4 _ _ z1 z2 ez)
      · rw [upd_same, List.map_set]
      · rw [List.length_set]
        exact sd.len
      · intro x hx
        rcases List.mem_or_eq_of_mem_set hx with h | h
        · exact sd.amt x h
        · rw [h]
          by_cases h3 : b.getD j 0 < 3
          · rw [decide_eq_true h3, if_pos rfl]
            omega
          · rw [decide_eq_false h3, if_neg Bool.false_ne_true]
            omega
      · rw [hst]
        have := sd.tot
        by_cases h3 : b.getD j 0 < 3
        · rw [decide_eq_true h3, if_pos rfl]
          omega
        · rw [decide_eq_false h3, if_neg Bool.false_ne_true]
          omega
    · rintro σ H4 ⟨y4, y5, b, rfl, dk4, k4, eb, sd⟩
      refine ⟨_, rfl, p2, _, rfl, .inl ⟨SqL.of eb, fun p hp => ?_⟩⟩
      have sp := same_upd (o := .tup (b.map V.int)) hp
      refine q _ p b (sd.mono (by omega)) ?_ upd_same ((dk4.same sp).mono (by omega)) (k4.trans (Kp.of sp))
      cases e : H p with
      | none => rfl
      | some o =>
        have := dk4.nd hp
        rw [k4 _ _ this.1 this.2.1 e] at hp
        cases hp

end
end Lb
set_option Elab.async false
set_option linter.all false
set_option maxRecDepth 100000
set_option maxHeartbeats 8000000
namespace Lb
open PySem PySem.Spec PyProof.Rows L2 RZ TL
section
variable {P : Program} {w : World} {K : PySem.W.Frag} {mg : Str → Option Value} {base : Heap}
theorem sc__law_trade : FnScope ["_law_deck_here", "_law_goods", "_law_most", "_law_at", "_law_many", "_law_beside", "_law_good", "_law_one_here", "_law_other"] ["_law_deck_here", "_law_goods", "_law_most"] (defScope s__law_trade) := ⟨rfl, rfl, rfl, by decide +kernel, rfl, by decide +kernel, by decide +kernel⟩
theorem own_trade (D : Df K mg "_law_trade" s__law_trade) (B : Blt mg) (O__law_draw : Own P w K mg base "_law_draw" 1 ["_law_deck_here", "_law_many"] spDraw) (O__law_side : Own P w K mg base "_law_side" 2 ["_law_deck_here", "_law_goods", "_law_most"] spSide)
    (O__law_plus : Own P w K mg base "_law_plus" 1 ["_law_one_here", "_law_other"] (spPlus K)) : Own P w K mg base "_law_trade" 3 ["_law_deck_here", "_law_goods", "_law_most"] spTrade := by
  refine own_of D sc__law_trade (fun _ _ _ _ _ _ us hl => match us, hl with | [_, _, _], _ => rfl) (fun vs H Q E h => ?_) (fun f cdv A outer s H vs Q E hr h => ?_)
  · obtain ⟨_, _, _, _, _, _, _, rfl, _⟩ := h
    rfl
  · obtain ⟨R, d, c, r, n, g, m, rfl, dk, hn, hg, hg2, hm, rg, q⟩ := h
    refine ⟨_, (pss_cons (ps_if (PW.pt (pw_or (pt_cmpR op_lt (pv 2) pe_int (nomark _)) (pw_or1 (pt_cmpR op_eq (pe_own O__law_draw (hr.mono (by omega)) (by rfl) (pa_cons (pv 0) (pa_cons pe_int pa_nil))) pe_int (nomark _))))) (pss_one (ps_ret (pe_tup (pa_cons (pe_own O__law_side (hr.mono (by omega)) (by rfl) (pa_cons (pv 0) (pa_cons (pv 1) (pa_cons (pv 2) pa_nil)))) (pa_cons (pe_own O__law_side (hr.mono (by omega)) (by rfl) (pa_cons (pv 0) (pa_cons (pv 1) (pa_cons (pv 2) pa_nil)))) pa_nil))))) pss_nil)
      (pss_cons (ps_asg (pe_tup (pa_cons (pe_own O__law_draw (hr.mono (by omega)) (by rfl) (pa_cons (pv 0) (pa_cons (pv 1) pa_nil))) (pa_cons (pe_op op_add pe_int (pe_own O__law_draw (hr.mono (by omega)) (by rfl) (pa_cons (pv 0) (pa_cons (pe_op op_sub (pv 2) pe_int) pa_nil)))) pa_nil))) (pg_tup rfl (pgs_cons (pg_name (i := 3) sc__law_trade.nd rfl (.inr rfl)) (pgs_cons (pg_name (i := 4) sc__law_trade.nd rfl (.inr rfl)) pgs_nil))))
      (pss_cons (ps_set (i := 5) sc__law_trade.nd rfl (.inl rfl) (pe_callTy (T := "tuple") call_tuple_of (by rfl) B.b_tuple (by decide +kernel) (pa_cons (pe_lc (own := [("_law_good", 6)]) (g := gName 6) (tt := tYes) rfl sc__law_trade.nd (pi_range1 (by rfl) B.b_range (pa_cons (pv 1) pa_nil)) (blkOk_by (own := [("_law_good", 6)]) (N := ["_law_deck_here", "_law_goods", "_law_most", "_law_at", "_law_many", "_law_beside", "_law_good", "_law_one_here", "_law_other"]) (sc := defScope s__law_trade) (by decide +kernel)) (fun _ _ _ _ _ => (pg_name (i := 6) sc__law_trade.nd rfl (.inl rfl))) (fun _ _ _ _ _ => pts_nil) (fun _ _ _ _ _ => (pe_op op_mul (pv 4) (pe_callTy (T := "int") call_int1 (by rfl) B.b_int PyProof.Rows.boot_int (pa_cons (pe_cmpR op_eq (pv 6) (pv 3) (nomark _)) pa_nil))))) pa_nil)))
      (pss_cons (ps_par (i := 7) (j := 8) rfl sc__law_trade.nd rfl rfl (by decide) rfl rfl (pa_cons (pe_own O__law_side (hr.mono (by omega)) (by rfl) (pa_cons (pv 0) (pa_cons (pv 1) (pa_cons pe_int pa_nil)))) (pa_cons (pe_own O__law_side (hr.mono (by omega)) (by rfl) (pa_cons (pv 0) (pa_cons (pv 1) (pa_cons pe_int pa_nil)))) pa_nil)) rfl)
      (pss_one (ps_ret (pe_ifExp (pt_cmpR op_lt (pv 4) pe_int (nomark _)) (pe_tup (pa_cons (pe_own O__law_plus (hr.mono (by omega)) (by rfl) (pa_cons (pv 7) (pa_cons (pv 5) pa_nil))) (pa_cons (pe_own O__law_plus (hr.mono (by omega)) (by rfl) (pa_cons (pv 8) (pa_cons (pv 5) pa_nil))) pa_nil))) (pe_tup (pa_cons (pe_own O__law_plus (hr.mono (by omega)) (by rfl) (pa_cons (pv 7) (pa_cons (pv 5) pa_nil))) (pa_cons (pv 5) pa_nil)))))))))), ?_⟩
    refine ⟨_, rfl, _, _, rfl, rfl, _, rfl, ite2 (fun hlt => ?_) (fun hlt => ?_)⟩
    · refine iteT ?_
      exact two_sides rfl rfl rfl dk (by omega) hg hg2 hm rg fun H' v t ok dt dk' k' => q H' v t ok dt (dk'.mono (by omega)) k'
    have hm3 : 3 ≤ m := by
      have : ¬ (m : Int) < 3 := fun z => hlt (decide_eq_true z)
      omega
    refine ⟨_, rfl, d, c, r, n, 2, rfl, dk, by omega, by omega, by omega, fun H1 v hv dk1 k1 => ?_⟩
    refine ⟨rfl, _, rfl, ite2 (fun _ => ?_) (fun _ => ?_)⟩
    · exact two_sides rfl rfl rfl dk1 (by omega) hg hg2 hm (rg.kp k1 dk1) fun H' v t ok dt dk' k' => q H' v t ok dt (dk'.mono (by omega)) (k1.trans k')
    have rg1 := rg.kp k1 dk1
    -- at, many = draw(deck, goods), 1 + draw(deck, most - 2)
    refine ⟨_, rfl, _, rfl, d, c, r, n + 1, g, rfl, dk1, by omega, hg, by omega, fun H2 at_ ha dk2 k2 => ?_⟩
    refine ⟨_, rfl, _, rfl, _, _, rfl, rfl, ?_⟩
    have em : (m : Int) - 2 = ((m - 2 : Nat) : Int) := by omega
    refine ⟨d, c, r, n + 1 + 1, m - 2, by dsimp only; rw [em]; rfl, dk2, by omega, by omega, by omega, fun H3 mm hmm dk3 k3 => ?_⟩
    refine ⟨_, _, rfl, rfl, ?_⟩
    have rg3 := (rg1.kp k2 dk2).kp k3 dk3
    have hmm1 : (1 : Int) + (mm : Int) ≤ 2 := by omega
    refine ⟨(by show 2 ≤ sizeLine; decide), fun p4 z4 => ?_⟩
    have s4 := same_upd (o := .tup [V.int (at_ : Int), V.int (1 + (mm : Int))]) z4
    refine ⟨p4, _, rfl, .inl (.inl upd_same), rfl, _, _, rfl, _, _, rfl, rfl, ?_⟩
    generalize upd H3 p4 (.tup [V.int (at_ : Int), V.int (1 + (mm : Int))]) = H4 at *
    have dk4 := dk3.same s4
    -- beside = tuple([many * int(good == at) for good in range(goods)])
    refine ⟨_, rfl, (g : Int), rfl, by omega, by omega, fun D hD => ?_⟩
    rw [Int.toNat_natCast]
    refine lc_range (lo := 0) (n := g) (fun i H' => Same H4 H' ∧ H' D = some (.lst ((besideL i at_ (1 + (mm : Int))).map V.int))) ⟨same_upd hD, upd_same⟩ ?_ ?_
    · rintro i H' hi ⟨sm, eD⟩
      refine ⟨rfl, all_in ?_⟩
      refine ⟨_, rfl, _, rfl, _, rfl, rfl, .inr ⟨_, rfl, ?_⟩⟩
      refine ⟨_, _, rfl, rfl, .inl ⟨by omega, by omega⟩, _, eD, ?_, ?_, ?_⟩
      · rw [List.length_map, beside_len]
        exact small1000 (by omega)
      · intro b o e
        rw [upd_ne (ne_of_none e hD)]
        exact sm _ _ e
      · rw [upd_same]
        unfold besideL
        rw [List.range_succ, List.map_append, List.map_append]
        rfl
    rintro H5 ⟨s5, eD⟩
    refine ⟨D, _, rfl, .inl ⟨SqL.of eD, fun p6 z6 => ?_⟩⟩
    have s6 := same_upd (o := .tup ((besideL g at_ (1 + (mm : Int))).map V.int)) z6
    have e6 : upd H5 p6 (.tup ((besideL g at_ (1 + (mm : Int))).map V.int)) p6 = some (.tup ((besideL g at_ (1 + (mm : Int))).map V.int)) := upd_same
    have s46 := s5.trans s6
    have f6 : H4 p6 = none := s5.free z6
    generalize upd H5 p6 (.tup ((besideL g at_ (1 + (mm : Int))).map V.int)) = H6 at *
    have dk6 := dk4.same s46
    have k6 : Kp d r H H6 := ((k1.trans k2).trans k3).trans (Kp.of (s4.trans s46))
    have rg6 : Rg R H6 d r := rg3.same (s4.trans s46)
    have r6 : R p6 := (rg3.same s4).new _ f6
    -- one, other = side(deck, goods, 1), side(deck, goods, 2)
    refine ⟨_, rfl, _, rfl, d, c, r, _, g, 1, rfl, dk6, by omega, hg, by omega, by omega, fun H7 p7 b7 sd7 f7 e7 dk7 k7 => ?_⟩
    refine ⟨_, rfl, _, rfl, d, c, r, _, g, 2, rfl, dk7, by omega, hg, by omega, by omega, fun H8 p8 b8 sd8 f8 e8 dk8 k8 => ?_⟩
    refine ⟨_, _, rfl, ?_⟩
    have nd6 := dk4.nd f6
    have nd7 := dk6.nd f7
    have e68 : H8 p6 = some (.tup ((besideL g at_ (1 + (mm : Int))).map V.int)) := k8 _ _ nd6.1 nd6.2.1 (k7 _ _ nd6.1 nd6.2.1 e6)
    have e78 : H8 p7 = some (.tup (b7.map V.int)) := k8 _ _ nd7.1 nd7.2.1 e7
    have rg7 := rg6.kp k7 dk7
    have rg8 := rg7.kp k8 dk8
    have r7 : R p7 := rg6.new _ f7
    have r8 : R p8 := rg7.new _ f8
    have k68 : Kp d r H H8 := (k6.trans k7).trans k8
    refine ⟨_, rfl, _, _, rfl, rfl, _, rfl, ite2 (fun hl => ?_) (fun hl => ?_)⟩
    · have hl1 : (1 : Int) + (mm : Int) < 2 := of_decide_eq_true hl
      refine ⟨_, rfl, _, rfl, p7, p6, _, _, rfl, .inl (.inl e78), .inl (.inl e68), by rw [sd7.len, beside_len], by rw [sd7.len]; omega, fun H9 p9 s9 f9 e9 => ?_⟩
      refine ⟨_, rfl, _, rfl, p8, p6, _, _, rfl, .inl (.inl (s9 _ _ e8)), .inl (.inl (s9 _ _ e68)), by rw [sd8.len, beside_len], by rw [sd8.len]; omega, fun H10 p10 s10 f10 e10 => ?_⟩
      refine ⟨(by show 2 ≤ sizeLine; decide), fun p11 z11 => ?_⟩
      have s11 := same_upd (o := .tup [V.ref p9, V.ref p10]) z11
      have rg9 := rg8.same s9
      have rg10 := rg9.same s10
      refine q _ _ (_, _) ⟨(side_plus sd7 (by omega) (by omega)).mono hm3, (side_plus sd8 (by omega) (by omega)).mono hm3⟩
        (.tup (rg10.new _ z11) upd_same (.cons (Dat.mkBag (rg8.new _ f9) (s11 _ _ (s10 _ _ e9))) (.cons (Dat.mkBag (rg9.new _ f10) (s11 _ _ e10)) .nil)))
        ((dk8.same ((s9.trans s10).trans s11)).mono (by omega)) (k68.trans (Kp.of ((s9.trans s10).trans s11)))
    · refine ⟨_, rfl, _, rfl, p7, p6, _, _, rfl, .inl (.inl e78), .inl (.inl e68), by rw [sd7.len, beside_len], by rw [sd7.len]; omega, fun H9 p9 s9 f9 e9 => ?_⟩
      refine ⟨_, rfl, (by show 2 ≤ sizeLine; decide), fun p11 z11 => ?_⟩
      have s11 := same_upd (o := .tup [V.ref p9, V.ref p6]) z11
      have rg9 := rg8.same s9
      refine q _ _ (_, _) ⟨(side_plus sd7 (by omega) (by omega)).mono hm3, (side_beside (by omega) (by omega)).mono hm3⟩
        (.tup (rg9.new _ z11) upd_same (.cons (Dat.mkBag (rg8.new _ f9) (s11 _ _ e9)) (.cons (Dat.mkBag r6 (s11 _ _ (s9 _ _ e68))) .nil)))
        ((dk8.same (s9.trans s11)).mono (by omega)) (k68.trans (Kp.of (s9.trans s11)))

end
end Lb
set_option Elab.async false
set_option linter.all false
set_option maxRecDepth 100000
set_option maxHeartbeats 8000000
namespace Lb
open PySem PySem.Spec PyProof.Rows L2 RZ TL
section
variable {P : Program} {w : World} {K : PySem.W.Frag} {mg : Str → Option Value} {base : Heap}
theorem sc__law_market : FnScope ["_law_deck_here", "_law_goods", "_law_trades", "_law_most", "_law_k"] ["_law_deck_here", "_law_goods", "_law_trades", "_law_most"] (defScope s__law_market) := ⟨rfl, rfl, rfl, by decide +kernel, rfl, by decide +kernel, by decide +kernel⟩
theorem own_market (D : Df K mg "_law_market" s__law_market) (B : Blt mg) (O__law_draw : Own P w K mg base "_law_draw" 1 ["_law_deck_here", "_law_many"] spDraw) (O__law_trade : Own P w K mg base "_law_trade" 3 ["_law_deck_here", "_law_goods", "_law_most"] spTrade) :
    Own P w K mg base "_law_market" 4 ["_law_deck_here", "_law_goods", "_law_trades", "_law_most"] spMarket := by
  refine own_of D sc__law_market (fun _ _ _ _ _ _ us hl => match us, hl with | [_, _, _, _], _ => rfl) (fun vs H Q E h => ?_) (fun f cdv A outer s H vs Q E hr h => ?_)
  · obtain ⟨_, _, _, _, _, _, _, _, rfl, _⟩ := h
    rfl
  · obtain ⟨R, d, c, r, n, g, tr, m, rfl, dk, hn, hg, hg2, ht, hm, rg, q⟩ := h
    refine ⟨_, (pss_one (ps_ret (pe_tup (pa_cons (pv 1) (pa_cons (pe_callTy (T := "tuple") call_tuple_of (by rfl) B.b_tuple (by decide +kernel) (pa_cons (pe_lc (own := [("_law_k", 4)]) (g := gName 4) (tt := tYes) rfl sc__law_market.nd (pi_range1 (by rfl) B.b_range (pa_cons (pe_own O__law_draw (hr.mono (by omega)) (by rfl) (pa_cons (pv 0) (pa_cons (pe_op op_add (pv 2) pe_int) pa_nil))) pa_nil)) (blkOk_by (own := [("_law_k", 4)]) (N := ["_law_deck_here", "_law_goods", "_law_trades", "_law_most", "_law_k"]) (sc := defScope s__law_market) (by decide +kernel)) (fun _ _ _ _ _ => (pg_name (i := 4) sc__law_market.nd rfl (.inl rfl))) (fun _ _ _ _ _ => pts_nil) (fun _ _ _ _ _ => (pe_own O__law_trade (hr.mono (by omega)) (by rfl) (pa_cons (pv 0) (pa_cons (pv 1) (pa_cons (pv 3) pa_nil)))))) pa_nil)) pa_nil))))), ?_⟩
    refine ⟨_, rfl, _, rfl, _, rfl, _, _, rfl, rfl, ?_⟩
    refine ⟨d, c, r, n, tr + 1, rfl, dk, by omega, by omega, by omega, fun H1 v hv dk1 k1 => ?_⟩
    refine ⟨(v : Int), rfl, by omega, by omega, fun L hL => ?_⟩
    rw [Int.toNat_natCast]
    have rg1 := rg.kp k1 dk1
    have ndL := dk1.nd hL
    refine lc_range (lo := 0) (n := v) (fun i H' => ∃ (ts : List Trd) (vs : List V), ts.length = i ∧ (∀ t ∈ ts, TrdOk g m t) ∧ H' L = some (.lst vs) ∧ Dats (wo R L) H' vs (ts.map trdD) ∧ Dk H' d c r (n + 1 + 20 * i) ∧ Kp d r H1 H' ∧ Rg R H' d r)
      ⟨[], [], rfl, (fun _ z => nomatch z), upd_same, .nil, dk1.same (same_upd hL), Kp.of (same_upd hL), rg1.same (same_upd hL)⟩ ?_ ?_
    · rintro i H2 hi ⟨ts, vs, hl, ok, eL, dt, dk2, k2, rg2⟩
      refine ⟨rfl, all_in ?_⟩
      refine ⟨_, rfl, _, rfl, _, rfl, wo R L, d, c, r, _, g, m, rfl, dk2, by omega, hg, hg2, hm, wo_rg rg2 eL, fun H3 u t tok dtu dk3 k3 => ?_⟩
      have eL3 : H3 L = some (.lst vs) := k3 _ _ ndL.1 ndL.2.1 eL
      have rg3 := rg2.kp k3 dk3
      refine ⟨vs, eL3, ?_, ?_⟩
      · rw [dt.length, List.length_map, hl]
        exact small1000 (by omega)
      refine ⟨ts ++ [t], vs ++ [u], by rw [List.length_append, hl]; rfl, ?_, upd_same, ?_, ?_, ?_, ?_⟩
      · intro t' ht'
        rcases List.mem_append.mp ht' with h | h
        · exact ok t' h
        · rw [List.mem_singleton.mp h]
          exact tok
      · rw [List.map_append]
        have onW : On (wo R L) H2 H3 := fun b o hb e => k3 b o (fun z => rg2.nd (z ▸ hb.1)) (fun z => rg2.nr (z ▸ hb.1)) e
        exact ((dt.on onW).append (.cons dtu .nil)).on wo_on
      · obtain ⟨t', cs, rs, g1, g2, g3, g4, g5, g6, g7, w1, w2, w3⟩ := dk3
        exact ⟨t', cs, rs, by omega, g2, g3, g4, g5, g6, g7, by rw [upd_ne ndL.1.symm]; exact w1, by rw [upd_ne ndL.2.2.symm]; exact w2, by rw [upd_ne ndL.2.1.symm]; exact w3⟩
      · intro b o z1 z2 e
        rw [upd_ne (ne_of_none e hL)]
        exact k3 _ _ z1 z2 (k2 _ _ z1 z2 e)
      · refine ⟨rg3.nd, rg3.nr, fun p hp => rg3.new p ?_⟩
        by_cases hpL : p = L
        · rw [hpL, upd_same] at hp
          cases hp
        · rw [upd_ne hpL] at hp
          exact hp
    · rintro H2 ⟨ts, vs, hl, ok, eL, dt, dk2, k2, rg2⟩
      refine ⟨L, _, rfl, .inl ⟨SqL.of eL, fun p3 z3 => ?_⟩⟩
      have s3 := same_upd (o := .tup vs) z3
      refine ⟨(by show 2 ≤ sizeLine; decide), fun p4 z4 => ?_⟩
      have s4 := same_upd (o := .tup [V.int (g : Int), V.ref p3]) z4
      have dR : Dats R H2 vs (ts.map trdD) := dt.sub fun b o hb _ => hb.1
      refine q _ _ ts (by omega) ok (.tup ((rg2.same s3).new _ z4) upd_same (.cons (.int _) (.cons (.tup (rg2.new _ z3) (s4 _ _ upd_same) (dR.same (s3.trans s4))) .nil))) ((dk2.same (s3.trans s4)).mono (by omega)) ((k1.trans k2).trans (Kp.of (s3.trans s4)))

end
end Lb
set_option Elab.async false
set_option linter.all false
set_option maxRecDepth 100000
set_option maxHeartbeats 8000000
namespace Lb
open PySem PySem.Spec PyProof.Rows L2 RZ TL
section
variable {P : Program} {w : World} {K : PySem.W.Frag} {mg : Str → Option Value} {base : Heap}
theorem sc__law_any_market : FnScope ["_law_deck_here", "_law_goods"] ["_law_deck_here"] (defScope s__law_any_market) := ⟨rfl, rfl, rfl, by decide +kernel, rfl, by decide +kernel, by decide +kernel⟩
theorem own_anyS (D : Df K mg "_law_any_market" s__law_any_market) (B : Blt mg) (O__law_draw : Own P w K mg base "_law_draw" 1 ["_law_deck_here", "_law_many"] spDraw) (O__law_market : Own P w K mg base "_law_market" 4 ["_law_deck_here", "_law_goods", "_law_trades", "_law_most"] spMarket) :
    Own P w K mg base "_law_any_market" 5 ["_law_deck_here"] spAnyS := by
  refine own_of D sc__law_any_market (fun _ _ _ _ _ _ us hl => match us, hl with | [_], _ => rfl) (fun vs H Q E h => ?_) (fun f cdv A outer s H vs Q E hr h => ?_)
  · obtain ⟨_, _, _, _, _, rfl, _⟩ := h
    rfl
  · obtain ⟨R, d, c, r, n, rfl, dk, hn, rg, q⟩ := h
    refine ⟨_, (pss_cons (ps_set (i := 1) sc__law_any_market.nd rfl (.inl rfl) (pe_op op_add pe_int (pe_own O__law_draw (hr.mono (by omega)) (by rfl) (pa_cons (pv 0) (pa_cons pe_int pa_nil)))))
      (pss_one (ps_ret (pe_own O__law_market (hr.mono (by omega)) (by rfl) (pa_cons (pv 0) (pa_cons (pv 1) (pa_cons (pe_ifExp (pt_cmpR op_lt (pv 1) pe_int (nomark _)) pe_int (pe_op op_sub pe_int (pv 1))) (pa_cons (pe_ifExp (pt_cmpR op_lt (pv 1) pe_int (nomark _)) pe_int pe_int) pa_nil)))))))), ?_⟩
    refine ⟨_, rfl, d, c, r, n, 4, rfl, dk, by omega, by omega, by omega, fun H1 v hv dk1 k1 => ?_⟩
    refine ⟨_, _, rfl, rfl, ?_⟩
    have eg : (1 : Int) + (v : Int) = ((1 + v : Nat) : Int) := by omega
    dsimp only
    rw [eg]
    have rg1 := rg.kp k1 dk1
    refine ⟨_, rfl, _, rfl, ?_⟩
    by_cases hlt : ((1 + v : Nat) : Int) < 3
    · refine ⟨_, rfl, _, _, rfl, rfl, _, rfl, ?_⟩
      rw [decide_eq_true hlt]
      refine iteT ?_
      refine ⟨_, rfl, _, _, rfl, rfl, _, rfl, ?_⟩
      rw [decide_eq_true hlt]
      refine iteT ?_
      refine ⟨R, d, c, r, n + 1, 1 + v, 4, 4, rfl, dk1, by omega, by omega, by omega, by omega, by omega, rg1, fun H' u ts hl ok dt dk' k' => ?_⟩
      exact q H' u (1 + v) ts ⟨by omega, by omega, hl, ok⟩ (.inr (by omega)) dt (dk'.mono (by omega)) (k1.trans k')
    · refine ⟨_, rfl, _, _, rfl, rfl, _, rfl, ?_⟩
      rw [decide_eq_false hlt]
      refine iteF ?_
      refine ⟨_, rfl, _, _, rfl, rfl, ?_⟩
      refine ⟨_, rfl, _, _, rfl, rfl, _, rfl, ?_⟩
      rw [decide_eq_false hlt]
      refine iteF ?_
      have e5 : (5 : Int) - ((1 + v : Nat) : Int) = ((4 - v : Nat) : Int) := by omega
      refine ⟨R, d, c, r, n + 1, 1 + v, 4 - v, 3, by dsimp only; rw [e5]; rfl, dk1, by omega, by omega, by omega, by omega, by omega, rg1, fun H' u ts hl ok dt dk' k' => ?_⟩
      exact q H' u (1 + v) ts ⟨by omega, by omega, by omega, fun t ht => ⟨(ok t ht).1.mono (by omega), (ok t ht).2.mono (by omega)⟩⟩ (.inl (by omega)) dt (dk'.mono (by omega)) (k1.trans k')

end
end Lb
set_option Elab.async false
set_option linter.all false
set_option maxRecDepth 100000
set_option maxHeartbeats 8000000
namespace Lb
open PySem PySem.Spec PyProof.Rows L2 RZ TL
section
variable {P : Program} {w : World} {K : PySem.W.Frag} {mg : Str → Option Value} {base : Heap}
theorem sc_gains : FnScope ["trade", "less", "more"] ["trade"] (defScope s_gains) := ⟨rfl, rfl, rfl, by decide +kernel, rfl, by decide +kernel, by decide +kernel⟩
theorem own_gains (D : Df K mg "gains" s_gains) (B : Blt mg) : Own P w K mg base "gains" 1 ["trade"] (spGains K) := by
  refine own_of D sc_gains (fun _ _ _ _ _ _ us hl => match us, hl with | [_], _ => rfl) (fun vs H Q E h => ?_) (fun f cdv A outer s H vs Q E hr h => ?_)
  · obtain ⟨_, _, _, _, rfl, _⟩ := h
    rfl
  · obtain ⟨a, u, v, t, rfl, ea, eu, ev, hl, hs, q⟩ := h
    refine ⟨_, (pss_one (ps_ret (pe_lc (own := [("less", 1), ("more", 2)]) (g := gTup _ 2 (gCons (gName 1) (gCons (gName 2) gNil))) (tt := tYes) rfl sc_gains.nd (pi_zipA (by rfl) B.b_zip (pa_cons (pe_ix ix_tup (pv 0) pe_int (fun _ _ => rfl)) (pa_cons (pe_ix ix_tup (pv 0) pe_int (fun _ _ => rfl)) pa_nil))) (blkOk_by (own := [("less", 1), ("more", 2)]) (N := ["trade", "less", "more"]) (sc := defScope s_gains) (by decide +kernel)) (fun _ _ _ _ _ => (pg_tup rfl (pgs_cons (pg_name (i := 1) sc_gains.nd rfl (.inl rfl)) (pgs_cons (pg_name (i := 2) sc_gains.nd rfl (.inl rfl)) pgs_nil)))) (fun _ _ _ _ _ => pts_nil) (fun _ _ _ _ _ => (pe_op op_sub (pv 2) (pv 1)))))), ?_⟩
    refine ⟨_, rfl, a, _, 0, _, rfl, rfl, SqT.of ea, rfl, _, rfl, a, _, 1, _, rfl, rfl, SqT.of ea, rfl, u, v, _, _, rfl, .inr ⟨SqT.of eu, SqT.of ev, fun D hD => ?_⟩⟩
    have e1 : t.1.map V.int = rowL t.1.length fun k => t.1.getD k 0 := rowL_of _
    have e2 : t.2.map V.int = rowL t.1.length fun k => t.2.getD k 0 := by
      rw [hl]
      exact rowL_of _
    refine lc_rowW (walk_zipT (n := t.1.length) (by rw [List.length_map]) (by rw [List.length_map, List.length_map, hl])) (gain t) hD (by omega) (fun H' sm => ⟨same_tup sm (SqT.of eu), same_tup sm (SqT.of ev)⟩) ?_ (fun H' sm eD => q H' D sm hD eD)
    rintro i x H2 H3 Qy hi sm ⟨T, x', y', rfl, hT, rfl, h1, h2⟩ hq
    rw [e1] at h1
    rw [e2] at h2
    obtain ⟨_, rfl⟩ := int_row h1
    obtain ⟨_, rfl⟩ := int_row h2
    refine ⟨T, _, rfl, .inl (.inl upd_same), rfl, _, _, rfl, _, _, rfl, rfl, rfl, ?_⟩
    exact ⟨_, rfl, _, rfl, _, _, rfl, rfl, hq _ (same_upd hT)⟩

end
end Lb
set_option Elab.async false
set_option linter.all false
set_option maxRecDepth 100000
set_option maxHeartbeats 8000000
namespace Lb
open PySem PySem.Spec PyProof.Rows L2 RZ TL
section
variable {P : Program} {w : World} {K : PySem.W.Frag} {mg : Str → Option Value} {base : Heap}
theorem sc_unit_row : FnScope ["size", "at", "k"] ["size", "at"] (defScope s_unit_row) := ⟨rfl, rfl, rfl, by decide +kernel, rfl, by decide +kernel, by decide +kernel⟩
theorem own_unit (D : Df K mg "unit_row" s_unit_row) (B : Blt mg) : Own P w K mg base "unit_row" 1 ["size", "at"] spUnit := by
  refine own_of D sc_unit_row (fun _ _ _ _ _ _ us hl => match us, hl with | [_, _], _ => rfl) (fun vs H Q E h => ?_) (fun f cdv A outer s H vs Q E hr h => ?_)
  · obtain ⟨_, _, rfl, _⟩ := h
    rfl
  · obtain ⟨n, a, rfl, hn, q⟩ := h
    refine ⟨_, (pss_one (ps_ret (pe_lc (own := [("k", 2)]) (g := gName 2) (tt := tYes) rfl sc_unit_row.nd (pi_range1 (by rfl) B.b_range (pa_cons (pv 0) pa_nil)) (blkOk_by (own := [("k", 2)]) (N := ["size", "at", "k"]) (sc := defScope s_unit_row) (by decide +kernel)) (fun _ _ _ _ _ => (pg_name (i := 2) sc_unit_row.nd rfl (.inl rfl))) (fun _ _ _ _ _ => pts_nil) (fun _ _ _ _ _ => (pe_ifExp (pt_cmpR op_eq (pv 2) (pv 1) (nomark _)) pe_int pe_int))))), ?_⟩
    refine ⟨_, rfl, (n : Int), rfl, by omega, by omega, fun D hD => ?_⟩
    rw [Int.toNat_natCast]
    refine lc_rowW (walk_range (lo := 0) (n := n)) (fun k => if k = a then 1 else 0) hD (by omega) (fun _ _ => trivial) ?_ (fun H' sm eD => q H' D sm hD eD)
    rintro i x H2 H3 Qy hi sm ⟨rfl, rfl⟩ hq
    dsimp only
    rw [Int.zero_add]
    refine ⟨rfl, _, rfl, _, rfl, rfl, _, rfl, ?_⟩
    have hq := hq H3 (Same.refl H3)
    by_cases z : i = a
    · subst z
      rw [if_pos rfl] at hq
      rw [decide_eq_true rfl]
      exact iteT hq
    · rw [if_neg z] at hq
      rw [decide_eq_false (fun y => z (by cases y; rfl))]
      exact iteF hq

end
end Lb
set_option Elab.async false
set_option linter.all false
set_option maxRecDepth 100000
set_option maxHeartbeats 8000000
namespace Lb
open PySem PySem.Spec PyProof.Rows L2 RZ TL
section
variable {P : Program} {w : World} {K : PySem.W.Frag} {mg : Str → Option Value} {base : Heap}
theorem sc_swapped : FnScope ["row", "one", "other", "places", "k"] ["row", "one", "other"] (defScope s_swapped) := ⟨rfl, rfl, rfl, by decide +kernel, rfl, by decide +kernel, by decide +kernel⟩
theorem own_swapped (D : Df K mg "swapped" s_swapped) (B : Blt mg) : Own P w K mg base "swapped" 1 ["row", "one", "other"] spSwapped := by
  refine own_of D sc_swapped (fun _ _ _ _ _ _ us hl => match us, hl with | [_, _, _], _ => rfl) (fun vs H Q E h => ?_) (fun f cdv A outer s H vs Q E hr h => ?_)
  · obtain ⟨_, _, _, _, _, rfl, _⟩ := h
    rfl
  · obtain ⟨r, n, a, b, fn, rfl, er, hn, ha, hb, q⟩ := h
    refine ⟨_, (pss_cons (ps_set (i := 3) sc_swapped.nd rfl (.inl rfl) (pe_listRg rfl (by rfl) B.b_list (prg_1 (by rfl) B.b_range (pe_callB (id := "len") call_len_seq (by rfl) B.b_len PySem.boot_len (pa_cons (pv 0) pa_nil)))))
      (pss_cons (ps_asg (pe_tup (pa_cons (pv 2) (pa_cons (pv 1) pa_nil))) (pg_tup rfl (pgs_cons (pg_sub (pv 3) (pv 1) set_list) (pgs_cons (pg_sub (pv 3) (pv 2) set_list) pgs_nil))))
      (pss_one (ps_ret (pe_lc (own := [("k", 4)]) (g := gName 4) (tt := tYes) rfl sc_swapped.nd (pi_list (pv 3)) (blkOk_by (own := [("k", 4)]) (N := ["row", "one", "other", "places", "k"]) (sc := defScope s_swapped) (by decide +kernel)) (fun _ _ _ _ _ => (pg_name (i := 4) sc_swapped.nd rfl (.inl rfl))) (fun _ _ _ _ _ => pts_nil) (fun _ _ _ _ _ => (pe_ix (show IxR _ (rIxL K) from ix_list) (pv 0) (pv 4) (fun _ _ => rfl)))))))), ?_⟩
    refine ⟨_, rfl, r, _, rfl, .inl (SqL.of er), _, rfl, ?_, fun pl hpl => ?_⟩
    · rw [rowL_len]
      exact RgOk.of_le (by omega) (by omega) (by omega) (by omega)
    rw [rowL_len, rgV_row]
    refine ⟨_, rfl, _, rfl, Nat.le_of_lt (small1000 (show 2 ≤ 1000 by decide)), fun T hT => ?_⟩
    have nT : T ≠ pl := fun z => by
      rw [z, upd_same] at hT
      cases hT
    have epl : upd (upd H pl (.lst (rowL n fun k => (k : Int)))) T (.tup [.int (b : Int), .int (a : Int)]) pl = some (.lst (rowL n fun k => (k : Int))) := by
      rw [upd_ne (Ne.symm nT), upd_same]
    refine ⟨T, _, rfl, .inl (.inl upd_same), rfl, _, _, rfl, _, rfl, _, rfl, pl, _, _, _, rfl, rfl, epl, rowL_ix ha, ?_⟩
    refine ⟨_, _, rfl, _, rfl, _, rfl, pl, _, _, b, rfl, rfl, upd_same, ?_, rfl, ?_⟩
    · rw [rowL_set]
      exact rowL_ix hb
    rw [rowL_set, rowL_set]
    have e4 : (rowL n fun k => if k = b then (a : Int) else if k = a then (b : Int) else (k : Int)) = rowL n fun k => ((Gr.swp a b k : Nat) : Int) := rowL_congr fun k _ => by
      unfold Gr.swp
      by_cases y : k = b
      · rw [if_pos y]
        by_cases z : k = a
        · rw [if_pos z]
          omega
        · rw [if_neg z, if_pos y]
      · rw [if_neg y]
        by_cases z : k = a
        · rw [if_pos z, if_pos z]
        · rw [if_neg z, if_neg z, if_neg y]
    rw [e4]
    generalize hH4 : upd (upd (upd (upd H pl (.lst (rowL n fun k => (k : Int)))) T (.tup [.int (b : Int), .int (a : Int)])) pl (.lst (rowL n fun k => if k = a then (b : Int) else (k : Int)))) pl (.lst (rowL n fun k => ((Gr.swp a b k : Nat) : Int))) = H4
    have sm1 : Same H H4 := fun c o e => by
      have n1 : c ≠ pl := ne_of_none e hpl
      have n2 : c ≠ T := fun z => by
        rw [← z, upd_ne n1] at hT
        rw [e] at hT
        cases hT
      rw [← hH4, upd_ne n1, upd_ne n1, upd_ne n2, upd_ne n1]
      exact e
    have ep : H4 pl = some (.lst (rowL n fun k => ((Gr.swp a b k : Nat) : Int))) := by
      rw [← hH4]
      exact upd_same
    refine ⟨_, rfl, pl, rfl, ⟨_, SqL.of ep⟩, fun D hD => ?_⟩
    refine lc_rowW (walk_list (xs := rowL n fun k => ((Gr.swp a b k : Nat) : Int))) (fun k => fn (Gr.swp a b k)) hD (by rw [rowL_len]; omega) (fun H' sm => SqL.of (sm _ _ ep)) ?_ (fun H' sm eD => by
      rw [rowL_len] at eD
      exact q H' D (sm1.trans sm) (sm1.free hD) eD)
    rintro i x H2 H3 Qy hi sm ⟨rfl, hx⟩ hq
    obtain ⟨hk, rfl⟩ := int_row hx
    exact ⟨rfl, _, rfl, _, rfl, r, _, _, _, rfl, rfl, SqL.of (sm _ _ (sm1 _ _ er)), rowL_at (Gr.swp_bd hk ha hb), hq _ (Same.refl _)⟩

end
end Lb
set_option Elab.async false
set_option linter.all false
set_option maxRecDepth 100000
set_option maxHeartbeats 8000000
namespace Lb
open PySem PySem.Spec PyProof.Rows L2 RZ TL
section
variable {P : Program} {w : World} {K : PySem.W.Frag} {mg : Str → Option Value} {base : Heap}
theorem sc_reduced : FnScope ["row", "place", "by", "times", "k", "many"] ["row", "place", "by", "times"] (defScope s_reduced) := ⟨rfl, rfl, rfl, by decide +kernel, rfl, by decide +kernel, by decide +kernel⟩
theorem own_reduced (D : Df K mg "reduced" s_reduced) (B : Blt mg) : Own P w K mg base "reduced" 1 ["row", "place", "by", "times"] spReduced := by
  refine own_of D sc_reduced (fun _ _ _ _ _ _ us hl => match us, hl with | [_, _, _, _], _ => rfl) (fun vs H Q E h => ?_) (fun f cdv A outer s H vs Q E hr h => ?_)
  · obtain ⟨_, _, _, _, _, _, rfl, _⟩ := h
    rfl
  · obtain ⟨r, n, a, b, m, fn, rfl, er, hn, ha, hb, hm, q⟩ := h
    refine ⟨_, (pss_one (ps_ret (pe_lc (own := [("k", 4), ("many", 5)]) (g := gTup _ 2 (gCons (gName 4) (gCons (gName 5) gNil))) (tt := tYes) rfl sc_reduced.nd (pi_enum (by rfl) B.b_enumerate (pa_cons (pv 0) pa_nil)) (blkOk_by (own := [("k", 4), ("many", 5)]) (N := ["row", "place", "by", "times", "k", "many"]) (sc := defScope s_reduced) (by decide +kernel)) (fun _ _ _ _ _ => (pg_tup rfl (pgs_cons (pg_name (i := 4) sc_reduced.nd rfl (.inl rfl)) (pgs_cons (pg_name (i := 5) sc_reduced.nd rfl (.inl rfl)) pgs_nil)))) (fun _ _ _ _ _ => pts_nil) (fun _ _ _ _ _ => (pe_ifExp (pt_cmpR op_eq (pv 4) (pv 1) (nomark _)) (pe_op op_sub (pv 5) (pe_op op_mulW (pv 3) (pe_ix (show IxR _ (rIxL K) from ix_list) (pv 0) (pv 2) (fun _ _ => rfl)))) (pv 5)))))), ?_⟩
    refine ⟨_, rfl, r, _, rfl, SqL.of er, fun D hD => ?_⟩
    refine lc_rowW (walk_enum (xs := rowL n fn)) (fun k => if k = a then fn k - m * fn b else fn k) hD (by rw [rowL_len]; omega) (fun H' sm => SqL.of (sm _ _ er)) ?_ (fun H' sm eD => by
      rw [rowL_len] at eD
      exact q H' D sm hD eD)
    rintro i x H2 H3 Qy hi sm ⟨T, x', y', rfl, hT, rfl, h1, h2⟩ hq
    cases h1
    obtain ⟨hk, rfl⟩ := int_row h2
    refine ⟨T, _, rfl, .inl (.inl upd_same), rfl, _, _, rfl, _, _, rfl, rfl, rfl, ?_⟩
    have hq := hq _ (same_upd (H := H2) (o := .tup [.int (i : Int), .int (fn i)]) hT)
    refine ⟨_, rfl, _, rfl, rfl, _, rfl, ?_⟩
    by_cases z : i = a
    · subst z
      rw [if_pos rfl] at hq
      rw [decide_eq_true rfl]
      refine iteT ⟨_, rfl, _, rfl, _, rfl, _, rfl, r, _, _, _, rfl, rfl, SqL.of ((same_upd hT) _ _ (sm _ _ er)), rowL_at hb, _, _, rfl, rfl, hm, _, _, rfl, rfl, hq⟩
    · rw [if_neg z] at hq
      rw [decide_eq_false (fun y => z (by cases y; rfl))]
      exact iteF ⟨_, rfl, hq⟩

end
end Lb
set_option Elab.async false
set_option linter.all false
set_option maxRecDepth 100000
set_option maxHeartbeats 8000000
namespace Lb
open PySem PySem.Spec PyProof.Rows L2 RZ TL
section
variable {P : Program} {w : World} {K : PySem.W.Frag} {mg : Str → Option Value} {base : Heap}
theorem sc_Grid___init__ : FnScope ["self", "market", "goods", "trades", "k", "trade"] ["self", "market"] (defScope s_Grid___init__) := ⟨rfl, rfl, rfl, by decide +kernel, rfl, by decide +kernel, by decide +kernel⟩
theorem own_ginit {CG : Addr} (D : DfM K CG "__init__" "Grid.__init__" s_Grid___init__) (B : Blt mg) (GC : GrdC K CG) (O_gains : Own P w K mg base "gains" 1 ["trade"] (spGains K)) (O_unit_row : Own P w K mg base "unit_row" 1 ["size", "at"] spUnit) :
    OwnM P w K mg base CG "__init__" 2 ["self", "market"] (spGInit CG) := by
  refine ownM_of D sc_Grid___init__ (fun _ _ _ _ _ _ us hl => match us, hl with | [_, _], _ => rfl) (fun vs H Q E h => ?_) (fun f cdv A outer s H vs Q E hr h => ?_)
  · obtain ⟨_, _, _, _, _, _, rfl, _⟩ := h
    rfl
  · obtain ⟨x, dx, mv, H0, g, ts, rfl, ex, sm0, nx, mk, ok, q⟩ := h
    refine ⟨_, (pss_cons (ps_asg (pv 1) (pg_tup rfl (pgs_cons (pg_name (i := 2) sc_Grid___init__.nd rfl (.inr rfl)) (pgs_cons (pg_name (i := 3) sc_Grid___init__.nd rfl (.inr rfl)) pgs_nil))))
      (pss_cons (ps_fld (pv 0) (pv 2) rfl)
      (pss_cons (ps_fld (pv 0) (pe_lc (own := [("k", 4), ("trade", 5)]) (g := gTup _ 2 (gCons (gName 4) (gCons (gName 5) gNil))) (tt := tYes) rfl sc_Grid___init__.nd (pi_enumT (by rfl) B.b_enumerate (pa_cons (pv 3) pa_nil)) (blkOk_by (own := [("k", 4), ("trade", 5)]) (N := ["self", "market", "goods", "trades", "k", "trade"]) (sc := defScope s_Grid___init__) (by decide +kernel)) (fun _ _ _ _ _ => (pg_tup rfl (pgs_cons (pg_name (i := 4) sc_Grid___init__.nd rfl (.inl rfl)) (pgs_cons (pg_name (i := 5) sc_Grid___init__.nd rfl (.inl rfl)) pgs_nil)))) (fun _ _ _ _ _ => pts_nil) (fun _ _ _ _ _ => (pe_op op_cat (pe_own O_gains (hr.mono (by omega)) (by rfl) (pa_cons (pv 5) pa_nil)) (pe_own O_unit_row (hr.mono (by omega)) (by rfl) (pa_cons (pe_callB (id := "len") (show CallR _ _ (rLenQ K) from call_len_seq) (by rfl) B.b_len PySem.boot_len (pa_cons (pv 3) pa_nil)) (pa_cons (pv 4) pa_nil)))))) rfl)
      (pss_one (ps_fld (pv 0) (pe_lc (own := [("k", 4)]) (g := gName 4) (tt := tYes) rfl sc_Grid___init__.nd (pi_range1 (by rfl) B.b_range (pa_cons (pv 2) pa_nil)) (blkOk_by (own := [("k", 4)]) (N := ["self", "market", "goods", "trades", "k", "trade"]) (sc := defScope s_Grid___init__) (by decide +kernel)) (fun _ _ _ _ _ => (pg_name (i := 4) sc_Grid___init__.nd rfl (.inl rfl))) (fun _ _ _ _ _ => pts_nil) (fun _ _ _ _ _ => (pe_own O_unit_row (hr.mono (by omega)) (by rfl) (pa_cons (pv 2) (pa_cons (pv 4) pa_nil))))) rfl))))), ?_⟩
    obtain ⟨m, tt, vs, rfl, em, et, tv⟩ := mk
    have g1 := ok.one
    have g4 := ok.four
    have n4 := ok.many
    have lv := tv.length
    refine ⟨_, rfl, m, _, rfl, .inl (.inl em), rfl, _, _, rfl, _, _, rfl, rfl, ?_⟩
    have em1 : ∀ {p : Addr} {xs : List V} {o : HO}, H p = some (.tup xs) → upd H x o p = some (.tup xs) := fun {p xs o} e => by
      rw [upd_ne (fun z => by rw [z, ex] at e; cases e)]
      exact e
    refine ⟨_, rfl, _, rfl, x, CG, dx, _, rfl, ex, GC.cl, GC.ng, by decide, ?_⟩
    have ex1 : upd H x (.ins CG dx (putF "goods" (.int (g : Int)) [])) x = some (.ins CG dx [("goods", .int (g : Int))]) := upd_same
    have et1 := em1 (o := .ins CG dx (putF "goods" (.int (g : Int)) [])) et
    have tv1 := tv.kc (kc_ins (o := .ins CG dx (putF "goods" (.int (g : Int)) [])) ex)
    have sm1 : Same H0 (upd H x (.ins CG dx (putF "goods" (.int (g : Int)) []))) := fun b o e => by
      rw [upd_ne (ne_of_none e nx)]
      exact sm0 _ _ e
    generalize upd H x (.ins CG dx (putF "goods" (.int (g : Int)) [])) = H1 at ex1 et1 tv1 sm1 ⊢
    -- self.tops
    refine ⟨_, rfl, tt, _, rfl, SqT.of et1, fun t ht => ?_⟩
    refine lc_rowsW (w := g + ts.length) (walk_enumT (xs := vs)) (Gr.T0 g (mA ts)) (by omega) ht (by omega) (fun H' sm => same_tup sm (SqT.of et1)) ?_ ?_
    · rintro i y H2 H3 Qy hi sm ⟨T, x', y', rfl, hT, rfl, h1, h2⟩ hq
      cases h1
      have hi' : i < ts.length := by omega
      have ei : ts[i]? = some ts[i] := List.getElem?_eq_getElem hi'
      obtain ⟨p, u, v, ev, ep, eu, ew⟩ := tv1.get ei
      have h2 : vs[i]? = some y' := h2
      rw [ev] at h2
      cases h2
      have tok := ok.all ts[i] (List.getElem_mem hi')
      have eA : ts.getD i ([], []) = ts[i] := by
        rw [List.getD_eq_getElem?_getD, ei]
        rfl
      have s2 := sm.trans (same_upd (H := H2) (o := .tup [.int (i : Int), .ref p]) hT)
      refine ⟨T, _, rfl, .inl (.inl upd_same), rfl, _, _, rfl, _, _, rfl, rfl, rfl, ?_⟩
      have hq := fun H'' q s => hq H'' q ((same_upd (H := H2) (o := .tup [.int (i : Int), .ref p]) hT).trans s)
      generalize upd H2 T (.tup [.int (i : Int), .ref p]) = H4 at s2 hq ⊢
      refine ⟨_, rfl, p, u, v, ts[i], rfl, s2 _ _ ep, s2 _ _ eu, s2 _ _ ew, tok.1.len.trans tok.2.len.symm, by rw [tok.1.len]; omega, fun H5 r1 s5 f5 e5 => ?_⟩
      refine ⟨_, rfl, tt, _, rfl, .inr (SqT.of ((s2.trans s5) _ _ et1)), _, rfl, ?_⟩
      refine ⟨ts.length, i, by rw [lv]; rfl, by omega, fun H6 r2 s6 f6 e6 => ?_⟩
      refine ⟨r1, r2, _, _, rfl, rfl, s6 _ _ e5, e6, by rw [rowL_len, rowL_len, tok.1.len, sizeLine_eq]; omega, fun r hr' => ?_⟩
      refine hq _ r ((s5.trans s6).trans (same_upd hr')) ?_
      rw [upd_same, rowL_append, tok.1.len]
      congr 2
      refine rowL_congr fun k hk => ?_
      unfold Gr.T0 mA
      rw [eA]
    · intro H2 us s2 eT ru
      have ex2 := s2 _ _ ex1
      have nt : t ≠ x := fun z => by
        rw [z, ex1] at ht
        cases ht
      have t0 : H0 t = none := sm1.free ht
      refine ⟨_, rfl, x, CG, dx, _, rfl, ex2, GC.cl, GC.nt, (by show 1 < 1000; decide), ?_⟩
      have ex3 : upd H2 x (.ins CG dx (putF "tops" (.ref t) [("goods", .int (g : Int))])) x = some (.ins CG dx [("goods", .int (g : Int)), ("tops", .ref t)]) := upd_same
      have eT3 : upd H2 x (.ins CG dx (putF "tops" (.ref t) [("goods", .int (g : Int))])) t = some (.lst us) := by
        rw [upd_ne nt]
        exact eT
      have ru3 : Rows (upd H2 x (.ins CG dx (putF "tops" (.ref t) [("goods", .int (g : Int))]))) us vs.length (g + ts.length) (Gr.T0 g (mA ts)) := ru.ins ex2
      have sm3 : Same H0 (upd H2 x (.ins CG dx (putF "tops" (.ref t) [("goods", .int (g : Int))]))) := fun b o e => by
        rw [upd_ne (ne_of_none e nx)]
        exact s2 _ _ (sm1 _ _ e)
      generalize upd H2 x (.ins CG dx (putF "tops" (.ref t) [("goods", .int (g : Int))])) = H3 at ex3 eT3 ru3 sm3 ⊢
      -- self.lows
      refine ⟨_, rfl, (g : Int), rfl, by omega, by omega, fun l hl => ?_⟩
      rw [Int.toNat_natCast]
      refine lc_rowsW (w := g) (walk_range (lo := 0) (n := g)) Gr.V0 g1 hl (by omega) (fun _ _ => trivial) ?_ ?_
      · rintro i y H4 H5 Qy hi sm ⟨rfl, rfl⟩ hq
        dsimp only
        rw [Int.zero_add]
        refine ⟨rfl, _, rfl, _, rfl, g, i, rfl, by omega, fun H6 r s6 f6 e6 => hq H6 r s6 ?_⟩
        rw [e6]
        congr 2
        refine rowL_congr fun k _ => ?_
        unfold Gr.V0
        by_cases z : k = i
        · rw [if_pos z, if_pos z.symm]
        · rw [if_neg z, if_neg (Ne.symm z)]
      · intro H4 ws s4 eL rl
        have ex4 := s4 _ _ ex3
        have nl : l ≠ x := fun z => by
          rw [z, ex3] at hl
          cases hl
        have ntl : t ≠ l := fun z => by
          rw [← z, eT3] at hl
          cases hl
        refine ⟨_, rfl, x, CG, dx, _, rfl, ex4, GC.cl, GC.nl, (by show 2 < 1000; decide), ?_⟩
        refine q _ ⟨fun b o e => ?_, nx, ⟨t, l, us, ws, upd_same, ?_, ?_, t0, ntl, ?_, rl.ins ex4⟩, g1, g4, n4⟩
        · rw [upd_ne (ne_of_none e nx)]
          exact s4 _ _ (sm3 _ _ e)
        · rw [upd_ne nt]
          exact s4 _ _ eT3
        · rw [upd_ne nl]
          exact eL
        · rw [← lv]
          rw [← lv] at ru3
          exact (ru3.same s4).ins ex4

end
end Lb
set_option Elab.async false
set_option linter.all false
set_option maxRecDepth 100000
set_option maxHeartbeats 8000000
namespace Lb
open PySem PySem.Spec PyProof.Rows L2 RZ TL
section
variable {P : Program} {w : World} {K : PySem.W.Frag} {mg : Str → Option Value} {base : Heap}
theorem sc_Grid_weights : FnScope ["self", "column", "low"] ["self", "column"] (defScope s_Grid_weights) := ⟨rfl, rfl, rfl, by decide +kernel, rfl, by decide +kernel, by decide +kernel⟩
theorem own_gweights {CG : Addr} (D : DfM K CG "weights" "Grid.weights" s_Grid_weights) (B : Blt mg) (GC : GrdC K CG) : OwnM P w K mg base CG "weights" 1 ["self", "column"] (spWeights CG) := by
  refine ownM_of D sc_Grid_weights (fun _ _ _ _ _ _ us hl => match us, hl with | [_, _], _ => rfl) (fun vs H Q E h => ?_) (fun f cdv A outer s H vs Q E hr h => ?_)
  · obtain ⟨_, _, _, _, _, _, _, _, rfl, _⟩ := h
    rfl
  · obtain ⟨x, dx, H0, n, g, c, T, V, rfl, ga, hc, q⟩ := h
    refine ⟨_, (pss_one (ps_ret (pe_lc (own := [("low", 2)]) (g := gName 2) (tt := tYes) rfl sc_Grid_weights.nd (pi_list (pe_fld (pv 0) rfl)) (blkOk_by (own := [("low", 2)]) (N := ["self", "column", "low"]) (sc := defScope s_Grid_weights) (by decide +kernel)) (fun _ _ _ _ _ => (pg_name (i := 2) sc_Grid_weights.nd rfl (.inl rfl))) (fun _ _ _ _ _ => pts_nil) (fun _ _ _ _ _ => (pe_ix (show IxR _ (rIxL K) from ix_list) (pv 2) (pv 1) (fun _ _ => rfl)))))), ?_⟩
    obtain ⟨t, l, vs, us, ex, et, el, t0, ntl, rt, rl⟩ := ga.ex
    refine ⟨_, rfl, x, CG, dx, _, _, rfl, ex, GC.cl, GC.nl, rfl, l, rfl, ⟨_, SqL.of el⟩, fun D hD => ?_⟩
    refine lc_rowW (walk_list (xs := us)) (fun k => V k c) hD (by rw [rl.len]; have := ga.g4; omega) (fun H' sm => SqL.of (sm _ _ el)) ?_ (fun H' sm eD => by
      rw [rl.len] at eD
      exact q H' D sm hD eD)
    rintro i y H2 H3 Qy hi sm ⟨rfl, hy⟩ hq
    rw [rl.len] at hi
    obtain ⟨r, e1, e2⟩ := rl.row i hi
    rw [e1] at hy
    cases hy
    exact ⟨rfl, _, rfl, _, rfl, r, _, _, _, rfl, rfl, SqL.of (sm _ _ e2), rowL_at hc, hq _ (Same.refl _)⟩

end
end Lb
set_option Elab.async false
set_option linter.all false
set_option maxRecDepth 100000
set_option maxHeartbeats 8000000
namespace Lb
open PySem PySem.Spec PyProof.Rows L2 RZ TL
section
variable {P : Program} {w : World} {K : PySem.W.Frag} {mg : Str → Option Value} {base : Heap}
theorem sc_Grid_modulus : FnScope ["self", "column"] ["self", "column"] (defScope s_Grid_modulus) := ⟨rfl, rfl, rfl, by decide +kernel, rfl, by decide +kernel, by decide +kernel⟩
theorem own_gmod {CG : Addr} (D : DfM K CG "modulus" "Grid.modulus" s_Grid_modulus) (B : Blt mg) (hab : mg "abs" = none) (GC : GrdC K CG) : OwnM P w K mg base CG "modulus" 1 ["self", "column"] (spModulus CG) := by
  refine ownM_of D sc_Grid_modulus (fun _ _ _ _ _ _ us hl => match us, hl with | [_, _], _ => rfl) (fun vs H Q E h => ?_) (fun f cdv A outer s H vs Q E hr h => ?_)
  · obtain ⟨_, _, _, _, _, _, _, _, rfl, _⟩ := h
    rfl
  · obtain ⟨x, dx, H0, n, g, c, T, V, rfl, ga, hc, q⟩ := h
    refine ⟨_, (pss_one (ps_ret (pe_ifExp (pt_cmpR op_lt (pv 1) (pe_callB (id := "len") call_len_seq (by rfl) B.b_len PySem.boot_len (pa_cons (pe_fld (pv 0) rfl) pa_nil)) (nomark _)) (pe_callB (id := "abs") call_abs (by rfl) hab (by decide +kernel) (pa_cons (pe_ix ix_list (pe_ix ix_list (pe_fld (pv 0) rfl) (pv 1) (fun _ _ => rfl)) (pv 1) (fun _ _ => rfl)) pa_nil)) pe_int))), ?_⟩
    obtain ⟨t, l, vs, us, ex, et, el, t0, ntl, rt, rl⟩ := ga.ex
    refine ⟨_, rfl, _, rfl, x, CG, dx, _, _, rfl, ex, GC.cl, GC.nt, rfl, t, _, rfl, .inl (SqL.of et), _, _, rfl, rfl, _, rfl, ?_⟩
    rw [rt.len]
    by_cases hcn : c < n
    · obtain ⟨r, e1, e2⟩ := rt.at hcn
      have hq : Gr.dg n T c = (T c c).natAbs := if_pos hcn
      rw [decide_eq_true (show ((c : Nat) : Int) < ((n : Nat) : Int) by omega)]
      refine iteT ⟨_, rfl, x, CG, dx, _, _, rfl, ex, GC.cl, GC.nt, rfl, _, rfl, t, _, _, _, rfl, rfl, SqL.of et, e1, _, rfl, r, _, _, _, rfl, rfl, SqL.of e2, rowL_at (by omega), _, rfl, ?_⟩
      have e3 : (if T c c < 0 then -T c c else T c c) = ((Gr.dg n T c : Nat) : Int) := by
        rw [hq]
        split <;> omega
      rw [e3]
      exact q
    · have hq : Gr.dg n T c = 0 := if_neg hcn
      rw [decide_eq_false (show ¬ ((c : Nat) : Int) < ((n : Nat) : Int) by omega)]
      rw [hq] at q
      exact iteF q

end
end Lb
set_option Elab.async false
set_option linter.all false
set_option maxRecDepth 100000
set_option maxHeartbeats 8000000
namespace Lb
open PySem PySem.Spec PyProof.Rows L2 RZ TL
section
variable {P : Program} {w : World} {K : PySem.W.Frag} {mg : Str → Option Value} {base : Heap}
theorem sc_Grid_bring : FnScope ["self", "at", "row", "column", "top", "low"] ["self", "at", "row", "column"] (defScope s_Grid_bring) := ⟨rfl, rfl, rfl, by decide +kernel, rfl, by decide +kernel, by decide +kernel⟩
theorem own_gbring {CG : Addr} (D : DfM K CG "bring" "Grid.bring" s_Grid_bring) (B : Blt mg) (GC : GrdC K CG) (O_swapped : Own P w K mg base "swapped" 1 ["row", "one", "other"] spSwapped) : OwnM P w K mg base CG "bring" 2 ["self", "at", "row", "column"] (spBring CG) := by
  refine ownM_of D sc_Grid_bring (fun _ _ _ _ _ _ us hl => match us, hl with | [_, _, _, _], _ => rfl) (fun vs H Q E h => ?_) (fun f cdv A outer s H vs Q E hr h => ?_)
  · obtain ⟨_, _, _, _, _, _, _, _, _, _, rfl, _⟩ := h
    rfl
  · obtain ⟨x, dx, H0, n, g, a, r, c, T, V, rfl, ga, han, hrn, hag, hcg, q⟩ := h
    refine ⟨_, (pss_cons (ps_asg (pe_tup (pa_cons (pe_ix ix_list (pe_fld (pv 0) rfl) (pv 2) (fun _ _ => rfl)) (pa_cons (pe_ix ix_list (pe_fld (pv 0) rfl) (pv 1) (fun _ _ => rfl)) pa_nil))) (pg_tup rfl (pgs_cons (pg_sub (pe_fld (pv 0) rfl) (pv 1) set_list) (pgs_cons (pg_sub (pe_fld (pv 0) rfl) (pv 2) set_list) pgs_nil))))
      (pss_cons (ps_fld (pv 0) (pe_lc (own := [("top", 4)]) (g := gName 4) (tt := tYes) rfl sc_Grid_bring.nd (pi_list (pe_fld (pv 0) rfl)) (blkOk_by (own := [("top", 4)]) (N := ["self", "at", "row", "column", "top", "low"]) (sc := defScope s_Grid_bring) (by decide +kernel)) (fun _ _ _ _ _ => (pg_name (i := 4) sc_Grid_bring.nd rfl (.inl rfl))) (fun _ _ _ _ _ => pts_nil) (fun _ _ _ _ _ => (pe_own O_swapped (hr.mono (by omega)) (by rfl) (pa_cons (pv 4) (pa_cons (pv 1) (pa_cons (pv 3) pa_nil)))))) rfl)
      (pss_one (ps_fld (pv 0) (pe_lc (own := [("low", 5)]) (g := gName 5) (tt := tYes) rfl sc_Grid_bring.nd (pi_list (pe_fld (pv 0) rfl)) (blkOk_by (own := [("low", 5)]) (N := ["self", "at", "row", "column", "top", "low"]) (sc := defScope s_Grid_bring) (by decide +kernel)) (fun _ _ _ _ _ => (pg_name (i := 5) sc_Grid_bring.nd rfl (.inl rfl))) (fun _ _ _ _ _ => pts_nil) (fun _ _ _ _ _ => (pe_own O_swapped (hr.mono (by omega)) (by rfl) (pa_cons (pv 5) (pa_cons (pv 1) (pa_cons (pv 3) pa_nil)))))) rfl)))), ?_⟩
    obtain ⟨t, l, vs, us, ex, et, el, t0, ntl, rt, rl⟩ := ga.ex
    have g1 := ga.g1
    have g4 := ga.g4
    have n4 := ga.n4
    obtain ⟨r1, a1, b1⟩ := rt.at hrn
    obtain ⟨r2, a2, b2⟩ := rt.at han
    refine ⟨_, rfl, x, CG, dx, _, _, rfl, ex, GC.cl, GC.nt, rfl, _, rfl, t, _, _, _, rfl, rfl, SqL.of et, a1, ?_⟩
    refine ⟨_, rfl, x, CG, dx, _, _, rfl, ex, GC.cl, GC.nt, rfl, _, rfl, t, _, _, _, rfl, rfl, SqL.of et, a2, Nat.le_of_lt (small1000 (show 2 ≤ 1000 by decide)), fun p hp => ?_⟩
    have s1 := same_upd (o := .tup [.ref r1, .ref r2]) hp
    have ep : upd H p (.tup [.ref r1, .ref r2]) p = some (.tup [.ref r1, .ref r2]) := upd_same
    generalize upd H p (.tup [.ref r1, .ref r2]) = H1 at s1 ep ⊢
    have xt : x ≠ t := fun z => by
      rw [z, et] at ex
      cases ex
    have e1x : upd H1 t (.lst (vs.set a (.ref r1))) x = some (.ins CG dx (grF g t l)) := by
      rw [upd_ne xt]
      exact s1 _ _ ex
    refine ⟨p, _, rfl, .inl (.inl ep), rfl, _, _, rfl, _, rfl, x, CG, dx, _, _, rfl, s1 _ _ ex, GC.cl, GC.nt, rfl, _, rfl, t, _, _, a, rfl, rfl, s1 _ _ et, by rw [rt.len]; exact ixN_nat han, ?_⟩
    refine ⟨_, _, rfl, _, rfl, x, CG, dx, _, _, rfl, e1x, GC.cl, GC.nt, rfl, _, rfl, t, _, _, r, rfl, rfl, upd_same, by rw [List.length_set, rt.len]; exact ixN_nat hrn, rfl, ?_⟩
    rw [upd_upd]
    have w1 : 1 ≤ g + n := by omega
    have rt3 : Rows (upd H1 t (.lst ((vs.set a (.ref r1)).set r (.ref r2)))) vs n (g + n) T := (rt.same s1).upd w1 (s1 _ _ et) rt.refs
    have rl3 : Rows (upd H1 t (.lst ((vs.set a (.ref r1)).set r (.ref r2)))) us g g V := (rl.same s1).upd g1 (s1 _ _ et) rt.refs
    have ex3 : upd H1 t (.lst ((vs.set a (.ref r1)).set r (.ref r2))) x = some (.ins CG dx (grF g t l)) := by
      rw [upd_ne xt]
      exact s1 _ _ ex
    have el3 : upd H1 t (.lst ((vs.set a (.ref r1)).set r (.ref r2))) l = some (.lst us) := by
      rw [upd_ne (Ne.symm ntl)]
      exact s1 _ _ el
    have et3 : upd H1 t (.lst ((vs.set a (.ref r1)).set r (.ref r2))) t = some (.lst ((vs.set a (.ref r1)).set r (.ref r2))) := upd_same
    have sm3 : Same H0 (upd H1 t (.lst ((vs.set a (.ref r1)).set r (.ref r2)))) := fun b o e => by
      rw [upd_ne (ne_of_none e t0)]
      exact s1 _ _ (ga.same _ _ e)
    have c1 : upd H1 t (.lst ((vs.set a (.ref r1)).set r (.ref r2))) r1 = some (.lst (rowL (g + n) (T r))) := by
      rw [upd_ne (row_ne (n := n) (T := T) w1 (s1 _ _ b1) (s1 _ _ et) rt.refs)]
      exact s1 _ _ b1
    have c2 : upd H1 t (.lst ((vs.set a (.ref r1)).set r (.ref r2))) r2 = some (.lst (rowL (g + n) (T a))) := by
      rw [upd_ne (row_ne (n := n) (T := T) w1 (s1 _ _ b2) (s1 _ _ et) rt.refs)]
      exact s1 _ _ b2
    have rt4 := ((rt3.set (k := a) c1).set (k := r) c2).congr (U := fun i => T (Gr.swp a r i)) fun i j _ _ => by
      unfold Gr.swp
      by_cases z1 : i = r
      · rw [if_pos z1]
        by_cases z2 : i = a
        · rw [if_pos z2, ← z1, z2]
        · rw [if_neg z2, if_pos z1]
      · rw [if_neg z1]
        by_cases z2 : i = a
        · rw [if_pos z2, if_pos z2]
        · rw [if_neg z2, if_neg z2, if_neg z1]
    clear rt3 c1 c2
    generalize upd H1 t (.lst ((vs.set a (.ref r1)).set r (.ref r2))) = H3 at rt4 rl3 ex3 el3 et3 sm3 ⊢
    generalize (vs.set a (.ref r1)).set r (.ref r2) = ws at rt4 et3
    -- self.tops
    refine ⟨_, rfl, x, CG, dx, _, _, rfl, ex3, GC.cl, GC.nt, rfl, t, rfl, ⟨_, SqL.of et3⟩, fun D hD => ?_⟩
    refine lc_rowsW (w := g + n) (walk_list (xs := ws)) (Gr.brT a r c T) w1 hD (by rw [rt4.len]; omega) (fun H' sm => SqL.of (sm _ _ et3)) ?_ ?_
    · rintro i y H2 H4 Qy hi sm ⟨rfl, hy⟩ hq
      rw [rt4.len] at hi
      obtain ⟨q1, e1, e2⟩ := rt4.row i hi
      rw [e1] at hy
      cases hy
      exact ⟨rfl, _, rfl, _, rfl, _, rfl, q1, g + n, a, c, _, rfl, sm _ _ e2, by omega, by omega, by omega, fun H6 p s6 f6 e6 => hq H6 p s6 e6⟩
    · intro H4 us' s4 eD ru
      rw [rt4.len] at ru
      have ex4 := s4 _ _ ex3
      refine ⟨_, rfl, x, CG, dx, _, rfl, ex4, GC.cl, GC.nt, (by show 3 < 1000; decide), ?_⟩
      have nD : D ≠ x := fun z => by
        rw [z, ex3] at hD
        cases hD
      have nDl : D ≠ l := fun z => by
        rw [z, el3] at hD
        cases hD
      have nl : l ≠ x := fun z => by
        rw [z, ex3] at el3
        cases el3
      have ex5 : upd H4 x (.ins CG dx (putF "tops" (.ref D) (grF g t l))) x = some (.ins CG dx (grF g D l)) := upd_same
      have eD5 : upd H4 x (.ins CG dx (putF "tops" (.ref D) (grF g t l))) D = some (.lst us') := by
        rw [upd_ne nD]
        exact eD
      have el5 : upd H4 x (.ins CG dx (putF "tops" (.ref D) (grF g t l))) l = some (.lst us) := by
        rw [upd_ne nl]
        exact s4 _ _ el3
      have rt5 : Rows (upd H4 x (.ins CG dx (putF "tops" (.ref D) (grF g t l)))) us' n (g + n) (Gr.brT a r c T) := ru.ins ex4
      have rl5 : Rows (upd H4 x (.ins CG dx (putF "tops" (.ref D) (grF g t l)))) us g g V := (rl3.same s4).ins ex4
      have sm5 : Same H0 (upd H4 x (.ins CG dx (putF "tops" (.ref D) (grF g t l)))) := fun b o e => by
        rw [upd_ne (ne_of_none e ga.na)]
        exact s4 _ _ (sm3 _ _ e)
      have D0 : H0 D = none := sm3.free hD
      generalize upd H4 x (.ins CG dx (putF "tops" (.ref D) (grF g t l))) = H5 at ex5 eD5 el5 rt5 rl5 sm5 ⊢
      -- self.lows
      refine ⟨_, rfl, x, CG, dx, _, _, rfl, ex5, GC.cl, GC.nl, rfl, l, rfl, ⟨_, SqL.of el5⟩, fun L hL => ?_⟩
      refine lc_rowsW (w := g) (walk_list (xs := us)) (Gr.brV a c V) g1 hL (by rw [rl5.len]; omega) (fun H' sm => SqL.of (sm _ _ el5)) ?_ ?_
      · rintro i y H2 H4 Qy hi sm ⟨rfl, hy⟩ hq
        rw [rl5.len] at hi
        obtain ⟨q1, e1, e2⟩ := rl5.row i hi
        rw [e1] at hy
        cases hy
        exact ⟨rfl, _, rfl, _, rfl, _, rfl, q1, g, a, c, _, rfl, sm _ _ e2, by omega, by omega, by omega, fun H6 p s6 f6 e6 => hq H6 p s6 e6⟩
      · intro H6 vs' s6 eL rv
        rw [rl5.len] at rv
        have ex6 := s6 _ _ ex5
        have nL : L ≠ x := fun z => by
          rw [z, ex5] at hL
          cases hL
        have nLD : D ≠ L := fun z => by
          rw [← z, eD5] at hL
          cases hL
        refine ⟨_, rfl, x, CG, dx, _, rfl, ex6, GC.cl, GC.nl, (by show 3 < 1000; decide), ?_⟩
        refine q _ ⟨fun b o e => ?_, ga.na, ⟨D, L, us', vs', upd_same, ?_, ?_, D0, nLD, (rt5.same s6).ins ex6, rv.ins ex6⟩, g1, g4, n4⟩
        · rw [upd_ne (ne_of_none e ga.na)]
          exact s6 _ _ (sm5 _ _ e)
        · rw [upd_ne nD]
          exact s6 _ _ eD5
        · rw [upd_ne nL]
          exact eL

end
end Lb
set_option Elab.async false
set_option linter.all false
set_option maxRecDepth 100000
set_option maxHeartbeats 8000000
namespace Lb
open PySem PySem.Spec PyProof.Rows L2 RZ TL
section
variable {P : Program} {w : World} {K : PySem.W.Frag} {mg : Str → Option Value} {base : Heap}
theorem GrAt.congr {C : Addr} {H0 H : Hp} {a dx : Addr} {n g : Nat} {T V U W : Gr.F2} (h : GrAt C H0 H a dx n g T V) (e : ∀ i j, i < n → j < g + n → T i j = U i j) (f : ∀ i j, i < g → j < g → V i j = W i j) : GrAt C H0 H a dx n g U W := by
  obtain ⟨t, l, vs, us, e1, e2, e3, e4, e5, e6, e7⟩ := h.ex
  exact ⟨h.same, h.na, ⟨t, l, vs, us, e1, e2, e3, e4, e5, e6.congr e, e7.congr f⟩, h.g1, h.g4, h.n4⟩
theorem log_of {m k : Nat} (h : m ≤ 2 ^ k) : m.log2 ≤ k := by
  rcases Nat.eq_zero_or_pos m with rfl | q
  · rw [show (0 : Nat).log2 = 0 by decide]
    exact Nat.zero_le _
  · have : m.log2 < k + 1 := (Nat.log2_lt (by omega)).mpr (Nat.lt_of_le_of_lt h (by rw [Nat.pow_succ]; have := Nat.two_pow_pos k; omega))
    omega
/-- the rows when k of them are done -/
def rwK (a k : Nat) (T : Gr.F2) : Gr.F2 := fun i j => if i < a + 1 + k then Gr.rwT a T i j else T i j
theorem sc_Grid_reduce_rows : FnScope ["self", "at", "first", "i", "times", "many", "less"] ["self", "at"] (defScope s_Grid_reduce_rows) := ⟨rfl, rfl, rfl, by decide +kernel, rfl, by decide +kernel, by decide +kernel⟩
theorem own_gredr {CG : Addr} (D : DfM K CG "reduce_rows" "Grid.reduce_rows" s_Grid_reduce_rows) (B : Blt mg) (GC : GrdC K CG) : OwnM P w K mg base CG "reduce_rows" 1 ["self", "at"] (spRedR CG) := by
  refine ownM_of D sc_Grid_reduce_rows (fun _ _ _ _ _ _ us hl => match us, hl with | [_, _], _ => rfl) (fun vs H Q E h => ?_) (fun f cdv A outer s H vs Q E hr h => ?_)
  · obtain ⟨_, _, _, _, _, _, _, _, rfl, _⟩ := h
    rfl
  · obtain ⟨x, dx, H0, n, g, a, T, V, rfl, ga, han, hag, nz, bd, q⟩ := h
    refine ⟨_, (pss_cons (ps_set (i := 2) sc_Grid_reduce_rows.nd rfl (.inl rfl) (pe_ix ix_list (pe_fld (pv 0) rfl) (pv 1) (fun _ _ => rfl)))
      (pss_one (ps_for (passes_of rfl) rfl (pi_range2 (by rfl) B.b_range (pa_cons (pe_op op_add (pv 1) pe_int) (pa_cons (pe_callB (id := "len") call_len_seq (by rfl) B.b_len PySem.boot_len (pa_cons (pe_fld (pv 0) rfl) pa_nil)) pa_nil))) (pg_name (i := 3) sc_Grid_reduce_rows.nd rfl (.inl rfl))
        (pss_cons (ps_set (i := 4) sc_Grid_reduce_rows.nd rfl (.inr rfl) (pe_op op_fdivZ (pe_ix ix_list (pe_ix ix_list (pe_fld (pv 0) rfl) (pv 3) (fun _ _ => rfl)) (pv 1) (fun _ _ => rfl)) (pe_ix ix_list (pv 2) (pv 1) (fun _ _ => rfl))))
      (pss_one (ps_asg (pe_lc (own := [("many", 5), ("less", 6)]) (g := gTup _ 2 (gCons (gName 5) (gCons (gName 6) gNil))) (tt := tYes) rfl sc_Grid_reduce_rows.nd (pi_zipA (by rfl) B.b_zip (pa_cons (pe_ix ix_list (pe_fld (pv 0) rfl) (pv 3) (fun _ _ => rfl)) (pa_cons (pv 2) pa_nil))) (blkOk_by (own := [("many", 5), ("less", 6)]) (N := ["self", "at", "first", "i", "times", "many", "less"]) (sc := defScope s_Grid_reduce_rows) (by decide +kernel)) (fun _ _ _ _ _ => (pg_tup rfl (pgs_cons (pg_name (i := 5) sc_Grid_reduce_rows.nd rfl (.inl rfl)) (pgs_cons (pg_name (i := 6) sc_Grid_reduce_rows.nd rfl (.inl rfl)) pgs_nil)))) (fun _ _ _ _ _ => pts_nil) (fun _ _ _ _ _ => (pe_op op_sub (pv 5) (pe_op op_mulW (pv 4) (pv 6))))) (pg_sub (pe_fld (pv 0) rfl) (pv 3) set_list))))))), ?_⟩
    obtain ⟨t, l, vs, us, ex, et, el, t0, ntl, rt, rl⟩ := ga.ex
    have g1 := ga.g1
    have g4 := ga.g4
    have n4 := ga.n4
    have w1 : 1 ≤ g + n := by omega
    obtain ⟨r0, a0, b0⟩ := rt.at han
    refine ⟨_, rfl, x, CG, dx, _, _, rfl, ex, GC.cl, GC.nt, rfl, _, rfl, t, _, _, _, rfl, rfl, SqL.of et, a0, ?_⟩
    refine ⟨_, rfl, _, _, rfl, rfl, _, rfl, x, CG, dx, _, _, rfl, ex, GC.cl, GC.nt, rfl, t, _, rfl, .inl (SqL.of et), (a : Int) + 1, _, rfl, ⟨by omega, by omega, by omega, by rw [rt.len]; omega⟩, ?_⟩
    rw [rt.len, show ((n : Int) - ((a : Int) + 1)).toNat = n - (a + 1) by omega]
    clear a0 ex et el t0 ntl rl
    have rtlen := rt.len
    clear rt
    refine for_it (walk_range (lo := (a : Int) + 1) (n := n - (a + 1))) (fun k σ H' => ∃ u v, σ = [some (.ref x), some (.int (a : Int)), some (.ref r0), u, v, none, none] ∧ GrAt CG H0 H' x dx n g (rwK a k T) V ∧ H' r0 = some (.lst (rowL (g + n) (T a))))
      ⟨_, _, rfl, ga.congr (fun i j _ _ => by
        unfold rwK
        split
        · rw [Gr.rwT_le (by omega)]
        · rfl) (fun _ _ _ _ => rfl), b0⟩ (fun _ _ _ _ _ => trivial) ?_ ?_
    · rintro k y σ H2 H3 hk ⟨u, v, rfl, gk, e0⟩ ⟨rfl, rfl⟩
      dsimp only
      rw [show (a : Int) + 1 + ((k : Nat) : Int) = ((a + 1 + k : Nat) : Int) by omega]
      obtain ⟨t, l, vs, us, ex, et, el, t0, ntl, rt, rl⟩ := gk.ex
      have hi : a + 1 + k < n := by omega
      obtain ⟨ri, ai, bi⟩ := rt.at hi
      have ebi : rowL (g + n) (rwK a k T (a + 1 + k)) = rowL (g + n) (T (a + 1 + k)) := rowL_congr fun j _ => if_neg (by omega)
      rw [ebi] at bi
      have hnz : (T a a).natAbs.log2 ≤ 400 := log_of (bd a a han (by omega))
      have hq1 : ((T (a + 1 + k) a).fdiv (T a a)).natAbs.log2 ≤ 400 := log_of (Nat.le_trans (Gr.fdiv_natAbs _ nz) (bd _ a hi (by omega)))
      refine ⟨_, rfl, x, CG, dx, _, _, rfl, ex, GC.cl, GC.nt, rfl, _, rfl, t, _, _, _, rfl, rfl, SqL.of et, ai, _, rfl, ri, _, _, _, rfl, rfl, SqL.of bi, rowL_at (by omega), _, rfl, _, rfl, r0, _, _, _, rfl, rfl, SqL.of e0, rowL_at (by omega), _, _, rfl, rfl, ⟨nz, by omega⟩, ?_⟩
      refine ⟨_, rfl, x, CG, dx, _, _, rfl, ex, GC.cl, GC.nt, rfl, _, rfl, t, _, _, _, rfl, rfl, SqL.of et, ai, _, rfl, ri, r0, _, _, rfl, .inl ⟨SqL.of bi, SqL.of e0, fun D hD => ?_⟩⟩
      refine lc_rowW (walk_zip (xs := rowL (g + n) (T (a + 1 + k))) (ys := rowL (g + n) (T a)) (n := g + n) (by rw [rowL_len, rowL_len]; omega)) (Gr.rwT a T (a + 1 + k)) hD (by omega) (fun H' sm => ⟨SqL.of (sm _ _ bi), SqL.of (sm _ _ e0)⟩) ?_ ?_
      · rintro j y H4 H5 Qy hj sm ⟨T', x', y', rfl, hT, rfl, h1, h2⟩ hq
        obtain ⟨_, rfl⟩ := int_row h1
        obtain ⟨_, rfl⟩ := int_row h2
        have hq := hq _ (same_upd (H := H4) (o := .tup [.int (T (a + 1 + k) j), .int (T a j)]) hT)
        rw [Gr.rwT_gt (by omega)] at hq
        have hy : (T a j).natAbs.log2 ≤ 400 := log_of (bd a j han hj)
        exact ⟨T', _, rfl, .inl (.inl upd_same), rfl, _, _, rfl, _, _, rfl, rfl, rfl, _, rfl, _, rfl, _, rfl, _, _, rfl, rfl, (show _ + _ < 1000000 by omega), _, _, rfl, rfl, hq⟩
      · intro H4 sm eD
        refine ⟨_, rfl, x, CG, dx, _, _, rfl, sm _ _ ex, GC.cl, GC.nt, rfl, _, rfl, t, _, _, a + 1 + k, rfl, rfl, sm _ _ et, by rw [rt.len]; exact ixN_nat hi, ?_⟩
        have xt : x ≠ t := fun z => by
          rw [z, et] at ex
          cases ex
        have nDt : D ≠ t := fun z => by
          rw [z, et] at hD
          cases hD
        have rt4 := (rt.same sm).upd (ws := vs.set (a + 1 + k) (.ref D)) w1 (sm _ _ et) rt.refs
        have eD4 : upd H4 t (.lst (vs.set (a + 1 + k) (.ref D))) D = some (.lst (rowL (g + n) (Gr.rwT a T (a + 1 + k)))) := by
          rw [upd_ne nDt]
          exact eD
        refine ⟨_, _, rfl, ⟨fun b o e => ?_, gk.na, ⟨t, l, _, us, ?_, upd_same, ?_, t0, ntl, (rt4.set (k := a + 1 + k) eD4).congr fun i j hi hj => ?_, (rl.same sm).upd g1 (sm _ _ et) rt.refs⟩, g1, g4, n4⟩, ?_⟩
        · rw [upd_ne (ne_of_none e t0)]
          exact sm _ _ (gk.same _ _ e)
        · rw [upd_ne xt]
          exact sm _ _ ex
        · rw [upd_ne (Ne.symm ntl)]
          exact sm _ _ el
        · unfold rwK
          by_cases z : i = a + 1 + k
          · subst z
            rw [if_pos rfl, if_pos (by omega)]
          · rw [if_neg z]
            by_cases z2 : i < a + 1 + k
            · rw [if_pos z2, if_pos (by omega)]
            · rw [if_neg z2, if_neg (by omega)]
        · rw [upd_ne (row_ne (n := n) (T := T) w1 (sm _ _ e0) (sm _ _ et) rt.refs)]
          exact sm _ _ e0
    · rintro σ H' ⟨u, v, rfl, gk, _⟩
      exact q H' (gk.congr (fun i j hi _ => if_pos (by omega)) fun _ _ _ _ => rfl)

end
end Lb
set_option Elab.async false
set_option linter.all false
set_option maxRecDepth 100000
set_option maxHeartbeats 8000000
namespace Lb
open PySem PySem.Spec PyProof.Rows L2 RZ TL
section
variable {P : Program} {w : World} {K : PySem.W.Frag} {mg : Str → Option Value} {base : Heap}
theorem sc_Grid_is_clear : FnScope ["self", "at", "down", "top", "many"] ["self", "at"] (defScope s_Grid_is_clear) := ⟨rfl, rfl, rfl, by decide +kernel, rfl, by decide +kernel, by decide +kernel⟩
theorem own_gclear {CG : Addr} (D : DfM K CG "is_clear" "Grid.is_clear" s_Grid_is_clear) (B : Blt mg) (GC : GrdC K CG) : OwnM P w K mg base CG "is_clear" 1 ["self", "at"] (spClear CG) := by
  refine ownM_of D sc_Grid_is_clear (fun _ _ _ _ _ _ us hl => match us, hl with | [_, _], _ => rfl) (fun vs H Q E h => ?_) (fun f cdv A outer s H vs Q E hr h => ?_)
  · obtain ⟨_, _, _, _, _, _, _, _, rfl, _⟩ := h
    rfl
  · obtain ⟨x, dx, H0, n, g, a, T, V, rfl, ga, han, hag, q⟩ := h
    refine ⟨_, (pss_cons (ps_setLc (i := 2) (own := [("top", 3)]) (g := gName 3) (tt := tYes) rfl sc_Grid_is_clear.nd rfl rfl (sw_true rfl rfl rfl (by decide +kernel)) (pi_list (pe_slice sl_list (pe_fld (pv 0) rfl) (po_some (pe_op op_add (pv 1) pe_int)) po_none)) (blkOk_by (own := [("top", 3)]) (N := ["self", "at", "down", "top", "many"]) (sc := defScope s_Grid_is_clear) (by decide +kernel)) (fun _ _ _ _ _ => (pg_name (i := 3) sc_Grid_is_clear.nd rfl (.inl rfl))) (fun _ _ _ _ _ => pts_nil) (fun _ _ _ _ _ => (pe_ix (show IxR _ (rIxL K) from ix_list) (pv 3) (pv 1) (fun _ _ => rfl))))
      (pss_one (ps_ret (pe_not (pe_callB (id := "any") (cr_any rfl) (by rfl) B.b_any (by decide +kernel) (pa_cons (pe_lc (own := [("many", 4)]) (g := gName 4) (tt := tYes) rfl sc_Grid_is_clear.nd (pi_list (pe_op op_cat (pv 2) (pe_slice sl_list (pe_ix ix_list (pe_fld (pv 0) rfl) (pv 1) (fun _ _ => rfl)) (po_some (pe_op op_add (pv 1) pe_int)) (po_some (pe_fld (pv 0) rfl))))) (blkOk_by (own := [("many", 4)]) (N := ["self", "at", "down", "top", "many"]) (sc := defScope s_Grid_is_clear) (by decide +kernel)) (fun _ _ _ _ _ => (pg_name (i := 4) sc_Grid_is_clear.nd rfl (.inl rfl))) (fun _ _ _ _ _ => pts_nil) (fun _ _ _ _ _ => (pe_cmpR op_ne (pv 4) pe_int (nomark _)))) pa_nil)))))), ?_⟩
    obtain ⟨t, l, vs, us, ex, et, el, t0, ntl, rt, rl⟩ := ga.ex
    have g1 := ga.g1
    have g4 := ga.g4
    have n4 := ga.n4
    -- down
    refine ⟨_, rfl, x, CG, dx, _, _, rfl, ex, GC.cl, GC.nt, rfl, _, rfl, _, _, rfl, rfl, _, rfl, t, _, rfl, SqL.of et, fun p hp => ?_⟩
    rw [show (a : Int) + 1 = ((a + 1 : Nat) : Int) by omega, cut_fromN (by rw [rt.len]; omega)]
    have s1 := same_upd (o := .lst (vs.drop (a + 1))) hp
    have ep : upd H p (.lst (vs.drop (a + 1))) p = some (.lst (vs.drop (a + 1))) := upd_same
    generalize upd H p (.lst (vs.drop (a + 1))) = H1 at s1 ep ⊢
    have rd := (rt.same s1).drop (s := a + 1)
    refine ⟨p, rfl, ⟨_, SqL.of ep⟩, fun D hD => ?_⟩
    refine lc_rowW (walk_list (xs := vs.drop (a + 1))) (fun k => T (a + 1 + k) a) hD (by rw [rd.len]; omega) (fun H' sm => SqL.of (sm _ _ ep)) ?_ ?_
    · rintro i y H4 H5 Qy hi sm ⟨rfl, hy⟩ hq
      rw [rd.len] at hi
      obtain ⟨p1, c1, c2⟩ := rd.row i hi
      rw [c1] at hy
      cases hy
      exact ⟨rfl, _, rfl, _, rfl, p1, _, _, _, rfl, rfl, SqL.of (sm _ _ c2), rowL_at (by omega), hq _ (Same.refl _)⟩
    intro H2 s2 eD
    rw [rd.len] at eD
    have s02 := s1.trans s2
    obtain ⟨ra, a1, b1⟩ := rt.at han
    -- down + self.tops[at][at + 1:self.goods]
    refine ⟨_, rfl, _, rfl, x, CG, dx, _, _, rfl, s02 _ _ ex, GC.cl, GC.nt, rfl, _, rfl, t, _, _, _, rfl, rfl, SqL.of (s02 _ _ et), a1, _, rfl, _, _, rfl, rfl, _, rfl, _, rfl, x, CG, dx, _, _, rfl, s02 _ _ ex, GC.cl, GC.ng, rfl, _, rfl, ra, _, rfl, SqL.of (s02 _ _ b1), fun p3 h3 => ?_⟩
    rw [show (a : Int) + 1 = ((a + 1 : Nat) : Int) by omega, cut_row (by omega) (by omega)]
    have s3 := same_upd (o := .lst (rowL (g - (a + 1)) fun k => T a (a + 1 + k))) h3
    have e3 : upd H2 p3 (.lst (rowL (g - (a + 1)) fun k => T a (a + 1 + k))) p3 = some (.lst (rowL (g - (a + 1)) fun k => T a (a + 1 + k))) := upd_same
    generalize upd H2 p3 (.lst (rowL (g - (a + 1)) fun k => T a (a + 1 + k))) = H3 at s3 e3 ⊢
    refine ⟨D, p3, _, _, rfl, rfl, s3 _ _ eD, e3, by rw [rowL_len, rowL_len, sizeLine_eq]; omega, fun p4 h4 => ?_⟩
    rw [rowL_of_fn (a + 1) (n - (a + 1)) fun i => T i a, rowL_of_fn (a + 1) (g - (a + 1)) fun j => T a j, ← List.map_append]
    have ec : Gr.clr n g a T = !((List.range' (a + 1) (n - (a + 1))).map (fun i => T i a) ++ (List.range' (a + 1) (g - (a + 1))).map fun j => T a j).any fun x => x != 0 := rfl
    have hl : ((List.range' (a + 1) (n - (a + 1))).map (fun i => T i a) ++ (List.range' (a + 1) (g - (a + 1))).map fun j => T a j).length ≤ 100 := by
      rw [List.length_append, List.length_map, List.length_map, List.length_range', List.length_range']
      omega
    rw [ec] at q
    generalize (List.range' (a + 1) (n - (a + 1))).map (fun i => T i a) ++ (List.range' (a + 1) (g - (a + 1))).map (fun j => T a j) = xs at q hl ⊢
    have s4 := same_upd (o := .lst (xs.map L2.V.int)) h4
    have e4 : upd H3 p4 (.lst (xs.map L2.V.int)) p4 = some (.lst (xs.map L2.V.int)) := upd_same
    generalize upd H3 p4 (.lst (xs.map L2.V.int)) = H4 at s4 e4 ⊢
    refine ⟨p4, rfl, ⟨_, SqL.of e4⟩, fun L hL => ?_⟩
    refine lc_valsW (walk_list (xs := xs.map L2.V.int)) (fun k => L2.V.bl (decide (¬ xs.getD k 0 = 0))) hL (by rw [List.length_map]; omega) (fun H' sm => SqL.of (sm _ _ e4)) ?_ ?_
    · rintro i y H5 H6 Qy hi sm ⟨rfl, hy⟩ hq
      obtain ⟨z, rfl, hz⟩ := int_at hy
      have ez : xs.getD i 0 = z := by
        rw [List.getD_eq_getElem?_getD, hz]
        rfl
      have hq := hq _ (Same.refl _)
      rw [ez] at hq
      refine ⟨rfl, _, rfl, rfl, ?_⟩
      have e5 : (!decide (L2.V.int z = L2.V.int 0)) = decide (¬ z = 0) := by
        by_cases y : z = 0
        · subst y
          rfl
        · rw [decide_eq_true y, decide_eq_false (fun h => y (by cases h; rfl))]
          rfl
      rw [e5]
      exact hq
    · intro H5 s5 eL
      rw [List.length_map] at eL
      have eb : ((List.range xs.length).map fun k => L2.V.bl (decide (¬ xs.getD k 0 = 0))) = ((List.range xs.length).map fun k => decide (¬ xs.getD k 0 = 0)).map L2.V.bl := by
        rw [List.map_map]
        rfl
      rw [eb] at eL
      refine ⟨L, _, rfl, SqL.of eL, _, rfl, ?_⟩
      rw [any_of]
      exact q H5 (((s02.trans s3).trans s4).trans s5)

end
end Lb
set_option Elab.async false
set_option linter.all false
set_option maxRecDepth 100000
set_option maxHeartbeats 8000000
namespace Lb
open PySem PySem.Spec PyProof.Rows L2 RZ TL
section
variable {P : Program} {w : World} {K : PySem.W.Frag} {mg : Str → Option Value} {base : Heap}
/-- the columns when k of them are done -/
def clK (g a k : Nat) (T : Gr.F2) : Gr.F2 := fun i j => if j < a + 1 + k then Gr.clT g a T i j else T i j
def clKV (g a k : Nat) (T V : Gr.F2) : Gr.F2 := fun i j => if j < a + 1 + k then Gr.clV g a T V i j else V i j
theorem bb3 : Gr.BB * Gr.BB * Gr.BB = 2 ^ 1200 := by decide +kernel
theorem sc_Grid_reduce_columns : FnScope ["self", "at", "j", "times", "top", "low"] ["self", "at"] (defScope s_Grid_reduce_columns) := ⟨rfl, rfl, rfl, by decide +kernel, rfl, by decide +kernel, by decide +kernel⟩
theorem own_gredc {CG : Addr} (D : DfM K CG "reduce_columns" "Grid.reduce_columns" s_Grid_reduce_columns) (B : Blt mg) (GC : GrdC K CG) (O_reduced : Own P w K mg base "reduced" 1 ["row", "place", "by", "times"] spReduced) : OwnM P w K mg base CG "reduce_columns" 2 ["self", "at"] (spRedC CG) := by
  refine ownM_of D sc_Grid_reduce_columns (fun _ _ _ _ _ _ us hl => match us, hl with | [_, _], _ => rfl) (fun vs H Q E h => ?_) (fun f cdv A outer s H vs Q E hr h => ?_)
  · obtain ⟨_, _, _, _, _, _, _, _, rfl, _⟩ := h
    rfl
  · obtain ⟨x, dx, H0, n, g, a, T, V, rfl, ga, han, hag, nz, bd, bv, q⟩ := h
    refine ⟨_, (pss_one (ps_for (passes_of rfl) rfl (pi_range2 (by rfl) B.b_range (pa_cons (pe_op op_add (pv 1) pe_int) (pa_cons (pe_fld (pv 0) rfl) pa_nil))) (pg_name (i := 2) sc_Grid_reduce_columns.nd rfl (.inr rfl))
        (pss_cons (ps_set (i := 3) sc_Grid_reduce_columns.nd rfl (.inr rfl) (pe_op op_fdivZ (pe_ix ix_list (pe_ix ix_list (pe_fld (pv 0) rfl) (pv 1) (fun _ _ => rfl)) (pv 2) (fun _ _ => rfl)) (pe_ix ix_list (pe_ix ix_list (pe_fld (pv 0) rfl) (pv 1) (fun _ _ => rfl)) (pv 1) (fun _ _ => rfl))))
      (pss_cons (ps_fld (pv 0) (pe_lc (own := [("top", 4)]) (g := gName 4) (tt := tYes) rfl sc_Grid_reduce_columns.nd (pi_list (pe_fld (pv 0) rfl)) (blkOk_by (own := [("top", 4)]) (N := ["self", "at", "j", "times", "top", "low"]) (sc := defScope s_Grid_reduce_columns) (by decide +kernel)) (fun _ _ _ _ _ => (pg_name (i := 4) sc_Grid_reduce_columns.nd rfl (.inl rfl))) (fun _ _ _ _ _ => pts_nil) (fun _ _ _ _ _ => (pe_own O_reduced (hr.mono (by omega)) (by rfl) (pa_cons (pv 4) (pa_cons (pv 2) (pa_cons (pv 1) (pa_cons (pv 3) pa_nil))))))) rfl)
      (pss_one (ps_fld (pv 0) (pe_lc (own := [("low", 5)]) (g := gName 5) (tt := tYes) rfl sc_Grid_reduce_columns.nd (pi_list (pe_fld (pv 0) rfl)) (blkOk_by (own := [("low", 5)]) (N := ["self", "at", "j", "times", "top", "low"]) (sc := defScope s_Grid_reduce_columns) (by decide +kernel)) (fun _ _ _ _ _ => (pg_name (i := 5) sc_Grid_reduce_columns.nd rfl (.inl rfl))) (fun _ _ _ _ _ => pts_nil) (fun _ _ _ _ _ => (pe_own O_reduced (hr.mono (by omega)) (by rfl) (pa_cons (pv 5) (pa_cons (pv 2) (pa_cons (pv 1) (pa_cons (pv 3) pa_nil))))))) rfl)))))), ?_⟩
    have g1 := ga.g1
    have g4 := ga.g4
    have n4 := ga.n4
    have w1 : 1 ≤ g + n := by omega
    rw [bb3] at bd
    have bv : Gr.Bd g g (2 ^ 400) V := bv
    have lT : ∀ i j, i < n → j < g + n → (T i j).natAbs.log2 ≤ 1200 := fun i j hi hj => log_of (bd i j hi hj)
    have lV : ∀ i j, i < g → j < g → (V i j).natAbs.log2 ≤ 400 := fun i j hi hj => log_of (bv i j hi hj)
    have lQ : ∀ j, j < g + n → ((T a j).fdiv (T a a)).natAbs.log2 ≤ 1200 := fun j hj => log_of (Nat.le_trans (Gr.fdiv_natAbs _ nz) (bd a j han hj))
    clear bd bv
    obtain ⟨t, l, vs, us, ex, et, el, t0, ntl, rt, rl⟩ := ga.ex
    refine ⟨_, rfl, _, _, rfl, rfl, _, rfl, x, CG, dx, _, _, rfl, ex, GC.cl, GC.ng, rfl, (a : Int) + 1, (g : Int), rfl, ⟨by omega, by omega, by omega, by omega⟩, ?_⟩
    rw [show ((g : Int) - ((a : Int) + 1)).toNat = g - (a + 1) by omega]
    clear ex et el t0 ntl rl rt
    refine for_it (walk_range (lo := (a : Int) + 1) (n := g - (a + 1))) (fun k σ H' => ∃ u v, σ = [some (.ref x), some (.int (a : Int)), u, v, none, none] ∧ GrAt CG H0 H' x dx n g (clK g a k T) (clKV g a k T V))
      ⟨_, _, rfl, ga.congr (fun i j _ _ => by
        unfold clK
        split
        · rw [Gr.clT_out (by omega)]
        · rfl) (fun i j _ _ => by
        unfold clKV
        split
        · rw [Gr.clV_out (by omega)]
        · rfl)⟩ (fun _ _ _ _ _ => trivial) ?_ ?_
    · rintro k y σ H2 H3 hk ⟨u, v, rfl, gk⟩ ⟨rfl, rfl⟩
      dsimp only
      rw [show (a : Int) + 1 + ((k : Nat) : Int) = ((a + 1 + k : Nat) : Int) by omega]
      obtain ⟨t, l, vs, us, ex, et, el, t0, ntl, rt, rl⟩ := gk.ex
      have hj : a + 1 + k < g := by omega
      obtain ⟨ra, ai, bi⟩ := rt.at han
      have e1 : clK g a k T a (a + 1 + k) = T a (a + 1 + k) := if_neg (by omega)
      have ea : ∀ i, clK g a k T i a = T i a := fun i => by
        unfold clK
        rw [if_pos (by omega), Gr.clT_out (.inl (Nat.le_refl a))]
      have eva : ∀ i, clKV g a k T V i a = V i a := fun i => by
        unfold clKV
        rw [if_pos (by omega), Gr.clV_out (.inl (Nat.le_refl a))]
      refine ⟨_, rfl, x, CG, dx, _, _, rfl, ex, GC.cl, GC.nt, rfl, _, rfl, t, _, _, _, rfl, rfl, SqL.of et, ai, _, rfl, ra, _, _, _, rfl, rfl, SqL.of bi, rowL_at (by omega), _, rfl, x, CG, dx, _, _, rfl, ex, GC.cl, GC.nt, rfl, _, rfl, t, _, _, _, rfl, rfl, SqL.of et, ai, _, rfl, ra, _, _, _, rfl, rfl, SqL.of bi, rowL_at (by omega), ?_⟩
      rw [e1, ea]
      refine ⟨_, _, rfl, rfl, ⟨nz, by have := lT a a han (by omega); omega⟩, ?_⟩
      have hqa := lQ (a + 1 + k) (by omega)
      dsimp only
      generalize hq0 : (T a (a + 1 + k)).fdiv (T a a) = q0 at hqa ⊢
      -- self.tops
      refine ⟨_, rfl, x, CG, dx, _, _, rfl, ex, GC.cl, GC.nt, rfl, t, rfl, ⟨_, SqL.of et⟩, fun D hD => ?_⟩
      refine lc_rowsW (w := g + n) (walk_list (xs := vs)) (clK g a (k + 1) T) w1 hD (by rw [rt.len]; omega) (fun H' sm => SqL.of (sm _ _ et)) ?_ ?_
      · rintro i y H4 H5 Qy hi sm ⟨rfl, hy⟩ hq
        rw [rt.len] at hi
        obtain ⟨p1, c1, c2⟩ := rt.row i hi
        rw [c1] at hy
        cases hy
        refine ⟨rfl, _, rfl, _, rfl, _, rfl, _, rfl, p1, g + n, a + 1 + k, a, q0, _, rfl, sm _ _ c2, by omega, by omega, by omega, ?_, fun H6 p s6 f6 e6 => hq H6 p s6 ?_⟩
        · rw [ea]
          have := lT i a hi (by omega)
          show _ + _ < 1000000
          omega
        · rw [e6]
          congr 2
          refine rowL_congr fun j _ => ?_
          rw [ea]
          unfold clK
          by_cases z : j = a + 1 + k
          · subst z
            rw [if_pos rfl, if_neg (by omega), if_pos (by omega), Gr.clT_in (by omega) hj, hq0]
          · rw [if_neg z]
            by_cases z2 : j < a + 1 + k
            · rw [if_pos z2, if_pos (by omega)]
            · rw [if_neg z2, if_neg (by omega)]
      · intro H4 ws s4 eD ru
        rw [rt.len] at ru
        have ex4 := s4 _ _ ex
        have nD : D ≠ x := fun z => by
          rw [z, ex] at hD
          cases hD
        have nl : l ≠ x := fun z => by
          rw [z, ex] at el
          cases el
        refine ⟨_, rfl, x, CG, dx, _, rfl, ex4, GC.cl, GC.nt, (by show 3 < 1000; decide), ?_⟩
        have ex5 : upd H4 x (.ins CG dx (putF "tops" (.ref D) (grF g t l))) x = some (.ins CG dx (grF g D l)) := upd_same
        have eD5 : upd H4 x (.ins CG dx (putF "tops" (.ref D) (grF g t l))) D = some (.lst ws) := by
          rw [upd_ne nD]
          exact eD
        have el5 : upd H4 x (.ins CG dx (putF "tops" (.ref D) (grF g t l))) l = some (.lst us) := by
          rw [upd_ne nl]
          exact s4 _ _ el
        have rt5 : Rows (upd H4 x (.ins CG dx (putF "tops" (.ref D) (grF g t l)))) ws n (g + n) (clK g a (k + 1) T) := ru.ins ex4
        have rl5 : Rows (upd H4 x (.ins CG dx (putF "tops" (.ref D) (grF g t l)))) us g g (clKV g a k T V) := (rl.same s4).ins ex4
        have sm5 : Same H0 (upd H4 x (.ins CG dx (putF "tops" (.ref D) (grF g t l)))) := fun b o e => by
          rw [upd_ne (ne_of_none e gk.na)]
          exact s4 _ _ (gk.same _ _ e)
        have D0 : H0 D = none := gk.same.free hD
        generalize upd H4 x (.ins CG dx (putF "tops" (.ref D) (grF g t l))) = H5 at ex5 eD5 el5 rt5 rl5 sm5 ⊢
        -- self.lows
        refine ⟨_, rfl, x, CG, dx, _, _, rfl, ex5, GC.cl, GC.nl, rfl, l, rfl, ⟨_, SqL.of el5⟩, fun L hL => ?_⟩
        refine lc_rowsW (w := g) (walk_list (xs := us)) (clKV g a (k + 1) T V) g1 hL (by rw [rl5.len]; omega) (fun H' sm => SqL.of (sm _ _ el5)) ?_ ?_
        · rintro i y H6 H7 Qy hi sm ⟨rfl, hy⟩ hq
          rw [rl5.len] at hi
          obtain ⟨p1, c1, c2⟩ := rl5.row i hi
          rw [c1] at hy
          cases hy
          refine ⟨rfl, _, rfl, _, rfl, _, rfl, _, rfl, p1, g, a + 1 + k, a, q0, _, rfl, sm _ _ c2, by omega, by omega, by omega, ?_, fun H8 p s6 f6 e6 => hq H8 p s6 ?_⟩
          · rw [eva]
            have := lV i a hi (by omega)
            show _ + _ < 1000000
            omega
          · rw [e6]
            congr 2
            refine rowL_congr fun j _ => ?_
            rw [eva]
            unfold clKV
            by_cases z : j = a + 1 + k
            · subst z
              rw [if_pos rfl, if_neg (by omega), if_pos (by omega), Gr.clV_in (by omega) hj, hq0]
            · rw [if_neg z]
              by_cases z2 : j < a + 1 + k
              · rw [if_pos z2, if_pos (by omega)]
              · rw [if_neg z2, if_neg (by omega)]
        · intro H6 vs' s6 eL rv
          rw [rl5.len] at rv
          have ex6 := s6 _ _ ex5
          have nL : L ≠ x := fun z => by
            rw [z, ex5] at hL
            cases hL
          have nLD : D ≠ L := fun z => by
            rw [← z, eD5] at hL
            cases hL
          refine ⟨_, rfl, x, CG, dx, _, rfl, ex6, GC.cl, GC.nl, (by show 3 < 1000; decide), ?_⟩
          refine ⟨_, _, rfl, ⟨fun b o e => ?_, gk.na, ⟨D, L, ws, vs', upd_same, ?_, ?_, D0, nLD, (rt5.same s6).ins ex6, rv.ins ex6⟩, g1, g4, n4⟩⟩
          · rw [upd_ne (ne_of_none e gk.na)]
            exact s6 _ _ (sm5 _ _ e)
          · rw [upd_ne nD]
            exact s6 _ _ eD5
          · rw [upd_ne nL]
            exact eL
    · rintro σ H' ⟨u, v, rfl, gk⟩
      refine q H' (gk.congr (fun i j _ _ => ?_) fun i j _ _ => ?_)
      · unfold clK
        split
        · rfl
        · rw [Gr.clT_out (by omega)]
      · unfold clKV
        split
        · rfl
        · rw [Gr.clV_out (by omega)]

end
end Lb
set_option Elab.async false
set_option linter.all false
set_option maxRecDepth 100000
set_option maxHeartbeats 8000000
namespace Lb
open PySem PySem.Spec PyProof.Rows L2 RZ TL
section
variable {P : Program} {w : World} {K : PySem.W.Frag} {mg : Str → Option Value} {base : Heap}
theorem pick_map {α β : Type} (l : List α) (d : α) (p : α → Bool) (f : α → β) : ((List.range l.length).filter fun k => p (l.getD k d)).map (fun k => f (l.getD k d)) = (l.filter p).map f := by
  have e : l = (List.range l.length).map fun k => l.getD k d := by
    refine List.ext_getElem (by rw [List.length_map, List.length_range]) fun k h1 h2 => ?_
    rw [List.getElem_map, List.getElem_range, List.getD_eq_getElem?_getD, List.getElem?_eq_getElem h1]
    rfl
  conv => rhs; rw [e]
  rw [List.filter_map, List.map_map]
  rfl
theorem sc_Grid_least_place : FnScope ["self", "at", "places", "i", "j", "found"] ["self", "at"] (defScope s_Grid_least_place) := ⟨rfl, rfl, rfl, by decide +kernel, rfl, by decide +kernel, by decide +kernel⟩
theorem own_gleast {CG : Addr} (D : DfM K CG "least_place" "Grid.least_place" s_Grid_least_place) (B : Blt mg) (hab : mg "abs" = none) (GC : GrdC K CG) : OwnM P w K mg base CG "least_place" 1 ["self", "at"] (spLeastP CG) := by
  refine ownM_of D sc_Grid_least_place (fun _ _ _ _ _ _ us hl => match us, hl with | [_, _], _ => rfl) (fun vs H Q E h => ?_) (fun f cdv A outer s H vs Q E hr h => ?_)
  · obtain ⟨_, _, _, _, _, _, _, _, rfl, _⟩ := h
    rfl
  · obtain ⟨x, dx, H0, n, g, a, T, V, rfl, ga, ha, q⟩ := h
    refine ⟨_, (pss_cons (ps_setLc2 (i := 2) (own := [("i", 3), ("j", 4)]) (vs1 := [4]) (g := gName 3) (g1 := gName 4) (tt := tYes) (tt1 := tYes) rfl sc_Grid_least_place.nd rfl rfl (sw_true rfl rfl rfl (by decide +kernel)) (pi_range2 (by rfl) B.b_range (pa_cons (pv 1) (pa_cons (pe_callB (id := "len") call_len_seq (by rfl) B.b_len PySem.boot_len (pa_cons (pe_fld (pv 0) rfl) pa_nil)) pa_nil))) (blkOk_by (own := [("i", 3), ("j", 4)]) (N := ["self", "at", "places", "i", "j", "found"]) (sc := defScope s_Grid_least_place) (by decide +kernel)) (by decide) (fun _ _ _ _ _ => (pg_name (i := 3) sc_Grid_least_place.nd rfl (.inl rfl))) (fun _ _ _ _ _ => pts_nil) (fun _ _ _ _ _ => (pi_range2 (by rfl) B.b_range (pa_cons (pv 1) (pa_cons (show PE _ _ (tFld K _ "goods") from pe_fld (pv 0) rfl) pa_nil)))) (fun _ _ _ _ _ => (pg_name (i := 4) sc_Grid_least_place.nd rfl (.inl rfl))) (fun _ _ _ _ _ => pts_nil) (fun _ _ _ _ _ => (pe_tup (pa_cons (pv 3) (pa_cons (pv 4) pa_nil)))))
      (pss_cons (ps_setLc (i := 5) (own := [("i", 3), ("j", 4)]) (g := gTup _ 2 (gCons (gName 3) (gCons (gName 4) gNil))) (tt := _) rfl sc_Grid_least_place.nd rfl rfl (sw_true rfl rfl rfl (by decide +kernel)) (pi_list (pv 2)) (blkOk_by (own := [("i", 3), ("j", 4)]) (N := ["self", "at", "places", "i", "j", "found"]) (sc := defScope s_Grid_least_place) (by decide +kernel)) (fun _ _ _ _ _ => (pg_tup rfl (pgs_cons (pg_name (i := 3) sc_Grid_least_place.nd rfl (.inl rfl)) (pgs_cons (pg_name (i := 4) sc_Grid_least_place.nd rfl (.inl rfl)) pgs_nil)))) (fun _ _ _ _ _ => (pts_one (pt_cmpR op_ne (pe_ix (show IxR _ (rIxL K) from ix_list) (pe_ix (show IxR _ (rIxL K) from ix_list) (show PE _ _ (tFld K _ "tops") from pe_fld (pv 0) rfl) (pv 3) (fun _ _ => rfl)) (pv 4) (fun _ _ => rfl)) pe_int (nomark _)))) (fun _ _ _ _ _ => (pe_tup (pa_cons (pe_callB (id := "abs") call_abs (by rfl) hab (by decide +kernel) (pa_cons (pe_ix (show IxR _ (rIxL K) from ix_list) (pe_ix (show IxR _ (rIxL K) from ix_list) (show PE _ _ (tFld K _ "tops") from pe_fld (pv 0) rfl) (pv 3) (fun _ _ => rfl)) (pv 4) (fun _ _ => rfl)) pa_nil)) (pa_cons (pv 3) (pa_cons (pv 4) pa_nil))))))
      (pss_one (ps_ret (pe_ifExp (pt_cmpR op_gt (pe_callB (id := "len") call_len_seq (by rfl) B.b_len PySem.boot_len (pa_cons (pv 5) pa_nil)) pe_int (nomark _)) (pe_slice sl_tupA (pe_callB (id := "min") (cr_minD rfl hr.units) (by rfl) B.b_min (by decide +kernel) (pa_cons (pv 5) pa_nil)) (po_some pe_int) po_none) pe_non))))), ?_⟩
    obtain ⟨t, l, vs, us, ex, et, el, t0, ntl, rt, rl⟩ := ga.ex
    have g1 := ga.g1
    have g4 := ga.g4
    have n4 := ga.n4
    -- places
    refine ⟨_, rfl, _, rfl, x, CG, dx, _, _, rfl, ex, GC.cl, GC.nt, rfl, t, _, rfl, .inl (SqL.of et), (a : Int), _, rfl, ⟨by omega, by omega, by rw [rt.len]; omega, by rw [rt.len]; omega⟩, fun D hD => ?_⟩
    rw [rt.len, show ((n : Int) - (a : Int)).toNat = n - a by omega]
    refine lc2_pairs (a := a) (n := n - a) (m := g - a) hD (by have : (n - a) * (g - a) ≤ 4 * 4 := Nat.mul_le_mul (by omega) (by omega); omega) (fun x => rfl) (fun x y => rfl) ?_ ?_ ?_
    · intro y H1 R sm hR
      refine ⟨_, rfl, _, rfl, x, CG, dx, _, _, rfl, sm _ _ ex, GC.cl, GC.ng, rfl, (a : Int), (g : Int), rfl, ⟨by omega, by omega, by omega, by omega⟩, ?_⟩
      rw [show ((g : Int) - (a : Int)).toNat = g - a by omega]
      exact hR
    · intro i j H1 Qy hq
      exact ⟨_, rfl, _, rfl, (by show 2 ≤ sizeLine; decide), fun p hp => hq p hp⟩
    · intro H1 ps s1 eD pr
      have ec : cnd a (g - a) (n - a) = Gr.cand n g a := rfl
      rw [ec] at pr
      have hin : ∀ k i j, (Gr.cand n g a)[k]? = some (i, j) → i < n ∧ j < g := fun k i j hk => by
        have := Gr.mem_cand.mp (List.mem_of_getElem? hk)
        omega
      generalize hc : Gr.cand n g a = cs at pr hin
      -- found
      refine ⟨_, rfl, D, rfl, ⟨_, SqL.of eD⟩, fun L hL => ?_⟩
      have hlen : cs.length ≤ 900 := by
        rw [← hc, ← ec, cnd_len]
        have : (n - a) * (g - a) ≤ 4 * 4 := Nat.mul_le_mul (by omega) (by omega)
        omega
      refine lc_dats (walk_list (xs := ps)) (fun k => T (cs.getD k (0, 0)).1 (cs.getD k (0, 0)).2 != 0) (fun k => tD ((T (cs.getD k (0, 0)).1 (cs.getD k (0, 0)).2).natAbs, (cs.getD k (0, 0)).1, (cs.getD k (0, 0)).2)) hL (by rw [pr.len]; omega) (fun H' sm => SqL.of (sm _ _ eD)) ?_ ?_
      · rintro k y H2 H3 Qn Qy hk sm ⟨rfl, hy⟩ hn hq
        rw [pr.len] at hk
        obtain ⟨⟨i, j⟩, hij⟩ : ∃ z, cs[k]? = some z := ⟨cs[k], List.getElem?_eq_getElem hk⟩
        have eg : cs.getD k (0, 0) = (i, j) := by
          rw [List.getD_eq_getElem?_getD, hij]
          rfl
        rw [eg] at hn hq
        dsimp only at hn hq
        obtain ⟨hi, hj⟩ := hin k i j hij
        obtain ⟨r, e1, e2⟩ := pr.at_ k _ hij
        rw [e1] at hy
        cases hy
        obtain ⟨ri, ai, bi⟩ := rt.at hi
        have s02 := s1.trans sm
        refine ⟨r, _, rfl, SqT.of (sm _ _ e2), rfl, _, _, rfl, _, _, rfl, rfl, rfl, ?_⟩
        refine ⟨_, rfl, x, CG, dx, _, _, rfl, s02 _ _ ex, GC.cl, GC.nt, rfl, _, rfl, t, _, _, _, rfl, rfl, SqL.of (s02 _ _ et), ai, _, rfl, ri, _, _, _, rfl, rfl, SqL.of (s02 _ _ bi), rowL_at (by omega), rfl, _, rfl, ?_⟩
        by_cases z : T i j = 0
        · rw [decide_eq_true (show L2.V.int (T i j) = L2.V.int 0 by rw [z])]
          exact iteF (hn (by rw [z]; rfl) _ (Same.refl _))
        · rw [decide_eq_false (show ¬ (L2.V.int (T i j) = L2.V.int 0) from fun h => z (L2.V.int.inj h))]
          have e3 : (if T i j < 0 then -T i j else T i j) = ((T i j).natAbs : Int) := by
            split <;> omega
          refine iteT ⟨_, rfl, x, CG, dx, _, _, rfl, s02 _ _ ex, GC.cl, GC.nt, rfl, _, rfl, t, _, _, _, rfl, rfl, SqL.of (s02 _ _ et), ai, _, rfl, ri, _, _, _, rfl, rfl, SqL.of (s02 _ _ bi), rowL_at (by omega), _, rfl, _, rfl, _, rfl, (by show 3 ≤ sizeLine; decide), fun p hp => ?_⟩
          rw [e3]
          exact hq (bne_iff_ne.mpr z) _ _ (same_upd hp) (.tup hp upd_same (.cons (.int _) (.cons (.int _) (.cons (.int _) .nil))))
      · intro H2 fs s2 eL dfs
        rw [pr.len, pick_map cs (0, 0) (fun p => T p.1 p.2 != 0) (fun p => tD ((T p.1 p.2).natAbs, p.1, p.2))] at dfs
        have ef : ((cs.filter fun p => T p.1 p.2 != 0).map fun p => tD ((T p.1 p.2).natAbs, p.1, p.2)) = (Gr.found n g T a).map tD := by
          unfold Gr.found
          rw [hc, List.map_map]
          rfl
        rw [ef] at dfs
        have sH := s1.trans s2
        cases hf : Gr.found n g T a with
        | nil =>
          rw [hf] at dfs q
          have hl := dfs.length
          obtain rfl : fs = [] := List.length_eq_zero_iff.mp hl
          refine ⟨_, rfl, L, _, rfl, .inl (SqL.of eL), _, _, rfl, rfl, _, rfl, ?_⟩
          exact iteF (q H2 .non sH rfl)
        | cons z zs =>
          rw [hf] at dfs q
          have hl := dfs.length
          have hb : Gr.best (z :: zs) = some (Gr.least3 z zs) := rfl
          rw [hb] at q
          have e0 : (z :: zs).map tD = tD z :: zs.map tD := rfl
          refine ⟨_, rfl, L, _, rfl, .inl (SqL.of eL), _, _, rfl, rfl, _, rfl, ?_⟩
          rw [decide_eq_true (show (0 : Int) < ((fs.length : Nat) : Int) by rw [hl, List.length_map, List.length_cons]; omega)]
          refine iteT ⟨_, rfl, wo (Nw H1) L, L, fs, tD z, zs.map tD, rfl, SqL.of eL, dfs, alike_tD (z :: zs), (depths_iff _).mpr fun d hd => ?_, fun i u hu hm => ?_⟩
          · rw [← e0] at hd
            obtain ⟨y, _, rfl⟩ := List.mem_map.mp hd
            simp [tD, PyData.depth, PyData.depthAll]
          · obtain ⟨d, hd1, du⟩ := dfs.get' hu
            rw [e0, hm, minD_tD] at hd1
            cases hd1
            obtain ⟨p, rfl, rp, ep⟩ := Dat.bag (b := [((Gr.least3 z zs).1 : Int), ((Gr.least3 z zs).2.1 : Int), ((Gr.least3 z zs).2.2 : Int)]) du
            have new : ∀ b, H2 b = none → wo (Nw H1) L b := fun b hb => ⟨s2.free hb, fun z => by rw [z, eL] at hb; cases hb⟩
            refine ⟨_, rfl, ?_⟩
            refine rd_from (j := 1) (ds := [.int ((Gr.least3 z zs).1 : Int), .int ((Gr.least3 z zs).2.1 : Int), .int ((Gr.least3 z zs).2.2 : Int)]) rp ep (Dats.ints [((Gr.least3 z zs).1 : Int), ((Gr.least3 z zs).2.1 : Int), ((Gr.least3 z zs).2.2 : Int)]) (by show 1 ≤ 3; decide) new fun H3 p3 s3 _ e3 => ?_
            exact q H3 _ (sH.trans s3) ⟨p3, rfl, e3⟩

end
end Lb
set_option Elab.async false
set_option linter.all false
set_option maxRecDepth 100000
set_option maxHeartbeats 8000000
namespace Lb
open PySem PySem.Spec PyProof.Rows L2 RZ TL
section
variable {P : Program} {w : World} {K : PySem.W.Frag} {mg : Str → Option Value} {base : Heap}
theorem bd_rw {n a w : Nat} {T : Gr.F2} (han : a < n) (haw : a < w) (nz : T a a ≠ 0) (h : Gr.Bd n w Gr.BB T) : Gr.Bd n w (Gr.BB * Gr.BB * Gr.BB) (Gr.rwT a T) := by
  have e : Gr.BB + Gr.BB * Gr.BB ≤ Gr.BB * Gr.BB * Gr.BB := by decide +kernel
  intro i j hi hj
  rcases Nat.lt_or_ge a i with q | q
  · rw [Gr.rwT_gt q]
    exact Nat.le_trans (Gr.sub_mul_natAbs (h i j hi hj) (Nat.le_trans (Gr.fdiv_natAbs _ nz) (h i a hi haw)) (h a j han hj)) e
  · rw [Gr.rwT_le q]
    exact Nat.le_trans (h i j hi hj) (Nat.le_trans (Nat.le_add_right _ _) e)
theorem sc_Grid_finish : FnScope ["self", "at", "place"] ["self"] (defScope s_Grid_finish) := ⟨rfl, rfl, rfl, by decide +kernel, rfl, by decide +kernel, by decide +kernel⟩
theorem own_gfinish {CG : Addr} (D : DfM K CG "finish" "Grid.finish" s_Grid_finish) (B : Blt mg) (GC : GrdC K CG) (M_least_place : OwnM P w K mg base CG "least_place" 1 ["self", "at"] (spLeastP CG)) (M_bring : OwnM P w K mg base CG "bring" 2 ["self", "at", "row", "column"] (spBring CG))
    (M_reduce_rows : OwnM P w K mg base CG "reduce_rows" 1 ["self", "at"] (spRedR CG)) (M_reduce_columns : OwnM P w K mg base CG "reduce_columns" 2 ["self", "at"] (spRedC CG)) (M_is_clear : OwnM P w K mg base CG "is_clear" 1 ["self", "at"] (spClear CG)) :
    OwnM P w K mg base CG "finish" 3 ["self"] (spFinish CG) := by
  refine ownM_of D sc_Grid_finish (fun _ _ _ _ _ _ us hl => match us, hl with | [_], _ => rfl) (fun vs H Q E h => ?_) (fun f cdv A outer s H vs Q E hr h => ?_)
  · obtain ⟨_, _, _, _, _, _, _, _, rfl, _⟩ := h
    rfl
  · obtain ⟨x, dx, H0, n, g, k, S, S', rfl, ga, ha, run, q⟩ := h
    refine ⟨_, (pss_cons (ps_set (i := 1) sc_Grid_finish.nd rfl (.inl rfl) pe_int)
      (pss_cons (ps_set (i := 2) sc_Grid_finish.nd rfl (.inl rfl) (pe_methX (pv 0) GC.cl M_least_place (hr.mono (by omega)) passX0 (pa_cons (pv 1) pa_nil)))
      (pss_one (ps_while (passes_of rfl) (pt_cmp (pc_notN (pv 2))) (pss_cons (ps_expr (pe_methX (pv 0) GC.cl M_bring (hr.mono (by omega)) passX0 (pa_cons (pv 1) (pa_cons (pe_ix ix_tup (pv 2) pe_int (fun _ _ => rfl)) (pa_cons (pe_ix ix_tup (pv 2) pe_int (fun _ _ => rfl)) pa_nil)))))
      (pss_cons (ps_expr (pe_methX (pv 0) GC.cl M_reduce_rows (hr.mono (by omega)) passX0 (pa_cons (pv 1) pa_nil)))
      (pss_cons (ps_expr (pe_methX (pv 0) GC.cl M_reduce_columns (hr.mono (by omega)) passX0 (pa_cons (pv 1) pa_nil)))
      (pss_cons (ps_aug (i := 1) sc_Grid_finish.nd rfl (.inl rfl) (pe_ifExp (pt_val (pe_methX (pv 0) GC.cl M_is_clear (hr.mono (by omega)) passX0 (pa_cons (pv 1) pa_nil))) pe_int pe_int) ip_add)
      (pss_one (ps_set (i := 2) sc_Grid_finish.nd rfl (.inl rfl) (pe_methX (pv 0) GC.cl M_least_place (hr.mono (by omega)) passX0 (pa_cons (pv 1) pa_nil)))))))))))), ?_⟩
    obtain ⟨t, l, vs', us', ex, _⟩ := id ga.ex
    refine ⟨_, rfl, x, dx, _, rfl, ex, rfl, _, rfl, x, dx, H0, n, g, 0, S.T, S.V, rfl, ga, by omega, fun H1 v s1 pv => ?_⟩
    refine ⟨fun m σ H' => ∃ (U : Gr.Gs) (y : L2.V), σ = [some (.ref x), some (.int (U.a : Int)), some y] ∧ GrAt CG H0 H' x dx n g U.T U.V ∧ Gr.Run n g Gr.BB m U S' ∧ PlaceAt H' y (Gr.best (Gr.found n g U.T U.a)), ⟨k, S, v, by rw [ha]; rfl, ga.keep s1, run, by rw [ha]; exact pv⟩, ?_⟩
    rintro m σ H' ⟨U, y, rfl, gu, ru, py⟩
    obtain ⟨t, l, vs', us', ex, _⟩ := id gu.ex
    cases ru with
    | done b e =>
      rw [e] at py
      have py : y = .non := py
      subst py
      exact ⟨_, rfl, _, rfl, iteF (q H' gu)⟩
    | turn b e r =>
      rename_i m z
      rw [e] at py
      obtain ⟨p, rfl, ep⟩ := py
      have L := (Gr.best_some e).1
      have hai := L.ai
      have hin := L.i_n
      have haj := L.aj
      have hjg := L.jg
      have han : U.a < n := by omega
      have hag : U.a < g := by omega
      have nz : Gr.brT U.a z.2.1 z.2.2 U.T U.a U.a ≠ 0 := by rw [Gr.brT_aa]; exact L.nz
      have bT : Gr.Bd n (g + n) Gr.BB (Gr.brT U.a z.2.1 z.2.2 U.T) := fun i j hi hj => b.t _ _ (Gr.swp_bd hi han hin) (Gr.swp_bd hj (by omega) (by omega))
      have bV : Gr.Bd g g Gr.BB (Gr.brV U.a z.2.2 U.V) := fun i j hi hj => b.v _ _ hi (Gr.swp_bd hj hag hjg)
      refine ⟨_, rfl, _, rfl, iteT ⟨_, fun _ _ h => h, ?_⟩⟩
      refine ⟨_, rfl, x, dx, _, rfl, ex, rfl, _, rfl, _, rfl, p, _, _, _, rfl, rfl, SqT.of ep, rfl, _, rfl, p, _, _, _, rfl, rfl, SqT.of ep, rfl, x, dx, H0, n, g, U.a, z.2.1, z.2.2, U.T, U.V, rfl, gu, han, hin, hag, hjg, fun H2 g2 => ?_⟩
      obtain ⟨t, l, vs', us', ex2, _⟩ := id g2.ex
      refine ⟨_, rfl, x, dx, _, rfl, ex2, rfl, _, rfl, x, dx, H0, n, g, U.a, _, _, rfl, g2, han, hag, nz, bT, fun H3 g3 => ?_⟩
      obtain ⟨t, l, vs', us', ex3, _⟩ := id g3.ex
      refine ⟨_, rfl, x, dx, _, rfl, ex3, rfl, _, rfl, x, dx, H0, n, g, U.a, _, _, rfl, g3, han, hag, by rw [Gr.rwT_row]; exact nz, bd_rw han (by omega) nz bT, bV, fun H4 g4 => ?_⟩
      obtain ⟨t, l, vs', us', ex4, _⟩ := id g4.ex
      refine ⟨_, rfl, _, rfl, x, dx, _, rfl, ex4, rfl, _, rfl, x, dx, H0, n, g, U.a, _, _, rfl, g4, han, hag, fun H5 s5 => ?_⟩
      have hg4 := ga.g4
      have g5 : GrAt CG H0 H5 x dx n g (Gr.nxt n g U z.2.1 z.2.2).T (Gr.nxt n g U z.2.1 z.2.2).V := g4.keep s5
      obtain ⟨t, l, vs', us', ex5, _⟩ := id g5.ex
      refine ⟨_, rfl, ?_⟩
      cases hc : Gr.clr n g U.a (Gr.clT g U.a (Gr.rwT U.a (Gr.brT U.a z.2.1 z.2.2 U.T))) with
      | true =>
        have ea : (Gr.nxt n g U z.2.1 z.2.2).a = U.a + 1 := if_pos hc
        refine iteT ⟨_, _, rfl, rfl, ?_⟩
        dsimp only
        rw [show (U.a : Int) + 1 = (((Gr.nxt n g U z.2.1 z.2.2).a : Nat) : Int) by rw [ea]; rfl]
        refine ⟨_, rfl, x, dx, _, rfl, ex5, rfl, _, rfl, x, dx, H0, n, g, _, _, _, rfl, g5, by omega, fun H6 v6 s6 pv6 => ?_⟩
        exact ⟨m, Nat.lt_succ_self _, Gr.nxt n g U z.2.1 z.2.2, v6, rfl, g5.keep s6, r, pv6⟩
      | false =>
        have ea : (Gr.nxt n g U z.2.1 z.2.2).a = U.a := if_neg (by
          intro h
          have h2 : Gr.clr n g U.a (Gr.clT g U.a (Gr.rwT U.a (Gr.brT U.a z.2.1 z.2.2 U.T))) = true := h
          rw [hc] at h2
          cases h2)
        refine iteF ⟨_, _, rfl, rfl, ?_⟩
        dsimp only
        rw [show (U.a : Int) + 0 = (((Gr.nxt n g U z.2.1 z.2.2).a : Nat) : Int) by rw [ea]; omega]
        refine ⟨_, rfl, x, dx, _, rfl, ex5, rfl, _, rfl, x, dx, H0, n, g, _, _, _, rfl, g5, by omega, fun H6 v6 s6 pv6 => ?_⟩
        exact ⟨m, Nat.lt_succ_self _, Gr.nxt n g U z.2.1 z.2.2, v6, rfl, g5.keep s6, r, pv6⟩

end
end Lb
set_option Elab.async false
set_option linter.all false
set_option maxRecDepth 100000
set_option maxHeartbeats 8000000
namespace Lb
open PySem PySem.Spec PyProof.Rows L2 RZ TL
section
variable {P : Program} {w : World} {K : PySem.W.Frag} {mg : Str → Option Value} {base : Heap}
theorem sc_grid_of : FnScope ["market", "grid"] ["market"] (defScope s_grid_of) := ⟨rfl, rfl, rfl, by decide +kernel, rfl, by decide +kernel, by decide +kernel⟩
theorem own_gridof {CG : Addr} (D : Df K mg "grid_of" s_grid_of) (B : Blt mg) (GC : GrdC K CG) (gG : mg "Grid" = some (.ref CG)) (mk : PySem.W.makesIn K CG = true) (kp : PySem.W.keepIn K (.ref CG) = true) (M_init : OwnM P w K mg base CG "__init__" 2 ["self", "market"] (spGInit CG)) (M_finish : OwnM P w K mg base CG "finish" 3 ["self"] (spFinish CG)) :
    Own P w K mg base "grid_of" 4 ["market"] (spGridOf CG) := by
  obtain ⟨fi, fdi, Mi, Fi, bi⟩ := M_init.ex
  obtain ⟨ff, fdf, Mf, Ff, bf⟩ := M_finish.ex
  refine own_of D sc_grid_of (fun _ _ _ _ _ _ us hl => match us, hl with | [_], _ => rfl) (fun vs H Q E h => ?_) (fun f cdv A outer s H vs Q E hr h => ?_)
  · obtain ⟨_, _, _, _, _, rfl, _⟩ := h
    rfl
  · obtain ⟨mv, g, k, ts, S, rfl, mkv, mok, run, q⟩ := h
    refine ⟨_, (pss_cons (ps_set (i := 1) sc_grid_of.nd rfl (.inl rfl) (pe_make ⟨mk, Mi.at_, Mi.fn, kp⟩ Fi (hr.mono (by omega)) (by rfl) gG bi .nil passX0 (pa_cons (pv 0) pa_nil)))
      (pss_cons (ps_expr (pe_meth0 (pv 1) GC.cl Mf Ff (hr.mono (by omega)) bf .nil passX0))
      (pss_one (ps_ret (pv 1))))), ?_⟩
    refine ⟨_, rfl, fun x dx hx hdx hne => ?_⟩
    have s1 : Same H (upd (upd H dx (.own x)) x (.ins CG dx [])) := (same_upd hdx).trans (same_upd (by rw [upd_ne (Ne.symm hne)]; exact hx))
    refine ⟨x, dx, mv, H, g, ts, rfl, upd_same, s1, hx, mkv.kc (C := CG + 1) (fun b u _ e => s1 b u e), mok, fun H1 ga => ⟨rfl, ?_⟩⟩
    obtain ⟨t, l, vs', us', ex, _⟩ := id ga.ex
    exact ⟨_, rfl, x, dx, _, rfl, ex, rfl, x, dx, H, ts.length, g, k, _, S, rfl, ga, rfl, run, fun H2 g2 => ⟨_, rfl, q H2 x dx g2⟩⟩

end
end Lb
set_option Elab.async false
set_option linter.all false
set_option maxRecDepth 100000
set_option maxHeartbeats 8000000
namespace Lb
open PySem PySem.Spec PyProof.Rows L2 RZ TL
section
variable {P : Program} {w : World} {K : PySem.W.Frag} {mg : Str → Option Value} {base : Heap}
theorem sc_count_of : FnScope ["weights", "modulus", "weight"] ["weights", "modulus"] (defScope s_count_of) := ⟨rfl, rfl, rfl, by decide +kernel, rfl, by decide +kernel, by decide +kernel⟩
theorem own_countof (D : Df K mg "count_of" s_count_of) (B : Blt mg) : Own P w K mg base "count_of" 1 ["weights", "modulus"] spCountOf := by
  refine own_of D sc_count_of (fun _ _ _ _ _ _ us hl => match us, hl with | [_, _], _ => rfl) (fun vs H Q E h => ?_) (fun f cdv A outer s H vs Q E hr h => ?_)
  · obtain ⟨_, _, _, _, rfl, _⟩ := h
    rfl
  · obtain ⟨r, g, d, fn, rfl, er, hg, q⟩ := h
    refine ⟨_, (pss_one (ps_ret (pe_tup (pa_cons (pe_callTy (T := "tuple") call_tuple_of (by rfl) B.b_tuple (by decide +kernel) (pa_cons (pe_lc (own := [("weight", 2)]) (g := gName 2) (tt := tYes) rfl sc_count_of.nd (pi_list (pv 0)) (blkOk_by (own := [("weight", 2)]) (N := ["weights", "modulus", "weight"]) (sc := defScope s_count_of) (by decide +kernel)) (fun _ _ _ _ _ => (pg_name (i := 2) sc_count_of.nd rfl (.inl rfl))) (fun _ _ _ _ _ => pts_nil) (fun _ _ _ _ _ => (pe_ifExp (pt_cmpR op_gt (pv 1) pe_int (nomark _)) (pe_op op_mod (pv 2) (pv 1)) (pv 2)))) pa_nil)) (pa_cons (pv 1) pa_nil))))), ?_⟩
    refine ⟨_, rfl, r, rfl, ⟨_, SqL.of er⟩, fun L hL => ?_⟩
    refine lc_rowW (walk_list (xs := rowL g fn)) (fun k => if 0 < d then fn k % (d : Int) else fn k) hL (by rw [rowL_len]; omega) (fun H' sm => SqL.of (sm _ _ er)) ?_ ?_
    · rintro i y H2 H3 Qy hi sm ⟨rfl, hy⟩ hq
      obtain ⟨hk, rfl⟩ := int_row hy
      have hq := hq _ (Same.refl _)
      refine ⟨rfl, _, rfl, _, _, rfl, rfl, _, rfl, ?_⟩
      by_cases z : 0 < d
      · rw [if_pos z] at hq
        rw [decide_eq_true (show (0 : Int) < ((d : Nat) : Int) by omega)]
        exact iteT ⟨_, rfl, _, rfl, _, _, rfl, rfl, by omega, hq⟩
      · rw [if_neg z] at hq
        rw [decide_eq_false (show ¬ (0 : Int) < ((d : Nat) : Int) by omega)]
        exact iteF ⟨_, rfl, hq⟩
    · intro H1 s1 e1
      rw [rowL_len, rowL_map] at e1
      refine ⟨L, _, rfl, .inl ⟨SqL.of e1, fun p hp => ?_⟩⟩
      have sp := same_upd (o := .tup ((rowI g fun k => if 0 < d then fn k % (d : Int) else fn k).map L2.V.int)) hp
      have ep : upd H1 p (.tup ((rowI g fun k => if 0 < d then fn k % (d : Int) else fn k).map L2.V.int)) p = some (.tup ((rowI g fun k => if 0 < d then fn k % (d : Int) else fn k).map L2.V.int)) := upd_same
      generalize upd H1 p (.tup ((rowI g fun k => if 0 < d then fn k % (d : Int) else fn k).map L2.V.int)) = H2 at sp ep ⊢
      refine ⟨_, rfl, (by show 2 ≤ sizeLine; decide), fun p2 hp2 => ?_⟩
      have s2 := same_upd (o := .tup [.ref p, .int (d : Int)]) hp2
      have e2 : upd H2 p2 (.tup [.ref p, .int (d : Int)]) p2 = some (.tup [.ref p, .int (d : Int)]) := upd_same
      have sH := (s1.trans sp).trans s2
      exact q _ _ sH (.tup ((s1.trans sp).free hp2) e2 (.cons (Dat.mkBag (s1.free hp) (s2 _ _ ep)) (.cons (.int _) .nil)))

end
end Lb
set_option Elab.async false
set_option linter.all false
set_option maxRecDepth 100000
set_option maxHeartbeats 8000000
namespace Lb
open PySem PySem.Spec PyProof.Rows L2 RZ TL
section
variable {P : Program} {w : World} {K : PySem.W.Frag} {mg : Str → Option Value} {base : Heap}
theorem sc_counts : FnScope ["market", "grid", "moduli", "column", "modulus"] ["market"] (defScope s_counts) := ⟨rfl, rfl, rfl, by decide +kernel, rfl, by decide +kernel, by decide +kernel⟩
theorem own_counts {CG : Addr} (D : Df K mg "counts" s_counts) (B : Blt mg) (GC : GrdC K CG) (O_grid_of : Own P w K mg base "grid_of" 4 ["market"] (spGridOf CG)) (O_count_of : Own P w K mg base "count_of" 1 ["weights", "modulus"] spCountOf)
    (M_modulus : OwnM P w K mg base CG "modulus" 1 ["self", "column"] (spModulus CG)) (M_weights : OwnM P w K mg base CG "weights" 1 ["self", "column"] (spWeights CG)) : Own P w K mg base "counts" 5 ["market"] spCounts := by
  refine own_of D sc_counts (fun _ _ _ _ _ _ us hl => match us, hl with | [_], _ => rfl) (fun vs H Q E h => ?_) (fun f cdv A outer s H vs Q E hr h => ?_)
  · obtain ⟨_, _, _, _, _, rfl, _⟩ := h
    rfl
  · obtain ⟨mv, g, k, ts, S, rfl, mkv, mok, run, q⟩ := h
    refine ⟨_, (pss_cons (ps_set (i := 1) sc_counts.nd rfl (.inr rfl) (pe_own O_grid_of (hr.mono (by omega)) (by rfl) (pa_cons (pv 0) pa_nil)))
      (pss_cons (ps_setLc (i := 2) (own := [("column", 3)]) (g := gName 3) (tt := tYes) rfl sc_counts.nd rfl rfl (sw_true rfl rfl rfl (by decide +kernel)) (pi_range1 (by rfl) B.b_range (pa_cons (pe_ix ix_tup (pv 0) pe_int (fun _ _ => rfl)) pa_nil)) (blkOk_by (own := [("column", 3)]) (N := ["market", "grid", "moduli", "column", "modulus"]) (sc := defScope s_counts) (by decide +kernel)) (fun _ _ _ _ _ => (pg_name (i := 3) sc_counts.nd rfl (.inl rfl))) (fun _ _ _ _ _ => pts_nil) (fun _ _ _ _ _ => (pe_methX (pv 1) GC.cl M_modulus (hr.mono (by omega)) passX0 (pa_cons (pv 3) pa_nil))))
      (pss_one (ps_ret (pe_callTy (T := "tuple") call_tuple_of (by rfl) B.b_tuple (by decide +kernel) (pa_cons (pe_lc (own := [("column", 3), ("modulus", 4)]) (g := gTup _ 2 (gCons (gName 3) (gCons (gName 4) gNil))) (tt := _) rfl sc_counts.nd (pi_enum (by rfl) B.b_enumerate (pa_cons (pv 2) pa_nil)) (blkOk_by (own := [("column", 3), ("modulus", 4)]) (N := ["market", "grid", "moduli", "column", "modulus"]) (sc := defScope s_counts) (by decide +kernel)) (fun _ _ _ _ _ => (pg_tup rfl (pgs_cons (pg_name (i := 3) sc_counts.nd rfl (.inl rfl)) (pgs_cons (pg_name (i := 4) sc_counts.nd rfl (.inl rfl)) pgs_nil)))) (fun _ _ _ _ _ => (pts_one (pt_cmpR op_ne (pv 4) pe_int (nomark _)))) (fun _ _ _ _ _ => (pe_own O_count_of (hr.mono (by omega)) (by rfl) (pa_cons (pe_methX (pv 1) GC.cl M_weights (hr.mono (by omega)) passX0 (pa_cons (pv 3) pa_nil)) (pa_cons (pv 4) pa_nil))))) pa_nil)))))), ?_⟩
    refine ⟨_, rfl, mv, g, k, ts, S, rfl, mkv, mok, run, fun H1 x dx ga => ?_⟩
    have g4 := ga.g4
    have la := Gr.lastly run
    obtain ⟨m, tt, vs, rfl, em, et, _⟩ := mkv
    -- moduli
    obtain ⟨t, l, vs', us', ex, _⟩ := id ga.ex
    refine ⟨_, rfl, m, _, _, _, rfl, rfl, SqT.of (ga.same _ _ em), rfl, (g : Int), rfl, ?_⟩
    refine ⟨by omega, by omega, fun L hL => ?_⟩
    refine lc_rowW (walk_range (lo := 0) (n := g)) (fun c => (Gr.dg ts.length S.T c : Int)) hL (by omega) (fun _ _ => trivial) ?_ ?_
    · rintro c y H2 H3 Qy hc sm ⟨rfl, rfl⟩ hq
      refine ⟨rfl, _, rfl, x, dx, _, rfl, sm _ _ ex, rfl, _, rfl, ?_⟩
      dsimp only
      rw [Int.zero_add]
      exact ⟨x, dx, H, ts.length, g, c, S.T, S.V, rfl, ga.keep sm, hc, hq _ (Same.refl _)⟩
    intro H2 s2 eL
    have ga2 := ga.keep s2
    obtain ⟨t, l, vs', us', ex2, _⟩ := id ga2.ex
    -- the counts
    refine ⟨_, rfl, L, _, rfl, SqL.of eL, fun D hD => ?_⟩
    refine lc_dats (walk_enum (xs := rowL g fun c => (Gr.dg ts.length S.T c : Int))) (fun c => Gr.dg ts.length S.T c != 1) (colD ts.length g S) hD (by rw [rowL_len]; omega) (fun H' sm => SqL.of (sm _ _ eL)) ?_ ?_
    · rintro c y H3 H4 Qn Qy hc sm ⟨T, x', y', rfl, hT, rfl, h1, h2⟩ hn hq
      cases h1
      obtain ⟨hk, rfl⟩ := int_row h2
      refine ⟨T, _, rfl, .inl (.inl upd_same), rfl, _, _, rfl, _, _, rfl, rfl, rfl, ?_⟩
      have sT := same_upd (H := H3) (o := .tup [.int (c : Int), .int (Gr.dg ts.length S.T c : Int)]) hT
      generalize upd H3 T (.tup [.int (c : Int), .int (Gr.dg ts.length S.T c : Int)]) = H4 at sT ⊢
      refine ⟨_, rfl, rfl, _, rfl, ?_⟩
      by_cases z : Gr.dg ts.length S.T c = 1
      · rw [decide_eq_true (show L2.V.int (Gr.dg ts.length S.T c : Int) = L2.V.int 1 by rw [z]; rfl)]
        exact iteF (hn (by rw [z]; rfl) _ sT)
      · rw [decide_eq_false (show ¬ (L2.V.int (Gr.dg ts.length S.T c : Int) = L2.V.int 1) from fun h => z (by have := L2.V.int.inj h; omega))]
        have s4 := sm.trans sT
        have ga4 := ga2.keep s4
        refine iteT ⟨_, rfl, x, dx, _, rfl, s4 _ _ ex2, rfl, _, rfl, x, dx, H, ts.length, g, c, S.T, S.V, rfl, ga4, hk, fun H5 p s5 f5 e5 => ⟨_, rfl, p, g, Gr.dg ts.length S.T c, fun k => S.V k c, rfl, e5, by omega, fun H6 v s6 dv => ?_⟩⟩
        refine hq (bne_iff_ne.mpr z) H6 v ((sT.trans s5).trans s6) ?_
        exact Dat.sub (fun b o hb _ => (sT.trans s5).free hb) dv
    · intro H3 us s3 eD du
      rw [rowL_len] at du
      refine ⟨D, _, rfl, .inl ⟨SqL.of eD, fun p hp => ?_⟩⟩
      have sH := (ga.same.trans s2).trans s3
      refine q _ _ (sH.trans (same_upd hp)) ?_
      refine .tup (sH.free hp) upd_same ?_
      exact Dats.sub (fun b o hb _ => (ga.same.trans s2).free hb.1) (du.same (same_upd hp))

end
end Lb
set_option Elab.async false
set_option linter.all false
set_option maxRecDepth 100000
set_option maxHeartbeats 8000000
namespace Lb
open PySem PySem.Spec PyProof.Rows L2 RZ TL
section
variable {P : Program} {w : World} {K : PySem.W.Frag} {mg : Str → Option Value} {base : Heap}
theorem sc__law_differ : FnScope ["_law_one_here", "_law_other"] ["_law_one_here", "_law_other"] (defScope s__law_differ) := ⟨rfl, rfl, rfl, by decide +kernel, rfl, by decide +kernel, by decide +kernel⟩
theorem own_differ (D : Df K mg "_law_differ" s__law_differ) (B : Blt mg) : OwnG P w K mg base "_law_differ" 1 ["_law_one_here", "_law_other"] spDiffer := by
  refine ownG_of D sc__law_differ (fun _ _ _ _ _ _ us hl => match us, hl with | [_, _], _ => rfl) (fun vs H Q E h => ?_) (fun f cdv A outer s H vs Q E hgd hr h => ?_)
  · obtain ⟨_, _, _, _, _, rfl, _⟩ := h
    rfl
  · obtain ⟨R, S, v, u, d, rfl, hd, he, ok, q⟩ := h
    have hud : (cxOf CX0 P w K mg base ["_law_one_here", "_law_other"] "_law_differ" (defScope s__law_differ) f cdv A outer s H E).nox.A.units + 110 < cLine := by
      have := hr.un
      show (A.deeper _).units + 110 < cLine
      omega
    refine ⟨_, (pss_one (ps_ret (pe_cmpR op_ne (pe_callB (id := "repr") (call_reprD hgd hud) (by rfl) B.b_repr PyProof.Rows.boot_repr (pa_cons (pv 0) pa_nil)) (pe_callB (id := "repr") (call_reprD hgd hud) (by rfl) B.b_repr PyProof.Rows.boot_repr (pa_cons (pv 1) pa_nil)) (nomark _)))), ?_⟩
    have sh1 := fine_show _ ok.fi
    have sh2 := ok.shown (by omega)
    have dp : d.depth ≤ 100 := Nat.le_trans ok.dp (by omega)
    refine ⟨_, rfl, R, v, d, rfl, hd, sh1, sh2, dp, ?_⟩
    refine ⟨_, rfl, S, u, d, rfl, he, sh1, sh2, dp, ?_⟩
    exact ⟨rfl, by simpa using q⟩

end
end Lb
set_option Elab.async false
set_option linter.all false
set_option maxRecDepth 100000
set_option maxHeartbeats 8000000
namespace Lb
open PySem PySem.Spec PyProof.Rows L2 RZ TL
section
variable {P : Program} {w : World} {K : PySem.W.Frag} {mg : Str → Option Value} {base : Heap}
theorem own_oneT (D : Df K mg "_law_one" s__law_one) (B : Blt mg) (O__law_draw : Own P w K mg base "_law_draw" 1 ["_law_deck_here", "_law_many"] spDraw) : Own P w K mg base "_law_one" 2 ["_law_deck_here", "_law_items"] spOneT := by
  refine own_of D sc__law_one (fun _ _ _ _ _ _ us hl => match us, hl with | [_, _], _ => rfl) (fun vs H Q E h => ?_) (fun f cdv A outer s H vs Q E hr h => ?_)
  · obtain ⟨_, _, _, _, _, _, rfl, _⟩ := h
    rfl
  · obtain ⟨d, c, r, l, n, xs, rfl, dk, hn, el, nd, nr, h0, h1, q⟩ := h
    refine ⟨_, (pss_one (ps_ret (pe_ix ix_tup (pv 1) (pe_own O__law_draw (hr.mono (by omega)) (by rfl) (pa_cons (pv 0) (pa_cons (pe_callB (id := "len") call_len_seq (by rfl) B.b_len PySem.boot_len (pa_cons (pv 1) pa_nil)) pa_nil))) (fun _ _ => rfl)))), ?_⟩
    refine ⟨_, rfl, _, rfl, _, rfl, l, _, rfl, .inr (SqT.of el), ?_⟩
    refine ⟨d, c, r, n, xs.length, rfl, dk, hn, h0, by omega, fun H' v hv dk' kp => ?_⟩
    exact ⟨l, xs, _, _, rfl, rfl, SqT.of (kp _ _ nd nr el), atI_nat (List.getElem?_eq_getElem hv), q H' v _ (List.getElem?_eq_getElem hv) dk' kp⟩

end
end Lb
set_option Elab.async false
set_option linter.all false
set_option maxRecDepth 100000
set_option maxHeartbeats 8000000
namespace Lb
open PySem PySem.Spec PyProof.Rows L2 RZ TL
section
variable {P : Program} {w : World} {K : PySem.W.Frag} {mg : Str → Option Value} {base : Heap}
theorem sc__law_around : FnScope ["_law_trades", "_law_stock", "_law_found", "_law_k", "_law_is_back", "_law_later"] ["_law_trades", "_law_stock"] (defScope s__law_around) := ⟨rfl, rfl, rfl, by decide +kernel, rfl, by decide +kernel, by decide +kernel⟩
theorem own_around (D : Df K mg "_law_around" s__law_around) (B : Blt mg) (O__law_behind : Own P w K mg base "_law_behind" 2 ["_law_trades", "_law_stock", "_law_k", "_law_is_back"] spBehind) : Own P w K mg base "_law_around" 3 ["_law_trades", "_law_stock"] spAround := by
  refine own_of D sc__law_around (fun _ _ _ _ _ _ us hl => match us, hl with | [_, _], _ => rfl) (fun vs H Q E h => ?_) (fun f cdv A outer s H vs Q E hr h => ?_)
  · obtain ⟨_, _, _, _, _, _, rfl, _⟩ := h
    rfl
  · obtain ⟨R, m, sv, g, ts, x, rfl, dm, ds, hE, hg, hx, ht, new, q⟩ := h
    refine ⟨_, (pss_cons (ps_set (i := 2) sc__law_around.nd rfl (.inl rfl) (pe_lst pa_nil))
      (pss_cons (ps_for PassesOwn.never rfl (pi_range1 (by rfl) B.b_range (pa_cons (pe_callB (id := "len") call_len_seq (by rfl) B.b_len PySem.boot_len (pa_cons (pv 0) pa_nil)) pa_nil)) (pg_name (i := 3) sc__law_around.nd rfl (.inl rfl))
        (pss_one (ps_for PassesOwn.never rfl (pi_tup (pe_tup (pa_cons pe_bl (pa_cons pe_bl pa_nil)))) (pg_name (i := 4) sc__law_around.nd rfl (.inl rfl))
        (pss_cons (ps_set (i := 5) sc__law_around.nd rfl (.inl rfl) (pe_own O__law_behind (hr.mono (by omega)) (by rfl) (pa_cons (pv 0) (pa_cons (pv 1) (pa_cons (pv 3) (pa_cons (pv 4) pa_nil))))))
      (pss_one (ps_if (pt_cmp (pc_notN (pv 5))) (pss_one (ps_expr (pe_bm PySem.F.plainAttrs_list PySem.F.slot_list_append PySem.F.type_list_append mt_append (pv 2) (pa_cons (pv 5) pa_nil)))) pss_nil))))))
      (pss_one (ps_ret (pv 2))))), ?_⟩
    obtain ⟨tv, ys, rfl, rtv, etv, dys⟩ := id dm.tupI
    have hyl : ys.length = ts.length := by rw [dys.length, List.length_map]
    refine ⟨(by show 0 ≤ sizeLine; decide), fun L hL => ?_⟩
    have subL : ∀ b o, R b → H b = some o → wo R L b := fun b o hb e => ⟨hb, ne_of_none e hL⟩
    have sL := same_upd (o := .lst []) hL
    have dm1 := (dm.sub subL).same sL
    have ds1 := (ds.sub subL).same sL
    have etv1 := sL _ _ etv
    have rtv1 := subL _ _ rtv etv
    have eL0 : upd H L (.lst []) L = some (.lst []) := upd_same
    generalize upd H L (.lst []) = H1 at sL dm1 ds1 etv1 eL0 ⊢
    have newL : ∀ {H' : Hp} {o : HO}, Same H H' → H' L = some o → ∀ p, H' p = none → wo R L p := fun {H' o} sm eL p hp => ⟨new p (sm.free hp), fun z => by rw [z, eL] at hp; cases hp⟩
    refine ⟨_, rfl, tv, ys, rfl, .inr (SqT.of etv1), _, rfl, by omega, by omega, ?_⟩
    rw [hyl, show ((ts.length : Nat) : Int).toNat = ts.length by omega]
    refine for_it (walk_range (lo := 0) (n := ts.length)) (fun k σ H' => ∃ y3 y4 y5 us, σ = [some (.ref tv), some sv, some (.ref L), y3, y4, y5] ∧ Same H H' ∧ On (wo R L) H1 H' ∧ H' L = some (.lst us) ∧ Dats (wo R L) H' us ((arnd ts x k).map bagD))
      ⟨none, none, none, [], rfl, sL, On.of (Same.refl _), eL0, .nil⟩ (fun _ _ _ _ _ => trivial) ?_ ?_
    · rintro k y σ H2 H3 hk ⟨y3, y4, y5, us, rfl, sm, on2, eL, du⟩ ⟨rfl, rfl⟩
      dsimp only
      rw [Int.zero_add]
      refine ⟨(by show 2 ≤ sizeLine; decide), fun p hp => ?_⟩
      have sp := same_upd (o := .tup [.bl false, .bl true]) hp
      have ep : upd H3 p (.tup [.bl false, .bl true]) p = some (.tup [.bl false, .bl true]) := upd_same
      generalize upd H3 p (.tup [.bl false, .bl true]) = H4 at sp ep ⊢
      have pL : p ≠ L := fun z => by
        rw [z, eL] at hp
        cases hp
      refine ⟨p, rfl, ⟨_, SqT.of ep⟩, ?_⟩
      refine for_it (walk_tup (xs := [.bl false, .bl true])) (fun j σ H' => ∃ y4 y5 us, σ = [some (.ref tv), some sv, some (.ref L), some (.int (k : Int)), y4, y5] ∧ Same H H' ∧ On (wo R L) H1 H' ∧ H' p = some (.tup [.bl false, .bl true]) ∧ H' L = some (.lst us) ∧ Dats (wo R L) H' us ((arnd ts x k ++ ([(k, false), (k, true)].take j).filterMap fun s => behind ts x s.1 s.2).map bagD))
        ⟨_, _, us, rfl, sm.trans sp, on2.trans (On.of sp), ep, sp _ _ eL, by rw [List.take_zero, List.filterMap_nil, List.append_nil]; exact du.same sp⟩ (fun j σ H' _ hP => by obtain ⟨_, _, _, _, _, _, e, _⟩ := hP; exact SqT.of e) ?_ ?_
      · rintro j z σ H5 H6 hj ⟨z4, z5, vs, rfl, sm5, on5, ep5, eL5, dv⟩ ⟨rfl, hz⟩
        obtain ⟨b, rfl, hb⟩ : ∃ b, z = .bl b ∧ [(k, false), (k, true)][j]? = some (k, b) := by
          match j, hz with
          | 0, h => exact ⟨false, (Option.some.inj h).symm, rfl⟩
          | 1, h => exact ⟨true, (Option.some.inj h).symm, rfl⟩
        have hl : vs.length ≤ 400 := by
          have h1 := arnd_len ts x k
          have h2 := List.length_filterMap_le (fun s : Nat × Bool => behind ts x s.1 s.2) ([(k, false), (k, true)].take j)
          rw [List.length_take] at h2
          have h3 : min j [(k, false), (k, true)].length ≤ 2 := Nat.min_le_right _ _
          rw [dv.length, List.length_map, List.length_append]
          omega
        have etk : [(k, false), (k, true)].take (j + 1) = [(k, false), (k, true)].take j ++ [(k, b)] := by
          rw [List.take_add_one, hb]
          rfl
        refine ⟨_, rfl, _, rfl, _, rfl, _, rfl, wo R L, .ref tv, sv, g, ts, x, k, b, rfl, dm1.on on5, ds1.on on5, hE, hg, hx, hk, newL sm5 eL5, fun H7 v s7 dw => ?_⟩
        refine ⟨_, rfl, _, rfl, ?_⟩
        cases hbe : behind ts x k b with
        | none =>
          rw [hbe] at dw
          obtain rfl := dw.nonI
          refine iteF ⟨_, _, vs, rfl, sm5.trans s7, on5.trans (On.of s7), s7 _ _ ep5, s7 _ _ eL5, ?_⟩
          rw [etk, List.filterMap_append]
          have e0 : List.filterMap (fun s : Nat × Bool => behind ts x s.1 s.2) [(k, b)] = [] := by
            rw [List.filterMap_cons, hbe]
            rfl
          rw [e0, List.append_nil]
          exact dv.same s7
        | some w =>
          rw [hbe] at dw
          obtain ⟨pw, rfl, rw_, ew⟩ := Dat.bag dw
          have eL7 := s7 _ _ eL5
          refine iteT ⟨_, rfl, .inl ⟨rfl, _, SqL.of eL7⟩, _, rfl, L, _, _, rfl, rfl, eL7, by rw [sizeLine_eq]; omega, ?_⟩
          refine ⟨_, _, vs ++ [.ref pw], rfl, fun c o e => ?_, (on5.trans (On.of s7)).trans wo_on, ?_, upd_same, ?_⟩
          · rw [upd_ne (ne_of_none e hL)]
            exact s7 _ _ (sm5 _ _ e)
          · rw [upd_ne pL]
            exact s7 _ _ ep5
          · rw [etk, List.filterMap_append]
            have e0 : List.filterMap (fun s : Nat × Bool => behind ts x s.1 s.2) [(k, b)] = [w] := by
              rw [List.filterMap_cons, hbe]
              rfl
            rw [e0, ← List.append_assoc, List.map_append]
            exact ((dv.same s7).on wo_on).append (.cons (Dat.on wo_on dw) .nil)
      · rintro σ H5 ⟨z4, z5, vs, rfl, sm5, on5, ep5, eL5, dv⟩
        refine ⟨_, _, _, vs, rfl, sm5, on5, eL5, ?_⟩
        have e1 : arnd ts x (k + 1) = arnd ts x k ++ ([(k, false), (k, true)].take [L2.V.bl false, L2.V.bl true].length).filterMap fun s => behind ts x s.1 s.2 := by
          unfold arnd
          rw [steps2_succ, List.filterMap_append]
          rfl
        rw [e1]
        exact dv
    · rintro σ H2 ⟨y3, y4, y5, us, rfl, sm, on2, eL, du⟩
      exact ⟨_, rfl, q H2 L us sm hL eL (du.sub fun b o hb _ => hb.1)⟩

end
end Lb
set_option Elab.async false
set_option linter.all false
set_option maxRecDepth 100000
set_option maxHeartbeats 8000000
namespace Lb
open PySem PySem.Spec PyProof.Rows L2 RZ TL
section
variable {P : Program} {w : World} {K : PySem.W.Frag} {mg : Str → Option Value} {base : Heap}
theorem sc__law_near : FnScope ["_law_deck_here", "_law_market_here", "_law_stock", "_law_many", "_law_k", "_law_some"] ["_law_deck_here", "_law_market_here", "_law_stock", "_law_many"] (defScope s__law_near) := ⟨rfl, rfl, rfl, by decide +kernel, rfl, by decide +kernel, by decide +kernel⟩
theorem own_near (D : Df K mg "_law_near" s__law_near) (B : Blt mg) (O__law_around : Own P w K mg base "_law_around" 3 ["_law_trades", "_law_stock"] spAround) (O__law_one : Own P w K mg base "_law_one" 2 ["_law_deck_here", "_law_items"] spOne) : Own P w K mg base "_law_near" 4 ["_law_deck_here", "_law_market_here", "_law_stock", "_law_many"] spNear := by
  refine own_of D sc__law_near (fun _ _ _ _ _ _ us hl => match us, hl with | [_, _, _, _], _ => rfl) (fun vs H Q E h => ?_) (fun f cdv A outer s H vs Q E hr h => ?_)
  · obtain ⟨_, _, _, _, _, _, _, _, _, _, _, _, rfl, _⟩ := h
    rfl
  · obtain ⟨R, d, c, r, n, g, m, many, mv, sv, ts, x, rfl, dk, hn, rg, dm, ds, mok, hx, hm, q⟩ := h
    refine ⟨_, (pss_cons (ps_for PassesOwn.never rfl (pi_range1 (by rfl) B.b_range (pa_cons (pv 3) pa_nil)) (pg_name (i := 4) sc__law_near.nd rfl (.inl rfl))
        (pss_cons (ps_set (i := 5) sc__law_near.nd rfl (.inl rfl) (pe_own O__law_around (hr.mono (by omega)) (by rfl) (pa_cons (pe_ix ix_tup (pv 1) pe_int (fun _ _ => rfl)) (pa_cons (pv 2) pa_nil))))
      (pss_one (ps_set (i := 2) sc__law_near.nd rfl (.inl rfl) (pe_own O__law_one (hr.mono (by omega)) (by rfl) (pa_cons (pv 0) (pa_cons (pe_op op_cat (pv 5) (pe_lst (pa_cons (pv 2) pa_nil))) pa_nil)))))))
      (pss_one (ps_ret (pv 2)))), ?_⟩
    refine ⟨_, rfl, (many : Int), rfl, by omega, by omega, ?_⟩
    rw [show ((many : Nat) : Int).toNat = many by omega]
    refine for_it (walk_range (lo := 0) (n := many)) (fun k σ H' => ∃ u y4 y5 y, σ = [some (.ref d), some mv, some u, some (.int (many : Int)), y4, y5] ∧ Dat R H' u (bagD y) ∧ StkB g (m + 3 * k) y ∧ Dk H' d c r (n + k) ∧ Kp d r H H')
      ⟨sv, none, none, x, rfl, ds, hx.mono (by omega), dk.mono (by omega), Kp.refl _ _ _⟩ (fun _ _ _ _ _ => trivial) ?_ ?_
    · rintro k z σ H2 H3 hk ⟨u, y4, y5, y, rfl, du, hy, dk2, k2⟩ ⟨rfl, rfl⟩
      have rg3 := rg.kp k2 dk2
      have dm3 := dm.on (rg.on k2)
      obtain ⟨am, tv, ys, rfl, ram, eam, rtv, etv, tys⟩ := id dm3.mkt
      have dts : Dat R H3 (.ref tv) (.tuple (ts.map trdD)) := .tup rtv etv tys
      refine ⟨_, rfl, am, _, _, _, rfl, rfl, SqT.of eam, rfl, _, rfl, R, .ref tv, u, g, ts, y, rfl, dts, du, mok.even, by have := mok.four; omega, hy.len, by have := mok.many; omega, rg3.new, fun H4 L us s4 fL eL dus => ?_⟩
      have hul : us.length ≤ 8 := by
        rw [dus.length, List.length_map]
        have : (around ts y).length ≤ 2 * ts.length := arnd_len ts y ts.length
        have := mok.many
        omega
      refine ⟨_, rfl, _, rfl, _, rfl, (by show 1 ≤ sizeLine; decide), fun p hp => ?_⟩
      have sp := same_upd (o := .lst [u]) hp
      have ep : upd H4 p (.lst [u]) p = some (.lst [u]) := upd_same
      generalize upd H4 p (.lst [u]) = H5 at sp ep ⊢
      refine ⟨L, p, _, _, rfl, rfl, sp _ _ eL, ep, by rw [sizeLine_eq]; show us.length + 1 ≤ _; omega, fun p2 hp2 => ?_⟩
      have s6 := same_upd (o := .lst (us ++ [u])) hp2
      have e6 : upd H5 p2 (.lst (us ++ [u])) p2 = some (.lst (us ++ [u])) := upd_same
      generalize upd H5 p2 (.lst (us ++ [u])) = H6 at s6 e6 ⊢
      have s36 := (s4.trans sp).trans s6
      have dk6 := dk2.same s36
      have n2 := dk2.nd ((s4.trans sp).free hp2)
      refine ⟨d, c, r, p2, n + k, us ++ [u], rfl, dk6, by omega, e6, n2.1, n2.2.1, by rw [List.length_append]; show 0 < us.length + 1; omega, by rw [List.length_append]; show us.length + 1 ≤ 1000; omega, fun H7 v w hw dk7 k7 => ?_⟩
      have rg6 := rg3.same s36
      have all : ∃ y', Dat R H6 w (bagD y') ∧ StkB g (m + 3 * (k + 1)) y' := by
        rcases Nat.lt_or_ge v us.length with q1 | q1
        · rw [List.getElem?_append_left q1] at hw
          obtain ⟨dw, hdw, dtw⟩ := dus.get' hw
          rw [List.getElem?_map] at hdw
          obtain ⟨y', hy', rfl⟩ := Option.map_eq_some_iff.mp hdw
          exact ⟨y', dtw.same (sp.trans s6), (around_bd mok hy (List.mem_of_getElem? hy')).mono (by omega)⟩
        · rw [List.getElem?_append_right q1] at hw
          have : v - us.length = 0 := by
            have := (List.getElem?_eq_some_iff.mp hw).1
            simp at this
            omega
          rw [this] at hw
          obtain rfl : u = w := Option.some.inj hw
          exact ⟨y, du.same s36, hy.mono (by omega)⟩
      obtain ⟨y', dy', hy'⟩ := all
      refine ⟨w, _, _, y', rfl, dy'.on (rg6.on k7), hy', dk7.mono (by omega), (k2.trans (Kp.of s36)).trans k7⟩
    · rintro σ H2 ⟨u, y4, y5, y, rfl, du, hy, dk2, k2⟩
      exact ⟨_, rfl, q H2 u y hy du dk2 k2⟩

end
end Lb
set_option Elab.async false
set_option linter.all false
set_option maxRecDepth 100000
set_option maxHeartbeats 8000000
namespace Lb
open PySem PySem.Spec PyProof.Rows L2 RZ TL
section
variable {P : Program} {w : World} {K : PySem.W.Frag} {mg : Str → Option Value} {base : Heap}
theorem lay_bag (x : List Int) : (bagD x).canLay0 = true := lay_tup fun d hd => by
  obtain ⟨n, _, rfl⟩ := List.mem_map.mp hd
  exact lay_int n
theorem lay_trds (ts : List Trd) : (PyData.tuple (ts.map trdD)).canLay0 = true := by
  refine lay_tup fun d hd => ?_
  obtain ⟨t, _, rfl⟩ := List.mem_map.mp hd
  refine lay_tup fun e he => ?_
  rcases List.mem_cons.mp he with rfl | he
  · exact lay_bag _
  · rw [List.mem_singleton.mp he]
    exact lay_bag _
theorem get_some {x : List Int} {i g : Nat} (hl : x.length = g) (hi : i < g) : x[i]? = some (x.getD i 0) := by
  rw [List.getD_eq_getElem?_getD, List.getElem?_eq_getElem (by omega)]
  rfl
theorem stk_of {g m : Nat} {x : List Int} (hl : x.length = g) (h : ∀ i, i < g → 0 ≤ x.getD i 0 ∧ x.getD i 0 ≤ (m : Int)) : StkB g m x := by
  refine ⟨hl, fun z hz => ?_⟩
  obtain ⟨i, hi⟩ := List.getElem?_of_mem hz
  have hig : i < g := by
    have := (List.getElem?_eq_some_iff.mp hi).1
    omega
  have := h i hig
  rw [List.getD_eq_getElem?_getD, hi] at this
  exact this
theorem zip_getD {f : Int → Int → Int} {x y : List Int} {g i : Nat} (hx : x.length = g) (hy : y.length = g) (hi : i < g) : (List.zipWith f x y).getD i 0 = f (x.getD i 0) (y.getD i 0) := by
  rw [List.getD_eq_getElem?_getD, List.getElem?_zipWith, get_some hx hi, get_some hy hi]
  rfl
theorem rowI_getD {g i : Nat} {f : Nat → Int} (hi : i < g) : (rowI g f).getD i 0 = f i := by
  rw [List.getD_eq_getElem?_getD, List.getElem?_map, List.getElem?_range hi]
  rfl
theorem plus_bd {g m k : Nat} {x y : List Int} (hx : StkB g m x) (hy : StkB g k y) : StkB g (m + k) (plusL x y) := by
  refine stk_of (by rw [List.length_zipWith, hx.len, hy.len, Nat.min_self]) fun i hi => ?_
  rw [zip_getD hx.len hy.len hi]
  have h1 := hx.get i
  have h2 := hy.get i
  omega
theorem sc__law_pair : FnScope ["_law_deck_here", "_law_market_here", "_law_most", "_law_one_here", "_law_give", "_law_get", "_law_low", "_law_own", "_law_more"] ["_law_deck_here", "_law_market_here", "_law_most"] (defScope s__law_pair) := ⟨rfl, rfl, rfl, by decide +kernel, rfl, by decide +kernel, by decide +kernel⟩
theorem own_pairL (D : Df K mg "_law_pair" s__law_pair) (B : Blt mg) (O__law_draw : Own P w K mg base "_law_draw" 1 ["_law_deck_here", "_law_many"] spDraw) (O__law_bag : Own P w K mg base "_law_bag" 2 ["_law_deck_here", "_law_goods", "_law_most"] spBag) (O__law_near : Own P w K mg base "_law_near" 4 ["_law_deck_here", "_law_market_here", "_law_stock", "_law_many"] spNear)
    (O__law_one : Own P w K mg base "_law_one" 2 ["_law_deck_here", "_law_items"] spOneT) (O__law_plus : Own P w K mg base "_law_plus" 1 ["_law_one_here", "_law_other"] (spPlus K)) (O__law_less : Own P w K mg base "_law_less" 1 ["_law_one_here", "_law_other"] (spMinus K)) : Own P w K mg base "_law_pair" 5 ["_law_deck_here", "_law_market_here", "_law_most"] spPairL := by
  refine own_of D sc__law_pair (fun _ _ _ _ _ _ us hl => match us, hl with | [_, _, _], _ => rfl) (fun vs H Q E h => ?_) (fun f cdv A outer s H vs Q E hr h => ?_)
  · obtain ⟨_, _, _, _, _, _, _, _, _, rfl, _⟩ := h
    rfl
  · obtain ⟨R, d, c, r, n, g, m, mv, ts, rfl, dk, hn, rg, dm, mok, hm, q⟩ := h
    refine ⟨_, (pss_cons (ps_set (i := 3) sc__law_pair.nd rfl (.inl rfl) (pe_own O__law_bag (hr.mono (by omega)) (by rfl) (pa_cons (pv 0) (pa_cons (pe_ix ix_tup (pv 1) pe_int (fun _ _ => rfl)) (pa_cons (pv 2) pa_nil)))))
      (pss_cons (ps_if (pt_cmpR op_eq (pe_own O__law_draw (hr.mono (by omega)) (by rfl) (pa_cons (pv 0) (pa_cons pe_int pa_nil))) pe_int (nomark _)) (pss_one (ps_ret (pe_tup (pa_cons (pv 3) (pa_cons (pe_own O__law_near (hr.mono (by omega)) (by rfl) (pa_cons (pv 0) (pa_cons (pv 1) (pa_cons (pv 3) (pa_cons (pe_op op_add pe_int (pe_own O__law_draw (hr.mono (by omega)) (by rfl) (pa_cons (pv 0) (pa_cons pe_int pa_nil)))) pa_nil))))) pa_nil))))) pss_nil)
      (pss_cons (ps_if (PW.pt (pw_or (pt_cmpR (op_eqD hr.units) (pe_ix ix_tup (pv 1) pe_int (fun _ _ => rfl)) (pe_tup pa_nil) (nomark _)) (pw_or1 (pt_cmpR op_eq (pe_own O__law_draw (hr.mono (by omega)) (by rfl) (pa_cons (pv 0) (pa_cons pe_int pa_nil))) pe_int (nomark _))))) (pss_one (ps_ret (pe_tup (pa_cons (pv 3) (pa_cons (pe_own O__law_bag (hr.mono (by omega)) (by rfl) (pa_cons (pv 0) (pa_cons (pe_ix ix_tup (pv 1) pe_int (fun _ _ => rfl)) (pa_cons (pv 2) pa_nil)))) pa_nil))))) pss_nil)
      (pss_cons (ps_asg (pe_own O__law_one (hr.mono (by omega)) (by rfl) (pa_cons (pv 0) (pa_cons (pe_ix ix_tup (pv 1) pe_int (fun _ _ => rfl)) pa_nil))) (pg_tup rfl (pgs_cons (pg_name (i := 4) sc__law_pair.nd rfl (.inl rfl)) (pgs_cons (pg_name (i := 5) sc__law_pair.nd rfl (.inl rfl)) pgs_nil))))
      (pss_cons (ps_set (i := 6) sc__law_pair.nd rfl (.inl rfl) (pe_callTy (T := "tuple") call_tuple_of (by rfl) B.b_tuple (by decide +kernel) (pa_cons (pe_lc (own := [("_law_own", 7), ("_law_more", 8)]) (g := gTup _ 2 (gCons (gName 7) (gCons (gName 8) gNil))) (tt := tYes) rfl sc__law_pair.nd (pi_zipA (by rfl) B.b_zip (pa_cons (pv 4) (pa_cons (pv 5) pa_nil))) (blkOk_by (own := [("_law_own", 7), ("_law_more", 8)]) (N := ["_law_deck_here", "_law_market_here", "_law_most", "_law_one_here", "_law_give", "_law_get", "_law_low", "_law_own", "_law_more"]) (sc := defScope s__law_pair) (by decide +kernel)) (fun _ _ _ _ _ => (pg_tup rfl (pgs_cons (pg_name (i := 7) sc__law_pair.nd rfl (.inl rfl)) (pgs_cons (pg_name (i := 8) sc__law_pair.nd rfl (.inl rfl)) pgs_nil)))) (fun _ _ _ _ _ => pts_nil) (fun _ _ _ _ _ => (pe_callB (id := "max") (show CallR _ _ _ from call_max2 rfl) (by rfl) B.b_max (by decide +kernel) (pa_cons pe_int (pa_cons (pe_op op_sub (pv 7) (pv 8)) pa_nil))))) pa_nil)))
      (pss_one (ps_ret (pe_tup (pa_cons (pe_own O__law_plus (hr.mono (by omega)) (by rfl) (pa_cons (pv 3) (pa_cons (pv 6) pa_nil))) (pa_cons (pe_own O__law_plus (hr.mono (by omega)) (by rfl) (pa_cons (pv 3) (pa_cons (pe_own O__law_plus (hr.mono (by omega)) (by rfl) (pa_cons (pv 6) (pa_cons (pe_own O__law_less (hr.mono (by omega)) (by rfl) (pa_cons (pv 5) (pa_cons (pv 4) pa_nil))) pa_nil))) pa_nil))) pa_nil)))))))))), ?_⟩
    obtain ⟨am, tv, ys, rfl, ram, eam, rtv, etv, tys⟩ := id dm.mkt
    have g4 := mok.four
    have m4 := mok.many
    -- one_here = bag(deck, market[0], most)
    refine ⟨_, rfl, _, rfl, am, _, _, _, rfl, rfl, SqT.of eam, rfl, _, rfl, d, c, r, n, g, m, rfl, dk, by omega, by omega, by omega, fun H1 p1 b1 l1 a1 n1 e1 dk1 k1 => ?_⟩
    have rg1 := rg.kp k1 dk1
    have rp1 := rg.new p1 n1
    have hb1 : StkB g m b1 := ⟨l1, a1⟩
    -- draw(2) == 0
    refine ⟨_, rfl, d, c, r, n + g, 2, rfl, dk1, by omega, by decide, by decide, fun H2 v hv dk2 k2 => ?_⟩
    have rg2 := rg1.kp k2 dk2
    have k02 := k1.trans k2
    have dm2 := dm.on (rg.on k02)
    have d2 : Dat R H2 (.ref p1) (bagD b1) := (Dat.mkBag rp1 e1).on (rg1.on k2)
    obtain ⟨_, tv2, ys2, em, _, eam2, rtv2, etv2, tys2⟩ := id dm2.mkt
    cases em
    refine ⟨rfl, _, rfl, ite2 (fun _ => ?_) (fun _ => ?_)⟩
    · -- near
      refine ⟨_, rfl, _, rfl, _, rfl, _, rfl, _, rfl, d, c, r, n + g + 1, 4, rfl, dk2, by omega, by decide, by decide, fun H3 w hw dk3 k3 => ⟨_, _, rfl, rfl, ?_⟩⟩
      dsimp only
      rw [show (1 : Int) + (w : Int) = ((1 + w : Nat) : Int) by omega]
      have rg3 := rg2.kp k3 dk3
      have d3 := d2.on (rg2.on k3)
      refine ⟨R, d, c, r, n + g + 1 + 1, g, m, 1 + w, .ref am, .ref p1, ts, b1, rfl, dk3, by omega, rg3, dm2.on (rg2.on k3), d3, mok, hb1, by omega, fun H4 v4 y hy dy dk4 k4 => ?_⟩
      have rg4 := rg3.kp k4 dk4
      refine ⟨(by show 2 ≤ sizeLine; decide), fun p hp => ?_⟩
      have sp := same_upd (o := .tup [.ref p1, v4]) hp
      exact q _ p _ _ b1 y (rg4.new p hp) upd_same ((d3.on (rg3.on k4)).same sp) (dy.same sp) (hb1.mono (by omega)) (hy.mono (by omega)) ((dk4.same sp).mono (by omega)) (((k02.trans k3).trans k4).trans (Kp.of sp))
    -- two bags
    have bags : ∀ {H3 : Hp} {n3 : Nat} {Q3 : VK}, Dk H3 d c r n3 → n3 + g ≤ n + 20 → Kp d r H2 H3 → (∀ (H4 : Hp) (p4 : Addr) (b4 : List Int), Dat R H4 (.ref p4) (bagD b4) → StkB g m b4 → Dk H4 d c r (n3 + g) → Kp d r H2 H4 → Q3 (.ref p4) H4) → spBag [.ref d, .int (g : Int), .int (m : Int)] H3 Q3 L2.E0 := fun {H3 n3 Q3} dk3 hn3 k3 hq =>
      ⟨d, c, r, n3, g, m, rfl, dk3, by omega, by omega, by omega, fun H4 p4 b4 l4 a4 f4 e4 dk4 k4 => hq H4 p4 b4 (Dat.mkBag ((rg2.kp k3 dk3).new p4 f4) e4) ⟨l4, a4⟩ dk4 (k3.trans k4)⟩
    have fin : ∀ {H3 : Hp} {n3 : Nat}, Dk H3 d c r n3 → n3 + g ≤ n + 20 → Kp d r H2 H3 → spBag [.ref d, .int (g : Int), .int (m : Int)] H3 (fun y H4 => (2 ≤ sizeLine) ∧ ∀ p, H4 p = none → Q (.ref p) (upd H4 p (.tup [.ref p1, y]))) L2.E0 := fun {H3 n3} dk3 hn3 k3 =>
      bags dk3 hn3 k3 fun H4 p4 b4 dt4 hb4 dk4 k4 => ⟨by decide, fun p hp => by
        have sp := same_upd (o := .tup [.ref p1, .ref p4]) hp
        exact q _ p _ _ b1 b4 ((rg2.kp k4 dk4).new p hp) upd_same ((d2.on (rg2.on k4)).same sp) (dt4.same sp) (hb1.mono (by omega)) (hb4.mono (by omega)) ((dk4.same sp).mono (by omega)) ((k02.trans k4).trans (Kp.of sp))⟩
    -- market[1] == ()
    refine ⟨_, rfl, am, _, _, _, rfl, rfl, SqT.of eam2, rfl, (by show 0 ≤ sizeLine; decide), fun p0 hp0 => ?_⟩
    have s0 := same_upd (o := .tup []) hp0
    have e0 : upd H2 p0 (.tup []) p0 = some (.tup []) := upd_same
    generalize upd H2 p0 (.tup []) = H3 at s0 e0 ⊢
    have dts3 : Dat R H3 (.ref tv2) (.tuple (ts.map trdD)) := Dat.same (.tup rtv2 etv2 tys2) s0
    have okT := (trds_ok mok.four mok.all).tuple
    have eam3 := s0 _ _ eam2
    have hq : PyData.eqv (.tuple (ts.map trdD)) (.tuple []) = ts.isEmpty := by
      cases ts with
      | nil => rw [List.map_nil, PyData.eqv, PyData.eqvAll]; rfl
      | cons t tl => rw [List.map_cons, PyData.eqv, PyData.eqvAll]; rfl
    refine ⟨.tuple (ts.map trdD), .tuple [], Dat.dp dts3 (lay_nd (lay_trds ts)), Dat.dp (R := fun _ => True) (.tup trivial e0 .nil) (lay_nd (lay_tup fun d hd => absurd hd List.not_mem_nil)), shaped_of (lay_trds ts) okT (by omega), shaped_bag [], _, rfl, ?_⟩
    rw [hq]
    have dk3 := dk2.same s0
    have rg3 := rg2.same s0
    cases he : ts.isEmpty with
    | true => exact iteT (iteT ⟨_, rfl, _, rfl, _, rfl, am, _, _, _, rfl, rfl, SqT.of eam3, rfl, _, rfl, fin dk3 (by omega) (Kp.of s0)⟩)
    | false =>
      have hne : 0 < ts.length := by
        cases ts with
        | nil => cases he
        | cons t tl => exact Nat.succ_pos _
      refine iteF ⟨_, rfl, d, c, r, n + g + 1, 2, rfl, dk3, by omega, by decide, by decide, fun H4 v4 hv4 dk4 k4 => ⟨rfl, _, rfl, ite2 (fun _ => ?_) (fun _ => ?_)⟩⟩
      · have eam4 : H4 am = some (.tup [.int (g : Int), .ref tv2]) := k4 _ _ (fun z => rg3.nd (z ▸ ram)) (fun z => rg3.nr (z ▸ ram)) eam3
        exact ⟨_, rfl, _, rfl, _, rfl, am, _, _, _, rfl, rfl, SqT.of eam4, rfl, _, rfl, fin dk4 (by omega) ((Kp.of s0).trans k4)⟩
      have eam4 : H4 am = some (.tup [.int (g : Int), .ref tv2]) := k4 _ _ (fun z => rg3.nd (z ▸ ram)) (fun z => rg3.nr (z ▸ ram)) eam3
      have rg4 := rg3.kp k4 dk4
      have dts4 := dts3.on (rg3.on k4)
      obtain ⟨_, ys4, etq, _, etv4, tys4⟩ := dts4.tupI
      cases etq
      have hyl : ys4.length = ts.length := by rw [tys4.length, List.length_map]
      have k24 := (Kp.of s0).trans k4
      -- give, get = one(deck, market[1])
      refine ⟨_, rfl, _, rfl, am, _, _, _, rfl, rfl, SqT.of eam4, rfl, d, c, r, tv2, _, ys4, rfl, dk4, by omega, etv4, fun z => rg4.nd (z ▸ rtv2), fun z => rg4.nr (z ▸ rtv2), by omega, by omega, fun H5 v5 x5 hx5 dk5 k5 => ?_⟩
      obtain ⟨dx, hdx, dtx⟩ := tys4.get' hx5
      rw [List.getElem?_map] at hdx
      obtain ⟨t, ht, rfl⟩ := Option.map_eq_some_iff.mp hdx
      have htm := mok.all t (List.mem_of_getElem? ht)
      have rg5 := rg4.kp k5 dk5
      obtain ⟨ax, u1, u2, rfl, rax, eax, du1, du2⟩ := Dat.pair (dtx.on (rg4.on k5))
      obtain ⟨a1', rfl, ra1, ea1⟩ := du1.bag
      obtain ⟨a2', rfl, ra2, ea2⟩ := du2.bag
      refine ⟨ax, _, rfl, SqT.of eax, rfl, _, _, rfl, _, _, rfl, rfl, ?_⟩
      -- low
      refine ⟨_, rfl, _, rfl, a1', a2', _, _, rfl, .inr ⟨SqT.of ea1, SqT.of ea2, fun L hL => ?_⟩⟩
      have l1' := htm.1.len
      have l2' := htm.2.len
      refine lc_rowW (walk_zipT (n := g) (by rw [List.length_map, l1']) (by rw [List.length_map, List.length_map, l1', l2'])) (fun k => if t.1.getD k 0 - t.2.getD k 0 > 0 then t.1.getD k 0 - t.2.getD k 0 else 0) hL (by omega) (fun H' sm => ⟨same_tup sm (SqT.of ea1), same_tup sm (SqT.of ea2)⟩) ?_ ?_
      · rintro i x H6 H7 Qy hi sm ⟨T, x', y', rfl, hT, rfl, h1, h2⟩ hq
        rw [rowL_of, l1'] at h1
        rw [rowL_of, l2'] at h2
        obtain ⟨_, rfl⟩ := int_row h1
        obtain ⟨_, rfl⟩ := int_row h2
        refine ⟨T, _, rfl, .inl (.inl upd_same), rfl, _, _, rfl, _, _, rfl, rfl, rfl, ?_⟩
        exact ⟨_, rfl, _, rfl, _, _, rfl, rfl, _, _, rfl, hq _ (same_upd hT)⟩
      · intro H6 s6 eL
        rw [rowL_map] at eL
        refine ⟨L, _, rfl, .inl ⟨SqL.of eL, fun p7 hp7 => ?_⟩⟩
        have s7 := same_upd (o := .tup ((rowI g fun k => if t.1.getD k 0 - t.2.getD k 0 > 0 then t.1.getD k 0 - t.2.getD k 0 else 0).map L2.V.int)) hp7
        have e7 : upd H6 p7 (.tup ((rowI g fun k => if t.1.getD k 0 - t.2.getD k 0 > 0 then t.1.getD k 0 - t.2.getD k 0 else 0).map L2.V.int)) p7 = some (.tup ((rowI g fun k => if t.1.getD k 0 - t.2.getD k 0 > 0 then t.1.getD k 0 - t.2.getD k 0 else 0).map L2.V.int)) := upd_same
        generalize upd H6 p7 (.tup ((rowI g fun k => if t.1.getD k 0 - t.2.getD k 0 > 0 then t.1.getD k 0 - t.2.getD k 0 else 0).map L2.V.int)) = H7 at s7 e7 ⊢
        have hlow : StkB g 3 (rowI g fun k => if t.1.getD k 0 - t.2.getD k 0 > 0 then t.1.getD k 0 - t.2.getD k 0 else 0) := by
          refine stk_of (rowI_len _ _) fun i hi => ?_
          rw [rowI_getD hi]
          have h1 := htm.1.stk.get i
          have h2 := htm.2.stk.get i
          split <;> omega
        have hup : StkB g 3 (plusL (rowI g fun k => if t.1.getD k 0 - t.2.getD k 0 > 0 then t.1.getD k 0 - t.2.getD k 0 else 0) (minusL t.2 t.1)) := by
          refine stk_of (by rw [List.length_zipWith, rowI_len, List.length_zipWith, l1', l2', Nat.min_self, Nat.min_self]) fun i hi => ?_
          rw [zip_getD (rowI_len _ _) (by rw [List.length_zipWith, l1', l2', Nat.min_self]) hi, rowI_getD hi, zip_getD l2' l1' hi]
          have h1 := htm.1.stk.get i
          have h2 := htm.2.stk.get i
          split <;> omega
        have hlen : (rowI g fun k => if t.1.getD k 0 - t.2.getD k 0 > 0 then t.1.getD k 0 - t.2.getD k 0 else 0).length = g := rowI_len _ _
        generalize (rowI g fun k => if t.1.getD k 0 - t.2.getD k 0 > 0 then t.1.getD k 0 - t.2.getD k 0 else 0) = low at e7 hlow hup hlen
        have s57 := s6.trans s7
        have k25 := k24.trans k5
        have d5 := d2.on (rg2.on k25)
        obtain ⟨_, ed, _, e5⟩ := d5.bag
        cases ed
        have e57 := s57 _ _ e5
        refine ⟨_, rfl, _, rfl, p1, p7, b1, low, rfl, SqT.of e57, SqT.of e7, by omega, by omega, fun H8 p8 s8 f8 e8 => ?_⟩
        have s58 := s57.trans s8
        refine ⟨_, rfl, _, rfl, _, rfl, _, rfl, a2', a1', t.2, t.1, rfl, SqT.of (s58 _ _ ea2), SqT.of (s58 _ _ ea1), by omega, by omega, fun H9 p9 s9 f9 e9 => ?_⟩
        refine ⟨p7, p9, low, minusL t.2 t.1, rfl, SqT.of (s9 _ _ (s8 _ _ e7)), SqT.of e9, by rw [List.length_zipWith]; omega, by omega, fun H10 p10 s10 f10 e10 => ?_⟩
        refine ⟨p1, p10, b1, plusL low (minusL t.2 t.1), rfl, SqT.of (s10 _ _ (s9 _ _ (s8 _ _ e57))), SqT.of e10, by rw [hup.len]; omega, by omega, fun H11 p11 s11 f11 e11 => ?_⟩
        refine ⟨(by show 2 ≤ sizeLine; decide), fun p12 hp12 => ?_⟩
        have s12 := same_upd (o := .tup [.ref p8, .ref p11]) hp12
        have sA := ((s58.trans s9).trans s10).trans s11
        have r8 : R p8 := rg5.new _ (s57.free f8)
        have r11 : R p11 := rg5.new _ (((s58.trans s9).trans s10).free f11)
        refine q _ p12 _ _ _ _ (rg5.new _ (sA.free hp12)) upd_same (Dat.mkBag r8 (s12 _ _ (s11 _ _ (s10 _ _ (s9 _ _ e8))))) (Dat.mkBag r11 (s12 _ _ e11)) ((plus_bd hb1 hlow).mono (by omega)) ((plus_bd hb1 hup).mono (by omega)) ((dk5.same (sA.trans s12)).mono (by omega)) ((k02.trans k25).trans (Kp.of (sA.trans s12)))

end
end Lb
set_option Elab.async false
set_option linter.all false
set_option maxRecDepth 100000
set_option maxHeartbeats 8000000
namespace Lb
open PySem PySem.Spec PyProof.Rows L2 RZ TL
section
variable {P : Program} {w : World} {K : PySem.W.Frag} {mg : Str → Option Value} {base : Heap}
theorem sc_Grid_trades_for : FnScope ["self", "column", "top", "many"] ["self", "column"] (defScope s_Grid_trades_for) := ⟨rfl, rfl, rfl, by decide +kernel, rfl, by decide +kernel, by decide +kernel⟩
theorem own_gtrades {CG : Addr} (D : DfM K CG "trades_for" "Grid.trades_for" s_Grid_trades_for) (B : Blt mg) (GC : GrdC K CG) : OwnM P w K mg base CG "trades_for" 1 ["self", "column"] (spTradesFor CG) := by
  refine ownM_of D sc_Grid_trades_for (fun _ _ _ _ _ _ us hl => match us, hl with | [_, _], _ => rfl) (fun vs H Q E h => ?_) (fun f cdv A outer s H vs Q E hr h => ?_)
  · obtain ⟨_, _, _, _, _, _, _, _, rfl, _⟩ := h
    rfl
  · obtain ⟨x, dx, H0, n, g, c, T, V, rfl, ga, hcn, q⟩ := h
    refine ⟨_, (pss_cons (ps_set (i := 2) sc_Grid_trades_for.nd rfl (.inr rfl) (pe_ix ix_list (pe_fld (pv 0) rfl) (pv 1) (fun _ _ => rfl)))
      (pss_one (ps_ret (pe_lc (own := [("many", 3)]) (g := gName 3) (tt := tYes) rfl sc_Grid_trades_for.nd (pi_list (pe_slice sl_list (pv 2) (po_some (pe_fld (pv 0) rfl)) po_none)) (blkOk_by (own := [("many", 3)]) (N := ["self", "column", "top", "many"]) (sc := defScope s_Grid_trades_for) (by decide +kernel)) (fun _ _ _ _ _ => (pg_name (i := 3) sc_Grid_trades_for.nd rfl (.inl rfl))) (fun _ _ _ _ _ => pts_nil) (fun _ _ _ _ _ => (pe_ifExp (pt_cmpR op_gt (pe_ix (show IxR _ (rIxL K) from ix_list) (pv 2) (pv 1) (fun _ _ => rfl)) pe_int (nomark _)) (pv 3) (pe_un un_neg (pv 3)))))))), ?_⟩
    obtain ⟨t, l, vs, us, ex, et, el, t0, ntl, rt, rl⟩ := ga.ex
    have g4 := ga.g4
    have n4 := ga.n4
    obtain ⟨r, a1, b1⟩ := rt.at hcn
    refine ⟨_, rfl, x, CG, dx, _, _, rfl, ex, GC.cl, GC.nt, rfl, _, rfl, t, _, _, _, rfl, rfl, SqL.of et, a1, ?_⟩
    refine ⟨_, rfl, _, rfl, x, CG, dx, _, _, rfl, ex, GC.cl, GC.ng, rfl, _, rfl, r, _, rfl, SqL.of b1, fun p hp => ?_⟩
    have ec : cutV (rowL (g + n) (T c)) (some ((g : Nat) : Int)) none = rowL n fun k => T c (g + k) := by
      rw [cut_fromN (by rw [rowL_len]; omega), rowL_drop]
    rw [ec]
    have s1 := same_upd (o := .lst (rowL n fun k => T c (g + k))) hp
    have ep : upd H p (.lst (rowL n fun k => T c (g + k))) p = some (.lst (rowL n fun k => T c (g + k))) := upd_same
    generalize upd H p (.lst (rowL n fun k => T c (g + k))) = H1 at s1 ep ⊢
    refine ⟨p, rfl, ⟨_, SqL.of ep⟩, fun D hD => ?_⟩
    refine lc_rowW (walk_list (xs := rowL n fun k => T c (g + k))) (fun k => Gr.sg (T c c) (T c (g + k))) hD (by rw [rowL_len]; omega) (fun H' sm => SqL.of (sm _ _ ep)) ?_ (fun H' sm eD => by
      rw [rowL_len] at eD
      exact q H' D (s1.trans sm) (s1.free hD) eD)
    rintro i y H2 H3 Qy hi sm ⟨rfl, hy⟩ hq
    obtain ⟨hk, rfl⟩ := int_row hy
    have hq := hq _ (Same.refl _)
    unfold Gr.sg at hq
    by_cases z : 0 < T c c
    · rw [if_pos z] at hq
      refine ⟨rfl, _, rfl, _, rfl, r, _, _, _, rfl, rfl, SqL.of (sm _ _ (s1 _ _ b1)), rowL_at (by omega), _, _, rfl, rfl, _, rfl, ?_⟩
      rw [decide_eq_true z]
      exact iteT ⟨_, rfl, hq⟩
    · rw [if_neg z] at hq
      refine ⟨rfl, _, rfl, _, rfl, r, _, _, _, rfl, rfl, SqL.of (sm _ _ (s1 _ _ b1)), rowL_at (by omega), _, _, rfl, rfl, _, rfl, ?_⟩
      rw [decide_eq_false z]
      exact iteF ⟨_, rfl, _, rfl, hq⟩

end
end Lb
set_option Elab.async false
set_option linter.all false
set_option maxRecDepth 100000
set_option maxHeartbeats 8000000
namespace Lb
open PySem PySem.Spec PyProof.Rows L2 RZ TL
section
variable {P : Program} {w : World} {K : PySem.W.Frag} {mg : Str → Option Value} {base : Heap}
theorem dot_rowL (g : Nat) (x y : Nat → Int) : (rowI g fun k => x k * y k).sum = Gr.dot g x y := by
  induction g with
  | zero => rfl
  | succ g ih =>
    show ((List.range (g + 1)).map fun k => x k * y k).sum = Gr.dot g x y + x g * y g
    rw [List.range_succ, List.map_append, List.sum_append, ← ih]
    show _ + (x g * y g + 0) = _
    rw [Int.add_zero]
theorem sc_worth : FnScope ["weights", "bag", "weight", "amount"] ["weights", "bag"] (defScope s_worth) := ⟨rfl, rfl, rfl, by decide +kernel, rfl, by decide +kernel, by decide +kernel⟩
theorem own_worthP (D : Df K mg "worth" s_worth) (B : Blt mg) : Own P w K mg base "worth" 1 ["weights", "bag"] spWorthP := by
  refine own_of D sc_worth (fun _ _ _ _ _ _ us hl => match us, hl with | [_, _], _ => rfl) (fun vs H Q E h => ?_) (fun f cdv A outer s H vs Q E hr h => ?_)
  · obtain ⟨_, _, _, _, _, rfl, _⟩ := h
    rfl
  · obtain ⟨a, b, g, fn, gn, rfl, ea, eb, hg, hm, q⟩ := h
    refine ⟨_, (pss_one (ps_ret (pe_callB (id := "sum") (cr_sum rfl) (by rfl) B.b_sum (by decide +kernel) (pa_cons (pe_lc (own := [("weight", 2), ("amount", 3)]) (g := gTup _ 2 (gCons (gName 2) (gCons (gName 3) gNil))) (tt := tYes) rfl sc_worth.nd (pi_zipA (by rfl) B.b_zip (pa_cons (pv 0) (pa_cons (pv 1) pa_nil))) (blkOk_by (own := [("weight", 2), ("amount", 3)]) (N := ["weights", "bag", "weight", "amount"]) (sc := defScope s_worth) (by decide +kernel)) (fun _ _ _ _ _ => (pg_tup rfl (pgs_cons (pg_name (i := 2) sc_worth.nd rfl (.inl rfl)) (pgs_cons (pg_name (i := 3) sc_worth.nd rfl (.inl rfl)) pgs_nil)))) (fun _ _ _ _ _ => pts_nil) (fun _ _ _ _ _ => (pe_op op_mulW (pv 2) (pv 3)))) pa_nil)))), ?_⟩
    refine ⟨_, rfl, _, rfl, a, b, _, _, rfl, .inl ⟨SqL.of ea, SqL.of eb, fun D hD => ?_⟩⟩
    refine lc_rowW (walk_zip (xs := rowL g fn) (ys := rowL g gn) (n := g) (by rw [rowL_len, rowL_len, Nat.min_self])) (fun k => fn k * gn k) hD (by omega) (fun H' sm => ⟨SqL.of (sm _ _ ea), SqL.of (sm _ _ eb)⟩) ?_ ?_
    · rintro i x H2 H3 Qy hi sm ⟨T, x', y', rfl, hT, rfl, h1, h2⟩ hq
      obtain ⟨_, rfl⟩ := int_row h1
      obtain ⟨_, rfl⟩ := int_row h2
      refine ⟨T, _, rfl, .inl (.inl upd_same), rfl, _, _, rfl, _, _, rfl, rfl, rfl, ?_⟩
      exact ⟨_, rfl, _, rfl, _, _, rfl, rfl, hm i hi, hq _ (same_upd hT)⟩
    · intro H2 s2 eD
      rw [rowL_map] at eD
      refine ⟨D, _, rfl, SqL.of eD, ?_⟩
      rw [dot_rowL]
      exact q H2 s2

end
end Lb
set_option Elab.async false
set_option linter.all false
set_option maxRecDepth 100000
set_option maxHeartbeats 8000000
namespace Lb
open PySem PySem.Spec PyProof.Rows L2 RZ TL
section
variable {P : Program} {w : World} {K : PySem.W.Frag} {mg : Str → Option Value} {base : Heap}
theorem rep_row (n : Nat) : (List.replicate n [L2.V.int 0]).flatten = rowL n fun _ => 0 := by
  induction n with
  | zero => rfl
  | succ n ih =>
    rw [List.replicate_succ', List.flatten_append, ih, rowL_succ]
    rfl
theorem sc_net : FnScope ["market", "one", "other", "grid", "change", "numbers", "column", "wanted", "modulus", "times", "number", "many"] ["market", "one", "other"] (defScope s_net) := ⟨rfl, rfl, rfl, by decide +kernel, rfl, by decide +kernel, by decide +kernel⟩
theorem own_net {CG : Addr} (D : Df K mg "net" s_net) (B : Blt mg) (GC : GrdC K CG) (O_grid_of : Own P w K mg base "grid_of" 4 ["market"] (spGridOf CG)) (O_gains : Own P w K mg base "gains" 1 ["trade"] (spGains K)) (O_worth : Own P w K mg base "worth" 1 ["weights", "bag"] spWorthP)
    (M_modulus : OwnM P w K mg base CG "modulus" 1 ["self", "column"] (spModulus CG)) (M_weights : OwnM P w K mg base CG "weights" 1 ["self", "column"] (spWeights CG)) (M_trades_for : OwnM P w K mg base CG "trades_for" 1 ["self", "column"] (spTradesFor CG)) : Own P w K mg base "net" 5 ["market", "one", "other"] spNet := by
  refine own_of D sc_net (fun _ _ _ _ _ _ us hl => match us, hl with | [_, _, _], _ => rfl) (fun vs H Q E h => ?_) (fun f cdv A outer s H vs Q E hr h => ?_)
  · obtain ⟨_, _, _, _, _, _, _, _, rfl, _⟩ := h
    rfl
  · obtain ⟨mv, ov, uv, g, ts, S, x, y, rfl, ⟨mkv, mok, ⟨k, run⟩, ⟨ao, rfl, eo⟩, ⟨au, rfl, eu⟩, hx, hy⟩, q⟩ := h
    refine ⟨_, (pss_cons (ps_set (i := 3) sc_net.nd rfl (.inl rfl) (pe_own O_grid_of (hr.mono (by omega)) (by rfl) (pa_cons (pv 0) pa_nil)))
      (pss_cons (ps_set (i := 4) sc_net.nd rfl (.inl rfl) (pe_own O_gains (hr.mono (by omega)) (by rfl) (pa_cons (pe_tup (pa_cons (pv 1) (pa_cons (pv 2) pa_nil))) pa_nil)))
      (pss_cons (ps_set (i := 5) sc_net.nd rfl (.inl rfl) (pe_op op_rep (pe_lst (pa_cons pe_int pa_nil)) (pe_callB (id := "len") call_len_seq (by rfl) B.b_len PySem.boot_len (pa_cons (pe_ix ix_tup (pv 0) pe_int (fun _ _ => rfl)) pa_nil))))
      (pss_cons (ps_for PassesOwn.never rfl (pi_range1 (by rfl) B.b_range (pa_cons (pe_ix ix_tup (pv 0) pe_int (fun _ _ => rfl)) pa_nil)) (pg_name (i := 6) sc_net.nd rfl (.inl rfl))
        (pss_cons (ps_set (i := 7) sc_net.nd rfl (.inl rfl) (pe_own O_worth (hr.mono (by omega)) (by rfl) (pa_cons (pe_methX (pv 3) GC.cl M_weights (hr.mono (by omega)) passX0 (pa_cons (pv 6) pa_nil)) (pa_cons (pv 4) pa_nil))))
      (pss_cons (ps_set (i := 8) sc_net.nd rfl (.inl rfl) (pe_methX (pv 3) GC.cl M_modulus (hr.mono (by omega)) passX0 (pa_cons (pv 6) pa_nil)))
      (pss_one (ps_if (PW.pt (pw_and (pt_cmpR op_gt (pv 8) pe_int (nomark _)) (pw_and1 (pt_cmpR op_eq (pe_op op_mod (pv 7) (pv 8)) pe_int (nomark _))))) (pss_cons (ps_set (i := 9) sc_net.nd rfl (.inr rfl) (pe_op op_fdivW (pv 7) (pv 8)))
      (pss_one (ps_setLc (i := 5) (own := [("number", 10), ("many", 11)]) (g := gTup _ 2 (gCons (gName 10) (gCons (gName 11) gNil))) (tt := tYes) rfl sc_net.nd rfl rfl (sw_true rfl rfl rfl (by decide +kernel)) (pi_zipA (by rfl) B.b_zip (pa_cons (pv 5) (pa_cons (pe_methX (pv 3) GC.cl M_trades_for (hr.mono (by omega)) passX0 (pa_cons (pv 6) pa_nil)) pa_nil))) (blkOk_by (own := [("number", 10), ("many", 11)]) (N := ["market", "one", "other", "grid", "change", "numbers", "column", "wanted", "modulus", "times", "number", "many"]) (sc := defScope s_net) (by decide +kernel)) (fun _ _ _ _ _ => (pg_tup rfl (pgs_cons (pg_name (i := 10) sc_net.nd rfl (.inl rfl)) (pgs_cons (pg_name (i := 11) sc_net.nd rfl (.inl rfl)) pgs_nil)))) (fun _ _ _ _ _ => pts_nil) (fun _ _ _ _ _ => (pe_op op_add (pv 10) (pe_op op_mulW (pv 9) (pv 11))))))) (pss_one (ps_if (pt_cmpR op_ne (pv 7) pe_int (nomark _)) (pss_one (ps_ret pe_non)) pss_nil)))))))
      (pss_one (ps_ret (pe_callTy (T := "tuple") call_tuple_of (by rfl) B.b_tuple (by decide +kernel) (pa_cons (pv 5) pa_nil)))))))), ?_⟩
    have g1 := mok.one
    have g4 := mok.four
    have n4 := mok.many
    have la := Gr.lastly run
    obtain ⟨am, tv, ys, rfl, _, eam, _, etv, tys⟩ := (mkv.dat (R := fun _ => True) (fun _ _ _ => trivial)).mkt
    have hyl : ys.length = ts.length := by rw [tys.length, List.length_map]
    have hch : ∀ j, j < g → (gain (x, y) j).natAbs ≤ 1000 := fun j _ => gain_bd hx hy j
    -- grid
    refine ⟨_, rfl, .ref am, g, k, ts, S, rfl, mkv, mok, run, fun H1 gx gdx ga => ?_⟩
    -- change
    refine ⟨_, rfl, _, rfl, (by show 2 ≤ sizeLine; decide), fun p hp => ?_⟩
    have s2 := same_upd (o := .tup [.ref ao, .ref au]) hp
    have ep : upd H1 p (.tup [.ref ao, .ref au]) p = some (.tup [.ref ao, .ref au]) := upd_same
    generalize upd H1 p (.tup [.ref ao, .ref au]) = H2 at s2 ep ⊢
    have s02 := ga.same.trans s2
    refine ⟨p, ao, au, (x, y), rfl, ep, s02 _ _ eo, s02 _ _ eu, by rw [hx.len, hy.len], by rw [hx.len]; omega, fun H3 c s3 f3 ec => ?_⟩
    rw [hx.len] at ec
    have s03 := s02.trans s3
    -- numbers
    refine ⟨(by show 1 ≤ sizeLine; decide), fun p4 hp4 => ?_⟩
    have s4 := same_upd (o := .lst [.int 0]) hp4
    have e4 : upd H3 p4 (.lst [.int 0]) p4 = some (.lst [.int 0]) := upd_same
    generalize upd H3 p4 (.lst [.int 0]) = H4 at s4 e4 ⊢
    have s04 := s03.trans s4
    refine ⟨_, rfl, am, _, _, _, rfl, rfl, SqT.of (s04 _ _ eam), rfl, tv, _, rfl, .inr (SqT.of (s04 _ _ etv)), p4, _, _, rfl, rfl, e4, by omega, by omega, by rw [sizeLine_eq]; show 1 * _ ≤ _; omega, fun p5 hp5 => ?_⟩
    rw [hyl, show ((ts.length : Nat) : Int).toNat = ts.length by omega, rep_row]
    have s5 := same_upd (o := .lst (rowL ts.length fun _ => 0)) hp5
    have e5 : upd H4 p5 (.lst (rowL ts.length fun _ => 0)) p5 = some (.lst (rowL ts.length fun _ => 0)) := upd_same
    generalize upd H4 p5 (.lst (rowL ts.length fun _ => 0)) = H5 at s5 e5 ⊢
    have s05 := s04.trans s5
    have s35 := s4.trans s5
    have ga5 := ga.keep ((s2.trans s3).trans s35)
    -- for column in range(market[0])
    refine ⟨_, rfl, am, _, _, _, rfl, rfl, SqT.of (s05 _ _ eam), rfl, (g : Int), rfl, by omega, by omega, ?_⟩
    rw [show ((g : Nat) : Int).toNat = g by omega]
    refine for_it (walk_range (lo := 0) (n := g)) (fun i σ H' => ∃ L N y6 y7 y8 y9 y10 y11, σ = [some (.ref am), some (.ref ao), some (.ref au), some (.ref gx), some (.ref c), some (.ref L), y6, y7, y8, y9, y10, y11] ∧ Gr.netN ts.length g S (gain (x, y)) i = some N ∧ H' L = some (.lst (rowL ts.length N)) ∧ GrAt CG H H' gx gdx ts.length g S.T S.V ∧ Same H5 H')
      ⟨p5, fun _ => 0, none, none, none, none, none, none, rfl, rfl, e5, ga5, Same.refl _⟩ (fun _ _ _ _ _ => trivial) ?_ ?_
    · rintro i z σ H6 H7 hi ⟨L, N, y6, y7, y8, y9, y10, y11, rfl, hN, eL, ga7, s7⟩ ⟨rfl, rfl⟩
      dsimp only
      rw [Int.zero_add]
      obtain ⟨t, l, vs', us', ex7, _⟩ := id ga7.ex
      have ec7 := s7 _ _ (s35 _ _ ec)
      have hw := wsum_bd la hi hch
      have ew : Gr.dot g (fun k => S.V k i) (gain (x, y)) = Gr.wsum g S i (gain (x, y)) := Gr.dot_comm _ _ _
      have b400 : Gr.BB = 2 ^ 400 := rfl
      have hwl : (Gr.wsum g S i (gain (x, y))).natAbs ≤ 2 ^ 412 := by
        refine Nat.le_trans hw ?_
        refine Nat.le_trans (Nat.mul_le_mul_right _ g4) ?_
        decide +kernel
      refine ⟨_, rfl, gx, gdx, _, rfl, ex7, rfl, _, rfl, gx, gdx, H, ts.length, g, i, S.T, S.V, rfl, ga7, hi, fun H8 w8 s8 f8 e8 => ⟨_, rfl, w8, c, g, _, gain (x, y), rfl, e8, s8 _ _ ec7, by omega, fun j hj => ?_, fun H9 s9 => ?_⟩⟩
      · have h1 := log_ofL (k := 400) (la.bd.v j i hj hi)
        have h2 := log_ofL (k := 10) (Nat.le_trans (hch j hj) (by decide))
        show _ + _ < 1000000
        omega
      rw [ew]
      have s79 := s8.trans s9
      have ga9 := ga7.keep s79
      have ex9 := s79 _ _ ex7
      have eL9 := s79 _ _ eL
      refine ⟨_, rfl, gx, gdx, _, rfl, ex9, rfl, _, rfl, gx, gdx, H, ts.length, g, i, S.T, S.V, rfl, ga9, hi, ?_⟩
      have hstep : Gr.netN ts.length g S (gain (x, y)) (i + 1) = (if 0 < Gr.dg ts.length S.T i ∧ Gr.wsum g S i (gain (x, y)) % (Gr.dg ts.length S.T i : Int) = 0 then some fun k => N k + Gr.wsum g S i (gain (x, y)) / (Gr.dg ts.length S.T i : Int) * Gr.sg (S.T i i) (S.T i (g + k))
          else if Gr.wsum g S i (gain (x, y)) ≠ 0 then none else some N) := by
        rw [Gr.netN, hN]
        rfl
      have hdl := log_ofL (k := 400) (Gr.dg_bd la hi)
      have hdn : 0 < Gr.dg ts.length S.T i → i < ts.length := fun h => by
        unfold Gr.dg at h
        split at h
        · assumption
        · omega
      have hql : ∀ dd : Int, dd ≠ 0 → (Gr.wsum g S i (gain (x, y)) / dd).natAbs.log2 ≤ 412 ∨ dd < 0 := fun dd hd => by
        rcases Int.lt_or_le dd 0 with q1 | q1
        · exact .inr q1
        · exact .inl (log_ofL (Nat.le_trans (Gr.ediv_natAbs _ (by omega)) hwl))
      generalize Gr.wsum g S i (gain (x, y)) = ww at hstep hql ⊢
      generalize hdd : Gr.dg ts.length S.T i = dd at hstep hdl hdn ⊢
      clear hwl hw ew
      have none_of : Gr.netN ts.length g S (gain (x, y)) (i + 1) = none → Gr.netN ts.length g S (gain (x, y)) g = none := fun h => by
        obtain ⟨j, h1, h2⟩ := (Gr.net_none (i + 1)).mp h
        exact (Gr.net_none g).mpr ⟨j, by omega, h2⟩
      have sH9 := s05.trans (s7.trans s79)
      -- the rest, where nothing is taken
      have rest : (¬ (0 < dd ∧ ww % (dd : Int) = 0)) → (ww ≠ 0 → Q .non H9) ∧ (¬ ww ≠ 0 → Gr.netN ts.length g S (gain (x, y)) (i + 1) = some N) := fun hc => by
        rw [if_neg hc] at hstep
        refine ⟨fun h => ?_, fun h => ?_⟩
        · rw [if_pos h] at hstep
          refine q H9 .non sH9 ?_
          rw [none_of hstep]
          rfl
        · rw [if_neg h] at hstep
          exact hstep
      refine ⟨_, rfl, _, _, rfl, rfl, _, rfl, ite2 (fun h1 => ?_) (fun h1 => ?_)⟩
      · have h1 : 0 < dd := by
          have := of_decide_eq_true h1
          omega
        refine ⟨_, rfl, _, rfl, _, _, rfl, rfl, by omega, rfl, _, rfl, ite2 (fun h2 => ?_) (fun h2 => ?_)⟩
        · have h2 : ww % (dd : Int) = 0 := L2.V.int.inj (of_decide_eq_true h2)
          rw [if_pos ⟨h1, h2⟩] at hstep
          have hin := hdn h1
          have hq1 : (ww / (dd : Int)).natAbs.log2 ≤ 412 := by
            rcases hql (dd : Int) (by omega) with h | h
            · exact h
            · omega
          refine ⟨_, rfl, _, rfl, _, _, rfl, rfl, ⟨by omega, by show (dd : Nat).log2 < 9000; omega⟩, ?_⟩
          dsimp only
          refine ⟨_, rfl, _, rfl, gx, gdx, _, rfl, ex9, rfl, _, rfl, gx, gdx, H, ts.length, g, i, S.T, S.V, rfl, ga9, hin, fun H10 q10 s10 f10 e10 => ⟨L, q10, _, _, rfl, .inl ⟨SqL.of (s10 _ _ eL9), SqL.of e10, fun D hD => ?_⟩⟩⟩
          refine lc_rowW (walk_zip (xs := rowL ts.length N) (ys := rowL ts.length fun k => Gr.sg (S.T i i) (S.T i (g + k))) (n := ts.length) (by rw [rowL_len, rowL_len, Nat.min_self])) (fun k => N k + ww / (dd : Int) * Gr.sg (S.T i i) (S.T i (g + k))) hD (by omega) (fun H' sm => ⟨SqL.of (sm _ _ (s10 _ _ eL9)), SqL.of (sm _ _ e10)⟩) ?_ ?_
          · rintro j x' H11 H12 Qy hj sm ⟨T', x'', y'', rfl, hT, rfl, h3, h4⟩ hq
            obtain ⟨_, rfl⟩ := int_row h3
            obtain ⟨_, rfl⟩ := int_row h4
            have h5 := log_ofL (k := 400) (la.bd.t i (g + j) hin (by omega))
            rw [← sg_abs (S.T i i)] at h5
            refine ⟨T', _, rfl, .inl (.inl upd_same), rfl, _, _, rfl, _, _, rfl, rfl, rfl, ?_⟩
            exact ⟨_, rfl, _, rfl, _, rfl, _, _, rfl, rfl, (show _ + _ < 1000000 by omega), _, _, rfl, rfl, hq _ (same_upd hT)⟩
          · intro H11 s11 eD
            exact ⟨D, _, _, _, _, _, _, _, rfl, hstep, eD, ga9.keep (s10.trans s11), (s7.trans s79).trans (s10.trans s11)⟩
        · have h2' : ¬ (0 < dd ∧ ww % (dd : Int) = 0) := fun h => h2 (decide_eq_true (congrArg L2.V.int h.2))
          obtain ⟨r1, r2⟩ := rest h2'
          refine ⟨_, rfl, rfl, _, rfl, ite2 (fun h3 => ?_) (fun h3 => ?_)⟩
          · refine r1 fun h => ?_
            rw [decide_eq_true (congrArg L2.V.int h)] at h3
            exact nomatch h3
          · exact ⟨L, N, _, _, _, _, _, _, rfl, r2 fun h => h3 (by rw [decide_eq_false (fun z => h (L2.V.int.inj z))]; rfl), eL9, ga9, s7.trans s79⟩
      · have h2' : ¬ (0 < dd ∧ ww % (dd : Int) = 0) := fun h => h1 (decide_eq_true (by omega))
        obtain ⟨r1, r2⟩ := rest h2'
        refine ⟨_, rfl, rfl, _, rfl, ite2 (fun h3 => ?_) (fun h3 => ?_)⟩
        · refine r1 fun h => ?_
          rw [decide_eq_true (congrArg L2.V.int h)] at h3
          exact nomatch h3
        · exact ⟨L, N, _, _, _, _, _, _, rfl, r2 fun h => h3 (by rw [decide_eq_false (fun z => h (L2.V.int.inj z))]; rfl), eL9, ga9, s7.trans s79⟩
    · rintro σ H6 ⟨L, N, y6, y7, y8, y9, y10, y11, rfl, hN, eL, ga6, s6⟩
      rw [rowL_map] at eL
      refine ⟨_, rfl, L, _, rfl, .inl ⟨SqL.of eL, fun p6 hp6 => ?_⟩⟩
      have sH := s05.trans s6
      refine q _ _ (sH.trans (same_upd hp6)) ?_
      rw [hN]
      exact Dat.mkBag (sH.free hp6) upd_same

end
end Lb
set_option Elab.async false
set_option linter.all false
set_option maxRecDepth 100000
set_option maxHeartbeats 8000000
namespace Lb
open PySem PySem.Spec PyProof.Rows L2 RZ TL
section
variable {P : Program} {w : World} {K : PySem.W.Frag} {mg : Str → Option Value} {base : Heap}
theorem sc__law_change : FnScope ["_law_market_here", "_law_numbers", "_law_found", "_law_give", "_law_get", "_law_many", "_law_change_here", "_law_own", "_law_more"] ["_law_market_here", "_law_numbers"] (defScope s__law_change) := ⟨rfl, rfl, rfl, by decide +kernel, rfl, by decide +kernel, by decide +kernel⟩
theorem own_change (l : Bool) (D : Df K mg "_law_change" s__law_change) (B : Blt mg) (O__law_less : Own P w K mg base "_law_less" 1 ["_law_one_here", "_law_other"] (spMinus K)) : Own P w K mg base "_law_change" 2 ["_law_market_here", "_law_numbers"] (spChange l K) := by
  refine own_of D sc__law_change (fun _ _ _ _ _ _ us hl => match us, hl with | [_, _], _ => rfl) (fun vs H Q E h => ?_) (fun f cdv A outer s H vs Q E hr h => ?_)
  · obtain ⟨_, _, _, _, _, _, rfl, _⟩ := h
    rfl
  · obtain ⟨R, na, mv, g, ts, ns, rfl, dm, mok, sq, hl, hz, q⟩ := h
    refine ⟨_, (pss_cons (ps_set (i := 2) sc__law_change.nd rfl (.inl rfl) (pe_op op_rep (pe_lst (pa_cons pe_int pa_nil)) (pe_ix ix_tup (pv 0) pe_int (fun _ _ => rfl))))
      (pss_cons (ps_for PassesOwn.never rfl (pi_zipM false l (by rfl) B.b_zip (pa_cons (pe_ix ix_tup (pv 0) pe_int (fun _ _ => rfl)) (pa_cons (pv 1) pa_nil))) (pg_tup rfl (pgs_cons (pg_tup rfl (pgs_cons (pg_name (i := 3) sc__law_change.nd rfl (.inl rfl)) (pgs_cons (pg_name (i := 4) sc__law_change.nd rfl (.inl rfl)) pgs_nil))) (pgs_cons (pg_name (i := 5) sc__law_change.nd rfl (.inr rfl)) pgs_nil)))
        (pss_cons (ps_set (i := 6) sc__law_change.nd rfl (.inl rfl) (pe_own O__law_less (hr.mono (by omega)) (by rfl) (pa_cons (pv 4) (pa_cons (pv 3) pa_nil))))
      (pss_one (ps_setLc (i := 2) (own := [("_law_own", 7), ("_law_more", 8)]) (g := gTup _ 2 (gCons (gName 7) (gCons (gName 8) gNil))) (tt := tYes) rfl sc__law_change.nd rfl rfl (sw_true rfl rfl rfl (by decide +kernel)) (pi_zipM true false (by rfl) B.b_zip (pa_cons (pv 2) (pa_cons (pv 6) pa_nil))) (blkOk_by (own := [("_law_own", 7), ("_law_more", 8)]) (N := ["_law_market_here", "_law_numbers", "_law_found", "_law_give", "_law_get", "_law_many", "_law_change_here", "_law_own", "_law_more"]) (sc := defScope s__law_change) (by decide +kernel)) (fun _ _ _ _ _ => (pg_tup rfl (pgs_cons (pg_name (i := 7) sc__law_change.nd rfl (.inl rfl)) (pgs_cons (pg_name (i := 8) sc__law_change.nd rfl (.inl rfl)) pgs_nil)))) (fun _ _ _ _ _ => pts_nil) (fun _ _ _ _ _ => (pe_op op_add (pv 7) (pe_op op_mulW (pv 5) (pv 8))))))))
      (pss_one (ps_ret (pv 2))))), ?_⟩
    obtain ⟨am, tv, ys, rfl, ram, eam, rtv, etv, tys⟩ := id dm.mkt
    have g4 := mok.four
    have n4 := mok.many
    have hyl : ys.length = ts.length := by rw [tys.length, List.length_map]
    -- found = [0] * market[0]
    refine ⟨(by show 1 ≤ sizeLine; decide), fun p1 hp1 => ?_⟩
    have s1 := same_upd (o := .lst [.int 0]) hp1
    have e1 : upd H p1 (.lst [.int 0]) p1 = some (.lst [.int 0]) := upd_same
    generalize upd H p1 (.lst [.int 0]) = H1 at s1 e1 ⊢
    refine ⟨_, rfl, am, _, _, _, rfl, rfl, SqT.of (s1 _ _ eam), rfl, p1, _, _, rfl, rfl, e1, by omega, by omega, by rw [sizeLine_eq]; show 1 * _ ≤ _; omega, fun p2 hp2 => ?_⟩
    rw [show ((g : Nat) : Int).toNat = g by omega, rep_row0]
    have s2 := same_upd (o := .lst (rowL g fun _ => 0)) hp2
    have e2 : upd H1 p2 (.lst (rowL g fun _ => 0)) p2 = some (.lst (rowL g fun _ => 0)) := upd_same
    generalize upd H1 p2 (.lst (rowL g fun _ => 0)) = H2 at s2 e2 ⊢
    have s02 := s1.trans s2
    have n2 : H p2 = none := s1.free hp2
    -- for (give, get), many in zip(market[1], numbers)
    refine ⟨_, rfl, am, _, _, _, rfl, rfl, SqT.of (s02 _ _ eam), rfl, _, rfl, tv, na, ys, ns.map L2.V.int, rfl, SqT.of (s02 _ _ etv), sq.same s02, ?_⟩
    refine for_it (walk_zipM (k := false) (l := l) (xs := ys) (ys := ns.map L2.V.int) (n := ts.length) hyl.symm (by rw [List.length_map, hyl, hl])) (fun k σ H' => ∃ L y3 y4 y5 y6 y7 y8, σ = [some (.ref am), some (.ref na), some (.ref L), y3, y4, y5, y6, y7, y8] ∧ H L = none ∧ H' L = some (.lst (rowL g fun m => Gr.dot k (fun j => ns.getD j 0) fun j => mA ts j m)) ∧ Same H2 H')
      ⟨p2, none, none, none, none, none, none, rfl, n2, e2, Same.refl _⟩ (fun k σ H' _ hP => by
        obtain ⟨_, _, _, _, _, _, _, _, _, _, sm⟩ := hP
        exact ⟨SqT.of (sm _ _ (s02 _ _ etv)), sq.same (s02.trans sm)⟩) ?_ ?_
    · rintro k z σ H3 H4 hk ⟨L, y3, y4, y5, y6, y7, y8, rfl, fL, eL, sm⟩ ⟨T, x', y', rfl, hT, rfl, h1, h2⟩
      obtain ⟨u, rfl, hu⟩ := int_at h2
      obtain ⟨dx, hdx, dtx⟩ := tys.get' h1
      rw [List.getElem?_map] at hdx
      obtain ⟨t, ht, rfl⟩ := Option.map_eq_some_iff.mp hdx
      have htm := mok.all t (List.mem_of_getElem? ht)
      obtain ⟨ax, u1, u2, rfl, rax, eax, du1, du2⟩ := Dat.pair dtx
      obtain ⟨a1', rfl, ra1, ea1⟩ := du1.bag
      obtain ⟨a2', rfl, ra2, ea2⟩ := du2.bag
      have sT := same_upd (H := H3) (o := .tup [.ref ax, .int u]) hT
      have eT : upd H3 T (.tup [.ref ax, .int u]) T = some (.tup [.ref ax, .int u]) := upd_same
      generalize upd H3 T (.tup [.ref ax, .int u]) = H4 at sT eT ⊢
      have s04 := (s02.trans sm).trans sT
      have l1' := htm.1.len
      have l2' := htm.2.len
      refine ⟨T, _, rfl, SqT.of eT, rfl, _, _, rfl, ax, _, rfl, SqT.of (s04 _ _ eax), rfl, _, _, rfl, _, _, rfl, rfl, _, _, rfl, rfl, ?_⟩
      refine ⟨_, rfl, _, rfl, a2', a1', t.2, t.1, rfl, SqT.of (s04 _ _ ea2), SqT.of (s04 _ _ ea1), by omega, by omega, fun H5 p5 s5 f5 e5 => ?_⟩
      rw [minus_row l1' l2'] at e5
      have eL5 := s5 _ _ (sT _ _ eL)
      have s05 := s04.trans s5
      refine ⟨_, rfl, _, rfl, L, p5, _, _, rfl, SqL.of eL5, SqT.of e5, fun D hD => ?_⟩
      refine lc_rowW (walk_zipM (k := true) (l := false) (xs := rowL g fun m => Gr.dot k (fun j => ns.getD j 0) fun j => mA ts j m) (ys := rowL g (gain t)) (n := g) (by rw [rowL_len]) (by rw [rowL_len, rowL_len])) (fun m => Gr.dot (k + 1) (fun j => ns.getD j 0) fun j => mA ts j m) hD (by omega) (fun H' sm' => ⟨SqL.of (sm' _ _ eL5), SqT.of (sm' _ _ e5)⟩) ?_ ?_
      · rintro m z' H6 H7 Qy hm sm' ⟨T', x'', y'', rfl, hT', rfl, h3, h4⟩ hq
        obtain ⟨_, rfl⟩ := int_row h3
        obtain ⟨_, rfl⟩ := int_row h4
        have eq' : Gr.dot (k + 1) (fun j => ns.getD j 0) (fun j => mA ts j m) = Gr.dot k (fun j => ns.getD j 0) (fun j => mA ts j m) + u * gain t m := by
          show Gr.dot k (fun j => ns.getD j 0) (fun j => mA ts j m) + ns.getD k 0 * mA ts k m = _
          rw [int_getD hu, mA_at ht]
        rw [eq'] at hq
        have hg1 : (gain t m).natAbs.log2 ≤ 2 := by
          refine log_ofL (k := 2) ?_
          have h1 := htm.1.stk.get m
          have h2 := htm.2.stk.get m
          show (t.2.getD m 0 - t.1.getD m 0).natAbs ≤ 4
          omega
        have hu1 := hz u (List.mem_of_getElem? hu)
        refine ⟨T', _, rfl, .inl (.inl upd_same), rfl, _, _, rfl, _, _, rfl, rfl, rfl, ?_⟩
        exact ⟨_, rfl, _, rfl, _, rfl, _, _, rfl, rfl, (show _ + _ < 1000000 by omega), _, _, rfl, rfl, hq _ (same_upd hT')⟩
      · intro H6 s6 eD
        exact ⟨D, _, _, _, _, _, _, rfl, s05.free hD, eD, ((sm.trans sT).trans s5).trans s6⟩
    · rintro σ H3 ⟨L, y3, y4, y5, y6, y7, y8, rfl, fL, eL, sm⟩
      exact ⟨_, rfl, q H3 L (s02.trans sm) fL eL⟩

end
end Lb
set_option Elab.async false
set_option linter.all false
set_option maxRecDepth 100000
set_option maxHeartbeats 8000000
namespace Lb
open PySem PySem.Spec PyProof.Rows L2 RZ TL
section
variable {P : Program} {w : World} {K : PySem.W.Frag} {mg : Str → Option Value} {base : Heap}
theorem sc__law_agreeing : FnScope ["_law_deck_here", "_law_market_here", "_law_most", "_law_change_here", "_law_trade_here", "_law_one_here", "_law_own", "_law_other", "_law_more"] ["_law_deck_here", "_law_market_here", "_law_most"] (defScope s__law_agreeing) := ⟨rfl, rfl, rfl, by decide +kernel, rfl, by decide +kernel, by decide +kernel⟩
theorem own_agreeing (D : Df K mg "_law_agreeing" s__law_agreeing) (B : Blt mg) (O__law_draw : Own P w K mg base "_law_draw" 1 ["_law_deck_here", "_law_many"] spDraw) (O__law_bag : Own P w K mg base "_law_bag" 2 ["_law_deck_here", "_law_goods", "_law_most"] spBag) (O__law_change : Own P w K mg base "_law_change" 2 ["_law_market_here", "_law_numbers"] (spChange true K)) : Own P w K mg base "_law_agreeing" 4 ["_law_deck_here", "_law_market_here", "_law_most"] spAgreeing := by
  refine own_of D sc__law_agreeing (fun _ _ _ _ _ _ us hl => match us, hl with | [_, _, _], _ => rfl) (fun vs H Q E h => ?_) (fun f cdv A outer s H vs Q E hr h => ?_)
  · obtain ⟨_, _, _, _, _, _, _, _, rfl, _⟩ := h
    rfl
  · obtain ⟨R, d, c, r, n, g, mv, ts, rfl, dk, hn, rg, dm, mok, q⟩ := h
    refine ⟨_, (pss_cons (ps_set (i := 3) sc__law_agreeing.nd rfl (.inl rfl) (pe_own O__law_change (hr.mono (by omega)) (by rfl) (pa_cons (pv 1) (pa_cons (pe_lc (own := [("_law_trade_here", 4)]) (g := gName 4) (tt := tYes) rfl sc__law_agreeing.nd (pi_tup (pe_ix ix_tup (pv 1) pe_int (fun _ _ => rfl))) (blkOk_by (own := [("_law_trade_here", 4)]) (N := ["_law_deck_here", "_law_market_here", "_law_most", "_law_change_here", "_law_trade_here", "_law_one_here", "_law_own", "_law_other", "_law_more"]) (sc := defScope s__law_agreeing) (by decide +kernel)) (fun _ _ _ _ _ => (pg_name (i := 4) sc__law_agreeing.nd rfl (.inl rfl))) (fun _ _ _ _ _ => pts_nil) (fun _ _ _ _ _ => (pe_op op_sub (pe_own O__law_draw (hr.mono (by omega)) (by rfl) (pa_cons (pv 0) (pa_cons pe_int pa_nil))) pe_int))) pa_nil))))
      (pss_cons (ps_set (i := 5) sc__law_agreeing.nd rfl (.inl rfl) (pe_callTy (T := "tuple") call_tuple_of (by rfl) B.b_tuple (by decide +kernel) (pa_cons (pe_lc (own := [("_law_own", 6)]) (g := gName 6) (tt := tYes) rfl sc__law_agreeing.nd (pi_list (pv 3)) (blkOk_by (own := [("_law_own", 6)]) (N := ["_law_deck_here", "_law_market_here", "_law_most", "_law_change_here", "_law_trade_here", "_law_one_here", "_law_own", "_law_other", "_law_more"]) (sc := defScope s__law_agreeing) (by decide +kernel)) (fun _ _ _ _ _ => (pg_name (i := 6) sc__law_agreeing.nd rfl (.inl rfl))) (fun _ _ _ _ _ => pts_nil) (fun _ _ _ _ _ => (pe_op op_add (pe_callB (id := "max") (show CallR _ _ _ from call_max2 rfl) (by rfl) B.b_max (by decide +kernel) (pa_cons pe_int (pa_cons (pe_op op_sub pe_int (pv 6)) pa_nil))) (pe_callTy (T := "int") call_int1 (by rfl) B.b_int PyProof.Rows.boot_int (pa_cons (pe_cmpR op_eq (pe_own O__law_draw (hr.mono (by omega)) (by rfl) (pa_cons (pv 0) (pa_cons pe_int pa_nil))) pe_int (nomark _)) pa_nil))))) pa_nil)))
      (pss_cons (ps_set (i := 7) sc__law_agreeing.nd rfl (.inl rfl) (pe_callTy (T := "tuple") call_tuple_of (by rfl) B.b_tuple (by decide +kernel) (pa_cons (pe_lc (own := [("_law_own", 6), ("_law_more", 8)]) (g := gTup _ 2 (gCons (gName 6) (gCons (gName 8) gNil))) (tt := tYes) rfl sc__law_agreeing.nd (pi_zipM false true (by rfl) B.b_zip (pa_cons (pv 5) (pa_cons (pv 3) pa_nil))) (blkOk_by (own := [("_law_own", 6), ("_law_more", 8)]) (N := ["_law_deck_here", "_law_market_here", "_law_most", "_law_change_here", "_law_trade_here", "_law_one_here", "_law_own", "_law_other", "_law_more"]) (sc := defScope s__law_agreeing) (by decide +kernel)) (fun _ _ _ _ _ => (pg_tup rfl (pgs_cons (pg_name (i := 6) sc__law_agreeing.nd rfl (.inl rfl)) (pgs_cons (pg_name (i := 8) sc__law_agreeing.nd rfl (.inl rfl)) pgs_nil)))) (fun _ _ _ _ _ => pts_nil) (fun _ _ _ _ _ => (pe_op op_add (pv 6) (pv 8)))) pa_nil)))
      (pss_cons (ps_if (pt_cmpR op_gt (pe_callB (id := "max") (cr_maxT rfl (hu_of hr)) (by rfl) B.b_max (by decide +kernel) (pa_cons (pe_op op_catA (pv 5) (pv 7)) pa_nil)) (pv 2) (nomark _)) (pss_one (ps_par (i := 5) (j := 7) rfl sc__law_agreeing.nd rfl rfl (by decide) rfl rfl (pa_cons (pe_own O__law_bag (hr.mono (by omega)) (by rfl) (pa_cons (pv 0) (pa_cons (pe_ix ix_tup (pv 1) pe_int (fun _ _ => rfl)) (pa_cons pe_int pa_nil)))) (pa_cons (pe_own O__law_bag (hr.mono (by omega)) (by rfl) (pa_cons (pv 0) (pa_cons (pe_ix ix_tup (pv 1) pe_int (fun _ _ => rfl)) (pa_cons pe_int pa_nil)))) pa_nil)) rfl)) pss_nil)
      (pss_one (ps_ret (pe_tup (pa_cons (pv 5) (pa_cons (pv 7) pa_nil))))))))), ?_⟩
    obtain ⟨am, tv, ys, rfl, ram, eam, rtv, etv, tys⟩ := id dm.mkt
    have g1 := mok.one
    have g4 := mok.four
    have n4 := mok.many
    have hyl : ys.length = ts.length := by rw [tys.length, List.length_map]
    -- the numbers
    refine ⟨_, rfl, _, rfl, am, _, _, _, rfl, rfl, SqT.of eam, rfl, tv, rfl, ⟨_, SqT.of etv⟩, fun L hL => ?_⟩
    have ndL := dk.nd hL
    refine lc_it (walk_tup (xs := ys)) (fun i H' => ∃ ns : List Int, ns.length = i ∧ (∀ z ∈ ns, z.natAbs ≤ 2) ∧ Dk H' d c r (n + i) ∧ Kp d r H H' ∧ H' L = some (.lst (ns.map L2.V.int))) ⟨[], rfl, fun z hz => absurd hz List.not_mem_nil, dk.same (same_upd hL), Kp.of (same_upd hL), upd_same⟩
      (fun i H' _ hP => by
        obtain ⟨_, _, _, _, k', _⟩ := hP
        exact SqT.of (k' _ _ (fun z => rg.nd (z ▸ rtv)) (fun z => rg.nr (z ▸ rtv)) etv)) ?_ ?_
    · rintro i x H1 H2 hi ⟨ns, hnl, hnz, dk2, k2, eL⟩ ⟨rfl, hx⟩
      refine ⟨rfl, all_in ⟨_, rfl, d, c, r, n + i, 5, rfl, dk2, by omega, by decide, by decide, fun H3 v hv dk3 k3 => ⟨_, _, rfl, rfl, ?_⟩⟩⟩
      have eL3 := k3 _ _ ndL.1 ndL.2.1 eL
      refine ⟨_, eL3, small1000 (by rw [List.length_map]; omega), ns ++ [(v : Int) - 2], by rw [List.length_append, hnl]; rfl, fun z hz => ?_, ?_, ?_, ?_⟩
      · rcases List.mem_append.mp hz with hz | hz
        · exact hnz z hz
        · rw [List.mem_singleton.mp hz]
          omega
      · obtain ⟨t, cs, rs, q1, q2, q3, q4, q5, q6, q7, q8, q9, q10⟩ := dk3
        exact ⟨t, cs, rs, by omega, q2, q3, q4, q5, q6, q7, by rw [upd_ne ndL.1.symm]; exact q8, by rw [upd_ne ndL.2.2.symm]; exact q9, by rw [upd_ne ndL.2.1.symm]; exact q10⟩
      · intro b o nb1 nb2 e
        rw [upd_ne (ne_of_none e hL)]
        exact k3 b o nb1 nb2 (k2 b o nb1 nb2 e)
      · rw [upd_same, List.map_append]
        rfl
    rintro H1 ⟨ns, hnl, hnz, dk1, k1, eL⟩
    rw [hyl] at hnl dk1
    have rg1 := rg.kp k1 dk1
    -- change
    refine ⟨R, L, .ref am, g, ts, ns, rfl, dm.on (rg.on k1), mok, SqL.of eL, hnl, fun z hz => ?_, fun H2 L2' s2 f2 e2 => ?_⟩
    · have := log_ofL (k := 2) (Nat.le_trans (hnz z hz) (by decide))
      omega
    have hcb := chg_bd mok hnz hnl
    generalize hC : chg ts ns = C at e2 hcb
    clear hC
    have dk2 := dk1.same s2
    have k02 := k1.trans (Kp.of s2)
    have rg2 := rg1.same s2
    -- one_here
    refine ⟨_, rfl, L2', rfl, ⟨_, SqL.of e2⟩, fun D hD => ?_⟩
    have ndD := dk2.nd hD
    have nd2 := dk1.nd f2
    refine lc_it (walk_list (xs := rowL g C)) (fun i H' => ∃ f : Nat → Int, (∀ j, j < i → 0 ≤ f j ∧ 0 ≤ f j + C j) ∧ Dk H' d c r (n + 4 + i) ∧ Kp d r H2 H' ∧ H' D = some (.lst (rowL i f))) ⟨fun _ => 0, fun j hj => absurd hj (Nat.not_lt_zero j), (dk2.same (same_upd hD)).mono (by omega), Kp.of (same_upd hD), upd_same⟩
      (fun i H' _ hP => by
        obtain ⟨_, _, _, k', _⟩ := hP
        exact SqL.of (k' _ _ nd2.1 nd2.2.1 e2)) ?_ ?_
    · rintro i x H3 H4 hi ⟨f, hf, dk3, k3, eD⟩ ⟨rfl, hx⟩
      rw [rowL_len] at hi
      obtain ⟨_, rfl⟩ := int_row hx
      refine ⟨rfl, all_in ⟨_, rfl, _, _, rfl, rfl, _, _, rfl, _, rfl, d, c, r, n + 4 + i, 4, rfl, dk3, by omega, by decide, by decide, fun H5 v hv dk5 k5 => ⟨rfl, .inr ⟨_, rfl, _, _, rfl, rfl, ?_⟩⟩⟩⟩
      have eD5 := k5 _ _ ndD.1 ndD.2.1 eD
      dsimp only
      have hz : ∃ z : Int, (if 0 - C i > 0 then 0 - C i else 0) + (if decide (L2.V.int (v : Int) = L2.V.int 0) = true then 1 else 0) = z ∧ 0 ≤ z ∧ 0 ≤ z + C i := by
        refine ⟨_, rfl, ?_, ?_⟩
        · split <;> split <;> omega
        · split <;> split <;> omega
      obtain ⟨z, ez, z1, z2⟩ := hz
      rw [ez]
      refine ⟨_, eD5, small1000 (by rw [rowL_len]; omega), fun k => if k = i then z else f k, fun j hj => ?_, ?_, ?_, ?_⟩
      · dsimp only
        by_cases q1 : j = i
        · subst q1
          rw [if_pos rfl]
          exact ⟨z1, z2⟩
        · rw [if_neg q1]
          exact hf j (by omega)
      · obtain ⟨t, cs, rs, q1, q2, q3, q4, q5, q6, q7, q8, q9, q10⟩ := dk5
        exact ⟨t, cs, rs, by omega, q2, q3, q4, q5, q6, q7, by rw [upd_ne ndD.1.symm]; exact q8, by rw [upd_ne ndD.2.2.symm]; exact q9, by rw [upd_ne ndD.2.1.symm]; exact q10⟩
      · intro b o nb1 nb2 e
        rw [upd_ne (ne_of_none e hD)]
        exact k5 b o nb1 nb2 (k3 b o nb1 nb2 e)
      · rw [upd_same, rowL_put]
    rintro H3 ⟨f, hf, dk3, k3, eD⟩
    rw [rowL_len] at hf dk3 eD
    rw [rowL_map] at eD
    have rg3 := rg2.kp k3 dk3
    refine ⟨D, _, rfl, .inl ⟨SqL.of eD, fun p4 hp4 => ?_⟩⟩
    have s4 := same_upd (o := .tup ((rowI g f).map L2.V.int)) hp4
    have e4 : upd H3 p4 (.tup ((rowI g f).map L2.V.int)) p4 = some (.tup ((rowI g f).map L2.V.int)) := upd_same
    generalize upd H3 p4 (.tup ((rowI g f).map L2.V.int)) = H4 at s4 e4 ⊢
    have e24 : H4 L2' = some (.lst (rowL g C)) := s4 _ _ (k3 _ _ nd2.1 nd2.2.1 e2)
    have dk4 := dk3.same s4
    have rg4 := rg3.same s4
    have k04 := (k02.trans k3).trans (Kp.of s4)
    have r4 : R p4 := rg3.new p4 hp4
    -- other
    refine ⟨_, rfl, _, rfl, p4, L2', _, _, rfl, SqT.of e4, SqL.of e24, fun D2 hD2 => ?_⟩
    refine lc_rowW (walk_zipM (k := false) (l := true) (xs := (rowI g f).map L2.V.int) (ys := rowL g C) (n := g) (by rw [List.length_map, rowI_len]) (by rw [List.length_map, rowI_len, rowL_len])) (fun k => f k + C k) hD2 (by omega) (fun H' sm => ⟨SqT.of (sm _ _ e4), SqL.of (sm _ _ e24)⟩) ?_ ?_
    · rintro i z' H6 H7 Qy hi sm' ⟨T', x'', y'', rfl, hT', rfl, h3, h4⟩ hq
      rw [← rowL_map] at h3
      obtain ⟨_, rfl⟩ := int_row h3
      obtain ⟨_, rfl⟩ := int_row h4
      refine ⟨T', _, rfl, .inl (.inl upd_same), rfl, _, _, rfl, _, _, rfl, rfl, rfl, ?_⟩
      exact ⟨_, rfl, _, rfl, _, _, rfl, rfl, hq _ (same_upd hT')⟩
    intro H5 s5 eD2
    rw [rowL_map] at eD2
    refine ⟨D2, _, rfl, .inl ⟨SqL.of eD2, fun p6 hp6 => ?_⟩⟩
    have s6 := same_upd (o := .tup ((rowI g fun k => f k + C k).map L2.V.int)) hp6
    have e6 : upd H5 p6 (.tup ((rowI g fun k => f k + C k).map L2.V.int)) p6 = some (.tup ((rowI g fun k => f k + C k).map L2.V.int)) := upd_same
    generalize upd H5 p6 (.tup ((rowI g fun k => f k + C k).map L2.V.int)) = H6 at s6 e6 ⊢
    have s46 := s5.trans s6
    have r6 : R p6 := rg4.new p6 (s5.free hp6)
    have e46 := s46 _ _ e4
    have dk6 := dk4.same s46
    have rg6 := rg4.same s46
    have k06 := k04.trans (Kp.of s46)
    -- max(one_here + other) > most
    refine ⟨_, rfl, _, rfl, ?_⟩
    refine rd_cat r4 r6 e46 e6 (by rw [List.length_map, rowI_len, List.length_map, rowI_len]; omega) rg6.new fun H7 p7 s7 r7 e7 => ?_
    have e7 : H7 p7 = some (.tup (((rowI g f) ++ rowI g fun k => f k + C k).map L2.V.int)) := by rw [e7, List.map_append]
    have dk7 := dk6.same s7
    have rg7 := rg6.same s7
    have k07 := k06.trans (Kp.of s7)
    refine ⟨p7, _, rfl, SqT.of e7, by rw [List.length_append, rowI_len, rowI_len]; omega, fun mx hmx hall => ?_⟩
    have eam7 : H7 am = some (.tup [.int (g : Int), .ref tv]) := k07 _ _ (fun z => rg.nd (z ▸ ram)) (fun z => rg.nr (z ▸ ram)) eam
    refine ⟨_, rfl, _, _, rfl, rfl, _, rfl, ite2 (fun _ => ?_) (fun hle => ?_)⟩
    · refine ⟨_, rfl, _, rfl, am, _, _, _, rfl, rfl, SqT.of eam7, rfl, d, c, r, n + 4 + g, g, 2, rfl, dk7, by omega, by omega, by decide, fun H8 p8 b8 l8 a8 f8 e8 dk8 k8 => ?_⟩
      have eam8 : H8 am = some (.tup [.int (g : Int), .ref tv]) := k8 _ _ (fun z => rg.nd (z ▸ ram)) (fun z => rg.nr (z ▸ ram)) eam7
      have rg8 := rg7.kp k8 dk8
      refine ⟨_, rfl, _, rfl, am, _, _, _, rfl, rfl, SqT.of eam8, rfl, d, c, r, n + 4 + g + g, g, 2, rfl, dk8, by omega, by omega, by decide, fun H9 p9 b9 l9 a9 f9 e9 dk9 k9 => ?_⟩
      have rg9 := rg8.kp k9 dk9
      refine ⟨_, _, rfl, _, rfl, _, rfl, (by show 2 ≤ sizeLine; decide), fun p hp => ?_⟩
      have sp := same_upd (o := .tup [.ref p8, .ref p9]) hp
      have r8 : R p8 := rg7.new p8 f8
      have e89 : H9 p8 = some (.tup (b8.map L2.V.int)) := k9 _ _ (fun z => rg.nd (z ▸ r8)) (fun z => rg.nr (z ▸ r8)) e8
      exact q _ p _ _ b8 b9 (rg9.new p hp) upd_same (Dat.mkBag r8 (sp _ _ e89)) (Dat.mkBag (rg8.new p9 f9) (sp _ _ e9)) (StkB.mono ⟨l8, a8⟩ (by decide)) (StkB.mono ⟨l9, a9⟩ (by decide)) ((dk9.same sp).mono (by omega)) (((k07.trans k8).trans k9).trans (Kp.of sp))
    · have hmx : mx ≤ 40 := by
        have : ¬ (40 : Int) < mx := fun z => hle (decide_eq_true z)
        omega
      have b1 : StkB g 40 (rowI g f) := ⟨rowI_len _ _, fun z hz => by
        obtain ⟨j, hj, rfl⟩ := List.mem_map.mp hz
        have h1 := hf j (List.mem_range.mp hj)
        have h2 := hall _ (List.mem_append_left _ hz)
        show _ ∧ _ ≤ (40 : Int)
        omega⟩
      have b2 : StkB g 40 (rowI g fun k => f k + C k) := ⟨rowI_len _ _, fun z hz => by
        have h2 := hall _ (List.mem_append_right _ hz)
        obtain ⟨j, hj, rfl⟩ := List.mem_map.mp hz
        have h1 := hf j (List.mem_range.mp hj)
        show _ ∧ _ ≤ (40 : Int)
        omega⟩
      refine ⟨_, rfl, _, rfl, (by show 2 ≤ sizeLine; decide), fun p hp => ?_⟩
      have sp := same_upd (o := .tup [.ref p4, .ref p6]) hp
      exact q _ p _ _ _ _ (rg7.new p hp) upd_same (Dat.mkBag r4 (sp _ _ (s7 _ _ e46))) (Dat.mkBag r6 (sp _ _ (s7 _ _ e6))) b1 b2 ((dk7.same sp).mono (by omega)) (k07.trans (Kp.of sp))

end
end Lb
set_option Elab.async false
set_option linter.all false
set_option maxRecDepth 100000
set_option maxHeartbeats 8000000
namespace Lb
open PySem PySem.Spec PyProof.Rows L2 RZ TL
section
variable {P : Program} {w : World} {K : PySem.W.Frag} {mg : Str → Option Value} {base : Heap}
theorem dot_rowS (g : Nat) (x y : Nat → Int) : (rowI g fun k => x k * y k).sum = Gr.dot g y x := by
  rw [Gr.dot_comm]
  induction g with
  | zero => rfl
  | succ g ih =>
    show ((List.range (g + 1)).map fun k => x k * y k).sum = Gr.dot g x y + x g * y g
    rw [List.range_succ, List.map_append, List.sum_append, ← ih]
    show _ + (x g * y g + 0) = _
    rw [Int.add_zero]
theorem sc__law_are_same : FnScope ["_law_count", "_law_one_here", "_law_other", "_law_change_here", "_law_weight", "_law_own", "_law_more"] ["_law_count", "_law_one_here", "_law_other"] (defScope s__law_are_same) := ⟨rfl, rfl, rfl, by decide +kernel, rfl, by decide +kernel, by decide +kernel⟩
theorem own_aresame (D : Df K mg "_law_are_same" s__law_are_same) (B : Blt mg) : Own P w K mg base "_law_are_same" 1 ["_law_count", "_law_one_here", "_law_other"] spAreSame := by
  refine own_of D sc__law_are_same (fun _ _ _ _ _ _ us hl => match us, hl with | [_, _, _], _ => rfl) (fun vs H Q E h => ?_) (fun f cdv A outer s H vs Q E hr h => ?_)
  · obtain ⟨_, _, _, _, _, _, _, _, _, rfl, _⟩ := h
    rfl
  · obtain ⟨R, cv, ov, uv, g, d, fn, x, y, rfl, dc, dx, dy, hx, hy, hg, hf, q⟩ := h
    refine ⟨_, (pss_cons (ps_set (i := 3) sc__law_are_same.nd rfl (.inl rfl) (pe_callB (id := "sum") (cr_sum rfl) (by rfl) B.b_sum (by decide +kernel) (pa_cons (pe_lc (own := [("_law_weight", 4), ("_law_own", 5), ("_law_more", 6)]) (g := gTup _ 3 (gCons (gName 4) (gCons (gName 5) (gCons (gName 6) gNil)))) (tt := tYes) rfl sc__law_are_same.nd (pi_zip3 (by rfl) B.b_zip (pa_cons (pe_ix ix_tup (pv 0) pe_int (fun _ _ => rfl)) (pa_cons (pv 1) (pa_cons (pv 2) pa_nil)))) (blkOk_by (own := [("_law_weight", 4), ("_law_own", 5), ("_law_more", 6)]) (N := ["_law_count", "_law_one_here", "_law_other", "_law_change_here", "_law_weight", "_law_own", "_law_more"]) (sc := defScope s__law_are_same) (by decide +kernel)) (fun _ _ _ _ _ => (pg_tup rfl (pgs_cons (pg_name (i := 4) sc__law_are_same.nd rfl (.inl rfl)) (pgs_cons (pg_name (i := 5) sc__law_are_same.nd rfl (.inl rfl)) (pgs_cons (pg_name (i := 6) sc__law_are_same.nd rfl (.inl rfl)) pgs_nil))))) (fun _ _ _ _ _ => pts_nil) (fun _ _ _ _ _ => (pe_op op_mulW (pv 4) (pe_op op_sub (pv 6) (pv 5))))) pa_nil)))
      (pss_one (ps_ret (pe_or (pe_cmpR op_eq (pv 3) pe_int (nomark _)) (pe_one (pe_and (pe_cmpR op_gt (pe_ix ix_tup (pv 0) pe_int (fun _ _ => rfl)) pe_int (nomark _)) (pe_one (pe_cmpR op_eq (pe_op op_mod (pe_callTy (T := "int") call_int1 (by rfl) B.b_int PyProof.Rows.boot_int (pa_cons (pv 3) pa_nil)) (pe_callTy (T := "int") call_int1 (by rfl) B.b_int PyProof.Rows.boot_int (pa_cons (pe_ix ix_tup (pv 0) pe_int (fun _ _ => rfl)) pa_nil))) pe_int (nomark _))))))))), ?_⟩
    obtain ⟨a, u1, u2, rfl, ra, ea, dw, dd⟩ := Dat.pair dc
    obtain rfl := dd.intI
    obtain ⟨pw, rfl, rpw, epw⟩ := Dat.bag dw
    obtain ⟨px, rfl, rpx, epx⟩ := Dat.bag dx
    obtain ⟨py, rfl, rpy, epy⟩ := Dat.bag dy
    have hxl := hx.len
    have hyl := hy.len
    have ex : x.map L2.V.int = rowL g fun k => x.getD k 0 := by rw [rowL_of, hxl]
    have ey : y.map L2.V.int = rowL g fun k => y.getD k 0 := by rw [rowL_of, hyl]
    refine ⟨_, rfl, a, _, _, _, rfl, rfl, SqT.of ea, rfl, _, rfl, _, rfl, pw, px, py, _, _, _, rfl, SqT.of epw, SqT.of epx, SqT.of epy, fun D hD => ?_⟩
    refine lc_rowW (walk_zipU (xs := (rowI g fn).map L2.V.int) (ys := x.map L2.V.int) (zs := y.map L2.V.int) (n := g) (by rw [List.length_map, rowI_len]) (by rw [List.length_map, rowI_len, List.length_map, hxl]) (by rw [List.length_map, rowI_len, List.length_map, hyl])) (fun k => fn k * gain (x, y) k) hD (by omega) (fun H' sm => ⟨same_tup sm (SqT.of epw), same_tup sm (SqT.of epx), same_tup sm (SqT.of epy)⟩) ?_ ?_
    · rintro i z H2 H3 Qy hi sm ⟨T, x', y', z', rfl, hT, rfl, h1, h2, h3⟩ hq
      rw [← rowL_map] at h1
      rw [ex] at h2
      rw [ey] at h3
      obtain ⟨_, rfl⟩ := int_row h1
      obtain ⟨_, rfl⟩ := int_row h2
      obtain ⟨_, rfl⟩ := int_row h3
      have hq := hq _ (same_upd (H := H2) (o := .tup [.int (fn i), .int (x.getD i 0), .int (y.getD i 0)]) hT)
      refine ⟨T, _, rfl, .inl (.inl upd_same), rfl, _, _, rfl, _, _, rfl, _, _, rfl, rfl, rfl, ?_⟩
      have h4 := log_ofL (k := 400) (hf i hi)
      have h5 := log_ofL (k := 10) (Nat.le_trans (gain_bd hx hy i) (by decide))
      exact ⟨_, rfl, _, rfl, _, rfl, _, _, rfl, rfl, _, _, rfl, rfl, (show _ + _ < 1000000 from Nat.lt_of_le_of_lt (Nat.add_le_add h4 h5) (by decide)), hq⟩
    · intro H2 s2 eD
      rw [rowL_map] at eD
      refine ⟨D, _, rfl, SqL.of eD, ?_⟩
      rw [dot_rowS]
      generalize Gr.dot g (gain (x, y)) fn = z at q ⊢
      refine ⟨_, rfl, rfl, _, rfl, ite2 (fun h => ?_) (fun h => ?_)⟩
      · have hz : z = 0 := L2.V.int.inj (of_decide_eq_true h)
        exact q H2 true s2 ⟨fun _ => by rw [hz]; exact Int.dvd_zero _, fun _ => rfl⟩
      · have hz : z ≠ 0 := fun e => h (decide_eq_true (congrArg L2.V.int e))
        refine ⟨_, rfl, a, _, _, _, rfl, rfl, SqT.of (s2 _ _ ea), rfl, _, _, rfl, rfl, _, rfl, ite2 (fun h2 => ?_) (fun h2 => ?_)⟩
        · have hd := of_decide_eq_true h2
          refine ⟨_, rfl, .inl ⟨z, rfl, _, rfl, a, _, _, _, rfl, rfl, SqT.of (s2 _ _ ea), rfl, .inl ⟨_, rfl, _, _, rfl, rfl, hd, rfl, ?_⟩⟩⟩
          exact q H2 _ s2 ⟨fun e => Int.dvd_of_emod_eq_zero (L2.V.int.inj (of_decide_eq_true e)), fun e => decide_eq_true (congrArg L2.V.int (Int.emod_eq_zero_of_dvd e))⟩
        · have hd : d = 0 := by
            have : ¬ (0 : Int) < (d : Int) := fun e => h2 (decide_eq_true e)
            omega
          exact q H2 false s2 ⟨fun e => (nomatch e), fun e => absurd (Int.zero_dvd.mp (by rw [hd] at e; exact e)) hz⟩

end
end Lb
set_option Elab.async false
set_option linter.all false
set_option maxRecDepth 100000
set_option maxHeartbeats 8000000
namespace Lb
open PySem PySem.Spec PyProof.Rows L2 RZ TL
section
variable {P : Program} {w : World} {K : PySem.W.Frag} {mg : Str → Option Value} {base : Heap}
theorem sc_agree : FnScope ["market", "one", "other"] ["market", "one", "other"] (defScope s_agree) := ⟨rfl, rfl, rfl, by decide +kernel, rfl, by decide +kernel, by decide +kernel⟩
theorem own_agree (D : Df K mg "agree" s_agree) (B : Blt mg) (O_net : Own P w K mg base "net" 5 ["market", "one", "other"] spNet) : Own P w K mg base "agree" 6 ["market", "one", "other"] spAgree := by
  refine own_of D sc_agree (fun _ _ _ _ _ _ us hl => match us, hl with | [_, _, _], _ => rfl) (fun vs H Q E h => ?_) (fun f cdv A outer s H vs Q E hr h => ?_)
  · obtain ⟨_, _, _, _, _, _, _, _, rfl, _⟩ := h
    rfl
  · obtain ⟨mv, ov, uv, g, ts, S, x, y, rfl, hin, q⟩ := h
    refine ⟨_, (pss_one (ps_ret (pe_cmp (pc_notN (pe_own O_net (hr.mono (by omega)) (by rfl) (pa_cons (pv 0) (pa_cons (pv 1) (pa_cons (pv 2) pa_nil)))))))), ?_⟩
    refine ⟨_, rfl, _, rfl, _, rfl, mv, ov, uv, g, ts, S, x, y, rfl, hin, fun H' v s' hv => ?_⟩
    have hq := q H' s'
    cases hn : Gr.netN ts.length g S (gain (x, y)) g with
    | none =>
      rw [hn] at hv hq
      obtain rfl : v = .non := hv
      exact hq
    | some N =>
      rw [hn] at hv hq
      obtain ⟨a, rfl, _, _⟩ := Dat.bag hv
      exact hq

end
end Lb
set_option Elab.async false
set_option linter.all false
set_option maxRecDepth 100000
set_option maxHeartbeats 8000000
namespace Lb
open PySem PySem.Spec PyProof.Rows L2 RZ TL
section
variable {P : Program} {w : World} {K : PySem.W.Frag} {mg : Str → Option Value} {base : Heap}
abbrev prD (x y : List Int) : PyData := .tuple [bagD x, bagD y]
theorem Dk.updL {H : Hp} {d c r : Addr} {n : Nat} {L : Addr} {o : HO} (h : Dk H d c r n) (k : L ≠ d ∧ L ≠ r ∧ L ≠ c) : Dk (L2.upd H L o) d c r n := by
  obtain ⟨t, cs, rs, q1, q2, q3, q4, q5, q6, q7, q8, q9, q10⟩ := h
  exact ⟨t, cs, rs, q1, q2, q3, q4, q5, q6, q7, by rw [upd_ne k.1.symm]; exact q8, by rw [upd_ne k.2.2.symm]; exact q9, by rw [upd_ne k.2.1.symm]; exact q10⟩
theorem On.wo {R : Rgn} {L : Addr} {H H' : Hp} (h : On R H H') : On (wo R L) H H' := fun b o hb e => h b o hb.1 e
/-- all counts are alike just if there are net numbers -/
theorem due_iff {n g : Nat} {S : Gr.Gs} {ch : Nat → Int} : (∀ c ∈ cols n g S, (Gr.dg n S.T c : Int) ∣ Gr.dot g ch (Gr.wt n S c)) ↔ Gr.netN n g S ch g ≠ none := by
  rw [Ne, Gr.net_none]
  constructor
  · rintro h ⟨j, hj, hn⟩
    refine hn ?_
    by_cases h1 : Gr.dg n S.T j = 1
    · rw [h1]
      exact Int.one_dvd _
    · exact (Gr.wt_iff ch).mp (h j (mem_cols.mpr ⟨hj, h1⟩))
  · intro h c hc
    refine (Gr.wt_iff ch).mpr ?_
    exact Classical.byContradiction fun hn => h ⟨c, (mem_cols.mp hc).1, hn⟩
theorem net_chg {n g : Nat} {ts : List Trd} {S : Gr.Gs} {ch N : Nat → Int} (hn : n = ts.length) (la : Gr.Lastly n g (mA ts) S) (e : Gr.netN n g S ch g = some N) {m : Nat} (hm : m < g) : chg ts (rowI n N) m = ch m := by
  subst hn
  rw [← Gr.net_leads la e m hm]
  refine Gr.dot_congr (fun k hk => ?_) fun _ _ => rfl
  rw [List.getD_eq_getElem?_getD, List.getElem?_map, List.getElem?_range hk]
  rfl
theorem mA_bd' {g : Nat} {ts : List Trd} (mok : MktOk g ts) {i j : Nat} (hi : i < ts.length) : (mA ts i j).natAbs ≤ 3 := by
  rw [mA_at (List.getElem?_eq_getElem hi)]
  have ht := mok.all _ (List.getElem_mem hi)
  have h1 := ht.1.stk.get j
  have h2 := ht.2.stk.get j
  show (ts[i].2.getD j 0 - ts[i].1.getD j 0).natAbs ≤ 3
  omega
theorem Dat.all' {R : Rgn} {H : Hp} {v : V} {d : PyData} (h : Dat R H v d) : Dat (fun _ => True) H v d := h.sub fun _ _ _ _ => trivial
theorem isEmpty_some {α : Type} {o : Option α} {l : List L2.V} (h : l = [] ↔ o ≠ none) : l.isEmpty = o.isSome := by
  cases o with
  | none =>
    cases l with
    | nil => exact absurd rfl (h.mp rfl)
    | cons _ _ => rfl
  | some a =>
    rw [h.mpr (fun z => nomatch z)]
    rfl
theorem sc_law : FnScope ["_law_script", "_law_deck_here", "_law_turn", "_law_market_here", "_law_pairs", "_law_one_here", "_law_other", "_law_numbers", "_law_due", "_law_count", "_law_many", "_law_own", "_law_more"] ["_law_script"] (defScope s_law) := ⟨rfl, rfl, rfl, by decide +kernel, rfl, by decide +kernel, by decide +kernel⟩
theorem fn_law {f : Addr} {fd : FuncData} (F : Fun K "law" "law" s_law f fd) (B : Blt mg) (O__law_deck : Own P w K mg base "_law_deck" 1 ["_law_script"] (spDeck K)) (O__law_any_market : Own P w K mg base "_law_any_market" 5 ["_law_deck_here"] spAnyS)
    (O__law_bag : Own P w K mg base "_law_bag" 2 ["_law_deck_here", "_law_goods", "_law_most"] spBag) (O__law_pair : Own P w K mg base "_law_pair" 5 ["_law_deck_here", "_law_market_here", "_law_most"] spPairL) (O__law_agreeing : Own P w K mg base "_law_agreeing" 4 ["_law_deck_here", "_law_market_here", "_law_most"] spAgreeing) (O_net : Own P w K mg base "net" 5 ["market", "one", "other"] spNet) (O_agree : Own P w K mg base "agree" 6 ["market", "one", "other"] spAgree)
    (O_counts : Own P w K mg base "counts" 5 ["market"] spCounts) (O__law_are_same : Own P w K mg base "_law_are_same" 1 ["_law_count", "_law_one_here", "_law_other"] spAreSame) (O__law_differ : OwnG P w K mg base "_law_differ" 1 ["_law_one_here", "_law_other"] spDiffer) (O__law_change : Own P w K mg base "_law_change" 2 ["_law_market_here", "_law_numbers"] (spChange false K)) : FnG P w K mg base CX0 25 f fd ["_law_script"] (spLaw K) := by
  refine lawG_of F sc_law (fun vs H Q E h => ?_) (fun cdv A outer s H vs Q E hgd hr h => ?_)
  · obtain ⟨_, _, rfl, _⟩ := h
    rfl
  · obtain ⟨a, ns, rfl, hS, hl, q⟩ := h
    have hud : (cxOf CX0 P w K mg base ["_law_script", "_law_deck_here", "_law_turn", "_law_market_here", "_law_pairs", "_law_one_here", "_law_other", "_law_numbers", "_law_due", "_law_count", "_law_many", "_law_own", "_law_more"] "law" (defScope s_law) f cdv A outer s H E).nox.A.units + 110 < cLine := by
      have := hr.un
      show (A.deeper _).units + 110 < cLine
      omega
    refine ⟨_, (pss_cons (ps_set (i := 1) sc_law.nd rfl (.inl rfl) (pe_own O__law_deck (hr.mono (by omega)) (by rfl) (pa_cons (pv 0) pa_nil)))
      (pss_cons (ps_for PassesOwn.never rfl (pi_range1 (by rfl) B.b_range (pa_cons pe_int pa_nil)) (pg_name (i := 2) sc_law.nd rfl (.inl rfl))
        (pss_cons (ps_set (i := 3) sc_law.nd rfl (.inl rfl) (pe_own O__law_any_market (hr.mono (by omega)) (by rfl) (pa_cons (pv 1) pa_nil)))
      (pss_cons (ps_set (i := 4) sc_law.nd rfl (.inl rfl) (pe_lst (pa_cons (pe_own O__law_pair (hr.mono (by omega)) (by rfl) (pa_cons (pv 1) (pa_cons (pv 3) (pa_cons pe_int pa_nil)))) (pa_cons (pe_own O__law_agreeing (hr.mono (by omega)) (by rfl) (pa_cons (pv 1) (pa_cons (pv 3) (pa_cons pe_int pa_nil)))) pa_nil))))
      (pss_cons (ps_expr (pe_bm PySem.F.plainAttrs_list PySem.F.slot_list_append PySem.F.type_list_append mt_append (pv 4) (pa_cons (pe_tup (pa_cons (pe_own O__law_bag (hr.mono (by omega)) (by rfl) (pa_cons (pv 1) (pa_cons (pe_ix ix_tup (pv 3) pe_int (fun _ _ => rfl)) (pa_cons pe_int pa_nil)))) (pa_cons (pe_own O__law_bag (hr.mono (by omega)) (by rfl) (pa_cons (pv 1) (pa_cons (pe_ix ix_tup (pv 3) pe_int (fun _ _ => rfl)) (pa_cons pe_int pa_nil)))) pa_nil))) pa_nil)))
      (pss_one (ps_for PassesOwn.never rfl (pi_list (pv 4)) (pg_tup rfl (pgs_cons (pg_name (i := 5) sc_law.nd rfl (.inr rfl)) (pgs_cons (pg_name (i := 6) sc_law.nd rfl (.inr rfl)) pgs_nil)))
        (pss_cons (ps_set (i := 7) sc_law.nd rfl (.inl rfl) (pe_own O_net (hr.mono (by omega)) (by rfl) (pa_cons (pv 3) (pa_cons (pv 5) (pa_cons (pv 6) pa_nil)))))
      (pss_cons (ps_set (i := 8) sc_law.nd rfl (.inl rfl) (pe_cmpR (op_eqE hr.units0) (pe_lc (own := [("_law_count", 9)]) (g := gName 9) (tt := _) rfl sc_law.nd (pi_tup (pe_own O_counts (hr.mono (by omega)) (by rfl) (pa_cons (pv 3) pa_nil))) (blkOk_by (own := [("_law_count", 9)]) (N := ["_law_script", "_law_deck_here", "_law_turn", "_law_market_here", "_law_pairs", "_law_one_here", "_law_other", "_law_numbers", "_law_due", "_law_count", "_law_many", "_law_own", "_law_more"]) (sc := defScope s_law) (by decide +kernel)) (fun _ _ _ _ _ => (pg_name (i := 9) sc_law.nd rfl (.inl rfl))) (fun _ _ _ _ _ => (pts_one (pt_not (pt_val (pe_own O__law_are_same (hr.mono (by omega)) (by rfl) (pa_cons (pv 9) (pa_cons (pv 5) (pa_cons (pv 6) pa_nil)))))))) (fun _ _ _ _ _ => (pv 9))) (pe_lst pa_nil) (nomark _)))
      (pss_cons (ps_if (pt_val (pe_ownG O__law_differ hgd (hr.mono (by omega)) (by rfl) (pa_cons (pe_lst (pa_cons (pe_cmp (pc_notN (pv 7))) (pa_cons (pe_own O_agree (hr.mono (by omega)) (by rfl) (pa_cons (pv 3) (pa_cons (pv 5) (pa_cons (pv 6) pa_nil)))) pa_nil))) (pa_cons (pe_lst (pa_cons (pv 8) (pa_cons (pv 8) pa_nil))) pa_nil)))) (pss_one (ps_ret pe_bl)) pss_nil)
      (pss_one (ps_if (pt_val (pv 8)) (pss_cons (ps_if (PW.pt (pw_or (pt_not (pt_val (pe_callB (id := "isinstance") call_isi (by rfl) B.b_isinstance (by decide +kernel) (pa_cons (pv 7) (pa_cons (pe_bltn (v := .ty "tuple") (u := .type "tuple") (by rfl) B.b_tuple (by decide +kernel) rfl) pa_nil))))) (pw_or1 (pt_cmpR op_ne (pe_callB (id := "len") call_len_seq (by rfl) B.b_len PySem.boot_len (pa_cons (pv 7) pa_nil)) (pe_callB (id := "len") call_len_seq (by rfl) B.b_len PySem.boot_len (pa_cons (pe_ix ix_tup (pv 3) pe_int (fun _ _ => rfl)) pa_nil)) (nomark _))))) (pss_one (ps_ret pe_bl)) pss_nil)
      (pss_cons (ps_if (pt_cmpR (op_neA hr.units0) (pe_lc (own := [("_law_many", 10)]) (g := gName 10) (tt := _) rfl sc_law.nd (pi_tup (pv 7)) (blkOk_by (own := [("_law_many", 10)]) (N := ["_law_script", "_law_deck_here", "_law_turn", "_law_market_here", "_law_pairs", "_law_one_here", "_law_other", "_law_numbers", "_law_due", "_law_count", "_law_many", "_law_own", "_law_more"]) (sc := defScope s_law) (by decide +kernel)) (fun _ _ _ _ _ => (pg_name (i := 10) sc_law.nd rfl (.inl rfl))) (fun _ _ _ _ _ => (pts_one (PW.pt (pw_or (pt_val (pe_callB (id := "isinstance") (show CallR _ _ (rIsi K) from call_isi) (by rfl) B.b_isinstance (by decide +kernel) (pa_cons (pv 10) (pa_cons (pe_bltn (v := .ty "bool") (u := .type "bool") (by rfl) B.b_bool (by decide +kernel) rfl) pa_nil)))) (pw_or1 (pt_not (pt_val (pe_callB (id := "isinstance") (show CallR _ _ (rIsi K) from call_isi) (by rfl) B.b_isinstance (by decide +kernel) (pa_cons (pv 10) (pa_cons (pe_bltn (v := .ty "int") (u := .type "int") (by rfl) B.b_int (by decide +kernel) rfl) pa_nil)))))))))) (fun _ _ _ _ _ => pe_int)) (pe_lst pa_nil) (nomark _)) (pss_one (ps_ret pe_bl)) pss_nil)
      (pss_one (ps_if (pt_cmpR (op_neD hr.units) (pe_own O__law_change (hr.mono (by omega)) (by rfl) (pa_cons (pv 3) (pa_cons (pv 7) pa_nil))) (pe_lc (own := [("_law_own", 11), ("_law_more", 12)]) (g := gTup _ 2 (gCons (gName 11) (gCons (gName 12) gNil))) (tt := tYes) rfl sc_law.nd (pi_zipA (by rfl) B.b_zip (pa_cons (pv 5) (pa_cons (pv 6) pa_nil))) (blkOk_by (own := [("_law_own", 11), ("_law_more", 12)]) (N := ["_law_script", "_law_deck_here", "_law_turn", "_law_market_here", "_law_pairs", "_law_one_here", "_law_other", "_law_numbers", "_law_due", "_law_count", "_law_many", "_law_own", "_law_more"]) (sc := defScope s_law) (by decide +kernel)) (fun _ _ _ _ _ => (pg_tup rfl (pgs_cons (pg_name (i := 11) sc_law.nd rfl (.inl rfl)) (pgs_cons (pg_name (i := 12) sc_law.nd rfl (.inl rfl)) pgs_nil)))) (fun _ _ _ _ _ => pts_nil) (fun _ _ _ _ _ => (pe_op op_sub (pv 12) (pv 11)))) (nomark _)) (pss_one (ps_ret pe_bl)) pss_nil)))) pss_nil)))))))))))
      (pss_one (ps_ret pe_bl)))), ?_⟩
    refine ⟨_, rfl, a, ns, rfl, hS, hl, fun H1 d c r s1 fd1 fc1 fr1 dk1 => ?_⟩
    refine ⟨6, rfl, by decide, by decide, ?_⟩
    refine for_range (n := 6) (fun i σ H' => ∃ y2 y3 y4 y5 y6 y7 y8 y9 y10 y11 y12, σ = [some (.ref a), some (.ref d), y2, y3, y4, y5, y6, y7, y8, y9, y10, y11, y12] ∧ Dk H' d c r (400 * i)) ⟨none, none, none, none, none, none, none, none, none, none, none, rfl, dk1⟩ ?_ (fun σ H' _ => q H')
    rintro i σ H2 hi ⟨y2, y3, y4, y5, y6, y7, y8, y9, y10, y11, y12, rfl, dk2⟩
    have rg2 := rg0 dk2
    -- market
    refine ⟨_, rfl, R0 d r, d, c, r, _, rfl, dk2, by omega, rg2, fun H3 mv g ts mok hsz dm dk3 k3 => ?_⟩
    have rg3 := rg2.kp k3 dk3
    have g1 := mok.one
    have g4 := mok.four
    have n4 := mok.many
    have hsm : Gr.Small ts.length g := by
      unfold Gr.Small
      omega
    have hA : ∀ i j, i < ts.length → j < g → (mA ts i j).natAbs ≤ 3 := fun i j hi _ => mA_bd' mok hi
    obtain ⟨kk, S, run⟩ := Gr.run_grid (A := mA ts) hsm hA
    have la := Gr.lastly run
    obtain ⟨am, tv, ys, rfl, ram, eam, rtv, etv, tys⟩ := id dm.mkt
    -- pairs
    refine ⟨_, rfl, _, rfl, R0 d r, d, c, r, _, g, 4, .ref am, ts, rfl, dk3, by omega, rg3, dm, mok, by decide, fun H4 p4 u4 w4 x4 z4 r4 e4 du4 dw4 hx4 hz4 dk4 k4 => ?_⟩
    have rg4 := rg3.kp k4 dk4
    have dm4 := dm.on (rg3.on k4)
    have dp4 : Dat (R0 d r) H4 (.ref p4) (prD x4 z4) := .tup r4 e4 (.cons du4 (.cons dw4 .nil))
    refine ⟨_, rfl, _, rfl, R0 d r, d, c, r, _, g, .ref am, ts, rfl, dk4, by omega, rg4, dm4, mok, fun H5 p5 u5 w5 x5 z5 r5 e5 du5 dw5 hx5 hz5 dk5 k5 => ?_⟩
    have rg5 := rg4.kp k5 dk5
    have dm5 := dm4.on (rg4.on k5)
    have dp5 : Dat (R0 d r) H5 (.ref p5) (prD x5 z5) := .tup r5 e5 (.cons du5 (.cons dw5 .nil))
    have dp45 := dp4.on (rg4.on k5)
    refine ⟨(by show 2 ≤ sizeLine; decide), fun L hL => ?_⟩
    have ndL := dk5.nd hL
    have subL : ∀ b o, R0 d r b → H5 b = some o → wo (R0 d r) L b := fun b o hb e => ⟨hb, ne_of_none e hL⟩
    have s6 := same_upd (o := .lst [.ref p4, .ref p5]) hL
    have dq4 := (dp45.sub subL).same s6
    have dq5 := (dp5.sub subL).same s6
    have dm6 := (dm5.sub subL).same s6
    have dk6 := dk5.same s6
    have rg6 := rg5.same s6
    have eL : upd H5 L (.lst [.ref p4, .ref p5]) L = some (.lst [.ref p4, .ref p5]) := upd_same
    generalize upd H5 L (.lst [.ref p4, .ref p5]) = H6 at s6 dq4 dq5 dm6 dk6 rg6 eL ⊢
    clear dp4 dp5 dp45 dm4 dm5
    obtain ⟨_, tv6, ys6, em, ram6, eam6, rtv6, etv6, tys6⟩ := id dm6.mkt
    cases em
    -- pairs.append((bag, bag))
    refine ⟨_, rfl, .inl ⟨rfl, _, SqL.of eL⟩, _, rfl, _, rfl, am, _, _, _, rfl, rfl, SqT.of eam6, rfl, d, c, r, _, g, 60, rfl, dk6, by omega, by omega, by decide, fun H7 p7 b7 l7 a7 f7 e7 dk7 k7 => ?_⟩
    have rg7 := rg6.kp k7 dk7
    have o67 := (rg6.on k7).wo (L := L)
    have eam7 := o67 _ _ ram6 eam6
    have eL7 := k7 _ _ ndL.1 ndL.2.1 eL
    refine ⟨_, rfl, _, rfl, am, _, _, _, rfl, rfl, SqT.of eam7, rfl, d, c, r, _, g, 60, rfl, dk7, by omega, by omega, by decide, fun H8 p8 b8 l8 a8 f8 e8 dk8 k8 => ?_⟩
    have rg8 := rg7.kp k8 dk8
    have o78 := (rg7.on k8).wo (L := L)
    have eL8 := k8 _ _ ndL.1 ndL.2.1 eL7
    refine ⟨(by show 2 ≤ sizeLine; decide), fun p9 hp9 => ?_⟩
    have s9 := same_upd (o := .tup [.ref p7, .ref p8]) hp9
    have e9 : upd H8 p9 (.tup [.ref p7, .ref p8]) p9 = some (.tup [.ref p7, .ref p8]) := upd_same
    have r7 : wo (R0 d r) L p7 := ⟨rg6.new p7 f7, fun z => by rw [z, eL] at f7; cases f7⟩
    have r8 : wo (R0 d r) L p8 := ⟨rg7.new p8 f8, fun z => by rw [z, eL7] at f8; cases f8⟩
    have r9 : wo (R0 d r) L p9 := ⟨rg8.new p9 hp9, fun z => by rw [z, eL8] at hp9; cases hp9⟩
    generalize upd H8 p9 (.tup [.ref p7, .ref p8]) = H9 at s9 e9 ⊢
    have o89 : On (wo (R0 d r) L) H8 H9 := On.of s9
    have dq9 : Dat (wo (R0 d r) L) H9 (.ref p9) (prD b7 b8) := .tup r9 e9 (.cons (Dat.mkBag r7 (s9 _ _ (o78 _ _ r7 e7))) (.cons (Dat.mkBag r8 (s9 _ _ e8)) .nil))
    have o69 := (o67.trans o78).trans o89
    have dk9 := dk8.same s9
    refine ⟨L, _, _, rfl, rfl, s9 _ _ eL8, by rw [sizeLine_eq]; show 2 < _; omega, ?_⟩
    have o9 : On (wo (R0 d r) L) H9 (upd H9 L (.lst ([.ref p4, .ref p5] ++ [.ref p9]))) := wo_on
    have eLX : upd H9 L (.lst ([.ref p4, .ref p5] ++ [.ref p9])) L = some (.lst ([.ref p4, .ref p5] ++ [.ref p9])) := upd_same
    have dkX := dk9.updL (o := .lst ([.ref p4, .ref p5] ++ [.ref p9])) ndL
    generalize upd H9 L (.lst ([.ref p4, .ref p5] ++ [.ref p9])) = HX at o9 eLX dkX ⊢
    have o6X := o69.trans o9
    have dus : Dats (fun _ => True) HX ([.ref p4, .ref p5] ++ [.ref p9]) [prD x4 z4, prD x5 z5, prD b7 b8] := .cons (dq4.on o6X).all' (.cons (dq5.on o6X).all' (.cons (dq9.on o9).all' .nil))
    have hall : ∀ dta ∈ [prD x4 z4, prD x5 z5, prD b7 b8], ∃ x z, dta = prD x z ∧ StkB g 1000 x ∧ StkB g 1000 z := fun dta hd => by
      rcases List.mem_cons.mp hd with rfl | hd
      · exact ⟨_, _, rfl, hx4.mono (by decide), hz4.mono (by decide)⟩
      rcases List.mem_cons.mp hd with rfl | hd
      · exact ⟨_, _, rfl, hx5.mono (by decide), hz5.mono (by decide)⟩
      rw [List.mem_singleton.mp hd]
      exact ⟨_, _, rfl, StkB.mono ⟨l7, a7⟩ (by decide), StkB.mono ⟨l8, a8⟩ (by decide)⟩
    have dmX := (dm6.on o6X).all'
    have eamX := o6X _ _ ram6 eam6
    have etvX := o6X _ _ rtv6 etv6
    have mkX : MkV HX (.ref am) g ts := MkV.of dmX
    have hyl : ys6.length = ts.length := by rw [tys6.length, List.length_map]
    have dkE := dkX.mono (m := 400 * (i + 1)) (by omega)
    clear dq4 dq5 dq9 o67 o78 o89 o69 o9 o6X e9
    generalize [L2.V.ref p4, L2.V.ref p5] ++ [L2.V.ref p9] = us at eLX dus
    -- for one, other in pairs
    refine ⟨_, rfl, L, rfl, ⟨_, SqL.of eLX⟩, ?_⟩
    refine for_it (walk_list (xs := us)) (fun m σ H' => ∃ y5 y6 y7 y8 y9 y10 y11 y12, σ = [some (.ref a), some (.ref d), some (.int (0 + ((i : Nat) : Int))), some (.ref am), some (.ref L), y5, y6, y7, y8, y9, y10, y11, y12] ∧ Same HX H') ⟨_, _, _, _, _, _, _, _, rfl, Same.refl _⟩ (fun m σ H' _ hP => by
      obtain ⟨_, _, _, _, _, _, _, _, _, sm⟩ := hP
      exact SqL.of (sm _ _ eLX)) ?_ ?_
    · rintro m v σ H6 H7 hm ⟨y5', y6', y7', y8', y9', y10', y11', y12', rfl, sm⟩ ⟨rfl, hv⟩
      obtain ⟨dta, hdt, dv⟩ := dus.get' hv
      obtain ⟨x, z, rfl, hx, hz⟩ := hall dta (List.mem_of_getElem? hdt)
      obtain ⟨ap, u1, u2, rfl, _, eap, du1, du2⟩ := Dat.pair (dv.same sm)
      obtain ⟨ax, rfl, _, eax⟩ := du1.bag
      obtain ⟨az, rfl, _, eaz⟩ := du2.bag
      refine ⟨ap, _, rfl, SqT.of eap, rfl, _, _, rfl, _, _, rfl, rfl, ?_⟩
      have mk7 : MkV H7 (.ref am) g ts := mkX.kc (C := 0) (fun b u _ e => sm b u e)
      -- net
      refine ⟨_, rfl, _, rfl, _, rfl, .ref am, .ref ax, .ref az, g, ts, S, x, z, rfl, ⟨mk7, mok, ⟨kk, run⟩, ⟨_, rfl, eax⟩, ⟨_, rfl, eaz⟩, hx, hz⟩, fun H8 nv s8 hnv => ?_⟩
      have mk8 : MkV H8 (.ref am) g ts := mk7.kc (C := 0) (fun b u _ e => s8 b u e)
      -- due
      refine ⟨_, rfl, .ref am, g, kk, ts, S, rfl, mk8, mok, run, fun H9 cv s9 dcv => ?_⟩
      obtain ⟨af, fs, rfl, raf, eaf, dfs⟩ := dcv.tupI
      have s79 := s8.trans s9
      have hfl : fs.length ≤ 4 := by
        rw [dfs.length, List.length_map]
        have := cols_len ts.length g S
        omega
      refine ⟨af, rfl, ⟨_, SqT.of eaf⟩, fun D hD => ?_⟩
      refine lc_it (walk_tup (xs := fs)) (fun i H' => Same H9 H' ∧ ∃ ws, H' D = some (.lst ws) ∧ ws.length ≤ i ∧ (ws = [] ↔ ∀ j, j < i → ∀ cc, (cols ts.length g S)[j]? = some cc → (Gr.dg ts.length S.T cc : Int) ∣ Gr.dot g (gain (x, z)) (Gr.wt ts.length S cc))) ⟨same_upd hD, [], upd_same, Nat.le_refl _, fun _ j hj => absurd hj (Nat.not_lt_zero j), fun _ => rfl⟩ (fun i H' _ hP => SqT.of (hP.1 _ _ eaf)) ?_ ?_
      · rintro j y HA HB hj ⟨smA, ws, eD, hwl, hws⟩ ⟨rfl, hy⟩
        obtain ⟨dy, hdy, dty⟩ := dfs.get' hy
        rw [List.getElem?_map] at hdy
        obtain ⟨cc, hcc, rfl⟩ := Option.map_eq_some_iff.mp hdy
        obtain ⟨hcg, hc1⟩ := mem_cols.mp (List.mem_of_getElem? hcc)
        have sA := s79.trans smA
        refine ⟨rfl, _, rfl, _, rfl, _, rfl, fun _ => True, y, .ref ax, .ref az, g, _, _, x, z, rfl, (dty.same smA).all', (du1.same sA), (du2.same sA), hx, hz, g4, fun k hk => Gr.wt_bd la hk hcg, fun HC b sC hb => ⟨_, rfl, ?_⟩⟩
        cases b with
        | true =>
          refine iteF ⟨smA.trans sC, ws, sC _ _ eD, by omega, hws.trans ⟨fun h j' hj' cc' hc' => ?_, fun h j' hj' => h j' (by omega)⟩⟩
          by_cases q1 : j' = j
          · subst q1
            rw [hcc] at hc'
            cases hc'
            exact hb.mp rfl
          · exact h j' (by omega) cc' hc'
        | false =>
          refine iteT ⟨_, rfl, ws, sC _ _ eD, small1000 (by omega), fun b' o e => ?_, _, upd_same, by rw [List.length_append]; show ws.length + 1 ≤ _; omega, fun h => ?_, fun h => ?_⟩
          · rw [upd_ne (ne_of_none e hD)]
            exact sC _ _ (smA _ _ e)
          · exact absurd h (by simp)
          · exact nomatch (hb.mpr (h j (Nat.lt_succ_self j) cc hcc))
      rintro HA ⟨sA, ws, eD, hwl, hws⟩
      refine ⟨(by show 0 ≤ sizeLine; decide), fun L0 hL0 => ?_⟩
      have s0 := same_upd (o := .lst []) hL0
      refine ⟨D, L0, ws, rfl, rfl, s0 _ _ eD, upd_same, ?_⟩
      generalize upd HA L0 (.lst []) = HB at s0 ⊢
      have hdue : ws.isEmpty = (Gr.netN ts.length g S (gain (x, z)) g).isSome := by
        refine isEmpty_some (hws.trans (Iff.trans ⟨fun h c hc => ?_, fun h j _ cc hcc => h cc (List.mem_of_getElem? hcc)⟩ due_iff))
        obtain ⟨j, hj⟩ := List.getElem?_of_mem hc
        refine h j ?_ c hj
        rw [dfs.length, List.length_map]
        exact (List.getElem?_eq_some_iff.mp hj).1
      rw [hdue]
      clear hdue hws hwl eD hD
      have s8B := (s9.trans sA).trans s0
      have s7B := s8.trans s8B
      have mkB : MkV HB (.ref am) g ts := mk7.kc (C := 0) (fun b u _ e => s7B b u e)
      have hnot : (!decide (nv = L2.V.non)) = (Gr.netN ts.length g S (gain (x, z)) g).isSome := by
        cases hn : Gr.netN ts.length g S (gain (x, z)) g with
        | none =>
          rw [hn] at hnv
          obtain rfl : nv = .non := hnv
          rfl
        | some N =>
          rw [hn] at hnv
          obtain ⟨_, rfl, _⟩ := Dat.bag hnv
          rfl
      -- differ
      refine ⟨_, rfl, _, rfl, _, rfl, _, rfl, .ref am, .ref ax, .ref az, g, ts, S, x, z, rfl, ⟨mkB, mok, ⟨kk, run⟩, ⟨_, rfl, s7B _ _ eax⟩, ⟨_, rfl, s7B _ _ eaz⟩, hx, hz⟩, fun HC sC => ⟨(by show 2 ≤ sizeLine; decide), fun pC hpC => ?_⟩⟩
      rw [hnot]
      generalize hbb : (Gr.netN ts.length g S (gain (x, z)) g).isSome = bb
      have s1 := same_upd (o := .lst [.bl bb, .bl bb]) hpC
      have e1 : upd HC pC (.lst [.bl bb, .bl bb]) pC = some (.lst [.bl bb, .bl bb]) := upd_same
      generalize upd HC pC (.lst [.bl bb, .bl bb]) = HD at s1 e1 ⊢
      refine ⟨_, rfl, _, rfl, (by show 2 ≤ sizeLine; decide), fun pD hpD => ?_⟩
      have s2 := same_upd (o := .lst [.bl bb, .bl bb]) hpD
      have e2 : upd HD pD (.lst [.bl bb, .bl bb]) pD = some (.lst [.bl bb, .bl bb]) := upd_same
      generalize upd HD pD (.lst [.bl bb, .bl bb]) = HE at s2 e2 ⊢
      have sBE := (sC.trans s1).trans s2
      have okB : Ok 100 1 (.list [.bool bb, .bool bb]) := ((Oks.one (bool_ok bb)).append (Oks.one (bool_ok bb))).list.mono (by omega) (by omega)
      refine ⟨fun _ => True, fun _ => True, _, _, .list [.bool bb, .bool bb], rfl, .lst trivial (s2 _ _ e1) (.cons (.bl _) (.cons (.bl _) .nil)), .lst trivial e2 (.cons (.bl _) (.cons (.bl _) .nil)), okB.mono (by omega) (by omega), _, rfl, iteF ?_⟩
      have s8E := s8B.trans sBE
      have s7E := s8.trans s8E
      have sXE := sm.trans s7E
      -- if due
      refine ⟨_, rfl, _, rfl, ?_⟩
      cases hn : Gr.netN ts.length g S (gain (x, z)) g with
      | none =>
        rw [hn] at hbb
        cases hbb
        exact iteF ⟨_, _, _, _, _, _, _, _, rfl, sXE⟩
      | some N =>
        rw [hn] at hbb hnv
        cases hbb
        have hnv : Dat (Nw H7) H8 nv (bagD (rowI ts.length N)) := hnv
        obtain ⟨an, rfl, _, ean⟩ := Dat.bag hnv
        have eanE := s8E _ _ ean
        have dnE := (hnv.same s8E).all'
        have eamE := sXE _ _ eamX
        have etvE := sXE _ _ etvX
        refine iteT ⟨_, rfl, _, _, _, _, _, rfl, .ty _, dat_ty dnE, kit_ty (kit_tup _), _, rfl, iteF ?_⟩
        refine ⟨_, rfl, an, _, rfl, .inr (SqT.of eanE), _, rfl, am, _, _, _, rfl, rfl, SqT.of eamE, rfl, tv6, _, rfl, .inr (SqT.of etvE), rfl, _, rfl, ?_⟩
        have hlen : ((rowI ts.length N).map L2.V.int).length = ys6.length := by rw [List.length_map, rowI_len, hyl]
        rw [hlen, decide_eq_true rfl]
        refine iteF ?_
        -- [1 for many in numbers if ..] != []
        refine ⟨_, rfl, an, rfl, ⟨_, SqT.of eanE⟩, fun D3 hD3 => ?_⟩
        refine lc_dats (walk_tup (xs := (rowI ts.length N).map L2.V.int)) (fun _ => false) (fun _ => .none) hD3 (by rw [List.length_map, rowI_len]; omega) (fun H' sm => SqT.of (sm _ _ eanE)) ?_ ?_
        · rintro j y HF HG Qn Qy hj smF ⟨rfl, hy⟩ hq _
          obtain ⟨w, rfl, _⟩ := int_at hy
          refine ⟨rfl, _, rfl, _, _, _, _, _, rfl, .ty _, dat_ty (R := fun _ => True) (.int w), kit_ty (kit_bool _), _, rfl, iteF ⟨_, rfl, _, _, _, _, _, rfl, .ty _, dat_ty (R := fun _ => True) (.int w), kit_ty (kit_int _), _, rfl, iteF (hq rfl _ (Same.refl _))⟩⟩
        intro HF vs' sF eF dF
        have hu : vs' = [] := by
          have := dF.length
          rw [List.length_map, List.filter_eq_nil_iff.mpr (fun _ _ => by decide)] at this
          exact List.length_eq_zero_iff.mp this
        subst hu
        refine ⟨(by show 0 ≤ sizeLine; decide), fun L3 hL3 => ?_⟩
        have s3 := same_upd (o := .lst []) hL3
        refine ⟨D3, L3, [], rfl, rfl, s3 _ _ eF, upd_same, _, rfl, iteF ?_⟩
        generalize upd HF L3 (.lst []) = HG at s3 ⊢
        have sEG := sF.trans s3
        have sXG := sXE.trans sEG
        have s7G := s7E.trans sEG
        -- change
        have hNb := net_bd la (m := 1000) (fun k _ => gain_bd hx hz k) (Nat.le_refl g) hn
        refine ⟨_, rfl, _, rfl, fun _ => True, an, .ref am, g, ts, rowI ts.length N, rfl, dmX.same sXG, mok, SqT.of (sEG _ _ eanE), rowI_len _ _, fun w hw => ?_, fun HH L4 sH fH eH => ?_⟩
        · obtain ⟨k, hk, rfl⟩ := List.mem_map.mp hw
          have h1 := hNb k (List.mem_range.mp hk)
          have h2 : g * (g * (1000 * Gr.BB) * Gr.BB) ≤ 2 ^ 830 := by
            refine Nat.le_trans (Nat.mul_le_mul g4 (Nat.mul_le_mul_right _ (Nat.mul_le_mul_right _ g4))) ?_
            decide +kernel
          have := log_ofL (Nat.le_trans h1 h2)
          omega
        have er : rowL g (chg ts (rowI ts.length N)) = rowL g (gain (x, z)) := rowL_congr fun k hk => net_chg rfl la hn hk
        rw [er] at eH
        have s7H := s7G.trans sH
        refine ⟨_, rfl, _, rfl, ax, az, _, _, rfl, .inr ⟨SqT.of (s7H _ _ eax), SqT.of (s7H _ _ eaz), fun D5 hD5 => ?_⟩⟩
        have hxl := hx.len
        have hzl := hz.len
        have ex : x.map L2.V.int = rowL g fun k => x.getD k 0 := by rw [rowL_of, hxl]
        have ez : z.map L2.V.int = rowL g fun k => z.getD k 0 := by rw [rowL_of, hzl]
        refine lc_rowW (walk_zipT (xs := x.map L2.V.int) (ys := z.map L2.V.int) (n := g) (by rw [List.length_map, hxl]) (by rw [List.length_map, List.length_map, hxl, hzl])) (gain (x, z)) hD5 (by omega) (fun H' sm => ⟨SqT.of (sm _ _ (s7H _ _ eax)), SqT.of (sm _ _ (s7H _ _ eaz))⟩) ?_ ?_
        · rintro j y HI HJ Qy hj smI ⟨T', x'', y'', rfl, hT', rfl, h3, h4⟩ hq
          rw [ex] at h3
          rw [ez] at h4
          obtain ⟨_, rfl⟩ := int_row h3
          obtain ⟨_, rfl⟩ := int_row h4
          refine ⟨T', _, rfl, .inl (.inl upd_same), rfl, _, _, rfl, _, _, rfl, rfl, rfl, ?_⟩
          exact ⟨_, rfl, _, rfl, _, _, rfl, rfl, hq _ (same_upd hT')⟩
        · intro HI sI eI
          rw [rowL_map] at eI eH
          refine ⟨.list ((rowI g (gain (x, z))).map PyData.int), .list ((rowI g (gain (x, z))).map PyData.int), .lst (SqL.of (sI _ _ eH)) (dp_ints _), .lst (SqL.of eI) (dp_ints _), shaped_ints _, shaped_ints _, _, rfl, ?_⟩
          have eqv : PyData.eqv (.list ((rowI g (gain (x, z))).map PyData.int)) (.list ((rowI g (gain (x, z))).map PyData.int)) = true := by
            rw [PyData.eqv, eqv_ints, decide_eq_true rfl]
          rw [eqv]
          exact iteF ⟨_, _, _, _, _, _, _, _, rfl, (sXG.trans sH).trans sI⟩
    · rintro σ H6 ⟨y5', y6', y7', y8', y9', y10', y11', y12', rfl, sm⟩
      exact ⟨_, _, _, _, _, _, _, _, _, _, _, rfl, dkE.same sm⟩

end
end Lb
set_option Elab.async false
set_option linter.all false
set_option maxRecDepth 100000
set_option maxHeartbeats 8000000
namespace Lb
open PySem PySem.Spec PyProof.Rows L2 RZ
theorem all_mk {l : PySem.W.OpenLaw} {w : World} {K : PySem.W.Frag} {h : Heap} {mg : Str → Option Value} {fa f0 f1 f2 f3 f4 f5 f6 f7 f8 f9 f10 f11 f12 f13 f14 f15 f16 f17 f18 f19 f20 f21 f22 f23 f24 f25 f26 f27 f28 f29 : Addr} (X : K.In h) (G : h.Ns mainGlobals mg) (hfa : mg "law" = some (.ref fa))
    {od0 an0 : Option Addr} {sl0 : Array (Option Value)} {oc0 kV0 dc0 pm0 cd0 ct0 : Value}
    {od1 an1 : Option Addr} {sl1 : Array (Option Value)} {oc1 kV1 dc1 pm1 cd1 ct1 : Value}
    {od2 an2 : Option Addr} {sl2 : Array (Option Value)} {oc2 kV2 dc2 pm2 cd2 ct2 : Value}
    {od3 an3 : Option Addr} {sl3 : Array (Option Value)} {oc3 kV3 dc3 pm3 cd3 ct3 : Value}
    {od4 an4 : Option Addr} {sl4 : Array (Option Value)} {oc4 kV4 dc4 pm4 cd4 ct4 : Value}
    {od5 an5 : Option Addr} {sl5 : Array (Option Value)} {oc5 kV5 dc5 pm5 cd5 ct5 : Value}
    {od6 an6 : Option Addr} {sl6 : Array (Option Value)} {oc6 kV6 dc6 pm6 cd6 ct6 : Value}
    {od7 an7 : Option Addr} {sl7 : Array (Option Value)} {oc7 kV7 dc7 pm7 cd7 ct7 : Value}
    {od8 an8 : Option Addr} {sl8 : Array (Option Value)} {oc8 kV8 dc8 pm8 cd8 ct8 : Value}
    {od9 an9 : Option Addr} {sl9 : Array (Option Value)} {oc9 kV9 dc9 pm9 cd9 ct9 : Value}
    {od10 an10 : Option Addr} {sl10 : Array (Option Value)} {oc10 kV10 dc10 pm10 cd10 ct10 : Value}
    {od11 an11 : Option Addr} {sl11 : Array (Option Value)} {oc11 kV11 dc11 pm11 cd11 ct11 : Value}
    {od12 an12 : Option Addr} {sl12 : Array (Option Value)} {oc12 kV12 dc12 pm12 cd12 ct12 : Value}
    {od13 an13 : Option Addr} {sl13 : Array (Option Value)} {oc13 kV13 dc13 pm13 cd13 ct13 : Value}
    {od14 an14 : Option Addr} {sl14 : Array (Option Value)} {oc14 kV14 dc14 pm14 cd14 ct14 : Value}
    {od15 an15 : Option Addr} {sl15 : Array (Option Value)} {oc15 kV15 dc15 pm15 cd15 ct15 : Value}
    {od16 an16 : Option Addr} {sl16 : Array (Option Value)} {oc16 kV16 dc16 pm16 cd16 ct16 : Value}
    {od17 an17 : Option Addr} {sl17 : Array (Option Value)} {oc17 kV17 dc17 pm17 cd17 ct17 : Value}
    {od18 an18 : Option Addr} {sl18 : Array (Option Value)} {oc18 kV18 dc18 pm18 cd18 ct18 : Value}
    {od19 an19 : Option Addr} {sl19 : Array (Option Value)} {oc19 kV19 dc19 pm19 cd19 ct19 : Value}
    {od20 an20 : Option Addr} {sl20 : Array (Option Value)} {oc20 kV20 dc20 pm20 cd20 ct20 : Value}
    {od21 an21 : Option Addr} {sl21 : Array (Option Value)} {oc21 kV21 dc21 pm21 cd21 ct21 : Value}
    {od22 an22 : Option Addr} {sl22 : Array (Option Value)} {oc22 kV22 dc22 pm22 cd22 ct22 : Value}
    {od23 an23 : Option Addr} {sl23 : Array (Option Value)} {oc23 kV23 dc23 pm23 cd23 ct23 : Value}
    {od24 an24 : Option Addr} {sl24 : Array (Option Value)} {oc24 kV24 dc24 pm24 cd24 ct24 : Value}
    {od25 an25 : Option Addr} {sl25 : Array (Option Value)} {oc25 kV25 dc25 pm25 cd25 ct25 : Value}
    {od26 an26 : Option Addr} {sl26 : Array (Option Value)} {oc26 kV26 dc26 pm26 cd26 ct26 : Value}
    {od27 an27 : Option Addr} {sl27 : Array (Option Value)} {oc27 kV27 dc27 pm27 cd27 ct27 : Value}
    {od28 an28 : Option Addr} {sl28 : Array (Option Value)} {oc28 kV28 dc28 pm28 cd28 ct28 : Value}
    {od29 an29 : Option Addr} {sl29 : Array (Option Value)} {oc29 kV29 dc29 pm29 cd29 ct29 : Value}
    (a0 : PySem.W.nsIn K mainGlobals "_law_deck" = some (some (.ref f0)))
    (l0 : K.lookup f0 = some ⟨oc0, od0, .func (PySem.W.fnOf "_law_deck" "_law_deck" (defArgs s__law_deck) (defBody s__law_deck) (defScope s__law_deck) .none kV0 dc0 pm0 an0 cd0 ct0), sl0⟩) (c0 : PySem.W.codeIn K cd0 "_law_deck" = true) (k0 : PySem.W.keepIn K (.ref f0) = true)
    (a1 : PySem.W.nsIn K mainGlobals "_law_draw" = some (some (.ref f1)))
    (l1 : K.lookup f1 = some ⟨oc1, od1, .func (PySem.W.fnOf "_law_draw" "_law_draw" (defArgs s__law_draw) (defBody s__law_draw) (defScope s__law_draw) .none kV1 dc1 pm1 an1 cd1 ct1), sl1⟩) (c1 : PySem.W.codeIn K cd1 "_law_draw" = true) (k1 : PySem.W.keepIn K (.ref f1) = true)
    (a2 : PySem.W.nsIn K mainGlobals "_law_one" = some (some (.ref f2)))
    (l2 : K.lookup f2 = some ⟨oc2, od2, .func (PySem.W.fnOf "_law_one" "_law_one" (defArgs s__law_one) (defBody s__law_one) (defScope s__law_one) .none kV2 dc2 pm2 an2 cd2 ct2), sl2⟩) (c2 : PySem.W.codeIn K cd2 "_law_one" = true) (k2 : PySem.W.keepIn K (.ref f2) = true)
    (a3 : PySem.W.nsIn K mainGlobals "_law_bag" = some (some (.ref f3)))
    (l3 : K.lookup f3 = some ⟨oc3, od3, .func (PySem.W.fnOf "_law_bag" "_law_bag" (defArgs s__law_bag) (defBody s__law_bag) (defScope s__law_bag) .none kV3 dc3 pm3 an3 cd3 ct3), sl3⟩) (c3 : PySem.W.codeIn K cd3 "_law_bag" = true) (k3 : PySem.W.keepIn K (.ref f3) = true)
    (a4 : PySem.W.nsIn K mainGlobals "_law_side" = some (some (.ref f4)))
    (l4 : K.lookup f4 = some ⟨oc4, od4, .func (PySem.W.fnOf "_law_side" "_law_side" (defArgs s__law_side) (defBody s__law_side) (defScope s__law_side) .none kV4 dc4 pm4 an4 cd4 ct4), sl4⟩) (c4 : PySem.W.codeIn K cd4 "_law_side" = true) (k4 : PySem.W.keepIn K (.ref f4) = true)
    (a5 : PySem.W.nsIn K mainGlobals "_law_trade" = some (some (.ref f5)))
    (l5 : K.lookup f5 = some ⟨oc5, od5, .func (PySem.W.fnOf "_law_trade" "_law_trade" (defArgs s__law_trade) (defBody s__law_trade) (defScope s__law_trade) .none kV5 dc5 pm5 an5 cd5 ct5), sl5⟩) (c5 : PySem.W.codeIn K cd5 "_law_trade" = true) (k5 : PySem.W.keepIn K (.ref f5) = true)
    (a6 : PySem.W.nsIn K mainGlobals "_law_market" = some (some (.ref f6)))
    (l6 : K.lookup f6 = some ⟨oc6, od6, .func (PySem.W.fnOf "_law_market" "_law_market" (defArgs s__law_market) (defBody s__law_market) (defScope s__law_market) .none kV6 dc6 pm6 an6 cd6 ct6), sl6⟩) (c6 : PySem.W.codeIn K cd6 "_law_market" = true) (k6 : PySem.W.keepIn K (.ref f6) = true)
    (a7 : PySem.W.nsIn K mainGlobals "_law_any_market" = some (some (.ref f7)))
    (l7 : K.lookup f7 = some ⟨oc7, od7, .func (PySem.W.fnOf "_law_any_market" "_law_any_market" (defArgs s__law_any_market) (defBody s__law_any_market) (defScope s__law_any_market) .none kV7 dc7 pm7 an7 cd7 ct7), sl7⟩) (c7 : PySem.W.codeIn K cd7 "_law_any_market" = true) (k7 : PySem.W.keepIn K (.ref f7) = true)
    (a8 : PySem.W.nsIn K mainGlobals "_law_plus" = some (some (.ref f8)))
    (l8 : K.lookup f8 = some ⟨oc8, od8, .func (PySem.W.fnOf "_law_plus" "_law_plus" (defArgs s__law_plus) (defBody s__law_plus) (defScope s__law_plus) .none kV8 dc8 pm8 an8 cd8 ct8), sl8⟩) (c8 : PySem.W.codeIn K cd8 "_law_plus" = true) (k8 : PySem.W.keepIn K (.ref f8) = true)
    (a9 : PySem.W.nsIn K mainGlobals "_law_less" = some (some (.ref f9)))
    (l9 : K.lookup f9 = some ⟨oc9, od9, .func (PySem.W.fnOf "_law_less" "_law_less" (defArgs s__law_less) (defBody s__law_less) (defScope s__law_less) .none kV9 dc9 pm9 an9 cd9 ct9), sl9⟩) (c9 : PySem.W.codeIn K cd9 "_law_less" = true) (k9 : PySem.W.keepIn K (.ref f9) = true)
    (a10 : PySem.W.nsIn K mainGlobals "_law_holds" = some (some (.ref f10)))
    (l10 : K.lookup f10 = some ⟨oc10, od10, .func (PySem.W.fnOf "_law_holds" "_law_holds" (defArgs s__law_holds) (defBody s__law_holds) (defScope s__law_holds) .none kV10 dc10 pm10 an10 cd10 ct10), sl10⟩) (c10 : PySem.W.codeIn K cd10 "_law_holds" = true) (k10 : PySem.W.keepIn K (.ref f10) = true)
    (a11 : PySem.W.nsIn K mainGlobals "_law_behind" = some (some (.ref f11)))
    (l11 : K.lookup f11 = some ⟨oc11, od11, .func (PySem.W.fnOf "_law_behind" "_law_behind" (defArgs s__law_behind) (defBody s__law_behind) (defScope s__law_behind) .none kV11 dc11 pm11 an11 cd11 ct11), sl11⟩) (c11 : PySem.W.codeIn K cd11 "_law_behind" = true) (k11 : PySem.W.keepIn K (.ref f11) = true)
    (a12 : PySem.W.nsIn K mainGlobals "_law_around" = some (some (.ref f12)))
    (l12 : K.lookup f12 = some ⟨oc12, od12, .func (PySem.W.fnOf "_law_around" "_law_around" (defArgs s__law_around) (defBody s__law_around) (defScope s__law_around) .none kV12 dc12 pm12 an12 cd12 ct12), sl12⟩) (c12 : PySem.W.codeIn K cd12 "_law_around" = true) (k12 : PySem.W.keepIn K (.ref f12) = true)
    (a13 : PySem.W.nsIn K mainGlobals "_law_near" = some (some (.ref f13)))
    (l13 : K.lookup f13 = some ⟨oc13, od13, .func (PySem.W.fnOf "_law_near" "_law_near" (defArgs s__law_near) (defBody s__law_near) (defScope s__law_near) .none kV13 dc13 pm13 an13 cd13 ct13), sl13⟩) (c13 : PySem.W.codeIn K cd13 "_law_near" = true) (k13 : PySem.W.keepIn K (.ref f13) = true)
    (a14 : PySem.W.nsIn K mainGlobals "_law_pair" = some (some (.ref f14)))
    (l14 : K.lookup f14 = some ⟨oc14, od14, .func (PySem.W.fnOf "_law_pair" "_law_pair" (defArgs s__law_pair) (defBody s__law_pair) (defScope s__law_pair) .none kV14 dc14 pm14 an14 cd14 ct14), sl14⟩) (c14 : PySem.W.codeIn K cd14 "_law_pair" = true) (k14 : PySem.W.keepIn K (.ref f14) = true)
    (a15 : PySem.W.nsIn K mainGlobals "_law_change" = some (some (.ref f15)))
    (l15 : K.lookup f15 = some ⟨oc15, od15, .func (PySem.W.fnOf "_law_change" "_law_change" (defArgs s__law_change) (defBody s__law_change) (defScope s__law_change) .none kV15 dc15 pm15 an15 cd15 ct15), sl15⟩) (c15 : PySem.W.codeIn K cd15 "_law_change" = true) (k15 : PySem.W.keepIn K (.ref f15) = true)
    (a16 : PySem.W.nsIn K mainGlobals "_law_agreeing" = some (some (.ref f16)))
    (l16 : K.lookup f16 = some ⟨oc16, od16, .func (PySem.W.fnOf "_law_agreeing" "_law_agreeing" (defArgs s__law_agreeing) (defBody s__law_agreeing) (defScope s__law_agreeing) .none kV16 dc16 pm16 an16 cd16 ct16), sl16⟩) (c16 : PySem.W.codeIn K cd16 "_law_agreeing" = true) (k16 : PySem.W.keepIn K (.ref f16) = true)
    (a17 : PySem.W.nsIn K mainGlobals "_law_differ" = some (some (.ref f17)))
    (l17 : K.lookup f17 = some ⟨oc17, od17, .func (PySem.W.fnOf "_law_differ" "_law_differ" (defArgs s__law_differ) (defBody s__law_differ) (defScope s__law_differ) .none kV17 dc17 pm17 an17 cd17 ct17), sl17⟩) (c17 : PySem.W.codeIn K cd17 "_law_differ" = true) (k17 : PySem.W.keepIn K (.ref f17) = true)
    (a18 : PySem.W.nsIn K mainGlobals "_law_are_same" = some (some (.ref f18)))
    (l18 : K.lookup f18 = some ⟨oc18, od18, .func (PySem.W.fnOf "_law_are_same" "_law_are_same" (defArgs s__law_are_same) (defBody s__law_are_same) (defScope s__law_are_same) .none kV18 dc18 pm18 an18 cd18 ct18), sl18⟩) (c18 : PySem.W.codeIn K cd18 "_law_are_same" = true) (k18 : PySem.W.keepIn K (.ref f18) = true)
    (a19 : PySem.W.nsIn K mainGlobals "gains" = some (some (.ref f19)))
    (l19 : K.lookup f19 = some ⟨oc19, od19, .func (PySem.W.fnOf "gains" "gains" (defArgs s_gains) (defBody s_gains) (defScope s_gains) .none kV19 dc19 pm19 an19 cd19 ct19), sl19⟩) (c19 : PySem.W.codeIn K cd19 "gains" = true) (k19 : PySem.W.keepIn K (.ref f19) = true)
    (a20 : PySem.W.nsIn K mainGlobals "unit_row" = some (some (.ref f20)))
    (l20 : K.lookup f20 = some ⟨oc20, od20, .func (PySem.W.fnOf "unit_row" "unit_row" (defArgs s_unit_row) (defBody s_unit_row) (defScope s_unit_row) .none kV20 dc20 pm20 an20 cd20 ct20), sl20⟩) (c20 : PySem.W.codeIn K cd20 "unit_row" = true) (k20 : PySem.W.keepIn K (.ref f20) = true)
    (a21 : PySem.W.nsIn K mainGlobals "swapped" = some (some (.ref f21)))
    (l21 : K.lookup f21 = some ⟨oc21, od21, .func (PySem.W.fnOf "swapped" "swapped" (defArgs s_swapped) (defBody s_swapped) (defScope s_swapped) .none kV21 dc21 pm21 an21 cd21 ct21), sl21⟩) (c21 : PySem.W.codeIn K cd21 "swapped" = true) (k21 : PySem.W.keepIn K (.ref f21) = true)
    (a22 : PySem.W.nsIn K mainGlobals "reduced" = some (some (.ref f22)))
    (l22 : K.lookup f22 = some ⟨oc22, od22, .func (PySem.W.fnOf "reduced" "reduced" (defArgs s_reduced) (defBody s_reduced) (defScope s_reduced) .none kV22 dc22 pm22 an22 cd22 ct22), sl22⟩) (c22 : PySem.W.codeIn K cd22 "reduced" = true) (k22 : PySem.W.keepIn K (.ref f22) = true)
    (a23 : PySem.W.nsIn K mainGlobals "grid_of" = some (some (.ref f23)))
    (l23 : K.lookup f23 = some ⟨oc23, od23, .func (PySem.W.fnOf "grid_of" "grid_of" (defArgs s_grid_of) (defBody s_grid_of) (defScope s_grid_of) .none kV23 dc23 pm23 an23 cd23 ct23), sl23⟩) (c23 : PySem.W.codeIn K cd23 "grid_of" = true) (k23 : PySem.W.keepIn K (.ref f23) = true)
    (a24 : PySem.W.nsIn K mainGlobals "count_of" = some (some (.ref f24)))
    (l24 : K.lookup f24 = some ⟨oc24, od24, .func (PySem.W.fnOf "count_of" "count_of" (defArgs s_count_of) (defBody s_count_of) (defScope s_count_of) .none kV24 dc24 pm24 an24 cd24 ct24), sl24⟩) (c24 : PySem.W.codeIn K cd24 "count_of" = true) (k24 : PySem.W.keepIn K (.ref f24) = true)
    (a25 : PySem.W.nsIn K mainGlobals "counts" = some (some (.ref f25)))
    (l25 : K.lookup f25 = some ⟨oc25, od25, .func (PySem.W.fnOf "counts" "counts" (defArgs s_counts) (defBody s_counts) (defScope s_counts) .none kV25 dc25 pm25 an25 cd25 ct25), sl25⟩) (c25 : PySem.W.codeIn K cd25 "counts" = true) (k25 : PySem.W.keepIn K (.ref f25) = true)
    (a26 : PySem.W.nsIn K mainGlobals "worth" = some (some (.ref f26)))
    (l26 : K.lookup f26 = some ⟨oc26, od26, .func (PySem.W.fnOf "worth" "worth" (defArgs s_worth) (defBody s_worth) (defScope s_worth) .none kV26 dc26 pm26 an26 cd26 ct26), sl26⟩) (c26 : PySem.W.codeIn K cd26 "worth" = true) (k26 : PySem.W.keepIn K (.ref f26) = true)
    (a27 : PySem.W.nsIn K mainGlobals "net" = some (some (.ref f27)))
    (l27 : K.lookup f27 = some ⟨oc27, od27, .func (PySem.W.fnOf "net" "net" (defArgs s_net) (defBody s_net) (defScope s_net) .none kV27 dc27 pm27 an27 cd27 ct27), sl27⟩) (c27 : PySem.W.codeIn K cd27 "net" = true) (k27 : PySem.W.keepIn K (.ref f27) = true)
    (a28 : PySem.W.nsIn K mainGlobals "agree" = some (some (.ref f28)))
    (l28 : K.lookup f28 = some ⟨oc28, od28, .func (PySem.W.fnOf "agree" "agree" (defArgs s_agree) (defBody s_agree) (defScope s_agree) .none kV28 dc28 pm28 an28 cd28 ct28), sl28⟩) (c28 : PySem.W.codeIn K cd28 "agree" = true) (k28 : PySem.W.keepIn K (.ref f28) = true)
    (a29 : PySem.W.nsIn K mainGlobals "law" = some (some (.ref f29)))
    (l29 : K.lookup f29 = some ⟨oc29, od29, .func (PySem.W.fnOf "law" "law" (defArgs s_law) (defBody s_law) (defScope s_law) .none kV29 dc29 pm29 an29 cd29 ct29), sl29⟩) (c29 : PySem.W.codeIn K cd29 "law" = true) (k29 : PySem.W.keepIn K (.ref f29) = true)
    {C_Grid : Addr} (dA_Grid : PySem.W.nsIn K mainGlobals "Grid" = some (some (.ref C_Grid))) (dG_Grid : PySem.W.plainGet K C_Grid Str.empty = true) (dH_Grid : PySem.W.hasDictIn K C_Grid = true) (dO_Grid : PySem.W.plainOver K C_Grid = true) (dS_Grid : PySem.W.findIn K (.ref C_Grid) "__setattr__" = some (some (.builtin "object.__setattr__")))
    (dM_Grid : PySem.W.makesIn K C_Grid = true) (dP_Grid : PySem.W.keepIn K (.ref C_Grid) = true)
    (dN_Grid_goods : PySem.W.findIn K (.ref C_Grid) "goods" = some none)
    (dN_Grid_tops : PySem.W.findIn K (.ref C_Grid) "tops" = some none)
    (dN_Grid_lows : PySem.W.findIn K (.ref C_Grid) "lows" = some none)
    {g_Grid___init__ : Addr} {odM_Grid___init__ anM_Grid___init__ : Option Addr} {slM_Grid___init__ : Array (Option Value)} {ocM_Grid___init__ kVM_Grid___init__ dcM_Grid___init__ pmM_Grid___init__ cdM_Grid___init__ ctM_Grid___init__ : Value}
    (mA_Grid___init__ : PySem.W.findIn K (.ref C_Grid) "__init__" = some (some (.ref g_Grid___init__))) (mJ_Grid___init__ : PySem.W.typeIn K (.ref g_Grid___init__) = some (.type "function")) (mL_Grid___init__ : K.lookup g_Grid___init__ = some ⟨ocM_Grid___init__, odM_Grid___init__, .func (PySem.W.fnOf "__init__" "Grid.__init__" (defArgs s_Grid___init__) (defBody s_Grid___init__) (defScope s_Grid___init__) .none kVM_Grid___init__ dcM_Grid___init__ pmM_Grid___init__ anM_Grid___init__ cdM_Grid___init__ ctM_Grid___init__), slM_Grid___init__⟩) (mC_Grid___init__ : PySem.W.codeIn K cdM_Grid___init__ "Grid.__init__" = true) (mK_Grid___init__ : PySem.W.keepIn K (.ref g_Grid___init__) = true)
    {g_Grid_least_place : Addr} {odM_Grid_least_place anM_Grid_least_place : Option Addr} {slM_Grid_least_place : Array (Option Value)} {ocM_Grid_least_place kVM_Grid_least_place dcM_Grid_least_place pmM_Grid_least_place cdM_Grid_least_place ctM_Grid_least_place : Value}
    (mA_Grid_least_place : PySem.W.findIn K (.ref C_Grid) "least_place" = some (some (.ref g_Grid_least_place))) (mJ_Grid_least_place : PySem.W.typeIn K (.ref g_Grid_least_place) = some (.type "function")) (mL_Grid_least_place : K.lookup g_Grid_least_place = some ⟨ocM_Grid_least_place, odM_Grid_least_place, .func (PySem.W.fnOf "least_place" "Grid.least_place" (defArgs s_Grid_least_place) (defBody s_Grid_least_place) (defScope s_Grid_least_place) .none kVM_Grid_least_place dcM_Grid_least_place pmM_Grid_least_place anM_Grid_least_place cdM_Grid_least_place ctM_Grid_least_place), slM_Grid_least_place⟩) (mC_Grid_least_place : PySem.W.codeIn K cdM_Grid_least_place "Grid.least_place" = true) (mK_Grid_least_place : PySem.W.keepIn K (.ref g_Grid_least_place) = true)
    {g_Grid_bring : Addr} {odM_Grid_bring anM_Grid_bring : Option Addr} {slM_Grid_bring : Array (Option Value)} {ocM_Grid_bring kVM_Grid_bring dcM_Grid_bring pmM_Grid_bring cdM_Grid_bring ctM_Grid_bring : Value}
    (mA_Grid_bring : PySem.W.findIn K (.ref C_Grid) "bring" = some (some (.ref g_Grid_bring))) (mJ_Grid_bring : PySem.W.typeIn K (.ref g_Grid_bring) = some (.type "function")) (mL_Grid_bring : K.lookup g_Grid_bring = some ⟨ocM_Grid_bring, odM_Grid_bring, .func (PySem.W.fnOf "bring" "Grid.bring" (defArgs s_Grid_bring) (defBody s_Grid_bring) (defScope s_Grid_bring) .none kVM_Grid_bring dcM_Grid_bring pmM_Grid_bring anM_Grid_bring cdM_Grid_bring ctM_Grid_bring), slM_Grid_bring⟩) (mC_Grid_bring : PySem.W.codeIn K cdM_Grid_bring "Grid.bring" = true) (mK_Grid_bring : PySem.W.keepIn K (.ref g_Grid_bring) = true)
    {g_Grid_reduce_rows : Addr} {odM_Grid_reduce_rows anM_Grid_reduce_rows : Option Addr} {slM_Grid_reduce_rows : Array (Option Value)} {ocM_Grid_reduce_rows kVM_Grid_reduce_rows dcM_Grid_reduce_rows pmM_Grid_reduce_rows cdM_Grid_reduce_rows ctM_Grid_reduce_rows : Value}
    (mA_Grid_reduce_rows : PySem.W.findIn K (.ref C_Grid) "reduce_rows" = some (some (.ref g_Grid_reduce_rows))) (mJ_Grid_reduce_rows : PySem.W.typeIn K (.ref g_Grid_reduce_rows) = some (.type "function")) (mL_Grid_reduce_rows : K.lookup g_Grid_reduce_rows = some ⟨ocM_Grid_reduce_rows, odM_Grid_reduce_rows, .func (PySem.W.fnOf "reduce_rows" "Grid.reduce_rows" (defArgs s_Grid_reduce_rows) (defBody s_Grid_reduce_rows) (defScope s_Grid_reduce_rows) .none kVM_Grid_reduce_rows dcM_Grid_reduce_rows pmM_Grid_reduce_rows anM_Grid_reduce_rows cdM_Grid_reduce_rows ctM_Grid_reduce_rows), slM_Grid_reduce_rows⟩) (mC_Grid_reduce_rows : PySem.W.codeIn K cdM_Grid_reduce_rows "Grid.reduce_rows" = true) (mK_Grid_reduce_rows : PySem.W.keepIn K (.ref g_Grid_reduce_rows) = true)
    {g_Grid_reduce_columns : Addr} {odM_Grid_reduce_columns anM_Grid_reduce_columns : Option Addr} {slM_Grid_reduce_columns : Array (Option Value)} {ocM_Grid_reduce_columns kVM_Grid_reduce_columns dcM_Grid_reduce_columns pmM_Grid_reduce_columns cdM_Grid_reduce_columns ctM_Grid_reduce_columns : Value}
    (mA_Grid_reduce_columns : PySem.W.findIn K (.ref C_Grid) "reduce_columns" = some (some (.ref g_Grid_reduce_columns))) (mJ_Grid_reduce_columns : PySem.W.typeIn K (.ref g_Grid_reduce_columns) = some (.type "function")) (mL_Grid_reduce_columns : K.lookup g_Grid_reduce_columns = some ⟨ocM_Grid_reduce_columns, odM_Grid_reduce_columns, .func (PySem.W.fnOf "reduce_columns" "Grid.reduce_columns" (defArgs s_Grid_reduce_columns) (defBody s_Grid_reduce_columns) (defScope s_Grid_reduce_columns) .none kVM_Grid_reduce_columns dcM_Grid_reduce_columns pmM_Grid_reduce_columns anM_Grid_reduce_columns cdM_Grid_reduce_columns ctM_Grid_reduce_columns), slM_Grid_reduce_columns⟩) (mC_Grid_reduce_columns : PySem.W.codeIn K cdM_Grid_reduce_columns "Grid.reduce_columns" = true) (mK_Grid_reduce_columns : PySem.W.keepIn K (.ref g_Grid_reduce_columns) = true)
    {g_Grid_is_clear : Addr} {odM_Grid_is_clear anM_Grid_is_clear : Option Addr} {slM_Grid_is_clear : Array (Option Value)} {ocM_Grid_is_clear kVM_Grid_is_clear dcM_Grid_is_clear pmM_Grid_is_clear cdM_Grid_is_clear ctM_Grid_is_clear : Value}
    (mA_Grid_is_clear : PySem.W.findIn K (.ref C_Grid) "is_clear" = some (some (.ref g_Grid_is_clear))) (mJ_Grid_is_clear : PySem.W.typeIn K (.ref g_Grid_is_clear) = some (.type "function")) (mL_Grid_is_clear : K.lookup g_Grid_is_clear = some ⟨ocM_Grid_is_clear, odM_Grid_is_clear, .func (PySem.W.fnOf "is_clear" "Grid.is_clear" (defArgs s_Grid_is_clear) (defBody s_Grid_is_clear) (defScope s_Grid_is_clear) .none kVM_Grid_is_clear dcM_Grid_is_clear pmM_Grid_is_clear anM_Grid_is_clear cdM_Grid_is_clear ctM_Grid_is_clear), slM_Grid_is_clear⟩) (mC_Grid_is_clear : PySem.W.codeIn K cdM_Grid_is_clear "Grid.is_clear" = true) (mK_Grid_is_clear : PySem.W.keepIn K (.ref g_Grid_is_clear) = true)
    {g_Grid_finish : Addr} {odM_Grid_finish anM_Grid_finish : Option Addr} {slM_Grid_finish : Array (Option Value)} {ocM_Grid_finish kVM_Grid_finish dcM_Grid_finish pmM_Grid_finish cdM_Grid_finish ctM_Grid_finish : Value}
    (mA_Grid_finish : PySem.W.findIn K (.ref C_Grid) "finish" = some (some (.ref g_Grid_finish))) (mJ_Grid_finish : PySem.W.typeIn K (.ref g_Grid_finish) = some (.type "function")) (mL_Grid_finish : K.lookup g_Grid_finish = some ⟨ocM_Grid_finish, odM_Grid_finish, .func (PySem.W.fnOf "finish" "Grid.finish" (defArgs s_Grid_finish) (defBody s_Grid_finish) (defScope s_Grid_finish) .none kVM_Grid_finish dcM_Grid_finish pmM_Grid_finish anM_Grid_finish cdM_Grid_finish ctM_Grid_finish), slM_Grid_finish⟩) (mC_Grid_finish : PySem.W.codeIn K cdM_Grid_finish "Grid.finish" = true) (mK_Grid_finish : PySem.W.keepIn K (.ref g_Grid_finish) = true)
    {g_Grid_modulus : Addr} {odM_Grid_modulus anM_Grid_modulus : Option Addr} {slM_Grid_modulus : Array (Option Value)} {ocM_Grid_modulus kVM_Grid_modulus dcM_Grid_modulus pmM_Grid_modulus cdM_Grid_modulus ctM_Grid_modulus : Value}
    (mA_Grid_modulus : PySem.W.findIn K (.ref C_Grid) "modulus" = some (some (.ref g_Grid_modulus))) (mJ_Grid_modulus : PySem.W.typeIn K (.ref g_Grid_modulus) = some (.type "function")) (mL_Grid_modulus : K.lookup g_Grid_modulus = some ⟨ocM_Grid_modulus, odM_Grid_modulus, .func (PySem.W.fnOf "modulus" "Grid.modulus" (defArgs s_Grid_modulus) (defBody s_Grid_modulus) (defScope s_Grid_modulus) .none kVM_Grid_modulus dcM_Grid_modulus pmM_Grid_modulus anM_Grid_modulus cdM_Grid_modulus ctM_Grid_modulus), slM_Grid_modulus⟩) (mC_Grid_modulus : PySem.W.codeIn K cdM_Grid_modulus "Grid.modulus" = true) (mK_Grid_modulus : PySem.W.keepIn K (.ref g_Grid_modulus) = true)
    {g_Grid_weights : Addr} {odM_Grid_weights anM_Grid_weights : Option Addr} {slM_Grid_weights : Array (Option Value)} {ocM_Grid_weights kVM_Grid_weights dcM_Grid_weights pmM_Grid_weights cdM_Grid_weights ctM_Grid_weights : Value}
    (mA_Grid_weights : PySem.W.findIn K (.ref C_Grid) "weights" = some (some (.ref g_Grid_weights))) (mJ_Grid_weights : PySem.W.typeIn K (.ref g_Grid_weights) = some (.type "function")) (mL_Grid_weights : K.lookup g_Grid_weights = some ⟨ocM_Grid_weights, odM_Grid_weights, .func (PySem.W.fnOf "weights" "Grid.weights" (defArgs s_Grid_weights) (defBody s_Grid_weights) (defScope s_Grid_weights) .none kVM_Grid_weights dcM_Grid_weights pmM_Grid_weights anM_Grid_weights cdM_Grid_weights ctM_Grid_weights), slM_Grid_weights⟩) (mC_Grid_weights : PySem.W.codeIn K cdM_Grid_weights "Grid.weights" = true) (mK_Grid_weights : PySem.W.keepIn K (.ref g_Grid_weights) = true)
    {g_Grid_trades_for : Addr} {odM_Grid_trades_for anM_Grid_trades_for : Option Addr} {slM_Grid_trades_for : Array (Option Value)} {ocM_Grid_trades_for kVM_Grid_trades_for dcM_Grid_trades_for pmM_Grid_trades_for cdM_Grid_trades_for ctM_Grid_trades_for : Value}
    (mA_Grid_trades_for : PySem.W.findIn K (.ref C_Grid) "trades_for" = some (some (.ref g_Grid_trades_for))) (mJ_Grid_trades_for : PySem.W.typeIn K (.ref g_Grid_trades_for) = some (.type "function")) (mL_Grid_trades_for : K.lookup g_Grid_trades_for = some ⟨ocM_Grid_trades_for, odM_Grid_trades_for, .func (PySem.W.fnOf "trades_for" "Grid.trades_for" (defArgs s_Grid_trades_for) (defBody s_Grid_trades_for) (defScope s_Grid_trades_for) .none kVM_Grid_trades_for dcM_Grid_trades_for pmM_Grid_trades_for anM_Grid_trades_for cdM_Grid_trades_for ctM_Grid_trades_for), slM_Grid_trades_for⟩) (mC_Grid_trades_for : PySem.W.codeIn K cdM_Grid_trades_for "Grid.trades_for" = true) (mK_Grid_trades_for : PySem.W.keepIn K (.ref g_Grid_trades_for) = true)
    (z_len : PySem.W.nsIn K mainGlobals "len" = some none)
    (z_range : PySem.W.nsIn K mainGlobals "range" = some none)
    (z_int : PySem.W.nsIn K mainGlobals "int" = some none)
    (z_bool : PySem.W.nsIn K mainGlobals "bool" = some none)
    (z_tuple : PySem.W.nsIn K mainGlobals "tuple" = some none)
    (z_list : PySem.W.nsIn K mainGlobals "list" = some none)
    (z_str : PySem.W.nsIn K mainGlobals "str" = some none)
    (z_dict : PySem.W.nsIn K mainGlobals "dict" = some none)
    (z_all : PySem.W.nsIn K mainGlobals "all" = some none)
    (z_any : PySem.W.nsIn K mainGlobals "any" = some none)
    (z_max : PySem.W.nsIn K mainGlobals "max" = some none)
    (z_min : PySem.W.nsIn K mainGlobals "min" = some none)
    (z_sum : PySem.W.nsIn K mainGlobals "sum" = some none)
    (z_zip : PySem.W.nsIn K mainGlobals "zip" = some none)
    (z_enumerate : PySem.W.nsIn K mainGlobals "enumerate" = some none)
    (z_isinstance : PySem.W.nsIn K mainGlobals "isinstance" = some none)
    (z_repr : PySem.W.nsIn K mainGlobals "repr" = some none)
    (z_sorted : PySem.W.nsIn K mainGlobals "sorted" = some none)
    (z_abs : PySem.W.nsIn K mainGlobals "abs" = some none)
    : ∃ fd : FuncData, (∀ (s : Shared) (v : Value), BindsTo s fd ⟨[v], []⟩ [("_law_script", v)]) ∧ ∀ base : Heap, K.In base → base.Ns mainGlobals mg → FnG l.prog w K mg base CX0 25 fa fd ["_law_script"] (spLaw K) := by
  have e := hfa.symm.trans (PySem.W.mg_of X G a29)
  cases e
  have F := fun_mk (st := s_law) l29 c29 k29
  have B : Blt mg := ⟨PySem.W.mg_none_of X G z_len, PySem.W.mg_none_of X G z_range, PySem.W.mg_none_of X G z_int, PySem.W.mg_none_of X G z_bool, PySem.W.mg_none_of X G z_tuple, PySem.W.mg_none_of X G z_list, PySem.W.mg_none_of X G z_str, PySem.W.mg_none_of X G z_dict, PySem.W.mg_none_of X G z_all, PySem.W.mg_none_of X G z_any, PySem.W.mg_none_of X G z_max, PySem.W.mg_none_of X G z_min, PySem.W.mg_none_of X G z_sum, PySem.W.mg_none_of X G z_zip, PySem.W.mg_none_of X G z_enumerate, PySem.W.mg_none_of X G z_isinstance, PySem.W.mg_none_of X G z_repr, PySem.W.mg_none_of X G z_sorted⟩
  have D__law_deck : Df K mg "_law_deck" s__law_deck := df_mk X G a0 l0 c0 k0
  have D__law_draw : Df K mg "_law_draw" s__law_draw := df_mk X G a1 l1 c1 k1
  have D__law_one : Df K mg "_law_one" s__law_one := df_mk X G a2 l2 c2 k2
  have D__law_bag : Df K mg "_law_bag" s__law_bag := df_mk X G a3 l3 c3 k3
  have D__law_side : Df K mg "_law_side" s__law_side := df_mk X G a4 l4 c4 k4
  have D__law_trade : Df K mg "_law_trade" s__law_trade := df_mk X G a5 l5 c5 k5
  have D__law_market : Df K mg "_law_market" s__law_market := df_mk X G a6 l6 c6 k6
  have D__law_any_market : Df K mg "_law_any_market" s__law_any_market := df_mk X G a7 l7 c7 k7
  have D__law_plus : Df K mg "_law_plus" s__law_plus := df_mk X G a8 l8 c8 k8
  have D__law_less : Df K mg "_law_less" s__law_less := df_mk X G a9 l9 c9 k9
  have D__law_holds : Df K mg "_law_holds" s__law_holds := df_mk X G a10 l10 c10 k10
  have D__law_behind : Df K mg "_law_behind" s__law_behind := df_mk X G a11 l11 c11 k11
  have D__law_around : Df K mg "_law_around" s__law_around := df_mk X G a12 l12 c12 k12
  have D__law_near : Df K mg "_law_near" s__law_near := df_mk X G a13 l13 c13 k13
  have D__law_pair : Df K mg "_law_pair" s__law_pair := df_mk X G a14 l14 c14 k14
  have D__law_change : Df K mg "_law_change" s__law_change := df_mk X G a15 l15 c15 k15
  have D__law_agreeing : Df K mg "_law_agreeing" s__law_agreeing := df_mk X G a16 l16 c16 k16
  have D__law_differ : Df K mg "_law_differ" s__law_differ := df_mk X G a17 l17 c17 k17
  have D__law_are_same : Df K mg "_law_are_same" s__law_are_same := df_mk X G a18 l18 c18 k18
  have D_gains : Df K mg "gains" s_gains := df_mk X G a19 l19 c19 k19
  have D_unit_row : Df K mg "unit_row" s_unit_row := df_mk X G a20 l20 c20 k20
  have D_swapped : Df K mg "swapped" s_swapped := df_mk X G a21 l21 c21 k21
  have D_reduced : Df K mg "reduced" s_reduced := df_mk X G a22 l22 c22 k22
  have D_grid_of : Df K mg "grid_of" s_grid_of := df_mk X G a23 l23 c23 k23
  have D_count_of : Df K mg "count_of" s_count_of := df_mk X G a24 l24 c24 k24
  have D_counts : Df K mg "counts" s_counts := df_mk X G a25 l25 c25 k25
  have D_worth : Df K mg "worth" s_worth := df_mk X G a26 l26 c26 k26
  have D_net : Df K mg "net" s_net := df_mk X G a27 l27 c27 k27
  have D_agree : Df K mg "agree" s_agree := df_mk X G a28 l28 c28 k28
  have CL_Grid : Cls K C_Grid := ⟨dG_Grid, dH_Grid, dO_Grid, dS_Grid⟩
  have gG_Grid := PySem.W.mg_of X G dA_Grid
  have D_Grid___init__ : DfM K C_Grid "__init__" "Grid.__init__" s_Grid___init__ := dfM_mk mA_Grid___init__ mJ_Grid___init__ mL_Grid___init__ mC_Grid___init__ mK_Grid___init__
  have D_Grid_least_place : DfM K C_Grid "least_place" "Grid.least_place" s_Grid_least_place := dfM_mk mA_Grid_least_place mJ_Grid_least_place mL_Grid_least_place mC_Grid_least_place mK_Grid_least_place
  have D_Grid_bring : DfM K C_Grid "bring" "Grid.bring" s_Grid_bring := dfM_mk mA_Grid_bring mJ_Grid_bring mL_Grid_bring mC_Grid_bring mK_Grid_bring
  have D_Grid_reduce_rows : DfM K C_Grid "reduce_rows" "Grid.reduce_rows" s_Grid_reduce_rows := dfM_mk mA_Grid_reduce_rows mJ_Grid_reduce_rows mL_Grid_reduce_rows mC_Grid_reduce_rows mK_Grid_reduce_rows
  have D_Grid_reduce_columns : DfM K C_Grid "reduce_columns" "Grid.reduce_columns" s_Grid_reduce_columns := dfM_mk mA_Grid_reduce_columns mJ_Grid_reduce_columns mL_Grid_reduce_columns mC_Grid_reduce_columns mK_Grid_reduce_columns
  have D_Grid_is_clear : DfM K C_Grid "is_clear" "Grid.is_clear" s_Grid_is_clear := dfM_mk mA_Grid_is_clear mJ_Grid_is_clear mL_Grid_is_clear mC_Grid_is_clear mK_Grid_is_clear
  have D_Grid_finish : DfM K C_Grid "finish" "Grid.finish" s_Grid_finish := dfM_mk mA_Grid_finish mJ_Grid_finish mL_Grid_finish mC_Grid_finish mK_Grid_finish
  have D_Grid_modulus : DfM K C_Grid "modulus" "Grid.modulus" s_Grid_modulus := dfM_mk mA_Grid_modulus mJ_Grid_modulus mL_Grid_modulus mC_Grid_modulus mK_Grid_modulus
  have D_Grid_weights : DfM K C_Grid "weights" "Grid.weights" s_Grid_weights := dfM_mk mA_Grid_weights mJ_Grid_weights mL_Grid_weights mC_Grid_weights mK_Grid_weights
  have D_Grid_trades_for : DfM K C_Grid "trades_for" "Grid.trades_for" s_Grid_trades_for := dfM_mk mA_Grid_trades_for mJ_Grid_trades_for mL_Grid_trades_for mC_Grid_trades_for mK_Grid_trades_for
  have h_abs := PySem.W.mg_none_of X G z_abs
  refine ⟨PySem.W.fnOf "law" "law" (defArgs s_law) (defBody s_law) (defScope s_law) .none kV29 dc29 pm29 an29 cd29 ct29, fun s v => .of_eq rfl, fun base _ _ => ?_⟩
  have GC : GrdC K C_Grid := ⟨CL_Grid, dN_Grid_goods, dN_Grid_tops, dN_Grid_lows⟩
  have O_draw := own_draw (P := l.prog) (w := w) (base := base) D__law_draw B
  have O_deck := own_deck (P := l.prog) (w := w) (base := base) D__law_deck B
  have O_plus := own_plus (P := l.prog) (w := w) (base := base) D__law_plus B
  have O_side := own_side D__law_side B O_draw
  have O_trade := own_trade D__law_trade B O_draw O_side O_plus
  have O_market := own_market D__law_market B O_draw O_trade
  have O_any := own_anyS D__law_any_market B O_draw O_market
  have O_gains := own_gains (P := l.prog) (w := w) (base := base) D_gains B
  have O_unit := own_unit (P := l.prog) (w := w) (base := base) D_unit_row B
  have O_swapped := own_swapped (P := l.prog) (w := w) (base := base) D_swapped B
  have O_reduced := own_reduced (P := l.prog) (w := w) (base := base) D_reduced B
  have M_init := own_ginit D_Grid___init__ B GC O_gains O_unit
  have M_least := own_gleast (P := l.prog) (w := w) (base := base) D_Grid_least_place B h_abs GC
  have M_bring := own_gbring D_Grid_bring B GC O_swapped
  have M_redr := own_gredr (P := l.prog) (w := w) (base := base) D_Grid_reduce_rows B GC
  have M_redc := own_gredc D_Grid_reduce_columns B GC O_reduced
  have M_clear := own_gclear (P := l.prog) (w := w) (base := base) D_Grid_is_clear B GC
  have M_finish := own_gfinish D_Grid_finish B GC M_least M_bring M_redr M_redc M_clear
  have M_mod := own_gmod (P := l.prog) (w := w) (base := base) D_Grid_modulus B h_abs GC
  have M_weights := own_gweights (P := l.prog) (w := w) (base := base) D_Grid_weights B GC
  have O_grid := own_gridof D_grid_of B GC gG_Grid dM_Grid dP_Grid M_init M_finish
  have O_countof := own_countof (P := l.prog) (w := w) (base := base) D_count_of B
  have O_counts := own_counts D_counts B GC O_grid O_countof M_mod M_weights
  have O_one := own_one D__law_one B O_draw
  have O_oneT := own_oneT D__law_one B O_draw
  have O_bag := own_bag D__law_bag B O_draw
  have O_less := own_less (P := l.prog) (w := w) (base := base) D__law_less B
  have O_holds := own_lholds (P := l.prog) (w := w) (base := base) D__law_holds B
  have O_behind := own_behind D__law_behind B O_plus O_less O_holds
  have O_around := own_around D__law_around B O_behind
  have O_near := own_near D__law_near B O_around O_one
  have O_pair := own_pairL D__law_pair B O_draw O_bag O_near O_oneT O_plus O_less
  have O_changeL := own_change true D__law_change B O_less
  have O_changeT := own_change false D__law_change B O_less
  have O_agreeing := own_agreeing D__law_agreeing B O_draw O_bag O_changeL
  have O_aresame := own_aresame (P := l.prog) (w := w) (base := base) D__law_are_same B
  have O_differ := own_differ (P := l.prog) (w := w) (base := base) D__law_differ B
  have O_worth := own_worthP (P := l.prog) (w := w) (base := base) D_worth B
  have M_trades := own_gtrades (P := l.prog) (w := w) (base := base) D_Grid_trades_for B GC
  have O_net := own_net D_net B GC O_grid O_gains O_worth M_mod M_weights M_trades
  have O_agree := own_agree D_agree B O_net
  exact fn_law F B O_deck O_any O_bag O_pair O_agreeing O_net O_agree O_counts O_aresame O_differ O_changeT
end Lb
open PySem PySem.W PyProof.Rows in
set_option maxHeartbeats 0 in
theorem PySem.Challenge.cw_lentbeside_k20_net_numbers_holds : PySem.Challenge.rw_lentbeside_k20_net_numbers.Holds := by
  w_on; o_law; k_head; (case hw => w_witness2)
  k_fill
  refine Lb.walk_g (l := PySem.Challenge.rw_lentbeside_k20_net_numbers) (n := 63) (k := 25) (x := "_law_script") (CX := fun _ => L2.CX0) (sp := fun w => Lb.spLaw _) rfl (by decide) rfl ⟨rfl, by decide, by decide⟩ (fun w h Y => PySem.W.kIn_of Y) ?F (fun _ _ a ns hl _ hS => ⟨a, ns, rfl, hS, hl, fun _ => rfl⟩) (fun _ _ _ _ _ h => h)
  case F =>
    intro w mg fa h KX G hmg
    refine' Lb.all_mk KX G hmg ?a0 ?l0 ?c0 ?k0 ?a1 ?l1 ?c1 ?k1 ?a2 ?l2 ?c2 ?k2 ?a3 ?l3 ?c3 ?k3 ?a4 ?l4 ?c4 ?k4 ?a5 ?l5 ?c5 ?k5 ?a6 ?l6 ?c6 ?k6 ?a7 ?l7 ?c7 ?k7 ?a8 ?l8 ?c8 ?k8 ?a9 ?l9 ?c9 ?k9 ?a10 ?l10 ?c10 ?k10 ?a11 ?l11 ?c11 ?k11 ?a12 ?l12 ?c12 ?k12 ?a13 ?l13 ?c13 ?k13 ?a14 ?l14 ?c14 ?k14 ?a15 ?l15 ?c15 ?k15 ?a16 ?l16 ?c16 ?k16 ?a17 ?l17 ?c17 ?k17 ?a18 ?l18 ?c18 ?k18 ?a19 ?l19 ?c19 ?k19 ?a20 ?l20 ?c20 ?k20 ?a21 ?l21 ?c21 ?k21 ?a22 ?l22 ?c22 ?k22 ?a23 ?l23 ?c23 ?k23 ?a24 ?l24 ?c24 ?k24 ?a25 ?l25 ?c25 ?k25 ?a26 ?l26 ?c26 ?k26 ?a27 ?l27 ?c27 ?k27 ?a28 ?l28 ?c28 ?k28 ?a29 ?l29 ?c29 ?k29 ?dA_Grid ?dG_Grid ?dH_Grid ?dO_Grid ?dS_Grid ?dM_Grid ?dP_Grid ?dN_Grid_goods ?dN_Grid_tops ?dN_Grid_lows ?mA_Grid___init__ ?mJ_Grid___init__ ?mL_Grid___init__ ?mC_Grid___init__ ?mK_Grid___init__ ?mA_Grid_least_place ?mJ_Grid_least_place ?mL_Grid_least_place ?mC_Grid_least_place ?mK_Grid_least_place ?mA_Grid_bring ?mJ_Grid_bring ?mL_Grid_bring ?mC_Grid_bring ?mK_Grid_bring ?mA_Grid_reduce_rows ?mJ_Grid_reduce_rows ?mL_Grid_reduce_rows ?mC_Grid_reduce_rows ?mK_Grid_reduce_rows ?mA_Grid_reduce_columns ?mJ_Grid_reduce_columns ?mL_Grid_reduce_columns ?mC_Grid_reduce_columns ?mK_Grid_reduce_columns ?mA_Grid_is_clear ?mJ_Grid_is_clear ?mL_Grid_is_clear ?mC_Grid_is_clear ?mK_Grid_is_clear ?mA_Grid_finish ?mJ_Grid_finish ?mL_Grid_finish ?mC_Grid_finish ?mK_Grid_finish ?mA_Grid_modulus ?mJ_Grid_modulus ?mL_Grid_modulus ?mC_Grid_modulus ?mK_Grid_modulus ?mA_Grid_weights ?mJ_Grid_weights ?mL_Grid_weights ?mC_Grid_weights ?mK_Grid_weights ?mA_Grid_trades_for ?mJ_Grid_trades_for ?mL_Grid_trades_for ?mC_Grid_trades_for ?mK_Grid_trades_for ?z_len ?z_range ?z_int ?z_bool ?z_tuple ?z_list ?z_str ?z_dict ?z_all ?z_any ?z_max ?z_min ?z_sum ?z_zip ?z_enumerate ?z_isinstance ?z_repr ?z_sorted ?z_abs
    (case a0 => k_is)
    (case l0 => k_is)
    (case c0 => k_is)
    (case k0 => k_is)
    (case a1 => k_is)
    (case l1 => k_is)
    (case c1 => k_is)
    (case k1 => k_is)
    (case a2 => k_is)
    (case l2 => k_is)
    (case c2 => k_is)
    (case k2 => k_is)
    (case a3 => k_is)
    (case l3 => k_is)
    (case c3 => k_is)
    (case k3 => k_is)
    (case a4 => k_is)
    (case l4 => k_is)
    (case c4 => k_is)
    (case k4 => k_is)
    (case a5 => k_is)
    (case l5 => k_is)
    (case c5 => k_is)
    (case k5 => k_is)
    (case a6 => k_is)
    (case l6 => k_is)
    (case c6 => k_is)
    (case k6 => k_is)
    (case a7 => k_is)
    (case l7 => k_is)
    (case c7 => k_is)
    (case k7 => k_is)
    (case a8 => k_is)
    (case l8 => k_is)
    (case c8 => k_is)
    (case k8 => k_is)
    (case a9 => k_is)
    (case l9 => k_is)
    (case c9 => k_is)
    (case k9 => k_is)
    (case a10 => k_is)
    (case l10 => k_is)
    (case c10 => k_is)
    (case k10 => k_is)
    (case a11 => k_is)
    (case l11 => k_is)
    (case c11 => k_is)
    (case k11 => k_is)
    (case a12 => k_is)
    (case l12 => k_is)
    (case c12 => k_is)
    (case k12 => k_is)
    (case a13 => k_is)
    (case l13 => k_is)
    (case c13 => k_is)
    (case k13 => k_is)
    (case a14 => k_is)
    (case l14 => k_is)
    (case c14 => k_is)
    (case k14 => k_is)
    (case a15 => k_is)
    (case l15 => k_is)
    (case c15 => k_is)
    (case k15 => k_is)
    (case a16 => k_is)
    (case l16 => k_is)
    (case c16 => k_is)
    (case k16 => k_is)
    (case a17 => k_is)
    (case l17 => k_is)
    (case c17 => k_is)
    (case k17 => k_is)
    (case a18 => k_is)
    (case l18 => k_is)
    (case c18 => k_is)
    (case k18 => k_is)
    (case a19 => k_is)
    (case l19 => k_is)
    (case c19 => k_is)
    (case k19 => k_is)
    (case a20 => k_is)
    (case l20 => k_is)
    (case c20 => k_is)
    (case k20 => k_is)
    (case a21 => k_is)
    (case l21 => k_is)
    (case c21 => k_is)
    (case k21 => k_is)
    (case a22 => k_is)
    (case l22 => k_is)
    (case c22 => k_is)
    (case k22 => k_is)
    (case a23 => k_is)
    (case l23 => k_is)
    (case c23 => k_is)
    (case k23 => k_is)
    (case a24 => k_is)
    (case l24 => k_is)
    (case c24 => k_is)
    (case k24 => k_is)
    (case a25 => k_is)
    (case l25 => k_is)
    (case c25 => k_is)
    (case k25 => k_is)
    (case a26 => k_is)
    (case l26 => k_is)
    (case c26 => k_is)
    (case k26 => k_is)
    (case a27 => k_is)
    (case l27 => k_is)
    (case c27 => k_is)
    (case k27 => k_is)
    (case a28 => k_is)
    (case l28 => k_is)
    (case c28 => k_is)
    (case k28 => k_is)
    (case a29 => k_is)
    (case l29 => k_is)
    (case c29 => k_is)
    (case k29 => k_is)
    (case dA_Grid => first | k_is | rfl | decide +kernel)
    (case dG_Grid => first | k_is | rfl | decide +kernel)
    (case dH_Grid => first | k_is | rfl | decide +kernel)
    (case dO_Grid => first | k_is | rfl | decide +kernel)
    (case dS_Grid => first | k_is | rfl | decide +kernel)
    (case dM_Grid => first | k_is | rfl | decide +kernel)
    (case dP_Grid => first | k_is | rfl | decide +kernel)
    (case dN_Grid_goods => first | k_is | rfl | decide +kernel)
    (case dN_Grid_tops => first | k_is | rfl | decide +kernel)
    (case dN_Grid_lows => first | k_is | rfl | decide +kernel)
    (case mA_Grid___init__ => first | k_is | rfl | decide +kernel)
    (case mJ_Grid___init__ => first | k_is | rfl | decide +kernel)
    (case mL_Grid___init__ => first | k_is | rfl | decide +kernel)
    (case mC_Grid___init__ => first | k_is | rfl | decide +kernel)
    (case mK_Grid___init__ => first | k_is | rfl | decide +kernel)
    (case mA_Grid_least_place => first | k_is | rfl | decide +kernel)
    (case mJ_Grid_least_place => first | k_is | rfl | decide +kernel)
    (case mL_Grid_least_place => first | k_is | rfl | decide +kernel)
    (case mC_Grid_least_place => first | k_is | rfl | decide +kernel)
    (case mK_Grid_least_place => first | k_is | rfl | decide +kernel)
    (case mA_Grid_bring => first | k_is | rfl | decide +kernel)
    (case mJ_Grid_bring => first | k_is | rfl | decide +kernel)
    (case mL_Grid_bring => first | k_is | rfl | decide +kernel)
    (case mC_Grid_bring => first | k_is | rfl | decide +kernel)
    (case mK_Grid_bring => first | k_is | rfl | decide +kernel)
    (case mA_Grid_reduce_rows => first | k_is | rfl | decide +kernel)
    (case mJ_Grid_reduce_rows => first | k_is | rfl | decide +kernel)
    (case mL_Grid_reduce_rows => first | k_is | rfl | decide +kernel)
    (case mC_Grid_reduce_rows => first | k_is | rfl | decide +kernel)
    (case mK_Grid_reduce_rows => first | k_is | rfl | decide +kernel)
    (case mA_Grid_reduce_columns => first | k_is | rfl | decide +kernel)
    (case mJ_Grid_reduce_columns => first | k_is | rfl | decide +kernel)
    (case mL_Grid_reduce_columns => first | k_is | rfl | decide +kernel)
    (case mC_Grid_reduce_columns => first | k_is | rfl | decide +kernel)
    (case mK_Grid_reduce_columns => first | k_is | rfl | decide +kernel)
    (case mA_Grid_is_clear => first | k_is | rfl | decide +kernel)
    (case mJ_Grid_is_clear => first | k_is | rfl | decide +kernel)
    (case mL_Grid_is_clear => first | k_is | rfl | decide +kernel)
    (case mC_Grid_is_clear => first | k_is | rfl | decide +kernel)
    (case mK_Grid_is_clear => first | k_is | rfl | decide +kernel)
    (case mA_Grid_finish => first | k_is | rfl | decide +kernel)
    (case mJ_Grid_finish => first | k_is | rfl | decide +kernel)
    (case mL_Grid_finish => first | k_is | rfl | decide +kernel)
    (case mC_Grid_finish => first | k_is | rfl | decide +kernel)
    (case mK_Grid_finish => first | k_is | rfl | decide +kernel)
    (case mA_Grid_modulus => first | k_is | rfl | decide +kernel)
    (case mJ_Grid_modulus => first | k_is | rfl | decide +kernel)
    (case mL_Grid_modulus => first | k_is | rfl | decide +kernel)
    (case mC_Grid_modulus => first | k_is | rfl | decide +kernel)
    (case mK_Grid_modulus => first | k_is | rfl | decide +kernel)
    (case mA_Grid_weights => first | k_is | rfl | decide +kernel)
    (case mJ_Grid_weights => first | k_is | rfl | decide +kernel)
    (case mL_Grid_weights => first | k_is | rfl | decide +kernel)
    (case mC_Grid_weights => first | k_is | rfl | decide +kernel)
    (case mK_Grid_weights => first | k_is | rfl | decide +kernel)
    (case mA_Grid_trades_for => first | k_is | rfl | decide +kernel)
    (case mJ_Grid_trades_for => first | k_is | rfl | decide +kernel)
    (case mL_Grid_trades_for => first | k_is | rfl | decide +kernel)
    (case mC_Grid_trades_for => first | k_is | rfl | decide +kernel)
    (case mK_Grid_trades_for => first | k_is | rfl | decide +kernel)
    (case z_len => k_is)
    (case z_range => k_is)
    (case z_int => k_is)
    (case z_bool => k_is)
    (case z_tuple => k_is)
    (case z_list => k_is)
    (case z_str => k_is)
    (case z_dict => k_is)
    (case z_all => k_is)
    (case z_any => k_is)
    (case z_max => k_is)
    (case z_min => k_is)
    (case z_sum => k_is)
    (case z_zip => k_is)
    (case z_enumerate => k_is)
    (case z_isinstance => k_is)
    (case z_repr => k_is)
    (case z_sorted => k_is)
    (case z_abs => k_is)
