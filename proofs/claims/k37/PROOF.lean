import PyProof.Rows.All
import Wide.All
import OpenK.AllK
import Wide.FinOn
import HandS.Base
import HandS.Call
import HandS.List
import HandS.Comp
import HandS.Ends
import HandS.Dict
import HandS.Iter
import HandS.Text
import HandS.Words
import HandS.WordsList
import KE.GoesEnum
import KE.KTupSum
import KE.DataMinMax
import HandS.TupMul
import HandS.TupAny
import HandS.IsInst
import HandS.Zip
import HandS.Style
import PyProof.ReprRoads
import PyProof.CallFns
import HandS.TryOnly
import KE.GoesMore
import HandS.ExcInit
import HandS.ExcField
import HandS.ExcOwn
import HandS.Lambda
import HandS.WordsExc
import HandS.EndOwn
import KE.LtData
import PyProof.SumAnyB
import KE.LcSums
import KE.GoesEnumKw
import KE.KUnpackStar
import HandS.FStr
import HandS.SortKw
import KE.SortCalls
import HandS.Sort
import KE.GoesZip
import HandS.Star
import HandS.Property
import HandS.ClsMeth
import HandS.SlotsOwn
import HandS.Small
import OpenK.KMeth
import OpenK.KOps
import KE.KOpsOwn
import KE.KCallOwn
import KE.KDictZip
import HandS.Wide
import PyProof.CallStr
import HandS.OwnIter
import HandS.IterVal
import PyProof.InstNe
import HandS.Defaults
import KE.KFmtOwn
import KE.KExcInit
import PyProof.ExcBaseAll.LookupError
import HandS.Conv
import KE.KSuper
import HandS.Nested
import KE.KNestM
import HandS.Head0
import HandS.Head1
import HandS.Head2
import PySem.Challenge.RW_lentbeside_k37_bags_that_no_desk_takes
set_option Elab.async false
set_option linter.all false
set_option maxRecDepth 100000
set_option maxHeartbeats 2000000
/-! Rules that the hand layer lacks: sums and greatest items of tuples, enumerate of a tuple, zip of three, t[::-1], t * 0, t * 1. -/
namespace Lb
open PySem PySem.Spec PyProof.Rows L2
section
variable {X : Cx}
/-! ### sum(t), max(t) -/
def rSumT (K : PySem.W.Frag) : List V → Hp → VK → Prop := fun vs H Q => ∃ (a : Addr) (ns : List Int), vs = [V.ref a] ∧ SqT K H a (ns.map V.int) ∧ Q (.int ns.sum) H
theorem cr_sumT (hc : X.calm = true) : CallR X (.builtin "sum") (rSumT X.K) := by
  intro pins s σ H vs us Q I r h
  obtain ⟨a, ns, rfl, hs, q⟩ := h
  obtain ⟨its, rv, ht, _⟩ := I.tuple hs
  rw [Vals.ref1 r]
  obtain ⟨xs, e⟩ := rv.ints.allInts.items
  have hn : numsOf (intItems xs).toList = ns := by
    rw [← e]
    exact rv.ints.numsOf
  rw [nums_intItems] at hn
  have ht' : s.heap.IsTuple a (intItems xs) := by
    rw [← e]
    exact ht
  refine PySem.W.ktm_sumG (I.ok.hd hc) ht' fun h' tk t' hk => ?_
  have et : preSum (numAt xs) xs.size = ns.sum := by
    rw [preSum_eq, List.take_of_length_le (by simp), hn]
  rw [et]
  exact ⟨.int _, H, I.kept hk, ⟨_, rfl⟩, q⟩
theorem reads_ints {h : Heap} : ∀ {its : List Value} {ns : List Int}, Vals (ns.map V.int) its → ReadsAll h its (ns.map PyData.int) []
  | [], [], _ => .nil
  | u :: us, n :: ns, r => by
    cases r with
    | cons r1 r2 =>
      obtain ⟨t, rfl⟩ := r1
      exact .cons (as := []) (.int n t) (reads_ints r2)
  | [], _ :: _, r => nomatch r
  | _ :: _, [], r => nomatch r
theorem maxD_ints : ∀ (ns : List Int) (n : Int), ∃ m, PySem.W.maxD (.int n) (ns.map PyData.int) = .int m ∧ m ∈ n :: ns ∧ ∀ y ∈ n :: ns, y ≤ m
  | [], n => ⟨n, rfl, List.mem_cons_self, fun y hy => by
      rw [List.mem_singleton.mp hy]
      exact Int.le_refl _⟩
  | k :: ns, n => by
    unfold PySem.W.maxD
    rw [List.map_cons, List.foldl_cons]
    by_cases h : n < k
    · have e : (if PySem.W.dataLt (.int n) (.int k) = true then PyData.int k else .int n) = .int k := by
        rw [if_pos]
        rw [PySem.W.dataLt_int]
        exact decide_eq_true h
      rw [e]
      obtain ⟨m, e2, h1, h2⟩ := maxD_ints ns k
      refine ⟨m, e2, List.mem_cons_of_mem _ h1, fun y hy => ?_⟩
      rcases List.mem_cons.mp hy with rfl | hy
      · have := h2 k List.mem_cons_self
        omega
      · exact h2 y hy
    · have e : (if PySem.W.dataLt (.int n) (.int k) = true then PyData.int k else .int n) = .int n := by
        rw [if_neg]
        intro z
        rw [PySem.W.dataLt_int] at z
        exact h (of_decide_eq_true z)
      rw [e]
      obtain ⟨m, e2, h1, h2⟩ := maxD_ints ns n
      refine ⟨m, e2, ?_, fun y hy => ?_⟩
      · rcases List.mem_cons.mp h1 with rfl | h1
        · exact List.mem_cons_self
        · exact List.mem_cons_of_mem _ (List.mem_cons_of_mem _ h1)
      · rcases List.mem_cons.mp hy with rfl | hy
        · exact h2 y List.mem_cons_self
        · rcases List.mem_cons.mp hy with rfl | hy
          · have := h2 n List.mem_cons_self
            omega
          · exact h2 y (List.mem_cons_of_mem _ hy)
def rMaxT (K : PySem.W.Frag) : List V → Hp → VK → Prop := fun vs H Q => ∃ (a : Addr) (ns : List Int), vs = [V.ref a] ∧ SqT K H a (ns.map V.int) ∧ 0 < ns.length ∧ ∀ m, m ∈ ns → (∀ y, y ∈ ns → y ≤ m) → Q (.int m) H
theorem depth_ints : ∀ ns : List Int, PyData.depthAll (ns.map PyData.int) = 0
  | [] => rfl
  | n :: ns => by
    rw [List.map_cons]
    simp [PyData.depthAll, PyData.depth, depth_ints ns]
theorem cr_maxT (hc : X.calm = true) (hu : X.A.units + 1 < cLine) : CallR X (.builtin "max") (rMaxT X.K) := by
  intro pins s σ H vs us Q I r h
  obtain ⟨a, ns, rfl, hs, hne, q⟩ := h
  obtain ⟨its, rv, ht, _⟩ := I.tuple hs
  rw [Vals.ref1 r]
  cases ns with
  | nil => exact absurd hne (Nat.lt_irrefl 0)
  | cons n ns =>
    have hr : ReadsAll s.heap its.toArray.toList (.int n :: ns.map PyData.int) [] := reads_ints (ns := n :: ns) rv
    refine PySem.W.max_tuple_data (I.ok.hd hc) ht hr ⟨fun x hx y hy => ?_, fun x hx => ?_⟩ ?_ fun i v h' tk bs hi rd hk => ?_
    · have e : ∀ z ∈ (PyData.int n :: ns.map PyData.int), ∃ k, z = PyData.int k := fun z hz => by
        rcases List.mem_cons.mp hz with rfl | hz
        · exact ⟨n, rfl⟩
        · obtain ⟨k, _, rfl⟩ := List.mem_map.mp hz
          exact ⟨k, rfl⟩
      obtain ⟨k1, rfl⟩ := e x hx
      obtain ⟨k2, rfl⟩ := e y hy
      rfl
    · rcases List.mem_cons.mp hx with rfl | hx
      · exact fun z => nomatch z
      · obtain ⟨k, _, rfl⟩ := List.mem_map.mp hx
        exact fun z => nomatch z
    · have := depth_ints (n :: ns)
      rw [List.map_cons] at this
      rw [this]
      exact hu
    · obtain ⟨m, e, h1, h2⟩ := maxD_ints ns n
      rw [e] at rd
      cases rd with
      | int _ t => exact ⟨.int m, H, I.kept hk, ⟨_, rfl⟩, q m h1 h2⟩
end
end Lb
set_option Elab.async false
set_option linter.all false
set_option maxRecDepth 100000
set_option maxHeartbeats 2000000
namespace Lb
open PySem PySem.Spec PyProof.Rows L2
/-! ### enumerate(t), t a tuple -/
set_option maxHeartbeats 4000000 in
theorem meets_enum1 {v : Value} {o : Obj} {G : Heap → Prop} (B : Begins v o G) :
    Meets (Builtin.«enumerate.__new__» ⟨[.type "enumerate", v], []⟩) (fun _ R s => G s.heap ∧
      R (.ok (.ret (.ref (s.heap.push o).objs.size))) { s with heap := (s.heap.push o).push { cls := .type "enumerate", data := .fields #[.none, .bool false, .ref s.heap.objs.size, rawInt 0, .none, .none] } }) :=
  .of_wp fun prog w A R s h => by
    obtain ⟨hp, g, d, tk, os⟩ := s
    obtain ⟨g1, h⟩ := h
    have hsub := sub_enumerate
    have qi : ∀ {A' : Around} {E : Value → Shared → Prop} {Q : Value → Shared → Prop}, Q (.ref hp.objs.size) ⟨hp.push o, g, d, tk, os⟩ → wpAny (model prog w) A' (pyIter v) Q E ⟨hp, g, d, tk, os⟩ :=
      fun q => B.iter prog w _ _ ⟨hp, g, d, tk, os⟩ _ g1 q
    wp_walk using qi
    refine wpAny_stack_any fun st => wpAny_pure ?_
    split
    · rename_i c _ _ _ _ _
      cases (c == Value.type "enumerate")
      · wp_walk using qi
        exact ⟨_, rfl, h⟩
      · wp_walk using qi
        exact ⟨_, rfl, h⟩
    · wp_walk using qi
      exact ⟨_, rfl, h⟩
theorem enum1 {prog : Program} {w : World} {A : Around} {E : Value → Shared → Prop} {s : Shared} {v : Value} {o : Obj} {G : Heap → Prop} {Q : Value → Shared → Prop} (B : Begins v o G) (g : G s.heap)
    (h : ∀ h', IsEnum h' (s.heap.objs.size + 1) s.heap.objs.size 0 .none → h'.get? s.heap.objs.size = some o → (∀ b o, s.heap.get? b = some o → h'.get? b = some o) → Q (.ref (s.heap.objs.size + 1)) { s with heap := h' }) :
    wpAny (model prog w) A (call (.type "enumerate") [v]) Q E s := by
  refine callType_new F.called_enumerate (by decide) (F.typeCall_enumerate_1 _) (F.newCall_enumerate_1 _) (fun obj => F.args_object_init_2 obj _) F.entry_enumerate_new (meets_enum1 B) ⟨g, ?_⟩
  have z1 : (s.heap.push o).objs.size = s.heap.objs.size + 1 := Heap.size_push ..
  show _ ∧ _
  rw [z1]
  have he : IsEnum ((s.heap.push o).push { cls := .type "enumerate", data := .fields #[.none, .bool false, .ref s.heap.objs.size, rawInt 0, .none, .none] }) (s.heap.objs.size + 1) s.heap.objs.size 0 .none := by
    have := Heap.get?_push_size (s.heap.push o) (o := { cls := .type "enumerate", data := .fields #[.none, .bool false, .ref s.heap.objs.size, rawInt 0, .none, .none] }) rfl
    rw [z1] at this
    exact this
  exact ⟨⟨_, he, rfl⟩, h _ he (Heap.get?_push_of_some _ (Heap.get?_push_size _ B.free)) fun b ob q => Heap.get?_push_of_some _ (Heap.get?_push_of_some _ q)⟩
/-- the tuple at a, each item in a new pair with its index -/
def IteT (K : PySem.W.Frag) (a : Addr) : It :=
  ⟨fun i H => ∃ (xs : List V) (x : V), SqT K H a xs ∧ xs[i]? = some x, fun i H v H' => ∃ T x, v = .ref T ∧ H T = none ∧ H' = upd H T (.tup [.int (i : Nat), x]) ∧ ∀ xs, SqT K H a xs → xs[i]? = some x,
    fun i H => ∃ xs : List V, SqT K H a xs ∧ xs.length ≤ i⟩
theorem tupIter_at {h h' : Heap} {it a : Addr} {i : Nat} (t : h.IsTupleIter it a i) (k : ∀ o, h.get? it = some o → h'.get? it = some o) : h'.IsTupleIter it a i :=
  let ⟨o, e, r⟩ := t
  ⟨o, k o e, r⟩
theorem turn_enumT {P : Program} {w : World} {K : PySem.W.Frag} {elts : List Expr} {kk : Nat} {tpos : Pos} (a e it : Addr) :
    Turn P w K (.Tuple elts kk tpos) (IteT K a) [e, it] e (fun i h => (∃ old, IsEnum h e it ((i : Nat) : Int) old) ∧ h.IsTupleIter it a i ∧ e ≠ it) where
  mem := by simp
  obj := fun i h st b hb => by
    obtain ⟨⟨old, he⟩, ⟨o, ho, hc, hd⟩, _⟩ := st
    have e' : b = e ∨ b = it := by simpa using hb
    rcases e' with z | z
    · rw [z]
      exact ⟨_, he, fun v q => nomatch q⟩
    · rw [z]
      exact ⟨o, ho, fun v q => by rw [hd] at q; cases q⟩
  keep := fun i h h' st k => let ⟨⟨old, he⟩, hi, hne⟩ := st; ⟨⟨old, k e (by simp) _ he⟩, tupIter_at hi fun o q => k it (by simp) o q, hne⟩
  item := by
    intro X hP hw hK hc i pins s σ H E I hf st hg
    subst hP hw hK
    obtain ⟨⟨old, he⟩, hit, hne⟩ := st
    obtain ⟨xs, x, hq, hx⟩ := hg
    obtain ⟨its, rv, p, hz⟩ := I.tuple hq
    obtain ⟨u, hu, ru⟩ := rv.get hx
    have hel : e < s.heap.objs.size := Heap.lt_size he
    have hil : it < s.heap.objs.size := by
      obtain ⟨_, q, _⟩ := hit
      exact Heap.lt_size q
    have hat : H a ≠ none ∨ ∃ o, X.K.lookup a = some o := by
      rcases hq with (q | ⟨_, q⟩) | ⟨o, _, _, q, _⟩
      · exact .inl (by rw [q]; exact fun z => nomatch z)
      · exact .inl (by rw [q]; exact fun z => nomatch z)
      · exact .inr ⟨o, q⟩
    have hai : ∀ c, c ∈ [e, it] → a ≠ c := fun c hc q => by
      obtain ⟨o, ho, ho2, n, ho3⟩ := p
      have f0 := (hf c hc).1
      have cls : ∀ o', s.heap.get? a = some o' → o' = o := fun o' q' => by rw [ho] at q'; exact (Option.some.inj q').symm
      have e' : c = e ∨ c = it := by simpa using hc
      rcases e' with z | z
      · rw [q, z] at cls
        have := cls _ he
        rw [← this] at ho2
        injection ho2 with z2
        exact absurd z2 (by decide)
      · obtain ⟨oi, hoi, hci, _⟩ := hit
        rw [q, z] at cls
        have := cls _ hoi
        rw [← this, hci] at ho2
        injection ho2 with z2
        exact absurd z2 (by decide)
    have D := Draws.tuple (prog := X.prog) (w := X.w) (A := X.A.in1) (I.ok.hd hc) it a (hai it (by simp)) its.toArray
    have hlt : i < its.toArray.size := by
      rw [List.size_toArray]
      exact (List.getElem?_eq_some_iff.mp hu).1
    refine wpAny_pyNext_enum_itemC (c := ((i : Nat) : Int)) D he ⟨hit, p⟩ hlt hne (fun z => ?_) fun y h' tk hy ho st' hT hsz hk => ?_
    · have z' : e = it ∨ e = a := by simpa using z
      rcases z' with z | z
      · exact hne z
      · exact hai e (by simp) z.symm
    have ey : y = u := by
      have : its.toArray[i]? = some u := by simpa using hu
      rw [this] at hy
      exact (Option.some.inj hy).symm
    subst ey
    refine ⟨_, rfl, wpAny_letOwnedTupleGo_enum (s := { s with heap := h', toks := tk + 1 }) ho fun h'' he' sb => ?_⟩
    have hT2 : h''.get? s.heap.objs.size = some { cls := .type "tuple", data := .seq #[.int i tk, y] } := (sb.2 _ (Nat.ne_of_gt hel)).trans hT
    have new : ObjOk X.prog X.w (upd H s.heap.objs.size (.tup [.int (i : Nat), x])) h'' s.heap.objs.size (.tup [.int (i : Nat), x]) :=
      ⟨by show 2 ≤ sizeLine; decide, [.int i tk, y], .cons ⟨_, rfl⟩ (.cons ru .nil), ⟨_, hT2, rfl, _, rfl⟩⟩
    have I1 : Inv X pins σ (upd H s.heap.objs.size (.tup [.int (i : Nat), x])) { s with heap := h'', toks := tk + 1 } :=
      I.turnedNew (ch := [e, it]) (fun b ob hb q => (sb.2 b (fun z => hb (by simp [z]))).trans (hk b ob (fun z => hb (by simp [z])) (fun z => hb (by simp [z])) q)) hf (Nat.le_refl _) new
    refine ⟨.ref s.heap.objs.size, _, I1, rfl, ⟨_, x, rfl, I.hok.fresh (Nat.le_refl _), rfl, fun ys hy => by rw [I.tuple_inj hy hq]; exact hx⟩, ⟨⟨y, ?_⟩, tupIter_at st'.1 fun o q => (sb.2 it (Ne.symm hne)).trans q, hne⟩, fun b hb => ?_⟩
    · have e1 : ((i + 1 : Nat) : Int) = (i : Int) + 1 := by omega
      rw [e1]
      exact he'
    · have hb' : b < s.heap.objs.size := by
        have e' : b = e ∨ b = it := by simpa using hb
        rcases e' with z | z
        · rw [z]
          exact hel
        · rw [z]
          exact hil
      rw [upd_ne (Nat.ne_of_lt hb')]
      exact (hf b hb).1
  done := by
    intro X hP hw hK hc i pins s σ H E I hf st hg
    subst hP hw hK
    obtain ⟨⟨old, he⟩, hit, hne⟩ := st
    obtain ⟨xs, hq, hx⟩ := hg
    obtain ⟨its, rv, p, hz⟩ := I.tuple hq
    obtain ⟨f0, f1, f2, f3, f4, f5⟩ := hf it (by simp)
    have hl := rv.length
    have D : Draws X.prog X.w X.A.in1 it [it, a] i (fun _ _ => False) (fun j h => j = i ∧ h.IsTupleIter it a i ∧ h.IsTuple a its.toArray) :=
      { live := fun _ _ st => let ⟨_, ⟨o, ho, _⟩, _⟩ := st; ⟨o, ho⟩
        frame := fun _ _ _ st hk => ⟨st.1, tupIter_at st.2.1 fun o q => hk it (by simp) o q, st.2.2.at fun o q => hk a (by simp) o q⟩
        item := fun j s Q E hj st _ => absurd st.1 (Nat.ne_of_lt hj)
        done := fun s Q E st hE => wpAny_nextOf_tuple_end (I.ok.hd hc) st.2.1 st.2.2 (by simp; omega) hE }
    exact wpAny_pyNext_enum_endD D he ⟨rfl, hit, p⟩ fun h' eb => ⟨rfl, I.turned (t' := s.toks) (fun b o hb q => eb b o hb q) f0 f1 f3 f4 f5⟩
  self := fun A i s Q E st h => let ⟨⟨_, he⟩, _⟩ := st; wpAny_pyIter_enum he h
def iEnumT (K : PySem.W.Frag) (ta : TA) : TI := fun σ H R => ta σ H fun vs H1 => ∃ a xs, vs = [.ref a] ∧ SqT K H1 a xs ∧ R (IteT K a) H1
theorem pi_enumT {X : Cx} {e : Expr} {ta : TA} {p pos tpos : Pos} {elts : List Expr} {kk : Nat} (hg : Gl X "enumerate") (hm : X.mg "enumerate" = none) (ha : PA X [e] ta) (hs : starEach [e] X.env = [(false, eval e X.env)] := by rfl) :
    PI X (.Tuple elts kk tpos) (.Call (.Name "enumerate" p) [e] [] pos) (iEnumT X.K ta) := by
  refine ⟨fun pins s σ H R I h => ?_⟩
  refine Call_ (ld_blt I hg hm boot_enumerate (PyProof.Rows.callWith_type1 (thn (ha.run pos pins s σ H _ I h) fun us s1 ⟨vs, H1, I1, r1, q1⟩ => ?_) hs rfl))
  obtain ⟨a, xs, ex, hq, q⟩ := q1
  subst ex
  rw [Vals.ref1 r1]
  obtain ⟨its, rv, p', hz⟩ := I1.tuple hq
  refine enum1 (begins_tuple a its.toArray) p' fun h' he ho hk => wpAny_pyIter_enum he ?_
  refine ⟨s1.heap.objs.size + 1, [s1.heap.objs.size + 1, s1.heap.objs.size], _, _, H1, rfl, I1.kept (t' := s1.toks) hk, turn_enumT a (s1.heap.objs.size + 1) s1.heap.objs.size, ⟨⟨.none, he⟩, ⟨_, ho, rfl, rfl⟩, Nat.succ_ne_self _⟩, fun b hb => ?_, q⟩
  have hle : s1.heap.objs.size ≤ b := by
    have e' : b = s1.heap.objs.size + 1 ∨ b = s1.heap.objs.size := by simpa using hb
    rcases e' with z | z
    · rw [z]
      exact Nat.le_add_right _ _
    · rw [z]
      exact Nat.le_refl _
  exact I1.fpOk hle (I1.hok.fresh hle)
end Lb
set_option Elab.async false
set_option linter.all false
set_option maxRecDepth 100000
set_option maxHeartbeats 2000000
namespace Lb
open PySem PySem.Spec PyProof.Rows L2
/-! ### values as data: None, bools, ints, texts, tuples, lists, {}; every address lies in the region R -/
abbrev Rgn := Addr → Prop
mutual
inductive Dat (R : Rgn) (H : Hp) : V → PyData → Prop
  | non : Dat R H .non .none
  | bl (b : Bool) : Dat R H (.bl b) (.bool b)
  | int (i : Int) : Dat R H (.int i) (.int i)
  | str (x : Str) : Dat R H (.str x) (.str x)
  | tup {a : Addr} {xs : List V} {ds : List PyData} (ra : R a) (e : H a = some (.tup xs)) (h : Dats R H xs ds) : Dat R H (.ref a) (.tuple ds)
  | lst {a : Addr} {xs : List V} {ds : List PyData} (ra : R a) (e : H a = some (.lst xs)) (h : Dats R H xs ds) : Dat R H (.ref a) (.list ds)
  | emp {a : Addr} (ra : R a) (e : H a = some (.dK [])) : Dat R H (.ref a) (.dict [])
inductive Dats (R : Rgn) (H : Hp) : List V → List PyData → Prop
  | nil : Dats R H [] []
  | cons {v : V} {vs : List V} {d : PyData} {ds : List PyData} (h : Dat R H v d) (t : Dats R H vs ds) : Dats R H (v :: vs) (d :: ds)
end
/-- what lies in the region is kept -/
def On (R : Rgn) (H H' : Hp) : Prop := ∀ b o, R b → H b = some o → H' b = some o
theorem On.of {R : Rgn} {H H' : Hp} (s : Same H H') : On R H H' := fun b o _ e => s b o e
theorem On.trans {R : Rgn} {H H1 H2 : Hp} (a : On R H H1) (b : On R H1 H2) : On R H H2 := fun c o r e => b c o r (a c o r e)
mutual
theorem Dat.on {R : Rgn} {H H' : Hp} (k : On R H H') : ∀ {v : V} {d : PyData}, Dat R H v d → Dat R H' v d
  | _, _, .non => .non
  | _, _, .bl b => .bl b
  | _, _, .int i => .int i
  | _, _, .str x => .str x
  | _, _, .tup ra e h => .tup ra (k _ _ ra e) (Dats.on k h)
  | _, _, .lst ra e h => .lst ra (k _ _ ra e) (Dats.on k h)
  | _, _, .emp ra e => .emp ra (k _ _ ra e)
theorem Dats.on {R : Rgn} {H H' : Hp} (k : On R H H') : ∀ {v : List V} {d : List PyData}, Dats R H v d → Dats R H' v d
  | _, _, .nil => .nil
  | _, _, .cons h t => .cons (Dat.on k h) (Dats.on k t)
end
theorem Dat.same {R : Rgn} {H H' : Hp} {v : V} {d : PyData} (h : Dat R H v d) (s : Same H H') : Dat R H' v d := h.on (On.of s)
theorem Dats.same {R : Rgn} {H H' : Hp} {v : List V} {d : List PyData} (h : Dats R H v d) (s : Same H H') : Dats R H' v d := h.on (On.of s)
mutual
/-- a region may be made smaller by what is not there -/
theorem Dat.sub {R R' : Rgn} {H : Hp} (k : ∀ b o, R b → H b = some o → R' b) : ∀ {v : V} {d : PyData}, Dat R H v d → Dat R' H v d
  | _, _, .non => .non
  | _, _, .bl b => .bl b
  | _, _, .int i => .int i
  | _, _, .str x => .str x
  | _, _, .tup ra e h => .tup (k _ _ ra e) e (Dats.sub k h)
  | _, _, .lst ra e h => .lst (k _ _ ra e) e (Dats.sub k h)
  | _, _, .emp ra e => .emp (k _ _ ra e) e
theorem Dats.sub {R R' : Rgn} {H : Hp} (k : ∀ b o, R b → H b = some o → R' b) : ∀ {v : List V} {d : List PyData}, Dats R H v d → Dats R' H v d
  | _, _, .nil => .nil
  | _, _, .cons h t => .cons (Dat.sub k h) (Dats.sub k t)
end
theorem Dats.length {R : Rgn} {H : Hp} : ∀ {v : List V} {d : List PyData}, Dats R H v d → v.length = d.length
  | _, _, .nil => rfl
  | _, _, .cons _ t => by rw [List.length_cons, List.length_cons, Dats.length t]
theorem Dats.get {R : Rgn} {H : Hp} : ∀ {vs : List V} {ds : List PyData} {i : Nat} {d : PyData}, Dats R H vs ds → ds[i]? = some d → ∃ v, vs[i]? = some v ∧ Dat R H v d
  | _, _, 0, _, .cons h _, e => by
    have e' := Option.some.inj e
    subst e'
    exact ⟨_, rfl, h⟩
  | _, _, i + 1, _, .cons _ t, e => Dats.get (i := i) t e
theorem Dats.get' {R : Rgn} {H : Hp} : ∀ {vs : List V} {ds : List PyData} {i : Nat} {v : V}, Dats R H vs ds → vs[i]? = some v → ∃ d, ds[i]? = some d ∧ Dat R H v d
  | _, _, 0, _, .cons h _, e => by
    have e' := Option.some.inj e
    subst e'
    exact ⟨_, rfl, h⟩
  | _, _, i + 1, _, .cons _ t, e => Dats.get' (i := i) t e
theorem Dats.append {R : Rgn} {H : Hp} : ∀ {vs ws : List V} {ds es : List PyData}, Dats R H vs ds → Dats R H ws es → Dats R H (vs ++ ws) (ds ++ es)
  | _, _, _, _, .nil, k => k
  | _, _, _, _, .cons h t, k => .cons h (Dats.append t k)
theorem Dats.take {R : Rgn} {H : Hp} : ∀ {vs : List V} {ds : List PyData} (n : Nat), Dats R H vs ds → Dats R H (vs.take n) (ds.take n)
  | _, _, 0, _ => .nil
  | _, _, _ + 1, .nil => .nil
  | _, _, n + 1, .cons h t => .cons h (Dats.take n t)
theorem Dats.drop {R : Rgn} {H : Hp} : ∀ {vs : List V} {ds : List PyData} (n : Nat), Dats R H vs ds → Dats R H (vs.drop n) (ds.drop n)
  | _, _, 0, k => k
  | _, _, _ + 1, .nil => .nil
  | _, _, n + 1, .cons _ t => Dats.drop n t
theorem Dats.reverse {R : Rgn} {H : Hp} : ∀ {vs : List V} {ds : List PyData}, Dats R H vs ds → Dats R H vs.reverse ds.reverse
  | _, _, .nil => .nil
  | _, _, .cons h t => by
    rw [List.reverse_cons, List.reverse_cons]
    exact Dats.append (Dats.reverse t) (.cons h .nil)
theorem Dats.rep {R : Rgn} {H : Hp} {vs : List V} {ds : List PyData} (h : Dats R H vs ds) : ∀ n : Nat, Dats R H (List.replicate n vs).flatten (List.replicate n ds).flatten
  | 0 => .nil
  | n + 1 => by
    rw [List.replicate_succ, List.replicate_succ, List.flatten_cons, List.flatten_cons]
    exact h.append (Dats.rep h n)
theorem Dats.ints {R : Rgn} {H : Hp} : ∀ ns : List Int, Dats R H (ns.map V.int) (ns.map PyData.int)
  | [] => .nil
  | n :: ns => .cons (.int n) (Dats.ints ns)
theorem Dats.of_ints {R : Rgn} {H : Hp} : ∀ {vs : List V} {ns : List Int}, Dats R H vs (ns.map PyData.int) → vs = ns.map V.int
  | _, [], .nil => rfl
  | _, n :: ns, .cons h t => by
    cases h
    rw [Dats.of_ints (ns := ns) t]
    rfl
/-- a new tuple, a new list -/
theorem same_upd {H : Hp} {p : Addr} {o : HO} (h : H p = none) : Same H (upd H p o) := fun b x e => by
  rw [upd_ne (ne_of_none e h)]
  exact e
theorem Dat.newT {R : Rgn} {H : Hp} {p : Addr} {xs : List V} {ds : List PyData} (n : H p = none) (r : R p) (h : Dats R H xs ds) : Dat R (upd H p (.tup xs)) (.ref p) (.tuple ds) := .tup r upd_same (h.same (same_upd n))
theorem Dat.newL {R : Rgn} {H : Hp} {p : Addr} {xs : List V} {ds : List PyData} (n : H p = none) (r : R p) (h : Dats R H xs ds) : Dat R (upd H p (.lst xs)) (.ref p) (.list ds) := .lst r upd_same (h.same (same_upd n))

/-! ### repr -/
section
variable {X : Cx} {pins : List (Addr × Obj)} {σ : L2.St} {H : Hp} {s : Shared} {R : Rgn}
mutual
theorem dat_reads (I : Inv X pins σ H s) : ∀ {v : V} {d : PyData} {u : Value}, Dat R H v d → RelV v u → ∃ as, Reads s.heap u d as
  | _, _, u, .non, r => by
    cases (show u = Value.none from r)
    exact ⟨_, .none⟩
  | _, _, u, .bl b, r => by
    cases (show u = Value.bool b from r)
    exact ⟨_, .bool b⟩
  | _, _, u, .int i, r => by
    obtain ⟨t, q⟩ := (show ∃ t, u = Value.int i t from r)
    cases q
    exact ⟨_, .int i t⟩
  | _, _, u, .str x, r => by
    obtain ⟨t, q⟩ := (show ∃ t, u = Value.str x t from r)
    cases q
    exact ⟨_, .str x t⟩
  | _, _, u, .tup (a := a) (xs := xs) _ e h, r => by
    cases (show u = Value.ref a from r)
    obtain ⟨its, rv, ⟨o, ho, hc, n, hd⟩, _⟩ := I.tuple (.inl (.inl e))
    obtain ⟨as, q⟩ := dats_reads I h rv
    exact ⟨_, .tuple ho hc hd q⟩
  | _, _, u, .lst (a := a) (xs := xs) _ e h, r => by
    cases (show u = Value.ref a from r)
    obtain ⟨its, rv, hp, _⟩ := I.list (.inl (.inl e))
    obtain ⟨o, n, ho, hc, _, hd⟩ := hp
    obtain ⟨as, q⟩ := dats_reads I h rv
    exact ⟨_, .list ho hc hd q⟩
  | _, _, u, .emp (a := a) _ e, r => by
    cases (show u = Value.ref a from r)
    obtain ⟨_, _, vs, kv, o, es, ep, ho, hx, hd, hk, hp, _⟩ := (show ObjOk X.prog X.w H s.heap a (.dK []) from I.hok a _ e)
    cases kv
    have e0 : es.toList = [] := by
      generalize es.toList = l at hp
      cases hp
      rfl
    refine ⟨_, .dict (kvs := []) (as := []) (bs := []) ho hx.1 hd ?_ ?_⟩
    · rw [e0]
      exact .nil
    · rw [e0]
      exact .nil
theorem dats_reads (I : Inv X pins σ H s) : ∀ {vs : List V} {ds : List PyData} {us : List Value}, Dats R H vs ds → Vals vs us → ∃ as, ReadsAll s.heap us ds as
  | _, _, _, .nil, .nil => ⟨_, .nil⟩
  | _, _, _, .cons h t, .cons r rr => by
    obtain ⟨as, q⟩ := dat_reads I h r
    obtain ⟨bs, q2⟩ := dats_reads I t rr
    exact ⟨_, .cons q q2⟩
end
theorem emp_at (I : Inv X pins σ H s) {a : Addr} (e : H a = some (.dK [])) : ∃ o n, s.heap.get? a = some o ∧ o.cls = .type "dict" ∧ o.data = .dict #[] n ∧ (a == sysModules) = false := by
  obtain ⟨_, hs, vs, kv, o, es, ep, ho, hx, hd, hk, hp, _⟩ := (show ObjOk X.prog X.w H s.heap a (.dK []) from I.hok a _ e)
  cases kv
  have e0 : es = #[] := by
    have : es.toList = [] := by
      generalize es.toList = l at hp
      cases hp
      rfl
    exact Array.toList_eq_nil_iff.mp this
  subst e0
  exact ⟨o, ep, ho, hx.1, hd, hs⟩
mutual
theorem dat_show (I : Inv X pins σ H s) : ∀ {v : V} {d : PyData} {u : Value}, Dat R H v d → RelV v u → d.showable = true → d.shown.length ≤ sizeLine →
    ∃ bs, ReadAtMost s.heap d.depth bs ∧ ReprK X.prog X.w bs s.heap d.depth u d.shown
  | _, _, u, .non, r, _, _ => by
    cases (show u = Value.none from r)
    refine ⟨[], (fun _ z => nomatch z), ?_⟩
    rw [PyData.shown]
    exact ReprK.of_is ReprIs.none _ _ _
  | _, _, u, .bl b, r, _, _ => by
    cases (show u = Value.bool b from r)
    refine ⟨[], (fun _ z => nomatch z), ?_⟩
    rw [PyData.shown]
    exact ReprK.of_is (ReprIs.bool b) _ _ _
  | _, _, u, .int i, r, hw, _ => by
    obtain ⟨t, q⟩ := (show ∃ t, u = Value.int i t from r)
    cases q
    refine ⟨[], (fun _ z => nomatch z), ?_⟩
    rw [PyData.shown]
    rw [PyData.showable] at hw
    exact ReprK.of_is (ReprIs.int t (of_decide_eq_true hw)) _ _ _
  | _, _, u, .str x, r, _, hz => by
    obtain ⟨t, q⟩ := (show ∃ t, u = Value.str x t from r)
    cases q
    refine ⟨[], (fun _ z => nomatch z), ?_⟩
    rw [PyData.shown] at hz ⊢
    exact ReprK.of_is (ReprIs.str x t hz) _ _ _
  | _, _, u, .tup (a := a) (xs := xs) (ds := ds) ra e h, r, hw, hz => by
    cases (show u = Value.ref a from r)
    obtain ⟨as, rd⟩ := dat_reads I (Dat.tup ra e h) rfl
    obtain ⟨its, rv, ⟨o, ho, hc, n, hd⟩, _⟩ := I.tuple (.inl (.inl e))
    rw [PyData.showable] at hw
    rw [PyData.shown] at hz
    obtain ⟨bs, hb, hk⟩ := dats_show I h rv hw fun t ht => Nat.le_trans (tupleText_mem_le ht) hz
    have na : a ∉ bs := not_mem_of_deeper rd (by rw [PyData.depth]; omega) hb
    refine ⟨a :: bs, ReadAtMost.cons rd (by rw [PyData.depth]; omega) hb, ?_⟩
    rw [PyData.depth, PyData.shown]
    exact ReprK.tuple ho hc hd na hk
  | _, _, u, .lst (a := a) (xs := xs) (ds := ds) ra e h, r, hw, hz => by
    cases (show u = Value.ref a from r)
    obtain ⟨as, rd⟩ := dat_reads I (Dat.lst ra e h) rfl
    obtain ⟨its, rv, hp, _⟩ := I.list (.inl (.inl e))
    obtain ⟨o, n, ho, hc, _, hd⟩ := hp
    rw [PyData.showable] at hw
    rw [PyData.shown] at hz
    obtain ⟨bs, hb, hk⟩ := dats_show I h rv hw fun t ht => Nat.le_trans (listText_mem_le ht) hz
    have na : a ∉ bs := not_mem_of_deeper rd (by rw [PyData.depth]; omega) hb
    refine ⟨a :: bs, ReadAtMost.cons rd (by rw [PyData.depth]; omega) hb, ?_⟩
    rw [PyData.depth, PyData.shown]
    cases its with
    | nil =>
      cases rv
      cases h
      rw [PyData.shownAll, listText_nil]
      exact ReprK.listEmpty ho hc hd
    | cons y ys =>
      refine ReprK.list ho hc hd na ?_ fun i z q => hk.item i z (by simpa using q)
      have := hk.length_eq
      simpa using this
  | _, _, u, .emp (a := a) ra e, r, _, _ => by
    cases (show u = Value.ref a from r)
    obtain ⟨as, rd⟩ := dat_reads I (Dat.emp ra e) rfl
    obtain ⟨o, n, ho, hc, hd, hs⟩ := emp_at I e
    refine ⟨[a], fun b hb => ?_, ?_⟩
    · rw [List.mem_singleton.mp hb]
      exact ⟨_, _, rd, Nat.le_refl _⟩
    · have k := ReprK.dict (prog := X.prog) (w := X.w) (as := []) (d := 0) (ps := []) ho hc hd hs (fun z => nomatch z) .nil
      have e1 : (PyData.dict []).shown = dictText [] := by
        rw [PyData.shown, PyData.shownKv]
      have e2 : (PyData.dict []).depth = 0 + 1 := by
        rw [PyData.depth, PyData.depthKv]
      rw [e1, e2]
      exact k
theorem dats_show (I : Inv X pins σ H s) : ∀ {vs : List V} {ds : List PyData} {us : List Value}, Dats R H vs ds → Vals vs us → PyData.showableAll ds = true → (∀ t ∈ PyData.shownAll ds, t.length ≤ sizeLine) →
    ∃ bs, ReadAtMost s.heap (PyData.depthAll ds) bs ∧ ReprAllK X.prog X.w bs s.heap (PyData.depthAll ds) us (PyData.shownAll ds)
  | _, _, _, .nil, .nil, _, _ => ⟨[], (fun _ z => nomatch z), by rw [PyData.shownAll]; exact .nil⟩
  | _, _, _, .cons (d := d) (ds := ds) h t, .cons r rr, hw, hz => by
    rw [PyData.showableAll, Bool.and_eq_true] at hw
    rw [PyData.shownAll] at hz
    obtain ⟨bs, hb, k⟩ := dat_show I h r hw.1 (hz _ List.mem_cons_self)
    obtain ⟨cs, hc, l⟩ := dats_show I t rr hw.2 fun z q => hz z (List.mem_cons_of_mem _ q)
    have l1 : d.depth ≤ max d.depth (PyData.depthAll ds) := Nat.le_max_left _ _
    have l2 : PyData.depthAll ds ≤ max d.depth (PyData.depthAll ds) := Nat.le_max_right _ _
    refine ⟨bs ++ cs, ?_, ?_⟩
    · rw [PyData.depthAll]
      exact ReadAtMost.append (hb.mono l1) (hc.mono l2)
    · rw [PyData.depthAll, PyData.shownAll]
      exact .cons ((k.more fun b q => List.mem_append_left _ q).level_le l1) (l.more_le (fun b q => List.mem_append_right _ q) l2)
end
end
/-- repr(x), x any data -/
def rRepr : List V → Hp → VK → Prop := fun xs H Q => ∃ (R : Rgn) (v : V) (d : PyData), xs = [v] ∧ Dat R H v d ∧ d.showable = true ∧ d.shown.length ≤ sizeLine ∧ d.depth ≤ 100 ∧ Q (.str d.shown) H
theorem Vals.one {v : V} {us : List Value} (r : Vals [v] us) : ∃ u, us = [u] ∧ RelV v u := by
  cases r with
  | cons a b =>
    cases b
    exact ⟨_, rfl, a⟩
theorem call_reprD {X : Cx} (hg : X.A.guards = some []) (hu : X.A.units + 110 < cLine) : CallR X (.builtin "repr") rRepr := by
  intro pins s σ H xs us Q I r h
  obtain ⟨R, v, d, rfl, hd, hw, hz, hdp, q⟩ := h
  obtain ⟨u, rfl, ru⟩ := Vals.one r
  have fin : ∀ (h' : Heap) (t : Tok) (tk : Nat), (∀ b o, s.heap.get? b = some o → h'.get? b = some o) → EP X pins σ Q (.str d.shown t) { s with heap := h', toks := tk } := fun h' t tk hk =>
    ⟨.str d.shown, H, I.kept hk, ⟨_, rfl⟩, q⟩
  have fin0 : ∀ (t : Tok) (tk : Nat), EP X pins σ Q (.str d.shown t) { s with toks := tk } := fun t tk => fin s.heap t tk fun _ _ e => e
  cases hd with
  | non =>
    cases (show u = Value.none from ru)
    have := fin0 s.toks (s.toks + 1)
    rw [PyData.shown] at this
    exact PySem.P.repr_of_none this
  | bl b =>
    cases (show u = Value.bool b from ru)
    have := fin0 s.toks (s.toks + 1)
    rw [PyData.shown] at this
    exact PySem.P.repr_of_bool this
  | int i =>
    obtain ⟨t, e⟩ := (show ∃ t, u = Value.int i t from ru)
    cases e
    have := fin0 s.toks (s.toks + 1)
    rw [PyData.shown] at this
    rw [PyData.showable] at hw
    exact PySem.P.repr_of_int (of_decide_eq_true hw) this
  | str x =>
    obtain ⟨t, e⟩ := (show ∃ t, u = Value.str x t from ru)
    cases e
    have := fin0 s.toks (s.toks + 1)
    rw [PyData.shown] at this hz
    exact PySem.P.repr_of_str this hz
  | @tup a xs ds ra e h =>
    cases (show u = Value.ref a from ru)
    obtain ⟨as, rd⟩ := dat_reads I (Dat.tup ra e h) rfl
    obtain ⟨its, rv, ⟨o, ho, hc, n, hd⟩, _⟩ := I.tuple (.inl (.inl e))
    rw [PyData.showable] at hw
    rw [PyData.shown] at hz
    rw [PyData.depth] at hdp
    obtain ⟨bs, hb, hk⟩ := dats_show I h rv hw fun t ht => Nat.le_trans (tupleText_mem_le ht) hz
    have na : a ∉ bs := not_mem_of_deeper rd (by rw [PyData.depth]; omega) hb
    refine call_repr_slot (by omega) ⟨o, ho, hc⟩ F.slot_tuple_repr (call_tuple_reprK ho hc hd na hk (A := X.A.in1) hg (fun b _ => Clear.nil b) (by show X.A.units + 1 + _ < _; omega) (fun _ _ e => e) (fun h' t tk hk' => ⟨_, _, rfl, ?_⟩) hz)
    have := fin h' t tk hk'
    rw [PyData.shown] at this
    exact this
  | @lst a xs ds ra e h =>
    cases (show u = Value.ref a from ru)
    obtain ⟨as, rd⟩ := dat_reads I (Dat.lst ra e h) rfl
    obtain ⟨its, rv, hp, _⟩ := I.list (.inl (.inl e))
    obtain ⟨o, n, ho, hc, _, hd⟩ := hp
    rw [PyData.showable] at hw
    rw [PyData.shown] at hz
    rw [PyData.depth] at hdp
    obtain ⟨bs, hb, hk⟩ := dats_show I h rv hw fun t ht => Nat.le_trans (listText_mem_le ht) hz
    have na : a ∉ bs := not_mem_of_deeper rd (by rw [PyData.depth]; omega) hb
    rw [PyData.shown] at fin fin0
    cases its with
    | nil =>
      cases rv
      cases h
      rw [PyData.shownAll, listText_nil] at fin fin0
      exact call_repr_slot (by omega) ⟨o, ho, hc⟩ F.slot_list_repr.toG (call_list_repr_empty ⟨o, ho, hc⟩ ho hd ⟨_, _, rfl, fin0 _ _⟩)
    | cons y ys =>
      refine call_repr_slot (by omega) ⟨o, ho, hc⟩ F.slot_list_repr.toG (call_list_reprK ho hc hd na ?_ (fun i z q => hk.item i z (by simpa using q)) (A := X.A.in1) hg (fun b _ => Clear.nil b) (by show X.A.units + 1 + _ < _; omega) (fun _ _ e => e)
        (fun h' t tk hk' => ⟨_, _, rfl, fin h' t tk hk'⟩) hz)
      have := hk.length_eq
      simpa using this
  | @emp a ra e =>
    cases (show u = Value.ref a from ru)
    obtain ⟨o, n, ho, hc, hd, hs⟩ := emp_at I e
    have e1 : (PyData.dict []).shown = dictText [] := by
      rw [PyData.shown, PyData.shownKv]
    rw [e1] at fin hz
    exact call_repr_slot (by omega) ⟨o, ho, hc⟩ F.slot_dict_repr (call_dict_reprK (as := []) (d := 0) (ps := []) ho hc hd hs (fun z => nomatch z) .nil (A := X.A.in1) hg (fun b _ => Clear.nil b) (by show X.A.units + 1 + _ < _; omega) (fun _ _ e => e)
      (fun h' t tk hk' => ⟨_, _, rfl, fin h' t tk hk'⟩) hz)
end Lb
set_option Elab.async false
set_option linter.all false
set_option maxRecDepth 100000
set_option maxHeartbeats 4000000
namespace Lb
open PySem PySem.Spec PyProof.Rows L2
/-! ### t[::-1] of a tuple -/
section
variable {prog : Program} {w : World} {A : Around} {E : Value → Shared → Prop} {s : Shared}
end
section
variable {X : Cx}
end
end Lb
set_option Elab.async false
set_option linter.all false
set_option maxRecDepth 100000
set_option maxHeartbeats 4000000
namespace Lb
open PySem PySem.Spec PyProof.Rows L2
/-! ### t * k, k any small number -/
theorem mul_same (l : Addr) (items : Array Value) (n : Nat) (dd : Option Addr) (sl : Array (Option Value)) (x : Int) (u : Tok) (c0 : (decide (x < -(2 ^ 63)) || decide (x ≥ 2 ^ 63)) = false) (c1 : (items.isEmpty || x == 1) = true) :
    Meets (Builtin.«tuple.__mul__» ⟨[.ref l, .int x u], []⟩) (fun _ R s => s.heap.get? l = some { cls := .type "tuple", dict := dd, data := .seq items n, slots := sl } ∧ R (.ok (.ret (Value.ref l))) s) :=
  .of_wp fun prog w A R s h => by
    obtain ⟨hp, g, d, tk, os⟩ := s
    obtain ⟨hl, h⟩ := h
    have f1 := AutoSeq1.idx_int
    have hT : (⟨hp, g, d, tk, os⟩ : Shared).TypeIs (.ref l) "tuple" := ⟨_, hl, rfl⟩
    wp_walk using wpAny_loadPart' hl
    refine wpAny_ite_false (decide_eq_false (by rw [c0]; exact Bool.false_ne_true)) ?_
    wp_walk using wpAny_loadPart' hl
    exact ⟨_, rfl, h⟩
theorem mul_none (l : Addr) (items : Array Value) (n : Nat) (dd : Option Addr) (sl : Array (Option Value)) (x : Int) (u : Tok) (c0 : (decide (x < -(2 ^ 63)) || decide (x ≥ 2 ^ 63)) = false) (c1 : (items.isEmpty || x == 1) = false) (c2 : (decide (x ≤ 0) || items.isEmpty) = true) :
    Meets (Builtin.«tuple.__mul__» ⟨[.ref l, .int x u], []⟩) (fun _ R s => s.heap.get? l = some { cls := .type "tuple", dict := dd, data := .seq items n, slots := sl } ∧
      R (.ok (.ret (Value.ref s.heap.objs.size))) { s with heap := s.heap.push { cls := Value.type "tuple", data := Data.seq #[] } }) :=
  .of_wp fun prog w A R s h => by
    obtain ⟨hp, g, d, tk, os⟩ := s
    obtain ⟨hl, h⟩ := h
    have f1 := AutoSeq1.idx_int
    wp_walk using wpAny_loadPart' hl
    refine wpAny_ite_false (decide_eq_false (by rw [c0]; exact Bool.false_ne_true)) ?_
    wp_walk using wpAny_loadPart' hl
    repeat (first
      | exact ⟨_, rfl, h⟩
      | (refine wpAny_ite_false (decide_eq_false (show ¬ ((items.isEmpty || x == 1) = true) by rw [c1]; exact Bool.false_ne_true)) ?_; wp_walk using wpAny_loadPart' hl)
      | (refine wpAny_ite_true (decide_eq_true c2) ?_; wp_walk using wpAny_loadPart' hl))
def rRepA (K : PySem.W.Frag) : R2 := fun x y H Q => ∃ l k xs, x = .ref l ∧ y = .int k ∧ SqT K H l xs ∧ -1000 ≤ k ∧ k ≤ 1000 ∧ xs.length ≤ 1000 ∧ xs ≠ [] ∧
  (k = 1 → Q (.ref l) H) ∧ (k ≠ 1 → ∀ p, H p = none → Q (.ref p) (upd H p (.tup (List.replicate k.toNat xs).flatten)))
section
variable {X : Cx}
theorem op_repA : OpR X (binaryOp .Mult) (rRepA X.K) := by
  intro pins s σ H x y v u Q I rx ry h
  obtain ⟨l, k, xs, rfl, rfl, hT, h1, h2, hz, hne, q1, q2⟩ := h
  by_cases hk : 2 ≤ k
  · exact op_repT pins s σ H _ _ v u Q I rx ry ⟨l, k, xs, rfl, rfl, hT, hne, hk, h2, hz, q2 (by omega)⟩
  cases rx
  obtain ⟨t, rfl⟩ := ry
  obtain ⟨its, r, ⟨⟨cls, dd, data, sl⟩, ho, hc, n, hd⟩, hs⟩ := I.tuple hT
  simp only at hc hd
  subst hc hd
  have hle : its.length = xs.length := r.length.symm
  have hi : its.toArray.isEmpty = false := by
    cases its with
    | nil =>
      have : xs = [] := List.eq_nil_of_length_eq_zero hle.symm
      exact absurd this hne
    | cons a b => rfl
  have c0 : (decide (k < -(2 ^ 63)) || decide (k ≥ 2 ^ 63)) = false := by
    rw [decide_eq_false (by omega), decide_eq_false (by omega)] <;> rfl
  by_cases hk1 : k = 1
  · refine wpAny_binaryOp_repeat_ref (T := "tuple") (U := "int") (by decide) ⟨_, ho, rfl⟩ (fun s' => typeIs_int s' k t) noFill_tuple_mul F.fills_int_mul F.slot_int_rmul repeat_tuple F.slot_int_index.lookup
      (call_meets F.slot_int_rmul (typeIs_int s k t) F.entry_int_rmul (F.args_int_rmul_2 _ _) (int_rmul_tuple k t l its.toArray n dd sl)
        ⟨ho, rfl, ⟨_, ho, rfl⟩, call_meets F.slot_tuple_mul ⟨_, ho, rfl⟩ F.entry_tuple_mul (F.args_tuple_mul_2 _ _) (mul_same l its.toArray n dd sl k t c0 (by rw [hk1, hi] <;> rfl)) ⟨ho, ?_⟩⟩)
    exact ⟨.ref l, H, I, rfl, q1 hk1⟩
  · refine wpAny_binaryOp_repeat_ref (T := "tuple") (U := "int") (by decide) ⟨_, ho, rfl⟩ (fun s' => typeIs_int s' k t) noFill_tuple_mul F.fills_int_mul F.slot_int_rmul repeat_tuple F.slot_int_index.lookup
      (call_meets F.slot_int_rmul (typeIs_int s k t) F.entry_int_rmul (F.args_int_rmul_2 _ _) (int_rmul_tuple k t l its.toArray n dd sl)
        ⟨ho, rfl, ⟨_, ho, rfl⟩, call_meets F.slot_tuple_mul ⟨_, ho, rfl⟩ F.entry_tuple_mul (F.args_tuple_mul_2 _ _) (mul_none l its.toArray n dd sl k t c0 (by rw [hi, Bool.false_or]; exact beq_eq_false_iff_ne.mpr hk1) (by rw [decide_eq_true (by omega)] <;> rfl)) ⟨ho, ?_⟩⟩)
    have e0 : (List.replicate k.toNat xs).flatten = [] := by
      have : k.toNat = 0 := by omega
      rw [this] <;> rfl
    have q := q2 hk1
    rw [e0] at q
    refine ⟨.ref s.heap.objs.size, _, I.laid (t' := s.toks) (o := .tup []) (fun b ob z => Heap.get?_push_of_some _ z) (Nat.le_refl _) ?_, rfl, q _ (I.hok.fresh (Nat.le_refl _))⟩
    exact ⟨Nat.zero_le _, [], .nil, IsTup.new _ _⟩
end
/-! ### the law's own def, run where no repr is under way -/
structure FnG (P : Program) (w : World) (K : PySem.W.Frag) (mg : Str → Option Value) (base : Heap) (CX : CXT) (k : Nat) (f : Addr) (fd : FuncData) (ps : List Str) (sp : Sp) : Prop where
  len : ∀ vs H Q E, sp vs H Q E → vs.length = ps.length
  run : ∀ (A : Around) (outer : List Env) (s : Shared) (H : Hp) (args : Args) (us : List Value) (vs : List V) (Q : VK) (E : XK), A.guards = some [] → Room k A → Env0 P w K mg base A outer s H → BindsTo s fd args (ps.zip us) → Vals vs us → sp vs H Q E →
    codeAny (model P w) A (.call (.ref f) args) (CR CX outer P w H s Q E) s
theorem fnG_of {CX : CXT} {P : Program} {w : World} {K : PySem.W.Frag} {mg : Str → Option Value} {base : Heap} {k : Nat} {f : Addr} {x qual : Str} {st : Stmt} {fd : FuncData} {N ps : List Str} {sp : Sp} (F : Fun K x qual st f fd) (S : FnScope N ps (defScope st))
    (len : ∀ vs H Q E, sp vs H Q E → vs.length = ps.length)
    (hbody : ∀ (cdv : Value) (A : Around) (outer : List Env) (s : Shared) (H : Hp) (vs : List V) (Q : VK) (E : XK), (A.deeper (envOfC qual (defScope st) s.heap.objs.size f cdv)).guards = some [] → Room k (A.deeper (envOfC qual (defScope st) s.heap.objs.size f cdv)) → sp vs H Q E →
      ∃ t, PSs (cxOf CX P w K mg base N qual (defScope st) f cdv A outer s H E) (defBody st) t ∧ t { nx := fun _ H' => Q .non H', rt := Q } (start N vs) H) : FnG P w K mg base CX (k + 1) f fd ps sp := by
  obtain ⟨oc, od, kV, doc, pm, an, cdv, ct, osl, rfl, lk, hcd⟩ := F.ex
  refine ⟨len, fun A outer s H args us vs Q E hg hr e0 hb r hsp => ?_⟩
  have hl := len _ _ _ _ hsp
  have kin : K.In s.heap := e0.mod.kin.keeps fun b o z => (e0.bs b o z).1
  have lim : s.heap.NoLimit := e0.mod.nolimit.keeps fun b o z => (e0.bs b o z).1
  have kinds : ∀ y ∈ ps.zip us, (defScope st).names.lookup y.1 = some .local ∨ ((defScope st).names.lookup y.1 = some .cell ∧ ((cellsFrom (s.heap.objs.size + 1) (defScope st).names []).lookup y.1).isSome = true) := by
    rintro ⟨n, v⟩ hy
    rcases S.par n (List.of_mem_zip hy).1 with z | z
    · exact .inl z
    · exact .inr ⟨z, PySem.W.cellsFrom_some _ _ _ (.inl z)⟩
  refine codeAny_call_function hr.depth (kin _ _ lk) rfl S.co S.gen rfl (PySem.W.codeRec_of kin hcd) (hb _ _ _ _ ?_)
  refine wpAny_newFunctionEnv_cells S.kind kinds fun env he s1 inc => ?_
  subst he
  refine ⟨lim.keeps inc.toInCall.keep, codeAny_func ?_⟩
  obtain ⟨t, ht, hq⟩ := hbody cdv A outer s H vs Q E hg (hr.deeper _) hsp
  have I : Inv (cxOf CX P w K mg base N qual (defScope st) f cdv A outer s H E) [] (start N vs) H s1 := inv_start S hr.hd e0 hl r inc
  refine wpAny_mono (ht.run [] s1 (start N vs) H _ I hq) (fun fl s' hs => ?_) fun e s' hs => hs
  cases fl with
  | ret u =>
    obtain ⟨v, σ', H', J, rv, q⟩ := hs
    exact ⟨v, H', J.os, J.bare, J.base, J.hok, rv, q⟩
  | next =>
    obtain ⟨σ', H', J, q⟩ := hs
    exact ⟨.non, H', J.os, J.bare, J.base, J.hok, rfl, q⟩
  | brk =>
    obtain ⟨_, _, _, q⟩ := hs
    exact q.elim
  | cont =>
    obtain ⟨_, _, _, q⟩ := hs
    exact q.elim
theorem lawG_of {P : Program} {w : World} {K : PySem.W.Frag} {mg : Str → Option Value} {base : Heap} {k : Nat} {f : Addr} {x qual : Str} {st : Stmt} {fd : FuncData} {N ps : List Str} {sp : Sp} (F : Fun K x qual st f fd) (S : FnScope N ps (defScope st))
    (len : ∀ vs H Q E, sp vs H Q E → vs.length = ps.length)
    (hbody : ∀ (cdv : Value) (A : Around) (outer : List Env) (s : Shared) (H : Hp) (vs : List V) (Q : VK) (E : XK), (cxOf CX0 P w K mg base N qual (defScope st) f cdv A outer s H E).nox.A.guards = some [] → Room k (A.deeper (envOfC qual (defScope st) s.heap.objs.size f cdv)) → sp vs H Q E →
      ∃ t, PSs (cxOf CX0 P w K mg base N qual (defScope st) f cdv A outer s H E).nox (defBody st) t ∧ t { nx := fun _ H' => Q .non H', rt := Q } (start N vs) H) : FnG P w K mg base CX0 (k + 1) f fd ps sp :=
  fnG_of F S len fun cdv A outer s H vs Q E hg hr h => let ⟨t, p, q⟩ := hbody cdv A outer s H vs Q E hg hr h; ⟨t, p.nox, q⟩
end Lb
set_option Elab.async false
set_option linter.all false
set_option maxRecDepth 100000
set_option maxHeartbeats 4000000
namespace Lb
open PySem PySem.Spec PyProof.Rows L2
section
variable {P : Program} {w : World} {K : PySem.W.Frag} {mg mb : Str → Option Value} {CX : CXT} {k : Nat} {fa a : Addr} {fd : FuncData} {x : Str} {sp : Sp} {s1 : Shared} {vs : List Value} {ns : List Int}
/-- what the law's call must come to -/
abbrev LawEnd (s1 : Shared) : Result → Shared → Prop := fun r s' => r = .ok (.ret (.bool true)) ∧ OldK s1.heap s'.heap ∧ s'.os = s1.os ∧ AllBare s'.gens
theorem go_from {H : Hp} (kin : K.In s1.heap) (hns : s1.heap.Ns mainGlobals mg) (hb : s1.heap.Ns builtinsNs mb) (hbb : ∀ x : Str, x ≠ "__name__" → mb x = bootBuiltins x) (hlim : s1.heap.NoLimit) (hg : s1.gens = #[])
    (ha : s1.heap.get? a = some { cls := .type "list", data := .seq vs.toArray }) (hr : Room k callerA)
    (F : ∀ base : Heap, K.In base → base.Ns mainGlobals mg → FnG P w K mg base CX k fa fd [x] sp) (hbind : ∀ (s : Shared) (u : Value), BindsTo s fd ⟨[u], []⟩ [(x, u)])
    (only : Only H) (hok : HOk P w H s1.heap) (hA : ∀ b, H b ≠ none → b = a) (hK : H a ≠ none → K.lookup a = none)
    (hsp : sp [.ref a] H (fun v _ => v = .bl true) fun _ _ _ => False) (hCX : ∀ e s', CX [] H s1 (fun _ _ _ => False) e s' → False) :
    codeAny (model P w) callerA (.call (.ref fa) ⟨[.ref a], []⟩) (LawEnd s1) s1 := by
  have isA : ∀ {b : Addr} {u : HO}, H b = some u → b = a := fun {b u} e => hA b (by rw [e]; exact fun z => nomatch z)
  have dictFree : ∀ {b : Addr} {o : Obj} {es : Array DictEntry} {ep : Nat}, s1.heap.get? b = some o → o.data = .dict es ep → H b = none := by
    intro b o es ep e d
    cases q : H b with
    | none => rfl
    | some u =>
      have eb := isA q
      subst eb
      rw [ha] at e
      cases e
      exact nomatch (show Data.seq vs.toArray _ = Data.dict es ep from d)
  have ns : ∀ {b : Addr} {m : Str → Option Value}, s1.heap.Ns b m → (hidT s1.heap H).Ns b m := by
    rintro b m ⟨o, es, ep, e, d, r⟩
    exact ⟨o, es, ep, hidT_get e (dictFree e d), d, r⟩
  have kb : K.In (hidT s1.heap H) := by
    intro b o e
    refine hidT_get (kin b o e) ?_
    cases q : H b with
    | none => rfl
    | some u =>
      have eb := isA q
      subst eb
      rw [hK (by rw [q]; exact fun z => nomatch z)] at e
      cases e
  obtain ⟨mc, n1, n2⟩ := hlim
  have md : Mod K mg (hidT s1.heap H) := ⟨kb, ns hns, ⟨mb, ns hb, hbb⟩, ⟨mc, ns n1, n2⟩⟩
  have e0 : Env0 P w K mg (hidT s1.heap H) callerA [] s1 H :=
    ⟨rfl, md, fun b o e => of_hidT e, Nat.le_of_eq (hidT_size _ _), trivial, fun b hb => absurd (show b ∈ ([] : List Addr) from hb) (by simp), hok, .of_eq hg⟩
  refine codeAny_mono ((F _ kb (ns hns)).run callerA [] s1 H ⟨[.ref a], []⟩ [.ref a] [.ref a] _ _ rfl hr e0 (hbind s1 (.ref a)) (.cons rfl .nil) hsp) fun r s' h => ?_
  cases r with
  | error e => exact (hCX e s' h).elim
  | ok fl =>
    cases fl with
    | next => exact h.elim
    | brk => exact h.elim
    | cont => exact h.elim
    | ret u =>
      obtain ⟨v, H', os, bare, un, hok', ru, q⟩ := h
      have ev : v = .bl true := q
      subst ev
      obtain rfl : u = Value.bool true := ru
      refine ⟨rfl, OldK.of_keep fun b o e => ?_, os, bare⟩
      rcases only b with z | ⟨ob, xs, z⟩
      · exact un.keep b o e z (fun m => absurd (show b ∈ ([] : List Addr) from m) (by simp)) (by simp)
      · obtain ⟨g1, _⟩ := hok b _ z
        obtain ⟨g2, _⟩ := hok' b _ (un.frzs b ob _ z)
        rw [e] at g1
        cases g1
        exact g2
theorem law_go (kin : K.In s1.heap) (hns : s1.heap.Ns mainGlobals mg) (hb : s1.heap.Ns builtinsNs mb) (hbb : ∀ x : Str, x ≠ "__name__" → mb x = bootBuiltins x) (hlim : s1.heap.NoLimit) (hg : s1.gens = #[])
    (ha : s1.heap.get? a = some { cls := .type "list", data := .seq vs.toArray }) (hi : IntsAre vs ns) (hl : ns.length ≤ sizeLine) (hr : Room k callerA)
    (F : ∀ base : Heap, K.In base → base.Ns mainGlobals mg → FnG P w K mg base CX k fa fd [x] sp) (hbind : ∀ (s : Shared) (u : Value), BindsTo s fd ⟨[u], []⟩ [(x, u)])
    (hsp : ∀ H : Hp, Only H → SqL K H a (ns.map V.int) → sp [.ref a] H (fun v _ => v = .bl true) fun _ _ _ => False)
    (hCX : ∀ H e s', CX [] H s1 (fun _ _ _ => False) e s' → False) : codeAny (model P w) callerA (.call (.ref fa) ⟨[.ref a], []⟩) (LawEnd s1) s1 := by
  have rv := vals_ints hi
  cases hk : K.lookup a with
  | some o =>
    have e := kin a o hk
    rw [ha] at e
    cases e
    have only0 : Only (fun _ => none) := fun _ => .inl rfl
    refine go_from (H := fun _ => none) kin hns hb hbb hlim hg ha hr F hbind only0 (fun b u z => nomatch (show (none : Option HO) = some u from z)) (fun b z => absurd rfl z) (fun z => absurd rfl z) (hsp _ only0 (.inr ⟨_, vs.toArray, _, hk, rfl, rfl, rfl, ?_, by simpa using rv⟩)) fun e s' => hCX _ e s'
    rw [List.size_toArray, hi.length]
    exact hl
  | none =>
    let H1 : Hp := fun b => if b = a then some (.frz { cls := .type "list", data := .seq vs.toArray } (.lst (ns.map V.int))) else none
    have at_a : H1 a = some (.frz { cls := .type "list", data := .seq vs.toArray } (.lst (ns.map V.int))) := if_pos rfl
    have off : ∀ {b : Addr}, b ≠ a → H1 b = none := fun h => if_neg h
    have only1 : Only H1 := fun b => by
      by_cases hb : b = a
      · rw [hb]
        exact .inr ⟨_, _, at_a⟩
      · exact .inl (off hb)
    refine go_from (H := H1) kin hns hb hbb hlim hg ha hr F hbind only1 (fun b u z => ?_) (fun b z => ?_) (fun _ => hk) (hsp _ only1 (.inl (.inr ⟨_, at_a⟩))) fun e s' => hCX _ e s'
    · by_cases hb : b = a
      · subst hb
        rw [at_a] at z
        cases z
        exact ⟨ha, by rw [List.length_map]; exact hl, vs, _, rv, ha⟩
      · rw [off hb] at z
        cases z
    · exact Classical.byContradiction fun hb => z (off hb)
end
theorem walk_g {l : PySem.W.OpenLaw} {n k : Nat} {q : Program} {loose : List Str} {XP : (Str → Option Value) → Heap → Prop} {YP : World → Heap → Prop} {d : DefRec} {K : Params → PySem.W.Frag} {CX : World → CXT} {sp : World → Sp} {x : Str}
    (hn : l.most = some n) (hn2 : n ≤ sizeLine) (hdf : d.params.defaults = []) (hr : Room k callerA) (hY : ∀ (w : World) (h : Heap), YP w h → (K w.params).In h)
    (F : ∀ (w : World) (mg : Str → Option Value) (fa : Addr) (h : Heap), (K w.params).In h → h.Ns mainGlobals mg → mg d.name = some (.ref fa) →
      ∃ fd : FuncData, (∀ (s : Shared) (u : Value), BindsTo s fd ⟨[u], []⟩ [(x, u)]) ∧ ∀ base : Heap, (K w.params).In base → base.Ns mainGlobals mg → FnG l.prog w (K w.params) mg base (CX w) k fa fd [x] (sp w))
    (hsp : ∀ (w : World) (H : Hp) (a : Addr) (ns : List Int), ns.length ≤ n → Only H → SqL (K w.params) H a (ns.map V.int) → sp w [.ref a] H (fun v _ => v = .bl true) fun _ _ _ => False)
    (hCX : ∀ (w : World) (H : Hp) (s : Shared) (e : Value) (s' : Shared), CX w [] H s (fun _ _ _ => False) e s' → False) :
    PySem.W.WalkO q loose XP YP l.row.toRowW d [] (fun f vs => PySem.call f vs) := by
  refine Att.attach_call hn hdf fun w s0 s1 mg mb fa o pm cd doc a vs ns G Y ho hd hcd hmg hobj hints hlen hg => ?_
  have kin := hY w _ Y
  obtain ⟨fd, hb, hF⟩ := F w mg fa _ kin G.T.g hmg
  exact law_go kin G.T.g G.T.b G.T.builtins G.T.nolimit hg hobj hints (Nat.le_trans hlen hn2) hr hF hb (fun H hO hS => hsp w H a ns hlen hO hS) fun H e s' => hCX w H s1 e s'
end Lb
set_option Elab.async false
set_option linter.all false
set_option maxRecDepth 100000
set_option maxHeartbeats 4000000
namespace Lb
open PySem PySem.Spec PyProof.Rows L2 RZ
/-! ### defs by their names -/
structure Df (K : PySem.W.Frag) (mg : Str → Option Value) (x : Str) (st : Stmt) : Prop where
  ex : ∃ (f : Addr) (fd : FuncData), Fun K x x st f fd ∧ mg x = some (.ref f)
structure Own (P : Program) (w : World) (K : PySem.W.Frag) (mg : Str → Option Value) (base : Heap) (x : Str) (k : Nat) (ps : List Str) (sp : Sp) : Prop where
  ex : ∃ (f : Addr) (fd : FuncData), FnOk P w K mg base CX0 k f fd ps sp ∧ mg x = some (.ref f) ∧ PySem.W.keepIn K (.ref f) = true ∧ Binds K fd ps []
section
variable {P : Program} {w : World} {K : PySem.W.Frag} {mg : Str → Option Value} {base : Heap}
theorem own_of {x : Str} {st : Stmt} {N ps : List Str} {k : Nat} {sp : Sp} (D : Df K mg x st) (S : FnScope N ps (defScope st))
    (hb : ∀ (kV doc pm : Value) (an : Option Addr) (cdv ct : Value) (us : List Value), us.length = ps.length → bindArgs (PySem.W.fnOf x x (defArgs st) (defBody st) (defScope st) .none kV doc pm an cdv ct) ⟨us, []⟩ = pure (ps.zip us))
    (len : ∀ vs H Q E, sp vs H Q E → vs.length = ps.length)
    (hbody : ∀ (f : Addr) (cdv : Value) (A : Around) (outer : List Env) (s : Shared) (H : Hp) (vs : List V) (Q : VK) (E : XK), Room k (A.deeper (envOfC x (defScope st) s.heap.objs.size f cdv)) → sp vs H Q E →
      ∃ t, PSs (cxOf CX0 P w K mg base N x (defScope st) f cdv A outer s H E).nox (defBody st) t ∧ t { nx := fun _ H' => Q .non H', rt := Q } (start N vs) H) : Own P w K mg base x (k + 1) ps sp := by
  obtain ⟨f, fd, F, m⟩ := D.ex
  exact ⟨f, fd, F.ok S len (hbody f), m, F.kp, F.binds hb⟩
theorem df_mk {h : Heap} {x : Str} {st : Stmt} {f : Addr} {oc : Value} {od an : Option Addr} {osl : Array (Option Value)} {kV doc pm cdv ct : Value} (X : K.In h) (G : h.Ns mainGlobals mg) (a : PySem.W.nsIn K mainGlobals x = some (some (.ref f)))
    (l : K.lookup f = some ⟨oc, od, .func (PySem.W.fnOf x x (defArgs st) (defBody st) (defScope st) .none kV doc pm an cdv ct), osl⟩) (c : PySem.W.codeIn K cdv x = true) (k : PySem.W.keepIn K (.ref f) = true) : Df K mg x st :=
  ⟨f, _, fun_mk l c k, PySem.W.mg_of X G a⟩
end
section
variable {X : Cx} {k : Nat} {ps : List Str} {sp : Sp} {x : Str} {p pos : Pos} {e : Expr} {es : List Expr} {t : TA}
theorem pe_own (O : Own X.prog X.w X.K X.mg X.base x k ps sp) (hr : Room k X.A) (hg : Gl X x) (ha : PA X (e :: es) t) (hdb : (x == ("__debug__" : Str)) = false := by decide)
    (he : starEach (e :: es) X.env = (false, eval e X.env) :: starEach es X.env := by rfl) (hpl : (backTo pos (starEach es X.env)).any (·.1) = false := by rfl) : PE X (.Call (.Name x p) (e :: es) [] pos) (tCall sp [] E0 t) := by
  obtain ⟨f, fd, F, m, kp, b⟩ := O.ex
  exact pe_call F hr hg m kp b .nil pass0 ha hdb he hpl
end
/-- the built-ins' names are no names of the module -/
structure Blt (mg : Str → Option Value) : Prop where
  b_len : mg "len" = none
  b_range : mg "range" = none
  b_int : mg "int" = none
  b_bool : mg "bool" = none
  b_tuple : mg "tuple" = none
  b_list : mg "list" = none
  b_str : mg "str" = none
  b_dict : mg "dict" = none
  b_all : mg "all" = none
  b_any : mg "any" = none
  b_max : mg "max" = none
  b_min : mg "min" = none
  b_sum : mg "sum" = none
  b_zip : mg "zip" = none
  b_enumerate : mg "enumerate" = none
  b_isinstance : mg "isinstance" = none
  b_repr : mg "repr" = none
  b_sorted : mg "sorted" = none
/-! ### the deck -/
/-- the deck at d: its cells at c, at most n draws, what is left at r -/
def Dk (H : Hp) (d c r : Addr) (n : Nat) : Prop :=
  ∃ (t : Nat) (cs rs : List Int), t ≤ n ∧ 0 < cs.length ∧ cs.length ≤ 64 ∧ rs.length = cs.length ∧ d ≠ c ∧ d ≠ r ∧ c ≠ r ∧
    H d = some (.lst [.ref c, .int (t : Int), .ref r]) ∧ H c = some (.lst (cs.map V.int)) ∧ H r = some (.lst (rs.map V.int))
/-- all but the deck's two changing lists is kept -/
def Kp (d r : Addr) (H H' : Hp) : Prop := ∀ b o, b ≠ d → b ≠ r → H b = some o → H' b = some o
theorem Kp.refl (d r : Addr) (H : Hp) : Kp d r H H := fun _ _ _ _ e => e
theorem Kp.of {d r : Addr} {H H' : Hp} (s : Same H H') : Kp d r H H' := fun b o _ _ e => s b o e
theorem Kp.trans {d r : Addr} {H H1 H2 : Hp} (a : Kp d r H H1) (b : Kp d r H1 H2) : Kp d r H H2 := fun c o n1 n2 e => b c o n1 n2 (a c o n1 n2 e)
theorem Dk.mono {H : Hp} {d c r : Addr} {n m : Nat} (h : Dk H d c r n) (l : n ≤ m) : Dk H d c r m := by
  obtain ⟨t, cs, rs, h1, hh⟩ := h
  exact ⟨t, cs, rs, Nat.le_trans h1 l, hh⟩
theorem Dk.same {H H' : Hp} {d c r : Addr} {n : Nat} (h : Dk H d c r n) (s : Same H H') : Dk H' d c r n := by
  obtain ⟨t, cs, rs, h1, h2, h3, h4, h5, h6, h7, e1, e2, e3⟩ := h
  exact ⟨t, cs, rs, h1, h2, h3, h4, h5, h6, h7, s _ _ e1, s _ _ e2, s _ _ e3⟩
theorem Dk.nd {H : Hp} {d c r : Addr} {n : Nat} (h : Dk H d c r n) {p : Addr} (e : H p = none) : p ≠ d ∧ p ≠ r ∧ p ≠ c := by
  obtain ⟨t, cs, rs, _, _, _, _, _, _, _, e1, e2, e3⟩ := h
  exact ⟨(ne_of_none e1 e).symm, (ne_of_none e3 e).symm, (ne_of_none e2 e).symm⟩
/-- a local list's own place survives a draw -/
theorem Kp.at {H H' H0 : Hp} {d c r : Addr} {n : Nat} (k : Kp d r H H') (dk : Dk H0 d c r n) {p : Addr} {o : HO} (e0 : H0 p = none) (e : H p = some o) : H' p = some o :=
  let ⟨a, b, _⟩ := dk.nd e0
  k p o a b e
/-- the region of plain data: away from the deck, with all that is new -/
structure Rg (R : Rgn) (H : Hp) (d r : Addr) : Prop where
  nd : ¬ R d
  nr : ¬ R r
  new : ∀ p, H p = none → R p
theorem Rg.on {R : Rgn} {H H' H0 : Hp} {d r : Addr} (g : Rg R H0 d r) (k : Kp d r H H') : On R H H' := fun b o rb e => k b o (fun z => g.nd (z ▸ rb)) (fun z => g.nr (z ▸ rb)) e
theorem Rg.kp {R : Rgn} {H H' : Hp} {d c r : Addr} {n : Nat} (g : Rg R H d r) (k : Kp d r H H') (dk : Dk H' d c r n) : Rg R H' d r := by
  refine ⟨g.nd, g.nr, fun p e => g.new p ?_⟩
  obtain ⟨n1, n2, _⟩ := dk.nd e
  cases q : H p with
  | none => rfl
  | some o =>
    rw [k p o n1 n2 q] at e
    cases e
theorem Rg.same {R : Rgn} {H H' : Hp} {d r : Addr} (g : Rg R H d r) (s : Same H H') : Rg R H' d r := ⟨g.nd, g.nr, fun p e => g.new p (s.free e)⟩
theorem nat_at {ns : List Int} {j : Nat} (h : j < ns.length) : atI (ns.map V.int) ((j : Nat) : Int) = some (.int (ns.getD j 0)) := by
  refine atI_nat ?_
  rw [List.getElem?_map, List.getElem?_eq_getElem h, List.getD_eq_getElem?_getD, List.getElem?_eq_getElem h]
  rfl
theorem emod_nat (a : Int) {m : Nat} (h : 0 < m) : ∃ v : Nat, v < m ∧ a % (m : Int) = (v : Int) := by
  have h1 : 0 ≤ a % (m : Int) := Int.emod_nonneg a (by omega)
  have h2 : a % (m : Int) < (m : Int) := Int.emod_lt_of_pos a (by omega)
  exact ⟨(a % (m : Int)).toNat, by omega, by omega⟩
theorem ixN_nat {n j : Nat} (h : j < n) : ixN n ((j : Nat) : Int) = some j := by
  unfold ixN
  rw [if_pos (by omega), if_pos (by omega)]
  rfl
theorem all_in {σ : L2.St} {H : Hp} {A B : Hp → Prop} (h : A H) : tYes σ H (fun b H3 => if b = true then A H3 else B H3) := by
  show if true = true then A H else B H
  exact iteT h
theorem int_at {ns : List Int} {i : Nat} {x : V} (h : (ns.map V.int)[i]? = some x) : ∃ u, x = V.int u ∧ ns[i]? = some u := by
  rw [List.getElem?_map] at h
  cases e : ns[i]? with
  | none =>
    rw [e] at h
    cases h
  | some u =>
    rw [e] at h
    exact ⟨u, (Option.some.inj h).symm, rfl⟩
/-! ### comprehensions and loops over zip and enumerate of tuples -/
/-- what the reading of a comprehension asks behind its source -/
abbrev LcW (J : It) (g : TG) (tt : TT) (te : TE) (vs : List Nat) (σ : L2.St) (H1 : Hp) (D : Addr) (Qd : Hp → Prop) : Prop :=
  ∃ W : Nat → Nat → Hp → Prop, (∃ m, W 0 m (upd H1 D (.lst []))) ∧ ∀ i m H, W i m H →
    (J.stop i H ∧ Qd H) ∨ (J.go i H ∧ ∃ Nx : Hp → Prop, (∀ H', Nx H' → ∃ m', m' < m ∧ W (i + 1) m' H') ∧ ∀ x H', J.yld i H x H' → g x (wipe σ vs) H' fun σ2 H2 => wipe σ2 vs = wipe σ vs ∧ tt σ2 H2 fun b H3 =>
      if b = true then te σ2 H3 fun y H4 => ∃ acc, H4 D = some (.lst acc) ∧ acc.length < sizeLine ∧ Nx (upd H4 D (.lst (acc ++ [y]))) else Nx H3)
theorem lc_zipT {K : PySem.W.Frag} {a b : Addr} {xs ys : List V} {g : TG} {tt : TT} {te : TE} {vs : List Nat} {σ : L2.St} {H1 : Hp} {D : Addr} {Qd : Hp → Prop} (hl : xs.length = ys.length) (Pv : Nat → Hp → Prop) (h0 : Pv 0 (upd H1 D (.lst [])))
    (hq : ∀ i H, Pv i H → SqT K H a xs ∧ SqT K H b ys)
    (hs : ∀ (i : Nat) (x y : V) (T : Addr) (H : Hp), xs[i]? = some x → ys[i]? = some y → Pv i H → H T = none → g (.ref T) (wipe σ vs) (upd H T (.tup [x, y])) fun σ2 H2 => wipe σ2 vs = wipe σ vs ∧ tt σ2 H2 fun b H3 =>
      if b = true then te σ2 H3 fun y H4 => ∃ acc, H4 D = some (.lst acc) ∧ acc.length < sizeLine ∧ Pv (i + 1) (upd H4 D (.lst (acc ++ [y]))) else Pv (i + 1) H3) (hd : ∀ H, Pv xs.length H → Qd H) : LcW (ItzT K a b) g tt te vs σ H1 D Qd := by
  refine ⟨fun i m H => m = xs.length - i ∧ i ≤ xs.length ∧ Pv i H, ⟨xs.length, rfl, Nat.zero_le _, h0⟩, ?_⟩
  rintro i m H ⟨rfl, hi, p⟩
  obtain ⟨qx, qy⟩ := hq i H p
  by_cases hlt : i < xs.length
  · refine .inr ⟨⟨xs, ys, _, _, qx, qy, List.getElem?_eq_getElem hlt, List.getElem?_eq_getElem (by omega)⟩, Pv (i + 1), fun H' p' => ⟨xs.length - (i + 1), by omega, rfl, hlt, p'⟩, ?_⟩
    rintro v H' ⟨T, x', y', rfl, hT, rfl, f1, f2⟩
    exact hs i x' y' T H (f1 xs qx) (f2 ys qy) p hT
  · obtain rfl : i = xs.length := by omega
    exact .inl ⟨⟨xs, ys, qx, qy, .inl (Nat.le_refl _)⟩, hd H p⟩
theorem for_enumT {K : PySem.W.Frag} {a : Addr} {xs : List V} {g : TG} {tb : TS} {D : Ends} {σ : L2.St} {H : Hp} (Pv : Nat → L2.St → Hp → Prop) (h0 : Pv 0 σ H) (hq : ∀ i σ H, Pv i σ H → SqT K H a xs)
    (hs : ∀ (i : Nat) (x : V) (T : Addr) (σ : L2.St) (H : Hp), xs[i]? = some x → Pv i σ H → H T = none → g (.ref T) σ (upd H T (.tup [.int (i : Nat), x])) fun σ2 H2 => tb { D with nx := Pv (i + 1), ct := Pv (i + 1), bk := D.nx } σ2 H2) (hd : ∀ σ H, Pv xs.length σ H → D.nx σ H) :
    ∃ W : Nat → Nat → L2.St → Hp → Prop, (∃ m, W 0 m σ H) ∧ ∀ i m σ H, W i m σ H →
      ((IteT K a).stop i H ∧ D.nx σ H) ∨ ((IteT K a).go i H ∧ ∃ N : L2.St → Hp → Prop, (∀ σ' H', N σ' H' → ∃ m', m' < m ∧ W (i + 1) m' σ' H') ∧ ∀ v H', (IteT K a).yld i H v H' → g v σ H' fun σ2 H2 => tb { D with nx := N, ct := N, bk := D.nx } σ2 H2) := by
  refine ⟨fun i m σ H => m = xs.length - i ∧ i ≤ xs.length ∧ Pv i σ H, ⟨xs.length, rfl, Nat.zero_le _, h0⟩, ?_⟩
  rintro i m σ H ⟨rfl, hi, p⟩
  have qx := hq i σ H p
  by_cases hlt : i < xs.length
  · refine .inr ⟨⟨xs, _, qx, List.getElem?_eq_getElem hlt⟩, Pv (i + 1), fun σ' H' p' => ⟨xs.length - (i + 1), by omega, rfl, hlt, p'⟩, ?_⟩
    rintro v H' ⟨T, x', rfl, hT, rfl, f1⟩
    exact hs i x' T σ H (f1 xs qx) p hT
  · obtain rfl : i = xs.length := by omega
    exact .inl ⟨⟨xs, qx, Nat.le_refl _⟩, hd σ H p⟩
/-! ### bags, trades, markets -/
/-- a side of a trade: so many goods, amounts up to three, a total up to m -/
structure Side (g m : Nat) (b : List Int) : Prop where
  len : b.length = g
  amt : ∀ x ∈ b, 0 ≤ x ∧ x ≤ 3
  tot : b.sum ≤ (m : Int)
theorem Side.mono {g m k : Nat} {b : List Int} (h : Side g m b) (l : m ≤ k) : Side g k b := ⟨h.len, h.amt, by have := h.tot; omega⟩
abbrev bagD (b : List Int) : PyData := .tuple (b.map PyData.int)
abbrev Trd := List Int × List Int
abbrev trdD (t : Trd) : PyData := .tuple [bagD t.1, bagD t.2]
abbrev mktD (g : Nat) (ts : List Trd) : PyData := .tuple [.int (g : Int), .tuple (ts.map trdD)]
def TrdOk (g m : Nat) (t : Trd) : Prop := Side g m t.1 ∧ Side g m t.2
structure MktOk (g : Nat) (ts : List Trd) : Prop where
  one : 1 ≤ g
  four : g ≤ 4
  many : ts.length ≤ 4
  all : ∀ t ∈ ts, TrdOk g 4 t
theorem sum_nonneg : ∀ {b : List Int}, (∀ x ∈ b, 0 ≤ x) → 0 ≤ b.sum
  | [], _ => by decide
  | x :: b, h => by
    rw [List.sum_cons]
    have h1 := h x List.mem_cons_self
    have h2 := sum_nonneg (b := b) fun y hy => h y (List.mem_cons_of_mem _ hy)
    omega
theorem le_sum : ∀ {b : List Int}, (∀ x ∈ b, 0 ≤ x) → ∀ x ∈ b, x ≤ b.sum
  | y :: b, h, x, hx => by
    rw [List.sum_cons]
    have h1 := h y List.mem_cons_self
    have hb : ∀ z ∈ b, 0 ≤ z := fun z hz => h z (List.mem_cons_of_mem _ hz)
    have h2 := sum_nonneg hb
    rcases List.mem_cons.mp hx with rfl | hx
    · omega
    · have h3 := le_sum hb x hx
      omega
theorem sum_zip : ∀ {a b : List Int}, a.length = b.length → (List.zipWith (· + ·) a b).sum = a.sum + b.sum
  | [], [], _ => rfl
  | x :: a, y :: b, h => by
    rw [List.zipWith_cons_cons, List.sum_cons, List.sum_cons, List.sum_cons, sum_zip (a := a) (b := b) (by simpa using h)]
    omega
theorem mem_zip {f : Int → Int → Int} : ∀ {a b : List Int} {z : Int}, z ∈ List.zipWith f a b → ∃ x ∈ a, ∃ y ∈ b, z = f x y
  | x :: a, y :: b, z, h => by
    rw [List.zipWith_cons_cons] at h
    rcases List.mem_cons.mp h with rfl | h
    · exact ⟨x, List.mem_cons_self, y, List.mem_cons_self, rfl⟩
    · obtain ⟨x', hx, y', hy, e⟩ := mem_zip h
      exact ⟨x', List.mem_cons_of_mem _ hx, y', List.mem_cons_of_mem _ hy, e⟩
theorem zip_take {f : Int → Int → Int} : ∀ {a b : List Int} {i : Nat} {x y : Int}, a[i]? = some x → b[i]? = some y → (List.zipWith f a b).take (i + 1) = (List.zipWith f a b).take i ++ [f x y]
  | x' :: a, y' :: b, 0, x, y, h1, h2 => by
    have e1 : x' = x := Option.some.inj h1
    have e2 : y' = y := Option.some.inj h2
    rw [e1, e2]
    rfl
  | x' :: a, y' :: b, i + 1, x, y, h1, h2 => by
    rw [List.zipWith_cons_cons, List.take_succ_cons, List.take_succ_cons, zip_take (i := i) (x := x) (y := y) h1 h2]
    rfl
theorem Dat.bag {R : Rgn} {H : Hp} {v : V} {b : List Int} (h : Dat R H v (bagD b)) : ∃ a, v = .ref a ∧ R a ∧ H a = some (.tup (b.map V.int)) := by
  cases h with
  | tup ra e t =>
    rw [Dats.of_ints t] at e
    exact ⟨_, rfl, ra, e⟩
theorem Dat.mkBag {R : Rgn} {H : Hp} {a : Addr} {b : List Int} (ra : R a) (e : H a = some (.tup (b.map V.int))) : Dat R H (.ref a) (bagD b) := .tup ra e (Dats.ints b)
theorem rep0 : ∀ g : Nat, (List.replicate g [V.int 0]).flatten = (List.replicate g (0 : Int)).map V.int
  | 0 => rfl
  | k + 1 => by
    rw [List.replicate_succ, List.flatten_cons, rep0 k, List.replicate_succ]
    rfl
theorem sum_rep0 : ∀ k : Nat, (List.replicate k (0 : Int)).sum = 0
  | 0 => rfl
  | k + 1 => by
    rw [List.replicate_succ, List.sum_cons, sum_rep0 k]
    rfl
end Lb
set_option Elab.async false
set_option linter.all false
set_option maxRecDepth 100000
set_option maxHeartbeats 4000000
namespace Lb
open PySem PySem.Spec PyProof.Rows L2 RZ
/-! ### how long data is when shown -/
mutual
def wt : PyData → Nat
  | .none => 4
  | .bool _ => 5
  | .int i => (PyData.int i).shown.length
  | .str x => (reprText x).length
  | .list xs => 4 + wts xs
  | .tuple xs => 4 + wts xs
  | .dict _ => 2
def wts : List PyData → Nat
  | [] => 0
  | x :: xs => wt x + 2 + wts xs
end
mutual
def fine : PyData → Bool
  | .none => true
  | .bool _ => true
  | .int i => decide (i.natAbs.log2 < 1920)
  | .str _ => true
  | .list xs => fines xs
  | .tuple xs => fines xs
  | .dict kvs => kvs.isEmpty
def fines : List PyData → Bool
  | [] => true
  | x :: xs => fine x && fines xs
end
mutual
theorem fine_show : ∀ d : PyData, fine d = true → d.showable = true
  | .none, _ => by rw [PyData.showable]
  | .bool _, _ => by rw [PyData.showable]
  | .int i, h => by
    rw [PyData.showable]
    exact h
  | .str _, _ => by rw [PyData.showable]
  | .list xs, h => by
    rw [PyData.showable]
    exact fines_show xs h
  | .tuple xs, h => by
    rw [PyData.showable]
    exact fines_show xs h
  | .dict [], _ => by rw [PyData.showable, PyData.showableKv]
  | .dict (_ :: _), h => by
    simp [fine] at h
theorem fines_show : ∀ ds : List PyData, fines ds = true → PyData.showableAll ds = true
  | [], _ => by rw [PyData.showableAll]
  | d :: ds, h => by
    rw [fines, Bool.and_eq_true] at h
    rw [PyData.showableAll, fine_show d h.1, fines_show ds h.2]
    rfl
end
theorem tupleText_len (ts : List Str) : (tupleText ts).length ≤ piled ts + 4 := by
  unfold tupleText
  rw [strLen_append, strLen_append]
  have e1 : (("(" : String) : Str).length = 1 := rfl
  have e3 : ((if ts.length == 1 then ",)" else ")" : String) : Str).length ≤ 2 := by split <;> decide
  by_cases h : ts = []
  · subst h
    decide
  · have := join_length_add ts h
    rw [e1]
    omega
theorem textFrom_le : ∀ (ts : List Str) (k : Nat) (acc : Str), (textFrom k acc ts).length ≤ acc.length + piled ts
  | [], k, acc => by
    show acc.length ≤ _
    omega
  | t :: r, k, acc => by
    have ih := textFrom_le r (k + 1) (acc ++ (if k > 0 then ", " else "" : String) ++ t)
    have e : (acc ++ (if k > 0 then ", " else "" : String) ++ t).length ≤ acc.length + 2 + t.length := by
      rw [strLen_append, strLen_append]
      have : ((if k > 0 then ", " else "" : String) : Str).length ≤ 2 := by split <;> decide
      omega
    rw [piled_cons]
    show (textFrom (k + 1) (acc ++ (if k > 0 then ", " else "" : String) ++ t) r).length ≤ _
    omega
theorem listText_len (ts : List Str) : (listText ts).length ≤ piled ts + 4 := by
  unfold listText
  rw [strLen_append]
  have := textFrom_le ts 0 "["
  have e1 : (("[" : String) : Str).length = 1 := rfl
  have e2 : (("]" : String) : Str).length = 1 := rfl
  rw [e1] at this
  rw [e2]
  omega
mutual
theorem shown_le : ∀ d : PyData, fine d = true → d.shown.length ≤ wt d
  | .none, _ => by
    rw [PyData.shown]
    decide
  | .bool b, _ => by
    rw [PyData.shown]
    cases b <;> decide
  | .int i, _ => Nat.le_refl _
  | .str x, _ => by
    rw [PyData.shown]
    exact Nat.le_refl _
  | .list xs, h => by
    rw [PyData.shown, wt]
    have := listText_len (PyData.shownAll xs)
    have := piled_le xs h
    omega
  | .tuple xs, h => by
    rw [PyData.shown, wt]
    have := tupleText_len (PyData.shownAll xs)
    have := piled_le xs h
    omega
  | .dict [], _ => by
    rw [PyData.shown, PyData.shownKv]
    decide
  | .dict (_ :: _), h => by
    simp [fine] at h
theorem piled_le : ∀ ds : List PyData, fines ds = true → piled (PyData.shownAll ds) ≤ wts ds
  | [], _ => by
    rw [PyData.shownAll]
    exact Nat.le_refl _
  | d :: ds, h => by
    rw [fines, Bool.and_eq_true] at h
    rw [PyData.shownAll, piled_cons, wts]
    have := shown_le d h.1
    have := piled_le ds h.2
    omega
end
theorem fines_iff : ∀ ds : List PyData, fines ds = true ↔ ∀ d ∈ ds, fine d = true
  | [] => ⟨fun _ _ z => (List.not_mem_nil z).elim, fun _ => rfl⟩
  | d :: ds => by
    rw [fines, Bool.and_eq_true, fines_iff ds]
    exact ⟨fun h x hx => (List.mem_cons.mp hx).elim (fun e => e ▸ h.1) (h.2 x), fun h => ⟨h d List.mem_cons_self, fun x hx => h x (List.mem_cons_of_mem _ hx)⟩⟩
theorem depths_iff {k : Nat} : ∀ ds : List PyData, PyData.depthAll ds ≤ k ↔ ∀ d ∈ ds, d.depth ≤ k
  | [] => ⟨fun _ _ z => (List.not_mem_nil z).elim, fun _ => by rw [PyData.depthAll]; exact Nat.zero_le _⟩
  | d :: ds => by
    rw [PyData.depthAll, Nat.max_le, depths_iff ds]
    exact ⟨fun h x hx => (List.mem_cons.mp hx).elim (fun e => e ▸ h.1) (h.2 x), fun h => ⟨h d List.mem_cons_self, fun x hx => h x (List.mem_cons_of_mem _ hx)⟩⟩
theorem wts_append : ∀ a b : List PyData, wts (a ++ b) = wts a + wts b
  | [], b => by simp [wts]
  | x :: a, b => by
    rw [List.cons_append, wts, wts, wts_append a b]
    omega
theorem wts_mem : ∀ {ds : List PyData} {d : PyData}, d ∈ ds → wt d + 2 ≤ wts ds
  | x :: ds, d, h => by
    rw [wts]
    rcases List.mem_cons.mp h with rfl | h
    · omega
    · have := wts_mem h
      omega
theorem wts_take (ds : List PyData) (n : Nat) : wts (ds.take n) + wts (ds.drop n) = wts ds := by
  rw [← wts_append, List.take_append_drop]
theorem wts_len : ∀ ds : List PyData, 2 * ds.length ≤ wts ds
  | [] => Nat.le_refl _
  | d :: ds => by
    rw [wts, List.length_cons]
    have := wts_len ds
    omega
theorem wts_rev : ∀ ds : List PyData, wts ds.reverse = wts ds
  | [] => rfl
  | d :: ds => by
    rw [List.reverse_cons, wts_append, wts_rev ds, wts, wts, wts]
    omega
/-- data of a weight up to S and a depth up to k -/
structure Ok (S k : Nat) (d : PyData) : Prop where
  fi : fine d = true
  wt : wt d ≤ S
  dp : d.depth ≤ k
structure Oks (S k : Nat) (ds : List PyData) : Prop where
  fi : ∀ d ∈ ds, fine d = true
  wt : wts ds ≤ S
  dp : ∀ d ∈ ds, d.depth ≤ k
theorem Ok.mono {S k S' k' : Nat} {d : PyData} (h : Ok S k d) (a : S ≤ S') (b : k ≤ k') : Ok S' k' d := ⟨h.fi, Nat.le_trans h.wt a, Nat.le_trans h.dp b⟩
theorem Oks.mono {S k S' k' : Nat} {d : List PyData} (h : Oks S k d) (a : S ≤ S') (b : k ≤ k') : Oks S' k' d := ⟨h.fi, Nat.le_trans h.wt a, fun x hx => Nat.le_trans (h.dp x hx) b⟩
theorem Oks.tuple {S k : Nat} {ds : List PyData} (h : Oks S k ds) : Ok (S + 4) (k + 1) (.tuple ds) :=
  ⟨(fines_iff ds).mpr h.fi, by show 4 + wts ds ≤ S + 4; have := h.wt; omega, by rw [PyData.depth]; exact Nat.succ_le_succ ((depths_iff ds).mpr h.dp)⟩
theorem Oks.list {S k : Nat} {ds : List PyData} (h : Oks S k ds) : Ok (S + 4) (k + 1) (.list ds) :=
  ⟨(fines_iff ds).mpr h.fi, by show 4 + wts ds ≤ S + 4; have := h.wt; omega, by rw [PyData.depth]; exact Nat.succ_le_succ ((depths_iff ds).mpr h.dp)⟩
theorem Ok.items {S k : Nat} {ds : List PyData} (h : Ok S k (.tuple ds)) : Oks (S - 4) (k - 1) ds := by
  obtain ⟨h1, h2, h3⟩ := h
  rw [PyData.depth] at h3
  rw [Lb.wt] at h2
  exact ⟨(fines_iff ds).mp h1, by omega, (depths_iff ds).mp (by omega)⟩
theorem Oks.append {S T k : Nat} {a b : List PyData} (h : Oks S k a) (g : Oks T k b) : Oks (S + T) k (a ++ b) :=
  ⟨fun d hd => (List.mem_append.mp hd).elim (h.fi d) (g.fi d), by rw [wts_append]; have := h.wt; have := g.wt; omega, fun d hd => (List.mem_append.mp hd).elim (h.dp d) (g.dp d)⟩
theorem Oks.take {S k : Nat} {a : List PyData} (h : Oks S k a) (n : Nat) : Oks S k (a.take n) :=
  ⟨fun d hd => h.fi d (List.mem_of_mem_take hd), by have := wts_take a n; have := h.wt; omega, fun d hd => h.dp d (List.mem_of_mem_take hd)⟩
theorem Oks.drop {S k : Nat} {a : List PyData} (h : Oks S k a) (n : Nat) : Oks S k (a.drop n) :=
  ⟨fun d hd => h.fi d (List.mem_of_mem_drop hd), by have := wts_take a n; have := h.wt; omega, fun d hd => h.dp d (List.mem_of_mem_drop hd)⟩
theorem Oks.reverse {S k : Nat} {a : List PyData} (h : Oks S k a) : Oks S k a.reverse :=
  ⟨fun d hd => h.fi d (List.mem_reverse.mp hd), by rw [wts_rev]; exact h.wt, fun d hd => h.dp d (List.mem_reverse.mp hd)⟩
theorem Oks.one {S k : Nat} {d : PyData} (h : Ok S k d) : Oks (S + 2) k [d] :=
  ⟨fun x hx => by rw [List.mem_singleton.mp hx]; exact h.fi, by rw [wts, wts]; have := h.wt; omega, fun x hx => by rw [List.mem_singleton.mp hx]; exact h.dp⟩
theorem Oks.mem {S k : Nat} {a : List PyData} (h : Oks S k a) {d : PyData} (m : d ∈ a) : Ok S k d := ⟨h.fi d m, by have := wts_mem m; have := h.wt; omega, h.dp d m⟩
theorem Ok.shown {S k : Nat} {d : PyData} (h : Ok S k d) (hS : S ≤ 1000000) : d.shown.length ≤ sizeLine := by
  have h1 := shown_le d h.fi
  have h2 := h.wt
  rw [sizeLine_eq]
  omega
/-! ### xs == [] -/
def rEqE : R2 := fun x y H Q => ∃ (a b : Addr) (xs : List V), x = .ref a ∧ y = .ref b ∧ H a = some (.lst xs) ∧ H b = some (.lst []) ∧ Q (.bl xs.isEmpty) H
theorem op_eqE {X : Cx} (hu : X.A.units < cLine) : OpR X (compareOp .Eq) rEqE := by
  intro pins s σ H x y v u Q I rx ry h
  obtain ⟨a, b, xs, rfl, rfl, ea, eb, q⟩ := h
  cases rx
  cases ry
  obtain ⟨its, r, p, _⟩ := I.list (.inl (.inl ea))
  obtain ⟨its2, r2, p2, _⟩ := I.list (.inl (.inl eb))
  cases r2
  cases r with
  | nil => exact SeqAt.eq_listAt (e := fun _ => true) p.isList p2.isList rfl hu (fun j h1 _ => absurd h1 (Nat.not_lt_zero j)) ⟨.bl true, H, I, rfl, q⟩
  | cons r1 rr => exact SeqAt.eq_list_lengthsAt p.isList p2.isList rfl hu ⟨.bl false, H, I, rfl, q⟩
def rNeE : R2 := fun x y H Q => ∃ (a b : Addr) (ns : List Int), x = .ref a ∧ y = .ref b ∧ H a = some (.lst (ns.map V.int)) ∧ H b = some (.lst []) ∧ Q (.bl (!ns.isEmpty)) H
theorem dp_ints {K : PySem.W.Frag} {H : Hp} : ∀ ns : List Int, DpAll K H (ns.map V.int) (ns.map PyData.int)
  | [] => .nil
  | n :: ns => .cons (.int n) (dp_ints ns)
theorem lay_ints : ∀ ns : List Int, PyData.canLayAll0 (ns.map PyData.int) = true
  | [] => by
    rw [List.map_nil, PyData.canLayAll0]
  | n :: ns => by
    rw [List.map_cons, PyData.canLayAll0, lay_ints ns, PyData.canLay0]
    rfl
theorem shaped_ints (ns : List Int) : SeqAt.shaped (.list (ns.map PyData.int)) = true := by
  unfold SeqAt.shaped
  rw [PyData.canLay0, lay_ints, PyData.depth, depth_ints]
  rfl
theorem op_neE {X : Cx} (hu : X.A.units + 64 < cLine) : OpR X (compareOp .NotEq) rNeE := by
  intro pins s σ H x y v u Q I rx ry h
  obtain ⟨a, b, ns, rfl, rfl, ea, eb, q⟩ := h
  refine op_neD hu pins s σ H _ _ v u Q I rx ry ⟨.list (ns.map PyData.int), .list [], .lst (SqL.of ea) (dp_ints ns), .lst (SqL.of eb) .nil, shaped_ints ns, shaped_ints [], ?_⟩
  cases ns with
  | nil =>
    rw [List.map_nil, PyData.eqv, PyData.eqvAll]
    exact q
  | cons n ns =>
    rw [List.map_cons, PyData.eqv, PyData.eqvAll]
    exact q
end Lb
set_option Elab.async false
set_option linter.all false
set_option maxRecDepth 100000
set_option maxHeartbeats 4000000
namespace Lb
open PySem PySem.Spec PyProof.Rows L2 RZ
/-! ### zip of three tuples -/
end Lb
set_option Elab.async false
set_option linter.all false
set_option maxRecDepth 100000
set_option maxHeartbeats 4000000
namespace Lb
open PySem PySem.Spec PyProof.Rows L2 RZ
section
variable {P : Program} {w : World} {K : PySem.W.Frag} {mg : Str → Option Value} {base : Heap}
def spDraw : Sp := fun vs H Q _ => ∃ (d c r : Addr) (n m : Nat), vs = [.ref d, .int (m : Int)] ∧ Dk H d c r n ∧ n < 2 ^ 40 ∧ 0 < m ∧ m < 1000000 ∧ ∀ (H' : Hp) (v : Nat), v < m → Dk H' d c r (n + 1) → Kp d r H H' → Q (.int (v : Int)) H'
def spDeck (K : PySem.W.Frag) : Sp := fun vs H Q _ => ∃ (a : Addr) (ns : List Int), vs = [.ref a] ∧ SqL K H a (ns.map V.int) ∧ ns.length ≤ 63 ∧ ∀ (H' : Hp) (d c r : Addr), Same H H' → H d = none → H c = none → H r = none → Dk H' d c r 0 → Q (.ref d) H'
theorem cut63 (ns : List Int) (h : ns.length ≤ 63) : cutV (ns.map V.int) none (some 63) = ns.map V.int := by
  unfold cutV
  rw [HT.sIx_none, show HT.sIx (ns.map V.int).length (ns.map V.int).length (some 63) = min 63 (ns.map V.int).length from HT.sIx_nat _ _ 63]
  rw [List.drop_zero]
  refine List.take_of_length_le ?_
  rw [List.length_map]
  omega
def spOne : Sp := fun vs H Q _ => ∃ (d c r l : Addr) (n : Nat) (xs : List V), vs = [.ref d, .ref l] ∧ Dk H d c r n ∧ n < 2 ^ 40 ∧ H l = some (.lst xs) ∧ l ≠ d ∧ l ≠ r ∧ 0 < xs.length ∧ xs.length ≤ 1000 ∧
  ∀ (H' : Hp) (v : Nat) (x : V), xs[v]? = some x → Dk H' d c r (n + 1) → Kp d r H H' → Q x H'
def spPlus (K : PySem.W.Frag) : Sp := fun vs H Q _ => ∃ (a b : Addr) (x y : List Int), vs = [.ref a, .ref b] ∧ SqT K H a (x.map V.int) ∧ SqT K H b (y.map V.int) ∧ x.length = y.length ∧ x.length ≤ 1000 ∧
  ∀ (H' : Hp) (p : Addr), Same H H' → H p = none → H' p = some (.tup ((List.zipWith (· + ·) x y).map V.int)) → Q (.ref p) H'
theorem same_tup {K : PySem.W.Frag} {H H' : Hp} {a : Addr} {xs : List V} (e : Same H H') (h : SqT K H a xs) : SqT K H' a xs := by
  rcases h with (h | ⟨o, h⟩) | h
  · exact .inl (.inl (e _ _ h))
  · exact .inl (.inr ⟨o, e _ _ h⟩)
  · exact .inr h
def spSide : Sp := fun vs H Q _ => ∃ (d c r : Addr) (n g m : Nat), vs = [.ref d, .int (g : Int), .int (m : Int)] ∧ Dk H d c r n ∧ n < 2 ^ 39 ∧ 0 < g ∧ g ≤ 1000 ∧ m ≤ 1000 ∧
  ∀ (H' : Hp) (p : Addr) (b : List Int), Side g m b → H p = none → H' p = some (.tup (b.map V.int)) → Dk H' d c r (n + 1 + m) → Kp d r H H' → Q (.ref p) H'
theorem kp_free {H H' : Hp} {d c r : Addr} {n : Nat} (k : Kp d r H H') (dk : Dk H' d c r n) {p : Addr} (e : H' p = none) : H p = none := by
  cases q : H p with
  | none => rfl
  | some o =>
    have := dk.nd e
    rw [k _ _ this.1 this.2.1 q] at e
    cases e
def spTrade : Sp := fun vs H Q _ => ∃ (R : Rgn) (d c r : Addr) (n g m : Nat), vs = [.ref d, .int (g : Int), .int (m : Int)] ∧ Dk H d c r n ∧ n < 2 ^ 38 ∧ 0 < g ∧ g ≤ 100 ∧ m ≤ 4 ∧ Rg R H d r ∧
  ∀ (H' : Hp) (v : V) (t : Trd), TrdOk g m t → Dat R H' v (trdD t) → Dk H' d c r (n + 20) → Kp d r H H' → Q v H'
theorem two_sides {D : Ends} {σ : L2.St} {H : Hp} {d c r : Addr} {n g m : Nat} {R : Rgn} (h0 : σ[0]? = some (some (.ref d))) (h1 : σ[1]? = some (some (.int (g : Int)))) (h2 : σ[2]? = some (some (.int (m : Int))))
    (dk : Dk H d c r n) (hn : n < 2 ^ 38 + 1) (hg : 0 < g) (hg2 : g ≤ 100) (hm : m ≤ 4) (rg : Rg R H d r)
    (q : ∀ (H' : Hp) (v : V) (t : Trd), TrdOk g m t → Dat R H' v (trdD t) → Dk H' d c r (n + 10) → Kp d r H H' → D.rt v H') :
    tRet (tTup (tCons (tCall spSide [] E0 (tCons (tVar 0) (tCons (tVar 1) (tCons (tVar 2) tNil)))) (tCons (tCall spSide [] E0 (tCons (tVar 0) (tCons (tVar 1) (tCons (tVar 2) tNil)))) tNil))) D σ H := by
  refine ⟨_, h0, _, h1, _, h2, d, c, r, n, g, m, rfl, dk, by omega, hg, by omega, by omega, fun H1 p1 b1 sd1 f1 e1 dk1 k1 => ?_⟩
  refine ⟨_, h0, _, h1, _, h2, d, c, r, n + 1 + m, g, m, rfl, dk1, by omega, hg, by omega, by omega, fun H2 p2 b2 sd2 f2 e2 dk2 k2 => ?_⟩
  have nd := dk.nd f1
  have e1' := k2 _ _ nd.1 nd.2.1 e1
  refine ⟨(by show 2 ≤ sizeLine; decide), fun p3 z3 => ?_⟩
  have rg2 := (rg.kp k1 dk1).kp k2 dk2
  have sm := same_upd (o := .tup [V.ref p1, V.ref p2]) z3
  refine q _ _ (b1, b2) ⟨sd1, sd2⟩ (.tup (rg2.new _ z3) upd_same (.cons (Dat.mkBag (rg.new _ f1) (sm _ _ e1')) (.cons (Dat.mkBag ((rg.kp k1 dk1).new _ f2) (sm _ _ e2)) .nil))) ((dk2.same sm).mono (by omega)) ((k1.trans k2).trans (Kp.of sm))
def besideL (g : Nat) (at_ : Nat) (many : Int) : List Int := (List.range g).map fun (k : Nat) => many * (if decide (V.int ((0 : Int) + (k : Int)) = V.int (at_ : Int)) = true then 1 else 0)
theorem beside_mem {g a : Nat} {m : Int} (hm : 0 ≤ m) : ∀ x ∈ besideL g a m, 0 ≤ x ∧ x ≤ m := by
  intro x hx
  obtain ⟨k, _, rfl⟩ := List.mem_map.mp hx
  by_cases h : V.int ((0 : Int) + (k : Int)) = V.int (a : Int)
  · rw [decide_eq_true h, if_pos rfl]
    omega
  · rw [decide_eq_false h, if_neg Bool.false_ne_true]
    omega
theorem beside_sum {a : Nat} {m : Int} (hm : 0 ≤ m) : ∀ g : Nat, (besideL g a m).sum = if a < g then m else 0
  | 0 => by
    rw [if_neg (Nat.not_lt_zero _)]
    rfl
  | g + 1 => by
    unfold besideL
    rw [List.range_succ, List.map_append, List.sum_append]
    have ih := beside_sum hm g (a := a)
    unfold besideL at ih
    rw [ih, List.map_singleton, List.sum_cons, List.sum_nil]
    by_cases h : a = g
    · subst h
      rw [if_neg (Nat.lt_irrefl _), if_pos (Nat.lt_succ_self _), decide_eq_true (by simp), if_pos rfl]
      omega
    · rw [decide_eq_false (fun z => h (by have := V.int.inj z; omega)), if_neg Bool.false_ne_true]
      by_cases h2 : a < g
      · rw [if_pos h2, if_pos (by omega)]
        omega
      · rw [if_neg h2, if_neg (by omega)]
        omega
theorem beside_len (g a : Nat) (m : Int) : (besideL g a m).length = g := by
  unfold besideL
  rw [List.length_map, List.length_range]
theorem side_plus {g k a : Nat} {m : Int} {b : List Int} (s : Side g k b) (h1 : 0 ≤ m) (h2 : (k : Int) + m ≤ 3) : Side g 3 (List.zipWith (· + ·) b (besideL g a m)) := by
  have nn : ∀ x ∈ b, 0 ≤ x := fun x hx => (s.amt x hx).1
  refine ⟨?_, fun z hz => ?_, ?_⟩
  · rw [List.length_zipWith, s.len, beside_len, Nat.min_self]
  · obtain ⟨x, hx, y, hy, rfl⟩ := mem_zip hz
    have a1 := le_sum nn x hx
    have a2 := s.tot
    have a3 := beside_mem h1 y hy
    have a4 := nn x hx
    omega
  · rw [sum_zip (by rw [s.len, beside_len]), beside_sum h1]
    have a2 := s.tot
    split <;> omega
theorem side_beside {g a : Nat} {m : Int} (h1 : 0 ≤ m) (h2 : m ≤ 3) : Side g 3 (besideL g a m) := by
  refine ⟨beside_len _ _ _, fun x hx => ?_, ?_⟩
  · have := beside_mem h1 x hx
    omega
  · rw [beside_sum h1]
    split <;> omega
def wo (R : Rgn) (D : Addr) : Rgn := fun b => R b ∧ b ≠ D
theorem wo_on {R : Rgn} {D : Addr} {H : Hp} {o : HO} : On (wo R D) H (upd H D o) := fun b u hb e => by
  rw [upd_ne hb.2]
  exact e
theorem wo_rg {R : Rgn} {H : Hp} {d r D : Addr} {o : HO} (g : Rg R H d r) (e : H D = some o) : Rg (wo R D) H d r := ⟨fun z => g.nd z.1, fun z => g.nr z.1, fun p hp => ⟨g.new p hp, (ne_of_none e hp).symm⟩⟩
def spMarket : Sp := fun vs H Q _ => ∃ (R : Rgn) (d c r : Addr) (n g tr m : Nat), vs = [.ref d, .int (g : Int), .int (tr : Int), .int (m : Int)] ∧ Dk H d c r n ∧ n < 2 ^ 37 ∧ 0 < g ∧ g ≤ 100 ∧ tr ≤ 4 ∧ m ≤ 4 ∧ Rg R H d r ∧
  ∀ (H' : Hp) (v : V) (ts : List Trd), ts.length ≤ tr → (∀ t ∈ ts, TrdOk g m t) → Dat R H' v (mktD g ts) → Dk H' d c r (n + 100) → Kp d r H H' → Q v H'
def tyOf : PyData → String
  | .none => "NoneType"
  | .bool _ => "bool"
  | .int _ => "int"
  | .str _ => "str"
  | .list _ => "list"
  | .tuple _ => "tuple"
  | .dict _ => "dict"
def isTup : PyData → Bool
  | .tuple _ => true
  | _ => false
def isInt : PyData → Bool
  | .int _ => true
  | .bool _ => true
  | _ => false
def isBool : PyData → Bool
  | .bool _ => true
  | _ => false
theorem dat_ty {K : PySem.W.Frag} {R : Rgn} {H : Hp} {v : V} {d : PyData} (h : Dat R H v d) : TyX K H v (.type (tyOf d)) := by
  cases h with
  | non => exact .base .non
  | bl b => exact .base (.bl b)
  | int i => exact .base (.int i)
  | str x => exact .base (.str x)
  | tup ra e t => exact .base (.tup e)
  | lst ra e t => exact .base (.lst e)
  | emp ra e => exact .base (.dK e)
theorem kit_tup : ∀ d : PyData, kitB (tyOf d) "tuple" = some (isTup d)
  | .none => (by decide +kernel : kitB "NoneType" "tuple" = some false)
  | .bool _ => (by decide +kernel : kitB "bool" "tuple" = some false)
  | .int _ => (by decide +kernel : kitB "int" "tuple" = some false)
  | .str _ => (by decide +kernel : kitB "str" "tuple" = some false)
  | .list _ => (by decide +kernel : kitB "list" "tuple" = some false)
  | .tuple _ => (by decide +kernel : kitB "tuple" "tuple" = some true)
  | .dict _ => (by decide +kernel : kitB "dict" "tuple" = some false)
theorem kit_int : ∀ d : PyData, kitB (tyOf d) "int" = some (isInt d)
  | .none => (by decide +kernel : kitB "NoneType" "int" = some false)
  | .bool _ => (by decide +kernel : kitB "bool" "int" = some true)
  | .int _ => (by decide +kernel : kitB "int" "int" = some true)
  | .str _ => (by decide +kernel : kitB "str" "int" = some false)
  | .list _ => (by decide +kernel : kitB "list" "int" = some false)
  | .tuple _ => (by decide +kernel : kitB "tuple" "int" = some false)
  | .dict _ => (by decide +kernel : kitB "dict" "int" = some false)
theorem kit_bool : ∀ d : PyData, kitB (tyOf d) "bool" = some (isBool d)
  | .none => (by decide +kernel : kitB "NoneType" "bool" = some false)
  | .bool _ => (by decide +kernel : kitB "bool" "bool" = some true)
  | .int _ => (by decide +kernel : kitB "int" "bool" = some false)
  | .str _ => (by decide +kernel : kitB "str" "bool" = some false)
  | .list _ => (by decide +kernel : kitB "list" "bool" = some false)
  | .tuple _ => (by decide +kernel : kitB "tuple" "bool" = some false)
  | .dict _ => (by decide +kernel : kitB "dict" "bool" = some false)
def whole : PyData → Bool
  | .int _ => true
  | _ => false
theorem whole_eq (d : PyData) : whole d = (isInt d && !isBool d) := by cases d <;> rfl
def nn : PyData → Bool
  | .int i => decide (0 ≤ i)
  | _ => false
def bagB (g : Int) : PyData → Bool
  | .tuple ds => decide ((ds.length : Int) = g) && ds.all nn
  | _ => false
theorem bagB_tup (g : Int) (ds : List PyData) : bagB g (.tuple ds) = (decide ((ds.length : Int) = g) && ds.all nn) := rfl
def pairB : PyData → Bool
  | .tuple ds => decide (ds.length = 2)
  | _ => false
def intsOf : PyData → List Int
  | .tuple ds => ds.map fun | .int i => i | _ => 0
  | _ => []
def tw (g : Int) : PyData → Option Str
  | .tuple [x, y] =>
    if (bagB g x && bagB g y) = true then
      (if ((intsOf x).any (fun i => decide (3 < i)) || (intsOf y).any (fun i => decide (3 < i))) = true then some ("amount" : Str) else if (decide (4 < (intsOf x).sum) || decide (4 < (intsOf y).sum)) = true then some ("total" : Str) else none)
    else some ("trade" : Str)
  | _ => some ("trade" : Str)
def wordV : Option Str → V
  | some w => .str w
  | none => .non
def scan (g : Int) : List PyData → Nat → PyData
  | [], _ => .none
  | t :: ts, k => match tw g t with
    | some w => .tuple [.int (k : Int), .str w]
    | none => scan g ts (k + 1)
def errD (w : Str) : PyData := .tuple [.none, .str w]
def mErr : PyData → PyData
  | .tuple [.int g, .tuple ts] => if 1 ≤ g ∧ g ≤ 4 then (if ts.length ≤ 4 then scan g ts 0 else errD "many") else errD "goods"
  | .tuple [.int g, _] => if 1 ≤ g ∧ g ≤ 4 then errD "trades" else errD "goods"
  | .tuple [_, _] => errD "goods"
  | _ => errD "market"
theorem bag_ints {g : Int} {d : PyData} (h : bagB g d = true) : ∃ ns : List Int, d = bagD ns ∧ (ns.length : Int) = g ∧ (∀ n ∈ ns, 0 ≤ n) ∧ intsOf d = ns := by
  cases d with
  | tuple ds =>
    unfold bagB at h
    rw [Bool.and_eq_true] at h
    have hl : (ds.length : Int) = g := of_decide_eq_true h.1
    have key : ∀ ds : List PyData, ds.all nn = true → ∃ ns : List Int, ds = ns.map PyData.int ∧ (∀ n ∈ ns, 0 ≤ n) := by
      intro ds
      induction ds with
      | nil => exact fun _ => ⟨[], rfl, fun _ z => (List.not_mem_nil z).elim⟩
      | cons d ds ih =>
        intro h
        rw [List.all_cons, Bool.and_eq_true] at h
        obtain ⟨ns, rfl, hn⟩ := ih h.2
        cases d with
        | int i =>
          refine ⟨i :: ns, rfl, fun n hn' => ?_⟩
          rcases List.mem_cons.mp hn' with rfl | hn'
          · exact of_decide_eq_true h.1
          · exact hn n hn'
        | _ => exact absurd h.1 Bool.false_ne_true
    obtain ⟨ns, rfl, hn⟩ := key ds h.2
    refine ⟨ns, rfl, by rw [List.length_map] at hl; exact hl, hn, ?_⟩
    show (ns.map PyData.int).map _ = ns
    rw [List.map_map]
    exact List.map_id _
  | _ => exact absurd h Bool.false_ne_true
def spWhole : Sp := fun vs H Q _ => ∃ (R : Rgn) (v : V) (d : PyData), vs = [v] ∧ Dat R H v d ∧ Q (.bl (whole d)) H
def spPair : Sp := fun vs H Q _ => ∃ (R : Rgn) (v : V) (d : PyData), vs = [v] ∧ Dat R H v d ∧ Q (.bl (pairB d)) H
def spIsBag : Sp := fun vs H Q _ => ∃ (R : Rgn) (v : V) (g : Int) (d : PyData), vs = [.int g, v] ∧ Dat R H v d ∧ wt d ≤ 1000000 ∧ ∀ H', Same H H' → Q (.bl (bagB g d)) H'
theorem take_map {α β : Type} {f : α → β} {l : List α} {i : Nat} {x : α} (h : l[i]? = some x) : (l.take (i + 1)).map f = (l.take i).map f ++ [f x] := by
  rw [List.take_add_one, h, List.map_append]
  rfl
def spFault : Sp := fun vs H Q _ => ∃ (R : Rgn) (v : V) (g : Int) (d : PyData), vs = [.int g, v] ∧ 1 ≤ g ∧ Dat R H v d ∧ wt d ≤ 1000000 ∧ ∀ H', Same H H' → Q (wordV (tw g d)) H'
theorem pair_shape {d : PyData} (h : pairB d = true) : ∃ x y, d = .tuple [x, y] := by
  cases d with
  | tuple ds =>
    have : ds.length = 2 := of_decide_eq_true h
    match ds, this with
    | [x, y], _ => exact ⟨x, y, rfl⟩
  | _ => exact absurd h Bool.false_ne_true
theorem not_pair {d : PyData} (h : pairB d = false) {x y : PyData} : d ≠ .tuple [x, y] := by
  rintro rfl
  exact absurd (show pairB (.tuple [x, y]) = true from rfl) (by rw [h]; exact Bool.false_ne_true)
theorem tw_not {g : Int} {d : PyData} (h : pairB d = false) : tw g d = some ("trade" : Str) := by
  unfold tw
  split
  · exact absurd rfl (not_pair h)
  · rfl
theorem tw_pair (g : Int) (x y : PyData) : tw g (.tuple [x, y]) = if (bagB g x && bagB g y) = true then
      (if ((intsOf x).any (fun i => decide (3 < i)) || (intsOf y).any (fun i => decide (3 < i))) = true then some ("amount" : Str) else if (decide (4 < (intsOf x).sum) || decide (4 < (intsOf y).sum)) = true then some ("total" : Str) else none)
    else some ("trade" : Str) := rfl
theorem max_any {ns : List Int} {m : Int} (h1 : m ∈ ns) (h2 : ∀ y ∈ ns, y ≤ m) : decide (3 < m) = ns.any (fun i => decide (3 < i)) := by
  by_cases h : 3 < m
  · rw [decide_eq_true h]
    exact (List.any_eq_true.mpr ⟨m, h1, decide_eq_true h⟩).symm
  · rw [decide_eq_false h]
    refine (List.any_eq_false.mpr fun y hy z => ?_).symm
    have := of_decide_eq_true z
    have := h2 y hy
    omega
def spErr : Sp := fun vs H Q _ => ∃ (R : Rgn) (v : V) (d : PyData), vs = [v] ∧ Dat R H v d ∧ wt d ≤ 1000000 ∧ (∀ p, H p = none → R p) ∧ ∀ (H' : Hp) (u : V), Same H H' → Dat R H' u (mErr d) → Q u H'
theorem err_not {d : PyData} (h : pairB d = false) : mErr d = errD "market" := by
  unfold mErr
  split
  · exact absurd rfl (not_pair h)
  · exact absurd rfl (not_pair h)
  · exact absurd rfl (not_pair h)
  · rfl
theorem err_goods {x y : PyData} (h : whole x = false) : mErr (.tuple [x, y]) = errD "goods" := by
  cases x with
  | int g => exact absurd (show true = false from h) (by decide)
  | _ => rfl
theorem err_range {g : Int} {y : PyData} (h : ¬ (1 ≤ g ∧ g ≤ 4)) : mErr (.tuple [.int g, y]) = errD "goods" := by
  cases y with
  | tuple ts => exact if_neg h
  | _ => exact if_neg h
theorem err_trades {g : Int} {y : PyData} (h : 1 ≤ g ∧ g ≤ 4) (hy : isTup y = false) : mErr (.tuple [.int g, y]) = errD "trades" := by
  cases y with
  | tuple ts => exact absurd (show true = false from hy) (by decide)
  | _ => exact if_pos h
theorem err_many {g : Int} {ts : List PyData} (h : 1 ≤ g ∧ g ≤ 4) (hl : ¬ ts.length ≤ 4) : mErr (.tuple [.int g, .tuple ts]) = errD "many" := by
  show (if 1 ≤ g ∧ g ≤ 4 then (if ts.length ≤ 4 then scan g ts 0 else errD "many") else errD "goods") = _
  rw [if_pos h, if_neg hl]
theorem err_scan {g : Int} {ts : List PyData} (h : 1 ≤ g ∧ g ≤ 4) (hl : ts.length ≤ 4) : mErr (.tuple [.int g, .tuple ts]) = scan g ts 0 := by
  show (if 1 ≤ g ∧ g ≤ 4 then (if ts.length ≤ 4 then scan g ts 0 else errD "many") else errD "goods") = _
  rw [if_pos h, if_pos hl]
theorem scan_cons (g : Int) (t : PyData) (ts : List PyData) (k : Nat) : scan g (t :: ts) k = match tw g t with
    | some w => .tuple [.int (k : Int), .str w]
    | none => scan g ts (k + 1) := rfl
theorem drop_at {α : Type} {l : List α} {i : Nat} {x : α} (h : l[i]? = some x) : l.drop i = x :: l.drop (i + 1) := by
  obtain ⟨hi, e⟩ := List.getElem?_eq_some_iff.mp h
  rw [List.drop_eq_getElem_cons hi, e]
theorem new_err {R : Rgn} {H : Hp} {p : Addr} (w : Str) (hp : H p = none) (r : R p) : Dat R (upd H p (.tup [.non, .str w])) (.ref p) (errD w) := .tup r upd_same (.cons .non (.cons (.str w) .nil))
theorem tup_at0 {H : Hp} {a : Addr} {x y : V} {K : PySem.W.Frag} (e : H a = some (.tup [x, y])) : SqT K H a [x, y] := .inl (.inl e)
theorem rd_cat {K : PySem.W.Frag} {R : Rgn} {H : Hp} {a b : Addr} {xs ys : List V} {Q : VK} (ra : R a) (rb : R b) (ea : H a = some (.tup xs)) (eb : H b = some (.tup ys)) (hz : xs.length + ys.length ≤ 1000000) (new : ∀ p, H p = none → R p)
    (q : ∀ (H' : Hp) (p : Addr), Same H H' → R p → H' p = some (.tup (xs ++ ys)) → Q (.ref p) H') : rCatA K (.ref a) (.ref b) H Q := by
  refine ⟨a, b, xs, ys, rfl, rfl, .inl (.inl ea), .inl (.inl eb), by rw [sizeLine_eq]; omega, fun h => ?_, fun h h2 => ?_, fun h h2 p hp => ?_⟩
  · exact q H b (Same.refl H) rb (by rw [eb, h]; rfl)
  · exact q H a (Same.refl H) ra (by rw [ea, h2, List.append_nil])
  · exact q _ p (same_upd hp) (new p hp) upd_same
theorem np {σ : L2.St} {H : Hp} {Q : Option Int → Hp → Prop} (h : Q none H) : tNoPart σ H Q := h
end
end Lb
set_option Elab.async false
set_option linter.all false
set_option maxRecDepth 100000
set_option maxHeartbeats 4000000
namespace Lb
open PySem PySem.Spec PyProof.Rows L2 RZ
/-! ### values of which only the size is known -/
def Vd (R : Rgn) (H : Hp) (S D : Nat) (v : V) : Prop := ∃ x, Dat R H v x ∧ Ok S D x
def Pk (R : Rgn) (H : Hp) (S D : Nat) (vs : List V) : Prop := ∃ ds, Dats R H vs ds ∧ Oks S D ds
structure Tp (R : Rgn) (H : Hp) (S D : Nat) (a : Addr) (xs : List V) : Prop where
  ra : R a
  at_ : H a = some (.tup xs)
  pk : Pk R H S D xs
section
variable {R : Rgn} {H H' : Hp} {S T D : Nat} {v : V} {a b p : Addr} {xs ys vs : List V} {K : PySem.W.Frag} {Q : VK}
theorem Vd.on (h : Vd R H S D v) (k : On R H H') : Vd R H' S D v := let ⟨x, d, o⟩ := h; ⟨x, d.on k, o⟩
theorem Vd.same (h : Vd R H S D v) (k : Same H H') : Vd R H' S D v := h.on (On.of k)
theorem Vd.mono {S' D' : Nat} (h : Vd R H S D v) (a : S ≤ S') (b : D ≤ D') : Vd R H S' D' v := let ⟨x, d, o⟩ := h; ⟨x, d, o.mono a b⟩
theorem Pk.on (h : Pk R H S D vs) (k : On R H H') : Pk R H' S D vs := let ⟨x, d, o⟩ := h; ⟨x, d.on k, o⟩
theorem Pk.same (h : Pk R H S D vs) (k : Same H H') : Pk R H' S D vs := h.on (On.of k)
theorem Pk.mono {S' D' : Nat} (h : Pk R H S D vs) (a : S ≤ S') (b : D ≤ D') : Pk R H S' D' vs := let ⟨x, d, o⟩ := h; ⟨x, d, o.mono a b⟩
theorem Pk.nil : Pk R H 0 D [] := ⟨[], .nil, (fun _ z => (List.not_mem_nil z).elim), Nat.le_refl _, (fun _ z => (List.not_mem_nil z).elim)⟩
theorem Pk.cons (h : Vd R H S D v) (t : Pk R H T D vs) : Pk R H (S + 2 + T) D (v :: vs) := by
  obtain ⟨x, d, o⟩ := h
  obtain ⟨ds, ts, os⟩ := t
  refine ⟨x :: ds, .cons d ts, ?_⟩
  have := (Oks.one o).append os
  exact this
theorem Pk.append (h : Pk R H S D xs) (t : Pk R H T D ys) : Pk R H (S + T) D (xs ++ ys) := by
  obtain ⟨ds, d, o⟩ := h
  obtain ⟨es, e, o2⟩ := t
  exact ⟨ds ++ es, d.append e, o.append o2⟩
theorem Pk.take (h : Pk R H S D xs) (n : Nat) : Pk R H S D (xs.take n) := let ⟨ds, d, o⟩ := h; ⟨ds.take n, d.take n, o.take n⟩
theorem Pk.drop (h : Pk R H S D xs) (n : Nat) : Pk R H S D (xs.drop n) := let ⟨ds, d, o⟩ := h; ⟨ds.drop n, d.drop n, o.drop n⟩
theorem Pk.len (h : Pk R H S D xs) : 2 * xs.length ≤ S := by
  obtain ⟨ds, d, o⟩ := h
  rw [d.length]
  exact Nat.le_trans (wts_len ds) o.wt
theorem Pk.rep (h : Pk R H S D xs) : ∀ n : Nat, Pk R H (n * S) D (List.replicate n xs).flatten
  | 0 => by
    rw [Nat.zero_mul]
    exact Pk.nil
  | n + 1 => by
    rw [List.replicate_succ, List.flatten_cons, Nat.succ_mul, Nat.add_comm]
    exact h.append (Pk.rep h n)
theorem Pk.get (h : Pk R H S D xs) {i : Nat} (e : xs[i]? = some v) : Vd R H S D v := by
  obtain ⟨ds, d, o⟩ := h
  obtain ⟨x, hx, dx⟩ := d.get' e
  exact ⟨x, dx, o.mem (List.mem_of_getElem? hx)⟩
theorem Vd.int (i : Int) (h : decide ((PyData.int i).shown.length ≤ 12) = true) (h2 : decide (i.natAbs.log2 < 1920) = true) : Vd R H 12 D (.int i) := ⟨.int i, .int i, h2, of_decide_eq_true h, by rw [PyData.depth]; exact Nat.zero_le _⟩
theorem Vd.bl (b : Bool) : Vd R H 12 D (.bl b) := ⟨.bool b, .bl b, rfl, by show 5 ≤ 12; decide, by rw [PyData.depth]; exact Nat.zero_le _⟩
theorem Vd.non : Vd R H 12 D .non := ⟨.none, .non, rfl, by show 4 ≤ 12; decide, by rw [PyData.depth]; exact Nat.zero_le _⟩
theorem Vd.str (x : Str) (h : decide ((reprText x).length ≤ 12) = true) : Vd R H 12 D (.str x) := ⟨.str x, .str x, rfl, of_decide_eq_true h, by rw [PyData.depth]; exact Nat.zero_le _⟩
theorem Vd.nat {g : Nat} (h : g ≤ 9) : Vd R H 12 D (.int (g : Int)) := by
  match g, h with
  | 0, _ | 1, _ | 2, _ | 3, _ | 4, _ | 5, _ | 6, _ | 7, _ | 8, _ | 9, _ => exact Vd.int _ (by decide +kernel) (by decide +kernel)
theorem Tp.val (t : Tp R H S D a xs) : Vd R H (S + 4) (D + 1) (.ref a) := by
  obtain ⟨ds, d, o⟩ := t.pk
  exact ⟨.tuple ds, .tup t.ra t.at_ d, o.tuple⟩
theorem Tp.on (t : Tp R H S D a xs) (k : On R H H') : Tp R H' S D a xs := ⟨t.ra, k _ _ t.ra t.at_, t.pk.on k⟩
theorem Tp.same (t : Tp R H S D a xs) (k : Same H H') : Tp R H' S D a xs := t.on (On.of k)
theorem Tp.new (h : Pk R H S D xs) (n : H p = none) (r : R p) : Tp R (upd H p (.tup xs)) S D p xs := ⟨r, upd_same, h.same (same_upd n)⟩
end
/-! ### sizes of markets and of what is told -/
theorem wt_amt {x : Int} (h : 0 ≤ x ∧ x ≤ 3) : fine (.int x) = true ∧ wt (.int x) = 1 := by
  obtain ⟨n, rfl⟩ : ∃ n : Nat, x = (n : Int) := ⟨x.toNat, by omega⟩
  have : n ≤ 3 := by omega
  match n, this with
  | 0, _ | 1, _ | 2, _ | 3, _ => exact ⟨by decide +kernel, by decide +kernel⟩
theorem wts_bag : ∀ {b : List Int}, (∀ x ∈ b, 0 ≤ x ∧ x ≤ 3) → wts (b.map PyData.int) = 3 * b.length
  | [], _ => rfl
  | x :: b, h => by
    rw [List.map_cons, wts, (wt_amt (h x List.mem_cons_self)).2, wts_bag fun y hy => h y (List.mem_cons_of_mem _ hy), List.length_cons]
    omega
theorem bag_ok {g m : Nat} {b : List Int} (s : Side g m b) (hg : g ≤ 4) : Ok 16 1 (bagD b) := by
  refine ⟨(fines_iff _).mpr fun d hd => ?_, ?_, ?_⟩
  · obtain ⟨x, hx, rfl⟩ := List.mem_map.mp hd
    exact (wt_amt (s.amt x hx)).1
  · show 4 + wts (b.map PyData.int) ≤ 16
    rw [wts_bag s.amt, s.len]
    omega
  · rw [PyData.depth, depth_ints]
    exact Nat.le_refl _
theorem trd_ok {g m : Nat} {t : Trd} (h : TrdOk g m t) (hg : g ≤ 4) : Ok 40 2 (trdD t) :=
  ((Oks.one (bag_ok h.1 hg)).append (Oks.one (bag_ok h.2 hg))).tuple.mono (by omega) (by omega)
theorem trds_ok {g m : Nat} (hg : g ≤ 4) : ∀ {ts : List Trd}, (∀ t ∈ ts, TrdOk g m t) → Oks (42 * ts.length) 2 (ts.map trdD)
  | [], _ => ⟨(fun _ z => (List.not_mem_nil z).elim), Nat.le_refl _, (fun _ z => (List.not_mem_nil z).elim)⟩
  | t :: ts, h => by
    have h1 := trd_ok (h t List.mem_cons_self) hg
    have h2 := trds_ok hg (ts := ts) fun x hx => h x (List.mem_cons_of_mem _ hx)
    have := (Oks.one h1).append h2
    exact this.mono (by rw [List.length_cons]; omega) (Nat.le_refl _)
theorem nat_ok {g : Nat} (h : g ≤ 9) : Ok 12 0 (.int (g : Int)) := by
  refine ⟨?_, ?_, by rw [PyData.depth]; exact Nat.le_refl _⟩
  · match g, h with
    | 0, _ | 1, _ | 2, _ | 3, _ | 4, _ | 5, _ | 6, _ | 7, _ | 8, _ | 9, _ => decide +kernel
  · match g, h with
    | 0, _ | 1, _ | 2, _ | 3, _ | 4, _ | 5, _ | 6, _ | 7, _ | 8, _ | 9, _ => decide +kernel
end Lb
set_option Elab.async false
set_option linter.all false
set_option maxRecDepth 100000
set_option maxHeartbeats 4000000
namespace Lb
open PySem PySem.Spec PyProof.Rows L2 RZ
section
variable {P : Program} {w : World} {K : PySem.W.Frag} {mg : Str → Option Value} {base : Heap}
theorem upd_dk {H : Hp} {d c r L : Addr} {n : Nat} {o : HO} (dk : Dk H d c r n) (h1 : L ≠ d) (h2 : L ≠ r) (h3 : L ≠ c) : Dk (upd H L o) d c r n := by
  obtain ⟨t, cs, rs, g1, g2, g3, g4, g5, g6, g7, w1, w2, w3⟩ := dk
  exact ⟨t, cs, rs, g1, g2, g3, g4, g5, g6, g7, by rw [upd_ne h1.symm]; exact w1, by rw [upd_ne h3.symm]; exact w2, by rw [upd_ne h2.symm]; exact w3⟩
theorem ne_same {u : Str} {H : Hp} {Q : Bool → Hp → Prop} (h : Q false H) : rNe (.str u) (.str u) H fun x H' => ∃ k, x = .bl k ∧ Q k H' := ⟨rfl, false, by simp, h⟩
theorem iteF' {A B : Prop} (h : B) : if false = true then A else B := h
def R0 (d r : Addr) : Rgn := fun b => b ≠ d ∧ b ≠ r
theorem rg0 {H : Hp} {d c r : Addr} {n : Nat} (dk : Dk H d c r n) : Rg (R0 d r) H d r := ⟨fun z => z.1 rfl, fun z => z.2 rfl, fun p e => ⟨(dk.nd e).1, (dk.nd e).2.1⟩⟩
end
end Lb
set_option Elab.async false
set_option linter.all false
set_option maxRecDepth 100000
set_option maxHeartbeats 4000000
namespace Lb
open PySem PySem.Spec PyProof.Rows L2 RZ
/-! ### what a step leaves -/
def geB (x y : List Int) : Bool := (List.zipWith (fun a b => decide (a ≥ b)) x y).all id
abbrev minusL (x y : List Int) : List Int := List.zipWith (· - ·) x y
abbrev plusL (x y : List Int) : List Int := List.zipWith (· + ·) x y
def exch (x t p : List Int) : Option (List Int) := if geB x t = true then some (plusL (minusL x t) p) else none
def behind (ts : List Trd) (x : List Int) (k : Nat) (b : Bool) : Option (List Int) :=
  match ts[k]? with
  | none => none
  | some t => if b = true then exch x t.2 t.1 else exch x t.1 t.2
theorem zipW_take {α : Type} {f : Int → Int → α} : ∀ {a b : List Int} {i : Nat} {x y : Int}, a[i]? = some x → b[i]? = some y → (List.zipWith f a b).take (i + 1) = (List.zipWith f a b).take i ++ [f x y]
  | x' :: a, y' :: b, 0, x, y, h1, h2 => by
    have e1 : x' = x := Option.some.inj h1
    have e2 : y' = y := Option.some.inj h2
    rw [e1, e2]
    rfl
  | x' :: a, y' :: b, i + 1, x, y, h1, h2 => by
    rw [List.zipWith_cons_cons, List.take_succ_cons, List.take_succ_cons, zipW_take (i := i) (x := x) (y := y) h1 h2]
    rfl
/-! ### the promises of the steps' defs -/
def spMinus (K : PySem.W.Frag) : Sp := fun vs H Q _ => ∃ (a b : Addr) (x y : List Int), vs = [.ref a, .ref b] ∧ SqT K H a (x.map V.int) ∧ SqT K H b (y.map V.int) ∧ x.length = y.length ∧ x.length ≤ 1000 ∧
  ∀ (H' : Hp) (p : Addr), Same H H' → H p = none → H' p = some (.tup ((minusL x y).map V.int)) → Q (.ref p) H'
/-- trades of so many goods -/
def Even (g : Nat) (ts : List Trd) : Prop := ∀ t ∈ ts, t.1.length = g ∧ t.2.length = g
theorem MktOk.even {g : Nat} {ts : List Trd} (m : MktOk g ts) : Even g ts := fun t ht => ⟨(m.all t ht).1.len, (m.all t ht).2.len⟩
def stepD (k : Nat) (b : Bool) : PyData := .tuple [.int (k : Int), .bool b]
/-- the parts of a pair that is plain data -/
theorem Dat.pair {R : Rgn} {H : Hp} {v : V} {x y : PyData} (h : Dat R H v (.tuple [x, y])) : ∃ a u w, v = .ref a ∧ R a ∧ H a = some (.tup [u, w]) ∧ Dat R H u x ∧ Dat R H w y := by
  cases h with
  | tup ra e t =>
    cases t with
    | cons h1 t =>
      cases t with
      | cons h2 t =>
        cases t
        exact ⟨_, _, _, rfl, ra, e, h1, h2⟩
theorem Dat.tupI {R : Rgn} {H : Hp} {v : V} {ds : List PyData} (h : Dat R H v (.tuple ds)) : ∃ a xs, v = .ref a ∧ R a ∧ H a = some (.tup xs) ∧ Dats R H xs ds := by
  cases h with
  | tup ra e t => exact ⟨_, _, rfl, ra, e, t⟩
theorem Dat.intI {R : Rgn} {H : Hp} {v : V} {i : Int} (h : Dat R H v (.int i)) : v = .int i := by
  cases h
  rfl
theorem Dat.blI {R : Rgn} {H : Hp} {v : V} {b : Bool} (h : Dat R H v (.bool b)) : v = .bl b := by
  cases h
  rfl
theorem Dat.nonI {R : Rgn} {H : Hp} {v : V} (h : Dat R H v .none) : v = .non := by
  cases h
  rfl
/-- a bag drawn -/
def spBag : Sp := fun vs H Q _ => ∃ (d c r : Addr) (n g m : Nat), vs = [.ref d, .int (g : Int), .int (m : Int)] ∧ Dk H d c r n ∧ n < 2 ^ 38 ∧ g ≤ 1000 ∧ m ≤ 1000 ∧
  ∀ (H' : Hp) (p : Addr) (b : List Int), b.length = g → (∀ x ∈ b, 0 ≤ x ∧ x ≤ (m : Int)) → H p = none → H' p = some (.tup (b.map V.int)) → Dk H' d c r (n + g) → Kp d r H H' → Q (.ref p) H'
end Lb
set_option Elab.async false
set_option linter.all false
set_option maxRecDepth 100000
set_option maxHeartbeats 4000000
namespace Lb
open PySem PySem.Spec PyProof.Rows L2 RZ
/-! ### defs that may raise -/
structure OwnX (P : Program) (w : World) (K : PySem.W.Frag) (mg : Str → Option Value) (base : Heap) (x : Str) (k : Nat) (ps : List Str) (sp : Sp) : Prop where
  ex : ∃ (f : Addr) (fd : FuncData), FnOk P w K mg base (L2.CX P w) k f fd ps sp ∧ mg x = some (.ref f) ∧ PySem.W.keepIn K (.ref f) = true ∧ Binds K fd ps []
section
variable {P : Program} {w : World} {K : PySem.W.Frag} {mg : Str → Option Value} {base : Heap}
theorem ownX_of {x : Str} {st : Stmt} {N ps : List Str} {k : Nat} {sp : Sp} (D : Df K mg x st) (S : FnScope N ps (defScope st))
    (hb : ∀ (kV doc pm : Value) (an : Option Addr) (cdv ct : Value) (us : List Value), us.length = ps.length → bindArgs (PySem.W.fnOf x x (defArgs st) (defBody st) (defScope st) .none kV doc pm an cdv ct) ⟨us, []⟩ = pure (ps.zip us))
    (len : ∀ vs H Q E, sp vs H Q E → vs.length = ps.length)
    (hbody : ∀ (f : Addr) (cdv : Value) (A : Around) (outer : List Env) (s : Shared) (H : Hp) (vs : List V) (Q : VK) (E : XK), Room k (A.deeper (envOfC x (defScope st) s.heap.objs.size f cdv)) → sp vs H Q E →
      ∃ t, PSs (cxOf (L2.CX P w) P w K mg base N x (defScope st) f cdv A outer s H E) (defBody st) t ∧ t { nx := fun _ H' => Q .non H', rt := Q } (start N vs) H) : OwnX P w K mg base x (k + 1) ps sp := by
  obtain ⟨f, fd, F, m⟩ := D.ex
  exact ⟨f, fd, F.okX S len (hbody f), m, F.kp, F.binds hb⟩
/-! ### an error class of one field -/
/-- what __init__ leaves of a new error -/
def spIni (C : Addr) (fld : Str) : Sp := fun vs H Q _ => ∃ (a : Addr) (v : V), vs = [.ref a, v] ∧ H a = some (exo a C none) ∧ ∀ dx, H dx = none → dx ≠ a → Q .non (upd (upd H dx (exd dx [(fld, v)])) a (exo a C (some dx)))
structure Err1 (P : Program) (w : World) (K : PySem.W.Frag) (mg : Str → Option Value) (base : Heap) (x fld : Str) (C : Addr) : Prop where
  gC : mg x = some (.ref C)
  ox : OexC K C
  xf : XfC K C
  no : PySem.W.findIn K (.ref C) fld = some none
  te : PySem.W.exmOne K (.ref C) (.ref C) = some true
  ini : ∃ (fI : Addr) (fd : FuncData), PySem.W.findIn K (.ref C) "__init__" = some (some (.ref fI)) ∧ PySem.W.typeIn K (.ref fI) = some (.type "function") ∧ FnOk P w K mg base CX0 1 fI fd ["self", fld] (spIni C fld) ∧ Binds K fd ["self", fld] []
end
theorem pmk_err {X : Cx} {x fld : Str} {C : Addr} {e : Expr} {ta : TA} {p pos : Pos} (T : Err1 X.prog X.w X.K X.mg X.base x fld C) (hr : Room 2 X.A) (hg : Gl X x) (ha : PA X [e] ta)
    (hdb : (x == ("__debug__" : Str)) = false := by decide) (he : starEach [e] X.env = (false, eval e X.env) :: starEach [] X.env := by rfl) (hpl : (backTo pos (starEach [] X.env)).any (·.1) = false := by rfl) :
    PMk X (.Call (.Name x p) [e] [] pos) (tMkO C (spIni C fld) [] ta) := by
  obtain ⟨fI, fd, iC, tI, F1, hb⟩ := T.ini
  exact pmk_oex T.ox iC tI F1 hr hb .nil pass0 hg T.gC ha hdb he hpl
/-- what the raising of such an error asks -/
theorem err_in {C : Addr} {fld : Str} {v : V} {H1 : Hp} {Q : XK} (h : ∀ d, H1 d = none → Q (.ref C) (some d) (upd H1 d (.xd [(fld, v)]))) :
    [v].length ≤ 1000 ∧ ∀ a, H1 a = none → spIni C fld (.ref a :: ([v] ++ [])) (upd H1 a (exo a C none)) (fun u H2 => u = .non ∧ ∃ (d : Addr) (fs : List (Str × V)), H2 a = some (exo a C (some d)) ∧ H2 d = some (exd d fs) ∧ H1 d = none ∧ Q (.ref C) (some d) (upd (del H2 a) d (.xd fs))) (fun _ _ _ => False) := by
  refine ⟨by show 1 ≤ 1000; omega, fun a ha => ⟨a, v, rfl, upd_same, fun dx hd ne => ⟨rfl, dx, [(fld, v)], upd_same, ?_, ?_, ?_⟩⟩⟩
  · rw [upd_ne ne, upd_same]
  · rw [upd_ne ne] at hd
    exact hd
  · have e : upd (del (upd (upd (upd H1 a (exo a C none)) dx (exd dx [(fld, v)])) a (exo a C (some dx))) a) dx (.xd [(fld, v)]) = upd H1 dx (.xd [(fld, v)]) := by
      funext b
      by_cases h1 : b = dx
      · rw [h1, upd_same, upd_same]
      · rw [upd_ne h1, upd_ne h1]
        by_cases h2 : b = a
        · rw [h2, del_same, ha]
        · rw [del_ne h2, upd_ne h2, upd_ne h1, upd_ne h2]
    rw [e]
    rw [upd_ne ne] at hd
    exact h dx hd
/-! ### lambdas -/
theorem takes_len {X : Cx} {W : WX} (t : Takes X W) : Takes X (fun c d σ H => σ.length = X.N.length → W c d σ H) := fun u s' ⟨a, B, sI, pins, σ, H, cls, d, e, I, nb, up, sky, na, os, ag, w⟩ =>
  t u s' ⟨a, B, sI, pins, σ, H, cls, d, e, I, nb, up, sky, na, os, ag, w I.len⟩
mutual
theorem Dat.extN {R : Rgn} {H H' : Hp} (k : LamX.ExtN H H') : ∀ {v : V} {d : PyData}, Dat R H v d → Dat R H' v d
  | _, _, .non => .non
  | _, _, .bl b => .bl b
  | _, _, .int i => .int i
  | _, _, .str x => .str x
  | _, _, .tup ra e h => .tup ra (k _ _ e fun _ z => nomatch z) (Dats.extN k h)
  | _, _, .lst ra e h => .lst ra (k _ _ e fun _ z => nomatch z) (Dats.extN k h)
  | _, _, .emp ra e => .emp ra (k _ _ e fun _ z => nomatch z)
theorem Dats.extN {R : Rgn} {H H' : Hp} (k : LamX.ExtN H H') : ∀ {v : List V} {d : List PyData}, Dats R H v d → Dats R H' v d
  | _, _, .nil => .nil
  | _, _, .cons h t => .cons (Dat.extN k h) (Dats.extN k t)
end
theorem Dk.extN {H H' : Hp} {d c r : Addr} {n : Nat} (h : Dk H d c r n) (k : LamX.ExtN H H') : Dk H' d c r n := by
  obtain ⟨t, cs, rs, g1, g2, g3, g4, g5, g6, g7, w1, w2, w3⟩ := h
  exact ⟨t, cs, rs, g1, g2, g3, g4, g5, g6, g7, k _ _ w1 (fun _ z => nomatch z), k _ _ w2 (fun _ z => nomatch z), k _ _ w3 (fun _ z => nomatch z)⟩
theorem tabs_kp {T : List (Addr × Str)} {H H' : Hp} {d c r : Addr} {n : Nat} (t : LamX.Tabs T H) (dk : Dk H d c r n) (k : Kp d r H H') : LamX.Tabs T H' := by
  obtain ⟨_, _, _, _, _, _, _, _, _, _, w1, _, w3⟩ := dk
  have nd : ∀ {b : Addr} {o : HO}, H b = some o → (∀ xs, o ≠ .lst xs) → H' b = some o := fun {b o} e ne => by
    refine k b o (fun z => ?_) (fun z => ?_) e
    · rw [z, w1] at e
      exact ne _ (Option.some.inj e).symm
    · rw [z, w3] at e
      exact ne _ (Option.some.inj e).symm
  intro p hp
  obtain ⟨ps, h1, h2, h3⟩ := t p hp
  refine ⟨ps, nd h1 (fun _ z => nomatch z), h2, fun pos cv hc => ?_⟩
  obtain ⟨cc, e1, e2⟩ := h3 pos cv hc
  refine ⟨cc, e1, nd e2 fun xs z => ?_⟩
  unfold LamX.CodeO at z
  cases z
/-! ### walks -/
end Lb
set_option Elab.async false
set_option linter.all false
set_option maxRecDepth 100000
set_option maxHeartbeats 4000000
namespace Lb
open PySem PySem.Spec PyProof.Rows L2 RZ
/-! ### the law's own def, its code object told -/
theorem fnG_ofC {P : Program} {w : World} {K : PySem.W.Frag} {mg : Str → Option Value} {base : Heap} {k : Nat} {f c : Addr} {x : Str} {st : Stmt} {N ps : List Str} {sp : Sp} {oc : Value} {od an : Option Addr} {osl : Array (Option Value)} {kV doc pm ct : Value}
    (lk : K.lookup f = some ⟨oc, od, .func (PySem.W.fnOf x x (defArgs st) (defBody st) (defScope st) .none kV doc pm an (.ref c) ct), osl⟩) (hcd : PySem.W.codeIn K (.ref c) x = true) (S : FnScope N ps (defScope st)) (len : ∀ vs H Q E, sp vs H Q E → vs.length = ps.length)
    (hbody : ∀ (A : Around) (outer : List Env) (s : Shared) (H : Hp) (vs : List V) (Q : VK) (E : XK), (cxOf CX0 P w K mg base N x (defScope st) f (.ref c) A outer s H E).nox.A.guards = some [] → Room k (A.deeper (envOfC x (defScope st) s.heap.objs.size f (.ref c))) → sp vs H Q E →
      ∃ t, PSs (cxOf CX0 P w K mg base N x (defScope st) f (.ref c) A outer s H E).nox (defBody st) t ∧ t { nx := fun _ H' => Q .non H', rt := Q } (start N vs) H) :
    FnG P w K mg base CX0 (k + 1) f (PySem.W.fnOf x x (defArgs st) (defBody st) (defScope st) .none kV doc pm an (.ref c) ct) ps sp := by
  refine ⟨len, fun A outer s H args us vs Q E hg hr e0 hb r hsp => ?_⟩
  have hl := len _ _ _ _ hsp
  have kin : K.In s.heap := e0.mod.kin.keeps fun b o z => (e0.bs b o z).1
  have lim : s.heap.NoLimit := e0.mod.nolimit.keeps fun b o z => (e0.bs b o z).1
  have kinds : ∀ y ∈ ps.zip us, (defScope st).names.lookup y.1 = some .local ∨ ((defScope st).names.lookup y.1 = some .cell ∧ ((cellsFrom (s.heap.objs.size + 1) (defScope st).names []).lookup y.1).isSome = true) := by
    rintro ⟨n, v⟩ hy
    rcases S.par n (List.of_mem_zip hy).1 with z | z
    · exact .inl z
    · exact .inr ⟨z, PySem.W.cellsFrom_some _ _ _ (.inl z)⟩
  refine codeAny_call_function hr.depth (kin _ _ lk) rfl S.co S.gen rfl (PySem.W.codeRec_of kin hcd) (hb _ _ _ _ ?_)
  refine wpAny_newFunctionEnv_cells S.kind kinds fun env he s1 inc => ?_
  subst he
  refine ⟨lim.keeps inc.toInCall.keep, codeAny_func ?_⟩
  obtain ⟨t, ht, hq⟩ := hbody A outer s H vs Q E hg (hr.deeper _) hsp
  have I : Inv (cxOf CX0 P w K mg base N x (defScope st) f (.ref c) A outer s H E) [] (start N vs) H s1 := inv_start S hr.hd e0 hl r inc
  refine wpAny_mono (ht.nox.run [] s1 (start N vs) H _ I hq) (fun fl s' hs => ?_) fun e s' hs => hs
  cases fl with
  | ret u =>
    obtain ⟨v, σ', H', J, rv, q⟩ := hs
    exact ⟨v, H', J.os, J.bare, J.base, J.hok, rv, q⟩
  | next =>
    obtain ⟨σ', H', J, q⟩ := hs
    exact ⟨.non, H', J.os, J.bare, J.base, J.hok, rfl, q⟩
  | brk =>
    obtain ⟨_, _, _, q⟩ := hs
    exact q.elim
  | cont =>
    obtain ⟨_, _, _, q⟩ := hs
    exact q.elim
/-- the law's promise, its table of code objects empty as yet -/
def spLawT (K : PySem.W.Frag) (Pt : Addr) : Sp := fun vs H Q _ => ∃ (a : Addr) (ns : List Int), vs = [.ref a] ∧ SqL K H a (ns.map V.int) ∧ ns.length ≤ 63 ∧ H Pt = some (.tbl #[]) ∧ ∀ H', Q (.bl true) H'
/-! ### amounts on the way -/
/-! ### steps drawn -/
def Sv (R : Rgn) (H : Hp) (n : Nat) (v : V) : Prop := ∃ (k : Nat) (b : Bool), k < n ∧ Dat R H v (stepD k b)
theorem Sv.on {R : Rgn} {H H' : Hp} {n : Nat} {v : V} (h : Sv R H n v) (k : On R H H') : Sv R H' n v := let ⟨a, b, c, d⟩ := h; ⟨a, b, c, d.on k⟩
theorem Sv.same {R : Rgn} {H H' : Hp} {n : Nat} {v : V} (h : Sv R H n v) (k : Same H H') : Sv R H' n v := h.on (On.of k)
theorem Sv.out {R : Rgn} {H : Hp} {n : Nat} {v : V} {D : Addr} (h : Sv (wo R D) H n v) : Sv R H n v := let ⟨a, b, c, d⟩ := h; ⟨a, b, c, d.sub fun _ _ z _ => z.1⟩
theorem Sv.into {R : Rgn} {H : Hp} {n : Nat} {v : V} {D : Addr} (h : Sv R H n v) (z : H D = none) : Sv (wo R D) H n v := let ⟨a, b, c, d⟩ := h; ⟨a, b, c, d.sub fun _ _ hb e => ⟨hb, ne_of_none e z⟩⟩
theorem Vd.newL {R : Rgn} {H : Hp} {S D : Nat} {p : Addr} {xs : List V} (h : Pk R H S D xs) (n : H p = none) (r : R p) : Vd R (upd H p (.lst xs)) (S + 4) (D + 1) (.ref p) := by
  obtain ⟨ds, d, o⟩ := h
  exact ⟨.list ds, Dat.newL n r d, o.list⟩
theorem Vd.extN {R : Rgn} {H H' : Hp} {S D : Nat} {v : V} (h : Vd R H S D v) (k : LamX.ExtN H H') : Vd R H' S D v := let ⟨x, d, o⟩ := h; ⟨x, d.extN k, o⟩
end Lb
set_option Elab.async false
set_option linter.all false
set_option maxRecDepth 100000
set_option maxHeartbeats 4000000
namespace Lb
open PySem PySem.Spec PyProof.Rows L2
/-! ### the law's end where it makes a lambda -/
section
variable {P : Program} {w : World} {K : PySem.W.Frag} {mg mb : Str → Option Value} {CX : CXT} {k : Nat} {fa a c Pt : Addr} {fd : FuncData} {x : Str} {sp : Sp} {s1 : Shared} {vs : List Value} {ns : List Int}
theorem go_tab {H : Hp} (kin : K.In s1.heap) (hns : s1.heap.Ns mainGlobals mg) (hb : s1.heap.Ns builtinsNs mb) (hbb : ∀ x : Str, x ≠ "__name__" → mb x = bootBuiltins x) (hlim : s1.heap.NoLimit) (hg : s1.gens = #[])
    (hT : s1.heap.get? Pt = some { cls := .none, data := .fields #[] }) (nT : K.lookup Pt = none) (C : PySem.W.CodeHd s1.heap c Pt)
    (hbm : ∃ (bm : Addr) (ob : Obj), mg "__builtins__" = some (.ref bm) ∧ bm ≠ builtinsNs ∧ s1.heap.get? bm = some ob ∧ ob.cls = .type "module" ∧ ob.dict = some builtinsNs ∧ ob.data = .plain)
    (ha : s1.heap.get? a = some { cls := .type "list", data := .seq vs.toArray }) (hr : Room k callerA)
    (F : ∀ base : Heap, K.In base → base.Ns mainGlobals mg → LamX.TabB base mg c Pt → FnG P w K mg base CX k fa fd [x] sp) (hbind : ∀ (s : Shared) (u : Value), BindsTo s fd ⟨[u], []⟩ [(x, u)])
    (hP : H Pt = some (.tbl #[])) (only : ∀ b, H b = none ∨ b = Pt ∨ ∃ o xs, H b = some (.frz o (.lst xs))) (hok : HOk P w H s1.heap) (hA : ∀ b, H b ≠ none → b = a ∨ b = Pt) (hK : H a ≠ none → K.lookup a = none)
    (hsp : sp [.ref a] H (fun v _ => v = .bl true) fun _ _ _ => False) (hCX : ∀ e s', CX [] H s1 (fun _ _ _ => False) e s' → False) :
    codeAny (model P w) callerA (.call (.ref fa) ⟨[.ref a], []⟩) (LawEnd s1) s1 := by
  have nP : a ≠ Pt := fun z => by
    rw [z, hT] at ha
    exact nomatch (show Data.fields #[] = Data.seq vs.toArray _ from congrArg Obj.data (Option.some.inj ha))
  have isA : ∀ {b : Addr} {u : HO}, H b = some u → b = a ∨ b = Pt := fun {b u} e => hA b (by rw [e]; exact fun z => nomatch z)
  -- what is neither the script nor the table is hidden from nobody
  have free : ∀ {b : Addr} {o : Obj}, s1.heap.get? b = some o → (∀ us n, o.data ≠ .seq us n) → o.data ≠ .fields #[] → H b = none := by
    intro b o e d1 d2
    cases q : H b with
    | none => rfl
    | some u =>
      rcases isA q with eb | eb
      · subst eb
        rw [ha] at e
        cases e
        exact absurd rfl (d1 _ _)
      · subst eb
        rw [hT] at e
        cases e
        exact absurd rfl d2
  have ns : ∀ {b : Addr} {m : Str → Option Value}, s1.heap.Ns b m → (hidT s1.heap H).Ns b m := by
    rintro b m ⟨o, es, ep, e, d, r⟩
    exact ⟨o, es, ep, hidT_get e (free e (fun us n z => by rw [d] at z; cases z) (fun z => by rw [d] at z; cases z)), d, r⟩
  have kb : K.In (hidT s1.heap H) := by
    intro b o e
    refine hidT_get (kin b o e) ?_
    cases q : H b with
    | none => rfl
    | some u =>
      rcases isA q with eb | eb
      · subst eb
        rw [hK (by rw [q]; exact fun z => nomatch z)] at e
        cases e
      · rw [eb, nT] at e
        cases e
  have tb : LamX.TabB (hidT s1.heap H) mg c Pt := by
    refine ⟨?_, ?_, fun z => ?_⟩
    · obtain ⟨o, us, file, tf, flags, tg, inF, text, tt, e1, r1, r2, r3, rest⟩ := C
      refine ⟨o, us, file, tf, flags, tg, inF, text, tt, hidT_get e1 (free e1 (fun us n z => by rw [r2] at z; cases z) fun z => ?_), r1, r2, r3, rest⟩
      rw [r2] at z
      cases z
      simp at r3
    · obtain ⟨bm, ob, b1, b2, b3, b4, b5, b6⟩ := hbm
      refine ⟨bm, ob, b1, b2, fun z => ?_, fun z => ?_, hidT_get b3 (free b3 (fun us n z => by rw [b6] at z; cases z) (fun z => by rw [b6] at z; cases z)), b4, b5, b6⟩
      · obtain ⟨o, es, ep, e, d, _⟩ := hns
        rw [z, e] at b3
        cases b3
        rw [d] at b6
        cases b6
      · rw [z, hT] at b3
        cases b3
        cases b6
    · obtain ⟨o, es, ep, e, d, _⟩ := hns
      rw [z, hT] at e
      cases e
      cases d
  obtain ⟨mc, n1, n2⟩ := hlim
  have md : Mod K mg (hidT s1.heap H) := ⟨kb, ns hns, ⟨mb, ns hb, hbb⟩, ⟨mc, ns n1, n2⟩⟩
  have e0 : Env0 P w K mg (hidT s1.heap H) callerA [] s1 H :=
    ⟨rfl, md, fun b o e => of_hidT e, Nat.le_of_eq (hidT_size _ _), trivial, fun b hb => absurd (show b ∈ ([] : List Addr) from hb) (by simp), hok, .of_eq hg⟩
  refine codeAny_mono ((F _ kb (ns hns) tb).run callerA [] s1 H ⟨[.ref a], []⟩ [.ref a] [.ref a] _ _ rfl hr e0 (hbind s1 (.ref a)) (.cons rfl .nil) hsp) fun r s' h => ?_
  cases r with
  | error e => exact (hCX e s' h).elim
  | ok fl =>
    cases fl with
    | next => exact h.elim
    | brk => exact h.elim
    | cont => exact h.elim
    | ret u =>
      obtain ⟨v, H', os, bare, un, hok', ru, q⟩ := h
      have ev : v = .bl true := q
      subst ev
      obtain rfl : u = Value.bool true := ru
      have key : ∀ b o, b ≠ Pt → s1.heap.get? b = some o → s'.heap.get? b = some o := by
        intro b o nb e
        rcases only b with z | z | ⟨ob, xs, z⟩
        · exact un.keep b o e z (fun m => absurd (show b ∈ ([] : List Addr) from m) (by simp)) (by simp)
        · exact absurd z nb
        · obtain ⟨g1, _⟩ := hok b _ z
          obtain ⟨g2, _⟩ := hok' b _ (un.frzs b ob _ z)
          rw [e] at g1
          cases g1
          exact g2
      obtain ⟨more, hm⟩ : ∃ more : Array Value, s'.heap.get? Pt = some { cls := .none, data := .fields more } := by
        obtain ⟨more, z⟩ := un.tbls Pt #[] hP
        exact ⟨_, hok' Pt _ z⟩
      refine ⟨rfl, ⟨fun b o e => ?_, fun b o e => ?_⟩, os, bare⟩
      · by_cases hbp : b = Pt
        · subst hbp
          rw [hT] at e
          cases e
          exact .inr (.inl ⟨(C.tab hT).isCodeTable, rfl, #[], more, rfl, by rw [Array.empty_append]; exact hm⟩)
        · exact .inl (key b o hbp e)
      · by_cases hbp : b = Pt
        · rw [hbp]
          exact ⟨_, hm⟩
        · exact ⟨o, key b o hbp e⟩
theorem law_tab (kin : K.In s1.heap) (hns : s1.heap.Ns mainGlobals mg) (hb : s1.heap.Ns builtinsNs mb) (hbb : ∀ x : Str, x ≠ "__name__" → mb x = bootBuiltins x) (hlim : s1.heap.NoLimit) (hg : s1.gens = #[])
    (hT : s1.heap.get? Pt = some { cls := .none, data := .fields #[] }) (nT : K.lookup Pt = none) (C : PySem.W.CodeHd s1.heap c Pt)
    (hbm : ∃ (bm : Addr) (ob : Obj), mg "__builtins__" = some (.ref bm) ∧ bm ≠ builtinsNs ∧ s1.heap.get? bm = some ob ∧ ob.cls = .type "module" ∧ ob.dict = some builtinsNs ∧ ob.data = .plain)
    (ha : s1.heap.get? a = some { cls := .type "list", data := .seq vs.toArray }) (hi : IntsAre vs ns) (hl : ns.length ≤ sizeLine) (hr : Room k callerA)
    (F : ∀ base : Heap, K.In base → base.Ns mainGlobals mg → LamX.TabB base mg c Pt → FnG P w K mg base CX k fa fd [x] sp) (hbind : ∀ (s : Shared) (u : Value), BindsTo s fd ⟨[u], []⟩ [(x, u)])
    (hsp : ∀ H : Hp, H Pt = some (.tbl #[]) → SqL K H a (ns.map V.int) → sp [.ref a] H (fun v _ => v = .bl true) fun _ _ _ => False)
    (hCX : ∀ H e s', CX [] H s1 (fun _ _ _ => False) e s' → False) : codeAny (model P w) callerA (.call (.ref fa) ⟨[.ref a], []⟩) (LawEnd s1) s1 := by
  have rv := vals_ints hi
  have nP : a ≠ Pt := fun z => by
    rw [z, hT] at ha
    exact nomatch (show Data.fields #[] = Data.seq vs.toArray _ from congrArg Obj.data (Option.some.inj ha))
  cases hk : K.lookup a with
  | some o =>
    have e := kin a o hk
    rw [ha] at e
    cases e
    let H0 : Hp := fun b => if b = Pt then some (.tbl #[]) else none
    have atP : H0 Pt = some (.tbl #[]) := if_pos rfl
    have off : ∀ {b : Addr}, b ≠ Pt → H0 b = none := fun h => if_neg h
    refine go_tab (H := H0) kin hns hb hbb hlim hg hT nT C hbm ha hr F hbind atP (fun b => ?_) (fun b u z => ?_) (fun b z => ?_) (fun z => absurd (off nP) z) (hsp _ atP (.inr ⟨_, vs.toArray, _, hk, rfl, rfl, rfl, ?_, by simpa using rv⟩)) fun e s' => hCX _ e s'
    · by_cases h : b = Pt
      · exact .inr (.inl h)
      · exact .inl (off h)
    · by_cases h : b = Pt
      · subst h
        rw [atP] at z
        cases z
        exact hT
      · rw [off h] at z
        cases z
    · exact .inr (Classical.byContradiction fun h => z (off h))
    · rw [List.size_toArray, hi.length]
      exact hl
  | none =>
    let H1 : Hp := fun b => if b = a then some (.frz { cls := .type "list", data := .seq vs.toArray } (.lst (ns.map V.int))) else if b = Pt then some (.tbl #[]) else none
    have at_a : H1 a = some (.frz { cls := .type "list", data := .seq vs.toArray } (.lst (ns.map V.int))) := if_pos rfl
    have atP : H1 Pt = some (.tbl #[]) := (if_neg nP.symm).trans (if_pos rfl)
    have off : ∀ {b : Addr}, b ≠ a → b ≠ Pt → H1 b = none := fun h1 h2 => (if_neg h1).trans (if_neg h2)
    refine go_tab (H := H1) kin hns hb hbb hlim hg hT nT C hbm ha hr F hbind atP (fun b => ?_) (fun b u z => ?_) (fun b z => ?_) (fun _ => hk) (hsp _ atP (.inl (.inr ⟨_, at_a⟩))) fun e s' => hCX _ e s'
    · by_cases h : b = a
      · rw [h]
        exact .inr (.inr ⟨_, _, at_a⟩)
      · by_cases h2 : b = Pt
        · exact .inr (.inl h2)
        · exact .inl (off h h2)
    · by_cases h : b = a
      · subst h
        rw [at_a] at z
        cases z
        exact ⟨ha, by rw [List.length_map]; exact hl, vs, _, rv, ha⟩
      · by_cases h2 : b = Pt
        · subst h2
          rw [atP] at z
          cases z
          exact hT
        · rw [off h h2] at z
          cases z
    · by_cases h : b = a
      · exact .inl h
      · exact .inr (Classical.byContradiction fun h2 => z (off h h2))
end
/-- what is known of a law that makes a lambda, at the head's heap -/
def LawT (l : PySem.W.OpenLaw) (w : World) (K : PySem.W.Frag) (k : Nat) (x : Str) (mg : Str → Option Value) (fa : Addr) (h : Heap) : Prop :=
  ∃ (fd : FuncData) (c Pt : Addr), h.get? Pt = some { cls := .none, data := .fields #[] } ∧ K.lookup Pt = none ∧ PySem.W.CodeHd h c Pt ∧ (∀ (s : Shared) (u : Value), BindsTo s fd ⟨[u], []⟩ [(x, u)]) ∧
    ∀ base : Heap, K.In base → base.Ns mainGlobals mg → LamX.TabB base mg c Pt → FnG l.prog w K mg base CX0 k fa fd [x] (spLawT K Pt)
theorem walk_gT {l : PySem.W.OpenLaw} {k : Nat} {q : Program} {loose : List Str} {XP : (Str → Option Value) → Heap → Prop} {YP : World → Heap → Prop} {d : DefRec} {K : Params → PySem.W.Frag} {x : Str}
    (hn : l.most = some 63) (hdf : d.params.defaults = []) (hr : Room k callerA) (hrec : ((recsOf q).any fun e => e.name == d.name) = true) (hY : ∀ (w : World) (h : Heap), YP w h → (K w.params).In h)
    (F : ∀ (w : World) (mg : Str → Option Value) (fa : Addr) (h : Heap), (K w.params).In h → h.Ns mainGlobals mg → mg d.name = some (.ref fa) → LamX.OwnTab (K w.params) fa h → LawT l w (K w.params) k x mg fa h) :
    PySem.W.WalkO q loose XP YP l.row.toRowW d [] (fun f vs => PySem.call f vs) := by
  refine Att.attach_call hn hdf fun w s0 s1 mg mb fa o pm cd doc a vs ns G Y ho hd hcd hmg hobj hints hlen hg => ?_
  have kin := hY w _ Y
  have own : LamX.OwnTab (K w.params) fa s1.heap := by
    intro c P o1 fd1 e dd vs1 sl k1 k2 k3 k4 k5
    obtain ⟨dL, hm, hnm⟩ := List.any_eq_true.mp hrec
    obtain ⟨a', o', fd', c', P', h1, h2, h3, h4, h5, ⟨oc, vc, e1, _, e3, e4⟩, hP⟩ := G.T.tab dL hm
    rw [beq_iff_eq.mp hnm, hmg] at h1
    cases h1
    rw [kin _ _ k1] at h2
    cases h2
    rw [k2] at h3
    cases h3
    rw [k3] at h4
    cases h4
    rw [kin _ _ k4] at e1
    cases e1
    cases e3
    rw [k5] at e4
    cases e4
    exact hP
  obtain ⟨fd, c, Pt, hT, nT, C, hb, hF⟩ := F w mg fa _ kin G.T.g hmg own
  exact law_tab kin G.T.g G.T.b G.T.builtins G.T.nolimit hg hT nT C G.T.bmain hobj hints (Nat.le_trans hlen (by decide)) hr hF hb (fun H hP hS => ⟨a, ns, rfl, hS, hlen, hP, fun _ => rfl⟩) fun H e s' h => h
end Lb
set_option Elab.async false
set_option linter.all false
set_option maxRecDepth 100000
set_option maxHeartbeats 4000000
namespace Lb
open PySem PySem.Spec PyProof.Rows L2
/-! ### d < e of plain data that is alike -/
/-! ### sum of a list of bools -/
/-! ### defs that use repr -/
structure OwnG (P : Program) (w : World) (K : PySem.W.Frag) (mg : Str → Option Value) (base : Heap) (x : Str) (k : Nat) (ps : List Str) (sp : Sp) : Prop where
  ex : ∃ (f : Addr) (fd : FuncData), FnG P w K mg base CX0 k f fd ps sp ∧ mg x = some (.ref f) ∧ PySem.W.keepIn K (.ref f) = true ∧ Binds K fd ps []
section
variable {P : Program} {w : World} {K : PySem.W.Frag} {mg : Str → Option Value} {base : Heap}
theorem ownG_of {x : Str} {st : Stmt} {N ps : List Str} {k : Nat} {sp : Sp} (D : Df K mg x st) (S : FnScope N ps (defScope st))
    (hb : ∀ (kV doc pm : Value) (an : Option Addr) (cdv ct : Value) (us : List Value), us.length = ps.length → bindArgs (PySem.W.fnOf x x (defArgs st) (defBody st) (defScope st) .none kV doc pm an cdv ct) ⟨us, []⟩ = pure (ps.zip us))
    (len : ∀ vs H Q E, sp vs H Q E → vs.length = ps.length)
    (hbody : ∀ (f : Addr) (cdv : Value) (A : Around) (outer : List Env) (s : Shared) (H : Hp) (vs : List V) (Q : VK) (E : XK), (cxOf CX0 P w K mg base N x (defScope st) f cdv A outer s H E).nox.A.guards = some [] → Room k (A.deeper (envOfC x (defScope st) s.heap.objs.size f cdv)) → sp vs H Q E →
      ∃ t, PSs (cxOf CX0 P w K mg base N x (defScope st) f cdv A outer s H E).nox (defBody st) t ∧ t { nx := fun _ H' => Q .non H', rt := Q } (start N vs) H) : OwnG P w K mg base x (k + 1) ps sp := by
  obtain ⟨f, fd, F, m⟩ := D.ex
  exact ⟨f, fd, lawG_of F S len (hbody f), m, F.kp, F.binds hb⟩
end
section
variable {X : Cx} {k : Nat} {ps : List Str} {sp : Sp} {x : Str} {p pos : Pos} {e : Expr} {es : List Expr} {t : TA}
theorem run_fnG {CX : CXT} {f : Addr} {fd : FuncData} {dvs : List V} {ds : List Value} {E : XK} {pins : List (Addr × Obj)} {σ : L2.St} {H : Hp} {s : Shared} {Q : VK} {us : List Value} {vs : List V} (F : FnG X.prog X.w X.K X.mg X.base CX k f fd ps sp) (hg : X.A.guards = some []) (hr : Room k X.A) (hb : Binds X.K fd ps ds) (hd : Vals dvs ds) (hx : Passes CX X E)
    (I : Inv X pins σ H s) (r : Vals vs us) (h : sp (vs ++ dvs) H Q E) : wpAny (model X.prog X.w) X.A (call (.ref f) us) (EP X pins σ Q) X.xe s := by
  have r2 : Vals (vs ++ dvs) (us ++ ds) := r.append hd
  have hl : (us ++ ds).length = ps.length := by rw [← r2.length]; exact F.len _ _ _ _ h
  refine wpAny_call (codeAny_mono (F.run X.A X.stack s H ⟨us, []⟩ (us ++ ds) (vs ++ dvs) Q E hg hr I.env0 (hb s us I.kIn hl) r2 h) fun r s' hq => ?_)
  cases r with
  | error e => exact hx pins σ H s e s' I hq
  | ok fl =>
    cases fl with
    | ret u => exact I.after hq
    | next => exact False.elim hq
    | brk => exact False.elim hq
    | cont => exact False.elim hq
theorem pe_ownG (O : OwnG X.prog X.w X.K X.mg X.base x k ps sp) (hgd : X.A.guards = some []) (hr : Room k X.A) (hg : Gl X x) (ha : PA X (e :: es) t) (hdb : (x == ("__debug__" : Str)) = false := by decide)
    (he : starEach (e :: es) X.env = (false, eval e X.env) :: starEach es X.env := by rfl) (hpl : (backTo pos (starEach es X.env)).any (·.1) = false := by rfl) : PE X (.Call (.Name x p) (e :: es) [] pos) (tCall sp [] E0 t) := by
  obtain ⟨f, fd, F, m, kp, b⟩ := O.ex
  refine ⟨fun pins s σ H Q I h => ?_⟩
  refine wpAny_Call_Name_kw (ld_glob I hg m ?_ hdb)
  refine PySem.W.callWith_K (h₀ := X.base) I.ok.mod.kin kp (thn (ha.run pos pins s σ H _ I h) fun us s1 ⟨vs, H1, I1, r, q⟩ => ⟨I1.kIn, ?_⟩) he hpl
  exact run_fnG F hgd hr b .nil pass0 I1 r q
end
/-! ### plainness -/
/-- the order of rows of ints -/
def ltL : List Int → List Int → Bool
  | [], [] => false
  | [], _ :: _ => true
  | _ :: _, [] => false
  | x :: a, y :: b => if x = y then ltL a b else decide (x < y)
theorem lex_bag : ∀ a b : List Int, PyProof.Rows.lexLt PyProof.Rows.itemOrd (PySem.W.keyToksAll (a.map PyData.int)) (PySem.W.keyToksAll (b.map PyData.int)) = ltL a b
  | [], [] => by
    rw [List.map_nil, PySem.W.keyToksAll]
    rfl
  | [], y :: b => by
    rw [List.map_nil, List.map_cons, PySem.W.toks_all_cons, PySem.W.keyToksAll, PyProof.Rows.lex_diff (O := PyProof.Rows.itemOrd) (by simp)]
    rfl
  | x :: a, [] => by
    rw [List.map_nil, List.map_cons, PySem.W.toks_all_cons, PySem.W.keyToksAll, PyProof.Rows.lex_diff (O := PyProof.Rows.itemOrd) (by simp)]
    rfl
  | x :: a, y :: b => by
    rw [List.map_cons, List.map_cons, PySem.W.toks_all_cons, PySem.W.toks_all_cons, PyProof.Rows.lex_self (O := PyProof.Rows.itemOrd), PySem.W.keyToks, PySem.W.keyToks, List.singleton_append, List.singleton_append, ltL]
    by_cases h : x = y
    · rw [if_pos h, h, PyProof.Rows.lex_self (O := PyProof.Rows.itemOrd)]
      exact lex_bag a b
    · rw [if_neg h, PyProof.Rows.lex_diff (O := PyProof.Rows.itemOrd) (fun z => h (Sum.inl.inj z))]
      rfl
/-- what bags are compared by -/
abbrev keyD (b : List Int) : PyData := .tuple [.int (b.getD (b.length - 1) 0), .int b.sum, bagD b]
end Lb
namespace Lb
open PySem PySem.Spec PyProof.Rows L2
/-! the mathematics of plainness -/
end Lb
namespace Lb
open PySem PySem.Spec PyProof.Rows L2
theorem eqv_ints : ∀ x y : List Int, PyData.eqvAll (x.map PyData.int) (y.map PyData.int) = decide (x = y)
  | [], [] => by rw [List.map_nil, PyData.eqvAll]; rfl
  | [], b :: y => by rw [List.map_nil, List.map_cons, PyData.eqvAll]; rfl
  | a :: x, [] => by rw [List.map_nil, List.map_cons, PyData.eqvAll]; rfl
  | a :: x, b :: y => by
    rw [List.map_cons, List.map_cons, PyData.eqvAll, eqv_ints x y, PyData.eqv]
    by_cases h : a = b
    · rw [h]
      by_cases g : x = y
      · rw [g]
        simp
      · rw [decide_eq_false g, decide_eq_false (fun z => g (List.cons.inj z).2), Bool.and_false]
    · rw [decide_eq_false (fun z => h (List.cons.inj z).1), beq_eq_false_iff_ne.mpr h, Bool.false_and]
theorem eqv_bag (x y : List Int) : PyData.eqv (bagD x) (bagD y) = decide (x = y) := by
  rw [PyData.eqv]
  exact eqv_ints x y
theorem shaped_bag (ns : List Int) : SeqAt.shaped (bagD ns) = true := by
  have h := shaped_ints ns
  first | exact h | (unfold SeqAt.shaped at *; simpa [PyData.canLay0, PyData.depth] using h)
theorem dp_bag {K : PySem.W.Frag} {H : Hp} {a : Addr} {x : List Int} (e : H a = some (.tup (x.map V.int))) : Dp K H (.ref a) (bagD x) := .tup (.inl (.inl e)) (dp_ints x)
end Lb
set_option Elab.async false
set_option linter.all false
set_option maxRecDepth 100000
set_option maxHeartbeats 4000000
namespace Lb
open PySem PySem.Spec PyProof.Rows L2 RZ
end Lb
set_option Elab.async false
set_option linter.all false
set_option maxRecDepth 100000
set_option maxHeartbeats 4000000
namespace Lb
open PySem PySem.Spec PyProof.Rows L2 RZ
/-! ### x, *ys = a list -/
/-! ### enumerate(xs, start=1) -/
section
variable {M : Model} {A : Around} {E : Value → Shared → Prop} {s : Shared} {env : Env}
end
end Lb
set_option Elab.async false
set_option linter.all false
set_option maxRecDepth 100000
set_option maxHeartbeats 4000000
namespace Lb
open PySem PySem.Spec PyProof.Rows L2 RZ TL
/-! ### texts of markets -/
/-! reading -/
def digV (w : Str) : Option Int := if w = "0" then some 0 else if w = "1" then some 1 else if w = "2" then some 2 else if w = "3" then some 3 else none
def bagW : List Str → Option (List Int)
  | [] => some []
  | w :: ws => match digV w, bagW ws with
    | some n, some b => some (n :: b)
    | _, _ => none
def bagR (ws : List Str) : Option (List Int) := match bagW ws with
  | none => none
  | some b => if b.sum ≤ 4 then some b else none
def tradeR (g : Nat) (line : Str) : Option Trd :=
  if (Txt.split line " ").length = 2 * g + 1 ∧ (Txt.split line " ").getD g Str.empty = "=" then
    match bagR ((Txt.split line " ").take g), bagR ((Txt.split line " ").drop (g + 1)) with
    | some a, some b => some (a, b)
    | _, _ => none
  else none
def goodsR (line : Str) : Option Nat := if line = "goods 1" then some 1 else if line = "goods 2" then some 2 else if line = "goods 3" then some 3 else if line = "goods 4" then some 4 else none
inductive Rd where
  | ok (g : Nat) (ts : List Trd)
  | bad (i : Nat)
def goR (g : Nat) : List Str → Nat → List Trd → Rd
  | [], _, ts => .ok g ts
  | l :: ls, i, ts => if i ≤ 4 then (match tradeR g l with
    | none => .bad i
    | some t => goR g ls (i + 1) (ts ++ [t])) else .bad i
def readL : List Str → Rd
  | [] => .bad 0
  | l :: ls => match goodsR l with
    | none => .bad 0
    | some g => goR g ls 1 []
/-! small numbers and their texts -/
/-! joined lists -/
end Lb
namespace Lb
open PySem PySem.Spec PyProof.Rows L2 RZ TL
def optN : Option Nat → V
  | none => .non
  | some g => .int (g : Int)
end Lb
namespace Lb
open PySem PySem.Spec PyProof.Rows L2 RZ TL
end Lb
namespace Lb
open PySem PySem.Spec PyProof.Rows L2 RZ TL
theorem Dat.strI {R : Rgn} {H : Hp} {v : V} {s : Str} (h : Dat R H v (.str s)) : v = .str s := by
  cases h
  rfl
end Lb
namespace Lb
open PySem PySem.Spec PyProof.Rows L2 RZ TL
theorem passX0 {X : Cx} : Passes (L2.CX X.prog X.w) X L2.E0 := by
  intro pins σ H s e s' I h
  exfalso
  unfold L2.CX at h
  obtain ⟨_, _, _, h⟩ := h
  simp [L2.E0] at h
end Lb
namespace Lb
open PySem PySem.Spec PyProof.Rows L2 RZ TL
end Lb
set_option Elab.async false
set_option linter.all false
set_option maxRecDepth 100000
set_option maxHeartbeats 4000000
namespace Lb
open PySem PySem.Spec PyProof.Rows L2 RZ TL
/-! ### readings that the law does itself -/
/-! promises -/
end Lb
namespace Lb
open PySem PySem.Spec PyProof.Rows L2 RZ TL
/-! ### xs != [] -/
end Lb
set_option Elab.async false
set_option linter.all false
set_option maxRecDepth 100000
set_option maxHeartbeats 4000000
namespace Lb
open PySem PySem.Spec PyProof.Rows L2 RZ
/-! ### sorted(xs), xs plain data that is alike -/
end Lb
set_option Elab.async false
set_option linter.all false
set_option maxRecDepth 100000
set_option maxHeartbeats 4000000
namespace Lb
open PySem PySem.Spec PyProof.Rows L2 RZ
/-! ### zip over any number of tuples of one length -/
section
variable {prog : Program} {w : World} {A : Around} {E : Value → Shared → Prop}
end
/-! ### zip of four tuples -/
end Lb
set_option Elab.async false
set_option linter.all false
set_option maxRecDepth 100000
set_option maxHeartbeats 4000000
namespace Lb
open PySem PySem.Spec PyProof.Rows L2 RZ TL
/-! ### falling: the mathematics -/
end Lb
namespace Lb
open PySem PySem.Spec PyProof.Rows L2 RZ TL
end Lb
namespace Lb
open PySem PySem.Spec PyProof.Rows L2 RZ TL
end Lb
set_option Elab.async false
set_option linter.all false
set_option maxRecDepth 100000
set_option maxHeartbeats 4000000
namespace Lb
open PySem PySem.Spec PyProof.Rows L2 RZ TL
/-! ### amounts of any size: how long they are when shown -/
theorem numL_short : ∀ (k n : Nat), n < 10 ^ (k + 1) → (numL n).length ≤ k + 1
  | 0, n, h => by
    rw [numL_lt (by simpa using h)]
    exact Nat.le_refl _
  | k + 1, n, h => by
    by_cases h10 : n < 10
    · rw [numL_lt h10]
      exact Nat.succ_le_succ (Nat.zero_le _)
    · rw [numL_step (by omega), List.length_append, List.length_singleton]
      have : n / 10 < 10 ^ (k + 1) := by
        refine Nat.div_lt_of_lt_mul ?_
        rw [Nat.pow_succ] at h
        omega
      have := numL_short k (n / 10) this
      omega
/-! ### a pair of a key and its bag -/
abbrev pairD (x : List Int) : PyData := .tuple [keyD x, bagD x]
/-! ### amounts on the way down -/
end Lb
namespace Lb
open PySem PySem.Spec PyProof.Rows L2 RZ TL
theorem Dat.dpB {K : PySem.W.Frag} {R : Rgn} {H : Hp} {v : V} {x : List Int} (h : Dat R H v (bagD x)) : Dp K H v (bagD x) := by
  obtain ⟨a, rfl, _, e⟩ := h.bag
  exact dp_bag e
theorem Dat.dpP {K : PySem.W.Frag} {R : Rgn} {H : Hp} {v : V} {x : List Int} (h : Dat R H v (pairD x)) : Dp K H v (pairD x) := by
  obtain ⟨a, u, w, rfl, ra, e, du, dw⟩ := h.pair
  obtain ⟨k, ks, rfl, rk, ek, tk⟩ := du.tupI
  refine .tup (.inl (.inl e)) (.cons (.tup (.inl (.inl ek)) ?_) (.cons dw.dpB .nil))
  cases tk with
  | cons h1 t1 =>
    cases t1 with
    | cons h2 t2 =>
      cases t2 with
      | cons h3 t3 =>
        cases t3
        obtain rfl := h1.intI
        obtain rfl := h2.intI
        exact .cons (.int _) (.cons (.int _) (.cons h3.dpB .nil))
end Lb
set_option Elab.async false
set_option linter.all false
set_option maxRecDepth 100000
set_option maxHeartbeats 4000000
namespace Lb
open PySem PySem.Spec PyProof.Rows L2 RZ
/-! ### markets with a note -/
theorem side_bag {g m : Nat} {b : List Int} (s : Side g m b) : bagB (g : Int) (bagD b) = true := by
  rw [bagB_tup, Bool.and_eq_true]
  refine ⟨decide_eq_true (by rw [List.length_map, s.len]), List.all_eq_true.mpr fun d hd => ?_⟩
  obtain ⟨x, hx, rfl⟩ := List.mem_map.mp hd
  exact decide_eq_true (s.amt x hx).1
theorem ints_bag (b : List Int) : intsOf (bagD b) = b := by
  show (b.map PyData.int).map _ = b
  rw [List.map_map]
  exact List.map_id _
theorem side_any {g m : Nat} {b : List Int} (s : Side g m b) : b.any (fun i => decide (3 < i)) = false :=
  List.any_eq_false.mpr fun x hx z => by
    have h1 : 3 < x := of_decide_eq_true z
    have h2 := (s.amt x hx).2
    omega
theorem tw_ok0 {g : Nat} {t : Trd} (h : TrdOk g 4 t) : tw (g : Int) (trdD t) = none := by
  have h1 := h.1.tot
  have h2 := h.2.tot
  rw [tw_pair, side_bag h.1, side_bag h.2, ints_bag, ints_bag, side_any h.1, side_any h.2, decide_eq_false (by omega : ¬ (4 < t.1.sum)), decide_eq_false (by omega : ¬ (4 < t.2.sum))]
  rfl
theorem scan_ok0 {g : Nat} : ∀ {ts : List Trd} (k : Nat), (∀ t ∈ ts, TrdOk g 4 t) → scan (g : Int) (ts.map trdD) k = .none
  | [], _, _ => rfl
  | t :: ts, k, h => by
    rw [List.map_cons, scan_cons, tw_ok0 (h t List.mem_cons_self)]
    exact scan_ok0 (k + 1) fun x hx => h x (List.mem_cons_of_mem _ hx)
theorem err_ok0 {g : Nat} {ts : List Trd} (m : MktOk g ts) : mErr (mktD g ts) = .none := by
  have h1 := m.one
  have h2 := m.four
  rw [err_scan ⟨by omega, by omega⟩ (by rw [List.length_map]; exact m.many)]
  exact scan_ok0 0 m.all
/-! ### the promises -/
def spSmall : Sp := fun vs H Q _ => ∃ (R : Rgn) (d c r : Addr) (n : Nat), vs = [.ref d] ∧ Dk H d c r n ∧ n < 2 ^ 36 ∧ Rg R H d r ∧
  ∀ (H' : Hp) (v : V) (g : Nat) (ts : List Trd), MktOk g ts → g ≤ 3 → ts.length ≤ 3 → Dat R H' v (mktD g ts) → Dk H' d c r (n + 102) → Kp d r H H' → Q v H'
theorem Dat.trd {R : Rgn} {H : Hp} {v : V} {t : Trd} (h : Dat R H v (trdD t)) : ∃ a b c, v = .ref a ∧ R a ∧ H a = some (.tup [.ref b, .ref c]) ∧ R b ∧ H b = some (.tup (t.1.map V.int)) ∧ R c ∧ H c = some (.tup (t.2.map V.int)) := by
  cases h with
  | tup ra e t =>
    cases t with
    | cons h1 t =>
      cases t with
      | cons h2 t =>
        cases t
        obtain ⟨b, rfl, rb, eb⟩ := h1.bag
        obtain ⟨c, rfl, rc, ec⟩ := h2.bag
        exact ⟨_, _, _, rfl, ra, e, rb, eb, rc, ec⟩
theorem Dat.mkt {R : Rgn} {H : Hp} {v : V} {g : Nat} {ts : List Trd} (h : Dat R H v (mktD g ts)) : ∃ am tv ys, v = .ref am ∧ R am ∧ H am = some (.tup [.int (g : Int), .ref tv]) ∧ R tv ∧ H tv = some (.tup ys) ∧ Dats R H ys (ts.map trdD) := by
  cases h with
  | tup ra e t =>
    cases t with
    | cons h1 t =>
      cases h1
      cases t with
      | cons h2 t =>
        cases t
        cases h2 with
        | tup rb eb tb => exact ⟨_, _, _, rfl, ra, e, rb, eb, tb⟩
theorem Dat.mkTrd {R : Rgn} {H : Hp} {a b c : Addr} {x y : List Int} (ra : R a) (e : H a = some (.tup [.ref b, .ref c])) (rb : R b) (eb : H b = some (.tup (x.map V.int))) (rc : R c) (ec : H c = some (.tup (y.map V.int))) : Dat R H (.ref a) (trdD (x, y)) :=
  .tup ra e (.cons (Dat.mkBag rb eb) (.cons (Dat.mkBag rc ec) .nil))
end Lb
namespace Lb
open PySem PySem.Spec PyProof.Rows L2 RZ
theorem Dats.zipMem {R : Rgn} {H : Hp} : ∀ {vs : List V} {ds : List PyData}, Dats R H vs ds → ∀ z ∈ vs.zip ds, Dat R H z.1 z.2 ∧ z.2 ∈ ds
  | _, _, .nil => fun z hz => absurd hz List.not_mem_nil
  | _, _, .cons h t => fun z hz => by
    rw [List.zip_cons_cons] at hz
    rcases List.mem_cons.mp hz with rfl | hz
    · exact ⟨h, List.mem_cons_self⟩
    · exact ⟨(Dats.zipMem t z hz).1, List.mem_cons_of_mem _ (Dats.zipMem t z hz).2⟩
end Lb
set_option Elab.async false
set_option linter.all false
set_option maxRecDepth 100000
set_option maxHeartbeats 4000000
namespace Lb
open PySem PySem.Spec PyProof.Rows L2 RZ
/-! ### an error class without fields, raised without arguments -/
structure Err0 (K : PySem.W.Frag) (mg : Str → Option Value) (x : Str) (C : Addr) : Prop where
  gC : mg x = some (.ref C)
  xP : PySem.W.excIn K C [.type "ValueError", .type "Exception", .type "BaseException", .type "object"] "ValueError.__new__" = true
  kP : PySem.W.keepIn K (.ref C) = true
  bP : PySem.W.subIn K (.ref C) (.type "BaseException") = some true
  tP : PySem.W.typeIn K (.ref C) = some (.type "type")
  te : PySem.W.exmOne K (.ref C) (.ref C) = some true
theorem pmk_err0 {X : Cx} {x : Str} {C : Addr} {p pos : Pos} (T : Err0 X.K X.mg x C) (hg : Gl X x) (hdb : (x == ("__debug__" : Str)) = false := by decide) :
    PMk X (.Call (.Name x p) [] [] pos) (fun _ H Q => Q (.ref C) none H) := by
  intro pins s σ H Q I h
  refine wpAny_Call_Name_kw (ld_glob I hg T.gC ?_ hdb)
  refine PySem.W.callWith_K0 I.kIn T.kP ?_
  obtain ⟨bm, N, nm, qn, bs, hdct, sn, sub, ab, col, dd, k0, k1, k2, k3, k5, mN, hC, hN, hni, TT⟩ := exc_obj I.kIn T.xP
  refine wpAny_call_exc_subT PySem.F.excBase_ValueError TT hC hN hni (fun h' e hm => ?_) (Nat.zero_le _)
  exact mk_of I hm (raises_own T.bP T.tP) h (I.hok.gone hm.new)
/-! ### operators of an own class -/
section
variable {X : Cx} {CX : CXT} {C g : Addr} {n : Nat} {sp : Sp} {E : XK}
theorem ins_inst {pins : List (Addr × Obj)} {σ : L2.St} {H : Hp} {s : Shared} {a dx : Addr} {fs : List (Str × V)} (I : Inv X pins σ H s) (e : H a = some (.ins C dx fs)) : ∃ od, PySem.W.InstAt s.heap a (PySem.W.instObj C dx) C (some od) :=
  let ⟨_, O, _⟩ := ins_get I.hok e
  let ⟨od, J, _⟩ := O.look
  ⟨od, J⟩
/-- x op y, both of the class at C -/
def rBinO (C : Addr) (sp : Sp) (E : XK) : R2 := fun x y H Q => ∃ a dx fs b dy gs, x = .ref a ∧ y = .ref b ∧ H a = some (.ins C dx fs) ∧ H b = some (.ins C dy gs) ∧ sp [x, y] H Q E
theorem op_binO {op : Operator} (hc : PySem.W.selfFirst X.K C = true) (hs : PySem.W.findIn X.K (.ref C) (PySem.dunder op.info.2) = some (some (.ref g))) (hf : PySem.W.isFn X.K (.ref g) = true) (F : FnR X.prog X.w X.K X.mg X.base CX n g sp)
    (hr : Room n X.A) (hx : Passes CX X E) : OpR X (binaryOp op) (rBinO C sp E) := by
  intro pins s σ H x y v u Q I rx ry h
  obtain ⟨a, dx, fs, b, dy, gs, rfl, rfl, ha, hb, q⟩ := h
  cases (show v = Value.ref a from rx)
  cases (show u = Value.ref b from ry)
  obtain ⟨od, J⟩ := ins_inst I ha
  obtain ⟨od', J'⟩ := ins_inst I hb
  obtain ⟨m, hF⟩ := I.fr
  refine PySem.W.binop_K hF I.ok.mod.kin J J'.type hc hs hf ?_
  refine wpAny_mono (wpAny_call (run_fnR (us := [.ref a, .ref b]) (vs := [.ref a, .ref b]) F hr hx I (.cons rfl (.cons rfl .nil)) q)) (fun w s' z => ?_) fun _ _ x => x
  obtain ⟨z', H', I', rz, qz⟩ := z
  exact SlX.cmpback rz ⟨z', H', I', rz, qz⟩
/-- x == y, both of the class at C -/
theorem op_cmpO {op : CmpOp} (hop : ∀ a b, compareOp op a b = richCompare op a b) (hs : PySem.W.findIn X.K (.ref C) (cmpInfo op).2.1 = some (some (.ref g))) (hf : PySem.W.isFn X.K (.ref g) = true) (F : FnR X.prog X.w X.K X.mg X.base CX n g sp)
    (hr : Room n X.A) (hx : Passes CX X E) : OpR X (compareOp op) (rBinO C sp E) := by
  intro pins s σ H x y v u Q I rx ry h
  obtain ⟨a, dx, fs, b, dy, gs, rfl, rfl, ha, hb, q⟩ := h
  cases (show v = Value.ref a from rx)
  cases (show u = Value.ref b from ry)
  obtain ⟨od, J⟩ := ins_inst I ha
  obtain ⟨od', J'⟩ := ins_inst I hb
  obtain ⟨m, hF⟩ := I.fr
  rw [hop]
  refine PySem.W.cmp_K (op := op) (tb := .ref C) hr.units0 hF I.ok.mod.kin J J'.type (by unfold PySem.W.notFirst; rw [beq_self_eq_true]; rfl) hs hf ?_
  refine wpAny_mono (wpAny_call (run_fnR (us := [.ref a, .ref b]) (vs := [.ref a, .ref b]) F hr hx I (.cons rfl (.cons rfl .nil)) q)) (fun w s' z => ?_) fun _ _ x => x
  obtain ⟨z', H', I', rz, qz⟩ := z
  exact SlX.cmpback rz ⟨z', H', I', rz, qz⟩
end
end Lb
set_option Elab.async false
set_option linter.all false
set_option maxRecDepth 100000
set_option maxHeartbeats 4000000
namespace Lb
open PySem PySem.Spec PyProof.Rows L2 RZ PySem.SeqAt
/-! ### sorted(xs), xs tuples that are alike, the first of them empty -/
section
variable {prog : Program} {w : World} {A : Around} {E : Value → Shared → Prop} {s : Shared}
end
end Lb
namespace Lb
open PySem PySem.Spec PyProof.Rows L2 RZ
theorem rd_rep0 {K : PySem.W.Frag} {R : Rgn} {H : Hp} {z : Addr} {k : Nat} {Q : VK} (ez : H z = some (.tup [.int 0])) (rz : R z) (new : ∀ p, H p = none → R p) (hk : k ≤ 1000)
    (q : ∀ (H' : Hp) (p : Addr), Same H H' → R p → H' p = some (.tup ((List.replicate k (0 : Int)).map V.int)) → Q (.ref p) H') : rRepA K (.ref z) (.int (k : Int)) H Q := by
  refine ⟨z, k, [.int 0], rfl, rfl, .inl (.inl ez), by omega, by omega, by decide, by simp, fun h => ?_, fun h p hp => ?_⟩
  · have : k = 1 := by omega
    subst this
    exact q H z (Same.refl H) rz ez
  · rw [Int.toNat_natCast, rep0]
    exact q _ p (same_upd hp) (new p hp) upd_same
end Lb
set_option Elab.async false
set_option linter.all false
set_option maxRecDepth 100000
set_option maxHeartbeats 4000000
namespace Lb
open PySem PySem.Spec PyProof.Rows L2 RZ
/-! ### enumerate(zip(t, u)), t and u tuples -/
abbrev ZipF (h : Heap) (z TI TO : Addr) (f0 : Value) (f : Bool) : Prop := h.get? z = some { cls := .type "zip", dict := none, data := .fields #[f0, .bool f, .bool false, .ref TI, .ref TO], slots := #[] }
/-- a zip between two turns: its own tuple is free, or was handed out -/
def ZipA (h : Heap) (z TI TO : Addr) : Prop := ∃ f0 f, ZipF h z TI TO f0 f ∧ (f0 = .none ∨ ∃ T : Nat, f0 = rawInt T)
section
variable {prog : Program} {w : World} {A : Around} {E : Value → Shared → Prop} {s : Shared} {z TI TO i1 i2 a b : Addr} {i : Nat}
theorem owned_any {Q : Bool → Shared → Prop} (hz : ZipA s.heap z TI TO) (h : ∀ k h' f0 f, ZipF h' z TI TO f0 f → (f0 = .none ∨ ∃ T : Nat, f0 = rawInt T) → Heap.SameBut z s.heap h' → Q k { s with heap := h' }) : wpAny (model prog w) A (Builtin.SmallTypes.ownedTupleIsFree (.ref z)) Q E s := by
  obtain ⟨f0, f, hz, hf⟩ := hz
  rcases hf with rfl | ⟨T, rfl⟩
  · unfold Builtin.SmallTypes.ownedTupleIsFree
    exact wpAny_bind (wpAny_field hz rfl (x := .none) rfl (wpAny_pure (h true s.heap _ _ hz (.inl rfl) (Heap.SameBut.refl _ _))))
  · cases hT : s.heap.get? T with
    | some oT => exact wpAny_tupleHeld_zip hz hT fun h' hz' sb => h false h' _ _ hz' (.inr ⟨T, rfl⟩) sb
    | none =>
      unfold Builtin.SmallTypes.ownedTupleIsFree
      refine wpAny_bind (wpAny_field hz rfl (x := rawInt T) rfl ?_)
      show wpAny _ _ (loadIfAlive ((T : Int).toNat) >>= _) _ _ _
      rw [Int.toNat_natCast]
      have al : ∀ {Q' : Option Obj → Shared → Prop}, Q' none s → wpAny (model prog w) A (loadIfAlive T) Q' E s := fun {Q'} q => by
        have q' : Q' (s.heap.get? T) s := by rw [hT]; exact q
        exact fun _ _ _ => q'
      refine wpAny_bind (al ?_)
      exact wpAny_pure (h true s.heap _ _ hz (.inr ⟨T, rfl⟩) (Heap.SameBut.refl _ _))
/-- what a turn of zip leaves -/
structure ZipTurn (h h' : Heap) (z TI TO i1 i2 a b : Addr) (i : Nat) (x y : Value) : Prop where
  zz : ZipA h' z TI TO
  oo : ∃ y1 y2, IsTupOf2 h' TO y1 y2
  t1 : h'.IsTupleIter i1 a (i + 1)
  t2 : h'.IsTupleIter i2 b (i + 1)
  new : IsTupOf2 h' h.objs.size x y
  size : h'.objs.size = h.objs.size + 1
  keep : ∀ c o, c ≠ z → c ≠ TO → c ≠ i1 → c ≠ i2 → h.get? c = some o → h'.get? c = some o
theorem zipA_item {xs ys : Array Value} {x y : Value} {Q : Value → Shared → Prop} (S : ZipSep2 z TI TO i1 i2 [i1, a] [i2, b]) (hz : ZipA s.heap z TI TO) (hTI : IsTupOf2 s.heap TI (.ref i1) (.ref i2)) (hTO : ∃ y1 y2, IsTupOf2 s.heap TO y1 y2)
    (h1 : s.heap.IsTupleIter i1 a i) (h2 : s.heap.IsTupleIter i2 b i) (p1 : s.heap.IsTuple a xs) (p2 : s.heap.IsTuple b ys) (hx : xs[i]? = some x) (hy : ys[i]? = some y)
    (hQ : ∀ h', ZipTurn s.heap h' z TI TO i1 i2 a b i x y → Q (.ref s.heap.objs.size) { s with heap := h' }) : wpAny (model prog w) A (Builtin.SmallTypes.nextOf (.ref z)) Q E s := by
  obtain ⟨y1, y2, hTO⟩ := hTO
  obtain ⟨f0, f, hz0, hf0⟩ := id hz
  have hT : s.TypeIs (.ref z) "zip" := ⟨_, hz0, rfl⟩
  have naz : a ≠ z := fun q => S.zf1 (by rw [q]; simp)
  have nbz : b ≠ z := fun q => S.zf2 (by rw [q]; simp)
  have naT : a ≠ TO := fun q => S.Tf1 (by rw [q]; simp)
  have nbT : b ≠ TO := fun q => S.Tf2 (by rw [q]; simp)
  have n12 : i1 ≠ i2 := fun q => S.sep1_2 (by rw [q]; simp)
  have nb1 : b ≠ i1 := fun q => S.sep1_2 (by rw [q]; simp)
  have na2 : a ≠ i2 := fun q => S.sep2_1 (by rw [q]; simp)
  unfold Builtin.SmallTypes.nextOf
  refine wpAny_bind (wpAny_callSpecial?_slot (name := Str.ofString "__next__") hT F.slot_zip_next (wpAny_call_entry F.slot_zip_next hT F.entry_zip_next ?_ (F.args_zip_next_1 _)))
  show wpAny _ _ (field (.ref z) 2 >>= _) _ _ _
  refine wpAny_bind (wpAny_field hz0 rfl (x := .bool false) rfl ?_)
  show wpAny _ _ (field (.ref z) 3 >>= _) _ _ _
  refine wpAny_bind (wpAny_field hz0 rfl (x := .ref TI) rfl (wpAny_bind (wpAny_seqItems hTI rfl ?_)))
  show wpAny _ _ (Builtin.SmallTypes.ownedTupleIsFree (.ref z) >>= _) _ _ _
  refine wpAny_bind (owned_any hz fun k g0 f0 f hz1 hf1 sb0 => ?_)
  have t1 : g0.IsTupleIter i1 a i := h1.at fun o u => sb0.extBut _ _ S.zi1.symm u
  have t2 : g0.IsTupleIter i2 b i := h2.at fun o u => sb0.extBut _ _ S.zi2.symm u
  have q1 : g0.IsTuple a xs := p1.at fun o u => sb0.extBut _ _ naz u
  have q2 : g0.IsTuple b ys := p2.at fun o u => sb0.extBut _ _ nbz u
  have sz0 : g0.objs.size = s.heap.objs.size := sb0.1
  have hO0 : IsTupOf2 g0 TO y1 y2 := sb0.extBut _ _ S.TOz hTO
  have k0 : ∀ c o, c ≠ z → s.heap.get? c = some o → g0.get? c = some o := fun c o n e => sb0.extBut _ _ n e
  obtain ⟨hp, gg, dd, tk, os⟩ := s
  dsimp only at *
  cases k with
  | false =>
    simp only [Bool.false_eq_true, if_false]
    refine wpAny_bind ?_
    rw [← Array.forIn_toList]
    simp only [List.forIn_cons, List.forIn_nil]
    refine wpAny_bind (wpAny_bind (wpAny_holding ?_))
    show wpAny _ _ (Builtin.SmallTypes.nextOf (.ref i1) >>= _) _ _ ⟨g0, gg, dd, tk, os⟩
    refine wpAny_bind (wpAny_nextOf_tuple_item (s := ⟨g0, gg, dd, tk, os⟩) t1 q1 hx fun g1 t1' sb1 => wpAny_pure (wpAny_pure ?_))
    refine wpAny_bind (wpAny_bind (wpAny_holding ?_))
    show wpAny _ _ (Builtin.SmallTypes.nextOf (.ref i2) >>= _) _ _ ⟨g1, gg, dd, tk, os⟩
    refine wpAny_bind (wpAny_nextOf_tuple_item (s := ⟨g1, gg, dd, tk, os⟩) (t2.at fun o u => sb1.extBut _ _ n12.symm u) (q2.at fun o u => sb1.extBut _ _ nb1 u) hy fun g2 t2' sb2 => wpAny_pure (wpAny_pure (wpAny_pure ?_)))
    show wpAny _ _ (newTuple [x, y] >>= _) _ _ ⟨g2, gg, dd, tk, os⟩
    refine wpAny_bind (wpAny_newTuple (wpAny_pure ⟨_, rfl, ?_⟩))
    have sz2 : g2.objs.size = hp.objs.size := sb2.1.trans (sb1.1.trans sz0)
    have k2 : ∀ c o, c ≠ z → c ≠ i1 → c ≠ i2 → hp.get? c = some o → (g2.push { cls := .type "tuple", data := .seq #[x, y] }).get? c = some o := fun c o n1 n2 n3 e => Heap.get?_push_of_some _ (sb2.extBut _ _ n3 (sb1.extBut _ _ n2 (k0 c o n1 e)))
    have fin := hQ (g2.push { cls := .type "tuple", data := .seq #[x, y] }) ⟨⟨f0, f, Heap.get?_push_of_some _ (sb2.extBut _ _ S.zi2 (sb1.extBut _ _ S.zi1 hz1)), hf1⟩, ⟨y1, y2, Heap.get?_push_of_some _ (sb2.extBut _ _ S.Ti2 (sb1.extBut _ _ S.Ti1 hO0))⟩,
      t1'.at fun o u => Heap.get?_push_of_some _ (sb2.extBut _ _ n12 u), t2'.at fun o u => Heap.get?_push_of_some _ u, by rw [← sz2]; exact Heap.get?_push_size _ rfl, by rw [Heap.size_push, sz2], fun c o n1 _ n3 n4 e => k2 c o n1 n3 n4 e⟩
    show wpAny _ _ (pure (Value.ref g2.objs.size)) _ _ _
    rw [sz2]
    exact wpAny_pure fin
  | true =>
    simp only [if_true]
    refine wpAny_bind (wpAny_rule (wpAny_bind (wpAny_field (s := ⟨g0, gg, dd, tk, os⟩) hz1 rfl (x := .ref TO) rfl ?_)))
    refine wpAny_bind (wpAny_setField_rec (s := ⟨g0, gg, dd, tk, os⟩) hz1 (by simp) fun g1 hzE sb1 => wpAny_bind ?_)
    have hzE : ZipF g1 z TI TO .ellipsis f := hzE
    have sb1 : Heap.SameBut z g0 g1 := sb1
    simp only [List.zipIdx_cons, List.zipIdx_nil, List.forIn_cons, List.forIn_nil]
    refine wpAny_bind (wpAny_bind (wpAny_onRaise ?_))
    show wpAny _ _ (Builtin.SmallTypes.nextOf (.ref i1) >>= _) _ _ ⟨g1, gg, dd, tk, os⟩
    refine wpAny_bind (wpAny_nextOf_tuple_item (s := ⟨g1, gg, dd, tk, os⟩) (t1.at fun o u => sb1.extBut _ _ S.zi1.symm u) (q1.at fun o u => sb1.extBut _ _ naz u) hx fun g2 t1' sb2 => wpAny_pure ?_)
    have sb2 : Heap.SameBut i1 g1 g2 := sb2
    have hO2 : IsTupOf2 g2 TO y1 y2 := sb2.extBut _ _ S.Ti1 (sb1.extBut _ _ S.TOz hO0)
    refine wpAny_bind (wpAny_seqItems (s := ⟨g2, gg, dd, tk, os⟩) hO2 rfl (wpAny_bind (updateSeq_IsTupOf2 (s := ⟨g2, gg, dd, tk, os⟩) hO2 fun g3 hO3 sb3 => wpAny_bind (wpAny_letGo (wpAny_pure ?_)))))
    have hO3 : IsTupOf2 g3 TO x y2 := hO3
    have sb3 : Heap.SameBut TO g2 g3 := sb3
    refine wpAny_bind (wpAny_bind (wpAny_onRaise ?_))
    show wpAny _ _ (Builtin.SmallTypes.nextOf (.ref i2) >>= _) _ _ ⟨g3, gg, dd, tk, os⟩
    have t2b : g3.IsTupleIter i2 b i := t2.at fun o u => sb3.extBut _ _ S.Ti2.symm (sb2.extBut _ _ n12.symm (sb1.extBut _ _ S.zi2.symm u))
    have q2b : g3.IsTuple b ys := q2.at fun o u => sb3.extBut _ _ nbT (sb2.extBut _ _ nb1 (sb1.extBut _ _ nbz u))
    refine wpAny_bind (wpAny_nextOf_tuple_item (s := ⟨g3, gg, dd, tk, os⟩) t2b q2b hy fun g4 t2' sb4 => wpAny_pure ?_)
    have sb4 : Heap.SameBut i2 g3 g4 := sb4
    have hO4 : IsTupOf2 g4 TO x y2 := sb4.extBut _ _ S.Ti2 hO3
    refine wpAny_bind (wpAny_seqItems (s := ⟨g4, gg, dd, tk, os⟩) hO4 rfl (wpAny_bind (updateSeq_IsTupOf2 (s := ⟨g4, gg, dd, tk, os⟩) hO4 fun g5 hO5 sb5 => wpAny_bind (wpAny_letGo (wpAny_pure (wpAny_pure ?_))))))
    have hO5 : IsTupOf2 g5 TO x y := hO5
    have sb5 : Heap.SameBut TO g4 g5 := sb5
    refine wpAny_bind (wpAny_seqItems (s := ⟨g5, gg, dd, tk, os⟩) hO5 rfl (wpAny_bind (wpAny_newTuple ?_)))
    have sz5 : g5.objs.size = hp.objs.size := by rw [sb5.1, sb4.1, sb3.1, sb2.1, sb1.1, sz0]
    have hz5 : ZipF g5 z TI TO .ellipsis f := sb5.extBut _ _ S.TOz.symm (sb4.extBut _ _ S.zi2 (sb3.extBut _ _ S.TOz.symm (sb2.extBut _ _ S.zi1 hzE)))
    have zlt : z < g5.objs.size := Heap.lt_size hz5
    have k5 : ∀ c o, c ≠ z → c ≠ TO → c ≠ i1 → c ≠ i2 → hp.get? c = some o → g5.get? c = some o := fun c o n1 n2 n3 n4 e => sb5.extBut _ _ n2 (sb4.extBut _ _ n4 (sb3.extBut _ _ n2 (sb2.extBut _ _ n3 (sb1.extBut _ _ n1 (k0 c o n1 e)))))
    have t1e : g5.IsTupleIter i1 a (i + 1) := t1'.at fun o u => sb5.extBut _ _ S.Ti1.symm (sb4.extBut _ _ n12 (sb3.extBut _ _ S.Ti1.symm u))
    have t2e : g5.IsTupleIter i2 b (i + 1) := t2'.at fun o u => sb5.extBut _ _ S.Ti2.symm u
    show wpAny _ _ (Builtin.SmallTypes.ownedTupleHandOut (.ref z) (.ref g5.objs.size) >>= _) _ _ ⟨g5.push { cls := .type "tuple", data := .seq #[x, y] }, gg, dd, tk, os⟩
    unfold Builtin.SmallTypes.ownedTupleHandOut
    have hz6 : ZipF (g5.push { cls := .type "tuple", data := .seq #[x, y] }) z TI TO .ellipsis f := Heap.get?_push_of_some _ hz5
    refine wpAny_bind (wpAny_bind (wpAny_setField_rec (s := ⟨g5.push { cls := .type "tuple", data := .seq #[x, y] }, gg, dd, tk, os⟩) hz6 (by simp) fun g7 hz7 sb7 => ?_))
    have hz7 : ZipF g7 z TI TO (rawInt g5.objs.size) f := hz7
    have sb7 : Heap.SameBut z (g5.push { cls := .type "tuple", data := .seq #[x, y] }) g7 := sb7
    refine wpAny_setField_rec (s := ⟨g7, gg, dd, tk, os⟩) hz7 (by simp) fun g8 hz8 sb8 => wpAny_pure ⟨_, rfl, ?_⟩
    have hz8 : ZipF g8 z TI TO (rawInt g5.objs.size) false := hz8
    have sb8 : Heap.SameBut z g7 g8 := sb8
    have up : ∀ c o, c ≠ z → g5.get? c = some o → g8.get? c = some o := fun c o n e => sb8.extBut _ _ n (sb7.extBut _ _ n (Heap.get?_push_of_some _ e))
    have fin := hQ g8 ⟨⟨_, _, hz8, .inr ⟨_, rfl⟩⟩, ⟨x, y, up _ _ S.TOz hO5⟩, t1e.at fun o u => up _ _ S.zi1.symm u, t2e.at fun o u => up _ _ S.zi2.symm u,
      by rw [← sz5]; exact sb8.extBut _ _ (Nat.ne_of_gt zlt) (sb7.extBut _ _ (Nat.ne_of_gt zlt) (Heap.get?_push_size _ rfl)), by rw [sb8.1, sb7.1, Heap.size_push, sz5], fun c o n1 n2 n3 n4 e => up c o n1 (k5 c o n1 n2 n3 n4 e)⟩
    show wpAny _ _ (pure (Value.ref g5.objs.size)) _ _ _
    rw [sz5]
    exact wpAny_pure fin
/-- a zip at its end raises StopIteration -/
theorem zipA_end {xs ys : Array Value} {Q : Value → Shared → Prop} (hh : A.handled = none) (S : ZipSep2 z TI TO i1 i2 [i1, a] [i2, b]) (hz : ZipA s.heap z TI TO) (hTI : IsTupOf2 s.heap TI (.ref i1) (.ref i2)) (hTO : ∃ y1 y2, IsTupOf2 s.heap TO y1 y2)
    (h1 : s.heap.IsTupleIter i1 a i) (h2 : s.heap.IsTupleIter i2 b i) (p1 : s.heap.IsTuple a xs) (p2 : s.heap.IsTuple b ys) (hend : xs[i]? = none ∨ ys[i]? = none)
    (hE : ∀ h' e, (∀ c o, c ≠ z → c ≠ TO → c ≠ i1 → c ≠ i2 → s.heap.get? c = some o → h'.get? c = some o) → (∃ o, h'.get? e = some o ∧ o.cls = .type "StopIteration") → E (.ref e) { s with heap := h' }) :
    wpAny (model prog w) A (Builtin.SmallTypes.nextOf (.ref z)) Q E s := by
  obtain ⟨y1, y2, hTO⟩ := hTO
  obtain ⟨f0, f, hz0, hf0⟩ := id hz
  have hT : s.TypeIs (.ref z) "zip" := ⟨_, hz0, rfl⟩
  have naz : a ≠ z := fun q => S.zf1 (by rw [q]; simp)
  have nbz : b ≠ z := fun q => S.zf2 (by rw [q]; simp)
  have nbT : b ≠ TO := fun q => S.Tf2 (by rw [q]; simp)
  have n12 : i1 ≠ i2 := fun q => S.sep1_2 (by rw [q]; simp)
  have nb1 : b ≠ i1 := fun q => S.sep1_2 (by rw [q]; simp)
  unfold Builtin.SmallTypes.nextOf
  refine wpAny_bind (wpAny_callSpecial?_slot (name := Str.ofString "__next__") hT F.slot_zip_next (wpAny_call_entry F.slot_zip_next hT F.entry_zip_next ?_ (F.args_zip_next_1 _)))
  show wpAny _ _ (field (.ref z) 2 >>= _) _ _ _
  refine wpAny_bind (wpAny_field hz0 rfl (x := .bool false) rfl ?_)
  show wpAny _ _ (field (.ref z) 3 >>= _) _ _ _
  refine wpAny_bind (wpAny_field hz0 rfl (x := .ref TI) rfl (wpAny_bind (wpAny_seqItems hTI rfl ?_)))
  show wpAny _ _ (Builtin.SmallTypes.ownedTupleIsFree (.ref z) >>= _) _ _ _
  refine wpAny_bind (owned_any hz fun k g0 f0 f hz1 hf1 sb0 => ?_)
  have t1 : g0.IsTupleIter i1 a i := h1.at fun o u => sb0.extBut _ _ S.zi1.symm u
  have t2 : g0.IsTupleIter i2 b i := h2.at fun o u => sb0.extBut _ _ S.zi2.symm u
  have q1 : g0.IsTuple a xs := p1.at fun o u => sb0.extBut _ _ naz u
  have q2 : g0.IsTuple b ys := p2.at fun o u => sb0.extBut _ _ nbz u
  have hO0 : IsTupOf2 g0 TO y1 y2 := sb0.extBut _ _ S.TOz hTO
  have k0 : ∀ c o, c ≠ z → s.heap.get? c = some o → g0.get? c = some o := fun c o n e => sb0.extBut _ _ n e
  obtain ⟨hp, gg, dd, tk, os⟩ := s
  dsimp only at *
  cases k with
  | false =>
    simp only [Bool.false_eq_true, if_false]
    refine wpAny_bind ?_
    rw [← Array.forIn_toList]
    simp only [List.forIn_cons, List.forIn_nil]
    refine wpAny_bind (wpAny_bind (wpAny_holding ?_))
    show wpAny _ _ (Builtin.SmallTypes.nextOf (.ref i1) >>= _) _ _ ⟨g0, gg, dd, tk, os⟩
    cases hx : xs[i]? with
    | none => exact wpAny_bind (wpAny_nextOf_tuple_end (s := ⟨g0, gg, dd, tk, os⟩) hh t1 q1 hx fun g1 e sb1 he => hE g1 e (fun c o n1 _ n3 _ u => sb1 _ _ n3 (k0 c o n1 u)) he)
    | some x =>
      have hy : ys[i]? = none := hend.resolve_left fun q => by rw [hx] at q; cases q
      refine wpAny_bind (wpAny_nextOf_tuple_item (s := ⟨g0, gg, dd, tk, os⟩) t1 q1 hx fun g1 t1' sb1 => wpAny_pure (wpAny_pure ?_))
      refine wpAny_bind (wpAny_bind (wpAny_holding ?_))
      show wpAny _ _ (Builtin.SmallTypes.nextOf (.ref i2) >>= _) _ _ ⟨g1, gg, dd, tk, os⟩
      exact wpAny_bind (wpAny_nextOf_tuple_end (s := ⟨g1, gg, dd, tk, os⟩) hh (t2.at fun o u => sb1.extBut _ _ n12.symm u) (q2.at fun o u => sb1.extBut _ _ nb1 u) hy fun g2 e sb2 he => hE g2 e (fun c o n1 _ n3 n4 u => sb2 _ _ n4 (sb1.extBut _ _ n3 (k0 c o n1 u))) he)
  | true =>
    simp only [if_true]
    refine wpAny_bind (wpAny_rule (wpAny_bind (wpAny_field (s := ⟨g0, gg, dd, tk, os⟩) hz1 rfl (x := .ref TO) rfl ?_)))
    refine wpAny_bind (wpAny_setField_rec (s := ⟨g0, gg, dd, tk, os⟩) hz1 (by simp) fun g1 hzE sb1 => wpAny_bind ?_)
    have hzE : ZipF g1 z TI TO .ellipsis f := hzE
    have sb1 : Heap.SameBut z g0 g1 := sb1
    simp only [List.zipIdx_cons, List.zipIdx_nil, List.forIn_cons, List.forIn_nil]
    refine wpAny_bind (wpAny_bind (wpAny_onRaise ?_))
    show wpAny _ _ (Builtin.SmallTypes.nextOf (.ref i1) >>= _) _ _ ⟨g1, gg, dd, tk, os⟩
    have t1b : g1.IsTupleIter i1 a i := t1.at fun o u => sb1.extBut _ _ S.zi1.symm u
    have q1b : g1.IsTuple a xs := q1.at fun o u => sb1.extBut _ _ naz u
    have back : ∀ (g2 : Heap) (e : Addr), ZipF g2 z TI TO .ellipsis f → (∀ c o, c ≠ z → c ≠ TO → c ≠ i1 → c ≠ i2 → hp.get? c = some o → g2.get? c = some o) → (∃ o, g2.get? e = some o ∧ o.cls = .type "StopIteration") →
        ∀ {A' : Around}, wpAny (model prog w) A' (setField (.ref z) 0 .none) (fun _ s'' => E (.ref e) s'') E ⟨g2, gg, dd, tk, os⟩ := by
      intro g2 e hz2 k2 he A'
      obtain ⟨oe, hoe, hce⟩ := he
      refine wpAny_setField_rec (s := ⟨g2, gg, dd, tk, os⟩) hz2 (by simp) fun g3 _ sb3 => hE g3 e (fun c o n1 n2 n3 n4 u => sb3.extBut _ _ n1 (k2 c o n1 n2 n3 n4 u)) ⟨oe, sb3.extBut _ _ (fun q => ?_) hoe, hce⟩
      rw [q] at hoe
      rw [show g2.get? z = some _ from hz2] at hoe
      cases hoe
      injection hce with q2
      exact absurd q2 (by decide)
    cases hx : xs[i]? with
    | none => exact wpAny_bind (wpAny_nextOf_tuple_end (s := ⟨g1, gg, dd, tk, os⟩) hh t1b q1b hx fun g2 e sb2 he => back g2 e (sb2 _ _ S.zi1 hzE) (fun c o n1 _ n3 _ u => sb2 _ _ n3 (sb1.extBut _ _ n1 (k0 c o n1 u))) he)
    | some x =>
      have hy : ys[i]? = none := hend.resolve_left fun q => by rw [hx] at q; cases q
      refine wpAny_bind (wpAny_nextOf_tuple_item (s := ⟨g1, gg, dd, tk, os⟩) t1b q1b hx fun g2 t1' sb2 => wpAny_pure ?_)
      have sb2 : Heap.SameBut i1 g1 g2 := sb2
      have hO2 : IsTupOf2 g2 TO y1 y2 := sb2.extBut _ _ S.Ti1 (sb1.extBut _ _ S.TOz hO0)
      refine wpAny_bind (wpAny_seqItems (s := ⟨g2, gg, dd, tk, os⟩) hO2 rfl (wpAny_bind (updateSeq_IsTupOf2 (s := ⟨g2, gg, dd, tk, os⟩) hO2 fun g3 hO3 sb3 => wpAny_bind (wpAny_letGo (wpAny_pure ?_)))))
      have sb3 : Heap.SameBut TO g2 g3 := sb3
      refine wpAny_bind (wpAny_bind (wpAny_onRaise ?_))
      show wpAny _ _ (Builtin.SmallTypes.nextOf (.ref i2) >>= _) _ _ ⟨g3, gg, dd, tk, os⟩
      have t2b : g3.IsTupleIter i2 b i := t2.at fun o u => sb3.extBut _ _ S.Ti2.symm (sb2.extBut _ _ n12.symm (sb1.extBut _ _ S.zi2.symm u))
      have q2b : g3.IsTuple b ys := q2.at fun o u => sb3.extBut _ _ nbT (sb2.extBut _ _ nb1 (sb1.extBut _ _ nbz u))
      have hz3 : ZipF g3 z TI TO .ellipsis f := sb3.extBut _ _ S.TOz.symm (sb2.extBut _ _ S.zi1 hzE)
      exact wpAny_bind (wpAny_nextOf_tuple_end (s := ⟨g3, gg, dd, tk, os⟩) hh t2b q2b hy fun g4 e sb4 he => back g4 e (sb4 _ _ S.zi2 hz3) (fun c o n1 n2 n3 n4 u => sb4 _ _ n4 (sb3.extBut _ _ n2 (sb2.extBut _ _ n3 (sb1.extBut _ _ n1 (k0 c o n1 u))))) he)
/-- what a turn of enumerate leaves of the heap that its source's turn left -/
structure EnumTurn (h h' : Heap) (e it : Addr) (c : Int) (t : Tok) (x : Value) : Prop where
  out : IsEnumOut h' e it (c + 1) x h.objs.size
  new : h'.get? h.objs.size = some { cls := .type "tuple", data := .seq #[.int c t, x] }
  keep : ∀ b o, b ≠ e → h.get? b = some o → h'.get? b = some o
theorem enumA_item {e it : Addr} {c : Int} {old : Value} {Q : Option Value → Shared → Prop} (he : IsEnum s.heap e it c old)
    (h : wpAny (model prog w) A.in1 (Builtin.SmallTypes.nextOf (.ref it)) (fun x s1 => IsEnum s1.heap e it c old ∧ ∀ h', EnumTurn s1.heap h' e it c s1.toks x → Q (some (.ref s1.heap.objs.size)) { s1 with heap := h', toks := s1.toks + 1 }) (fun _ _ => False) s) :
    wpAny (model prog w) A (pyNext (.ref e)) Q E s := by
  have hT : s.TypeIs (.ref e) "enumerate" := ⟨_, he, rfl⟩
  unfold pyNext
  refine wpAny_bind (wpAny_attempt (wpAny_callSpecial?_slot (name := Str.ofString "__next__") hT F.slot_enumerate_next (wpAny_call_entry F.slot_enumerate_next hT F.entry_enumerate_next ?_ (F.args_enumerate_next_1 _))))
  show wpAny _ _ (field (.ref e) 2 >>= _) _ _ _
  refine wpAny_bind (wpAny_field he rfl (x := .ref it) rfl (wpAny_bind (wpAny_mono h (fun x s1 hs1 => ?_) fun _ _ z => z.elim)))
  obtain ⟨g1, gg, dd, tk, os⟩ := s1
  obtain ⟨he1, fin⟩ := hs1
  dsimp only at he1 fin
  show wpAny _ _ (field (.ref e) 3 >>= _) _ _ ⟨g1, gg, dd, tk, os⟩
  refine wpAny_bind (wpAny_field (s := ⟨g1, gg, dd, tk, os⟩) he1 rfl (x := rawInt c) rfl ?_)
  show wpAny _ _ (field (.ref e) 4 >>= _) _ _ ⟨g1, gg, dd, tk, os⟩
  refine wpAny_bind (wpAny_field (s := ⟨g1, gg, dd, tk, os⟩) he1 rfl (x := .none) rfl ?_)
  show wpAny _ _ (mkInt c >>= _) _ _ ⟨g1, gg, dd, tk, os⟩
  refine wpAny_bind (wpAny_mkInt ?_)
  show wpAny _ _ (setField (.ref e) 3 (rawInt (c + 1)) >>= _) _ _ ⟨g1, gg, dd, tk + 1, os⟩
  refine wpAny_bind (wpAny_setField_rec (s := ⟨g1, gg, dd, tk + 1, os⟩) he1 (by simp) fun g2 he2 sb2 => ?_)
  have he2 : IsEnum g2 e it (c + 1) old := he2
  have sb2 : Heap.SameBut e g1 g2 := sb2
  show wpAny _ _ (setField (.ref e) 4 .none >>= _) _ _ ⟨g2, gg, dd, tk + 1, os⟩
  refine wpAny_bind (wpAny_setField_rec (s := ⟨g2, gg, dd, tk + 1, os⟩) he2 (by simp) fun g3 he3 sb3 => ?_)
  have he3 : IsEnum g3 e it (c + 1) old := he3
  have sb3 : Heap.SameBut e g2 g3 := sb3
  have sz3 : g3.objs.size = g1.objs.size := sb3.1.trans sb2.1
  show wpAny _ _ (newTuple [.int c tk, x] >>= _) _ _ ⟨g3, gg, dd, tk + 1, os⟩
  refine wpAny_bind (wpAny_newTuple ?_)
  have he4 : IsEnum (g3.push { cls := .type "tuple", data := .seq #[.int c tk, x] }) e it (c + 1) old := Heap.get?_push_of_some _ he3
  have elt : e < g3.objs.size := Heap.lt_size he3
  show wpAny _ _ (Builtin.SmallTypes.ownedTupleIsFree (.ref e) >>= _) _ _ ⟨g3.push { cls := .type "tuple", data := .seq #[.int c tk, x] }, gg, dd, tk + 1, os⟩
  unfold Builtin.SmallTypes.ownedTupleIsFree
  refine wpAny_bind (wpAny_bind (wpAny_field (s := ⟨g3.push { cls := .type "tuple", data := .seq #[.int c tk, x] }, gg, dd, tk + 1, os⟩) he4 rfl (x := .none) rfl (wpAny_pure ?_)))
  simp only [if_true]
  refine wpAny_bind (wpAny_rule (wpAny_bind (wpAny_field (s := ⟨g3.push { cls := .type "tuple", data := .seq #[.int c tk, x] }, gg, dd, tk + 1, os⟩) he4 rfl (x := old) rfl ?_)))
  refine wpAny_bind (wpAny_setField_rec (s := ⟨g3.push { cls := .type "tuple", data := .seq #[.int c tk, x] }, gg, dd, tk + 1, os⟩) he4 (by simp) fun g5 he5 sb5 => ?_)
  have he5 : IsEnum g5 e it (c + 1) x := he5
  have sb5 : Heap.SameBut e (g3.push { cls := .type "tuple", data := .seq #[.int c tk, x] }) g5 := sb5
  show wpAny _ _ (Builtin.SmallTypes.ownedTupleHandOut (.ref e) (.ref g3.objs.size) >>= _) _ _ ⟨g5, gg, dd, tk + 1, os⟩
  unfold Builtin.SmallTypes.ownedTupleHandOut
  refine wpAny_bind (wpAny_bind (wpAny_setField_rec (s := ⟨g5, gg, dd, tk + 1, os⟩) he5 (by simp) fun g6 he6 sb6 => ?_))
  have he6 : IsEnumOut g6 e it (c + 1) x g3.objs.size := he6
  have sb6 : Heap.SameBut e g5 g6 := sb6
  refine wpAny_setField_rec (s := ⟨g6, gg, dd, tk + 1, os⟩) he6 (by simp) fun g7 he7 sb7 => wpAny_bind (wpAny_letGo (wpAny_pure ⟨_, rfl, ?_⟩))
  have he7 : IsEnumOut g7 e it (c + 1) x g3.objs.size := he7
  have sb7 : Heap.SameBut e g6 g7 := sb7
  have up : ∀ b o, b ≠ e → (g3.push { cls := .type "tuple", data := .seq #[.int c tk, x] }).get? b = some o → g7.get? b = some o := fun b o n u => sb7.extBut _ _ n (sb6.extBut _ _ n (sb5.extBut _ _ n u))
  have hn : g7.get? g3.objs.size = some { cls := .type "tuple", data := .seq #[.int c tk, x] } := up _ _ (Nat.ne_of_gt elt) (Heap.get?_push_size _ rfl)
  rw [sz3] at he7 hn ⊢
  exact wpAny_pure (fin g7 ⟨he7, hn, fun b o n u => up b o n (Heap.get?_push_of_some _ (sb3.extBut _ _ n (sb2.extBut _ _ n u)))⟩)
theorem enumA_end {e it : Addr} {c : Int} {old : Value} {Q : Option Value → Shared → Prop} (he : IsEnum s.heap e it c old)
    (h : wpAny (model prog w) A.in1 (Builtin.SmallTypes.nextOf (.ref it)) (fun _ _ => False) (fun v s1 => ∃ a, v = .ref a ∧ (∃ o, s1.heap.get? a = some o ∧ o.cls = .type "StopIteration") ∧ Q none s1) s) :
    wpAny (model prog w) A (pyNext (.ref e)) Q E s := by
  have hT : s.TypeIs (.ref e) "enumerate" := ⟨_, he, rfl⟩
  unfold pyNext
  refine wpAny_bind (wpAny_attempt (wpAny_callSpecial?_slot (name := Str.ofString "__next__") hT F.slot_enumerate_next (wpAny_call_entry F.slot_enumerate_next hT F.entry_enumerate_next ?_ (F.args_enumerate_next_1 _))))
  show wpAny _ _ (field (.ref e) 2 >>= _) _ _ _
  refine wpAny_bind (wpAny_field he rfl (x := .ref it) rfl (wpAny_bind (wpAny_mono h (fun x s1 z => z.elim) fun v s1 hs1 => ?_)))
  obtain ⟨x, rfl, ⟨o, ho, hc⟩, q⟩ := hs1
  exact wpAny_bind (wpAny_isInstance (T := "StopIteration") (b := true) ⟨o, ho, hc⟩ isSubtype_stop (wpAny_pure q))
theorem meets_enumZ {z TI TO : Addr} :
    Meets (Builtin.«enumerate.__new__» ⟨[.type "enumerate", .ref z], []⟩) (fun _ R s => IsZip s.heap z TI TO .none ∧
      R (.ok (.ret (.ref s.heap.objs.size))) { s with heap := s.heap.push { cls := .type "enumerate", data := .fields #[.none, .bool false, .ref z, rawInt 0, .none, .none] } }) :=
  .of_wp fun prog w A R s h => by
    obtain ⟨hp, g, d, tk, os⟩ := s
    obtain ⟨g1, h⟩ := h
    have hsub := sub_enumerate
    have qi : ∀ {A' : Around} {E : Value → Shared → Prop} {Q : Value → Shared → Prop}, Q (.ref z) ⟨hp, g, d, tk, os⟩ → wpAny (model prog w) A' (pyIter (.ref z)) Q E ⟨hp, g, d, tk, os⟩ := fun q => wpAny_pyIter_zip (s := ⟨hp, g, d, tk, os⟩) g1 q
    wp_walk using qi
    refine wpAny_stack_any fun st => wpAny_pure ?_
    split
    · rename_i c _ _ _ _ _
      cases (c == Value.type "enumerate")
      · wp_walk using qi
        exact ⟨_, rfl, h⟩
      · wp_walk using qi
        exact ⟨_, rfl, h⟩
    · wp_walk using qi
      exact ⟨_, rfl, h⟩
theorem enumZ {z TI TO : Addr} {Q : Value → Shared → Prop} (g : IsZip s.heap z TI TO .none)
    (h : ∀ h', IsEnum h' s.heap.objs.size z 0 .none → (∀ b o, s.heap.get? b = some o → h'.get? b = some o) → Q (.ref s.heap.objs.size) { s with heap := h' }) :
    wpAny (model prog w) A (call (.type "enumerate") [.ref z]) Q E s := by
  refine callType_new F.called_enumerate (by decide) (F.typeCall_enumerate_1 _) (F.newCall_enumerate_1 _) (fun obj => F.args_object_init_2 obj _) F.entry_enumerate_new meets_enumZ ⟨g, ?_⟩
  have he : IsEnum (s.heap.push { cls := .type "enumerate", data := .fields #[.none, .bool false, .ref z, rawInt 0, .none, .none] }) s.heap.objs.size z 0 .none := Heap.get?_push_size _ rfl
  exact ⟨⟨_, he, rfl⟩, h _ he fun b ob q => Heap.get?_push_of_some _ q⟩
end
/-- two tuples, their items in new pairs, each in a new pair with its index -/
def ItzE (K : PySem.W.Frag) (a b : Addr) : It :=
  ⟨fun i H => ∃ (xs ys : List V) (x y : V), SqT K H a xs ∧ SqT K H b ys ∧ xs[i]? = some x ∧ ys[i]? = some y,
    fun i H v H' => ∃ T U x y, v = .ref U ∧ H T = none ∧ H U = none ∧ T ≠ U ∧ H' = upd (upd H T (.tup [x, y])) U (.tup [.int (i : Nat), .ref T]) ∧ (∀ xs, SqT K H a xs → xs[i]? = some x) ∧ ∀ ys, SqT K H b ys → ys[i]? = some y,
    fun i H => ∃ xs ys : List V, SqT K H a xs ∧ SqT K H b ys ∧ (xs.length ≤ i ∨ ys.length ≤ i)⟩
theorem turn_enumZ {P : Program} {w : World} {K : PySem.W.Frag} {elts : List Expr} {kk : Nat} {tpos : Pos} {a b e z TI TO i1 i2 : Addr} (S : ZipSep2 z TI TO i1 i2 [i1, a] [i2, b]) (ez : e ≠ z) (eI : e ≠ TI) (eO : e ≠ TO) (e1 : e ≠ i1) (e2 : e ≠ i2) (ea : e ≠ a) (eb : e ≠ b) :
    Turn P w K (.Tuple elts kk tpos) (ItzE K a b) [e, z, TI, TO, i1, i2] e (fun i h => (∃ old, IsEnum h e z ((i : Nat) : Int) old) ∧ ZipA h z TI TO ∧ IsTupOf2 h TI (.ref i1) (.ref i2) ∧ (∃ y1 y2, IsTupOf2 h TO y1 y2) ∧ h.IsTupleIter i1 a i ∧ h.IsTupleIter i2 b i) where
  mem := by simp
  obj := fun i h st c hc => by
    obtain ⟨⟨old, he⟩, ⟨f0, f, hz, _⟩, hTI, ⟨y1, y2, hTO⟩, ⟨o1, g1, _, d1⟩, ⟨o2, g2, _, d2⟩⟩ := st
    have q : c = e ∨ c = z ∨ c = TI ∨ c = TO ∨ c = i1 ∨ c = i2 := by simpa using hc
    rcases q with k | k | k | k | k | k
    · rw [k]; exact ⟨_, he, fun v u => nomatch u⟩
    · rw [k]; exact ⟨_, hz, fun v u => nomatch u⟩
    · rw [k]; exact ⟨_, hTI, fun v u => nomatch u⟩
    · rw [k]; exact ⟨_, hTO, fun v u => nomatch u⟩
    · rw [k]; exact ⟨o1, g1, fun v u => by rw [d1] at u; cases u⟩
    · rw [k]; exact ⟨o2, g2, fun v u => by rw [d2] at u; cases u⟩
  keep := fun i h h' st k => by
    obtain ⟨⟨old, he⟩, ⟨f0, f, hz, hf⟩, hTI, ⟨y1, y2, hTO⟩, h1, h2⟩ := st
    exact ⟨⟨old, k e (by simp) _ he⟩, ⟨f0, f, k z (by simp) _ hz, hf⟩, k TI (by simp) _ hTI, ⟨y1, y2, k TO (by simp) _ hTO⟩, h1.at fun o u => k i1 (by simp) o u, h2.at fun o u => k i2 (by simp) o u⟩
  item := by
    intro X hP hw hK hc i pins s σ H E I hf st hg
    subst hP hw hK
    obtain ⟨⟨old, he⟩, hz, hTI, hTO, h1, h2⟩ := st
    obtain ⟨xs, ys, x, y, hqx, hqy, hx, hy⟩ := hg
    obtain ⟨its, rv, p, _⟩ := I.tuple hqx
    obtain ⟨its2, rv2, p2, _⟩ := I.tuple hqy
    obtain ⟨u, hu, ru⟩ := rv.get hx
    obtain ⟨u2, hu2, ru2⟩ := rv2.get hy
    have lts : ∀ c, c ∈ [e, z, TI, TO, i1, i2] → c < s.heap.objs.size := fun c hcm => by
      obtain ⟨f0, f, hz', _⟩ := hz
      obtain ⟨y1, y2, hTO'⟩ := hTO
      obtain ⟨_, g1, _⟩ := h1
      obtain ⟨_, g2, _⟩ := h2
      have q : c = e ∨ c = z ∨ c = TI ∨ c = TO ∨ c = i1 ∨ c = i2 := by simpa using hcm
      rcases q with k | k | k | k | k | k
      · rw [k]; exact Heap.lt_size he
      · rw [k]; exact Heap.lt_size hz'
      · rw [k]; exact Heap.lt_size hTI
      · rw [k]; exact Heap.lt_size hTO'
      · rw [k]; exact Heap.lt_size g1
      · rw [k]; exact Heap.lt_size g2
    refine enumA_item he (zipA_item S hz hTI hTO h1 h2 p p2 (by simpa using hu) (by simpa using hu2) fun h' ZT => ⟨ZT.keep _ _ ez eO e1 e2 he, fun h'' ET => ⟨_, rfl, ?_⟩⟩)
    refine wpAny_letOwnedTupleGo_enum (s := { s with heap := h'', toks := s.toks + 1 }) ET.out fun h3 he3 sb3 => ?_
    have sb3 : Heap.SameBut e h'' h3 := sb3
    have szT : h'.objs.size = s.heap.objs.size + 1 := ZT.size
    have ETn : h''.get? h'.objs.size = some { cls := .type "tuple", data := .seq #[.int i s.toks, .ref s.heap.objs.size] } := ET.new
    have up : ∀ c o, c ≠ e → h'.get? c = some o → h3.get? c = some o := fun c o n q => sb3.extBut _ _ n (ET.keep c o n q)
    have elt := lts e (by simp)
    -- the inner pair
    have new1 : ObjOk X.prog X.w (upd H s.heap.objs.size (.tup [x, y])) h' s.heap.objs.size (.tup [x, y]) := ⟨by show 2 ≤ sizeLine; decide, [u, u2], .cons ru (.cons ru2 .nil), ⟨_, ZT.new, rfl, _, rfl⟩⟩
    have I1 : Inv X pins σ (upd H s.heap.objs.size (.tup [x, y])) { s with heap := h', toks := s.toks } :=
      I.turnedNew (t' := s.toks) (ch := [e, z, TI, TO, i1, i2]) (fun c o hb q => ZT.keep c o (fun k => hb (by simp [k])) (fun k => hb (by simp [k])) (fun k => hb (by simp [k])) (fun k => hb (by simp [k])) q) hf (Nat.le_refl _) new1
    have hf1 : ∀ c ∈ [e, z, TI, TO, i1, i2], FpOk X pins (upd H s.heap.objs.size (.tup [x, y])) c := fun c hcm => by
      obtain ⟨f1, f2⟩ := hf c hcm
      exact ⟨by rw [upd_ne (Nat.ne_of_lt (lts c hcm))]; exact f1, f2⟩
    -- the pair with the index
    have new2 : ObjOk X.prog X.w (upd (upd H s.heap.objs.size (.tup [x, y])) h'.objs.size (.tup [.int (i : Nat), .ref s.heap.objs.size])) h3 h'.objs.size (.tup [.int (i : Nat), .ref s.heap.objs.size]) :=
      ⟨by show 2 ≤ sizeLine; decide, [.int i s.toks, .ref s.heap.objs.size], .cons ⟨_, rfl⟩ (.cons rfl .nil), ⟨_, sb3.extBut _ _ (by rw [szT]; exact Nat.ne_of_gt (Nat.lt_succ_of_lt elt)) ETn, rfl, _, rfl⟩⟩
    have I2 : Inv X pins σ (upd (upd H s.heap.objs.size (.tup [x, y])) h'.objs.size (.tup [.int (i : Nat), .ref s.heap.objs.size])) { s with heap := h3, toks := s.toks + 1 } :=
      I1.turnedNew (t' := s.toks + 1) (ch := [e, z, TI, TO, i1, i2]) (fun c o hb q => up c o (fun k => hb (by simp [k])) q) hf1 (Nat.le_refl _) new2
    refine ⟨.ref h'.objs.size, _, I2, rfl, ⟨s.heap.objs.size, h'.objs.size, x, y, rfl, I.hok.fresh (Nat.le_refl _), I.hok.fresh (by rw [szT]; exact Nat.le_succ _), by rw [szT]; exact Nat.ne_of_lt (Nat.lt_succ_self _), rfl, fun l hl => by rw [I.tuple_inj hl hqx]; exact hx, fun l hl => by rw [I.tuple_inj hl hqy]; exact hy⟩, ⟨⟨.ref s.heap.objs.size, ?_⟩, ?_, ?_, ?_, ?_, ?_⟩, fun c hcm => ?_⟩
    · have q1 : ((i + 1 : Nat) : Int) = (i : Int) + 1 := by omega
      rw [q1]
      exact he3
    · obtain ⟨f0, f, hz', hf'⟩ := ZT.zz
      exact ⟨f0, f, up _ _ ez.symm hz', hf'⟩
    · exact up _ _ eI.symm (ZT.keep _ _ S.TIz S.TITO S.TIi1 S.TIi2 hTI)
    · obtain ⟨y1, y2, q⟩ := ZT.oo
      exact ⟨y1, y2, up _ _ eO.symm q⟩
    · exact ZT.t1.at fun o q => up _ _ e1.symm q
    · exact ZT.t2.at fun o q => up _ _ e2.symm q
    · rw [upd_ne (by rw [szT]; exact Nat.ne_of_lt (Nat.lt_succ_of_lt (lts c hcm)))]
      exact (hf1 c hcm).1
  done := by
    intro X hP hw hK hc i pins s σ H E I hf st hg
    subst hP hw hK
    obtain ⟨⟨old, he⟩, hz, hTI, hTO, h1, h2⟩ := st
    obtain ⟨xs, ys, hqx, hqy, hend⟩ := hg
    obtain ⟨its, rv, p, _⟩ := I.tuple hqx
    obtain ⟨its2, rv2, p2, _⟩ := I.tuple hqy
    have l1 := rv.length
    have l2 := rv2.length
    refine enumA_end he (zipA_end (I.ok.hd hc) S hz hTI hTO h1 h2 p p2 ?_ fun h' x hk hx => ⟨x, rfl, hx, rfl, I.turnedL (t' := s.toks) (ch := [e, z, TI, TO, i1, i2]) (fun c o hb q => hk c o (fun k => hb (by simp [k])) (fun k => hb (by simp [k])) (fun k => hb (by simp [k])) (fun k => hb (by simp [k])) q) hf⟩)
    rcases hend with q | q
    · exact .inl (by simp; omega)
    · exact .inr (by simp; omega)
  self := fun A i s Q E st h => let ⟨⟨_, he⟩, _⟩ := st; wpAny_pyIter_enum he h
def iEnumZ (K : PySem.W.Frag) (ta : TA) : TI := fun σ H R => ta σ H fun vs H1 => ∃ a b xs ys, vs = [.ref a, .ref b] ∧ SqT K H1 a xs ∧ SqT K H1 b ys ∧ R (ItzE K a b) H1
theorem sep_new (n a b : Nat) (ha : a < n) (hb : b < n) : ZipSep2 (n + 4) (n + 2) (n + 3) n (n + 1) [n, a] [n + 1, b] := zip_sep2 (N := n) (fp1 := [a]) (fp2 := [b]) (fun c hc => by rw [List.mem_singleton.mp hc]; exact ha) (fun c hc => by rw [List.mem_singleton.mp hc]; exact hb)
theorem pi_enumZ {X : Cx} {e e2 : Expr} {ta : TA} {p p2 pos pos2 tpos : Pos} {elts : List Expr} {kk : Nat} (hg : Gl X "enumerate") (hm : X.mg "enumerate" = none) (hg2 : Gl X "zip") (hm2 : X.mg "zip" = none) (ha : PA X [e, e2] ta)
    (hs : starEach [e, e2] X.env = (false, eval e X.env) :: starEach [e2] X.env := by rfl) (hpl : (backTo pos2 (starEach [e2] X.env)).any (·.1) = false := by rfl)
    (hs2 : starEach [.Call (.Name "zip" p2) [e, e2] [] pos2] X.env = [(false, eval (.Call (.Name "zip" p2) [e, e2] [] pos2) X.env)] := by rfl) :
    PI X (.Tuple elts kk tpos) (.Call (.Name "enumerate" p) [.Call (.Name "zip" p2) [e, e2] [] pos2] [] pos) (iEnumZ X.K ta) := by
  refine ⟨fun pins s σ H R I h => ?_⟩
  refine Call_ (ld_blt I hg hm boot_enumerate (PyProof.Rows.callWith_type1 ?_ hs2 rfl))
  rw [hs2]
  show wpAny _ _ (spliced ((false, eval (.Call (.Name "zip" p2) [e, e2] [] pos2) X.env) :: [])) _ _ s
  refine Calls.spliced_cons (wpAny_mono (Q := fun v s2 => ∃ (a b : Addr) (H1 : Hp) (s1 : Shared) (h' : Heap), v = .ref (s1.heap.objs.size + 4) ∧ s2 = { s1 with heap := h' } ∧ Inv X pins σ H1 { s1 with heap := h' } ∧ a < s1.heap.objs.size ∧ b < s1.heap.objs.size ∧ h'.objs.size = s1.heap.objs.size + 5 ∧
      IsZip h' (s1.heap.objs.size + 4) (s1.heap.objs.size + 2) (s1.heap.objs.size + 3) .none ∧ IsTupOf2 h' (s1.heap.objs.size + 2) (.ref s1.heap.objs.size) (.ref (s1.heap.objs.size + 1)) ∧ IsTupOf2 h' (s1.heap.objs.size + 3) .none .none ∧ h'.IsTupleIter s1.heap.objs.size a 0 ∧ h'.IsTupleIter (s1.heap.objs.size + 1) b 0 ∧
      (∀ c, s1.heap.objs.size ≤ c → FpOk X pins H1 c) ∧ R (ItzE X.K a b) H1) ?_ (fun v s2 hv => ?_) fun _ _ q => q)
  · refine Call_ (ld_blt I hg2 hm2 PyProof.Rows.boot_zip (PyProof.Rows.callWith_type1 (thn (ha.run pos2 pins s σ H _ I h) fun us s1 ⟨vs, H1, I1, r1, q1⟩ => ?_) hs hpl))
    obtain ⟨a, b, xs, ys, ex, hqx, hqy, q⟩ := q1
    subst ex
    cases r1 with
    | cons r rr =>
      cases rr with
      | cons r' rr =>
        cases rr
        cases r
        cases r'
        obtain ⟨its, rv, p1, _⟩ := I1.tuple hqx
        obtain ⟨its2, rv2, p2, _⟩ := I1.tuple hqy
        obtain ⟨o1, ho1, _⟩ := id p1
        obtain ⟨o2, ho2, _⟩ := id p2
        refine call_zipT (show s1.heap.IsTuple a its.toArray from p1) (show s1.heap.IsTuple b its2.toArray from p2) fun h' hz hTI hTO h1 h2 hsz hk => ?_
        exact ⟨a, b, H1, s1, h', rfl, rfl, I1.kept (t' := s1.toks) hk, Heap.lt_size ho1, Heap.lt_size ho2, hsz, hz, hTI, hTO, h1, h2, fun c hle => I1.fpOk hle (I1.hok.fresh hle), q⟩
  · obtain ⟨a, b, H1, s1, h', rfl, rfl, I2, la, lb, hsz, hz, hTI, hTO, h1, h2, fr, q⟩ := hv
    refine Calls.spliced_nil ?_
    refine enumZ (s := { s1 with heap := h' }) hz fun h2' he hk => wpAny_pyIter_enum he ?_
    have he : IsEnum h2' h'.objs.size (s1.heap.objs.size + 4) 0 .none := he
    rw [hsz] at he
    have nn : ∀ k, k < 5 → s1.heap.objs.size + 5 ≠ s1.heap.objs.size + k := fun k hk => by omega
    refine ⟨h'.objs.size, [h'.objs.size, s1.heap.objs.size + 4, s1.heap.objs.size + 2, s1.heap.objs.size + 3, s1.heap.objs.size, s1.heap.objs.size + 1], (fun i h => (∃ old, IsEnum h h'.objs.size (s1.heap.objs.size + 4) ((i : Nat) : Int) old) ∧ ZipA h (s1.heap.objs.size + 4) (s1.heap.objs.size + 2) (s1.heap.objs.size + 3) ∧ IsTupOf2 h (s1.heap.objs.size + 2) (.ref s1.heap.objs.size) (.ref (s1.heap.objs.size + 1)) ∧ (∃ y1 y2, IsTupOf2 h (s1.heap.objs.size + 3) y1 y2) ∧ h.IsTupleIter s1.heap.objs.size a i ∧ h.IsTupleIter (s1.heap.objs.size + 1) b i), ItzE X.K a b, H1, rfl, I2.kept (t' := s1.toks) hk, ?_, ?_, fun c hcm => ?_, q⟩
    · rw [hsz]
      exact turn_enumZ (sep_new s1.heap.objs.size a b la lb) (nn 4 (by omega)) (nn 2 (by omega)) (nn 3 (by omega)) (nn 0 (by omega)) (nn 1 (by omega)) (Nat.ne_of_gt (Nat.lt_of_lt_of_le la (Nat.le_add_right _ _))) (Nat.ne_of_gt (Nat.lt_of_lt_of_le lb (Nat.le_add_right _ _)))
    · rw [hsz]
      exact ⟨⟨_, he⟩, ⟨_, _, hk _ _ hz, .inl rfl⟩, hk _ _ hTI, ⟨_, _, hk _ _ hTO⟩, h1.at fun o u => hk _ _ u, h2.at fun o u => hk _ _ u⟩
    · refine fr c ?_
      have q : c = h'.objs.size ∨ c = s1.heap.objs.size + 4 ∨ c = s1.heap.objs.size + 2 ∨ c = s1.heap.objs.size + 3 ∨ c = s1.heap.objs.size ∨ c = s1.heap.objs.size + 1 := by simpa using hcm
      rw [hsz] at q
      rcases q with k | k | k | k | k | k
      · rw [k]; exact Nat.le_add_right _ _
      · rw [k]; exact Nat.le_add_right _ _
      · rw [k]; exact Nat.le_add_right _ _
      · rw [k]; exact Nat.le_add_right _ _
      · rw [k]; exact Nat.le_refl _
      · rw [k]; exact Nat.le_add_right _ _
/-- a loop over enumerate(zip(t, u)) -/
theorem for_enumZ {K : PySem.W.Frag} {a b : Addr} {xs ys : List V} {g : TG} {tb : TS} {D : Ends} {σ : L2.St} {H : Hp} (hl : xs.length = ys.length) (Pv : Nat → L2.St → Hp → Prop) (h0 : Pv 0 σ H) (hq : ∀ i σ H, Pv i σ H → SqT K H a xs ∧ SqT K H b ys)
    (hs : ∀ (i : Nat) (x y : V) (T U : Addr) (σ : L2.St) (H : Hp), xs[i]? = some x → ys[i]? = some y → Pv i σ H → H T = none → H U = none → T ≠ U → g (.ref U) σ (upd (upd H T (.tup [x, y])) U (.tup [.int (i : Nat), .ref T])) fun σ2 H2 => tb { D with nx := Pv (i + 1), ct := Pv (i + 1), bk := D.nx } σ2 H2) (hd : ∀ σ H, Pv xs.length σ H → D.nx σ H) :
    ∃ W : Nat → Nat → L2.St → Hp → Prop, (∃ m, W 0 m σ H) ∧ ∀ i m σ H, W i m σ H →
      ((ItzE K a b).stop i H ∧ D.nx σ H) ∨ ((ItzE K a b).go i H ∧ ∃ N : L2.St → Hp → Prop, (∀ σ' H', N σ' H' → ∃ m', m' < m ∧ W (i + 1) m' σ' H') ∧ ∀ v H', (ItzE K a b).yld i H v H' → g v σ H' fun σ2 H2 => tb { D with nx := N, ct := N, bk := D.nx } σ2 H2) := by
  refine ⟨fun i m σ H => m = xs.length - i ∧ i ≤ xs.length ∧ Pv i σ H, ⟨xs.length, rfl, Nat.zero_le _, h0⟩, ?_⟩
  rintro i m σ H ⟨rfl, hi, p⟩
  obtain ⟨qx, qy⟩ := hq i σ H p
  by_cases hlt : i < xs.length
  · refine .inr ⟨⟨xs, ys, _, _, qx, qy, List.getElem?_eq_getElem hlt, List.getElem?_eq_getElem (by omega)⟩, Pv (i + 1), fun σ' H' p' => ⟨xs.length - (i + 1), by omega, rfl, hlt, p'⟩, ?_⟩
    rintro v H' ⟨T, U, x', y', rfl, hT, hU, ne, rfl, f1, f2⟩
    exact hs i x' y' T U σ H (f1 xs qx) (f2 ys qy) p hT hU ne
  · obtain rfl : i = xs.length := by omega
    exact .inl ⟨⟨xs, ys, qx, qy, .inl (Nat.le_refl _)⟩, hd σ H p⟩
end Lb
set_option Elab.async false
set_option linter.all false
set_option maxRecDepth 100000
set_option maxHeartbeats 4000000
namespace Lb
open PySem PySem.Spec PyProof.Rows L2 RZ TL
section
variable {P : Program} {w : World} {K : PySem.W.Frag} {mg : Str → Option Value} {base : Heap}
theorem FnOk.imp2 {CX : CXT} {k : Nat} {f : Addr} {fd : FuncData} {ps : List Str} {sp sp' : Sp} (F : FnOk P w K mg base CX k f fd ps sp) (h : ∀ vs H Q E, sp' vs H Q E → sp vs H Q E) : FnOk P w K mg base CX k f fd ps sp' :=
  ⟨fun vs H Q E q => F.len vs H Q E (h _ _ _ _ q), fun A outer s H args us vs Q E hr e0 hb r q => F.run A outer s H args us vs Q E hr e0 hb r (h _ _ _ _ q)⟩
theorem Own.imp {x : Str} {k : Nat} {ps : List Str} {sp sp' : Sp} (O : Own P w K mg base x k ps sp) (h : ∀ vs H Q E, sp' vs H Q E → sp vs H Q E) : Own P w K mg base x k ps sp' := by
  obtain ⟨f, fd, F, r⟩ := O.ex
  exact ⟨f, fd, FnOk.imp2 F h, r⟩
/-! ### methods of an own class -/
structure OwnM (P : Program) (w : World) (K : PySem.W.Frag) (mg : Str → Option Value) (base : Heap) (C : Addr) (m : Str) (k : Nat) (ps : List Str) (sp : Sp) : Prop where
  ex : ∃ (f : Addr) (fd : FuncData), Meth K C m f ∧ FnOk P w K mg base (L2.CX P w) k f fd ps sp ∧ Binds K fd ps []
/-- a method's def, as the text has it -/
structure DfM (K : PySem.W.Frag) (C : Addr) (m qual : Str) (st : Stmt) : Prop where
  ex : ∃ (f : Addr) (fd : FuncData), Fun K m qual st f fd ∧ Meth K C m f
theorem ownM_of {C : Addr} {m qual : Str} {st : Stmt} {N ps : List Str} {k : Nat} {sp : Sp} (D : DfM K C m qual st) (S : FnScope N ps (defScope st))
    (hb : ∀ (kV doc pm : Value) (an : Option Addr) (cdv ct : Value) (us : List Value), us.length = ps.length → bindArgs (PySem.W.fnOf m qual (defArgs st) (defBody st) (defScope st) .none kV doc pm an cdv ct) ⟨us, []⟩ = pure (ps.zip us))
    (len : ∀ vs H Q E, sp vs H Q E → vs.length = ps.length)
    (hbody : ∀ (f : Addr) (cdv : Value) (A : Around) (outer : List Env) (s : Shared) (H : Hp) (vs : List V) (Q : VK) (E : XK), Room k (A.deeper (envOfC qual (defScope st) s.heap.objs.size f cdv)) → sp vs H Q E →
      ∃ t, PSs (cxOf (L2.CX P w) P w K mg base N qual (defScope st) f cdv A outer s H E) (defBody st) t ∧ t { nx := fun _ H' => Q .non H', rt := Q } (start N vs) H) : OwnM P w K mg base C m (k + 1) ps sp := by
  obtain ⟨f, fd, F, M⟩ := D.ex
  exact ⟨f, fd, M, F.okX S len (hbody f), F.binds hb⟩
theorem dfM_mk {C : Addr} {m qual : Str} {st : Stmt} {f : Addr} {oc : Value} {od an : Option Addr} {osl : Array (Option Value)} {kV doc pm cdv ct : Value} (a : PySem.W.findIn K (.ref C) m = some (some (.ref f))) (j : PySem.W.typeIn K (.ref f) = some (.type "function"))
    (l : K.lookup f = some ⟨oc, od, .func (PySem.W.fnOf m qual (defArgs st) (defBody st) (defScope st) .none kV doc pm an cdv ct), osl⟩) (c : PySem.W.codeIn K cdv qual = true) (k : PySem.W.keepIn K (.ref f) = true) : DfM K C m qual st :=
  ⟨f, _, fun_mk l c k, ⟨a, by unfold PySem.W.isFn; rw [j]; exact beq_self_eq_true _, k⟩⟩
end
/-- what is raised in a callee is what the def raises -/
theorem passE {X : Cx} {W : WX} {E : XK} (tk : Takes X W) (h : ∀ cls d σ H, E cls d H → W cls d σ H) : Passes (L2.CX X.prog X.w) X E := passes_call tk h
section
variable {X : Cx} {C : Addr} {m : Str} {k : Nat} {ps : List Str} {sp : Sp} {E : XK}
theorem OwnM.fnR (O : OwnM X.prog X.w X.K X.mg X.base C m k ps sp) : ∃ g, Meth X.K C m g ∧ FnR X.prog X.w X.K X.mg X.base (L2.CX X.prog X.w) k g sp := by
  obtain ⟨f, fd, M, F, b⟩ := O.ex
  exact ⟨f, M, (FnOk.raw F b .nil).imp fun vs H Q E h => by rw [List.append_nil]; exact h⟩
theorem pe_methX {o e : Expr} {es : List Expr} {ta : TE} {t : TA} {apos pos : Pos} {pl : Sem Bool} (he : PE X o ta) (c : Cls X.K C) (O : OwnM X.prog X.w X.K X.mg X.base C m k ps sp) (hr : Room k X.A) (hx : Passes (L2.CX X.prog X.w) X E) (ha : PA X (e :: es) t)
    (h1 : starEach (e :: es) X.env = (false, eval e X.env) :: starEach es X.env := by rfl) (h2 : (backTo pos (starEach es X.env)).any (·.1) = false := by rfl)
    (h3 : eval (.Call (.Attribute o m apos) (e :: es) [] pos) X.env = (do
      let ov ← eval o X.env
      standAt apos.atName
      let (f, first) ← holding [ov] (getMethod ov m pl)
      callWith pos f first (backTo pos (starEach (e :: es) X.env)) (backToKw pos (keywordEach [] X.env))) := by rfl) : PE X (.Call (.Attribute o m apos) (e :: es) [] pos) (tMeth C m sp [] E ta t) := by
  obtain ⟨f, fd, M, F, b⟩ := O.ex
  exact pe_meth he c M F hr b .nil hx ha h1 h2 h3
theorem op_binM {op : Operator} (O : OwnM X.prog X.w X.K X.mg X.base C (PySem.dunder op.info.2) k ps sp) (hc : PySem.W.selfFirst X.K C = true) (hr : Room k X.A) (hx : Passes (L2.CX X.prog X.w) X E) : OpR X (binaryOp op) (rBinO C sp E) := by
  obtain ⟨g, M, F⟩ := O.fnR
  exact op_binO hc M.at_ M.fn F hr hx
theorem op_eqM (O : OwnM X.prog X.w X.K X.mg X.base C "__eq__" k ps sp) (hr : Room k X.A) (hx : Passes (L2.CX X.prog X.w) X E) : OpR X (compareOp .Eq) (rBinO C sp E) := by
  obtain ⟨g, M, F⟩ := O.fnR
  exact op_cmpO (op := .Eq) (fun _ _ => rfl) M.at_ M.fn F hr hx
end
/-! ### types stay -/
theorem TyX.same {K : PySem.W.Frag} {H H' : Hp} {v : V} {t : Value} (h : TyX K H v t) (s : Same H H') : TyX K H' v t := by
  cases h with
  | base b =>
    refine .base ?_
    cases b with
    | non => exact .non
    | bl x => exact .bl x
    | int i => exact .int i
    | str x => exact .str x
    | flt x => exact .flt x
    | lst e => exact .lst (s _ _ e)
    | frz e => exact .frz (s _ _ e)
    | tup e => exact .tup (s _ _ e)
    | dK e => exact .dK (s _ _ e)
    | dT e => exact .dT (s _ _ e)
    | ins e cl ha hn htk hm => exact .ins (s _ _ e) cl ha hn htk hm
  | byt b => exact .byt b
  | set e => exact .set (s _ _ e)
  | kList e c => exact .kList e c
  | kTuple e c => exact .kTuple e c
  | kDict e c => exact .kDict e c
  | fTuple e => exact .fTuple (s _ _ e)
  | fDict e => exact .fDict (s _ _ e)
/-! ### tuple([f(u, v) for u, v in zip(x, y)]) -/
theorem lc_zw {K : PySem.W.Frag} {f : Int → Int → Int} {a b : Addr} {x y : List Int} {g : TG} {te : TE} {vs : List Nat} {σ : L2.St} {H : Hp} {D : Addr} {Qd : Hp → Prop} (hD : H D = none) (hA : SqT K H a (x.map V.int)) (hB : SqT K H b (y.map V.int)) (hl : x.length = y.length) (h1 : x.length ≤ 1000)
    (hel : ∀ (u v : Int) (T : Addr) (H' : Hp) (Q : VK), Same H H' → u ∈ x → v ∈ y → H' T = some (.tup [.int u, .int v]) → Q (.int (f u v)) H' → g (.ref T) (wipe σ vs) H' fun σ2 H2 => wipe σ2 vs = wipe σ vs ∧ te σ2 H2 Q)
    (q : ∀ H', Same H H' → H' D = some (.lst ((List.zipWith f x y).map V.int)) → Qd H') (mono : ∀ (T : Addr) (σ : L2.St) (H' : Hp) (A B : L2.St → Hp → Prop), (∀ σ H, A σ H → B σ H) → g (.ref T) σ H' A → g (.ref T) σ H' B) : LcW (ItzT K a b) g tYes te vs σ H D Qd := by
  refine lc_zipT (K := K) (xs := x.map V.int) (ys := y.map V.int) (by rw [List.length_map, List.length_map]; exact hl) (fun i H' => Same H H' ∧ H' D = some (.lst (((List.zipWith f x y).take i).map V.int)))
      ⟨same_upd hD, upd_same⟩ (fun i H' hP => ⟨same_tup hP.1 hA, same_tup hP.1 hB⟩) ?_ ?_
  · rintro i u v T H' hu hv ⟨sm, eD⟩ hT
    obtain ⟨u, rfl, hu'⟩ := int_at hu
    obtain ⟨v, rfl, hv'⟩ := int_at hv
    have sT := same_upd (o := .tup [V.int u, V.int v]) hT
    refine mono _ _ _ _ _ (fun σ2 H2 h => ⟨h.1, all_in h.2⟩) (hel u v T _ (fun z H4 => ∃ acc, H4 D = some (.lst acc) ∧ acc.length < sizeLine ∧ Same H (upd H4 D (.lst (acc ++ [z]))) ∧ upd H4 D (.lst (acc ++ [z])) D = some (.lst (((List.zipWith f x y).take (i + 1)).map V.int))) (sm.trans sT) (List.mem_of_getElem? hu') (List.mem_of_getElem? hv') upd_same ?_)
    refine ⟨_, sT _ _ eD, ?_, ?_, ?_⟩
    · rw [List.length_map, List.length_take]
      refine small1000 (Nat.le_trans (Nat.min_le_right _ _) ?_)
      rw [List.length_zipWith]
      omega
    · intro b o e
      rw [upd_ne (ne_of_none e hD)]
      exact sT _ _ (sm _ _ e)
    · rw [upd_same, zip_take hu' hv', List.map_append]
      rfl
  · rintro H' ⟨sm, eD⟩
    have el : (List.zipWith f x y).take (x.map V.int).length = List.zipWith f x y := List.take_of_length_le (by rw [List.length_zipWith, List.length_map]; omega)
    rw [el] at eD
    exact q H' sm eD
theorem gTup2_mono {K : PySem.W.Frag} {n i j : Nat} (T : Addr) (σ : L2.St) (H' : Hp) (A B : L2.St → Hp → Prop) (h : ∀ σ H, A σ H → B σ H) (hg : gTup K n (gCons (gName i) (gCons (gName j) gNil)) (.ref T) σ H' A) : gTup K n (gCons (gName i) (gCons (gName j) gNil)) (.ref T) σ H' B := by
  obtain ⟨a, xs, e, hq, hl, x, r, er, y, r2, er2, e3, q⟩ := hg
  exact ⟨a, xs, e, hq, hl, x, r, er, y, r2, er2, e3, h _ _ q⟩
/-! ### Bags -/
def mkB : PyData → Bool
  | .tuple ds => decide (1 ≤ ds.length) && decide (ds.length ≤ 4) && ds.all nn
  | _ => false
/-- a Bag at a with its tuple at t -/
structure Bg (C : Addr) (H : Hp) (a t : Addr) (b : List Int) : Prop where
  ins : ∃ dx, H a = some (.ins C dx [("held", .ref t)])
  tup : H t = some (.tup (b.map V.int))
theorem Bg.same {C : Addr} {H H' : Hp} {a t : Addr} {b : List Int} (h : Bg C H a t b) (s : Same H H') : Bg C H' a t b := ⟨let ⟨dx, e⟩ := h.ins; ⟨dx, s _ _ e⟩, s _ _ h.tup⟩
structure BgOk (b : List Int) : Prop where
  one : 1 ≤ b.length
  four : b.length ≤ 4
  nn : ∀ x ∈ b, 0 ≤ x
theorem mkB_ok {b : List Int} (h : BgOk b) : mkB (bagD b) = true := by
  show (decide (1 ≤ (b.map PyData.int).length) && decide ((b.map PyData.int).length ≤ 4) && (b.map PyData.int).all Lb.nn) = true
  rw [List.length_map, decide_eq_true h.one, decide_eq_true h.four, Bool.true_and, Bool.true_and]
  refine List.all_eq_true.mpr fun d hd => ?_
  obtain ⟨x, hx, rfl⟩ := List.mem_map.mp hd
  exact decide_eq_true (h.nn x hx)
/-- what the text has of the class -/
structure BagC (K : PySem.W.Frag) (mg : Str → Option Value) (C : Addr) : Prop where
  cl : Cls K C
  no : NoAttr K C "held"
  fst : PySem.W.selfFirst K C = true
  gB : mg "Bag" = some (.ref C)
  ca : PySem.W.findIn K (.ref C) "__class__" = some (some (.builtin "object.__class__"))
  cn : PySem.W.specialIn K (.builtin "object.__class__") "__get__" = some (some (.builtin "getset_descriptor.__get__"))
  ct : PySem.W.takesIn K (.builtin "object.__class__") = some true
  cm : PySem.W.mroIn K C (.type "object") = some true
  ks : PySem.W.kitOne K (.ref C) (.ref C) = some true
  lim : ∃ mc u, ClX.CRead K C mc ∧ ClX.CVal K C mc "LIMIT" (.int 4) u
  mkI : PySem.W.makesIn K C = true
  kp : PySem.W.keepIn K (.ref C) = true
theorem BagC.ty {K : PySem.W.Frag} {mg : Str → Option Value} {C : Addr} (c : BagC K mg C) {H : Hp} {a dx : Addr} {fs : List (Str × V)} (e : H a = some (.ins C dx fs)) : TyX K H (.ref a) (.ref C) := .base (.ins e c.cl c.ca c.cn c.ct c.cm)
/-- a value that is not of the class -/
def NotC (K : PySem.W.Frag) (C : Addr) (H : Hp) (v : V) : Prop := ∃ ty, TyX K H v ty ∧ PySem.W.kitOne K ty (.ref C) = some false
def NotT (K : PySem.W.Frag) (H : Hp) (v : V) : Prop := ∃ ty, TyX K H v ty ∧ PySem.W.kitOne K ty (.type "tuple") = some false
theorem NotC.same {K : PySem.W.Frag} {C : Addr} {H H' : Hp} {v : V} (h : NotC K C H v) (s : Same H H') : NotC K C H' v := let ⟨t, a, b⟩ := h; ⟨t, Lb.TyX.same a s, b⟩
theorem NotT.same {K : PySem.W.Frag} {H H' : Hp} {v : V} (h : NotT K H v) (s : Same H H') : NotT K H' v := let ⟨t, a, b⟩ := h; ⟨t, Lb.TyX.same a s, b⟩
/-- what a Bag may be made of -/
def spMk (K : PySem.W.Frag) (C CB : Addr) : Sp := fun vs H Q E => ∃ v, vs = [v] ∧
  ((∃ (R : Rgn) (ds : List PyData), Dat R H v (.tuple ds) ∧ ds.length ≤ 1000 ∧ (mkB (.tuple ds) = true → ∀ (H' : Hp) (x dx : Addr), Same H H' → H x = none → H' x = some (.ins C dx [("held", v)]) → Q (.ref x) H') ∧ (mkB (.tuple ds) = false → ∀ H', Same H H' → E (.ref CB) none H')) ∨
    (NotT K H v ∧ ∀ H', Same H H' → E (.ref CB) none H'))
def spInit (K : PySem.W.Frag) (C CB : Addr) : Sp := fun vs H Q E => ∃ (x dx : Addr) (v : V), vs = [.ref x, v] ∧ H x = some (.ins C dx []) ∧
  ((∃ (R : Rgn) (ds : List PyData), Dat R H v (.tuple ds) ∧ ds.length ≤ 1000 ∧ (mkB (.tuple ds) = true → ∀ (H' : Hp), Same H H' → Q .non (upd H' x (.ins C dx [("held", v)]))) ∧ (mkB (.tuple ds) = false → ∀ H', Same H H' → E (.ref CB) none H')) ∨
    (NotT K H v ∧ ∀ H', Same H H' → E (.ref CB) none H'))
/-- Bag(e) -/
def tBag (K : PySem.W.Frag) (C CB : Addr) (E : XK) (t : TA) : TE := fun σ H Q => t σ H fun vs H1 => spMk K C CB vs H1 Q E
theorem pe_bagX {X : Cx} {C CB : Addr} {k : Nat} {E : XK} {e : Expr} {ta : TA} {p pos : Pos} (c : BagC X.K X.mg C) (O : OwnM X.prog X.w X.K X.mg X.base C "__init__" k ["self", "amounts"] (spInit X.K C CB)) (hr : Room (k + 1) X.A) (hx : Passes (L2.CX X.prog X.w) X E) (hg : Gl X "Bag") (ha : PA X [e] ta)
    (he : starEach [e] X.env = (false, eval e X.env) :: starEach [] X.env := by rfl) (hpl : (backTo pos (starEach [] X.env)).any (·.1) = false := by rfl) : PE X (.Call (.Name "Bag" p) [e] [] pos) (tBag X.K C CB E ta) := by
  obtain ⟨f, fd, M, F, b⟩ := O.ex
  refine ⟨fun pins s σ H Q I h => ?_⟩
  refine wpAny_Call_Name_kw (ld_glob I hg c.gB ?_ (by decide))
  refine PySem.W.callWith_K (h₀ := X.base) I.ok.mod.kin c.kp (thn (ha.run pos pins s σ H _ I h) fun us s1 ⟨vs, H1, I1, r1, q1⟩ => ⟨I1.kIn, ?_⟩) he hpl
  refine run_make (E := E) (dvs := []) ⟨c.mkI, M.at_, M.fn, c.kp⟩ F hr b .nil hx I1 r1 fun x dx nx ndx ne => ?_
  obtain ⟨v, rfl, q⟩ := q1
  have s2 : Same H1 (upd (upd H1 dx (.own x)) x (.ins C dx [])) := fun b o e => by
    rw [upd_ne (ne_of_none e nx), upd_ne (ne_of_none e ndx)]
    exact e
  have keep : ∀ {H' : Hp}, Same (upd (upd H1 dx (.own x)) x (.ins C dx [])) H' → Same H1 (upd H' x (.ins C dx [("held", v)])) := fun {H'} sm b o e => by
    rw [upd_ne (ne_of_none e nx)]
    exact sm _ _ (s2 _ _ e)
  refine ⟨x, dx, v, rfl, upd_same, ?_⟩
  rcases q with ⟨R, ds, hd, hl, q1, q2⟩ | ⟨hn, q2⟩
  · exact .inl ⟨R, ds, hd.same s2, hl, fun hm H' sm => ⟨rfl, q1 hm _ x dx (keep sm) nx upd_same⟩, fun hm H' sm => q2 hm H' (s2.trans sm)⟩
  · exact .inr ⟨hn.same s2, fun H' sm => q2 H' (s2.trans sm)⟩
end Lb
set_option Elab.async false
set_option linter.all false
set_option maxRecDepth 100000
set_option maxHeartbeats 4000000
namespace Lb
open PySem PySem.Spec PyProof.Rows L2 RZ TL
def lackN : List Int → List Int → Nat → Option Nat
  | x :: xs, y :: ys, k => if x < y then some k else lackN xs ys (k + 1)
  | _, _, _ => none
abbrev maxI (a b : Int) : Int := if b > a then b else a
theorem lackN_cons (x y : Int) (xs ys : List Int) (k : Nat) : lackN (x :: xs) (y :: ys) k = if x < y then some k else lackN xs ys (k + 1) := rfl
theorem lackN_none : ∀ {x y : List Int} {k : Nat}, x.length = y.length → lackN x y k = none → ∀ z ∈ List.zipWith (· - ·) x y, 0 ≤ z
  | [], [], _, _, _ => fun z hz => absurd hz List.not_mem_nil
  | x :: xs, y :: ys, k, hl, h => fun z hz => by
    rw [lackN_cons] at h
    by_cases hlt : x < y
    · rw [if_pos hlt] at h
      cases h
    · rw [if_neg hlt] at h
      rw [List.zipWith_cons_cons] at hz
      rcases List.mem_cons.mp hz with rfl | hz
      · show 0 ≤ x - y
        omega
      · exact lackN_none (by simpa using hl) h z hz
def spLack (K : PySem.W.Frag) : Sp := fun vs H Q _ => ∃ (a b : Addr) (x y : List Int), vs = [.ref a, .ref b] ∧ SqT K H a (x.map V.int) ∧ SqT K H b (y.map V.int) ∧ x.length = y.length ∧ x.length ≤ 1000 ∧ ∀ H', Same H H' → Q (optN (lackN x y 0)) H'
def spZw (f : Int → Int → Int) (K : PySem.W.Frag) : Sp := fun vs H Q _ => ∃ (a b : Addr) (x y : List Int), vs = [.ref a, .ref b] ∧ SqT K H a (x.map V.int) ∧ SqT K H b (y.map V.int) ∧ x.length = y.length ∧ x.length ≤ 1000 ∧
  ∀ (H' : Hp) (p : Addr), Same H H' → H p = none → H' p = some (.tup ((List.zipWith f x y).map V.int)) → Q (.ref p) H'
/-- is_whole of any value -/
def spWholeX (K : PySem.W.Frag) : Sp := fun vs H Q _ => ∃ (v : V) (ty : Value) (b1 b2 : Bool), vs = [v] ∧ TyX K H v ty ∧ PySem.W.kitOne K ty (.type "int") = some b1 ∧ PySem.W.kitOne K ty (.type "bool") = some b2 ∧ Q (.bl (b1 && !b2)) H
theorem whole_imp {K : PySem.W.Frag} : ∀ (vs : List V) (H : Hp) (Q : VK) (E : XK), spWhole vs H Q E → spWholeX K vs H Q E := by
  rintro vs H Q E ⟨R, v, d, rfl, dt, q⟩
  rw [whole_eq] at q
  exact ⟨v, _, _, _, rfl, dat_ty dt, kit_ty (kit_int d), kit_ty (kit_bool d), q⟩
/-- is_bag of tuples, by their length -/
def spIsBagL : Sp := fun vs H Q _ => ∃ (R : Rgn) (v : V) (g : Int) (ds : List PyData), vs = [.int g, v] ∧ Dat R H v (.tuple ds) ∧ ds.length ≤ 1000 ∧ ∀ H', Same H H' → Q (.bl (bagB g (.tuple ds))) H'
/-- the other operand: a Bag, or not of the class -/
def Opd (K : PySem.W.Frag) (C : Addr) (H : Hp) (y : V) (yes : Addr → Addr → List Int → Prop) (no : Prop) : Prop := (∃ b s z, y = .ref b ∧ Bg C H b s z ∧ BgOk z ∧ yes b s z) ∨ (NotC K C H y ∧ no)
def spIsLike (K : PySem.W.Frag) (C : Addr) : Sp := fun vs H Q _ => ∃ (a t : Addr) (x : List Int) (y : V), vs = [.ref a, y] ∧ Bg C H a t x ∧ Opd K C H y (fun b s z => Q (.bl (decide (z.length = x.length))) H) (Q (.bl false) H)
def spAmtsOf (K : PySem.W.Frag) (C CB : Addr) : Sp := fun vs H Q E => ∃ (a t : Addr) (x : List Int) (y : V), vs = [.ref a, y] ∧ Bg C H a t x ∧
  Opd K C H y (fun b s z => (z.length = x.length → Q (.ref s) H) ∧ (z.length ≠ x.length → E (.ref CB) none H)) (E (.ref CB) none H)
def spAmt (C : Addr) : Sp := fun vs H Q _ => ∃ (a t : Addr) (x : List Int), vs = [.ref a] ∧ Bg C H a t x ∧ Q (.ref t) H
/-- a new Bag with these amounts is handed out -/
def Out (C : Addr) (H : Hp) (Q : VK) (b : List Int) : Prop := ∀ (H' : Hp) (p u : Addr), Same H H' → H p = none → Bg C H' p u b → Q (.ref p) H'
def spBin (f : Int → Int → Int) (K : PySem.W.Frag) (C CB : Addr) : Sp := fun vs H Q E => ∃ (a t : Addr) (x : List Int) (y : V), vs = [.ref a, y] ∧ Bg C H a t x ∧ BgOk x ∧
  Opd K C H y (fun b s z => (z.length = x.length → Out C H Q (List.zipWith f x z)) ∧ (z.length ≠ x.length → ∀ H', Same H H' → E (.ref CB) none H')) (∀ H', Same H H' → E (.ref CB) none H')
def spSub (K : PySem.W.Frag) (C CB CL : Addr) : Sp := fun vs H Q E => ∃ (a t : Addr) (x : List Int) (y : V), vs = [.ref a, y] ∧ Bg C H a t x ∧ BgOk x ∧
  Opd K C H y (fun b s z => (z.length = x.length → (lackN x z 0 = none → Out C H Q (List.zipWith (· - ·) x z)) ∧ (∀ k : Nat, lackN x z 0 = some k → ∀ (H' : Hp) (dd : Addr), Same H H' → H dd = none → H' dd = some (.xd [("good", .int (k : Int))]) → E (.ref CL) (some dd) H')) ∧
    (z.length ≠ x.length → ∀ H', Same H H' → E (.ref CB) none H')) (∀ H', Same H H' → E (.ref CB) none H')
def spEq (K : PySem.W.Frag) (C : Addr) : Sp := fun vs H Q _ => ∃ (a t : Addr) (x : List Int) (y : V), vs = [.ref a, y] ∧ Bg C H a t x ∧ BgOk x ∧ Opd K C H y (fun b s z => Q (.bl (decide (x = z))) H) (Q (.bl false) H)
/-- e.amounts -/
structure PropM (P : Program) (w : World) (K : PySem.W.Frag) (mg : Str → Option Value) (base : Heap) (C : Addr) (f : Str) (k : Nat) (sp : Sp) : Prop where
  ex : ∃ (p g : Addr) (fd : FuncData), PropOf K C f p g ∧ FnOk P w K mg base (L2.CX P w) k g fd ["self"] sp ∧ Binds K fd ["self"] []
theorem passN0 {X : Cx} : Passes (L2.CX X.prog X.w) X.nox L2.E0 := passX0 (X := X.nox)
theorem pe_amt {X : Cx} {C : Addr} {k : Nat} {e : Expr} {ta : TE} {pos : Pos} (c : BagC X.K X.mg C) (O : PropM X.prog X.w X.K X.mg X.base C "amounts" k (spAmt C)) (hr : Room (k + 1) X.A) (he : PE X e ta) (hab : attributeBase e "amounts" X.env (eval e X.env) = eval e X.env := by rfl) :
    PE X (.Attribute e "amounts" pos) (tProp C (spAmt C) [] L2.E0 ta) := by
  obtain ⟨p, g, fd, hp, F, b⟩ := O.ex
  exact pe_prop he c.cl hp F hr b .nil passN0 hab
end Lb
namespace Lb
open PySem PySem.Spec PyProof.Rows L2 RZ TL
/-! ### draws below great numbers -/
end Lb
set_option Elab.async false
set_option linter.all false
set_option maxRecDepth 100000
set_option maxHeartbeats 4000000
namespace Lb
open PySem PySem.Spec PyProof.Rows L2 RZ TL
theorem amt_okW {x : Int} (h0 : 0 ≤ x) (h1 : x < 10 ^ 30) : Ok 32 0 (.int x) := by
  obtain ⟨n, rfl⟩ : ∃ n : Nat, x = (n : Int) := ⟨x.toNat, by omega⟩
  have hn : n < 10 ^ 30 := by omega
  have h2 := numL_short 29 n hn
  rw [← tl_num] at h2
  have h3 : (Str.ofString (toString ((n : Nat) : Int))).length ≤ 30 := h2
  refine ⟨?_, ?_, by rw [PyData.depth]; exact Nat.le_refl _⟩
  · rw [fine]
    refine decide_eq_true ?_
    show n.log2 < 1920
    by_cases h : n = 0
    · subst h
      decide
    · exact Nat.lt_trans ((Nat.log2_lt (k := 100) h).mpr (show n < 2 ^ 100 by omega)) (by decide)
  · rw [wt, PyData.shown]
    omega
def AmtsW (b : List Int) : Prop := ∀ x ∈ b, 0 ≤ x ∧ x < 10 ^ 30
theorem ints_okW : ∀ {b : List Int}, AmtsW b → Oks (34 * b.length) 0 (b.map PyData.int)
  | [], _ => ⟨fun _ z => absurd z List.not_mem_nil, Nat.le_refl _, fun _ z => absurd z List.not_mem_nil⟩
  | x :: b, h => by
    have h1 := (Oks.one (amt_okW (h x List.mem_cons_self).1 (h x List.mem_cons_self).2)).append (ints_okW (b := b) fun y hy => h y (List.mem_cons_of_mem _ hy))
    exact h1.mono (by rw [List.length_cons]; omega) (Nat.le_refl _)
theorem bag_okW {b : List Int} (h : AmtsW b) (hl : b.length ≤ 4) : Ok 140 1 (bagD b) := (ints_okW h).tuple.mono (by omega) (Nat.le_refl _)
/-! ### what is lacking, what is left -/
theorem lackN_ge : ∀ {x y : List Int} (k : Nat), x.length = y.length → (∀ z ∈ List.zipWith (· - ·) x y, 0 ≤ z) → lackN x y k = none
  | [], [], _, _, _ => rfl
  | x :: xs, y :: ys, k, hl, h => by
    rw [lackN_cons, if_neg]
    · exact lackN_ge (k + 1) (by simpa using hl) fun z hz => h z (by rw [List.zipWith_cons_cons]; exact List.mem_cons_of_mem _ hz)
    · have := h (x - y) (by rw [List.zipWith_cons_cons]; exact List.mem_cons_self)
      omega
/-! ### (x - y).amounts, or what is lacking -/
end Lb
set_option Elab.async false
set_option linter.all false
set_option maxRecDepth 100000
set_option maxHeartbeats 4000000
namespace Lb
open PySem PySem.Spec PyProof.Rows L2 RZ TL
theorem kp_obj {H H' : Hp} {d c r p : Addr} {n : Nat} {o : HO} (k : Kp d r H H') (dk : Dk H d c r n) (e : H p = some o) (ne : ∀ xs, o ≠ .lst xs) : H' p = some o := by
  obtain ⟨_, _, _, _, _, _, _, _, _, _, w1, _, w3⟩ := dk
  refine k p o (fun z => ?_) (fun z => ?_) e
  · rw [z, w1] at e
    exact ne _ (Option.some.inj e).symm
  · rw [z, w3] at e
    exact ne _ (Option.some.inj e).symm
theorem Bg.kp {C : Addr} {H H' : Hp} {d c r : Addr} {n : Nat} {a t : Addr} {b : List Int} (h : Bg C H a t b) (k : Kp d r H H') (dk : Dk H d c r n) : Bg C H' a t b :=
  ⟨let ⟨dx, e⟩ := h.ins; ⟨dx, kp_obj k dk e fun _ z => nomatch z⟩, kp_obj k dk h.tup fun _ z => nomatch z⟩
section
variable {K : PySem.W.Frag} {C CB CL CT : Addr} {H : Hp} {a t b s : Addr} {x z : List Int} {Q : VK} {E : XK}
theorem rd_bin {f : Int → Int → Int} (ha : Bg C H a t x) (hb : Bg C H b s z) (xok : BgOk x) (zok : BgOk z) (hl : z.length = x.length) (q : Out C H Q (List.zipWith f x z)) : rBinO C (spBin f K C CB) E (.ref a) (.ref b) H Q := by
  obtain ⟨dx, ea⟩ := ha.ins
  obtain ⟨dy, eb⟩ := hb.ins
  exact ⟨a, dx, _, b, dy, _, rfl, rfl, ea, eb, a, t, x, _, rfl, ha, xok, .inl ⟨b, s, z, rfl, hb, zok, fun _ => q, fun hne => absurd hl hne⟩⟩
theorem rd_sub (ha : Bg C H a t x) (hb : Bg C H b s z) (xok : BgOk x) (zok : BgOk z) (hl : z.length = x.length) (hk : lackN x z 0 = none) (q : Out C H Q (List.zipWith (· - ·) x z)) : rBinO C (spSub K C CB CL) E (.ref a) (.ref b) H Q := by
  obtain ⟨dx, ea⟩ := ha.ins
  obtain ⟨dy, eb⟩ := hb.ins
  exact ⟨a, dx, _, b, dy, _, rfl, rfl, ea, eb, a, t, x, _, rfl, ha, xok, .inl ⟨b, s, z, rfl, hb, zok, fun _ => ⟨fun _ => q, fun k h => by rw [hk] at h; cases h⟩, fun hne => absurd hl hne⟩⟩
theorem rd_eq (ha : Bg C H a t x) (hb : Bg C H b s z) (xok : BgOk x) (zok : BgOk z) (q : Q (.bl (decide (x = z))) H) : rBinO C (spEq K C) E (.ref a) (.ref b) H Q := by
  obtain ⟨dx, ea⟩ := ha.ins
  obtain ⟨dy, eb⟩ := hb.ins
  exact ⟨a, dx, _, b, dy, _, rfl, rfl, ea, eb, a, t, x, _, rfl, ha, xok, .inl ⟨b, s, z, rfl, hb, zok, q⟩⟩
theorem rd_amt {p u : Addr} {y : List Int} (h : Bg C H p u y) (q : Q (.ref u) H) : ∃ a dx fs, V.ref p = .ref a ∧ H a = some (.ins C dx fs) ∧ spAmt C [.ref a] H Q E := by
  obtain ⟨dn, en⟩ := h.ins
  exact ⟨p, dn, _, rfl, en, p, u, y, rfl, h, q⟩
end
/-! ### the list of what is lacking -/
end Lb
set_option Elab.async false
set_option linter.all false
set_option maxRecDepth 100000
set_option maxHeartbeats 4000000
namespace Lb
open PySem PySem.Spec PyProof.Rows L2 RZ TL
/-! ### values of the plain built-in types -/
def Std : List String := ["tuple", "NoneType", "int", "bool", "str", "list", "dict"]
/-- a value whose type is one of these -/
def TyS (K : PySem.W.Frag) (H : Hp) (y : V) : Prop := ∃ T, T ∈ Std ∧ TyX K H y (.type T)
theorem TyS.same {K : PySem.W.Frag} {H H' : Hp} {v : V} (h : TyS K H v) (s : Same H H') : TyS K H' v := let ⟨t, a, b⟩ := h; ⟨t, a, Lb.TyX.same b s⟩
theorem std_cases {P : String → Prop} {T : String} (h : T ∈ Std) (a : P "tuple") (b : P "NoneType") (c : P "int") (d : P "bool") (e : P "str") (f : P "list") (g : P "dict") : P T := by
  simp only [Std, List.mem_cons, List.not_mem_nil, or_false] at h
  rcases h with rfl | rfl | rfl | rfl | rfl | rfl | rfl <;> assumption
/-- none of them is of the class at C -/
def StdC (K : PySem.W.Frag) (C : Addr) : Prop := ∀ T ∈ Std, PySem.W.kitOne K (.type T) (.ref C) = some false
theorem TyS.notC {K : PySem.W.Frag} {C : Addr} {H : Hp} {y : V} (h : TyS K H y) (c : StdC K C) : NotC K C H y := by
  obtain ⟨T, hT, ty⟩ := h
  exact ⟨_, ty, c T hT⟩
theorem Dat.tyS {K : PySem.W.Frag} {R : Rgn} {H : Hp} {v : V} {d : PyData} (h : Dat R H v d) : TyS K H v := by
  refine ⟨_, ?_, dat_ty h⟩
  cases d <;> simp [tyOf, Std]
/-! ### x op y, y of such a type -/
section
open PySem.W
variable {prog : Program} {w : World} {A : Around} {E : Value → Shared → Prop} {s : Shared} {K : Frag} {x C L f : Addr} {h₀ : Heap} {m : Str → Option Value} {ox : Obj} {od : Option Obj} {T : String}
end
section
variable {X : Cx} {C : Addr} {m : Str} {k : Nat} {ps : List Str} {sp : Sp} {E : XK}
/-! ### len(x), bool(x), str(x), x[i] -/
/-- a def of one argument, the object -/
def rOne (C : Addr) (sp : Sp) (E : XK) (W : V → Hp → VK → Prop) : List V → Hp → VK → Prop := fun xs H Q => ∃ a dx fs, xs = [.ref a] ∧ H a = some (.ins C dx fs) ∧ sp xs H (fun z H' => W z H' Q) E
theorem run_one {g a : Addr} {A : Around} {n : Nat} {pins : List (Addr × Obj)} {σ : L2.St} {H : Hp} {s : Shared} {Q : VK} (F : FnR X.prog X.w X.K X.mg X.base (L2.CX X.prog X.w) k g sp) (hr : Room k A) (e0 : Env0 X.prog X.w X.K X.mg X.base A X.stack s H) (hx : Passes (L2.CX X.prog X.w) X E) (I : Inv X pins σ H s) (h : sp [.ref a] H Q E) :
    wpAny (model X.prog X.w) A (call (.ref g) [.ref a]) (EP X pins σ Q) X.xe s := wpAny_call (SlX.run_at (us := [.ref a]) (ws := [.ref a]) F hr e0 hx I (.cons rfl .nil) h)
theorem call_lenM (O : OwnM X.prog X.w X.K X.mg X.base C "__len__" k ps sp) (hr : Room (k + 1) X.A) (hx : Passes (L2.CX X.prog X.w) X E) : CallR X (.builtin "len") (rOne C sp E fun z H Q => ∃ n : Nat, n < 2 ^ 62 ∧ z = .int (n : Int) ∧ Q (.int (n : Int)) H) := by
  intro pins s σ H xs us Q I r h
  obtain ⟨a, dx, fs, rfl, ha, q⟩ := h
  rw [Vals.ref1 r]
  obtain ⟨g, M, F⟩ := O.fnR
  obtain ⟨od, J⟩ := ins_inst I ha
  obtain ⟨m, hF⟩ := I.fr
  refine PySem.W.len_K hF I.ok.mod.kin J M.at_ M.fn ?_
  refine wpAny_mono (run_one (n := 0) F hr.in1 I.env0.in1 hx I q) (fun v s' z => ?_) fun _ _ x => x
  obtain ⟨z', H', I', rz, n, hn, ez, qz⟩ := z
  subst ez
  obtain ⟨t, e⟩ := (show ∃ t, v = Value.int (n : Int) t from rz)
  subst e
  exact ⟨⟨by omega, by omega⟩, .int (n : Int), H', I'.tok _, ⟨_, rfl⟩, qz⟩
end
end Lb
set_option Elab.async false
set_option linter.all false
set_option maxRecDepth 100000
set_option maxHeartbeats 4000000
namespace Lb
open PySem PySem.Spec PyProof.Rows L2 RZ TL
/-- an operand that is refused by a Bag with the amounts x -/
def Refd (K : PySem.W.Frag) (C : Addr) (H : Hp) (x : List Int) (y : V) : Prop := (∃ b s z, y = .ref b ∧ Bg C H b s z ∧ BgOk z ∧ z.length ≠ x.length) ∨ TyS K H y
theorem Refd.same {K : PySem.W.Frag} {C : Addr} {H H' : Hp} {x : List Int} {y : V} (h : Refd K C H x y) (s : Same H H') : Refd K C H' x y := by
  rcases h with ⟨b, s', z, rfl, hb, ok, ne⟩ | h
  · exact .inl ⟨b, s', z, rfl, hb.same s, ok, ne⟩
  · exact .inr (h.same s)
theorem Bg.extN {C : Addr} {H H' : Hp} {a t : Addr} {b : List Int} (h : Bg C H a t b) (k : LamX.ExtN H H') : Bg C H' a t b := ⟨let ⟨dx, e⟩ := h.ins; ⟨dx, k _ _ e fun _ z => nomatch z⟩, k _ _ h.tup fun _ z => nomatch z⟩
theorem TyX.extN {K : PySem.W.Frag} {H H' : Hp} {v : V} {t : Value} (h : TyX K H v t) (k : LamX.ExtN H H') : TyX K H' v t := by
  cases h with
  | base b =>
    refine .base ?_
    cases b with
    | non => exact .non
    | bl x => exact .bl x
    | int i => exact .int i
    | str x => exact .str x
    | flt x => exact .flt x
    | lst e => exact .lst (k _ _ e fun _ z => nomatch z)
    | frz e => exact .frz (k _ _ e fun _ z => nomatch z)
    | tup e => exact .tup (k _ _ e fun _ z => nomatch z)
    | dK e => exact .dK (k _ _ e fun _ z => nomatch z)
    | dT e => exact .dT (k _ _ e fun _ z => nomatch z)
    | ins e cl ha hn htk hm => exact .ins (k _ _ e fun _ z => nomatch z) cl ha hn htk hm
  | byt b => exact .byt b
  | set e => exact .set (k _ _ e fun _ z => nomatch z)
  | kList e c => exact .kList e c
  | kTuple e c => exact .kTuple e c
  | kDict e c => exact .kDict e c
  | fTuple e => exact .fTuple (k _ _ e fun _ z => nomatch z)
  | fDict e => exact .fDict (k _ _ e fun _ z => nomatch z)
theorem Refd.extN {K : PySem.W.Frag} {C : Addr} {H H' : Hp} {x : List Int} {y : V} (h : Refd K C H x y) (k : LamX.ExtN H H') : Refd K C H' x y := by
  rcases h with ⟨b, s', z, rfl, hb, ok, ne⟩ | ⟨T, hT, ty⟩
  · exact .inl ⟨b, s', z, rfl, hb.extN k, ok, ne⟩
  · exact .inr ⟨T, hT, Lb.TyX.extN ty k⟩
end Lb
set_option Elab.async false
set_option linter.all false
set_option maxRecDepth 100000
set_option maxHeartbeats 4000000
namespace Lb
open PySem PySem.Spec PyProof.Rows L2 RZ TL
/-- what is not like a Bag is not in it and not equal -/
theorem Refd.opd {K : PySem.W.Frag} {C : Addr} {H : Hp} {x : List Int} {y : V} (h : Refd K C H x y) (S : StdC K C) {yes : Addr → Addr → List Int → Prop} {no : Prop} (h1 : ∀ b s z, z.length ≠ x.length → yes b s z) (h2 : no) : Opd K C H y yes no := by
  rcases h with ⟨b, s', z, rfl, hb, ok, ne⟩ | h
  · exact .inl ⟨b, s', z, rfl, hb, ok, h1 b s' z ne⟩
  · exact .inr ⟨h.notC S, h2⟩
end Lb
namespace Lb
open PySem PySem.Spec PyProof.Rows L2 RZ TL
theorem refd_tup {K : PySem.W.Frag} {C : Addr} {H : Hp} {x : List Int} {p : Addr} {xs : List V} (e : H p = some (.tup xs)) : Refd K C H x (.ref p) := .inr ⟨"tuple", by simp [Std], .base (.tup e)⟩
theorem refd_lst {K : PySem.W.Frag} {C : Addr} {H : Hp} {x : List Int} {p : Addr} {xs : List V} (e : H p = some (.lst xs)) : Refd K C H x (.ref p) := .inr ⟨"list", by simp [Std], .base (.lst e)⟩
theorem refd_dK {K : PySem.W.Frag} {C : Addr} {H : Hp} {x : List Int} {p : Addr} {kv : List (Key × V)} (e : H p = some (.dK kv)) : Refd K C H x (.ref p) := .inr ⟨"dict", by simp [Std], .base (.dK e)⟩
theorem refd_non {K : PySem.W.Frag} {C : Addr} {H : Hp} {x : List Int} : Refd K C H x .non := .inr ⟨"NoneType", by simp [Std], .base .non⟩
theorem refd_int {K : PySem.W.Frag} {C : Addr} {H : Hp} {x : List Int} (i : Int) : Refd K C H x (.int i) := .inr ⟨"int", by simp [Std], .base (.int i)⟩
theorem refd_bl {K : PySem.W.Frag} {C : Addr} {H : Hp} {x : List Int} (i : Bool) : Refd K C H x (.bl i) := .inr ⟨"bool", by simp [Std], .base (.bl i)⟩
theorem refd_str {K : PySem.W.Frag} {C : Addr} {H : Hp} {x : List Int} (i : Str) : Refd K C H x (.str i) := .inr ⟨"str", by simp [Std], .base (.str i)⟩
end Lb
set_option Elab.async false
set_option linter.all false
set_option maxRecDepth 100000
set_option maxHeartbeats 4000000
namespace Lb
open PySem PySem.Spec PyProof.Rows L2 RZ TL
/-! ### iter(t), t a tuple -/
/-! ### list(x) by such an __iter__ -/
section
variable {X : Cx} {pins : List (Addr × Obj)} {σ : L2.St} {H : Hp}
def spLen (C : Addr) : Sp := fun vs H Q _ => ∃ (a t : Addr) (x : List Int), vs = [.ref a] ∧ Bg C H a t x ∧ Q (.int (x.length : Int)) H
end
end Lb
set_option Elab.async false
set_option linter.all false
set_option maxRecDepth 100000
set_option maxHeartbeats 4000000
namespace Lb
open PySem PySem.Spec PyProof.Rows L2 RZ TL
section
variable {X : Cx} {C : Addr} {k : Nat} {ps : List Str} {sp : Sp} {E : XK}
/-! ### bool(x) -/
/-! ### x[i] -/
theorem DfM.fnIn {K : PySem.W.Frag} {m qual : Str} {st : Stmt} (D : DfM K C m qual st) : ∀ g, PySem.W.findIn K (.ref C) m = some (some (.ref g)) → PySem.W.fnIn K g = true := by
  intro g hg
  obtain ⟨f, fd, F, M⟩ := D.ex
  have e := M.at_
  rw [hg] at e
  cases e
  obtain ⟨oc, od, kV, doc, pm, an, cdv, ct, osl, rfl, lk, hcd⟩ := F.ex
  unfold PySem.W.fnIn
  rw [lk]
/-! ### x != y -/
end
end Lb
namespace Lb
open PySem PySem.Spec PyProof.Rows L2 RZ TL
end Lb
namespace Lb
open PySem PySem.Spec PyProof.Rows L2 RZ TL
section
variable {X : Cx} {C : Addr} {k : Nat} {dv : V} {sp : Sp} {E : XK} {m : Str} {o e : Expr} {es : List Expr} {pos apos : Pos} {ta : TE} {t : TA} {pl : Sem Bool}
end
end Lb
namespace Lb
open PySem PySem.Spec PyProof.Rows L2 RZ TL
end Lb
namespace Lb
open PySem PySem.Spec PyProof.Rows L2 RZ TL
end Lb
set_option Elab.async false
set_option linter.all false
set_option maxRecDepth 100000
set_option maxHeartbeats 4000000
namespace Lb
open PySem PySem.Spec PyProof.Rows L2 RZ TL
end Lb
namespace Lb
open PySem PySem.Spec PyProof.Rows L2 RZ TL
end Lb
namespace Lb
open PySem PySem.Spec PyProof.Rows L2 RZ TL
end Lb
set_option Elab.async false
set_option linter.all false
set_option maxRecDepth 100000
set_option maxHeartbeats 4000000
namespace Lb
open PySem PySem.Spec PyProof.Rows L2 RZ TL
/-! ### desks: what is wrong with a market at a desk -/
/-- what desk_error answers -/
def dErr (d : PyData) : PyData := match mErr d with
  | .none => (match d with
    | .tuple [.int g, .tuple ts] => if 3 < g ∨ 3 < ts.length then errD "room" else .none
    | _ => .none)
  | e => e
def spDErr : Sp := fun vs H Q _ => ∃ (R : Rgn) (v : V) (d : PyData), vs = [v] ∧ Dat R H v d ∧ wt d ≤ 1000000 ∧ (∀ p, H p = none → R p) ∧ ∀ (H' : Hp) (u : V), Same H H' → Dat R H' u (dErr d) → Q u H'
theorem mErr_none {d : PyData} (h : mErr d = .none) : ∃ (g : Int) (ts : List PyData), d = .tuple [.int g, .tuple ts] ∧ 1 ≤ g ∧ g ≤ 4 ∧ ts.length ≤ 4 := by
  unfold mErr at h
  split at h
  · rename_i g ts
    split at h
    · rename_i h1
      split at h
      · rename_i h2
        exact ⟨g, ts, rfl, h1.1, h1.2, h2⟩
      · cases h
    · cases h
  · split at h <;> cases h
  · cases h
  · cases h
def isNV : V → Bool
  | .non => true
  | _ => false
/-- check_kind(bag, value) -/
def spCKind (K : PySem.W.Frag) (C CB : Addr) : Sp := fun vs H Q E => ∃ (a t : Addr) (x : List Int) (y : V), vs = [.ref a, y] ∧ Bg C H a t x ∧
  Opd K C H y (fun b s z => (z.length = x.length → Q .non H) ∧ (z.length ≠ x.length → ∀ H', Same H H' → E (.ref CB) none H')) (∀ H', Same H H' → E (.ref CB) none H')
end Lb
namespace Lb
open PySem PySem.Spec PyProof.Rows L2 RZ TL
theorem repI (v : Int) : ∀ k : Nat, (List.replicate k [V.int v]).flatten = (List.replicate k v).map V.int
  | 0 => rfl
  | k + 1 => by
    rw [List.replicate_succ, List.flatten_cons, repI v k, List.replicate_succ, List.map_cons]
    rfl
theorem rd_repI {K : PySem.W.Frag} {R : Rgn} {H : Hp} {z : Addr} {v : Int} {k : Nat} {Q : VK} (ez : H z = some (.tup [.int v])) (rz : R z) (new : ∀ p, H p = none → R p) (hk : k ≤ 1000)
    (q : ∀ (H' : Hp) (p : Addr), Same H H' → R p → H' p = some (.tup ((List.replicate k v).map V.int)) → Q (.ref p) H') : rRepA K (.ref z) (.int (k : Int)) H Q := by
  refine ⟨z, k, [.int v], rfl, rfl, .inl (.inl ez), by omega, by omega, (by show 1 ≤ 1000; decide), by simp, fun h => ?_, fun h p hp => ?_⟩
  · have : k = 1 := by omega
    subst this
    exact q H z (Same.refl H) rz ez
  · rw [Int.toNat_natCast, repI]
    exact q _ p (same_upd hp) (new p hp) upd_same
/-- check_room(bag): the first good of which there is too much -/
def muchN (x : List Int) : Option Nat := lackN (List.replicate x.length 6) x 0
def spCRoom (C CT : Addr) : Sp := fun vs H Q E => ∃ (a t : Addr) (x : List Int), vs = [.ref a] ∧ Bg C H a t x ∧ x.length ≤ 4 ∧ (muchN x = none → ∀ H', Same H H' → Q .non H') ∧
  (∀ k : Nat, muchN x = some k → ∀ (H' : Hp) (dd : Addr), Same H H' → H dd = none → H' dd = some (.xd [("good", .int (k : Int))]) → E (.ref CT) (some dd) H')
end Lb
namespace Lb
open PySem PySem.Spec PyProof.Rows L2 RZ TL
/-- the call of a def that may raise, its errors handed on -/
theorem pe_ownE {X : Cx} {k : Nat} {ps : List Str} {sp : Sp} {x : Str} {p pos : Pos} {e : Expr} {es : List Expr} {t : TA} {E : XK} (O : OwnX X.prog X.w X.K X.mg X.base x k ps sp) (hr : Room k X.A) (hx : Passes (L2.CX X.prog X.w) X E) (hg : Gl X x) (ha : PA X (e :: es) t) (hdb : (x == ("__debug__" : Str)) = false := by decide)
    (he : starEach (e :: es) X.env = (false, eval e X.env) :: starEach es X.env := by rfl) (hpl : (backTo pos (starEach es X.env)).any (·.1) = false := by rfl) : PE X (.Call (.Name x p) (e :: es) [] pos) (tCall sp [] E t) := by
  obtain ⟨f, fd, F, m, kp, b⟩ := O.ex
  exact pe_call F hr hg m kp b .nil hx ha hdb he hpl
end Lb
namespace Lb
open PySem PySem.Spec PyProof.Rows L2 RZ TL
/-- the fields of a desk -/
def dskF (mv sv ow : V) (pl : Addr) : List (Str × V) := [("place", mv), ("present", sv), ("owed", ow), ("past", .ref pl)]
/-- what the text has of a class of desks -/
structure DskC (K : PySem.W.Frag) (C : Addr) : Prop where
  cl : Cls K C
  n1 : NoAttr K C "place"
  n2 : NoAttr K C "present"
  n3 : NoAttr K C "owed"
  n4 : NoAttr K C "past"
/-- what a desk is made of, by market and stock -/
def spDInit (K : PySem.W.Frag) (C CB CM CT : Addr) : Sp := fun vs H Q E => ∃ (x dx : Addr) (mv sv : V) (R : Rgn) (d : PyData) (CX : Addr), vs = [.ref x, mv, sv] ∧ DskC K CX ∧ H x = some (.ins CX dx []) ∧ Dat R H mv d ∧ wt d ≤ 1000000 ∧ (∀ p, H p = none → R p) ∧
  (dErr d ≠ .none → ∀ (H' : Hp) (dd : Addr) (u : V), Same H H' → H dd = none → H' dd = some (.xd [("error", u)]) → Dat R H' u (dErr d) → E (.ref CM) (some dd) H') ∧
  (dErr d = .none → ∃ (g : Nat) (ts : List PyData), d = .tuple [.int (g : Int), .tuple ts] ∧ 1 ≤ g ∧ g ≤ 3 ∧
    Opd K C H sv (fun b s z => (z.length ≠ g → ∀ H', Same H H' → E (.ref CB) none H') ∧
      (z.length = g → (∀ k : Nat, muchN z = some k → ∀ (H' : Hp) (dd : Addr), Same H H' → H dd = none → H' dd = some (.xd [("good", .int (k : Int))]) → E (.ref CT) (some dd) H') ∧
        (muchN z = none → ∀ (H' : Hp) (ow to pl : Addr), Same H H' → H pl = none → Bg C H' ow to (List.replicate g (0 : Int)) → H' pl = some (.lst []) → Q .non (upd H' x (.ins CX dx (dskF mv sv (.ref ow) pl)))))) (∀ H', Same H H' → E (.ref CB) none H'))
theorem isNV_dat {R : Rgn} {H : Hp} {u : V} {d : PyData} (h : Dat R H u d) (hd : d ≠ .none) : u ≠ .non := by
  intro e
  subst e
  cases h
  exact hd rfl
theorem upd_past {H : Hp} {x pl : Addr} {A B C D L : HO} (hne : pl ≠ x) : upd (upd (upd (upd (upd H x A) x B) x C) pl L) x D = upd (upd H pl L) x D := by
  funext b
  by_cases h1 : b = x
  · rw [h1, upd_same, upd_same]
  · rw [upd_ne h1, upd_ne h1]
    by_cases h2 : b = pl
    · rw [h2, upd_same, upd_same]
    · rw [upd_ne h2, upd_ne h1, upd_ne h1, upd_ne h1, upd_ne h2]
end Lb
set_option Elab.async false
set_option linter.all false
set_option maxRecDepth 100000
set_option maxHeartbeats 4000000
namespace Lb
open PySem PySem.Spec PyProof.Rows L2 RZ TL
/-! ### C.f(..), f a plain def of the class -/
def tCFun (C : Addr) (sp : Sp) (E : XK) (ta : TE) (t : TA) : TE := fun σ H Q => ta σ H fun x H1 => x = .ref C ∧ t σ H1 fun vs H2 => sp vs H2 Q E
/-- a def read off its class -/
structure CFunO (P : Program) (w : World) (K : PySem.W.Frag) (mg : Str → Option Value) (base : Heap) (C : Addr) (m : Str) (k : Nat) (sp : Sp) : Prop where
  ex : ∃ (mc : Value) (f : Addr), ClX.CRead K C mc ∧ ClX.CVal K C mc m (.ref f) (.ref f) ∧ PySem.W.keepIn K (.ref f) = true ∧ FnR P w K mg base (L2.CX P w) k f sp
section
variable {X : Cx} {C : Addr} {k : Nat} {sp : Sp} {E : XK} {m : Str} {o e : Expr} {es : List Expr} {pos apos : Pos} {ta : TE} {t : TA} {pl : Sem Bool}
theorem pe_cfun (O : CFunO X.prog X.w X.K X.mg X.base C m k sp) (hr : Room k X.A) (hx : Passes (L2.CX X.prog X.w) X E) (he : PE X o ta) (ha : PA X (e :: es) t)
    (hst : starEach (e :: es) X.env = (false, eval e X.env) :: starEach es X.env := by rfl) (hpl : (backTo pos (starEach es X.env)).any (·.1) = false := by rfl)
    (ht : eval (.Call (.Attribute o m apos) (e :: es) [] pos) X.env = (do
      let ov ← eval o X.env
      standAt apos.atName
      let (f, first) ← holding [ov] (getMethod ov m pl)
      callWith pos f first (backTo pos (starEach (e :: es) X.env)) (backToKw pos (keywordEach [] X.env))) := by rfl) :
    PE X (.Call (.Attribute o m apos) (e :: es) [] pos) (tCFun C sp E ta t) := by
  obtain ⟨mc, f, r, c, kp, F⟩ := O.ex
  refine ⟨fun pins s σ H Q I h => ?_⟩
  refine PySem.W.methodCall_KW (pl := pl) (thn (he.run pins s σ H _ I h) fun u s1 ⟨x, H1, I1, rx, ex, q⟩ => ?_) ht
  subst ex
  obtain rfl : u = Value.ref C := rx
  refine PySem.W.method_cls I1.kIn r.ga (ClX.getcval_ok I1 r c fun s2 I2 => ?_)
  refine PySem.W.callWith_K (h₀ := X.base) I.ok.mod.kin kp (thn (ha.run pos pins s2 σ H1 _ I2 q) fun us s3 ⟨vs, H2, I3, r3, q3⟩ => ⟨I3.kIn, ?_⟩) hst hpl
  exact wpAny_call (run_fnR F hr hx I3 r3 q3)
end
/-- all but the object at x is kept -/
def SameX (x : Addr) (H H' : Hp) : Prop := ∀ b o, b ≠ x → H b = some o → H' b = some o
theorem SameX.of {x : Addr} {H H' : Hp} (s : Same H H') : SameX x H H' := fun b o _ e => s b o e
theorem SameX.upd {x : Addr} {H H' : Hp} {o : HO} (s : SameX x H H') : SameX x H (upd H' x o) := fun b u hb e => by
  rw [upd_ne hb]
  exact s b u hb e
/-- what is wrong with a cap, or not -/
def capB (K : PySem.W.Frag) (H : Hp) (v : V) (ok : Bool) : Prop := ∃ (ty : Value) (b1 b2 : Bool), TyX K H v ty ∧ PySem.W.kitOne K ty (.type "int") = some b1 ∧ PySem.W.kitOne K ty (.type "bool") = some b2 ∧ ((ok = false ∧ (b1 && !b2) = false) ∨ ((b1 && !b2) = true ∧ ∃ n : Int, v = .int n ∧ ok = decide (0 ≤ n)))
def spCInit (K : PySem.W.Frag) (C CB CM CT CV : Addr) : Sp := fun vs H Q E => ∃ (x dx : Addr) (mv sv cv : V) (R : Rgn) (d : PyData) (CX : Addr) (ok : Bool), vs = [.ref x, mv, sv, cv] ∧ DskC K CX ∧ NoAttr K CX "most" ∧ H x = some (.ins CX dx []) ∧ Dat R H mv d ∧ wt d ≤ 1000000 ∧ (∀ p, H p = none → R p) ∧ (∀ H', SameX x H H' → capB K H' cv ok) ∧
  (dErr d ≠ .none → ∀ (H' : Hp) (dd : Addr) (u : V), Same H H' → H dd = none → H' dd = some (.xd [("error", u)]) → Dat R H' u (dErr d) → E (.ref CM) (some dd) H') ∧
  (dErr d = .none → ∃ (g : Nat) (ts : List PyData), d = .tuple [.int (g : Int), .tuple ts] ∧ 1 ≤ g ∧ g ≤ 3 ∧
    Opd K C H sv (fun b s z => (z.length ≠ g → ∀ H', Same H H' → E (.ref CB) none H') ∧
      (z.length = g → (∀ k : Nat, muchN z = some k → ∀ (H' : Hp) (dd : Addr), Same H H' → H dd = none → H' dd = some (.xd [("good", .int (k : Int))]) → E (.ref CT) (some dd) H') ∧
        (muchN z = none → (ok = false → ∀ (H' : Hp) (dd : Addr), SameX x H H' → H dd = none → H' dd = some (.xd [("value", cv)]) → E (.ref CV) (some dd) H') ∧
          (ok = true → ∀ (H' : Hp) (ow to pl : Addr), Same H H' → H pl = none → Bg C H' ow to (List.replicate g (0 : Int)) → H' pl = some (.lst []) → Q .non (upd H' x (.ins CX dx (dskF mv sv (.ref ow) pl ++ [(("most" : Str), cv)]))))))) (∀ H', Same H H' → E (.ref CB) none H'))
end Lb
namespace Lb
open PySem PySem.Spec PyProof.Rows L2 RZ TL
/-- len(desk), desk.version -/
def spDLen (K : PySem.W.Frag) : Sp := fun vs H Q _ => ∃ (a C dx : Addr) (fs : List (Str × V)) (l : Addr), vs = [.ref a] ∧ H a = some (.ins C dx fs) ∧ DskC K C ∧ fs.lookup ("past" : Str) = some (.ref l) ∧ ∃ xs, H l = some (.lst xs) ∧ Q (.int (xs.length : Int)) H
end Lb
namespace Lb
open PySem PySem.Spec PyProof.Rows L2 RZ TL
/-- a property that gives a field -/
def spFldV (K : PySem.W.Frag) (f : Str) : Sp := fun vs H Q _ => ∃ (a C dx : Addr) (fs : List (Str × V)) (v : V), vs = [.ref a] ∧ H a = some (.ins C dx fs) ∧ Cls K C ∧ NoAttr K C f ∧ fs.lookup f = some v ∧ Q v H
theorem pe_propM {X : Cx} {C : Addr} {k : Nat} {f : Str} {sp : Sp} {e : Expr} {ta : TE} {pos : Pos} (c : Cls X.K C) (O : PropM X.prog X.w X.K X.mg X.base C f k sp) (hr : Room (k + 1) X.A) (he : PE X e ta) (hab : attributeBase e f X.env (eval e X.env) = eval e X.env := by rfl) :
    PE X (.Attribute e f pos) (tProp C sp [] L2.E0 ta) := by
  obtain ⟨p, g, fd, hp, F, b⟩ := O.ex
  exact pe_prop he c hp F hr b .nil passN0 hab
/-- desk.settled -/
def spSettled (K : PySem.W.Frag) (CB : Addr) : Sp := fun vs H Q _ => ∃ (a C dx : Addr) (fs : List (Str × V)) (b t : Addr) (x : List Int), vs = [.ref a] ∧ H a = some (.ins C dx fs) ∧ DskC K C ∧ fs.lookup ("owed" : Str) = some (.ref b) ∧ Bg CB H b t x ∧ Q (.bl (decide (x.sum = 0))) H
end Lb
set_option Elab.async false
set_option linter.all false
set_option maxRecDepth 100000
set_option maxHeartbeats 4000000
namespace Lb
open PySem PySem.Spec PyProof.Rows L2 RZ TL
/-- what the text has of a class of desks besides; CD is the class Desk -/
structure DskT (K : PySem.W.Frag) (CD C : Addr) : Prop where
  dc : DskC K C
  ca : PySem.W.findIn K (.ref C) "__class__" = some (some (.builtin "object.__class__"))
  cn : PySem.W.specialIn K (.builtin "object.__class__") "__get__" = some (some (.builtin "getset_descriptor.__get__"))
  ct : PySem.W.takesIn K (.builtin "object.__class__") = some true
  cm : PySem.W.mroIn K C (.type "object") = some true
  ki : PySem.W.kitOne K (.ref C) (.ref CD) = some true
theorem DskT.ty {K : PySem.W.Frag} {CD C : Addr} (c : DskT K CD C) {H : Hp} {a dx : Addr} {fs : List (Str × V)} (e : H a = some (.ins C dx fs)) : TyX K H (.ref a) (.ref C) := .base (.ins e c.dc.cl c.ca c.cn c.ct c.cm)
/-- a desk at a: its market, stock and debt -/
structure Dsk (K : PySem.W.Frag) (C CD : Addr) (H : Hp) (a : Addr) (mv : V) (x o : List Int) : Prop where
  ex : ∃ (CX dx : Addr) (fs : List (Str × V)) (b s p q : Addr), DskT K CD CX ∧ H a = some (.ins CX dx fs) ∧ fs.lookup ("place" : Str) = some mv ∧ fs.lookup ("present" : Str) = some (.ref b) ∧ fs.lookup ("owed" : Str) = some (.ref p) ∧ Bg C H b s x ∧ Bg C H p q o
theorem Dsk.same {K : PySem.W.Frag} {C CD : Addr} {H H' : Hp} {a : Addr} {mv : V} {x o : List Int} (h : Dsk K C CD H a mv x o) (s : Same H H') : Dsk K C CD H' a mv x o := by
  obtain ⟨CX, dx, fs, b, t, p, q, h1, h2, h3, h4, h5, h6, h7⟩ := h.ex
  exact ⟨CX, dx, fs, b, t, p, q, h1, s _ _ h2, h3, h4, h5, h6.same s, h7.same s⟩
/-- desk == y -/
def spDEq (K : PySem.W.Frag) (C CD : Addr) : Sp := fun vs H Q _ => ∃ (a : Addr) (mv : V) (x o : List Int) (y : V), vs = [.ref a, y] ∧ Dsk K C CD H a mv x o ∧ BgOk x ∧ BgOk o ∧
  ((∃ ty, TyX K H y ty ∧ PySem.W.kitOne K ty (.ref CD) = some false ∧ Q (.bl false) H) ∨
    (∃ (b : Addr) (mw : V) (x' o' : List Int) (d d' : PyData), y = .ref b ∧ Dsk K C CD H b mw x' o' ∧ BgOk x' ∧ BgOk o' ∧ Dp K H mv d ∧ Dp K H mw d' ∧ SeqAt.shaped d = true ∧ SeqAt.shaped d' = true ∧ Q (.bl (PyData.eqv d d' && (decide (x = x') && decide (o = o')))) H))
end Lb
set_option Elab.async false
set_option linter.all false
set_option maxRecDepth 100000
set_option maxHeartbeats 4000000
namespace Lb
open PySem PySem.Spec PyProof.Rows L2 RZ TL
mutual
/-- plain data without dicts, as == reads it -/
theorem Dat.dp {K : PySem.W.Frag} {R : Rgn} {H : Hp} : ∀ {v : V} {d : PyData}, Dat R H v d → d.hasDict = false → Dp K H v d
  | _, _, .non, _ => .non
  | _, _, .bl b, _ => .bl b
  | _, _, .int i, _ => .int i
  | _, _, .str x, _ => .str x
  | _, _, .tup (ds := ds) ra e h, hd => .tup (.inl (.inl e)) (Dats.dp h (by rw [PyData.hasDict] at hd; exact hd))
  | _, _, .lst (ds := ds) ra e h, hd => .lst (SqL.of e) (Dats.dp h (by rw [PyData.hasDict] at hd; exact hd))
  | _, _, .emp ra e, hd => by rw [PyData.hasDict] at hd; cases hd
theorem Dats.dp {K : PySem.W.Frag} {R : Rgn} {H : Hp} : ∀ {vs : List V} {ds : List PyData}, Dats R H vs ds → PyData.hasDictAll ds = false → DpAll K H vs ds
  | _, _, .nil, _ => .nil
  | _, _, .cons h t, hd => by
    rw [PyData.hasDictAll, Bool.or_eq_false_iff] at hd
    exact .cons (Dat.dp h hd.1) (Dats.dp t hd.2)
end
end Lb
set_option Elab.async false
set_option linter.all false
set_option maxRecDepth 100000
set_option maxHeartbeats 4000000
namespace Lb
open PySem PySem.Spec PyProof.Rows L2 RZ TL
/-! ### try with any number of clauses, with and without names -/
/-- an exception that has come down in the frame of X; behind it stands a state without it -/
structure Down (X : Cx) (pins : List (Addr × Obj)) (σ : L2.St) (H : Hp) (cls : Value) (d : Option Addr) (a : Addr) (s : Shared) : Prop where
  st : X.stack = X.env :: X.outer
  fr : X.env.frame = some X.env.locals
  ex : ∃ (G : Heap) (t : Shared), Inv X pins σ H t ∧ (∀ p ob, t.heap.get? p = some ob → p ∉ frs X.stack → G.get? p = some ob) ∧ t.heap.UpToSlots s.heap ∧
    HandSPX.FlyingZ G (X.env :: X.outer) a (Zc cls d) s.heap ∧ s.os = t.os ∧ AllBare s.gens
  no : H a = none
section
variable {X : Cx} {pins : List (Addr × Obj)} {σ : L2.St} {H : Hp} {cls : Value} {d : Option Addr} {a : Addr} {s : Shared}
theorem Down.inv (h : Down X pins σ H cls d a s) : Inv X pins σ H s := by
  obtain ⟨G, t, It, hG, hu, hfl, ho, hg⟩ := h.ex
  exact It.landed hG hfl.1 hu ho hg
/-- the suite of a clause can begin -/
theorem Down.begin (h : Down X pins σ H cls d a s) : ∃ ob, s.heap.get? a = some ob ∧ Zc cls d ob ∧ (∃ vs, ob.data = .fields vs) ∧ Inv (X.suite a ((a, ob) :: (X.pn ++ pins))) [] σ H s := by
  obtain ⟨G, t, It, hG, hu, hfl, ho, hg⟩ := h.ex
  obtain ⟨ob, vs, e, hz, hd⟩ := hfl.there
  have out : a ∉ frs (X.env :: X.outer) := by
    intro hm
    obtain ⟨_, ob', e', hnot⟩ := (hfl.2.2.1).mem hm
    rw [e] at e'
    cases e'
    exact hnot _ hd
  refine ⟨ob, e, hz, ⟨vs, hd⟩, h.inv.suite e hd h.no (fun z => out ?_) (fun hm => out ?_)⟩
  · exact List.mem_filterMap.mpr ⟨X.env, .head _, by rw [h.fr, z]⟩
  · obtain ⟨v, hv, q⟩ := List.mem_filterMap.mp hm
    exact List.mem_filterMap.mpr ⟨v, .tail _ hv, q⟩
theorem Down.again (h : Down X pins σ H cls d a s) {M : Model} {A : Around} {E : Value → Shared → Prop} {Q : Unit → Shared → Prop} (q : ∀ s', Down X pins σ H cls d a s' → Q () s') : wpAny M A (setFlight (.ref a) none) Q E s := by
  obtain ⟨G, t, It, hG, hu, hfl, ho, hg⟩ := h.ex
  exact HandSPX.lands_againZ hfl fun g gf gu => q _ ⟨h.st, h.fr, ⟨G, t, It, hG, hu.trans gu, gf, ho, hg⟩, h.no⟩
end
/-- clauses, and what they wish of an exception -/
def Hds (X : Cx) (hds : List ExceptHandler) (w : Ends → WX) : Prop := ∀ pins σ H cls d a s D, Down X pins σ H cls d a s → w D cls d σ H → wpAny (model X.prog X.w) X.A (handleBy (.ref a) X.env hds) (SP X pins D) X.xe s
/-- one clause more -/
def wCl (K : PySem.W.Frag) (c : Value) (t : Addr → Value → Option Addr → TS) (w : Ends → WX) : Ends → WX := fun D cls d σ H => ∃ b, PySem.W.exmOne K cls c = some b ∧ (b = true → ∀ a, H a = none → t a cls d D σ H) ∧ (b = false → w D cls d σ H)
/-- the suite's wish where the clause has a name, slot i -/
def tAs (i : Nat) (t : Addr → Value → Option Addr → TS) : Addr → Value → Option Addr → TS := fun a cls d D σ H =>
  t a cls d ⟨fun σ' H' => D.nx (σ'.set i none) H', D.rt, fun σ' H' => D.bk (σ'.set i none) H', fun σ' H' => D.ct (σ'.set i none) H'⟩ (σ.set i (some (.ref a))) H
/-- what a suite must do -/
def SuOk (X : Cx) (ss : List Stmt) (t : Addr → Value → Option Addr → TS) : Prop := ∀ (a : Addr) (ob : Obj) (cls : Value) (d : Option Addr) (pn : List (Addr × Obj)), Zc cls d ob → (∃ vs, ob.data = .fields vs) → PSs (X.suite a ((a, ob) :: pn)) ss (t a cls d)
section
variable {X : Cx} {x n : Str} {c : Value} {i : Nat} {ss : List Stmt} {b : Stmt} {np pos : Pos} {hds : List ExceptHandler} {t : Addr → Value → Option Addr → TS} {w : Ends → WX} {W0 : WX}
theorem hds_nil (tk : Takes X W0) : Hds X [] (fun _ => W0) := by
  intro pins σ H cls d a s D h hw
  obtain ⟨G, t, It, hG, hu, hfl, ho, hg⟩ := h.ex
  refine wpAny_handleBy_nil ?_
  obtain ⟨_, _, _, _, _, T, _, _, e1, _, e2, e3, _⟩ := id hfl
  unfold PySem.passOn
  refine wpAny_bind (wpAny_field e1 e2 e3 ?_)
  have nt : ¬ ((Value.ref T == Value.none) = true) := by simp
  rw [if_neg nt]
  have up : wpAny (model X.prog X.w) X.A (setFlight (.ref a) X.env.frame) (fun _ s4 => wpAny (model X.prog X.w) X.A (throw (.ref a) : Sem Flow) (SP X pins D) X.xe s4) X.xe s := by
    rw [h.fr]
    exact HandSPX.setFlight_upZ hfl fun g gh gu => wpAny_throw (tk _ _ ⟨a, G, t, pins, σ, H, cls, d, rfl, It, hG, hu.trans gu, .inr (.inr (by rw [h.st]; exact gh)), h.no, ho, hg, hw⟩)
  first
    | exact wpAny_bind (wpAny_pure (wpAny_bind up))
    | exact wpAny_bind up
/-- the clause's class is read and asked -/
theorem asks {pins : List (Addr × Obj)} {σ : L2.St} {H : Hp} {cls : Value} {d : Option Addr} {a : Addr} {s : Shared} {r : Bool} {Q : Value → Shared → Prop} {E : Value → Shared → Prop} (h : Down X pins σ H cls d a s) (nm : Names X x c) (q : Q c s) :
    wpAny (model X.prog X.w) (X.A.mark (some (.ref a))) (eval (.Name x np) X.env) Q E s := by
  obtain ⟨ob, _, _, _, S⟩ := h.begin
  obtain ⟨gx, nd, mx | ⟨mx, bx, nx⟩⟩ := nm
  · exact ld_glob (X := X.suite a ((a, ob) :: (X.pn ++ pins))) S gx mx q nd
  · exact ld_blt (X := X.suite a ((a, ob) :: (X.pn ++ pins))) S gx mx bx q nx nd
theorem looksC {pins : List (Addr × Obj)} {σ : L2.St} {H : Hp} {cls : Value} {d : Option Addr} {a : Addr} {s : Shared} (h : Down X pins σ H cls d a s) : PySem.W.Looks (model X.prog X.w) s.heap (typeOf (.ref a)) cls := by
  obtain ⟨ob, e, hz, _⟩ := h.begin
  intro A Q E s' k q
  exact wpAny_typeOf_ref (k _ _ e) (by rw [hz.1]; exact q)
theorem hds_cons (nm : Names X x c) (su : SuOk X (b :: ss) t) (r : Hds X hds w) : Hds X (.ExceptHandler (some (.Name x np)) none (b :: ss) pos :: hds) (wCl X.K c t w) := by
  intro pins σ H cls d a s D h ⟨r1, hr, yes, not⟩
  refine wpAny_handleBy_cons (codeAny_handlers_test ?_) (fun q => nomatch q)
  refine asks (r := r1) h nm ((PySem.W.exm_one (M := model X.prog X.w) h.inv.kIn (looksC h) hr).here ?_)
  cases r1 with
  | false =>
    show wpAny _ X.A (handleBy (.ref a) X.env hds) _ _ _
    exact r pins σ H cls d a s D h (not rfl)
  | true =>
    refine codeAny_handlers_suite (h.again fun s1 h1 => ?_)
    obtain ⟨ob, _, hz, hv, S⟩ := h1.begin
    refine wpAny_mono ((su a ob cls d (X.pn ++ pins) hz hv).run [] _ _ H _ S (yes rfl a h.no)) (fun fl s2 o => ?_) (fun _ _ z => z.elim)
    have ok := h1.inv.ok
    match fl, o with
    | .next, ⟨_, _, S2, q⟩ => exact ⟨_, _, S2.unsuite ok, q⟩
    | .brk, ⟨_, _, S2, q⟩ => exact ⟨_, _, S2.unsuite ok, q⟩
    | .cont, ⟨_, _, S2, q⟩ => exact ⟨_, _, S2.unsuite ok, q⟩
    | .ret _, ⟨_, _, _, S2, rv, q⟩ => exact ⟨_, _, _, S2.unsuite ok, rv, q⟩
theorem hds_as (nn : X.N.Nodup) (ni : X.N[i]? = some n) (nl : X.env.kindOf n = some .local) (nm : Names X x c) (su : SuOk X (b :: ss) t) (r : Hds X hds w) : Hds X (.ExceptHandler (some (.Name x np)) (some n) (b :: ss) pos :: hds) (wCl X.K c (tAs i t) w) := by
  intro pins σ H cls d a s D h ⟨r1, hr, yes, not⟩
  refine wpAny_handleBy_cons (codeAny_handlers_test ?_) (fun q => nomatch q)
  refine asks (r := r1) h nm ((PySem.W.exm_one (M := model X.prog X.w) h.inv.kIn (looksC h) hr).here ?_)
  cases r1 with
  | false =>
    show wpAny _ X.A (handleBy (.ref a) X.env hds) _ _ _
    exact r pins σ H cls d a s D h (not rfl)
  | true =>
    refine codeAny_handlers_suite_as (h.again fun s1 h1 => ?_)
    obtain ⟨ob, _, hz, hv, S⟩ := h1.begin
    refine store_ok (X := X.suite a ((a, ob) :: (X.pn ++ pins))) (v := .ref a) S nn ni (.inl nl) rfl (fun s2 S2 => ?_) (.inr nl)
    refine wpAny_mono ((su a ob cls d (X.pn ++ pins) hz hv).run [] s2 _ H _ S2 (yes rfl a h.no)) (fun fl s3 o => ?_) (fun _ _ z => z.elim)
    have ok := h1.inv.ok
    have last : ∀ {σ' : L2.St} {H' : Hp} {Q : Shared → Prop}, Inv (X.suite a ((a, ob) :: (X.pn ++ pins))) [] σ' H' s3 → (∀ s4, Inv X pins (σ'.set i none) H' s4 → Q s4) →
        wpAny (model X.prog X.w) X.A (do bindName X.env n .none; unbindBehindTheSuite X.env n pos) (fun _ s4 => Q s4) X.xe s3 := fun S3 q => gone_ok (S3.unsuite ok) nn ni nl q
    match fl, o with
    | .next, ⟨_, _, S3, q⟩ => exact last S3 fun _ J => ⟨_, _, J, q⟩
    | .brk, ⟨_, _, S3, q⟩ => exact last S3 fun _ J => ⟨_, _, J, q⟩
    | .cont, ⟨_, _, S3, q⟩ => exact last S3 fun _ J => ⟨_, _, J, q⟩
    | .ret _, ⟨_, _, _, S3, rv, q⟩ => exact last S3 fun _ J => ⟨_, _, _, J, rv, q⟩
end
section
variable {X : Cx} {body : List Stmt} {h1 : ExceptHandler} {hds : List ExceptHandler} {pos : Pos} {tb : WX → TS} {w : Ends → WX}
theorem ps_try_hds (hs : X.stack = X.env :: X.outer) (hf : X.env.frame = some X.env.locals)
    (hb : ∀ (W : WX) (pn : List (Addr × Obj)) (xe : Value → Shared → Prop), Takes (X.tr pn xe) W → PassesOwn (model X.prog X.w) X.A X.env xe → PSs (X.tr pn xe) body (tb W))
    (hh : Hds X (h1 :: hds) w) : PS X (.Try body (h1 :: hds) [] [] pos) (fun D σ H => tb (w D) D σ H) := by
  refine ⟨fun pins s σ H D I h => wpAny_Try_except ?_⟩
  have ok := I.ok
  have hst : X.A.frames = some (X.env :: X.outer) := hs ▸ ok.frames
  refine wpAny_mono ((hb (w D) (X.pn ++ pins) (fun e s1 => wpAny (model X.prog X.w) X.A (noteFrame e X.env) (fun _ s2 => wpAny (model X.prog X.w) X.A (setFlight e none) (fun _ s3 =>
    wpAny (model X.prog X.w) X.A (handleBy e X.env (h1 :: hds)) (SP X pins D) X.xe s3) X.xe s2) X.xe s1) (fun u s1 xx => ?_) PassesOwn.looking).run [] s σ H D (I.toTry _) h) (fun fl s1 o => ?_) (fun _ _ z => z)
  · obtain ⟨a, G, t, _, σ1, H1, cls, d, rfl, J, hG, hu, sky, na, ho, hg, hw⟩ := xx
    have sky1 : Sky G (X.env :: X.outer) a (Zc cls d) X.env.locals s1.heap := hs ▸ sky
    show wpAny (model X.prog X.w) X.A (noteFrame (.ref a) X.env) _ _ _
    exact Sky.land Zc.steady hst hf sky1 fun g gf gu => hh pins σ1 H1 cls d a _ D ⟨hs, hf, ⟨G, t, J.ofTry ok, hG, hu.trans gu, gf, ho, hg⟩, na⟩ hw
  · match fl, o with
    | .next, ⟨_, _, J, q⟩ => exact wpAny_execs_nil ⟨_, _, J.ofTry ok, q⟩
    | .brk, ⟨_, _, J, q⟩ => exact ⟨_, _, J.ofTry ok, q⟩
    | .cont, ⟨_, _, J, q⟩ => exact ⟨_, _, J.ofTry ok, q⟩
    | .ret _, ⟨_, _, _, J, rv, q⟩ => exact ⟨_, _, _, J.ofTry ok, rv, q⟩
end
end Lb
set_option Elab.async false
set_option linter.all false
set_option maxRecDepth 100000
set_option maxHeartbeats 4000000
namespace Lb
open PySem PySem.Spec PyProof.Rows L2 RZ TL
theorem pss_imp {X : Cx} {ss : List Stmt} {t t' : TS} (h : PSs X ss t) (i : ∀ D σ H, t' D σ H → t D σ H) : PSs X ss t' := ⟨fun pins s σ H D I z => h.run pins s σ H D I (i D σ H z)⟩
/-- clauses: the class, the word, the field if any -/
abbrev Clz := List (Addr × Str × Option Str)
/-- what a clause's answer asks -/
def clA (c : Addr × Str × Option Str) (d : Option Addr) (H : Hp) (Q : VK) : Prop := match c.2.2 with
  | none => ∀ p, H p = none → Q (.ref p) (upd H p (.lst [.str c.2.1]))
  | some f => ∃ (dd : Addr) (v : V), d = some dd ∧ H dd = some (.xd [(f, v)]) ∧ ∀ p, H p = none → Q (.ref p) (upd H p (.lst [.str c.2.1, v]))
/-- what an exception must be -/
def clE (l : Clz) (Q : VK) : XK := fun cls d H => ∃ c ∈ l, cls = .ref c.1 ∧ clA c d H Q
/-- no clause takes what a later one is for -/
def Dist (K : PySem.W.Frag) : Clz → Prop
  | [] => True
  | c :: r => PySem.W.exmOne K (.ref c.1) (.ref c.1) = some true ∧ (∀ x ∈ r, PySem.W.exmOne K (.ref x.1) (.ref c.1) = some false) ∧ Dist K r
/-- the suite's wish -/
def suW (c : Addr × Str × Option Str) : Addr → Value → Option Addr → TS := fun a cls d D σ H => cls = .ref c.1 ∧ (c.2.2.isSome = true → σ[1]? = some (some (.ref a))) ∧ clA c d H D.rt
def clW (K : PySem.W.Frag) : Clz → Ends → WX
  | [] => fun _ _ _ _ _ => False
  | c :: r => wCl K (.ref c.1) (match c.2.2 with | none => suW c | some _ => tAs 1 (suW c)) (clW K r)
theorem clW_in {K : PySem.W.Frag} : ∀ {l : Clz} {D : Ends} {cls : Value} {d : Option Addr} {σ : L2.St} {H : Hp}, Dist K l → clE l D.rt cls d H → σ.length = 2 → clW K l D cls d σ H
  | [], _, _, _, _, _, _, ⟨_, h, _⟩, _ => absurd h List.not_mem_nil
  | c :: r, D, cls, d, σ, H, ⟨h1, h2, h3⟩, ⟨x, hx, ex, hc⟩, hl => by
    by_cases e : x = c
    · subst e
      subst ex
      refine ⟨true, h1, fun _ a ha => ?_, fun z => nomatch z⟩
      obtain ⟨xa, tg, fo⟩ := x
      cases fo with
      | none => exact ⟨rfl, (fun z => nomatch z), hc⟩
      | some f =>
        refine ⟨rfl, fun _ => ?_, hc⟩
        obtain ⟨s0, s1, rfl⟩ : ∃ s0 s1, σ = [s0, s1] := by
          match σ, hl with
          | [s0, s1], _ => exact ⟨s0, s1, rfl⟩
        rfl
    · have hm : x ∈ r := by
        rcases List.mem_cons.mp hx with z | z
        · exact absurd z e
        · exact z
      subst ex
      exact ⟨false, h2 x hm, (fun z => nomatch z), fun _ => clW_in h3 ⟨x, hm, rfl, hc⟩ hl⟩
/-- what a def makes of a call: the answer, or what is raised -/
def TMade (l : Clz) : (XK → Hp → VK → Prop) → Hp → VK → Prop := fun tl H Q => tl (clE l Q) H (fun v H' => [V.str "ok", v].length ≤ sizeLine ∧ ∀ p, H' p = none → Q (.ref p) (upd H' p (.lst [.str "ok", v])))
end Lb
set_option Elab.async false
set_option linter.all false
set_option maxRecDepth 100000
set_option maxHeartbeats 4000000
namespace Lb
open PySem PySem.Spec PyProof.Rows L2 RZ TL
/-! ### {x} of an own class -/
section
variable {X : Cx} {C : Addr} {k : Nat} {ps : List Str} {sp : Sp} {E : XK}
end
/-! ### x == y of two classes, x != y where the right one is of a subclass -/
section
variable {X : Cx} {C C2 : Addr} {k : Nat} {ps : List Str} {sp : Sp} {E : XK}
end
/-! ### the texts of desks -/
end Lb
namespace Lb
open PySem PySem.Spec PyProof.Rows L2 RZ TL
end Lb
set_option Elab.async false
set_option linter.all false
set_option maxRecDepth 100000
set_option maxHeartbeats 4000000
namespace Lb
open PySem PySem.Spec PyProof.Rows L2 RZ TL
/-! ### what the making of a desk must tell -/
def capD : PyData → Bool
  | .int n => decide (0 ≤ n)
  | _ => false
def dueR (g : Int) (row : Option (List Int)) (c : PyData) : PyData := match row with
  | none => .list [.str "bag"]
  | some x => if (x.length : Int) ≠ g then .list [.str "bag"] else match muchN x with
    | some k => .list [.str "much", .int (k : Int)]
    | none => if capD c = true then .list [.str "ok"] else .list [.str "times", c]
theorem dErr_n {g : Int} {ts : List PyData} (h : mErr (.tuple [.int g, .tuple ts]) = .none) : dErr (.tuple [.int g, .tuple ts]) = if 3 < g ∨ 3 < ts.length then errD "room" else .none := by
  unfold dErr
  rw [h]
/-- the amounts of a stock that is a Bag, or None -/
def RowV (H : Hp) (v : V) : Option (List Int) → Prop
  | none => v = .non
  | some x => ∃ p, v = .ref p ∧ H p = some (.tup (x.map V.int)) ∧ x.length ≤ 4
theorem RowV.same {H H' : Hp} {v : V} {r : Option (List Int)} (h : RowV H v r) (s : Same H H') : RowV H' v r := match r, h with
  | none, h => h
  | some _, ⟨p, e, h1, h2⟩ => ⟨p, e, s _ _ h1, h2⟩
/-- values that a cap is drawn from -/
inductive CapV : V → PyData → Prop
  | int (n : Int) : CapV (.int n) (.int n)
  | bl (b : Bool) : CapV (.bl b) (.bool b)
  | non : CapV .non .none
  | str (x : Str) : CapV (.str x) (.str x)
theorem CapV.dat {R : Rgn} {H : Hp} {v : V} {c : PyData} : CapV v c → Dat R H v c
  | .int n => .int n
  | .bl b => .bl b
  | .non => .non
  | .str x => .str x
theorem CapV.capB {K : PySem.W.Frag} {H : Hp} {v : V} {c : PyData} (h : CapV v c) : capB K H v (capD c) := by
  have hd : Dat (fun _ => True) H v c := h.dat
  refine ⟨_, _, _, dat_ty hd, kit_ty (kit_int c), kit_ty (kit_bool c), ?_⟩
  cases h with
  | int n => exact .inr ⟨rfl, n, rfl, rfl⟩
  | bl b => exact .inl ⟨rfl, rfl⟩
  | non => exact .inl ⟨rfl, rfl⟩
  | str x => exact .inl ⟨rfl, rfl⟩
/-- the goods of which there is too much -/
def great : List Int → Nat → List Nat
  | [], _ => []
  | a :: x, i => if 6 < a then i :: great x (i + 1) else great x (i + 1)
end Lb
set_option Elab.async false
set_option linter.all false
set_option maxRecDepth 100000
set_option maxHeartbeats 4000000
namespace Lb
open PySem PySem.Spec PyProof.Rows L2 RZ TL
/-! ### what the making of a desk tells -/
theorem RowV.extN {H H' : Hp} {v : V} {r : Option (List Int)} (h : RowV H v r) (k : LamX.ExtN H H') : RowV H' v r := match r, h with
  | none, h => h
  | some _, ⟨p, e, h1, h2⟩ => ⟨p, e, k _ _ h1 (fun _ z => nomatch z), h2⟩
/-- what follows is named -/
theorem seq_in {t u : TS} {D : Ends} {σ : L2.St} {H : Hp} (h : ∀ DD : Ends, DD.nx = u D → DD.rt = D.rt → DD.bk = D.bk → DD.ct = D.ct → t DD σ H) : tSeq t u D σ H := h { D with nx := u D } rfl rfl rfl rfl
/-- the list that is told: what is due, or ok and a desk -/
def FoundL (C CX : Addr) (R : Rgn) (H : Hp) (due : PyData) (mv sv : V) (row : Option (List Int)) (more : List (Str × V)) (l : List V) : Prop :=
  (∃ (w : Str) (ds : List PyData) (r : List V), l = .str w :: r ∧ w ≠ "ok" ∧ due = .list (.str w :: ds) ∧ Dats R H r ds ∧ r.length ≤ 1) ∨
    (due = .list [.str "ok"] ∧ ∃ (z : List Int) (x dx ow to pl : Addr), row = some z ∧ l = [.str "ok", .ref x] ∧ H x = some (.ins CX dx (dskF mv sv (.ref ow) pl ++ more)) ∧ Bg C H ow to (List.replicate z.length 0) ∧ H pl = some (.lst []))
theorem made_same {H : Hp} {x dx CX : Addr} (nx : H x = none) (ndx : H dx = none) : Same H (upd (upd H dx (.own x)) x (.ins CX dx [])) := fun b o e => by
  rw [upd_ne (ne_of_none e nx), upd_ne (ne_of_none e ndx)]
  exact e
theorem put_same {H H' : Hp} {x : Addr} {o' : HO} (nx : H x = none) (s : Same H H') : Same H (upd H' x o') := fun b o e => by
  rw [upd_ne (ne_of_none e nx)]
  exact s _ _ e
theorem SameX.fresh {x : Addr} {H H0 H' : Hp} (nx : H x = none) (s : Same H H0) (k : SameX x H0 H') : Same H H' := fun b o e => k b o (ne_of_none e nx) (s _ _ e)
section
variable {K : PySem.W.Frag} {C CB CM CT CV CX x dx : Addr} {R : Rgn} {H : Hp} {Q : VK} {mv sv : V} {d : PyData} {row : Option (List Int)}
end
theorem FoundL.same {C CX : Addr} {R : Rgn} {H H' : Hp} {due : PyData} {mv sv : V} {row : Option (List Int)} {more : List (Str × V)} {l : List V} (h : FoundL C CX R H due mv sv row more l) (s : Same H H') : FoundL C CX R H' due mv sv row more l := by
  rcases h with ⟨w, ds, r, h1, h2, h3, h4, h5⟩ | ⟨h1, z, x, dx, ow, to, pl, h2, h3, h4, h5, h6⟩
  · exact .inl ⟨w, ds, r, h1, h2, h3, h4.same s, h5⟩
  · exact .inr ⟨h1, z, x, dx, ow, to, pl, h2, h3, s _ _ h4, h5.same s, s _ _ h6⟩
/-- found[:1] + found[1:] * int(found[0] != 'ok') -/
theorem FoundL.cut {C CX : Addr} {R : Rgn} {H : Hp} {due : PyData} {mv sv : V} {row : Option (List Int)} {more : List (Str × V)} {l : List V} (h : FoundL C CX R H due mv sv row more l) :
    ∃ (w : Str) (r : List V) (ds : List PyData), l = .str w :: r ∧ r.length ≤ 1 ∧ due = .list ds ∧ Dats R H ([V.str w] ++ (List.replicate (if (!decide (V.str w = V.str "ok")) = true then (1 : Int) else 0).toNat r).flatten) ds := by
  rcases h with ⟨w, ds, r, h1, h2, h3, h4, h5⟩ | ⟨h1, z, x, dx, ow, to, pl, h2, h3, h4, h5, h6⟩
  · refine ⟨w, r, _, h1, h5, h3, ?_⟩
    rw [decide_eq_false (fun z => h2 (V.str.inj z))]
    have e : (List.replicate (if (!false) = true then (1 : Int) else 0).toNat r).flatten = r := by
      show (List.replicate 1 r).flatten = r
      simp
    rw [e]
    exact .cons (.str _) h4
  · refine ⟨"ok", [.ref x], _, h3, Nat.le_refl _, h1, ?_⟩
    rw [decide_eq_true rfl]
    exact .cons (.str _) .nil
end Lb
set_option Elab.async false
set_option linter.all false
set_option maxRecDepth 100000
set_option maxHeartbeats 4000000
namespace Lb
open PySem PySem.Spec PyProof.Rows L2 RZ TL
mutual
theorem lay_nd : ∀ {d : PyData}, d.canLay0 = true → d.hasDict = false
  | .none, _ => by rw [PyData.hasDict]
  | .bool _, _ => by rw [PyData.hasDict]
  | .int _, _ => by rw [PyData.hasDict]
  | .str _, _ => by rw [PyData.hasDict]
  | .list xs, h => by
    rw [PyData.canLay0] at h
    rw [PyData.hasDict]
    exact lay_nds h
  | .tuple xs, h => by
    rw [PyData.canLay0] at h
    rw [PyData.hasDict]
    exact lay_nds h
  | .dict _, h => by
    rw [PyData.canLay0] at h
    cases h
theorem lay_nds : ∀ {ds : List PyData}, PyData.canLayAll0 ds = true → PyData.hasDictAll ds = false
  | [], _ => by rw [PyData.hasDictAll]
  | d :: ds, h => by
    rw [PyData.canLayAll0, Bool.and_eq_true] at h
    rw [PyData.hasDictAll, lay_nd h.1, lay_nds h.2]
    rfl
end
theorem lay_all : ∀ {ds : List PyData}, (∀ d ∈ ds, d.canLay0 = true) → PyData.canLayAll0 ds = true
  | [], _ => by rw [PyData.canLayAll0]
  | d :: ds, h => by
    rw [PyData.canLayAll0, h d List.mem_cons_self, lay_all fun x hx => h x (List.mem_cons_of_mem _ hx)]
    rfl
theorem lay_tup {ds : List PyData} (h : ∀ d ∈ ds, d.canLay0 = true) : (PyData.tuple ds).canLay0 = true := by
  rw [PyData.canLay0]
  exact lay_all h
theorem lay_int (n : Int) : (PyData.int n).canLay0 = true := by rw [PyData.canLay0]
theorem two_all {p : PyData → Prop} {a b : PyData} (ha : p a) (hb : p b) : ∀ d ∈ [a, b], p d := fun d hd => by
  rcases List.mem_cons.mp hd with rfl | hd
  · exact ha
  · rw [List.mem_singleton.mp hd]
    exact hb
theorem bag_lay {g : Int} {d : PyData} (h : bagB g d = true) : d.canLay0 = true := by
  cases d with
  | tuple ds =>
    rw [bagB_tup, Bool.and_eq_true] at h
    refine lay_tup fun x hx => ?_
    have := List.all_eq_true.mp h.2 x hx
    cases x with
    | int n => exact lay_int n
    | _ => exact absurd this Bool.false_ne_true
  | _ => exact absurd h Bool.false_ne_true
theorem tw_none_lay {g : Int} {t : PyData} (h : tw g t = none) : t.canLay0 = true := by
  unfold tw at h
  split at h
  · split at h
    · rename_i hb
      rw [Bool.and_eq_true] at hb
      exact lay_tup (two_all (bag_lay hb.1) (bag_lay hb.2))
    · cases h
  · cases h
theorem scan_none_lay {g : Int} : ∀ {ts : List PyData} {k : Nat}, scan g ts k = .none → ∀ t ∈ ts, t.canLay0 = true
  | [], _, _ => fun _ h => absurd h List.not_mem_nil
  | t :: ts, k, h => by
    rw [scan_cons] at h
    cases e : tw g t with
    | none =>
      rw [e] at h
      intro x hx
      rcases List.mem_cons.mp hx with rfl | hx
      · exact tw_none_lay e
      · exact scan_none_lay h x hx
    | some w =>
      rw [e] at h
      cases h
theorem mkt_lay {d : PyData} (h : mErr d = .none) : d.canLay0 = true := by
  obtain ⟨g, ts, rfl, g1, g4, t4⟩ := mErr_none h
  have h' : (if 1 ≤ g ∧ g ≤ 4 then (if ts.length ≤ 4 then scan g ts 0 else errD "many") else errD "goods") = .none := h
  rw [if_pos ⟨g1, g4⟩, if_pos t4] at h'
  exact lay_tup (two_all (lay_int _) (lay_tup (scan_none_lay h')))
theorem shaped_of {d : PyData} {S k : Nat} (h : d.canLay0 = true) (ok : Ok S k d) (hk : k ≤ 64) : SeqAt.shaped d = true := by
  unfold SeqAt.shaped
  rw [h, decide_eq_true (Nat.le_trans ok.dp hk)]
  rfl
theorem FoundL.extN {C CX : Addr} {R : Rgn} {H H' : Hp} {due : PyData} {mv sv : V} {row : Option (List Int)} {more : List (Str × V)} {l : List V} (h : FoundL C CX R H due mv sv row more l) (k : LamX.ExtN H H') : FoundL C CX R H' due mv sv row more l := by
  rcases h with ⟨w, ds, r, h1, h2, h3, h4, h5⟩ | ⟨h1, z, x, dx, ow, to, pl, h2, h3, h4, h5, h6⟩
  · exact .inl ⟨w, ds, r, h1, h2, h3, Dats.extN k h4, h5⟩
  · exact .inr ⟨h1, z, x, dx, ow, to, pl, h2, h3, k _ _ h4 (fun _ z => nomatch z), h5.extN k, k _ _ h6 (fun _ z => nomatch z)⟩
/-- is it ok -/
theorem FoundL.eqv {C CX : Addr} {R : Rgn} {H : Hp} {due : PyData} {mv sv : V} {row : Option (List Int)} {more : List (Str × V)} {l : List V} (h : FoundL C CX R H due mv sv row more l) :
    (PyData.eqv due (.list [.str "ok"]) = false) ∨ (PyData.eqv due (.list [.str "ok"]) = true ∧ due = .list [.str "ok"] ∧ ∃ (z : List Int) (x dx ow to pl : Addr), row = some z ∧ l = [.str "ok", .ref x] ∧ H x = some (.ins CX dx (dskF mv sv (.ref ow) pl ++ more)) ∧ Bg C H ow to (List.replicate z.length 0) ∧ H pl = some (.lst [])) := by
  rcases h with ⟨w, ds, r, h1, h2, h3, h4, h5⟩ | ⟨h1, h2⟩
  · refine .inl ?_
    rw [h3, PyData.eqv, PyData.eqvAll, PyData.eqv]
    have : (w == ("ok" : Str)) = false := by simpa using h2
    rw [this, Bool.false_and]
  · refine .inr ⟨?_, h1, h2⟩
    rw [h1]
    decide +kernel
end Lb
set_option Elab.async false
set_option linter.all false
set_option maxRecDepth 100000
set_option maxHeartbeats 4000000
namespace Lb
open PySem PySem.Spec PyProof.Rows L2 RZ TL
/-! ### desks and their deeds -/
/-- the pairs of stock and debt ahead of each deed -/
inductive PastV (C : Addr) (H : Hp) : List V → List (List Int × List Int) → Prop
  | nil : PastV C H [] []
  | cons {p b t o u : Addr} {x y : List Int} {vs : List V} {l : List (List Int × List Int)} (e : H p = some (.tup [.ref b, .ref o])) (hb : Bg C H b t x) (ho : Bg C H o u y) (r : PastV C H vs l) : PastV C H (.ref p :: vs) ((x, y) :: l)
theorem PastV.length {C : Addr} {H : Hp} : ∀ {vs : List V} {l : List (List Int × List Int)}, PastV C H vs l → vs.length = l.length
  | _, _, .nil => rfl
  | _, _, .cons _ _ _ r => by rw [List.length_cons, List.length_cons, r.length]
/-- what is no desk, no list is kept: enough for Bags and tuples -/
theorem PastV.keep {C : Addr} {H H' : Hp} (k : ∀ b o, (∃ xs, o = .tup xs) ∨ (∃ dx fs, o = .ins C dx fs) → H b = some o → H' b = some o) : ∀ {vs : List V} {l : List (List Int × List Int)}, PastV C H vs l → PastV C H' vs l
  | _, _, .nil => .nil
  | _, _, .cons e hb ho r => .cons (k _ _ (.inl ⟨_, rfl⟩) e) ⟨let ⟨dx, e⟩ := hb.ins; ⟨dx, k _ _ (.inr ⟨_, _, rfl⟩) e⟩, k _ _ (.inl ⟨_, rfl⟩) hb.tup⟩ ⟨let ⟨dx, e⟩ := ho.ins; ⟨dx, k _ _ (.inr ⟨_, _, rfl⟩) e⟩, k _ _ (.inl ⟨_, rfl⟩) ho.tup⟩ (r.keep k)
theorem PastV.append {C : Addr} {H : Hp} : ∀ {vs ws : List V} {l m : List (List Int × List Int)}, PastV C H vs l → PastV C H ws m → PastV C H (vs ++ ws) (l ++ m)
  | _, _, _, _, .nil, h => h
  | _, _, _, _, .cons e hb ho r, h => .cons e hb ho (r.append h)
theorem PastV.split {C : Addr} {H : Hp} : ∀ {vs : List V} {l : List (List Int × List Int)} {z : List Int × List Int}, PastV C H vs (l ++ [z]) → ∃ (ws : List V) (p b t o u : Addr), vs = ws ++ [.ref p] ∧ PastV C H ws l ∧ H p = some (.tup [.ref b, .ref o]) ∧ Bg C H b t z.1 ∧ Bg C H o u z.2
  | _, [], _, .cons e hb ho .nil => ⟨[], _, _, _, _, _, rfl, .nil, e, hb, ho⟩
  | _, _ :: l, z, .cons e hb ho r => by
    obtain ⟨ws, p, b, t, o, u, rfl, h1, h2, h3, h4⟩ := r.split (l := l) (z := z)
    exact ⟨_ :: ws, p, b, t, o, u, rfl, .cons e hb ho h1, h2, h3, h4⟩
/-- a desk at a: class, dict, market, more fields, stock, debt, past -/
structure DeskAt (K : PySem.W.Frag) (C CX : Addr) (H : Hp) (a dx pl : Addr) (mv : V) (more : List (Str × V)) (x y : List Int) (past : List (List Int × List Int)) : Prop where
  ex : ∃ (b t o u : Addr) (vs : List V), H a = some (.ins CX dx (dskF mv (.ref b) (.ref o) pl ++ more)) ∧ Bg C H b t x ∧ Bg C H o u y ∧ H pl = some (.lst vs) ∧ PastV C H vs past
  ne : C ≠ CX
/-- all is kept but a and pl -/
def Ke (a pl : Addr) (H H' : Hp) : Prop := ∀ b o, b ≠ a → b ≠ pl → H b = some o → H' b = some o
theorem Ke.of {a pl : Addr} {H H' : Hp} (s : Same H H') : Ke a pl H H' := fun b o _ _ e => s b o e
theorem Ke.trans {a pl : Addr} {H H1 H2 : Hp} (h : Ke a pl H H1) (k : Ke a pl H1 H2) : Ke a pl H H2 := fun b o n1 n2 e => k b o n1 n2 (h b o n1 n2 e)
theorem Bg.ke {C CX : Addr} {H H' : Hp} {a dx pl b t : Addr} {fs : List (Str × V)} {vs : List V} {x : List Int} (h : Bg C H b t x) (k : Ke a pl H H') (ne : C ≠ CX) (ea : H a = some (.ins CX dx fs)) (ep : H pl = some (.lst vs)) : Bg C H' b t x := by
  obtain ⟨db, eb⟩ := h.ins
  refine ⟨⟨db, k _ _ (fun z => ?_) (fun z => ?_) eb⟩, k _ _ (fun z => ?_) (fun z => ?_) h.tup⟩
  · rw [z, ea] at eb
    cases eb
    exact ne rfl
  · rw [z, ep] at eb
    cases eb
  · have := h.tup
    rw [z, ea] at this
    cases this
  · have := h.tup
    rw [z, ep] at this
    cases this
theorem DeskAt.same {K : PySem.W.Frag} {C CX : Addr} {H H' : Hp} {a dx pl : Addr} {mv : V} {more : List (Str × V)} {x y : List Int} {past : List (List Int × List Int)} (h : DeskAt K C CX H a dx pl mv more x y past) (s : Same H H') : DeskAt K C CX H' a dx pl mv more x y past := by
  obtain ⟨b, t, o, u, vs, h1, h2, h3, h4, h5⟩ := h.ex
  exact ⟨⟨b, t, o, u, vs, s _ _ h1, h2.same s, h3.same s, s _ _ h4, h5.keep fun b o _ e => s b o e⟩, h.ne⟩
/-- Desk.record(self, stock, debt) -/
def spRecord (K : PySem.W.Frag) (C CX : Addr) : Sp := fun vs H Q _ => ∃ (a dx pl b' t' o' u' : Addr) (mv : V) (more : List (Str × V)) (x y x' y' : List Int) (past : List (List Int × List Int)), vs = [.ref a, .ref b', .ref o'] ∧ DskC K CX ∧ DeskAt K C CX H a dx pl mv more x y past ∧ Bg C H b' t' x' ∧ Bg C H o' u' y' ∧ past.length < 500 ∧ more.length ≤ 1 ∧
  (∀ p ∈ more, p.1 = ("most" : Str)) ∧ ∀ H', Ke a pl H H' → DeskAt K C CX H' a dx pl mv more x' y' (past ++ [(x, y)]) → Q (.int ((past.length + 1 : Nat) : Int)) H'
end Lb
set_option Elab.async false
set_option linter.all false
set_option maxRecDepth 100000
set_option maxHeartbeats 4000000
namespace Lb
open PySem PySem.Spec PyProof.Rows L2 RZ TL
abbrev plusZ (x z : List Int) : List Int := List.zipWith (· + ·) x z
abbrev lessZ (x z : List Int) : List Int := List.zipWith (· - ·) x z
abbrev joinZ (x z : List Int) : List Int := List.zipWith maxI x z
theorem plus_ok : ∀ {x z : List Int}, BgOk x → BgOk z → z.length = x.length → BgOk (plusZ x z) := fun {x z} hx hz hl => by
  have l : (plusZ x z).length = x.length := by rw [List.length_zipWith]; omega
  refine ⟨by rw [l]; exact hx.1, by rw [l]; exact hx.2, fun v hv => ?_⟩
  obtain ⟨u, hu, w, hw, rfl⟩ := mem_zip hv
  have h1 := hx.3 u hu
  have h2 := hz.3 w hw
  show 0 ≤ u + w
  omega
theorem join_ok {x z : List Int} (hx : BgOk x) (hz : BgOk z) (hl : z.length = x.length) : BgOk (joinZ x z) := by
  have l : (joinZ x z).length = x.length := by rw [List.length_zipWith]; omega
  refine ⟨by rw [l]; exact hx.1, by rw [l]; exact hx.2, fun v hv => ?_⟩
  obtain ⟨u, hu, w, hw, rfl⟩ := mem_zip hv
  have h1 := hx.3 u hu
  have h2 := hz.3 w hw
  show 0 ≤ if w > u then w else u
  split <;> omega
/-- more fields of a desk: none, or the cap -/
def MoreOk (more : List (Str × V)) : Prop := more = [] ∨ ∃ v : V, more = [(("most" : Str), v)]
theorem MoreOk.len {more : List (Str × V)} (h : MoreOk more) : more.length ≤ 1 := by
  rcases h with rfl | ⟨v, rfl⟩
  · exact Nat.zero_le _
  · exact Nat.le_refl _
theorem MoreOk.all {more : List (Str × V)} (h : MoreOk more) : ∀ p ∈ more, p.1 = ("most" : Str) := by
  rcases h with rfl | ⟨v, rfl⟩
  · exact fun p hp => absurd hp List.not_mem_nil
  · exact fun p hp => by rw [List.mem_singleton.mp hp]
/-- no field has the name of a method -/
theorem MoreOk.no {more : List (Str × V)} (h : MoreOk more) {mv s o : V} {pl : Addr} {m : Str} (n1 : m ≠ "place") (n2 : m ≠ "present") (n3 : m ≠ "owed") (n4 : m ≠ "past") (n5 : m ≠ "most") : (dskF mv s o pl ++ more).lookup m = none := by
  have b : ∀ {x y : Str}, x ≠ y → (x == y) = false := fun {x y} h => by simpa using h
  rcases h with rfl | ⟨v, rfl⟩
  · show List.lookup m [("place", mv), ("present", s), ("owed", o), ("past", .ref pl)] = none
    simp only [List.lookup, b n1, b n2, b n3, b n4]
  · show List.lookup m [("place", mv), ("present", s), ("owed", o), ("past", .ref pl), ("most", v)] = none
    simp only [List.lookup, b n1, b n2, b n3, b n4, b n5]
/-- a raised error that has the first good k -/
def ErrG (E : XK) (C : Addr) (H : Hp) (k : Nat) : Prop := ∀ (H' : Hp) (dd : Addr), Same H H' → H dd = none → H' dd = some (.xd [("good", .int (k : Int))]) → E (.ref C) (some dd) H'
def ErrN (E : XK) (C : Addr) (H : Hp) : Prop := ∀ H', Same H H' → E (.ref C) none H'
/-- what a deed that is done leaves -/
def Done (K : PySem.W.Frag) (C CX : Addr) (H : Hp) (a dx pl : Addr) (mv : V) (more : List (Str × V)) (x y : List Int) (past : List (List Int × List Int)) (Q : VK) (x' y' : List Int) : Prop :=
  ∀ H', Ke a pl H H' → DeskAt K C CX H' a dx pl mv more x' y' (past ++ [(x, y)]) → Q (.int ((past.length + 1 : Nat) : Int)) H'
/-- Desk.borrow(self, bag) -/
def spBorrow (K : PySem.W.Frag) (C CX CB CT : Addr) : Sp := fun vs H Q E => ∃ (a dx pl : Addr) (v mv : V) (more : List (Str × V)) (x y : List Int) (past : List (List Int × List Int)), vs = [.ref a, v] ∧ DskC K CX ∧ DeskAt K C CX H a dx pl mv more x y past ∧ BgOk x ∧ BgOk y ∧ y.length = x.length ∧ past.length < 500 ∧ MoreOk more ∧
  Opd K C H v (fun b s z => (z.length = y.length → (∀ k : Nat, muchN (joinZ (plusZ x z) (plusZ y z)) = some k → ErrG E CT H k) ∧ (muchN (joinZ (plusZ x z) (plusZ y z)) = none → Done K C CX H a dx pl mv more x y past Q (plusZ x z) (plusZ y z))) ∧ (z.length ≠ y.length → ErrN E CB H)) (ErrN E CB H)
/-- Desk.pay(self, bag) -/
def spPay (K : PySem.W.Frag) (C CX CB CO CL : Addr) : Sp := fun vs H Q E => ∃ (a dx pl : Addr) (v mv : V) (more : List (Str × V)) (x y : List Int) (past : List (List Int × List Int)), vs = [.ref a, v] ∧ DskC K CX ∧ DeskAt K C CX H a dx pl mv more x y past ∧ BgOk x ∧ BgOk y ∧ y.length = x.length ∧ past.length < 500 ∧ MoreOk more ∧
  Opd K C H v (fun b s z => (z.length = y.length → (∀ k : Nat, lackN y z 0 = some k → ErrG E CO H k) ∧ (lackN y z 0 = none → (∀ k : Nat, lackN x z 0 = some k → ErrG E CL H k) ∧ (lackN x z 0 = none → Done K C CX H a dx pl mv more x y past Q (lessZ x z) (lessZ y z)))) ∧ (z.length ≠ y.length → ErrN E CB H)) (ErrN E CB H)
end Lb
set_option Elab.async false
set_option linter.all false
set_option maxRecDepth 100000
set_option maxHeartbeats 4000000
namespace Lb
open PySem PySem.Spec PyProof.Rows L2
/-! ### the law's end where several defs make lambdas -/
/-- the law's promise, the tables of cs empty -/
def spLawS (K : PySem.W.Frag) (cs : List (Addr × Addr)) : Sp := fun vs H Q _ => ∃ (a : Addr) (ns : List Int), vs = [.ref a] ∧ SqL K H a (ns.map V.int) ∧ ns.length ≤ 63 ∧ (∀ q ∈ cs, H q.2 = some (.tbl #[])) ∧ ∀ H', Q (.bl true) H'
section
variable {P : Program} {w : World} {K : PySem.W.Frag} {mg mb : Str → Option Value} {CX : CXT} {k : Nat} {fa a : Addr} {cs : List (Addr × Addr)} {fd : FuncData} {x : Str} {sp : Sp} {s1 : Shared} {vs : List Value} {ns : List Int}
/-- b is one of the tables -/
def InTb (cs : List (Addr × Addr)) (b : Addr) : Prop := ∃ q ∈ cs, b = q.2
theorem go_tabs {H : Hp} (kin : K.In s1.heap) (hns : s1.heap.Ns mainGlobals mg) (hb : s1.heap.Ns builtinsNs mb) (hbb : ∀ x : Str, x ≠ "__name__" → mb x = bootBuiltins x) (hlim : s1.heap.NoLimit) (hg : s1.gens = #[])
    (hTs : ∀ q ∈ cs, s1.heap.get? q.2 = some { cls := .none, data := .fields #[] }) (nTs : ∀ q ∈ cs, K.lookup q.2 = none) (Cs : ∀ q ∈ cs, PySem.W.CodeHd s1.heap q.1 q.2)
    (hbm : ∃ (bm : Addr) (ob : Obj), mg "__builtins__" = some (.ref bm) ∧ bm ≠ builtinsNs ∧ s1.heap.get? bm = some ob ∧ ob.cls = .type "module" ∧ ob.dict = some builtinsNs ∧ ob.data = .plain)
    (ha : s1.heap.get? a = some { cls := .type "list", data := .seq vs.toArray }) (hr : Room k callerA)
    (F : ∀ base : Heap, K.In base → base.Ns mainGlobals mg → (∀ q ∈ cs, LamX.TabB base mg q.1 q.2) → FnG P w K mg base CX k fa fd [x] sp) (hbind : ∀ (s : Shared) (u : Value), BindsTo s fd ⟨[u], []⟩ [(x, u)])
    (hPs : ∀ q ∈ cs, H q.2 = some (.tbl #[])) (only : ∀ b, H b = none ∨ InTb cs b ∨ ∃ o xs, H b = some (.frz o (.lst xs))) (hok : HOk P w H s1.heap) (hA : ∀ b, H b ≠ none → b = a ∨ InTb cs b) (hK : H a ≠ none → K.lookup a = none)
    (hsp : sp [.ref a] H (fun v _ => v = .bl true) fun _ _ _ => False) (hCX : ∀ e s', CX [] H s1 (fun _ _ _ => False) e s' → False) :
    codeAny (model P w) callerA (.call (.ref fa) ⟨[.ref a], []⟩) (LawEnd s1) s1 := by
  have isA : ∀ {b : Addr} {u : HO}, H b = some u → b = a ∨ InTb cs b := fun {b u} e => hA b (by rw [e]; exact fun z => nomatch z)
  -- what is neither the script nor a table is hidden from nobody
  have free : ∀ {b : Addr} {o : Obj}, s1.heap.get? b = some o → (∀ us n, o.data ≠ .seq us n) → o.data ≠ .fields #[] → H b = none := by
    intro b o e d1 d2
    cases q : H b with
    | none => rfl
    | some u =>
      rcases isA q with eb | ⟨p, hp, eb⟩
      · subst eb
        rw [ha] at e
        cases e
        exact absurd rfl (d1 _ _)
      · subst eb
        rw [hTs p hp] at e
        cases e
        exact absurd rfl d2
  have ns : ∀ {b : Addr} {m : Str → Option Value}, s1.heap.Ns b m → (hidT s1.heap H).Ns b m := by
    rintro b m ⟨o, es, ep, e, d, r⟩
    exact ⟨o, es, ep, hidT_get e (free e (fun us n z => by rw [d] at z; cases z) (fun z => by rw [d] at z; cases z)), d, r⟩
  have kb : K.In (hidT s1.heap H) := by
    intro b o e
    refine hidT_get (kin b o e) ?_
    cases q : H b with
    | none => rfl
    | some u =>
      rcases isA q with eb | ⟨p, hp, eb⟩
      · subst eb
        rw [hK (by rw [q]; exact fun z => nomatch z)] at e
        cases e
      · rw [eb, nTs p hp] at e
        cases e
  have tbs : ∀ p ∈ cs, LamX.TabB (hidT s1.heap H) mg p.1 p.2 := by
    intro p hp
    have hT := hTs p hp
    refine ⟨?_, ?_, fun z => ?_⟩
    · obtain ⟨o, us, file, tf, flags, tg, inF, text, tt, e1, r1, r2, r3, rest⟩ := Cs p hp
      refine ⟨o, us, file, tf, flags, tg, inF, text, tt, hidT_get e1 (free e1 (fun us n z => by rw [r2] at z; cases z) fun z => ?_), r1, r2, r3, rest⟩
      rw [r2] at z
      cases z
      simp at r3
    · obtain ⟨bm, ob, b1, b2, b3, b4, b5, b6⟩ := hbm
      refine ⟨bm, ob, b1, b2, fun z => ?_, fun z => ?_, hidT_get b3 (free b3 (fun us n z => by rw [b6] at z; cases z) (fun z => by rw [b6] at z; cases z)), b4, b5, b6⟩
      · obtain ⟨o, es, ep, e, d, _⟩ := hns
        rw [z, e] at b3
        cases b3
        rw [d] at b6
        cases b6
      · rw [z, hT] at b3
        cases b3
        cases b6
    · obtain ⟨o, es, ep, e, d, _⟩ := hns
      rw [z, hT] at e
      cases e
      cases d
  obtain ⟨mc, n1, n2⟩ := hlim
  have md : Mod K mg (hidT s1.heap H) := ⟨kb, ns hns, ⟨mb, ns hb, hbb⟩, ⟨mc, ns n1, n2⟩⟩
  have e0 : Env0 P w K mg (hidT s1.heap H) callerA [] s1 H :=
    ⟨rfl, md, fun b o e => of_hidT e, Nat.le_of_eq (hidT_size _ _), trivial, fun b hb => absurd (show b ∈ ([] : List Addr) from hb) (by simp), hok, .of_eq hg⟩
  refine codeAny_mono ((F _ kb (ns hns) tbs).run callerA [] s1 H ⟨[.ref a], []⟩ [.ref a] [.ref a] _ _ rfl hr e0 (hbind s1 (.ref a)) (.cons rfl .nil) hsp) fun r s' h => ?_
  cases r with
  | error e => exact (hCX e s' h).elim
  | ok fl =>
    cases fl with
    | next => exact h.elim
    | brk => exact h.elim
    | cont => exact h.elim
    | ret u =>
      obtain ⟨v, H', os, bare, un, hok', ru, q⟩ := h
      have ev : v = .bl true := q
      subst ev
      obtain rfl : u = Value.bool true := ru
      have key : ∀ b o, ¬ InTb cs b → s1.heap.get? b = some o → s'.heap.get? b = some o := by
        intro b o nb e
        rcases only b with z | z | ⟨ob, xs, z⟩
        · exact un.keep b o e z (fun m => absurd (show b ∈ ([] : List Addr) from m) (by simp)) (by simp)
        · exact absurd z nb
        · obtain ⟨g1, _⟩ := hok b _ z
          obtain ⟨g2, _⟩ := hok' b _ (un.frzs b ob _ z)
          rw [e] at g1
          cases g1
          exact g2
      have hm : ∀ p ∈ cs, ∃ more : Array Value, s'.heap.get? p.2 = some { cls := .none, data := .fields more } := by
        intro p hp
        obtain ⟨more, z⟩ := un.tbls p.2 #[] (hPs p hp)
        exact ⟨_, hok' p.2 _ z⟩
      refine ⟨rfl, ⟨fun b o e => ?_, fun b o e => ?_⟩, os, bare⟩
      · rcases Classical.em (InTb cs b) with ⟨p, hp, eb⟩ | hn
        · subst eb
          obtain ⟨more, hm⟩ := hm p hp
          rw [hTs p hp] at e
          cases e
          exact .inr (.inl ⟨((Cs p hp).tab (hTs p hp)).isCodeTable, rfl, #[], more, rfl, by rw [Array.empty_append]; exact hm⟩)
        · exact .inl (key b o hn e)
      · rcases Classical.em (InTb cs b) with ⟨p, hp, eb⟩ | hn
        · subst eb
          obtain ⟨more, hm⟩ := hm p hp
          exact ⟨_, hm⟩
        · exact ⟨o, key b o hn e⟩
theorem law_tabs (kin : K.In s1.heap) (hns : s1.heap.Ns mainGlobals mg) (hb : s1.heap.Ns builtinsNs mb) (hbb : ∀ x : Str, x ≠ "__name__" → mb x = bootBuiltins x) (hlim : s1.heap.NoLimit) (hg : s1.gens = #[])
    (hTs : ∀ q ∈ cs, s1.heap.get? q.2 = some { cls := .none, data := .fields #[] }) (nTs : ∀ q ∈ cs, K.lookup q.2 = none) (Cs : ∀ q ∈ cs, PySem.W.CodeHd s1.heap q.1 q.2)
    (hbm : ∃ (bm : Addr) (ob : Obj), mg "__builtins__" = some (.ref bm) ∧ bm ≠ builtinsNs ∧ s1.heap.get? bm = some ob ∧ ob.cls = .type "module" ∧ ob.dict = some builtinsNs ∧ ob.data = .plain)
    (ha : s1.heap.get? a = some { cls := .type "list", data := .seq vs.toArray }) (hi : IntsAre vs ns) (hl : ns.length ≤ sizeLine) (hr : Room k callerA)
    (F : ∀ base : Heap, K.In base → base.Ns mainGlobals mg → (∀ q ∈ cs, LamX.TabB base mg q.1 q.2) → FnG P w K mg base CX k fa fd [x] sp) (hbind : ∀ (s : Shared) (u : Value), BindsTo s fd ⟨[u], []⟩ [(x, u)])
    (hsp : ∀ H : Hp, (∀ q ∈ cs, H q.2 = some (.tbl #[])) → SqL K H a (ns.map V.int) → sp [.ref a] H (fun v _ => v = .bl true) fun _ _ _ => False)
    (hCX : ∀ H e s', CX [] H s1 (fun _ _ _ => False) e s' → False) : codeAny (model P w) callerA (.call (.ref fa) ⟨[.ref a], []⟩) (LawEnd s1) s1 := by
  classical
  have rv := vals_ints hi
  have nP : ¬ InTb cs a := fun ⟨p, hp, z⟩ => by
    rw [z, hTs p hp] at ha
    exact nomatch (show Data.fields #[] = Data.seq vs.toArray _ from congrArg Obj.data (Option.some.inj ha))
  cases hk : K.lookup a with
  | some o =>
    have e := kin a o hk
    rw [ha] at e
    cases e
    let H0 : Hp := fun b => if InTb cs b then some (.tbl #[]) else none
    have atP : ∀ {b : Addr}, InTb cs b → H0 b = some (.tbl #[]) := fun h => if_pos h
    have off : ∀ {b : Addr}, ¬ InTb cs b → H0 b = none := fun h => if_neg h
    refine go_tabs (H := H0) kin hns hb hbb hlim hg hTs nTs Cs hbm ha hr F hbind (fun q hq => atP ⟨q, hq, rfl⟩) (fun b => ?_) (fun b u z => ?_) (fun b z => ?_) (fun z => absurd (off nP) z) (hsp _ (fun q hq => atP ⟨q, hq, rfl⟩) (.inr ⟨_, vs.toArray, _, hk, rfl, rfl, rfl, ?_, by simpa using rv⟩)) fun e s' => hCX _ e s'
    · rcases Classical.em (InTb cs b) with h | h
      · exact .inr (.inl h)
      · exact .inl (off h)
    · rcases Classical.em (InTb cs b) with h | h
      · rw [atP h] at z
        cases z
        obtain ⟨p, hp, rfl⟩ := h
        exact hTs p hp
      · rw [off h] at z
        cases z
    · exact .inr (Classical.byContradiction fun h => z (off h))
    · rw [List.size_toArray, hi.length]
      exact hl
  | none =>
    let H1 : Hp := fun b => if b = a then some (.frz { cls := .type "list", data := .seq vs.toArray } (.lst (ns.map V.int))) else if InTb cs b then some (.tbl #[]) else none
    have at_a : H1 a = some (.frz { cls := .type "list", data := .seq vs.toArray } (.lst (ns.map V.int))) := if_pos rfl
    have atP : ∀ {b : Addr}, InTb cs b → H1 b = some (.tbl #[]) := fun {b} h => (if_neg (fun z : b = a => nP (z ▸ h))).trans (if_pos h)
    have off : ∀ {b : Addr}, b ≠ a → ¬ InTb cs b → H1 b = none := fun h1 h2 => (if_neg h1).trans (if_neg h2)
    refine go_tabs (H := H1) kin hns hb hbb hlim hg hTs nTs Cs hbm ha hr F hbind (fun q hq => atP ⟨q, hq, rfl⟩) (fun b => ?_) (fun b u z => ?_) (fun b z => ?_) (fun _ => hk) (hsp _ (fun q hq => atP ⟨q, hq, rfl⟩) (.inl (.inr ⟨_, at_a⟩))) fun e s' => hCX _ e s'
    · by_cases h : b = a
      · rw [h]
        exact .inr (.inr ⟨_, _, at_a⟩)
      · rcases Classical.em (InTb cs b) with h2 | h2
        · exact .inr (.inl h2)
        · exact .inl (off h h2)
    · by_cases h : b = a
      · subst h
        rw [at_a] at z
        cases z
        exact ⟨ha, by rw [List.length_map]; exact hl, vs, _, rv, ha⟩
      · rcases Classical.em (InTb cs b) with h2 | h2
        · rw [atP h2] at z
          cases z
          obtain ⟨p, hp, rfl⟩ := h2
          exact hTs p hp
        · rw [off h h2] at z
          cases z
    · by_cases h : b = a
      · exact .inl h
      · exact .inr (Classical.byContradiction fun h2 => z (off h h2))
end
/-- what is known of a law in which some defs make lambdas, at the head's heap -/
def LawTs (l : PySem.W.OpenLaw) (w : World) (K : PySem.W.Frag) (k : Nat) (x : Str) (mg : Str → Option Value) (fa : Addr) (h : Heap) : Prop :=
  ∃ (fd : FuncData) (cs : List (Addr × Addr)), (∀ q ∈ cs, h.get? q.2 = some { cls := .none, data := .fields #[] }) ∧ (∀ q ∈ cs, K.lookup q.2 = none) ∧ (∀ q ∈ cs, PySem.W.CodeHd h q.1 q.2) ∧ (∀ (s : Shared) (u : Value), BindsTo s fd ⟨[u], []⟩ [(x, u)]) ∧
    ∀ base : Heap, K.In base → base.Ns mainGlobals mg → (∀ q ∈ cs, LamX.TabB base mg q.1 q.2) → FnG l.prog w K mg base CX0 k fa fd [x] (spLawS K cs)
theorem walk_gTs {l : PySem.W.OpenLaw} {k : Nat} {q : Program} {loose : List Str} {XP : (Str → Option Value) → Heap → Prop} {YP : World → Heap → Prop} {d : DefRec} {K : Params → PySem.W.Frag} {x : Str} (names : List Str)
    (hn : l.most = some 63) (hdf : d.params.defaults = []) (hr : Room k callerA) (hrec : (names.all fun y => (recsOf q).any fun e => e.name == y) = true) (hY : ∀ (w : World) (h : Heap), YP w h → (K w.params).In h)
    (F : ∀ (w : World) (mg : Str → Option Value) (fa : Addr) (h : Heap), (K w.params).In h → h.Ns mainGlobals mg → mg d.name = some (.ref fa) → (∀ y ∈ names, ∀ f, mg y = some (.ref f) → LamX.OwnTab (K w.params) f h) → LawTs l w (K w.params) k x mg fa h) :
    PySem.W.WalkO q loose XP YP l.row.toRowW d [] (fun f vs => PySem.call f vs) := by
  refine Att.attach_call hn hdf fun w s0 s1 mg mb fa o pm cd doc a vs ns G Y ho hd hcd hmg hobj hints hlen hg => ?_
  have kin := hY w _ Y
  have own : ∀ y ∈ names, ∀ f, mg y = some (.ref f) → LamX.OwnTab (K w.params) f s1.heap := by
    intro y hy f hf c P o1 fd1 e dd vs1 sl k1 k2 k3 k4 k5
    obtain ⟨dL, hm, hnm⟩ := List.any_eq_true.mp (List.all_eq_true.mp hrec y hy)
    obtain ⟨a', o', fd', c', P', h1, h2, h3, h4, h5, ⟨oc, vc, e1, _, e3, e4⟩, hP⟩ := G.T.tab dL hm
    rw [beq_iff_eq.mp hnm, hf] at h1
    cases h1
    rw [kin _ _ k1] at h2
    cases h2
    rw [k2] at h3
    cases h3
    rw [k3] at h4
    cases h4
    rw [kin _ _ k4] at e1
    cases e1
    cases e3
    rw [k5] at e4
    cases e4
    exact hP
  obtain ⟨fd, cs, hT, nT, C, hb, hF⟩ := F w mg fa _ kin G.T.g hmg own
  exact law_tabs kin G.T.g G.T.b G.T.builtins G.T.nolimit hg hT nT C G.T.bmain hobj hints (Nat.le_trans hlen (by decide)) hr hF hb (fun H hP hS => ⟨a, ns, rfl, hS, hlen, hP, fun _ => rfl⟩) fun H e s' h => h
/-! ### o.m(e, .., k = v, ..) of an own class -/
/-- what such a call asks -/
def tMethN (C : Addr) (m : Str) (n nk : Nat) (sp : Sp) (gV : List V → List V → List V) (E : XK) (ta : TE) (t tk : TA) : TE := fun σ H Q => ta σ H fun x H1 => ∃ a dx fs, x = .ref a ∧ H1 a = some (.ins C dx fs) ∧ fs.lookup m = none ∧
  t σ H1 fun vs H2 => tk σ H2 fun zs H3 => vs.length = n ∧ zs.length = nk ∧ sp (gV (x :: vs) zs) H3 Q E
theorem pe_methN {X : Cx} {CX : CXT} {k n : Nat} {f C : Addr} {fd : FuncData} {ps ks : List Str} {sp : Sp} {E : XK} {m : Str} {pos apos : Pos} {o e : Expr} {es : List Expr} {kws : List Keyword} {ta : TE} {t tk : TA} {g : List Value → List Value → List Value} {gV : List V → List V → List V} {pl : Sem Bool}
    (he : PE X o ta) (c : Cls X.K C) (hm : Meth X.K C m f) (F : FnOk X.prog X.w X.K X.mg X.base CX k f fd ps sp) (hr : Room k X.A) (hb : KBn X.K fd ps (n + 1) ks g gV) (hx : Passes CX X E) (ha : PA X (e :: es) t) (hkw : PK X kws tk)
    (hall : (backToKw pos (keywordEach kws X.env)).all (·.1.isSome) = true := by rfl) (hks : (backToKw pos (keywordEach kws X.env)).filterMap (·.1) = ks := by rfl) (hst : starEach (e :: es) X.env = (false, eval e X.env) :: starEach es X.env := by rfl)
    (hpl : ((backTo pos (starEach (e :: es) X.env)).any (·.1) || (backToKw pos (keywordEach kws X.env)).any (·.1.isNone)) = false := by rfl)
    (ht : eval (.Call (.Attribute o m apos) (e :: es) kws pos) X.env = (do
      let ov ← eval o X.env
      standAt apos.atName
      let (f, first) ← holding [ov] (getMethod ov m pl)
      callWith pos f first (backTo pos (starEach (e :: es) X.env)) (backToKw pos (keywordEach kws X.env))) := by rfl) :
    PE X (.Call (.Attribute o m apos) (e :: es) kws pos) (tMethN C m n ks.length sp gV E ta t tk) := by
  refine ⟨fun pins s σ H Q I h => ?_⟩
  refine PySem.W.methodCall_KW (pl := pl) (thn (he.run pins s σ H _ I h) fun u s1 ⟨x, H1, I1, rx, a, dx, fs, ex, ea, l, q⟩ => ?_) ht
  subst ex
  obtain rfl : u = Value.ref a := rx
  refine getmeth_ok I1 ea c hm l ?_
  refine PySem.W.callWith_KW (first := [.ref a]) (h₀ := X.base) I.ok.mod.kin hm.kp hall (thn (ha.run pos pins s1 σ H1 _ I1 q) fun us s2 ⟨vs, H2, I2, r, q2⟩ => ?_) hpl hst
  refine thn (hkw.run pos pins s2 σ H2 _ I2 q2) fun ws s3 ⟨zs, H3, I3, rz, l1, l2, q3⟩ => ⟨I3.kIn, ?_⟩
  rw [hks]
  exact run_fnN (us := .ref a :: us) (vs := .ref a :: vs) F hr hb hx I3 (.cons rfl r) rz (congrArg Nat.succ l1) l2 q3
end Lb
set_option Elab.async false
set_option linter.all false
set_option maxRecDepth 100000
set_option maxHeartbeats 4000000
namespace Lb
open PySem PySem.Spec PyProof.Rows L2 RZ TL
/-! ### what comes of a deed -/
/-- stock, debt, and the pairs of them ahead of each deed that stands -/
structure DS where
  x : List Int
  y : List Int
  past : List (List Int × List Int)
/-- what a deed comes to -/
inductive Oc
  | trade (v : V) | times (v : V) | lacking (k : Nat) | owed (k : Nat) | much (k : Nat) | bag | cap | nothing
  | did (s : DS) | undid (s : DS)
def Oc.vals : Oc → List V
  | .trade v => [.str "trade", v]
  | .times v => [.str "times", v]
  | .lacking k => [.str "lacking", .int (k : Int)]
  | .owed k => [.str "owed", .int (k : Int)]
  | .much k => [.str "much", .int (k : Int)]
  | .bag => [.str "bag"]
  | .cap => [.str "cap"]
  | .nothing => [.str "nothing"]
  | .did s => [.str "ok", .int (s.past.length : Int)]
  | .undid _ => [.str "ok", .non]
def Oc.next (s : DS) : Oc → DS
  | .did s' => s'
  | .undid s' => s'
  | _ => s
/-- a deed is done, if no amount is too great -/
def keptO (s : DS) (x y : List Int) : Oc := match muchN (joinZ x y) with
  | some k => .much k
  | none => .did ⟨x, y, s.past ++ [(s.x, s.y)]⟩
def borrowO (g : Nat) (cap : Option Int) (s : DS) : Option (List Int) → Oc
  | none => .bag
  | some z => if z.length = g then (match cap with
    | some c => if c < s.y.sum + z.sum then .cap else keptO s (plusZ s.x z) (plusZ s.y z)
    | none => keptO s (plusZ s.x z) (plusZ s.y z)) else .bag
def payO (g : Nat) (s : DS) : Option (List Int) → Oc
  | none => .bag
  | some z => if z.length = g then (match lackN s.y z 0 with
    | some k => .owed k
    | none => match lackN s.x z 0 with
      | some k => .lacking k
      | none => keptO s (lessZ s.x z) (lessZ s.y z)) else .bag
def undoO (s : DS) : Oc := match s.past.getLast? with
  | none => .nothing
  | some z => .undid ⟨z.1, z.2, s.past.dropLast⟩
/-- so many times: what is lacking, or the stock that is left -/
def tradeL : Nat → List Int → List Int → List Int → Nat ⊕ List Int
  | 0, _, _, x => .inr x
  | n + 1, a, b, x => match lackN x a 0 with
    | some k => .inl k
    | none => tradeL n a b (plusZ (lessZ x a) b)
/-- drawn values that may be numbers -/
inductive SmV : V → Option Int → Prop
  | int (n : Int) : SmV (.int n) (some n)
  | bl (b : Bool) : SmV (.bl b) none
  | non : SmV .non none
/-- the trade of this index -/
def trdAt (ts : List Trd) : Option Int → Option Trd
  | none => none
  | some k => if 0 ≤ k ∧ k < (ts.length : Int) then ts[k.toNat]? else none
def timesOf : Option Int → Option Nat
  | none => none
  | some k => if 1 ≤ k ∧ k ≤ 9 then some k.toNat else none
def tradeO (ts : List Trd) (s : DS) (kv tv : V) (kz tz : Option Int) (back : Bool) : Oc := match trdAt ts kz with
  | none => .trade kv
  | some t => match timesOf tz with
    | none => .times tv
    | some n => match tradeL n (if back then t.2 else t.1) (if back then t.1 else t.2) s.x with
      | .inl k => .lacking k
      | .inr x => keptO s x s.y
/-- the state of a desk in a market of g goods -/
structure DsOk (g : Nat) (s : DS) : Prop where
  lx : s.x.length = g
  ly : s.y.length = g
  ax : ∀ v ∈ s.x, 0 ≤ v ∧ v ≤ 6
  ay : ∀ v ∈ s.y, 0 ≤ v ∧ v ≤ 6
  ap : ∀ p ∈ s.past, (p.1.length = g ∧ ∀ v ∈ p.1, 0 ≤ v ∧ v ≤ 6) ∧ (p.2.length = g ∧ ∀ v ∈ p.2, 0 ≤ v ∧ v ≤ 6)
theorem lackN_le : ∀ {x y : List Int} {k : Nat}, x.length = y.length → lackN x y k = none → ∀ (i : Nat) (u v : Int), x[i]? = some u → y[i]? = some v → v ≤ u
  | [], [], _, _, _, _, _, _, h, _ => by cases h
  | a :: x, b :: y, k, hl, h, i, u, v, h1, h2 => by
    rw [lackN_cons] at h
    split at h
    · cases h
    · cases i with
      | zero =>
        cases h1
        cases h2
        omega
      | succ i => exact lackN_le (k := k + 1) (by simpa using hl) h i u v h1 h2
theorem much_six {x : List Int} (h : muchN x = none) : ∀ v ∈ x, v ≤ 6 := by
  intro v hv
  obtain ⟨i, hi, e⟩ := List.mem_iff_getElem.mp hv
  refine lackN_le (by rw [List.length_replicate]) h i 6 v ?_ ?_
  · rw [List.getElem?_replicate, if_pos hi]
  · rw [List.getElem?_eq_getElem hi, e]
theorem six_much {x : List Int} (h : ∀ v ∈ x, v ≤ 6) : muchN x = none := by
  refine lackN_ge 0 (by rw [List.length_replicate]) fun z hz => ?_
  obtain ⟨u, hu, v, hv, rfl⟩ := mem_zip hz
  have := h v hv
  have := (List.mem_replicate.mp hu).2
  omega
theorem join_left {x y : List Int} (hl : x.length = y.length) : ∀ {i : Nat} {v : Int}, x[i]? = some v → ∃ w, (joinZ x y)[i]? = some w ∧ v ≤ w := by
  intro i v h
  have hi : i < x.length := (List.getElem?_eq_some_iff.mp h).1
  refine ⟨maxI v (y[i]'(by omega)), ?_, ?_⟩
  · rw [List.getElem?_zipWith, h, List.getElem?_eq_getElem (by omega : i < y.length)]
  · show v ≤ if y[i] > v then y[i] else v
    split <;> omega
theorem join_right {x y : List Int} (hl : x.length = y.length) : ∀ {i : Nat} {v : Int}, y[i]? = some v → ∃ w, (joinZ x y)[i]? = some w ∧ v ≤ w := by
  intro i v h
  have hi : i < y.length := (List.getElem?_eq_some_iff.mp h).1
  refine ⟨maxI (x[i]'(by omega)) v, ?_, ?_⟩
  · rw [List.getElem?_zipWith, h, List.getElem?_eq_getElem (by omega : i < x.length)]
  · show v ≤ if v > x[i] then v else x[i]
    split <;> omega
theorem join_six {x y : List Int} (hl : x.length = y.length) (h : muchN (joinZ x y) = none) : (∀ v ∈ x, v ≤ 6) ∧ ∀ v ∈ y, v ≤ 6 := by
  have k := much_six h
  refine ⟨fun v hv => ?_, fun v hv => ?_⟩
  · obtain ⟨i, hi, e⟩ := List.mem_iff_getElem.mp hv
    obtain ⟨w, h1, h2⟩ := join_left hl (i := i) (v := v) (by rw [List.getElem?_eq_getElem hi, e])
    have := k w (List.mem_of_getElem? h1)
    omega
  · obtain ⟨i, hi, e⟩ := List.mem_iff_getElem.mp hv
    obtain ⟨w, h1, h2⟩ := join_right hl (i := i) (v := v) (by rw [List.getElem?_eq_getElem hi, e])
    have := k w (List.mem_of_getElem? h1)
    omega
/-- where the debt is small, only the stock can be too great -/
theorem much_join : ∀ {x y : List Int} (k : Nat), x.length = y.length → (∀ v ∈ y, v ≤ 6) → lackN (List.replicate (joinZ x y).length 6) (joinZ x y) k = lackN (List.replicate x.length 6) x k
  | [], [], _, _, _ => rfl
  | a :: x, b :: y, k, hl, h => by
    have hb := h b List.mem_cons_self
    show lackN (6 :: List.replicate (joinZ x y).length 6) (maxI a b :: joinZ x y) k = lackN (6 :: List.replicate x.length 6) (a :: x) k
    rw [lackN_cons, lackN_cons, much_join (x := x) (y := y) (k + 1) (by simpa using hl) fun v hv => h v (List.mem_cons_of_mem _ hv)]
    have e : (6 < maxI a b) = (6 < a) := by
      show (6 < if b > a then b else a) = _
      split <;> simp <;> omega
    simp only [e]
theorem muchN_join {x y : List Int} (hl : x.length = y.length) (h : ∀ v ∈ y, v ≤ 6) : muchN (joinZ x y) = muchN x := much_join 0 hl h
theorem kept_ok {g : Nat} {s : DS} {x y : List Int} (h : DsOk g s) (lx : x.length = g) (ly : y.length = g) (ax : ∀ v ∈ x, 0 ≤ v) (ay : ∀ v ∈ y, 0 ≤ v) : DsOk g ((keptO s x y).next s) := by
  unfold keptO
  cases hm : muchN (joinZ x y) with
  | some k => exact h
  | none =>
    obtain ⟨h1, h2⟩ := join_six (lx.trans ly.symm) hm
    refine ⟨lx, ly, fun v hv => ⟨ax v hv, h1 v hv⟩, fun v hv => ⟨ay v hv, h2 v hv⟩, fun p hp => ?_⟩
    rcases List.mem_append.mp hp with hp | hp
    · exact h.ap p hp
    · rw [List.mem_singleton.mp hp]
      exact ⟨⟨h.lx, h.ax⟩, h.ly, h.ay⟩
theorem plus_nn {x z : List Int} (hx : ∀ v ∈ x, 0 ≤ v) (hz : ∀ v ∈ z, 0 ≤ v) : ∀ v ∈ plusZ x z, 0 ≤ v := fun v hv => by
  obtain ⟨u, hu, w, hw, rfl⟩ := mem_zip hv
  have := hx u hu
  have := hz w hw
  show 0 ≤ u + w
  omega
theorem plus_len {x z : List Int} {g : Nat} (hx : x.length = g) (hz : z.length = g) : (plusZ x z).length = g := by rw [List.length_zipWith]; omega
theorem less_len {x z : List Int} {g : Nat} (hx : x.length = g) (hz : z.length = g) : (lessZ x z).length = g := by rw [List.length_zipWith]; omega
theorem borrow_ok {g : Nat} {cap : Option Int} {s : DS} {row : Option (List Int)} (h : DsOk g s) (hr : ∀ z, row = some z → ∀ v ∈ z, 0 ≤ v) : DsOk g ((borrowO g cap s row).next s) := by
  unfold borrowO
  cases row with
  | none => exact h
  | some z =>
    dsimp only
    have hz := hr z rfl
    have ax := fun v hv => (h.ax v hv).1
    have ay := fun v hv => (h.ay v hv).1
    split
    · rename_i hl
      cases cap with
      | none => exact kept_ok h (plus_len h.lx hl) (plus_len h.ly hl) (plus_nn ax hz) (plus_nn ay hz)
      | some c =>
        dsimp only
        split
        · exact h
        · exact kept_ok h (plus_len h.lx hl) (plus_len h.ly hl) (plus_nn ax hz) (plus_nn ay hz)
    · exact h
theorem pay_ok {g : Nat} {s : DS} {row : Option (List Int)} (h : DsOk g s) : DsOk g ((payO g s row).next s) := by
  unfold payO
  cases row with
  | none => exact h
  | some z =>
    dsimp only
    split
    · rename_i hl
      cases h1 : lackN s.y z 0 with
      | some k => exact h
      | none =>
        cases h2 : lackN s.x z 0 with
        | some k => exact h
        | none => exact kept_ok h (less_len h.lx hl) (less_len h.ly hl) (lackN_none (h.lx.trans hl.symm) h2) (lackN_none (h.ly.trans hl.symm) h1)
    · exact h
theorem undo_ok {g : Nat} {s : DS} (h : DsOk g s) : DsOk g ((undoO s).next s) := by
  unfold undoO
  cases e : s.past.getLast? with
  | none => exact h
  | some z =>
    obtain ⟨⟨l1, a1⟩, l2, a2⟩ := h.ap z (List.mem_of_getLast? e)
    exact ⟨l1, l2, a1, a2, fun p hp => h.ap p (List.dropLast_subset _ hp)⟩
theorem tradeL_ok {g : Nat} {a b : List Int} (ha : a.length = g) (hb : b.length = g) (nb : ∀ v ∈ b, 0 ≤ v) : ∀ {n : Nat} {x x' : List Int}, x.length = g → (∀ v ∈ x, 0 ≤ v) → tradeL n a b x = .inr x' → x'.length = g ∧ ∀ v ∈ x', 0 ≤ v
  | 0, x, x', hl, h, e => by
    cases e
    exact ⟨hl, h⟩
  | n + 1, x, x', hl, h, e => by
    rw [tradeL] at e
    cases hk : lackN x a 0 with
    | some k =>
      rw [hk] at e
      cases e
    | none =>
      rw [hk] at e
      exact tradeL_ok ha hb nb (plus_len (less_len hl ha) hb) (plus_nn (lackN_none (hl.trans ha.symm) hk) nb) e
theorem trdAt_mem {ts : List Trd} {kz : Option Int} {t : Trd} (h : trdAt ts kz = some t) : t ∈ ts := by
  cases kz with
  | none => cases h
  | some k =>
    by_cases hk : 0 ≤ k ∧ k < (ts.length : Int)
    · rw [show trdAt ts (some k) = ts[k.toNat]? from if_pos hk] at h
      exact List.mem_of_getElem? h
    · rw [show trdAt ts (some k) = none from if_neg hk] at h
      cases h
theorem tradeO_ok {g : Nat} {ts : List Trd} {s : DS} {kv tv : V} {kz tz : Option Int} {back : Bool} (h : DsOk g s) (hm : MktOk g ts) : DsOk g ((tradeO ts s kv tv kz tz back).next s) := by
  unfold tradeO
  cases e1 : trdAt ts kz with
  | none => exact h
  | some t =>
    dsimp only
    cases e2 : timesOf tz with
    | none => exact h
    | some n =>
      dsimp only
      obtain ⟨s1, s2⟩ := hm.all t (trdAt_mem e1)
      have hs : Side g 4 (if back then t.2 else t.1) ∧ Side g 4 (if back then t.1 else t.2) := by
        cases back
        · exact ⟨s1, s2⟩
        · exact ⟨s2, s1⟩
      cases e3 : tradeL n (if back then t.2 else t.1) (if back then t.1 else t.2) s.x with
      | inl k => exact h
      | inr x =>
        obtain ⟨l1, a1⟩ := tradeL_ok hs.1.len hs.2.len (fun v hv => (hs.2.amt v hv).1) h.lx (fun v hv => (h.ax v hv).1) e3
        exact kept_ok h l1 h.ly a1 fun v hv => (h.ay v hv).1
theorem kept_len {s : DS} {x y : List Int} : ((keptO s x y).next s).past.length ≤ s.past.length + 1 := by
  unfold keptO
  cases muchN (joinZ x y) with
  | some k => exact Nat.le_succ _
  | none =>
    show (s.past ++ [(s.x, s.y)]).length ≤ _
    rw [List.length_append, List.length_singleton]
    exact Nat.le_refl _
theorem borrow_len {g : Nat} {cap : Option Int} {s : DS} {row : Option (List Int)} : ((borrowO g cap s row).next s).past.length ≤ s.past.length + 1 := by
  unfold borrowO
  cases row with
  | none => exact Nat.le_succ _
  | some z =>
    dsimp only
    split
    · cases cap with
      | none => exact kept_len
      | some c =>
        dsimp only
        split
        · exact Nat.le_succ _
        · exact kept_len
    · exact Nat.le_succ _
theorem pay_len {g : Nat} {s : DS} {row : Option (List Int)} : ((payO g s row).next s).past.length ≤ s.past.length + 1 := by
  unfold payO
  cases row with
  | none => exact Nat.le_succ _
  | some z =>
    dsimp only
    split
    · cases lackN s.y z 0 with
      | some k => exact Nat.le_succ _
      | none =>
        cases lackN s.x z 0 with
        | some k => exact Nat.le_succ _
        | none => exact kept_len
    · exact Nat.le_succ _
theorem undo_len {s : DS} : ((undoO s).next s).past.length ≤ s.past.length + 1 := by
  unfold undoO
  cases s.past.getLast? with
  | none => exact Nat.le_succ _
  | some z =>
    show s.past.dropLast.length ≤ _
    rw [List.length_dropLast]
    omega
theorem trade_len {ts : List Trd} {s : DS} {kv tv : V} {kz tz : Option Int} {back : Bool} : ((tradeO ts s kv tv kz tz back).next s).past.length ≤ s.past.length + 1 := by
  unfold tradeO
  cases trdAt ts kz with
  | none => exact Nat.le_succ _
  | some t =>
    dsimp only
    cases timesOf tz with
    | none => exact Nat.le_succ _
    | some n =>
      dsimp only
      cases tradeL n (if back then t.2 else t.1) (if back then t.1 else t.2) s.x with
      | inl k => exact Nat.le_succ _
      | inr x => exact kept_len
end Lb
set_option Elab.async false
set_option linter.all false
set_option maxRecDepth 100000
set_option maxHeartbeats 4000000
namespace Lb
open PySem PySem.Spec PyProof.Rows L2 RZ TL
/-! ### what stays: tuples and Bags -/
def KC (C : Addr) (H H' : Hp) : Prop := ∀ b o, (∃ xs, o = .tup xs) ∨ (∃ dx fs, o = .ins C dx fs) → H b = some o → H' b = some o
theorem KC.of {C : Addr} {H H' : Hp} (s : Same H H') : KC C H H' := fun b o _ e => s b o e
theorem KC.trans {C : Addr} {H H1 H2 : Hp} (h : KC C H H1) (k : KC C H1 H2) : KC C H H2 := fun b o t e => k b o t (h b o t e)
theorem KC.extN {C : Addr} {H H' : Hp} (k : LamX.ExtN H H') : KC C H H' := fun b o t e => k b o e fun ps z => by
  rcases t with ⟨xs, q⟩ | ⟨dx, fs, q⟩ <;> rw [q] at z <;> cases z
/-- two objects that are neither change -/
theorem KC.two {C : Addr} {H H' : Hp} {a b : Addr} {oa ob : HO} (ea : H a = some oa) (eb : H b = some ob) (na : ∀ xs, oa ≠ .tup xs) (na' : ∀ dx fs, oa ≠ .ins C dx fs) (nb : ∀ xs, ob ≠ .tup xs) (nb' : ∀ dx fs, ob ≠ .ins C dx fs) (k : ∀ c o, c ≠ a → c ≠ b → H c = some o → H' c = some o) : KC C H H' := by
  intro c o t e
  refine k c o (fun z => ?_) (fun z => ?_) e
  · rw [z, ea] at e
    cases e
    rcases t with ⟨xs, q⟩ | ⟨dx, fs, q⟩
    · exact na xs q
    · exact na' dx fs q
  · rw [z, eb] at e
    cases e
    rcases t with ⟨xs, q⟩ | ⟨dx, fs, q⟩
    · exact nb xs q
    · exact nb' dx fs q
theorem KC.lists {C : Addr} {H H' : Hp} {a b : Addr} {us vs : List V} (ea : H a = some (.lst us)) (eb : H b = some (.lst vs)) (k : ∀ c o, c ≠ a → c ≠ b → H c = some o → H' c = some o) : KC C H H' :=
  KC.two ea eb (fun _ z => nomatch z) (fun _ _ z => nomatch z) (fun _ z => nomatch z) (fun _ _ z => nomatch z) k
theorem KC.kp {C : Addr} {H H' : Hp} {d c r : Addr} {n : Nat} (dk : Dk H d c r n) (k : Kp d r H H') : KC C H H' := by
  obtain ⟨_, _, _, _, _, _, _, _, _, _, e1, _, e3⟩ := dk
  exact KC.lists e1 e3 k
theorem KC.desk {C CX : Addr} {H H' : Hp} {a pl dx : Addr} {fs : List (Str × V)} {vs : List V} (ea : H a = some (.ins CX dx fs)) (ep : H pl = some (.lst vs)) (ne : C ≠ CX) (k : Ke a pl H H') : KC C H H' :=
  KC.two ea ep (fun _ z => nomatch z) (fun _ _ z => by cases z; exact ne rfl) (fun _ z => nomatch z) (fun _ _ z => nomatch z) k
theorem Bg.kc {C : Addr} {H H' : Hp} {b t : Addr} {x : List Int} (h : Bg C H b t x) (k : KC C H H') : Bg C H' b t x := ⟨let ⟨dx, e⟩ := h.ins; ⟨dx, k _ _ (.inr ⟨_, _, rfl⟩) e⟩, k _ _ (.inl ⟨_, rfl⟩) h.tup⟩
theorem PastV.kc {C : Addr} {H H' : Hp} {vs : List V} {l : List (List Int × List Int)} (h : PastV C H vs l) (k : KC C H H') : PastV C H' vs l := h.keep k
theorem KC.tup {C : Addr} {H H' : Hp} (k : KC C H H') {b : Addr} {xs : List V} (e : H b = some (.tup xs)) : H' b = some (.tup xs) := k _ _ (.inl ⟨_, rfl⟩) e
/-! ### markets as tuples -/
inductive TrdsV (H : Hp) : List V → List Trd → Prop
  | nil : TrdsV H [] []
  | cons {p u v : Addr} {x y : List Int} {vs : List V} {ts : List Trd} (e : H p = some (.tup [.ref u, .ref v])) (eu : H u = some (.tup (x.map V.int))) (ev : H v = some (.tup (y.map V.int))) (r : TrdsV H vs ts) : TrdsV H (.ref p :: vs) ((x, y) :: ts)
theorem TrdsV.kc {C : Addr} {H H' : Hp} (k : KC C H H') : ∀ {vs : List V} {ts : List Trd}, TrdsV H vs ts → TrdsV H' vs ts
  | _, _, .nil => .nil
  | _, _, .cons e eu ev r => .cons (k.tup e) (k.tup eu) (k.tup ev) (r.kc k)
theorem TrdsV.length {H : Hp} : ∀ {vs : List V} {ts : List Trd}, TrdsV H vs ts → vs.length = ts.length
  | _, _, .nil => rfl
  | _, _, .cons _ _ _ r => by rw [List.length_cons, List.length_cons, r.length]
theorem TrdsV.get {H : Hp} : ∀ {vs : List V} {ts : List Trd} {i : Nat} {t : Trd}, TrdsV H vs ts → ts[i]? = some t → ∃ p u v, vs[i]? = some (.ref p) ∧ H p = some (.tup [.ref u, .ref v]) ∧ H u = some (.tup (t.1.map V.int)) ∧ H v = some (.tup (t.2.map V.int))
  | _, _, 0, _, .cons e eu ev r, h => by
    cases h
    exact ⟨_, _, _, rfl, e, eu, ev⟩
  | _, _, i + 1, _, .cons e eu ev r, h => TrdsV.get (i := i) r h
theorem TrdsV.dats {R : Rgn} {H : Hp} (R1 : ∀ b xs, H b = some (.tup xs) → R b) : ∀ {vs : List V} {ts : List Trd}, TrdsV H vs ts → Dats R H vs (ts.map trdD)
  | _, _, .nil => .nil
  | _, _, .cons e eu ev r => .cons (.tup (R1 _ _ e) e (.cons (Dat.mkBag (R1 _ _ eu) eu) (.cons (Dat.mkBag (R1 _ _ ev) ev) .nil))) (r.dats R1)
theorem TrdsV.of {R : Rgn} {H : Hp} : ∀ {vs : List V} {ts : List Trd}, Dats R H vs (ts.map trdD) → TrdsV H vs ts
  | [], [], _ => .nil
  | _, [], .nil => .nil
  | _, (x, y) :: ts, .cons h t => by
    cases h with
    | tup ra e h =>
      cases h with
      | cons h1 h2 =>
        cases h2 with
        | cons h2 h3 =>
          cases h3
          obtain ⟨u, rfl, _, eu⟩ := Dat.bag h1
          obtain ⟨v, rfl, _, ev⟩ := Dat.bag h2
          exact .cons e eu ev (TrdsV.of t)
/-- a market -/
def MkV (H : Hp) (mv : V) (g : Nat) (ts : List Trd) : Prop := ∃ (m tt : Addr) (vs : List V), mv = .ref m ∧ H m = some (.tup [.int (g : Int), .ref tt]) ∧ H tt = some (.tup vs) ∧ TrdsV H vs ts
theorem MkV.kc {C : Addr} {H H' : Hp} {mv : V} {g : Nat} {ts : List Trd} (h : MkV H mv g ts) (k : KC C H H') : MkV H' mv g ts := by
  obtain ⟨m, tt, vs, rfl, e1, e2, h⟩ := h
  exact ⟨m, tt, vs, rfl, k.tup e1, k.tup e2, h.kc k⟩
theorem MkV.dat {R : Rgn} {H : Hp} {mv : V} {g : Nat} {ts : List Trd} (h : MkV H mv g ts) (R1 : ∀ b xs, H b = some (.tup xs) → R b) : Dat R H mv (mktD g ts) := by
  obtain ⟨m, tt, vs, rfl, e1, e2, h⟩ := h
  exact .tup (R1 _ _ e1) e1 (.cons (.int _) (.cons (.tup (R1 _ _ e2) e2 (h.dats R1)) .nil))
theorem MkV.of {R : Rgn} {H : Hp} {mv : V} {g : Nat} {ts : List Trd} (h : Dat R H mv (mktD g ts)) : MkV H mv g ts := by
  cases h with
  | tup ra e h =>
    cases h with
    | cons h1 h2 =>
      cases h1
      cases h2 with
      | cons h2 h3 =>
        cases h3
        cases h2 with
        | tup rb e2 h => exact ⟨_, _, _, rfl, e, e2, TrdsV.of h⟩
/-! ### the law's own keeping -/
inductive PstV (H : Hp) : List V → List (List Int × List Int) → Prop
  | nil : PstV H [] []
  | cons {p t u : Addr} {x y : List Int} {vs : List V} {l : List (List Int × List Int)} (e : H p = some (.tup [.ref t, .ref u])) (e1 : H t = some (.tup (x.map V.int))) (e2 : H u = some (.tup (y.map V.int))) (r : PstV H vs l) : PstV H (.ref p :: vs) ((x, y) :: l)
theorem PstV.kc {C : Addr} {H H' : Hp} (k : KC C H H') : ∀ {vs : List V} {l : List (List Int × List Int)}, PstV H vs l → PstV H' vs l
  | _, _, .nil => .nil
  | _, _, .cons e e1 e2 r => .cons (k.tup e) (k.tup e1) (k.tup e2) (r.kc k)
theorem PstV.length {H : Hp} : ∀ {vs : List V} {l : List (List Int × List Int)}, PstV H vs l → vs.length = l.length
  | _, _, .nil => rfl
  | _, _, .cons _ _ _ r => by rw [List.length_cons, List.length_cons, r.length]
theorem PstV.append {H : Hp} : ∀ {vs ws : List V} {l m : List (List Int × List Int)}, PstV H vs l → PstV H ws m → PstV H (vs ++ ws) (l ++ m)
  | _, _, _, _, .nil, h => h
  | _, _, _, _, .cons e e1 e2 r, h => .cons e e1 e2 (r.append h)
theorem PstV.split {H : Hp} : ∀ {vs : List V} {l : List (List Int × List Int)} {z : List Int × List Int}, PstV H vs (l ++ [z]) → ∃ (ws : List V) (p t u : Addr), vs = ws ++ [.ref p] ∧ PstV H ws l ∧ H p = some (.tup [.ref t, .ref u]) ∧ H t = some (.tup (z.1.map V.int)) ∧ H u = some (.tup (z.2.map V.int))
  | _, [], _, .cons e e1 e2 .nil => ⟨[], _, _, _, rfl, .nil, e, e1, e2⟩
  | _, _ :: l, z, .cons e e1 e2 r => by
    obtain ⟨ws, p, t, u, rfl, h1, h2, h3, h4⟩ := r.split (l := l) (z := z)
    exact ⟨_ :: ws, p, t, u, rfl, .cons e e1 e2 h1, h2, h3, h4⟩
/-- the list [market, stock, debt, past, cap] at st, past at sl -/
structure StAt (H : Hp) (st sl : Addr) (mv cv : V) (s : DS) : Prop where
  ex : ∃ (t u : Addr) (vs : List V), H st = some (.lst [mv, .ref t, .ref u, .ref sl, cv]) ∧ H t = some (.tup (s.x.map V.int)) ∧ H u = some (.tup (s.y.map V.int)) ∧ H sl = some (.lst vs) ∧ PstV H vs s.past
theorem StAt.ne {H : Hp} {st sl : Addr} {mv cv : V} {s : DS} (h : StAt H st sl mv cv s) : st ≠ sl ∨ ∃ vs, H sl = some (.lst vs) := by
  obtain ⟨_, _, vs, _, _, _, e, _⟩ := h.ex
  exact .inr ⟨vs, e⟩
theorem StAt.keep {C : Addr} {H H' : Hp} {st sl : Addr} {mv cv : V} {s : DS} (h : StAt H st sl mv cv s) (k : KC C H H') (k1 : ∀ xs, H st = some (.lst xs) → H' st = some (.lst xs)) (k2 : ∀ xs, H sl = some (.lst xs) → H' sl = some (.lst xs)) : StAt H' st sl mv cv s := by
  obtain ⟨t, u, vs, e1, e2, e3, e4, h⟩ := h.ex
  exact ⟨t, u, vs, k1 _ e1, k.tup e2, k.tup e3, k2 _ e4, h.kc k⟩
theorem StAt.same {H H' : Hp} {st sl : Addr} {mv cv : V} {s : DS} (h : StAt H st sl mv cv s) (k : Same H H') : StAt H' st sl mv cv s := h.keep (C := 0) (KC.of k) (fun _ e => k _ _ e) (fun _ e => k _ _ e)
theorem DeskAt.keep {K : PySem.W.Frag} {C CX : Addr} {H H' : Hp} {a dx pl : Addr} {mv : V} {more : List (Str × V)} {x y : List Int} {past : List (List Int × List Int)} (h : DeskAt K C CX H a dx pl mv more x y past) (k : KC C H H') (k1 : ∀ fs, H a = some (.ins CX dx fs) → H' a = some (.ins CX dx fs)) (k2 : ∀ xs, H pl = some (.lst xs) → H' pl = some (.lst xs)) : DeskAt K C CX H' a dx pl mv more x y past := by
  obtain ⟨b, t, o, u, vs, h1, h2, h3, h4, h5⟩ := h.ex
  exact ⟨⟨b, t, o, u, vs, k1 _ h1, h2.kc k, h3.kc k, k2 _ h4, h5.kc k⟩, h.ne⟩
/-! ### desk, keeping, deck and tables beside each other -/
/-- where everything lies -/
structure Lay where
  d : Addr
  cc : Addr
  r : Addr
  a : Addr
  dx : Addr
  pl : Addr
  st : Addr
  sl : Addr
/-- the lists are unlike -/
structure Lay.Sep (L : Lay) : Prop where
  s1 : L.st ≠ L.sl
  s2 : L.st ≠ L.pl
  s3 : L.sl ≠ L.pl
  s4 : L.st ≠ L.d
  s5 : L.st ≠ L.r
  s6 : L.sl ≠ L.d
  s7 : L.sl ≠ L.r
  s8 : L.pl ≠ L.d
  s9 : L.pl ≠ L.r
  s10 : L.st ≠ L.cc
  s11 : L.sl ≠ L.cc
  s12 : L.pl ≠ L.cc
structure Wd (K : PySem.W.Frag) (C CX : Addr) (H : Hp) (L : Lay) (TS : List (Addr × Str)) (mv cv : V) (more : List (Str × V)) (g : Nat) (ts : List Trd) (n : Nat) (s s' : DS) : Prop where
  dk : Dk H L.d L.cc L.r n
  da : DeskAt K C CX H L.a L.dx L.pl mv more s.x s.y s.past
  sa : StAt H L.st L.sl mv cv s'
  tb : LamX.Tabs TS H
  mv_ : MkV H mv g ts
  sep : L.Sep
section
variable {K : PySem.W.Frag} {C CX : Addr} {H H' : Hp} {L : Lay} {TS : List (Addr × Str)} {mv cv : V} {more : List (Str × V)} {g : Nat} {ts : List Trd} {n : Nat} {s s' : DS}
theorem Wd.same (h : Wd K C CX H L TS mv cv more g ts n s s') (k : Same H H') : Wd K C CX H' L TS mv cv more g ts n s s' :=
  ⟨h.dk.same k, h.da.same k, h.sa.same k, h.tb.ext k, h.mv_.kc (C := C) (KC.of k), h.sep⟩
theorem Wd.mono {m : Nat} (h : Wd K C CX H L TS mv cv more g ts n s s') (l : n ≤ m) : Wd K C CX H L TS mv cv more g ts m s s' := ⟨h.dk.mono l, h.da, h.sa, h.tb, h.mv_, h.sep⟩
/-- no list is a table's, no instance is one -/
theorem tabs_two {a b : Addr} {oa ob : HO} (t : LamX.Tabs TS H) (ea : H a = some oa) (eb : H b = some ob) (na : ∀ ps, oa ≠ .tbl ps) (nb : ∀ ps, ob ≠ .tbl ps) (na' : ∀ c q, oa ≠ LamX.CodeO c q) (nb' : ∀ c q, ob ≠ LamX.CodeO c q) (k : ∀ c o, c ≠ a → c ≠ b → H c = some o → H' c = some o) : LamX.Tabs TS H' := by
  intro p hp
  obtain ⟨ps, h1, h2, h3⟩ := t p hp
  refine ⟨ps, k _ _ (fun z => ?_) (fun z => ?_) h1, h2, fun pos cv hc => ?_⟩
  · rw [z, ea] at h1
    cases h1
    exact na _ rfl
  · rw [z, eb] at h1
    cases h1
    exact nb _ rfl
  · obtain ⟨c, e1, e2⟩ := h3 pos cv hc
    refine ⟨c, e1, k _ _ (fun z => ?_) (fun z => ?_) e2⟩
    · rw [z, ea] at e2
      exact na' _ _ (Option.some.inj e2)
    · rw [z, eb] at e2
      exact nb' _ _ (Option.some.inj e2)
theorem lst_code {vs : List V} : ∀ c q, HO.lst vs ≠ LamX.CodeO c q := fun c q z => by
  unfold LamX.CodeO at z
  cases z
theorem ins_code {c0 dx : Addr} {fs : List (Str × V)} : ∀ c q, HO.ins c0 dx fs ≠ LamX.CodeO c q := fun c q z => by
  unfold LamX.CodeO at z
  cases z
/-- a draw -/
theorem Wd.draw {m : Nat} (h : Wd K C CX H L TS mv cv more g ts n s s') (k : Kp L.d L.r H H') (dk : Dk H' L.d L.cc L.r m) : Wd K C CX H' L TS mv cv more g ts m s s' := by
  have kc : KC C H H' := KC.kp h.dk k
  have sep := h.sep
  obtain ⟨_, _, _, _, _, _, _, _, _, _, e1, _, e3⟩ := h.dk
  refine ⟨dk, h.da.keep kc (fun fs e => k _ _ (fun z => ?_) (fun z => ?_) e) (fun xs e => k _ _ sep.s8 sep.s9 e), h.sa.keep kc (fun xs e => k _ _ sep.s4 sep.s5 e) (fun xs e => k _ _ sep.s6 sep.s7 e), ?_, h.mv_.kc kc, sep⟩
  · rw [z, e1] at e
    cases e
  · rw [z, e3] at e
    cases e
  · exact tabs_two h.tb e1 e3 (fun _ z => nomatch z) (fun _ z => nomatch z) lst_code lst_code k
/-- a deed at the desk -/
theorem Wd.desk {s1 : DS} (h : Wd K C CX H L TS mv cv more g ts n s s') (k : Ke L.a L.pl H H') (da : DeskAt K C CX H' L.a L.dx L.pl mv more s1.x s1.y s1.past) : Wd K C CX H' L TS mv cv more g ts n s1 s' := by
  obtain ⟨b, t, o, u, vs, ea, hb, ho, ep, hp⟩ := h.da.ex
  have kc : KC C H H' := KC.desk ea ep h.da.ne k
  have sep := h.sep
  have na : ∀ {p : Addr} {us : List V}, H p = some (.lst us) → p ≠ L.a := fun {p us} e z => by
    rw [z, ea] at e
    cases e
  refine ⟨?_, da, h.sa.keep kc (fun xs e => k _ _ (na e) sep.s2 e) (fun xs e => k _ _ (na e) sep.s3 e), tabs_two h.tb ea ep (fun _ z => nomatch z) (fun _ z => nomatch z) ins_code lst_code k, h.mv_.kc kc, sep⟩
  obtain ⟨t, cs, rs, h1, h2, h3, h4, h5, h6, h7, e1, e2, e3⟩ := h.dk
  exact ⟨t, cs, rs, h1, h2, h3, h4, h5, h6, h7, k _ _ (na e1) (Ne.symm sep.s8) e1, k _ _ (na e2) (Ne.symm sep.s12) e2, k _ _ (na e3) (Ne.symm sep.s9) e3⟩
/-- a deed in the law's own keeping -/
theorem Wd.kept {s1 : DS} (h : Wd K C CX H L TS mv cv more g ts n s s') (k : Ke L.st L.sl H H') (sa : StAt H' L.st L.sl mv cv s1) : Wd K C CX H' L TS mv cv more g ts n s s1 := by
  obtain ⟨t, u, vs, e1, e2, e3, e4, hp⟩ := h.sa.ex
  have kc : KC C H H' := KC.lists e1 e4 k
  have sep := h.sep
  refine ⟨?_, h.da.keep kc (fun fs e => k _ _ (fun z => ?_) (fun z => ?_) e) (fun xs e => k _ _ (Ne.symm sep.s2) (Ne.symm sep.s3) e), sa, tabs_two h.tb e1 e4 (fun _ z => nomatch z) (fun _ z => nomatch z) lst_code lst_code k, h.mv_.kc kc, sep⟩
  · obtain ⟨t, cs, rs, h1, h2, h3, h4, h5, h6, h7, d1, d2, d3⟩ := h.dk
    exact ⟨t, cs, rs, h1, h2, h3, h4, h5, h6, h7, k _ _ (Ne.symm sep.s4) (Ne.symm sep.s6) d1, k _ _ (Ne.symm sep.s10) (Ne.symm sep.s11) d2, k _ _ (Ne.symm sep.s5) (Ne.symm sep.s7) d3⟩
  · rw [z, e1] at e
    cases e
  · rw [z, e4] at e
    cases e
/-- a lambda is made -/
theorem Wd.lam (h : Wd K C CX H L TS mv cv more g ts n s s') (k : LamX.ExtN H H') (tb : LamX.Tabs TS H') : Wd K C CX H' L TS mv cv more g ts n s s' := by
  have kc : KC C H H' := KC.extN k
  have kl : ∀ {p : Addr} {us : List V}, H p = some (.lst us) → H' p = some (.lst us) := fun {p us} e => k _ _ e fun _ z => nomatch z
  refine ⟨?_, h.da.keep kc (fun fs e => k _ _ e fun _ z => nomatch z) (fun xs e => kl e), h.sa.keep kc (fun xs e => kl e) (fun xs e => kl e), tb, h.mv_.kc kc, h.sep⟩
  obtain ⟨t, cs, rs, h1, h2, h3, h4, h5, h6, h7, d1, d2, d3⟩ := h.dk
  exact ⟨t, cs, rs, h1, h2, h3, h4, h5, h6, h7, kl d1, kl d2, kl d3⟩
end
end Lb
set_option Elab.async false
set_option linter.all false
set_option maxRecDepth 100000
set_option maxHeartbeats 4000000
/-! ### errors of an own class over LookupError, with one field -/
namespace Lb
section
open PySem PySem.HandSPX Builtin Builtin.ObjectAttr
abbrev leTail : List Value := [.type "LookupError", .type "Exception", .type "BaseException", .type "object"]
theorem le_pass (me : Value) (C : Addr) : refuseLoop me "__setattr__" (.ref C :: leTail) = pure () := by
  rw [refuseLoop_ref]
  exact F.store_LookupError.passes me
variable {prog : Program} {w : World} {A : Around} {R : Result → Shared → Prop} {hp : Heap} {gs : Array GenState} {dr : Drawn} {tn : Nat} {os : OsState}
/-- object.__setattr__ of such an error that has no dict yet -/
theorem osa_le {K : W.Frag} {fld : Str} {tk : Tok} {val : Value} {x C N : Addr} {fv : Array Value} {nm qn : Str} {bs sb : List Value} {sn : List Str} {ab : Bool} {col : Option Bool}
    (kin : K.In hp) (ox : hp.get? x = some { cls := .ref C, data := .fields fv }) (oc : W.clsIn K C = some { name := nm, bases := bs, mro := .ref C :: leTail, ns := N, qualname := qn, hasDict := true, slotNames := sn, subclasses := sb, abstract := ab, collection := col, hasDel := false }) (na : W.findIn K (.ref C) fld = some none)
    (q : ∀ h' tk' dx, (∀ b o, b ≠ x → hp.get? b = some o → h'.get? b = some o) → hp.objs.size ≤ dx → dx ≠ x → h'.get? x = some { cls := .ref C, dict := some dx, data := .fields fv } → h'.Ns1 dx (fun y => if y = fld then some val else none) → R (.ok (.ret .none)) ⟨h', gs, dr, tk', os⟩) :
    codeAny (model prog w) A (.call (.builtin "object.__setattr__") ⟨[.ref x, .str fld tk, val], []⟩) R ⟨hp, gs, dr, tn, os⟩ := by
  have inst : W.InstAt hp x { cls := .ref C, data := .fields fv } C none := ⟨ox, rfl, rfl, trivial⟩
  have far : x ≠ hp.objs.size := Nat.ne_of_lt (Heap.lt_size ox)
  have isObj : W.Looks (model prog w) hp (isInstance (.ref x) (.type "object")) true := by
    refine inst.type.andThen (W.looks_mroIn kin ?_)
    unfold W.mroIn
    rw [oc]
    rfl
  refine codeAny_call_builtin F.store_object.slot.plain F.store_object.entry (@W.check_slot (model prog w) _ _ ⟨hp, gs, dr, tn, os⟩ "object.__setattr__" "object" "__setattr__" (.ref x) [.str fld tk, val] [] _ F.store_object.kind F.store_object.split isObj (F.store_object.args (.ref x) (.str fld tk) val) ?_)
  have lc : W.Looks (model prog w) hp (classData C) _ := W.looks_clsIn kin oc
  have lm : W.Looks (model prog w) hp (mroOf (.ref C)) (.ref C :: leTail) := lc.andThen .now
  have lt : W.Looks (model prog w) hp (storeTaker? none) none := .now
  rw [W.osa_eq, refuse_eq]
  refine wpAny_bind (wpAny_bind (inst.type.at (wpAny_bind (lm.at ?_))))
  rw [le_pass]
  refine wpAny_pure (wpAny_bind (inst.type.at (wpAny_bind ((W.looks_findIn kin na).at (wpAny_bind (lt.at ?_))))))
  show wpAny _ _ (storeInOwnDict (.ref x) (.ref C) (.str fld tk) fld val false) _ _ _
  unfold storeInOwnDict ownDictForStores
  repeat (first | with_reducible refine store_in_new ?_ ?_ | with_reducible refine wpAny_loadPart_at ox ?_ | with_reducible refine lc.at ?_ | wp_step)
  · refine ⟨_, #[], _, (Heap.get?_update_ne _ _ _ _ far.symm).trans (Heap.get?_push_at rfl rfl), rfl, ?_, fun _ => rfl⟩
    intro e he
    exact absurd he (by simp)
  · intro h2 tk2 nsd same
    have ox2 : (hp.push { cls := .type "dict", data := .dict #[] }).get? x = some { cls := .ref C, data := .fields fv } := Heap.get?_push_of_some _ ox
    refine q h2 tk2 hp.objs.size (fun b o nb eb => ?_) (Nat.le_refl _) far.symm ?_ nsd
    · rw [same.2 b (Nat.ne_of_lt (Heap.lt_size eb)), Heap.get?_update_ne _ _ _ _ nb]
      exact Heap.get?_push_of_some _ eb
    · rw [same.2 x far]
      exact Heap.get?_update_self _ ox2 rfl
end
open PySem PySem.Spec PyProof.Rows L2 RZ TL
/-- such a class -/
structure OexL (K : PySem.W.Frag) (C : Addr) : Prop where
  cls : ∃ nm q N bs sn sub ab col dd k0 k1 k2 k3 k5, K.lookup C = some (excClassObj nm q C N bs leTail true sn sub ab col dd k0 k1 k2 k3 k5 "LookupError.__new__")
  sa : PySem.W.findIn K (.ref C) "__setattr__" = some (some (.builtin "object.__setattr__"))
  exC : PySem.W.subIn K (.ref C) (.type "BaseException") = some true
  tyC : PySem.W.typeIn K (.ref C) = some (.type "type")
  kC : PySem.W.keepIn K (.ref C) = true
section
variable {X : Cx}
theorem ost_le {pins : List (Addr × Obj)} {σ : L2.St} {H : Hp} {s : Shared} {a C : Addr} {f : Str} {y : V} {u : Value} {Q : Unit → Shared → Prop} {E : Value → Shared → Prop} {A : Around} (T : OexL X.K C) (I : Inv X pins σ H s) (e : H a = some (exo a C none)) (no : PySem.W.findIn X.K (.ref C) f = some none) (ry : RelV y u)
    (h : ∀ dx s', H dx = none → dx ≠ a → Inv X pins σ (upd (upd H dx (exd dx [(f, y)])) a (exo a C (some dx))) s' → Q () s') : wpAny (model X.prog X.w) A (setAttr (.ref a) f u) Q E s := by
  obtain ⟨nm, q, N, bs, sn, sub, ab, col, dd, k0, k1, k2, k3, k5, hC⟩ := T.cls
  have cl : PySem.W.clsIn X.K C = some { name := nm, bases := bs, mro := .ref C :: leTail, ns := N, qualname := q, hasDict := true, slotNames := sn, subclasses := sub, abstract := ab, collection := col, hasDel := false } := by
    unfold PySem.W.clsIn
    rw [hC] <;> rfl
  obtain ⟨t1, oa⟩ := exo_at I.hok e
  obtain ⟨hp, gs, dr, tn, os⟩ := s
  refine PySem.W.set_plain I.kIn (ox := { cls := .ref C, dict := none, data := .fields #[.ref t1, .none, .none, .none, .bool false, .none] }) (od := none) ⟨oa, rfl, rfl, trivial⟩ T.sa (osa_le I.kIn oa cl no fun h2 tk2 dx kp new ne oa2 nsd => ?_)
  have hd : H dx = none := I.hok.fresh new
  have old : ∀ {b : Addr} {o : Obj}, hp.get? b = some o → b ≠ dx := fun {b o} z => Nat.ne_of_lt (Nat.lt_of_lt_of_le (Heap.lt_size z) new)
  have off : ∀ {b : Addr} {o : HO}, H b = some o → o ≠ exo a C none → upd (upd H dx (exd dx [(f, y)])) a (exo a C (some dx)) b = some o := fun {b o} z d => by
    rw [upd_ne (fun w => d (by rw [w, e] at z; exact (Option.some.inj z).symm)), upd_ne (ne_of_none z hd)]
    exact z
  have nota : ∀ {b : Addr}, H b = none → b ≠ a := fun {b} z w => by
    rw [w, e] at z
    cases z
  have un : Un X.fs [] H (upd (upd H dx (exd dx [(f, y)])) a (exo a C (some dx))) hp h2 := by
    refine ⟨?_, ?_, ?_, ?_, ?_, ?_, ?_⟩
    · exact fun b o z n _ _ => kp b o (nota n) z
    · exact fun b o z n _ _ => ⟨o.slots, kp b o (nota n) z⟩
    · intro b o z n _
      rw [upd_ne (nota n), upd_ne (old z)]
      exact n
    · intro b o z _
      by_cases w : b = a
      · rw [w]
        exact ⟨_, oa2⟩
      · exact ⟨o, kp b o w z⟩
    · exact fun b xs z => off z (fun w => exo_tup w.symm)
    · exact fun b o v z => off z (fun w => exo_frz w.symm)
    · intro b ps z
      refine ⟨#[], ?_⟩
      rw [Array.append_empty]
      exact off z (fun w => exo_tbl w.symm)
  refine h dx _ hd ne (I.un (t' := tk2) un fun b o z => ?_)
  by_cases w : b = a
  · subst w
    rw [upd_same] at z
    cases z
    exact exo_ok oa2
  rw [upd_ne w] at z
  by_cases w2 : b = dx
  · subst w2
    rw [upd_same] at z
    cases z
    exact exd_ok nsd (relO_put (fs := []) ry fun g => True.intro)
  rw [upd_ne w2] at z
  refine (I.hok b o z).stay (fun c v hc eq => kp c v (fun w3 => ?_) eq) (fun c hc => off hc (fun w3 => exo_own w3.symm)) fun c xs hc => off hc (fun w3 => exo_tup w3.symm)
  rcases hc with hc | hc
  · exact w (hc.symm.trans w3)
  · rw [w3, e] at hc
    exact exo_own (Option.some.inj hc)
/-- self.f = e in such a class's own __init__ -/
def tOstL (K : PySem.W.Frag) (f : Str) (to te : TE) : TS := fun D σ H => te σ H fun y H1 => to σ H1 fun x H2 => ∃ a C : Addr, x = .ref a ∧ OexL K C ∧ PySem.W.findIn K (.ref C) f = some none ∧ H2 a = some (exo a C none) ∧ ∀ dx, H2 dx = none → dx ≠ a → D.nx σ (upd (upd H2 dx (exd dx [(f, y)])) a (exo a C (some dx)))
theorem ps_ostL {o e : Expr} {to te : TE} {f : Str} {p' pos : Pos} (ho : PE X o to) (he : PE X e te) (hs : swapsWith e (some (.Attribute o f p')) pos.line X.env = pure false := by rfl) : PS X (.Assign [.Attribute o f p'] e pos) (tOstL X.K f to te) := by
  refine ⟨fun pins s σ H D I h => plainObj_wpAny_Assign_Attribute (thn (he.run pins s σ H _ I h) fun v s1 ⟨y, H1, I1, r1, q1⟩ => thn (ho.run pins s1 σ H1 _ I1 q1) fun u s2 ⟨x, H2, I2, r2, a, C, ex, T, no, ea, q⟩ => ?_) hs⟩
  subst ex
  obtain rfl : u = Value.ref a := r2
  exact ost_le T I2 ea no r1 fun dx s' n ne J => ⟨σ, _, J, q dx n ne⟩
/-- C(e, ..) of such a class -/
theorem pmk_le {e : Expr} {es : List Expr} {ta : TA} {p pos : Pos} {CX : CXT} {x : Str} {C fI : Addr} {k : Nat} {fd : FuncData} {ps : List Str} {sp : Sp} {ds : List Value} {dvs : List V} (T : OexL X.K C) (iC : PySem.W.findIn X.K (.ref C) "__init__" = some (some (.ref fI))) (tI : PySem.W.typeIn X.K (.ref fI) = some (.type "function"))
    (F1 : FnOk X.prog X.w X.K X.mg X.base CX k fI fd ps sp) (hr : Room (k + 1) X.A) (hb : Binds X.K fd ps ds) (hd : Vals dvs ds) (hx : Passes CX X (fun _ _ _ => False)) (hg : Gl X x) (hm : X.mg x = some (.ref C)) (ha : PA X (e :: es) ta)
    (hdb : (x == ("__debug__" : Str)) = false := by decide) (he : starEach (e :: es) X.env = (false, eval e X.env) :: starEach es X.env := by rfl) (hpl : (backTo pos (starEach es X.env)).any (·.1) = false := by rfl) :
    PMk X (.Call (.Name x p) (e :: es) [] pos) (tMkO C sp dvs ta) := by
  intro pins s σ H Q I h
  obtain ⟨nm, qn, N, bs, sn, sub, ab, col, dd, k0, k1, k2, k3, k5, hC⟩ := T.cls
  refine wpAny_Call_Name_kw (ld_glob I hg hm (PySem.W.callWith_K (h₀ := X.base) I.ok.mod.kin T.kC (thn (ha.run pos pins s σ H _ I h) fun us s1 ⟨vs, H1, I1, r1, few, q1⟩ => ⟨I1.kIn, ?_⟩) he hpl) hdb)
  show wpAny _ _ (call (.ref C) us) _ _ _
  obtain ⟨hp, gs, dr, tk, os⟩ := s1
  have up : hp.objs.size ≤ hp.objs.size + 1 := Nat.le_succ _
  have young : H1 (hp.objs.size + 1) = none := I1.hok.fresh up
  have kept : ∀ b o, hp.get? b = some o → ((hp.push (PySem.W.kdv_tup us)).push (PySem.HandSPX.excO C hp.objs.size)).get? b = some o := fun b o z => Heap.get?_push_of_some _ (Heap.get?_push_of_some _ z)
  have made : ((hp.push (PySem.W.kdv_tup us)).push (PySem.HandSPX.excO C hp.objs.size)).get? (hp.objs.size + 1) = some (PySem.HandSPX.excO C hp.objs.size) := by heap_get
  have I2 : Inv X pins σ (upd H1 (hp.objs.size + 1) (exo (hp.objs.size + 1) C none)) { heap := (hp.push (PySem.W.kdv_tup us)).push (PySem.HandSPX.excO C hp.objs.size), gens := gs, drawn := dr, toks := tk, os := os } := I1.laid (t' := tk) (a := hp.objs.size + 1) (o := exo (hp.objs.size + 1) C none) kept up (exo_ok made)
  have r2 : Vals (V.ref (hp.objs.size + 1) :: (vs ++ dvs)) (Value.ref (hp.objs.size + 1) :: (us ++ ds)) := .cons rfl (r1.append hd)
  have asks := q1 (hp.objs.size + 1) young
  have len : (Value.ref (hp.objs.size + 1) :: us ++ ds).length = ps.length := by
    have z := r2.length
    rw [F1.len _ _ _ _ asks] at z
    exact z.symm
  have small : us.length ≤ sizeLine := by
    have z := Paired.length r1
    rw [sizeLine_eq]
    omega
  refine wpAny_call (PySem.HandSPX.call_own F.excBase_LookupError (fun _ => rfl) (I1.kIn _ _ hC) (PySem.W.looks_findIn I1.kIn iC) (fun me => PySem.W.bind_fn I1.kIn me tI) small (codeAny_mono (F1.run _ X.stack _ _ ⟨Value.ref (hp.objs.size + 1) :: us, []⟩ (Value.ref (hp.objs.size + 1) :: (us ++ ds)) _ _ (fun _ _ _ => False) (hr.make C us []) (I2.env0.make C us []) (hb _ (Value.ref (hp.objs.size + 1) :: us) I2.kIn len) r2 asks) fun r s' z => ?_))
  cases r with
  | error er => exact hx pins σ _ _ er s' I2 z
  | ok fl =>
    cases fl with
    | next => exact z.elim
    | brk => exact z.elim
    | cont => exact z.elim
    | ret u =>
      obtain ⟨v, H2, os2, bare2, un2, hok2, rv, ev, d, fs, ea, ed, hd1, q2⟩ := z
      subst ev
      obtain ⟨h2, g2, d2, t2, os'⟩ := s'
      exact ⟨rv, mk_end (raises_own T.exC T.tyC) I1 up kept un2 hok2 os2 bare2 ea ed hd1 q2⟩
end
/-- an error class over LookupError with one field -/
structure Err1L (P : Program) (w : World) (K : PySem.W.Frag) (mg : Str → Option Value) (base : Heap) (x fld : Str) (C : Addr) : Prop where
  gC : mg x = some (.ref C)
  ox : OexL K C
  xf : XfC K C
  no : PySem.W.findIn K (.ref C) fld = some none
  te : PySem.W.exmOne K (.ref C) (.ref C) = some true
  ini : ∃ (fI : Addr) (fd : FuncData), PySem.W.findIn K (.ref C) "__init__" = some (some (.ref fI)) ∧ PySem.W.typeIn K (.ref fI) = some (.type "function") ∧ FnOk P w K mg base CX0 1 fI fd ["self", fld] (spIni C fld) ∧ Binds K fd ["self", fld] []
theorem pmk_errL {X : Cx} {x fld : Str} {C : Addr} {e : Expr} {ta : TA} {p pos : Pos} (T : Err1L X.prog X.w X.K X.mg X.base x fld C) (hr : Room 2 X.A) (hg : Gl X x) (ha : PA X [e] ta)
    (hdb : (x == ("__debug__" : Str)) = false := by decide) (he : starEach [e] X.env = (false, eval e X.env) :: starEach [] X.env := by rfl) (hpl : (backTo pos (starEach [] X.env)).any (·.1) = false := by rfl) :
    PMk X (.Call (.Name x p) [e] [] pos) (tMkO C (spIni C fld) [] ta) := by
  obtain ⟨fI, fd, iC, tI, F1, hb⟩ := T.ini
  exact pmk_le T.ox iC tI F1 hr hb .nil pass0 hg T.gC ha hdb he hpl
end Lb
set_option Elab.async false
set_option linter.all false
set_option maxRecDepth 100000
set_option maxHeartbeats 4000000
namespace Lb
open PySem PySem.Spec PyProof.Rows L2 RZ TL
/-! ### o.f as a target among several -/
def gFld (K : PySem.W.Frag) (to : TE) (f : Str) : TG := fun v σ H Q => to σ H fun x H1 => ∃ a C dx fs, x = .ref a ∧ H1 a = some (.ins C dx fs) ∧ Cls K C ∧ NoAttr K C f ∧ fs.length < 1000 ∧ Q σ (upd H1 a (.ins C dx (putF f v fs)))
theorem pg_fld {X : Cx} {o : Expr} {to : TE} {f : Str} {pos : Pos} (ho : PE X o to)
    (hat : ∀ v, assign (.Attribute o f pos) X.env v = holding [v] (eval o X.env) >>= fun ov => standAt pos.atName >>= fun _ => holding [v, ov] (setAttr ov f v) >>= fun _ => release [v, ov] [] := by intro _; rfl) : PG X (.Attribute o f pos) (gFld X.K to f) := by
  refine ⟨fun pins s σ H v u Q I r h => ?_⟩
  rw [hat]
  refine wpAny_bind (wpAny_holding (thn (ho.run pins s σ H _ I h) fun ov s1 ⟨x, H1, I1, r1, a, C, dx, fs, ex, ea, c, n, l, q⟩ => ?_))
  subst ex
  obtain rfl : ov = Value.ref a := r1
  refine wpAny_bind (wpAny_standAt (wpAny_bind (wpAny_holding (setattr_ok I1 ea c n l r fun s3 I3 => ?_))))
  exact wpAny_release ⟨σ, _, I3, q⟩
/-! ### methods whose last parameters are named -/
structure OwnMN (P : Program) (w : World) (K : PySem.W.Frag) (mg : Str → Option Value) (base : Heap) (C : Addr) (m : Str) (k : Nat) (ps : List Str) (n : Nat) (ks : List Str) (sp : Sp) : Prop where
  ex : ∃ (f : Addr) (fd : FuncData), Meth K C m f ∧ FnOk P w K mg base (L2.CX P w) k f fd ps sp ∧ KBn K fd ps (n + 1) ks (fun us ws => us ++ ws) (fun vs zs => vs ++ zs)
theorem ownMN_of {P : Program} {w : World} {K : PySem.W.Frag} {mg : Str → Option Value} {base : Heap} {C : Addr} {m qual : Str} {st : Stmt} {N ps ks : List Str} {k n : Nat} {sp : Sp} (D : DfM K C m qual st) (S : FnScope N ps (defScope st))
    (hb : ∀ (kV doc pm : Value) (an : Option Addr) (cdv ct : Value) (us ws : List Value), us.length = n + 1 → ws.length = ks.length → bindArgs (PySem.W.fnOf m qual (defArgs st) (defBody st) (defScope st) .none kV doc pm an cdv ct) ⟨us, ks.zip ws⟩ = pure (ps.zip (us ++ ws)))
    (len : ∀ vs H Q E, sp vs H Q E → vs.length = ps.length)
    (hbody : ∀ (f : Addr) (cdv : Value) (A : Around) (outer : List Env) (s : Shared) (H : Hp) (vs : List V) (Q : VK) (E : XK), Room k (A.deeper (envOfC qual (defScope st) s.heap.objs.size f cdv)) → sp vs H Q E →
      ∃ t, PSs (cxOf (L2.CX P w) P w K mg base N qual (defScope st) f cdv A outer s H E) (defBody st) t ∧ t { nx := fun _ H' => Q .non H', rt := Q } (start N vs) H) : OwnMN P w K mg base C m (k + 1) ps n ks sp := by
  obtain ⟨f, fd, F, M⟩ := D.ex
  have F0 := F
  obtain ⟨oc, od, kV, doc, pm, an, cdv, ct, osl, rfl, lk, hcd⟩ := F.ex
  exact ⟨f, _, M, F0.okX S len (hbody f), ⟨fun s us ws _ h1 h2 => .of_eq (hb kV doc pm an cdv ct us ws h1 h2), fun r1 r2 => r1.append r2⟩⟩
theorem pe_methNX {X : Cx} {C : Addr} {m : Str} {k n : Nat} {ps ks : List Str} {sp : Sp} {E : XK} {pos apos : Pos} {o e : Expr} {es : List Expr} {kws : List Keyword} {ta : TE} {t tk : TA} {pl : Sem Bool}
    (he : PE X o ta) (c : Cls X.K C) (O : OwnMN X.prog X.w X.K X.mg X.base C m k ps n ks sp) (hr : Room k X.A) (hx : Passes (L2.CX X.prog X.w) X E) (ha : PA X (e :: es) t) (hkw : PK X kws tk)
    (hall : (backToKw pos (keywordEach kws X.env)).all (·.1.isSome) = true := by rfl) (hks : (backToKw pos (keywordEach kws X.env)).filterMap (·.1) = ks := by rfl) (hst : starEach (e :: es) X.env = (false, eval e X.env) :: starEach es X.env := by rfl)
    (hpl : ((backTo pos (starEach (e :: es) X.env)).any (·.1) || (backToKw pos (keywordEach kws X.env)).any (·.1.isNone)) = false := by rfl)
    (ht : eval (.Call (.Attribute o m apos) (e :: es) kws pos) X.env = (do
      let ov ← eval o X.env
      standAt apos.atName
      let (f, first) ← holding [ov] (getMethod ov m pl)
      callWith pos f first (backTo pos (starEach (e :: es) X.env)) (backToKw pos (keywordEach kws X.env))) := by rfl) :
    PE X (.Call (.Attribute o m apos) (e :: es) kws pos) (tMethN C m n ks.length sp (fun vs zs => vs ++ zs) E ta t tk) := by
  obtain ⟨f, fd, M, F, b⟩ := O.ex
  exact pe_methN he c M F hr b hx ha hkw hall hks hst hpl ht
/-! ### what a desk does -/
structure ErrCs where
  trade : Addr
  times : Addr
  lacking : Addr
  owed : Addr
  much : Addr
  bag : Addr
  cap : Addr
  nothing : Addr
def ErrV (E : XK) (C : Addr) (H : Hp) (f : Str) (v : V) : Prop := ∀ (H' : Hp) (dd : Addr), Same H H' → H dd = none → H' dd = some (.xd [(f, v)]) → E (.ref C) (some dd) H'
/-- the desk answers with this outcome -/
def Meet (K : PySem.W.Frag) (C CX : Addr) (cs : ErrCs) (H : Hp) (a dx pl : Addr) (mv : V) (more : List (Str × V)) (Q : VK) (E : XK) : Oc → Prop
  | .trade v => ErrV E cs.trade H "value" v
  | .times v => ErrV E cs.times H "value" v
  | .lacking k => ErrG E cs.lacking H k
  | .owed k => ErrG E cs.owed H k
  | .much k => ErrG E cs.much H k
  | .bag => ErrN E cs.bag H
  | .cap => ErrN E cs.cap H
  | .nothing => ErrN E cs.nothing H
  | .did s => ∀ H', Ke a pl H H' → DeskAt K C CX H' a dx pl mv more s.x s.y s.past → Q (.int (s.past.length : Int)) H'
  | .undid s => ∀ H', Ke a pl H H' → DeskAt K C CX H' a dx pl mv more s.x s.y s.past → Q .non H'
/-- what was made before does not matter -/
theorem Meet.same {K : PySem.W.Frag} {C CX : Addr} {cs : ErrCs} {H H1 : Hp} {a dx pl : Addr} {mv : V} {more : List (Str × V)} {Q : VK} {E : XK} {o : Oc} (s : Same H H1) (h : Meet K C CX cs H a dx pl mv more Q E o) : Meet K C CX cs H1 a dx pl mv more Q E o := by
  cases o with
  | trade v => exact fun H' dd k z e => h H' dd (s.trans k) (s.free z) e
  | times v => exact fun H' dd k z e => h H' dd (s.trans k) (s.free z) e
  | lacking n => exact fun H' dd k z e => h H' dd (s.trans k) (s.free z) e
  | owed n => exact fun H' dd k z e => h H' dd (s.trans k) (s.free z) e
  | much n => exact fun H' dd k z e => h H' dd (s.trans k) (s.free z) e
  | bag => exact fun H' k => h H' (s.trans k)
  | cap => exact fun H' k => h H' (s.trans k)
  | nothing => exact fun H' k => h H' (s.trans k)
  | did s' => exact fun H' k d => h H' ((Ke.of s).trans k) d
  | undid s' => exact fun H' k d => h H' ((Ke.of s).trans k) d
/-- the fields beyond: none, or the cap -/
def CapOk (more : List (Str × V)) (cv : V) : Option Int → Prop
  | none => more = [] ∧ cv = .non
  | some c => more = [(("most" : Str), V.int c)] ∧ cv = .int c
theorem CapOk.more {more : List (Str × V)} {cv : V} {cap : Option Int} (h : CapOk more cv cap) : MoreOk more := by
  cases cap with
  | none => exact .inl h.1
  | some c => exact .inr ⟨_, h.1⟩
/-- Desk.undo(self) -/
def spUndo (K : PySem.W.Frag) (C CX : Addr) (cs : ErrCs) : Sp := fun vs H Q E => ∃ (a dx pl : Addr) (mv : V) (more : List (Str × V)) (s : DS), vs = [.ref a] ∧ DskC K CX ∧ DeskAt K C CX H a dx pl mv more s.x s.y s.past ∧ MoreOk more ∧ Meet K C CX cs H a dx pl mv more Q E (undoO s)
/-- Desk.trade(self, k, *, back, times) -/
def spDTrade (K : PySem.W.Frag) (C CX : Addr) (cs : ErrCs) : Sp := fun vs H Q E => ∃ (a dx pl : Addr) (mv kv tv : V) (kz tz : Option Int) (back : Bool) (more : List (Str × V)) (g : Nat) (ts : List Trd) (s : DS), vs = [.ref a, kv, .bl back, tv] ∧ SmV kv kz ∧ SmV tv tz ∧ DskC K CX ∧ DeskAt K C CX H a dx pl mv more s.x s.y s.past ∧ MoreOk more ∧
  MkV H mv g ts ∧ MktOk g ts ∧ DsOk g s ∧ s.past.length < 500 ∧ Meet K C CX cs H a dx pl mv more Q E (tradeO ts s kv tv kz tz back)
/-- desk.borrow(bag), desk.pay(bag) of any value -/
def spBorrowO (K : PySem.W.Frag) (C CX : Addr) (cs : ErrCs) (cp : Bool) : Sp := fun vs H Q E => ∃ (a dx pl : Addr) (v mv cv : V) (cap : Option Int) (more : List (Str × V)) (g : Nat) (s : DS), vs = [.ref a, v] ∧ DskC K CX ∧ DeskAt K C CX H a dx pl mv more s.x s.y s.past ∧ CapOk more cv cap ∧ cap.isSome = cp ∧ 1 ≤ g ∧ g ≤ 4 ∧ DsOk g s ∧ s.past.length < 500 ∧
  Opd K C H v (fun _ _ z => Meet K C CX cs H a dx pl mv more Q E (borrowO g cap s (some z))) (Meet K C CX cs H a dx pl mv more Q E .bag)
def spPayO (K : PySem.W.Frag) (C CX : Addr) (cs : ErrCs) : Sp := fun vs H Q E => ∃ (a dx pl : Addr) (v mv cv : V) (cap : Option Int) (more : List (Str × V)) (g : Nat) (s : DS), vs = [.ref a, v] ∧ DskC K CX ∧ DeskAt K C CX H a dx pl mv more s.x s.y s.past ∧ CapOk more cv cap ∧ 1 ≤ g ∧ g ≤ 4 ∧ DsOk g s ∧ s.past.length < 500 ∧
  Opd K C H v (fun _ _ z => Meet K C CX cs H a dx pl mv more Q E (payO g s (some z))) (Meet K C CX cs H a dx pl mv more Q E .bag)
theorem DsOk.bx {g : Nat} {s : DS} (h : DsOk g s) (g1 : 1 ≤ g) (g4 : g ≤ 4) : BgOk s.x := ⟨by rw [h.lx]; exact g1, by rw [h.lx]; exact g4, fun v hv => (h.ax v hv).1⟩
theorem DsOk.by_ {g : Nat} {s : DS} (h : DsOk g s) (g1 : 1 ≤ g) (g4 : g ≤ 4) : BgOk s.y := ⟨by rw [h.ly]; exact g1, by rw [h.ly]; exact g4, fun v hv => (h.ay v hv).1⟩
/-- a desk without a cap borrows -/
theorem borrow_imp {K : PySem.W.Frag} {C CX : Addr} {cs : ErrCs} (vs : List V) (H : Hp) (Q : VK) (E : XK) (h : spBorrowO K C CX cs false vs H Q E) : spBorrow K C CX cs.bag cs.much vs H Q E := by
  obtain ⟨a, dx, pl, v, mv, cv, cap, more, g, s, rfl, dc, da, co, hcp, g1, g4, ok, hp, h⟩ := h
  cases cap with
  | some c => cases hcp
  | none =>
    have lyx : s.y.length = s.x.length := ok.ly.trans ok.lx.symm
    refine ⟨a, dx, pl, v, mv, more, s.x, s.y, s.past, rfl, dc, da, ok.bx g1 g4, ok.by_ g1 g4, lyx, hp, co.more, ?_⟩
    rcases h with ⟨b, t, z, rfl, hb, zok, h⟩ | ⟨hn, h⟩
    · refine .inl ⟨b, t, z, rfl, hb, zok, fun hl => ?_, fun hne => ?_⟩
      · have e : borrowO g none s (some z) = keptO s (plusZ s.x z) (plusZ s.y z) := by
          show (if z.length = g then _ else _) = _
          rw [if_pos (hl.trans ok.ly)]
        rw [e] at h
        unfold keptO at h
        refine ⟨fun k hk => ?_, fun hk => ?_⟩
        · rw [hk] at h
          exact h
        · rw [hk] at h
          intro H' ke d'
          have q := h H' ke d'
          have el : (s.past ++ [(s.x, s.y)]).length = s.past.length + 1 := by rw [List.length_append, List.length_singleton]
          have q' : Q (.int ((s.past ++ [(s.x, s.y)]).length : Int)) H' := q
          rw [el] at q'
          exact q'
      · have e : borrowO g none s (some z) = .bag := by
          show (if z.length = g then _ else _) = _
          rw [if_neg (fun q => hne (q.trans ok.ly.symm))]
        rw [e] at h
        exact h
    · exact .inr ⟨hn, h⟩
theorem pay_imp {K : PySem.W.Frag} {C CX : Addr} {cs : ErrCs} (vs : List V) (H : Hp) (Q : VK) (E : XK) (h : spPayO K C CX cs vs H Q E) : spPay K C CX cs.bag cs.owed cs.lacking vs H Q E := by
  obtain ⟨a, dx, pl, v, mv, cv, cap, more, g, s, rfl, dc, da, co, g1, g4, ok, hp, h⟩ := h
  have lyx : s.y.length = s.x.length := ok.ly.trans ok.lx.symm
  refine ⟨a, dx, pl, v, mv, more, s.x, s.y, s.past, rfl, dc, da, ok.bx g1 g4, ok.by_ g1 g4, lyx, hp, co.more, ?_⟩
  rcases h with ⟨b, t, z, rfl, hb, zok, h⟩ | ⟨hn, h⟩
  · refine .inl ⟨b, t, z, rfl, hb, zok, fun hl => ?_, fun hne => ?_⟩
    · have hlx : z.length = s.x.length := hl.trans lyx
      unfold payO at h
      dsimp only at h
      rw [if_pos (hl.trans ok.ly)] at h
      refine ⟨fun k hk => ?_, fun hk => ⟨fun k hk2 => ?_, fun hk2 => ?_⟩⟩
      · rw [hk] at h
        exact h
      · rw [hk, hk2] at h
        exact h
      · rw [hk, hk2] at h
        have six : muchN (joinZ (lessZ s.x z) (lessZ s.y z)) = none := by
          refine six_much fun v hv => ?_
          obtain ⟨p, hp1, q, hq1, rfl⟩ := mem_zip hv
          obtain ⟨u, hu, w, hw, rfl⟩ := mem_zip hp1
          obtain ⟨u', hu', w', hw', rfl⟩ := mem_zip hq1
          have h1 := ok.ax u hu
          have h2 := zok.3 w hw
          have h3 := ok.ay u' hu'
          have h4 := zok.3 w' hw'
          show (if u' - w' > u - w then u' - w' else u - w) ≤ 6
          split <;> omega
        have h' : Meet K C CX cs H a dx pl mv more Q E (keptO s (lessZ s.x z) (lessZ s.y z)) := h
        unfold keptO at h'
        rw [six] at h'
        intro H' ke d'
        have q : Q (.int ((s.past ++ [(s.x, s.y)]).length : Int)) H' := h' H' ke d'
        have el : (s.past ++ [(s.x, s.y)]).length = s.past.length + 1 := by rw [List.length_append, List.length_singleton]
        rw [el] at q
        exact q
    · have e : payO g s (some z) = .bag := by
        show (if z.length = g then _ else _) = _
        rw [if_neg (fun q => hne (q.trans ok.ly.symm))]
      rw [e] at h
      exact h
  · exact .inr ⟨hn, h⟩
end Lb
namespace Lb
open PySem PySem.Spec PyProof.Rows L2 RZ TL
theorem rd_subE {K : PySem.W.Frag} {C CB CL a t b s : Addr} {x z : List Int} {E : XK} {H : Hp} {Q : VK} (ha : Bg C H a t x) (hb : Bg C H b s z) (xok : BgOk x) (zok : BgOk z) (hl : z.length = x.length) (q : lackN x z 0 = none → Out C H Q (List.zipWith (· - ·) x z)) (qe : ∀ k : Nat, lackN x z 0 = some k → ErrG E CL H k) : rBinO C (spSub K C CB CL) E (.ref a) (.ref b) H Q := by
  obtain ⟨dx, ea⟩ := ha.ins
  obtain ⟨dy, eb⟩ := hb.ins
  exact ⟨a, dx, _, b, dy, _, rfl, rfl, ea, eb, a, t, x, _, rfl, ha, xok, .inl ⟨b, s, z, rfl, hb, zok, fun _ => ⟨q, fun k h => qe k h⟩, fun hne => absurd hl hne⟩⟩
theorem Bg.updL {C : Addr} {H : Hp} {b t L : Addr} {x : List Int} {us : List V} {o : HO} (h : Bg C H b t x) (e : H L = some (.lst us)) : Bg C (upd H L o) b t x := by
  obtain ⟨⟨dx, eb⟩, et⟩ := h
  refine ⟨⟨dx, ?_⟩, ?_⟩
  · rw [upd_ne (fun z => by rw [z, e] at eb; cases eb)]
    exact eb
  · rw [upd_ne (fun z => by rw [z, e] at et; cases et)]
    exact et
theorem Side.bok {g : Nat} {b : List Int} (h : Side g 4 b) (g1 : 1 ≤ g) (g4 : g ≤ 4) : BgOk b := ⟨by rw [h.len]; exact g1, by rw [h.len]; exact g4, fun v hv => (h.amt v hv).1⟩
/-- two Bags made one behind another, in the list at L -/
def TwoB (C L ug vg : Addr) (x y : List Int) (H : Hp) (i : Nat) (H' : Hp) : Prop := Same H H' ∧ ((i = 0 ∧ H' L = some (.lst [])) ∨ (i = 1 ∧ ∃ q1, H' L = some (.lst [.ref q1]) ∧ Bg C H' q1 ug x) ∨ (i = 2 ∧ ∃ q1 q2, H' L = some (.lst [.ref q1, .ref q2]) ∧ Bg C H' q1 ug x ∧ Bg C H' q2 vg y))
theorem TwoB.last {C L ug vg : Addr} {x y : List Int} {H H' : Hp} (h : TwoB C L ug vg x y H 2 H') : Same H H' ∧ ∃ q1 q2, H' L = some (.lst [.ref q1, .ref q2]) ∧ Bg C H' q1 ug x ∧ Bg C H' q2 vg y := by
  refine ⟨h.1, ?_⟩
  rcases h.2 with ⟨z, _⟩ | ⟨z, _⟩ | ⟨_, q⟩
  · exact nomatch z
  · exact nomatch z
  · exact q
theorem OwnM.up {P : Program} {w : World} {K : PySem.W.Frag} {mg : Str → Option Value} {base : Heap} {C : Addr} {m : Str} {k j : Nat} {ps : List Str} {sp sp' : Sp} (O : OwnM P w K mg base C m k ps sp) (h : k ≤ j) (i : ∀ vs H Q E, sp' vs H Q E → sp vs H Q E) : OwnM P w K mg base C m j ps sp' := by
  obtain ⟨f, fd, M, F, b⟩ := O.ex
  exact ⟨f, fd, M, ⟨fun vs H Q E z => F.len vs H Q E (i vs H Q E z), fun A outer s H args us vs Q E hr e0 hb r z => F.run A outer s H args us vs Q E (hr.mono h) e0 hb r (i vs H Q E z)⟩, b⟩
end Lb
set_option Elab.async false
set_option linter.all false
set_option maxRecDepth 100000
set_option maxHeartbeats 4000000
namespace Lb
open PySem PySem.Spec PyProof.Rows L2 RZ TL
/-! ### [k for k in range(n) if ..] -/
abbrev plc (p : Nat → Bool) (n : Nat) : List Nat := (List.range n).filter p
theorem plc_succ (p : Nat → Bool) (n : Nat) : plc p (n + 1) = plc p n ++ (if p n = true then [n] else []) := by
  unfold plc
  rw [List.range_succ, List.filter_append]
  cases h : p n
  · rw [if_neg (by decide), List.filter_cons, h]
    rfl
  · rw [if_pos rfl, List.filter_cons, h]
    rfl
theorem plc_len (p : Nat → Bool) (n : Nat) : (plc p n).length ≤ n := by
  have := List.length_filter_le p (List.range n)
  rw [List.length_range] at this
  exact this
theorem lc_places {n v : Nat} {tt : TT} {vs : List Nat} {σ : L2.St} {H1 : Hp} {D : Addr} {Qd : Hp → Prop} (p : Nat → Bool) (hD : H1 D = none) (hn : n ≤ 1000)
    (hw : ∀ x : V, wipe ((wipe σ vs).set v (some x)) vs = wipe σ vs) (hg : ∀ x : V, ((wipe σ vs).set v (some x))[v]? = some (some x))
    (ht : ∀ (i : Nat) (H' : Hp) (Qb : Bool → Hp → Prop), i < n → Same H1 H' → Qb (p i) H' → tt ((wipe σ vs).set v (some (.int (i : Int)))) H' Qb)
    (hd : ∀ H', Same H1 H' → H' D = some (.lst ((plc p n).map fun k : Nat => V.int (k : Int))) → Qd H') : LcW (Itr 0 n) (gName v) tt (tVar v) vs σ H1 D Qd := by
  refine lc_range (lo := 0) (n := n) (fun j H' => Same H1 H' ∧ H' D = some (.lst ((plc p j).map fun k : Nat => V.int (k : Int)))) ⟨same_upd hD, upd_same⟩ ?_ (fun H' h => hd H' h.1 h.2)
  rintro j H' hj ⟨sm, eD⟩
  rw [Int.zero_add]
  refine ⟨hw _, ht j H' _ hj sm ?_⟩
  have hl := plc_len p j
  cases hp : p j with
  | true =>
    refine iteT ⟨_, hg _, _, eD, small1000 (by rw [List.length_map]; omega), fun b o e => ?_, ?_⟩
    · rw [upd_ne (ne_of_none e hD)]
      exact sm _ _ e
    · rw [upd_same, plc_succ, if_pos hp, List.map_append]
      rfl
  | false =>
    refine iteF ⟨sm, ?_⟩
    rw [plc_succ, if_neg (by rw [hp]; exact Bool.false_ne_true), List.append_nil]
    exact eD
theorem plc_cons (p : Nat → Bool) (n : Nat) : plc p (n + 1) = (if p 0 = true then [0] else []) ++ (plc (fun i => p (i + 1)) n).map Nat.succ := by
  unfold plc
  rw [List.range_succ_eq_map, List.filter_cons, List.filter_map]
  cases h : p 0
  · rw [if_neg (by decide), if_neg (by decide)]
    rfl
  · rw [if_pos rfl, if_pos rfl]
    rfl
/-- what is lacking first is the first such place -/
theorem lack_plc : ∀ {x y : List Int} (k : Nat), x.length = y.length → lackN x y k = (plc (fun i => decide (x.getD i 0 < y.getD i 0)) x.length).head?.map (k + ·)
  | [], [], _, _ => rfl
  | a :: x, b :: y, k, hl => by
    rw [List.length_cons, plc_cons, lackN_cons]
    by_cases h : a < b
    · rw [if_pos h]
      have h0 : decide ((a :: x).getD 0 0 < (b :: y).getD 0 0) = true := decide_eq_true h
      rw [if_pos h0]
      rfl
    · rw [if_neg h]
      have h0 : ¬ decide ((a :: x).getD 0 0 < (b :: y).getD 0 0) = true := fun z => h (of_decide_eq_true z)
      rw [if_neg h0, List.nil_append, lack_plc (x := x) (y := y) (k + 1) (by simpa using hl), List.head?_map, Option.map_map]
      congr 1
      funext i
      show k + 1 + i = k + (i + 1)
      omega
theorem lack_plc0 {x y : List Int} (hl : x.length = y.length) : lackN x y 0 = (plc (fun i => decide (x.getD i 0 < y.getD i 0)) x.length).head? := by
  rw [lack_plc 0 hl]
  cases (plc (fun i => decide (x.getD i 0 < y.getD i 0)) x.length).head? with
  | none => rfl
  | some k => exact congrArg some (Nat.zero_add k)
theorem getD_rep {n i : Nat} {v : Int} (h : i < n) : (List.replicate n v).getD i 0 = v := by
  rw [List.getD_eq_getElem?_getD, List.getElem?_replicate, if_pos h]
  rfl
theorem plc_congr {p q : Nat → Bool} {n : Nat} (h : ∀ i, i < n → p i = q i) : plc p n = plc q n := List.filter_congr fun i hi => h i (List.mem_range.mp hi)
theorem much_plc {z : List Int} : muchN z = (plc (fun i => decide (6 < z.getD i 0)) z.length).head? := by
  unfold muchN
  rw [lack_plc0 (by rw [List.length_replicate]), List.length_replicate]
  congr 1
  refine plc_congr fun i hi => ?_
  rw [getD_rep hi]
theorem getD_join {x y : List Int} {i : Nat} (h1 : i < x.length) (h2 : i < y.length) : (joinZ x y).getD i 0 = maxI (x.getD i 0) (y.getD i 0) := by
  rw [List.getD_eq_getElem?_getD, List.getElem?_zipWith, List.getElem?_eq_getElem h1, List.getElem?_eq_getElem h2, List.getD_eq_getElem?_getD, List.getD_eq_getElem?_getD, List.getElem?_eq_getElem h1, List.getElem?_eq_getElem h2]
  rfl
theorem at_int {x : List Int} {i : Nat} (h : i < x.length) : atI (x.map V.int) ((i : Nat) : Int) = some (.int (x.getD i 0)) := nat_at h
/-! ### what the law's own keeping tells -/
def Told (H : Hp) (st sl : Addr) (mv cv : V) (s : DS) (Q : VK) (o : Oc) : Prop := ∀ (H' : Hp) (p : Addr), Ke st sl H H' → StAt H' st sl mv cv (o.next s) → H p = none → H' p = some (.lst o.vals) → Q (.ref p) H'
theorem Told.same {H H1 : Hp} {st sl : Addr} {mv cv : V} {s : DS} {Q : VK} {o : Oc} (h : Told H st sl mv cv s Q o) (k : Same H H1) : Told H1 st sl mv cv s Q o := fun H' p ke sa z e => h H' p ((Ke.of k).trans ke) sa (k.free z) e
/-- a list that is told, nothing changed -/
theorem Told.no {H : Hp} {st sl : Addr} {mv cv : V} {s : DS} {Q : VK} {o : Oc} {l : List V} (h : Told H st sl mv cv s Q o) (sa : StAt H st sl mv cv s) (hn : o.next s = s) (hv : o.vals = l) (hl : l.length ≤ 2) : l.length ≤ sizeLine ∧ ∀ p, H p = none → Q (.ref p) (upd H p (.lst l)) := by
  refine ⟨by rw [sizeLine_eq]; omega, fun p hp => h _ p (Ke.of (same_upd hp)) ?_ hp (by rw [hv]; exact upd_same)⟩
  rw [hn]
  exact sa.same (same_upd hp)
def spKept : Sp := fun vs H Q _ => ∃ (st sl t u : Addr) (mv cv : V) (x y : List Int) (s : DS), vs = [.ref st, .ref t, .ref u] ∧ StAt H st sl mv cv s ∧ st ≠ sl ∧ H t = some (.tup (x.map V.int)) ∧ H u = some (.tup (y.map V.int)) ∧ x.length = y.length ∧ x.length ≤ 4 ∧ s.past.length < 500 ∧ Told H st sl mv cv s Q (keptO s x y)
end Lb
namespace Lb
open PySem PySem.Spec PyProof.Rows L2 RZ TL
/-- what borrowing and paying must tell: a row, or None -/
def spBorrowed : Sp := fun vs H Q _ => ∃ (st sl : Addr) (mv rv cv : V) (g : Nat) (ts : List Trd) (row : Option (List Int)) (cap : Option Int) (s : DS), vs = [.ref st, rv] ∧ StAt H st sl mv cv s ∧ st ≠ sl ∧ MkV H mv g ts ∧ RowV H rv row ∧ (∀ z, row = some z → ∀ v ∈ z, 0 ≤ v) ∧ (match cap with | none => cv = .non | some c => cv = .int c) ∧ g ≤ 4 ∧ DsOk g s ∧ s.past.length < 500 ∧ Told H st sl mv cv s Q (borrowO g cap s row)
def spPaid : Sp := fun vs H Q _ => ∃ (st sl : Addr) (mv rv cv : V) (g : Nat) (ts : List Trd) (row : Option (List Int)) (s : DS), vs = [.ref st, rv] ∧ StAt H st sl mv cv s ∧ st ≠ sl ∧ MkV H mv g ts ∧ RowV H rv row ∧ (∀ z, row = some z → ∀ v ∈ z, 0 ≤ v) ∧ g ≤ 4 ∧ DsOk g s ∧ s.past.length < 500 ∧ Told H st sl mv cv s Q (payO g s row)
def spUndone : Sp := fun vs H Q _ => ∃ (st sl : Addr) (mv cv : V) (s : DS), vs = [.ref st] ∧ StAt H st sl mv cv s ∧ st ≠ sl ∧ Told H st sl mv cv s Q (undoO s)
def spTell : Sp := fun vs H Q _ => ∃ (st sl : Addr) (mv cv kv tv : V) (kz tz : Option Int) (back : Bool) (g : Nat) (ts : List Trd) (s : DS), vs = [.ref st, kv, .bl back, tv] ∧ SmV kv kz ∧ SmV tv tz ∧ StAt H st sl mv cv s ∧ st ≠ sl ∧ MkV H mv g ts ∧ MktOk g ts ∧ DsOk g s ∧ s.past.length < 500 ∧ Told H st sl mv cv s Q (tradeO ts s kv tv kz tz back)
end Lb
namespace Lb
open PySem PySem.Spec PyProof.Rows L2 RZ TL
theorem nxt_in {f : L2.St → Hp → Prop} {rt : VK} {b c : L2.St → Hp → Prop} {σ : L2.St} {H : Hp} (h : f σ H) : tNext ⟨f, rt, b, c⟩ σ H := h
end Lb
set_option Elab.async false
set_option linter.all false
set_option maxRecDepth 100000
set_option maxHeartbeats 4000000
namespace Lb
open PySem PySem.Spec PyProof.Rows L2 RZ TL
/-! ### what a call tells, or what it raises -/
abbrev doneC (cs : ErrCs) : Clz := [(cs.trade, "trade", some "value"), (cs.times, "times", some "value"), (cs.lacking, "lacking", some "good"), (cs.owed, "owed", some "good"), (cs.much, "much", some "good"), (cs.bag, "bag", none), (cs.cap, "cap", none), (cs.nothing, "nothing", none)]
structure DoneT (P : Program) (w : World) (K : PySem.W.Frag) (mg : Str → Option Value) (base : Heap) (cs : ErrCs) : Prop where
  t1 : Err1L P w K mg base "NoTrade" "value" cs.trade
  t2 : Err1 P w K mg base "BadTimes" "value" cs.times
  t3 : Err1 P w K mg base "Lacking" "good" cs.lacking
  t4 : Err1 P w K mg base "NotOwed" "good" cs.owed
  t5 : Err1 P w K mg base "TooMuch" "good" cs.much
  t6 : Err0 K mg "BadBag" cs.bag
  t7 : Err0 K mg "OverCap" cs.cap
  t8 : Err0 K mg "NothingToUndo" cs.nothing
/-- what follows a value that is told -/
def okQ (Qd : VK) : VK := fun v H' => [V.str "ok", v].length ≤ sizeLine ∧ ∀ p, H' p = none → Qd (.ref p) (upd H' p (.lst [.str "ok", v]))
section
variable {K : PySem.W.Frag} {C CX : Addr} {cs : ErrCs} {H : Hp} {a dx pl : Addr} {mv : V} {more : List (Str × V)} {Qd : VK} {s : DS} {o : Oc}
theorem clE_v {f w : Str} {C0 : Addr} {v : V} (hc : (C0, w, some f) ∈ doneC cs) (q : ∀ (H' : Hp) (p : Addr), Same H H' → H p = none → H' p = some (.lst [.str w, v]) → Qd (.ref p) H') : ErrV (clE (doneC cs) Qd) C0 H f v := by
  intro H' dd sm nd ed
  refine ⟨_, hc, rfl, dd, v, rfl, ed, fun p hp => q _ p (sm.trans (same_upd hp)) (sm.free hp) upd_same⟩
theorem clE_n {w : Str} {C0 : Addr} (hc : (C0, w, none) ∈ doneC cs) (q : ∀ (H' : Hp) (p : Addr), Same H H' → H p = none → H' p = some (.lst [.str w]) → Qd (.ref p) H') : ErrN (clE (doneC cs) Qd) C0 H := by
  intro H' sm
  exact ⟨_, hc, rfl, fun p hp => q _ p (sm.trans (same_upd hp)) (sm.free hp) upd_same⟩
/-- the desk's answer is told as the law's own keeping tells it -/
theorem meet_done (da : DeskAt K C CX H a dx pl mv more s.x s.y s.past) (q : ∀ (H' : Hp) (p : Addr), Ke a pl H H' → DeskAt K C CX H' a dx pl mv more (o.next s).x (o.next s).y (o.next s).past → p ≠ a → p ≠ pl → H' p = some (.lst o.vals) → Qd (.ref p) H') :
    Meet K C CX cs H a dx pl mv more (okQ Qd) (clE (doneC cs) Qd) o := by
  obtain ⟨b, t, ow, u, vs, ea, hb, ho, ep, hp⟩ := id da.ex
  have err : ∀ {l : List V}, o.next s = s → o.vals = l → ∀ (H' : Hp) (p : Addr), Same H H' → H p = none → H' p = some (.lst l) → Qd (.ref p) H' := by
    intro l hn hv H' p sm z e
    refine q H' p (Ke.of sm) (by rw [hn]; exact da.same sm) (ne_of_none ea z).symm (ne_of_none ep z).symm (by rw [hv]; exact e)
  have done : ∀ {s' : DS} {v : V}, o.next s = s' → o.vals = [.str "ok", v] → ∀ H', Ke a pl H H' → DeskAt K C CX H' a dx pl mv more s'.x s'.y s'.past → okQ Qd v H' := by
    intro s' v hn hv H' ke d'
    refine ⟨(by show 2 ≤ sizeLine; decide), fun p z => ?_⟩
    obtain ⟨b', t', ow', u', vs', ea', hb', ho', ep', hp'⟩ := id d'.ex
    have n1 : p ≠ a := (ne_of_none ea' z).symm
    have n2 : p ≠ pl := (ne_of_none ep' z).symm
    refine q _ p (ke.trans (Ke.of (same_upd z))) (by rw [hn]; exact d'.same (same_upd z)) n1 n2 (by rw [hv]; exact upd_same)
  cases o with
  | trade v => exact clE_v (by simp) (err rfl rfl)
  | times v => exact clE_v (by simp) (err rfl rfl)
  | lacking k => exact clE_v (f := "good") (w := "lacking") (by simp) (err rfl rfl)
  | owed k => exact clE_v (f := "good") (w := "owed") (by simp) (err rfl rfl)
  | much k => exact clE_v (f := "good") (w := "much") (by simp) (err rfl rfl)
  | bag => exact clE_n (w := "bag") (by simp) (err rfl rfl)
  | cap => exact clE_n (w := "cap") (by simp) (err rfl rfl)
  | nothing => exact clE_n (w := "nothing") (by simp) (err rfl rfl)
  | did s' => exact done rfl rfl
  | undid s' => exact done rfl rfl
end
end Lb
namespace Lb
open PySem PySem.Spec PyProof.Rows L2 RZ TL
/-! ### what a desk shows -/
def spShown (K : PySem.W.Frag) (C CX : Addr) : Sp := fun vs H Q _ => ∃ (a dx pl st sl : Addr) (mv cv : V) (more : List (Str × V)) (g : Nat) (ts : List Trd) (s : DS), vs = [.ref a, .ref st] ∧ DskC K CX ∧ DeskAt K C CX H a dx pl mv more s.x s.y s.past ∧ StAt H st sl mv cv s ∧ MkV H mv g ts ∧ MktOk g ts ∧ DsOk g s ∧ s.past.length < 500 ∧ ∀ H', Same H H' → Q (.bl true) H'
abbrev shownD (g : Nat) (ts : List Trd) (s : DS) : PyData := .list [mktD g ts, bagD s.x, bagD s.y, .int (s.past.length : Int), .bool (decide (s.y.sum = 0)), .int (s.past.length : Int)]
theorem mkt_okD {g : Nat} {ts : List Trd} (mok : MktOk g ts) : Ok 200 4 (mktD g ts) := by
  have h1 := trds_ok mok.four mok.all
  have h2 := h1.tuple
  have h3 := (Oks.one ((nat_ok (g := g) (by have := mok.four; omega)).mono (Nat.le_refl _) (Nat.zero_le 3))).append (Oks.one h2)
  exact h3.tuple.mono (by have := mok.many; omega) (Nat.le_refl _)
theorem DsOk.aw {g : Nat} {s : DS} (h : DsOk g s) : AmtsW s.x ∧ AmtsW s.y := ⟨fun v hv => by have := h.ax v hv; omega, fun v hv => by have := h.ay v hv; omega⟩
theorem shown_ok {g : Nat} {ts : List Trd} {s : DS} (mok : MktOk g ts) (ok : DsOk g s) (hp : s.past.length < 500) : Ok 1000 5 (shownD g ts s) := by
  have g4 := mok.four
  have i0 : Ok 32 4 (.int (s.past.length : Int)) := (amt_okW (by omega) (by omega)).mono (Nat.le_refl _) (by omega)
  have b0 : Ok 32 4 (.bool (decide (s.y.sum = 0))) := by cases decide (s.y.sum = 0) <;> exact ⟨by decide +kernel, by decide +kernel, by rw [PyData.depth]; omega⟩
  have x0 := (bag_okW ok.aw.1 (by rw [ok.lx]; exact g4)).mono (Nat.le_refl _) (show 1 ≤ 4 by omega)
  have y0 := (bag_okW ok.aw.2 (by rw [ok.ly]; exact g4)).mono (Nat.le_refl _) (show 1 ≤ 4 by omega)
  have h := ((((((Oks.one (mkt_okD mok)).append (Oks.one x0)).append (Oks.one y0)).append (Oks.one i0)).append (Oks.one b0)).append (Oks.one i0))
  exact h.list.mono (by omega) (by omega)
end Lb
set_option Elab.async false
set_option linter.all false
set_option maxRecDepth 100000
set_option maxHeartbeats 4000000
namespace Lb
open PySem PySem.Spec PyProof.Rows L2 RZ TL
/-- the name of a lambda in the def x -/
abbrev lamQ (x : Str) : Str := (x ++ ".<locals>.") ++ "<lambda>"
/-- the table Pt belongs to the def x alone -/
structure TabFor (TS : List (Addr × Str)) (Pt : Addr) (x : Str) : Prop where
  mem : (Pt, lamQ x) ∈ TS
  one : ∀ p ∈ TS, p.1 = Pt → p.2 = lamQ x
theorem ownG_ofC {P : Program} {w : World} {K : PySem.W.Frag} {mg : Str → Option Value} {base : Heap} {k : Nat} {f c : Addr} {x : Str} {st : Stmt} {N ps : List Str} {sp : Sp} {oc : Value} {od an : Option Addr} {osl : Array (Option Value)} {kV doc pm ct : Value}
    (lk : K.lookup f = some ⟨oc, od, .func (PySem.W.fnOf x x (defArgs st) (defBody st) (defScope st) .none kV doc pm an (.ref c) ct), osl⟩) (hcd : PySem.W.codeIn K (.ref c) x = true) (m : mg x = some (.ref f)) (kp : PySem.W.keepIn K (.ref f) = true) (S : FnScope N ps (defScope st))
    (hb : ∀ (kV doc pm : Value) (an : Option Addr) (cdv ct : Value) (us : List Value), us.length = ps.length → bindArgs (PySem.W.fnOf x x (defArgs st) (defBody st) (defScope st) .none kV doc pm an cdv ct) ⟨us, []⟩ = pure (ps.zip us)) (len : ∀ vs H Q E, sp vs H Q E → vs.length = ps.length)
    (hbody : ∀ (A : Around) (outer : List Env) (s : Shared) (H : Hp) (vs : List V) (Q : VK) (E : XK), (cxOf CX0 P w K mg base N x (defScope st) f (.ref c) A outer s H E).nox.A.guards = some [] → Room k (A.deeper (envOfC x (defScope st) s.heap.objs.size f (.ref c))) → sp vs H Q E →
      ∃ t, PSs (cxOf CX0 P w K mg base N x (defScope st) f (.ref c) A outer s H E).nox (defBody st) t ∧ t { nx := fun _ H' => Q .non H', rt := Q } (start N vs) H) : OwnG P w K mg base x (k + 1) ps sp :=
  ⟨f, _, fnG_ofC lk hcd S len hbody, m, kp, (fun_mk lk hcd kp).binds hb⟩
/-- what a deed leaves -/
inductive DeedR (g : Nat) (ts : List Trd) (cap : Option Int) (s : DS) : DS → Prop
  | trade (kv tv : V) (kz tz : Option Int) (back : Bool) : DeedR g ts cap s ((tradeO ts s kv tv kz tz back).next s)
  | borrow (z : List Int) (h : ∀ v ∈ z, 0 ≤ v) : DeedR g ts cap s ((borrowO g cap s (some z)).next s)
  | pay (z : List Int) (h : ∀ v ∈ z, 0 ≤ v) : DeedR g ts cap s ((payO g s (some z)).next s)
  | undo : DeedR g ts cap s ((undoO s).next s)
/-- one deed: told and shown as it must be -/
def spDeed (K : PySem.W.Frag) (C CX : Addr) (TS : List (Addr × Str)) (cp : Bool) : Sp := fun vs H Q _ => ∃ (L : Lay) (mv cv : V) (cap : Option Int) (more : List (Str × V)) (g : Nat) (ts : List Trd) (n : Nat) (s : DS), vs = [.ref L.d, .ref L.a, .ref L.st] ∧ Wd K C CX H L TS mv cv more g ts n s s ∧ CapOk more cv cap ∧ cap.isSome = cp ∧ MktOk g ts ∧ DsOk g s ∧ s.past.length < 400 ∧ n < 2 ^ 30 ∧
  ∀ (H' : Hp) (s' : DS), Wd K C CX H' L TS mv cv more g ts (n + 20) s' s' → DsOk g s' → s'.past.length ≤ s.past.length + 1 → DeedR g ts cap s s' → Q (.bl true) H'
/-- both lists are told alike -/
theorem two_told {H : Hp} {p p' : Addr} {l : List V} {ds : List PyData} (e : H p = some (.lst l)) (e' : H p' = some (.lst l)) (d : ∀ R : Rgn, Dats R H l ds) : Dat (fun _ => True) H (.ref p) (.list ds) ∧ Dat (fun _ => True) H (.ref p') (.list ds) := ⟨.lst trivial e (d _), .lst trivial e' (d _)⟩
def vD : V → PyData
  | .int i => .int i
  | .bl b => .bool b
  | .str x => .str x
  | _ => .none
def SmallV : V → Prop
  | .int i => 0 ≤ i + 1 ∧ i ≤ 1000
  | .bl _ => True
  | .non => True
  | .str x => x = "trade" ∨ x = "times" ∨ x = "lacking" ∨ x = "owed" ∨ x = "much" ∨ x = "bag" ∨ x = "cap" ∨ x = "nothing" ∨ x = "ok"
  | _ => False
theorem SmallV.dat {R : Rgn} {H : Hp} : ∀ {v : V}, SmallV v → Dat R H v (vD v)
  | .int i, _ => .int i
  | .bl b, _ => .bl b
  | .non, _ => .non
  | .str x, _ => .str x
theorem SmallV.ok {v : V} (h : SmallV v) : Ok 40 0 (vD v) := by
  cases v with
  | int i =>
    by_cases h0 : i = -1
    · subst h0
      exact ⟨by decide +kernel, by decide +kernel, by show PyData.depth _ ≤ 0; rw [show vD (V.int (-1)) = .int (-1) from rfl, PyData.depth]; exact Nat.le_refl _⟩
    · have h1 : 0 ≤ i + 1 := h.1
      have h2 : i ≤ 1000 := h.2
      exact (amt_okW (x := i) (by omega) (by omega)).mono (by omega) (Nat.le_refl _)
  | bl b => cases b <;> exact ⟨by decide +kernel, by decide +kernel, by show PyData.depth (.bool _) ≤ 0; rw [PyData.depth]; exact Nat.le_refl _⟩
  | non => exact ⟨by decide +kernel, by decide +kernel, by show PyData.depth .none ≤ 0; rw [PyData.depth]; exact Nat.le_refl _⟩
  | str x =>
    have e : Ok 40 0 (.str x) := by
      rcases h with rfl | rfl | rfl | rfl | rfl | rfl | rfl | rfl | rfl <;> exact ⟨by decide +kernel, by decide +kernel, by rw [PyData.depth]; exact Nat.le_refl _⟩
    exact e
  | _ => exact h.elim
theorem smalls_dats {R : Rgn} {H : Hp} : ∀ {l : List V}, (∀ v ∈ l, SmallV v) → Dats R H l (l.map vD)
  | [], _ => .nil
  | v :: l, h => .cons (h v List.mem_cons_self).dat (smalls_dats fun u hu => h u (List.mem_cons_of_mem _ hu))
theorem smalls_ok : ∀ {l : List V}, (∀ v ∈ l, SmallV v) → Oks (42 * l.length) 0 (l.map vD)
  | [], _ => ⟨fun d h => absurd h List.not_mem_nil, Nat.zero_le _, fun x hx => absurd hx List.not_mem_nil⟩
  | v :: l, h => by
    have h1 := (Oks.one (h v List.mem_cons_self).ok).append (smalls_ok fun u hu => h u (List.mem_cons_of_mem _ hu))
    refine h1.mono ?_ (Nat.le_refl _)
    rw [List.length_cons]
    omega
end Lb
namespace Lb
open PySem PySem.Spec PyProof.Rows L2 RZ TL
theorem lackN_lt : ∀ {x y : List Int} {k n : Nat}, lackN x y k = some n → n < k + x.length
  | [], _, _, _, h => by cases h
  | a :: x, [], _, _, h => by cases h
  | a :: x, b :: y, k, n, h => by
    rw [lackN_cons] at h
    rw [List.length_cons]
    by_cases hab : a < b
    · rw [if_pos hab] at h
      cases h
      omega
    · rw [if_neg hab] at h
      have := lackN_lt (k := k + 1) h
      omega
def SmallO (o : Oc) : Prop := ∀ v ∈ o.vals, SmallV v
theorem small1 {w : Str} (h : SmallV (.str w)) : ∀ v ∈ [V.str w], SmallV v := fun v hv => by rw [List.mem_singleton.mp hv]; exact h
theorem small2 {w : Str} {u : V} (h : SmallV (.str w)) (k : SmallV u) : ∀ v ∈ [V.str w, u], SmallV v := fun v hv => by
  rcases List.mem_cons.mp hv with rfl | hv
  · exact h
  · rw [List.mem_singleton.mp hv]
    exact k
theorem smallN {k : Nat} (h : k ≤ 1000) : SmallV (.int (k : Int)) := ⟨by omega, by omega⟩
theorem small_kept {s : DS} {x y : List Int} (hx : x.length ≤ 4) (hp : s.past.length < 500) : SmallO (keptO s x y) := by
  unfold keptO SmallO
  cases hm : muchN (joinZ x y) with
  | some k =>
    have h1 := lackN_lt hm
    rw [List.length_replicate, List.length_zipWith] at h1
    exact small2 (by simp [SmallV]) (smallN (by omega))
  | none =>
    refine small2 (by simp [SmallV]) (smallN ?_)
    show (s.past ++ [(s.x, s.y)]).length ≤ 1000
    rw [List.length_append, List.length_singleton]
    omega
theorem small_borrow {g : Nat} {cap : Option Int} {s : DS} {row : Option (List Int)} (hs : DsOk g s) (g4 : g ≤ 4) (hp : s.past.length < 500) : SmallO (borrowO g cap s row) := by
  unfold borrowO
  cases row with
  | none => exact small1 (by simp [SmallV])
  | some z =>
    dsimp only
    by_cases hl : z.length = g
    · rw [if_pos hl]
      have kk : SmallO (keptO s (plusZ s.x z) (plusZ s.y z)) := small_kept (by rw [plus_len hs.lx hl]; exact g4) hp
      cases cap with
      | none => exact kk
      | some c =>
        dsimp only
        by_cases hc : c < s.y.sum + z.sum
        · rw [if_pos hc]
          exact small1 (by simp [SmallV])
        · rw [if_neg hc]
          exact kk
    · rw [if_neg hl]
      exact small1 (by simp [SmallV])
theorem small_pay {g : Nat} {s : DS} {row : Option (List Int)} (hs : DsOk g s) (g4 : g ≤ 4) (hp : s.past.length < 500) : SmallO (payO g s row) := by
  unfold payO
  cases row with
  | none => exact small1 (by simp [SmallV])
  | some z =>
    dsimp only
    by_cases hl : z.length = g
    · rw [if_pos hl]
      cases h1 : lackN s.y z 0 with
      | some k =>
        have := lackN_lt h1
        have := hs.ly
        exact small2 (by simp [SmallV]) (smallN (by omega))
      | none =>
        cases h2 : lackN s.x z 0 with
        | some k =>
          have := lackN_lt h2
          have := hs.lx
          exact small2 (by simp [SmallV]) (smallN (by omega))
        | none => exact small_kept (by rw [less_len hs.lx hl]; exact g4) hp
    · rw [if_neg hl]
      exact small1 (by simp [SmallV])
theorem small_undo {s : DS} : SmallO (undoO s) := by
  unfold undoO
  cases s.past.getLast? with
  | none => exact small1 (by simp [SmallV])
  | some z => exact small2 (by simp [SmallV]) trivial
theorem tradeL_lt {g : Nat} {a b : List Int} (hb : b.length = g) (ha : a.length = g) : ∀ {n k : Nat} {x : List Int}, x.length = g → tradeL n a b x = .inl k → k < g
  | 0, _, _, _, h => by cases h
  | n + 1, k, x, hx, h => by
    rw [tradeL] at h
    cases hk : lackN x a 0 with
    | some j =>
      rw [hk] at h
      cases h
      have := lackN_lt hk
      omega
    | none =>
      rw [hk] at h
      exact tradeL_lt hb ha (plus_len (less_len hx ha) hb) h
theorem tradeL_len {g : Nat} {a b : List Int} (hb : b.length = g) (ha : a.length = g) : ∀ {n : Nat} {x x' : List Int}, x.length = g → tradeL n a b x = .inr x' → x'.length = g
  | 0, _, _, hx, h => by cases h; exact hx
  | n + 1, x, x', hx, h => by
    rw [tradeL] at h
    cases hk : lackN x a 0 with
    | some j =>
      rw [hk] at h
      cases h
    | none =>
      rw [hk] at h
      exact tradeL_len hb ha (plus_len (less_len hx ha) hb) h
theorem small_trade {g : Nat} {ts : List Trd} {s : DS} {kv tv : V} {kz tz : Option Int} {back : Bool} (hs : DsOk g s) (mok : MktOk g ts) (hp : s.past.length < 500) (hk : SmallV kv) (ht : SmallV tv) : SmallO (tradeO ts s kv tv kz tz back) := by
  unfold tradeO
  have g4 := mok.four
  cases e1 : trdAt ts kz with
  | none => exact small2 (by simp [SmallV]) hk
  | some t =>
    dsimp only
    cases e2 : timesOf tz with
    | none => exact small2 (by simp [SmallV]) ht
    | some n =>
      dsimp only
      obtain ⟨s1, s2⟩ := mok.all t (trdAt_mem e1)
      have hl : (if back then t.2 else t.1).length = g ∧ (if back then t.1 else t.2).length = g := by
        cases back
        · exact ⟨s1.len, s2.len⟩
        · exact ⟨s2.len, s1.len⟩
      cases e3 : tradeL n (if back then t.2 else t.1) (if back then t.1 else t.2) s.x with
      | inl k =>
        have := tradeL_lt hl.2 hl.1 hs.lx e3
        exact small2 (by simp [SmallV]) (smallN (by omega))
      | inr x => exact small_kept (by rw [tradeL_len hl.2 hl.1 hs.lx e3]; exact g4) hp
/-- what repr asks of a list that is told -/
theorem told_ok {o : Oc} (h : SmallO o) : Ok 200 1 (.list (o.vals.map vD)) := by
  refine (smalls_ok h).list.mono ?_ (Nat.le_refl _)
  cases o <;> simp [Oc.vals]
end Lb
namespace Lb
open PySem PySem.Spec PyProof.Rows L2 RZ TL
theorem mem_rg {n : Nat} {v : V} (h : v ∈ rgV 0 (n : Int)) : ∃ i : Nat, v = .int (i : Int) ∧ i < n := by
  unfold rgV at h
  obtain ⟨i, hi, rfl⟩ := List.mem_map.mp h
  have := List.mem_range.mp hi
  exact ⟨i, by rw [Int.zero_add], by omega⟩
theorem rg3_len (n : Nat) : ((List.replicate (3 : Int).toNat (rgV 0 (n : Int))).flatten).length = 3 * n := by
  show ((List.replicate 3 (rgV 0 (n : Int))).flatten).length = 3 * n
  simp [rgV_length]
  omega
/-- the values that an index is drawn from -/
theorem draw_k {n : Nat} {v : V} (hn : n ≤ 100) (h : v ∈ (List.replicate (3 : Int).toNat (rgV 0 (n : Int))).flatten ++ [V.int (n : Int), V.int (-1), V.bl true, V.non]) : (∃ z, SmV v z) ∧ SmallV v := by
  rcases List.mem_append.mp h with h | h
  · obtain ⟨l, hl, hv⟩ := List.mem_flatten.mp h
    rw [(List.mem_replicate.mp hl).2] at hv
    obtain ⟨i, rfl, hi⟩ := mem_rg hv
    exact ⟨⟨_, .int _⟩, smallN (by omega)⟩
  · rcases List.mem_cons.mp h with rfl | h
    · exact ⟨⟨_, .int _⟩, smallN (by omega)⟩
    rcases List.mem_cons.mp h with rfl | h
    · exact ⟨⟨_, .int _⟩, ⟨by decide, by decide⟩⟩
    rcases List.mem_cons.mp h with rfl | h
    · exact ⟨⟨_, .bl _⟩, trivial⟩
    · rw [List.mem_singleton.mp h]
      exact ⟨⟨_, .non⟩, trivial⟩
theorem draw_t {v : V} (h : v ∈ [V.int 1, V.int 1, V.int 1, V.int 2, V.int 3, V.int 9, V.int 0, V.int 10, V.bl true]) : (∃ z, SmV v z) ∧ SmallV v := by
  rcases List.mem_cons.mp h with rfl | h
  · exact ⟨⟨_, .int _⟩, ⟨by decide, by decide⟩⟩
  rcases List.mem_cons.mp h with rfl | h
  · exact ⟨⟨_, .int _⟩, ⟨by decide, by decide⟩⟩
  rcases List.mem_cons.mp h with rfl | h
  · exact ⟨⟨_, .int _⟩, ⟨by decide, by decide⟩⟩
  rcases List.mem_cons.mp h with rfl | h
  · exact ⟨⟨_, .int _⟩, ⟨by decide, by decide⟩⟩
  rcases List.mem_cons.mp h with rfl | h
  · exact ⟨⟨_, .int _⟩, ⟨by decide, by decide⟩⟩
  rcases List.mem_cons.mp h with rfl | h
  · exact ⟨⟨_, .int _⟩, ⟨by decide, by decide⟩⟩
  rcases List.mem_cons.mp h with rfl | h
  · exact ⟨⟨_, .int _⟩, ⟨by decide, by decide⟩⟩
  rcases List.mem_cons.mp h with rfl | h
  · exact ⟨⟨_, .int _⟩, ⟨by decide, by decide⟩⟩
  · rw [List.mem_singleton.mp h]
    exact ⟨⟨_, .bl _⟩, trivial⟩
end Lb
namespace Lb
open PySem PySem.Spec PyProof.Rows L2 RZ TL
theorem eq_sameS {x : Str} {H : Hp} {Q : VK} (h : Q (.bl true) H) : rEq (.str x) (.str x) H Q := ⟨rfl, by simpa using h⟩
end Lb
namespace Lb
open PySem PySem.Spec PyProof.Rows L2 RZ TL
/-- no more than the cap is owed, and was owed ahead of any deed that stands -/
def CapS (c : Int) (s : DS) : Prop := s.y.sum ≤ c ∧ ∀ p ∈ s.past, p.2.sum ≤ c
theorem sum_less : ∀ {y z : List Int}, y.length = z.length → (∀ v ∈ z, 0 ≤ v) → (lessZ y z).sum ≤ y.sum
  | [], [], _, _ => Int.le_refl _
  | a :: y, b :: z, hl, hz => by
    have h := sum_less (y := y) (z := z) (by simpa using hl) fun v hv => hz v (List.mem_cons_of_mem _ hv)
    have hb := hz b List.mem_cons_self
    show ((a - b) :: lessZ y z).sum ≤ (a :: y).sum
    rw [List.sum_cons, List.sum_cons]
    omega
theorem kept_cap {c : Int} {s : DS} {x y : List Int} (k : CapS c s) (hy : y.sum ≤ c) : CapS c ((keptO s x y).next s) := by
  unfold keptO
  cases muchN (joinZ x y) with
  | some n => exact k
  | none =>
    refine ⟨hy, fun p hp => ?_⟩
    rcases List.mem_append.mp hp with hp | hp
    · exact k.2 p hp
    · rw [List.mem_singleton.mp hp]
      exact k.1
theorem DeedR.cap {g : Nat} {ts : List Trd} {c : Int} {s s' : DS} (h : DeedR g ts (some c) s s') (ok : DsOk g s) (k : CapS c s) : CapS c s' := by
  cases h with
  | trade kv tv kz tz back =>
    unfold tradeO
    cases trdAt ts kz with
    | none => exact k
    | some t =>
      dsimp only
      cases timesOf tz with
      | none => exact k
      | some n =>
        dsimp only
        cases tradeL n (if back then t.2 else t.1) (if back then t.1 else t.2) s.x with
        | inl j => exact k
        | inr x => exact kept_cap k k.1
  | borrow z hz =>
    unfold borrowO
    dsimp only
    by_cases hl : z.length = g
    · rw [if_pos hl]
      by_cases hc : c < s.y.sum + z.sum
      · rw [if_pos hc]
        exact k
      · rw [if_neg hc]
        refine kept_cap k ?_
        rw [sum_zip (ok.ly.trans hl.symm)]
        omega
    · rw [if_neg hl]
      exact k
  | pay z hz =>
    unfold payO
    dsimp only
    by_cases hl : z.length = g
    · rw [if_pos hl]
      cases lackN s.y z 0 with
      | some j => exact k
      | none =>
        cases lackN s.x z 0 with
        | some j => exact k
        | none =>
          refine kept_cap k ?_
          have := sum_less (ok.ly.trans hl.symm) hz
          have := k.1
          omega
    · rw [if_neg hl]
      exact k
  | undo =>
    unfold undoO
    cases e : s.past.getLast? with
    | none => exact k
    | some z => exact ⟨k.2 z (List.mem_of_getLast? e), fun p hp => k.2 p (List.dropLast_subset _ hp)⟩
end Lb
set_option Elab.async false
set_option linter.all false
set_option maxRecDepth 100000
set_option maxHeartbeats 4000000
namespace Lb
open PySem PySem.Spec PyProof.Rows L2 RZ TL
/-! ### desks of drawn markets -/
section
variable {K : PySem.W.Frag} {C CB CM CT CV CX x dx b t : Addr} {H : Hp} {Qx : Hp → Prop} {E : XK} {mv : V} {g : Nat} {ts : List Trd} {z : List Int}
theorem derr_ok (mok : MktOk g ts) (g3 : g ≤ 3) (t3 : ts.length ≤ 3) : dErr (mktD g ts) = .none := by
  rw [dErr_n (err_ok0 mok), if_neg]
  rw [List.length_map]
  omega
theorem six_none (h : ∀ v ∈ z, 0 ≤ v ∧ v ≤ 6) : muchN z = none := six_much fun v hv => (h v hv).2
/-- what a new desk is -/
theorem desk_new {H1 H2 : Hp} {ow to pl : Addr} {more : List (Str × V)} (nx : H x = none) (ex : H1 x = some (.ins CX dx [])) (s1 : Same H H1) (sm : Same H1 H2) (np : H1 pl = none) (bo : Bg C H2 ow to (List.replicate g 0)) (ep : H2 pl = some (.lst [])) (hb : Bg C H b t z) (ne : C ≠ CX) :
    Same H (upd H2 x (.ins CX dx (dskF mv (.ref b) (.ref ow) pl ++ more))) ∧ H pl = none ∧ pl ≠ x ∧ DeskAt K C CX (upd H2 x (.ins CX dx (dskF mv (.ref b) (.ref ow) pl ++ more))) x dx pl mv more z (List.replicate g 0) [] := by
  have ex' := sm _ _ ex
  obtain ⟨dn, en⟩ := bo.ins
  have n1 : ow ≠ x := fun z => by rw [z, ex'] at en; cases en
  have n2 : to ≠ x := fun z => by have := bo.tup; rw [z, ex'] at this; cases this
  have n3 : pl ≠ x := fun z => by rw [z, ex'] at ep; cases ep
  have s3 := put_same (o' := .ins CX dx (dskF mv (.ref b) (.ref ow) pl ++ more)) nx (s1.trans sm)
  exact ⟨s3, s1.free np, n3, ⟨b, t, ow, to, [], upd_same, hb.same s3, ⟨⟨dn, by rw [upd_ne n1]; exact en⟩, by rw [upd_ne n2]; exact bo.tup⟩, by rw [upd_ne n3]; exact ep, .nil⟩, ne⟩
theorem mk_desk (dc : DskC K CX) (ne : C ≠ CX) (mk : MkV H mv g ts) (mok : MktOk g ts) (g3 : g ≤ 3) (t3 : ts.length ≤ 3) (hb : Bg C H b t z) (hl : z.length = g) (hz : ∀ v ∈ z, 0 ≤ v ∧ v ≤ 6) (nx : H x = none) (ndx : H dx = none)
    (q : ∀ (H' : Hp) (pl : Addr), Same H H' → H pl = none → pl ≠ x → DeskAt K C CX H' x dx pl mv [] z (List.replicate g 0) [] → Qx H') :
    spDInit K C CB CM CT (.ref x :: ([mv, .ref b] ++ [])) (upd (upd H dx (.own x)) x (.ins CX dx [])) (fun v H2 => v = .non ∧ Qx H2) E := by
  have s2 := made_same (CX := CX) nx ndx
  have ex2 : upd (upd H dx (.own x)) x (.ins CX dx []) x = some (.ins CX dx []) := upd_same
  generalize upd (upd H dx (.own x)) x (.ins CX dx []) = H2 at s2 ex2 ⊢
  have de := derr_ok mok g3 t3
  have g1 := mok.one
  refine ⟨x, dx, mv, .ref b, fun _ => True, mktD g ts, CX, rfl, dc, ex2, (mk.dat fun _ _ _ => trivial).same s2, Nat.le_trans (mkt_okD mok).wt (by omega), fun _ _ => trivial, fun hd => absurd de hd, fun _ => ?_⟩
  refine ⟨g, ts.map trdD, rfl, g1, g3, .inl ⟨b, t, z, rfl, hb.same s2, ⟨by omega, by omega, fun v hv => (hz v hv).1⟩, fun hne => absurd hl hne, fun _ => ⟨fun k hk => ?_, fun _ H' ow to pl sm np bo ep => ⟨rfl, ?_⟩⟩⟩⟩
  · rw [six_none hz] at hk
    cases hk
  · obtain ⟨h1, h2, h3, h4⟩ := desk_new (K := K) (mv := mv) (more := []) nx ex2 s2 sm np bo ep hb ne
    have q' := q _ pl h1 h2 h3 h4
    rw [List.append_nil] at q'
    exact q'
theorem mk_cdesk {c : Int} (dc : DskC K CX) (nm : NoAttr K CX "most") (ne : C ≠ CX) (mk : MkV H mv g ts) (mok : MktOk g ts) (g3 : g ≤ 3) (t3 : ts.length ≤ 3) (hb : Bg C H b t z) (hl : z.length = g) (hz : ∀ v ∈ z, 0 ≤ v ∧ v ≤ 6) (hc : 0 ≤ c) (nx : H x = none) (ndx : H dx = none)
    (q : ∀ (H' : Hp) (pl : Addr), Same H H' → H pl = none → pl ≠ x → DeskAt K C CX H' x dx pl mv [(("most" : Str), .int c)] z (List.replicate g 0) [] → Qx H') :
    spCInit K C CB CM CT CV (.ref x :: ([mv, .ref b, .int c] ++ [])) (upd (upd H dx (.own x)) x (.ins CX dx [])) (fun v H2 => v = .non ∧ Qx H2) E := by
  have s2 := made_same (CX := CX) nx ndx
  have ex2 : upd (upd H dx (.own x)) x (.ins CX dx []) x = some (.ins CX dx []) := upd_same
  generalize upd (upd H dx (.own x)) x (.ins CX dx []) = H2 at s2 ex2 ⊢
  have de := derr_ok mok g3 t3
  have g1 := mok.one
  have cb : ∀ H', SameX x H2 H' → capB K H' (.int c) true := fun H' _ => by
    have h := CapV.capB (K := K) (H := H') (CapV.int c)
    rw [show capD (.int c) = true from decide_eq_true hc] at h
    exact h
  refine ⟨x, dx, mv, .ref b, .int c, fun _ => True, mktD g ts, CX, true, rfl, dc, nm, ex2, (mk.dat fun _ _ _ => trivial).same s2, Nat.le_trans (mkt_okD mok).wt (by omega), fun _ _ => trivial, cb, fun hd => absurd de hd, fun _ => ?_⟩
  refine ⟨g, ts.map trdD, rfl, g1, g3, .inl ⟨b, t, z, rfl, hb.same s2, ⟨by omega, by omega, fun v hv => (hz v hv).1⟩, fun hne => absurd hl hne, fun _ => ⟨fun k hk => ?_, fun _ => ⟨(fun z => nomatch z), fun _ H' ow to pl sm np bo ep => ⟨rfl, ?_⟩⟩⟩⟩⟩
  · rw [six_none hz] at hk
    cases hk
  · obtain ⟨h1, h2, h3, h4⟩ := desk_new (K := K) (mv := mv) (more := [(("most" : Str), .int c)]) nx ex2 s2 sm np bo ep hb ne
    exact q _ pl h1 h2 h3 h4
end
/-- what the text has of the two classes of desks -/
structure DkT (K : PySem.W.Frag) (mg : Str → Option Value) (CD CC : Addr) : Prop where
  gD : mg "Desk" = some (.ref CD)
  gC : mg "CappedDesk" = some (.ref CC)
  mD : PySem.W.makesIn K CD = true
  mC : PySem.W.makesIn K CC = true
  kD : PySem.W.keepIn K (.ref CD) = true
  kC : PySem.W.keepIn K (.ref CC) = true
  dD : DskT K CD CD
  dC : DskT K CD CC
  nm : NoAttr K CC "most"
  ne : CD ≠ CC
  s1 : PySem.W.subIn K (.ref CC) (.ref CD) = some true
  s2 : PySem.W.subIn K (.ref CD) (.ref CC) = some false
  n1 : PySem.W.findIn K (.ref CC) "__ne__" = some (some (.builtin "object.__ne__"))
  sc : StdC K CD
end Lb
namespace Lb
open PySem PySem.Spec PyProof.Rows L2 RZ TL
/-- the keeping beside a new desk -/
theorem wd_new {K : PySem.W.Frag} {C CX : Addr} {H4 H5 H6 H7 : Hp} {d cc r x dx pl pz ps st pr : Addr} {n g : Nat} {TS : List (Addr × Str)} {mv cv : V} {more : List (Str × V)} {ts : List Trd} {z : List Int} (dk : Dk H4 d cc r n) (da : DeskAt K C CX H4 x dx pl mv more z (List.replicate g 0) []) (npd : pl ≠ d ∧ pl ≠ r ∧ pl ≠ cc) (tb : LamX.Tabs TS H4) (mk : MkV H4 mv g ts) (er : H4 pr = some (.tup (z.map V.int)))
    (s5 : Same H4 H5) (ez : H5 pz = some (.tup ((List.replicate g (0 : Int)).map V.int))) (zs : H5 ps = none) (h6 : H6 = upd H5 ps (.lst [])) (zt : H6 st = none) (h7 : H7 = upd H6 st (.lst [mv, .ref pr, .ref pz, .ref ps, cv])) :
    Same H4 H7 ∧ Wd K C CX H7 ⟨d, cc, r, x, dx, pl, st, ps⟩ TS mv cv more g ts n ⟨z, List.replicate g 0, []⟩ ⟨z, List.replicate g 0, []⟩ := by
  have s6 : Same H5 H6 := by rw [h6]; exact same_upd zs
  have s7 : Same H6 H7 := by rw [h7]; exact same_upd zt
  have s47 := s5.trans (s6.trans s7)
  have e6 : H6 ps = some (.lst []) := by rw [h6]; exact upd_same
  have e7 : H7 st = some (.lst [mv, .ref pr, .ref pz, .ref ps, cv]) := by rw [h7]; exact upd_same
  obtain ⟨b, t, o, u, vs, ea, hb, ho, ep, hp⟩ := id da.ex
  have d5 := (dk.same s5).nd zs
  have d6 := (dk.same (s5.trans s6)).nd zt
  have n1 : st ≠ ps := (ne_of_none e6 zt).symm
  have n2 : st ≠ pl := (ne_of_none ((s5.trans s6) _ _ ep) zt).symm
  have n3 : ps ≠ pl := (ne_of_none (s5 _ _ ep) zs).symm
  refine ⟨s47, ⟨dk.same s47, da.same s47, ⟨pr, pz, [], e7, s47 _ _ er, (s6.trans s7) _ _ ez, s7 _ _ e6, .nil⟩, tb.ext s47, mk.kc (C := 0) (KC.of s47), ⟨n1, n2, n3, d6.1, d6.2.1, d5.1, d5.2.1, npd.1, npd.2.1, d6.2.2, d5.2.2, npd.2.2⟩⟩⟩
theorem ds_new {g : Nat} {z : List Int} (lz : z.length = g) (hz : ∀ v ∈ z, 0 ≤ v ∧ v ≤ 6) : DsOk g ⟨z, List.replicate g 0, []⟩ := ⟨lz, List.length_replicate .., hz, fun v hv => by rw [(List.mem_replicate.mp hv).2]; exact ⟨by decide, by decide⟩, fun p hp => absurd hp List.not_mem_nil⟩
end Lb
set_option Elab.async false
set_option linter.all false
set_option maxRecDepth 100000
set_option maxHeartbeats 4000000
namespace Lb
open PySem PySem.Spec PyProof.Rows L2 RZ TL
/-! ### return super().m(x), the last row of a method -/
section
variable {X : Cx}
/-- a name is read, nothing changes -/
theorem ld_slot {pins : List (Addr × Obj)} {s : Shared} {σ : L2.St} {H : Hp} {i : Nat} {x : Str} {v : V} {Q : Value → Shared → Prop} {E : Value → Shared → Prop} (I : Inv X pins σ H s) (hN : X.N[i]? = some x) (hv : Vis X.env.scope x) (e : σ[i]? = some (some v)) (q : ∀ u, RelV v u → Q u s) (hcd : (x == ("__classdict__" : Str)) = false := by decide) :
    wpAny (model X.prog X.w) X.A (loadName X.env x) Q E s := by
  obtain ⟨m, hn, hl⟩ := I.loc
  obtain ⟨u, r, l⟩ := hl i x v hN e hv
  rcases l with ⟨hk, hm⟩ | ⟨hk, c, hc, cell⟩
  · exact wpAny_loadName_local I.ok.kind hk hn hm (q u r)
  · rcases hk with hk | hk
    · exact wpAny_loadName_cell I.ok.kind hk hc cell (q u r)
    · exact wpAny_loadName_free I.ok.kind hk hc cell (q u r) hcd
/-- rows of a body, in the body's own activation -/
structure PSsAt (X : Cx) (body ss : List Stmt) (t : TS) : Prop where
  run : ∀ (pins : List (Addr × Obj)) (s : Shared) (σ : L2.St) (H : Hp) (D : Ends), Inv X pins σ H s → t D σ H → _root_.PySem.wpAt (model X.prog X.w) X.A (.func body X.env) (execs ss X.env) (SP X pins D) X.xe s
theorem psat_cons {body rest : List Stmt} {st : Stmt} {t u : TS} (h : PS X st t) (r : PSsAt X body rest u) : PSsAt X body (st :: rest) (tSeq t u) := by
  refine ⟨fun pins s σ H D I z => ks_wpAt_execs_cons (wpAt_of_wpAny (wpAny_mono (h.run pins s σ H _ I z) (fun fl s' o => ?_) fun _ _ e => e))⟩
  match fl, o with
  | .next, ⟨σ', H', I', q⟩ => exact r.run pins s' σ' H' D I' q
  | .brk, o => exact o
  | .cont, o => exact o
  | .ret _, o => exact o
/-- what the text has of such a method, at f, of the class at D; m is found at f2 -/
structure SupF (X : Cx) (f D f2 : Addr) (m me : Str) : Prop where
  ks : X.env.kindOf "super" = some .globalImplicit
  kc : X.env.kindOf "__class__" = some .free
  fu : X.env.func = some f
  fn : ∃ (oc : Value) (od : Option Addr) (fd : FuncData) (osl : Array (Option Value)) (ar : Arg), X.K.lookup f = some ⟨oc, od, .func fd, osl⟩ ∧ (fd.params.posonlyargs ++ fd.params.args).head? = some ar ∧ ar.arg = me
  code : ∃ (cc : Addr) (ccl : Value) (cdd : Option Addr) (ccs : Array (Option Value)) (vs : Array Value) (file : Str) (tf : Tok), X.env.code = .ref cc ∧ X.K.lookup cc = some ⟨ccl, cdd, .fields vs, ccs⟩ ∧ vs[2]? = some (.str file tf) ∧ ((X.prog.main.file : Str) == file) = true
  top : (X.prog.main.scope.names.lookup ("super" : Str)).isSome = false
  mgs : X.mg "super" = none
  cls : ∃ cd, PySem.W.clsIn X.K D = some cd
  sub : PySem.W.mroIn X.K D (.ref D) = some true
  third : PySem.W.nsIn X.K cStatics "thirdparty.any" = some none
  at2 : PySem.W.ks_superIn X.K D D m = some (some (.ref f2))
  ty2 : PySem.W.typeIn X.K (.ref f2) = some (.type "function")
  fn2 : PySem.W.fnIn X.K f2 = true
/-- slots: self at 0, the class at jc, the argument at j -/
def tSup (D : Addr) (jc j : Nat) (sp : Sp) (E : XK) : TS := fun Dd σ H => ∃ (x dx : Addr) (v : V) (fs : List (Str × V)), σ[0]? = some (some (.ref x)) ∧ σ[jc]? = some (some (.ref D)) ∧ σ[j]? = some (some v) ∧ H x = some (.ins D dx fs) ∧ sp [.ref x, v] H Dd.rt E
theorem psat_super {body : List Stmt} {f D f2 : Addr} {m me a : Str} {jc j k : Nat} {fd2 : FuncData} {ps : List Str} {sp : Sp} {E : XK} {p0 p1 pa apos pos rp : Pos} {pl : Sem Bool} (S : SupF X f D f2 m me) (F2 : FnOk X.prog X.w X.K X.mg X.base (L2.CX X.prog X.w) k f2 fd2 ps sp) (hb : Binds X.K fd2 ps []) (hr : Room k X.A) (hx : Passes (L2.CX X.prog X.w) X E)
    (h0 : X.N[0]? = some me) (v0 : Vis X.env.scope me) (hc : X.N[jc]? = some ("__class__" : Str)) (vc : Vis X.env.scope "__class__") (hj : X.N[j]? = some a) (vj : Vis X.env.scope a) (nm : (m == ("__class__" : Str)) = false) (ncs : (me == ("__classdict__" : Str)) = false) (nca : (a == ("__classdict__" : Str)) = false) (nda : (a == ("__debug__" : Str)) = false)
    (hat : eval (.Call (.Attribute (.Call (.Name "super" p0) [] [] p1) m apos) [.Name a pa] [] pos) X.env = attributeBase (.Call (.Name "super" p0) [] [] p1) m X.env (eval (.Call (.Name "super" p0) [] [] p1) X.env) >>= fun ov => standAt apos.atName >>= fun _ => holding [ov] (getMethod ov m pl) >>= fun fx => callWith pos fx.1 fx.2 (backTo pos (starEach [.Name a pa] X.env)) [])
    (hst : starEach [.Name a pa] X.env = (false, eval (.Name a pa) X.env) :: starEach [] X.env) :
    PSsAt X body [.Return (some (.Call (.Attribute (.Call (.Name "super" p0) [] [] p1) m apos) [.Name a pa] [] pos)) rp] (tSup D jc j sp E) := by
  refine ⟨fun pins s σ H Dd I h => ?_⟩
  obtain ⟨x, dx, v, fs, e0, ec, ej, ex, hs⟩ := h
  obtain ⟨oc, od, fd, osl, ar, lf, hp, har⟩ := S.fn
  obtain ⟨cc, ccl, cdd, ccs, vs, file, tf, hco, lc, hvs, hfile⟩ := S.code
  obtain ⟨cd, hcd⟩ := S.cls
  have KX := I.kIn
  obtain ⟨oD, lD, dD⟩ : ∃ oD, s.heap.get? D = some oD ∧ oD.data = .cls cd := by
    unfold PySem.W.clsIn at hcd
    split at hcd
    · rename_i ho
      cases hcd
      exact ⟨_, KX _ _ ho, rfl⟩
    · cases hcd
  obtain ⟨of2, lf2, cf2⟩ : ∃ of2, X.K.lookup f2 = some of2 ∧ of2.cls = .type "function" := by
    have ht : (X.K.lookup f2).map (·.cls) = some (.type "function") := S.ty2
    cases z : X.K.lookup f2 with
    | none =>
      rw [z] at ht
      cases ht
    | some of2 =>
      rw [z] at ht
      exact ⟨of2, rfl, Option.some.inj ht⟩
  have al : PySem.W.alongIn X.K m ((cd.mro.dropWhile (· != .ref D)).drop 1) = some (some (.ref f2)) := by
    have z := S.at2
    unfold PySem.W.ks_superIn at z
    rw [hcd] at z
    exact z
  obtain ⟨mA, O, _, _, _, _⟩ := ins_get I.hok ex
  obtain ⟨oN, esN, epN, oNd, _⟩ := id O.ns
  have inst : PySem.W.InstAt s.heap x (PySem.W.instObj D dx) D (some oN) := ⟨O.obj, rfl, rfl, oNd⟩
  have nxD : x ≠ D := PySem.W.ks_ne KX inst hcd
  obtain ⟨mb, hb1, hb2⟩ := I.mod.blt
  refine ks_wpAt_execs_cons (ks_wpAt_Return_some ?_)
  refine ks_wpAt_MethodCall (pl := pl) (ks_wpAt_super_base S.ks S.kc nm S.fu (KX _ _ lf) rfl hp hco (KX _ _ lc) rfl hvs hfile S.top ?_) hat
  refine PySem.W.ks_loadName_global I.ok.kind S.ks (Calls.loadGlobal_builtin (by rw [I.ok.glob]; exact I.mod.glob.keeps I.bk) S.mgs (by rw [I.ok.blt]; exact hb1.keeps I.bk) ((hb2 "super" (by decide)).trans (by first | rfl | decide +kernel)) ⟨rfl, ?_⟩)
  refine ld_slot I hc vc ec (fun u ru => ?_)
  obtain rfl : u = Value.ref D := ru
  rw [har]
  refine ld_slot I h0 v0 e0 (fun u ru => ?_) ncs
  obtain rfl : u = Value.ref x := ru
  refine ks_wpAny_isType_cls lD dD ⟨rfl, ?_⟩
  obtain ⟨hp0, gs, dr, tk, os⟩ := s
  refine ks_wpAny_call_super lD dD O.obj rfl (fun c z => nomatch z) (PySem.W.looks_mroIn KX S.sub) (fun h1 eso kp1 => ?_)
  have I1 : Inv X pins σ H ⟨h1, gs, dr, tk, os⟩ := I.kept (t' := tk) kp1
  refine ks_wpAny_getMethod_super eso (PySem.W.looks_opaque I1.kIn S.third) (l₀ := cd.mro) (fun A Q E s k q => wpAny_bind ((PySem.W.looks_clsIn I1.kIn hcd) A _ E s k (wpAny_pure q))) rfl I1.kIn al (I1.kIn _ _ lf2) cf2 nxD nm ?_
  have kp2 : ∀ b u, h1.get? b = some u → (h1.push { cls := .type "method", data := .fields #[.ref f2, .ref x] }).get? b = some u := fun b u z => Heap.get?_push_of_some _ z
  have I2 : Inv X pins σ H ⟨h1.push { cls := .type "method", data := .fields #[.ref f2, .ref x] }, gs, dr, tk + 1, os⟩ := I1.kept (t' := tk + 1) kp2
  have em : (h1.push { cls := .type "method", data := .fields #[.ref f2, .ref x] }).get? h1.objs.size = some (PySem.W.methodObj (.ref f2) (.ref x)) := Heap.get?_push_at rfl rfl
  generalize h1.push { cls := .type "method", data := .fields #[.ref f2, .ref x] } = h2 at I2 em ⊢
  generalize h1.objs.size = q at em ⊢
  show wpAny _ _ (callWith pos (.ref q) [] (backTo pos (starEach [.Name a pa] X.env)) []) _ _ _
  rw [hst]
  refine PySem.W.callWith_of (P := fun h => PySem.W.MethP X.K q f2 (.ref x) h) rfl (fun h z => PySem.W.keeps_M S.fn2 h z) (Calls.evalArgs_plain ?_)
  refine Calls.spliced_cons (wpAny_Name (ld_slot I2 hj vj ej (fun u ru => ?_) nca) nda)
  refine Calls.spliced_nil ⟨⟨em, I2.kIn⟩, ?_⟩
  show wpAny _ _ (call (.ref q) [u]) _ _ _
  have r2 : Vals [V.ref x, v] [Value.ref x, u] := .cons rfl (.cons ru .nil)
  have hl : ([Value.ref x, u] ++ []).length = ps.length := F2.len _ _ _ _ hs
  refine wpAny_call (ks_codeAny_call_bound em (codeAny_mono (F2.run X.A X.stack _ H ⟨[.ref x, u], []⟩ [.ref x, u] [.ref x, v] _ _ hr I2.env0 (hb _ [.ref x, u] I2.kIn hl) r2 hs) fun r s' hq => ?_))
  cases r with
  | error er => exact hx pins σ H _ er s' I2 hq
  | ok fl =>
    cases fl with
    | ret w =>
      obtain ⟨v', H', J, rv, q'⟩ := I2.after hq
      exact ⟨v', σ, H', J, rv, q'⟩
    | next => exact hq.elim
    | brk => exact hq.elim
    | cont => exact hq.elim
end
/-- a method that says super(): its def, its class's cell -/
structure DfS (K : PySem.W.Frag) (C : Addr) (m qual : Str) (st : Stmt) (f c cc : Addr) : Prop where
  lk : ∃ (oc : Value) (od : Option Addr) (kV doc pm ct : Value) (an : Option Addr) (osl : Array (Option Value)), K.lookup f = some ⟨oc, od, .func (PySem.W.fnX m qual (defArgs st) (defBody st) (defScope st) [("__class__", cc)] .none kV doc pm an (.ref c) ct), osl⟩
  code : PySem.W.codeIn K (.ref c) qual = true
  meth : Meth K C m f
  cell : ∃ (cl : Value) (cld : Option Addr) (csl : Array (Option Value)), K.lookup cc = some ⟨cl, cld, .cell (some (.ref C)), csl⟩
abbrev nfS (m qual : Str) (st : Stmt) (c cc : Addr) : NdefX.NF := ⟨m, qual, defArgs st, defBody st, defScope st, [("__class__", cc)], c⟩
theorem ownMS_of {P : Program} {w : World} {K : PySem.W.Frag} {mg : Str → Option Value} {base : Heap} {C f c cc : Addr} {m qual : Str} {st : Stmt} {N ps : List Str} {k : Nat} {sp : Sp} (D : DfS K C m qual st f c cc) (S : NdefX.NScope N ps ["__class__"] (defScope st))
    (hb : ∀ (kV doc pm : Value) (an : Option Addr) (cdv ct : Value) (us : List Value), us.length = ps.length → bindArgs (PySem.W.fnX m qual (defArgs st) (defBody st) (defScope st) [("__class__", cc)] .none kV doc pm an cdv ct) ⟨us, []⟩ = pure (ps.zip us))
    (len : ∀ vs H Q E, sp vs H Q E → vs.length = ps.length)
    (hbody : ∀ (A : Around) (outer : List Env) (s : Shared) (H : Hp) (vs : List V) (Q : VK) (E : XK), Room k (A.deeper (NdefX.envF (nfS m qual st c cc) f s.heap.objs.size)) → sp vs H Q E →
      ∃ t, PSsAt (NdefX.ncx (L2.CX P w) P w K mg base N (nfS m qual st c cc) f A outer s H E) (defBody st) (defBody st) t ∧ t { nx := fun _ H' => Q .non H', rt := Q } (NdefX.startF N vs [some (.ref C)]) H) : OwnM P w K mg base C m (k + 1) ps sp := by
  obtain ⟨oc, od, kV, doc, pm, ct, an, osl, lk⟩ := D.lk
  obtain ⟨cl0, cld, csl, lcc⟩ := D.cell
  refine ⟨f, _, D.meth, ⟨len, fun A outer s H args us vs Q E hr e0 hbt r hsp => ?_⟩, .all fun us hl => hb kV doc pm an (.ref c) ct us hl⟩
  have hl := len _ _ _ _ hsp
  have kin : K.In s.heap := e0.mod.kin.keeps fun b o z => (e0.bs b o z).1
  have lim : s.heap.NoLimit := e0.mod.nolimit.keeps fun b o z => (e0.bs b o z).1
  have cells : NdefX.CellsAt [(("__class__" : Str), cc)] ["__class__"] [some (.ref C)] s.heap H := by
    have one : ∀ {y : Str} {a : Addr}, List.lookup y [(("__class__" : Str), cc)] = some a → y = "__class__" ∧ a = cc := fun {y a} z => by
      have hm := PySem.mem_of_lookup z
      rcases List.mem_singleton.mp hm with e
      exact ⟨congrArg Prod.fst e, congrArg Prod.snd e⟩
    have ic : s.heap.IsCell cc (some (.ref C)) := ⟨_, kin _ _ lcc, rfl⟩
    refine ⟨rfl, fun y a z => ?_, fun x y a z1 z2 => (one z1).1.trans (one z2).1.symm, fun i y z => ?_⟩
    · rw [(one z).2]
      exact ⟨(e0.bs cc _ (e0.mod.kin _ _ lcc)).2, _, ic⟩
    · match i, z with
      | 0, z =>
        cases z
        refine ⟨cc, by simp, fun v hv => ?_⟩
        cases hv
        exact ⟨.ref C, rfl, ic⟩
  refine ks_codeAny_call_defAt hr.depth (kin _ _ lk) rfl lim (PySem.W.codeRec_of kin D.code) rfl hbt S.nocell (fun y hy => S.par y.1 (List.of_mem_zip hy).1) (fun h0 hns kp => ?_) S.co S.gen S.kind
  show _root_.PySem.wpAt _ (A.deeper (NdefX.envF (nfS m qual st c cc) f s.heap.objs.size)) (.func (defBody st) (NdefX.envF (nfS m qual st c cc) f s.heap.objs.size)) (execs (defBody st) (NdefX.envF (nfS m qual st c cc) f s.heap.objs.size)) _ _ _
  obtain ⟨t, ht, hq⟩ := hbody A outer s H vs Q E (hr.deeper _) hsp
  have I : Inv (NdefX.ncx (L2.CX P w) P w K mg base N (nfS m qual st c cc) f A outer s H E) [] (NdefX.startF N vs [some (.ref C)]) H { s with heap := h0, toks := s.toks + (ps.zip us).length } := NdefX.inv_startN S hr.hd e0 hl r cells hns kp
  refine ks_wpAt_mono (ht.run [] _ _ H _ I hq) (fun fl s' hs => ?_) fun e s' hs => hs
  match fl, hs with
  | .ret u, ⟨v, σ', H', J, rv, q⟩ => exact ⟨v, H', J.os, J.bare, J.base, J.hok, rv, q⟩
  | .next, ⟨σ', H', J, q⟩ => exact ⟨.non, H', J.os, J.bare, J.base, J.hok, rfl, q⟩
  | .brk, ⟨_, _, _, q⟩ => exact q.elim
  | .cont, ⟨_, _, _, q⟩ => exact q.elim
end Lb
set_option Elab.async false
set_option linter.all false
set_option maxRecDepth 100000
set_option maxHeartbeats 4000000
namespace Lb
open PySem PySem.Spec PyProof.Rows L2 RZ TL
/-! ### x op= y of an own class -/
def rInpO (C : Addr) (sp : Sp) (E : XK) : V → V → Hp → VK → Prop := fun x y H Q => ∃ a dx fs, x = .ref a ∧ H a = some (.ins C dx fs) ∧ sp [x, y] H Q E
theorem op_inpM {X : Cx} {C : Addr} {k : Nat} {ps : List Str} {sp : Sp} {E : XK} {op : Operator} (O : OwnM X.prog X.w X.K X.mg X.base C (dunderI op.info.2) k ps sp) (hc : PySem.W.selfFirst X.K C = true) (hr : Room k X.A) (hx : Passes (L2.CX X.prog X.w) X E) : PIp X op (rInpO C sp E) := by
  obtain ⟨g, M, F⟩ := O.fnR
  intro pins s σ H x y v u Q I rx ry h
  obtain ⟨a, dx, fs, rfl, ha, q⟩ := h
  cases (show v = Value.ref a from rx)
  obtain ⟨od, J⟩ := ins_inst I ha
  obtain ⟨m, hF⟩ := I.fr
  refine PySem.W.ksp_inplace hF I.ok.mod.kin J hc M.at_ M.fn ?_
  refine wpAny_mono (wpAny_call (run_fnR (us := [.ref a, u]) (vs := [.ref a, y]) F hr hx I (.cons rfl (.cons ry .nil)) q)) (fun w s' z => ?_) fun _ _ x => x
  obtain ⟨z', H', I', rz, qz⟩ := z
  exact SlX.cmpback rz ⟨z', H', I', rz, qz⟩
theorem Meet.mono {K : PySem.W.Frag} {C CX : Addr} {cs : ErrCs} {H : Hp} {a dx pl : Addr} {mv : V} {more : List (Str × V)} {Q Q' : VK} {E : XK} {o : Oc} (i : ∀ (v : V) (H' : Hp) (s : DS), Ke a pl H H' → DeskAt K C CX H' a dx pl mv more s.x s.y s.past → (o = .did s ∨ o = .undid s) → Q v H' → Q' v H') (h : Meet K C CX cs H a dx pl mv more Q E o) : Meet K C CX cs H a dx pl mv more Q' E o := by
  cases o with
  | did s => exact fun H' k d => i _ _ s k d (.inl rfl) (h H' k d)
  | undid s => exact fun H' k d => i _ _ s k d (.inr rfl) (h H' k d)
  | _ => exact h
/-- desk += bag, desk -= bag -/
def spIadd (K : PySem.W.Frag) (C CX : Addr) (cs : ErrCs) (cp : Bool) : Sp := fun vs H Q E => ∃ a v, vs = [.ref a, v] ∧ spBorrowO K C CX cs cp vs H (fun _ H' => Q (.ref a) H') E
def spIsub (K : PySem.W.Frag) (C CX : Addr) (cs : ErrCs) : Sp := fun vs H Q E => ∃ a v, vs = [.ref a, v] ∧ spPayO K C CX cs vs H (fun _ H' => Q (.ref a) H') E
end Lb
namespace Lb
open PySem PySem.Spec PyProof.Rows L2 RZ TL
/-- held += value or held -= value, then held == desk -/
def spSigned (K : PySem.W.Frag) (C CX : Addr) (cs : ErrCs) (cp : Bool) : Sp := fun vs H Q E => ∃ (a dx pl : Addr) (v mv cv : V) (cap : Option Int) (more : List (Str × V)) (g : Nat) (ts : List Trd) (s : DS) (b : Bool), vs = [.ref a, v, .bl b] ∧ DskC K CX ∧ DeskAt K C CX H a dx pl mv more s.x s.y s.past ∧ CapOk more cv cap ∧ cap.isSome = cp ∧ MkV H mv g ts ∧ MktOk g ts ∧ DsOk g s ∧ s.past.length < 500 ∧
  Opd K C H v (fun _ _ z => Meet K C CX cs H a dx pl mv more (fun _ H' => ∀ H'', Same H' H'' → Q (.bl true) H'') E (if b then borrowO g cap s (some z) else payO g s (some z))) (ErrN E cs.bag H)
/-- what no desk takes -/
def BadV (K : PySem.W.Frag) (C : Addr) (H : Hp) (g : Nat) (v : V) : Prop := (∃ b t z, v = .ref b ∧ Bg C H b t z ∧ BgOk z ∧ z.length ≠ g) ∨ TyS K H v
def spBad (K : PySem.W.Frag) (C CX : Addr) (cs : ErrCs) (cp : Bool) : Sp := fun vs H Q E => ∃ (a dx pl : Addr) (v mv cv : V) (cap : Option Int) (more : List (Str × V)) (g : Nat) (ts : List Trd) (s : DS), vs = [.ref a, v] ∧ DskC K CX ∧ DeskAt K C CX H a dx pl mv more s.x s.y s.past ∧ CapOk more cv cap ∧ cap.isSome = cp ∧ MkV H mv g ts ∧ MktOk g ts ∧ DsOk g s ∧ s.past.length < 500 ∧ BadV K C H g v ∧ ErrN E cs.bag H
/-- _law_asked with such a value -/
def spAsked (K : PySem.W.Frag) (C CX : Addr) (cs : ErrCs) (cp : Bool) : Sp := fun vs H Q E => ∃ (a : Addr) (v : V) (k : Int), vs = [.ref a, v, .int k] ∧ spBad K C CX cs cp [.ref a, v] H Q E
end Lb
namespace Lb
open PySem PySem.Spec PyProof.Rows L2 RZ TL
theorem nxE {f : L2.St → Hp → Prop} {rt : VK} {b c : L2.St → Hp → Prop} {σ : L2.St} {H : Hp} (h : f σ H) : Ends.nx ⟨f, rt, b, c⟩ σ H := h
/-- one of two readings -/
theorem pe_or2 {X : Cx} {e : Expr} {t u : TE} (h : PE X e t) (k : PE X e u) : PE X e (fun σ H Q => t σ H Q ∨ u σ H Q) := ⟨fun pins s σ H Q I z => z.elim (h.run pins s σ H Q I) (k.run pins s σ H Q I)⟩
end Lb
set_option Elab.async false
set_option linter.all false
set_option maxRecDepth 100000
set_option maxHeartbeats 4000000
namespace Lb
open PySem PySem.Spec PyProof.Rows L2 RZ TL
/-! ### desks of either class -/
/-- CX is one of the two classes -/
abbrev IsX (CX CD CC : Addr) (cp cpD cpC : Bool) : Prop := (CX = CD ∧ cp = cpD) ∨ (CX = CC ∧ cp = cpC)
theorem orX {CX CD CC : Addr} {cp cpD cpC : Bool} {tf : Addr → Bool → TE} {σ : L2.St} {H : Hp} {Q : VK} (hx : IsX CX CD CC cp cpD cpC) (h : tf CX cp σ H Q) : tf CD cpD σ H Q ∨ tf CC cpC σ H Q := by
  rcases hx with ⟨rfl, rfl⟩ | ⟨rfl, rfl⟩
  · exact .inl h
  · exact .inr h
/-- a desk of either class and its state -/
def spBegunB (K : PySem.W.Frag) (C CD CC : Addr) (cpD cpC : Bool) (TS : List (Addr × Str)) : Sp := fun vs H Q _ => ∃ (d cc r : Addr) (n : Nat) (b : Bool), vs = [.ref d, .bl b] ∧ Dk H d cc r n ∧ n < 2 ^ 30 ∧ LamX.Tabs TS H ∧
  ∀ (CX : Addr) (cp : Bool), IsX CX CD CC cp cpD cpC → ∀ (H' : Hp) (L : Lay) (mv cv : V) (cap : Option Int) (more : List (Str × V)) (g : Nat) (ts : List Trd) (s : DS) (p : Addr), L.d = d → L.cc = cc → L.r = r → Wd K C CX H' L TS mv cv more g ts (n + 110) s s → CapOk more cv cap → cap.isSome = cp → (∀ c, cap = some c → 0 ≤ c ∧ c ≤ 9) → g ≤ 3 → MktOk g ts → DsOk g s → s.past = [] ∧ s.y = List.replicate g 0 → H' p = some (.tup [.ref L.a, .ref L.st]) → Q (.ref p) H'
/-- what a sign tells -/
def sgVals : Oc → List V
  | .did _ => [.str "ok", .bl true]
  | o => o.vals
section
variable {K : PySem.W.Frag} {C CX : Addr} {cs : ErrCs} {H : Hp} {a dx pl : Addr} {mv : V} {more : List (Str × V)} {Qd : VK} {s : DS} {o : Oc}
theorem meet_signed (hu : ∀ s', o ≠ .undid s') (da : DeskAt K C CX H a dx pl mv more s.x s.y s.past) (q : ∀ (H' : Hp) (p : Addr), Ke a pl H H' → DeskAt K C CX H' a dx pl mv more (o.next s).x (o.next s).y (o.next s).past → p ≠ a → p ≠ pl → H' p = some (.lst (sgVals o)) → Qd (.ref p) H') :
    Meet K C CX cs H a dx pl mv more (fun _ H' => ∀ H'', Same H' H'' → okQ Qd (.bl true) H'') (clE (doneC cs) Qd) o := by
  obtain ⟨b, t, ow, u, vs, ea, hb, ho, ep, hp⟩ := id da.ex
  have err : ∀ {l : List V}, o.next s = s → sgVals o = l → ∀ (H' : Hp) (p : Addr), Same H H' → H p = none → H' p = some (.lst l) → Qd (.ref p) H' := by
    intro l hn hv H' p sm z e
    refine q H' p (Ke.of sm) (by rw [hn]; exact da.same sm) (ne_of_none ea z).symm (ne_of_none ep z).symm (by rw [hv]; exact e)
  have done : ∀ {s' : DS}, o.next s = s' → sgVals o = [.str "ok", .bl true] → ∀ H', Ke a pl H H' → DeskAt K C CX H' a dx pl mv more s'.x s'.y s'.past → ∀ H'', Same H' H'' → okQ Qd (.bl true) H'' := by
    intro s' hn hv H1 ke1 d1 H' sm
    have ke := ke1.trans (Ke.of sm)
    have d' := d1.same sm
    refine ⟨(by show 2 ≤ sizeLine; decide), fun p z => ?_⟩
    obtain ⟨b', t', ow', u', vs', ea', hb', ho', ep', hp'⟩ := id d'.ex
    have n1 : p ≠ a := (ne_of_none ea' z).symm
    have n2 : p ≠ pl := (ne_of_none ep' z).symm
    refine q _ p (ke.trans (Ke.of (same_upd z))) (by rw [hn]; exact d'.same (same_upd z)) n1 n2 (by rw [hv]; exact upd_same)
  cases o with
  | trade v => exact clE_v (by simp) (err rfl rfl)
  | times v => exact clE_v (by simp) (err rfl rfl)
  | lacking k => exact clE_v (f := "good") (w := "lacking") (by simp) (err rfl rfl)
  | owed k => exact clE_v (f := "good") (w := "owed") (by simp) (err rfl rfl)
  | much k => exact clE_v (f := "good") (w := "much") (by simp) (err rfl rfl)
  | bag => exact clE_n (w := "bag") (by simp) (err rfl rfl)
  | cap => exact clE_n (w := "cap") (by simp) (err rfl rfl)
  | nothing => exact clE_n (w := "nothing") (by simp) (err rfl rfl)
  | did s' => exact done rfl rfl
  | undid s' => exact absurd rfl (hu s')
end
theorem kept_nu {s : DS} {x y : List Int} (s' : DS) : keptO s x y ≠ .undid s' := by
  unfold keptO
  cases muchN (joinZ x y) <;> exact fun z => nomatch z
theorem borrow_nu {g : Nat} {cap : Option Int} {s : DS} {row : Option (List Int)} (s' : DS) : borrowO g cap s row ≠ .undid s' := by
  unfold borrowO
  cases row with
  | none => exact fun z => nomatch z
  | some z =>
    dsimp only
    split
    · cases cap with
      | none => exact kept_nu s'
      | some c =>
        dsimp only
        split
        · exact fun z => nomatch z
        · exact kept_nu s'
    · exact fun z => nomatch z
theorem pay_nu {g : Nat} {s : DS} {row : Option (List Int)} (s' : DS) : payO g s row ≠ .undid s' := by
  unfold payO
  cases row with
  | none => exact fun z => nomatch z
  | some z =>
    dsimp only
    split
    · cases lackN s.y z 0 with
      | some k => exact fun z => nomatch z
      | none =>
        cases lackN s.x z 0 with
        | some k => exact fun z => nomatch z
        | none => exact kept_nu s'
    · exact fun z => nomatch z
/-- the first word of what is told, and what the law expects of a sign -/
theorem sg_due {o : Oc} (hu : ∀ s', o ≠ .undid s') : ∃ (w : Str) (r : List V), o.vals = .str w :: r ∧ ((w = "ok" ∧ sgVals o = [.str "ok", .bl true]) ∨ (w ≠ "ok" ∧ sgVals o = o.vals)) := by
  cases o with
  | did s => exact ⟨_, _, rfl, .inl ⟨rfl, rfl⟩⟩
  | undid s => exact absurd rfl (hu s)
  | _ => exact ⟨_, _, rfl, .inr ⟨by decide, rfl⟩⟩
theorem small_sg {o : Oc} (h : SmallO o) : ∀ v ∈ sgVals o, SmallV v := by
  cases o with
  | did s => exact small2 (by simp [SmallV]) trivial
  | _ => exact h
theorem sg_ok {o : Oc} (h : SmallO o) : Ok 200 1 (.list ((sgVals o).map vD)) := by
  refine (smalls_ok (small_sg h)).list.mono ?_ (Nat.le_refl _)
  cases o <;> simp [Oc.vals, sgVals]
theorem Refd.bad {K : PySem.W.Frag} {C : Addr} {H : Hp} {g : Nat} {x : List Int} {v : V} (h : Refd K C H x v) (hl : x.length = g) : BadV K C H g v := by
  rcases h with ⟨b, s, z, rfl, hb, ok, ne⟩ | h
  · exact .inl ⟨b, s, z, rfl, hb, ok, by rw [← hl]; exact ne⟩
  · exact .inr h
/-- ["bag"] is ["bag"] -/
theorem bag_same {K : PySem.W.Frag} {H : Hp} {p q : Addr} {Q : VK} (e : H p = some (.lst [V.str "bag"])) (e' : H q = some (.lst [V.str "bag"])) (h : Q (.bl false) H) : rNeD K (.ref p) (.ref q) H Q := by
  refine ⟨.list [.str "bag"], .list [.str "bag"], .lst (SqL.of e) (.cons (.str _) .nil), .lst (SqL.of e') (.cons (.str _) .nil), by decide +kernel, by decide +kernel, ?_⟩
  have h1 : (!PyData.eqv (.list [.str "bag"]) (.list [.str "bag"])) = false := by decide +kernel
  rw [h1]
  exact h
/-- `Bag(row + (0,))` -/
theorem rd_more0 {K : PySem.W.Frag} {C CB : Addr} {E : XK} {σ : L2.St} {H : Hp} {Q : VK} {i : Nat} {p : Addr} {b : List Int} (hi : σ[i]? = some (some (.ref p))) (e : H p = some (.tup (b.map V.int))) (hg : b.length < 4) (ok : BgOk b)
    (q : ∀ (H' : Hp) (a t : Addr), Same H H' → Bg C H' a t (b ++ [0]) → BgOk (b ++ [0]) → Q (.ref a) H') :
    tBag K C CB E (tCons (tOp (rCatA K) (tVar i) (tTup (tCons (tC (V.int 0)) tNil))) tNil) σ H Q := by
  have ok1 := ok.one
  refine ⟨_, hi, (by show 1 ≤ sizeLine; decide), fun p1 z1 => ?_⟩
  have s1 := same_upd (o := .tup [V.int 0]) z1
  refine rd_cat (R := fun _ => True) trivial trivial (s1 _ _ e) upd_same (by rw [List.length_map]; show b.length + 1 ≤ 1000000; omega) (fun _ _ => trivial) fun H2 p2 s2 _ e2 => ?_
  have zok : BgOk (b ++ [0]) := by
    refine ⟨by rw [List.length_append]; omega, by rw [List.length_append, List.length_singleton]; omega, fun x hx => ?_⟩
    rcases List.mem_append.mp hx with hx | hx
    · exact ok.nn x hx
    · rw [List.mem_singleton.mp hx]
      omega
  have no : ¬ mkB (bagD (b ++ [0])) = false := by rw [mkB_ok zok]; exact fun h => nomatch h
  have e2' : H2 p2 = some (.tup ((b ++ [0]).map V.int)) := by rw [List.map_append]; exact e2
  refine ⟨_, rfl, .inl ⟨fun _ => True, _, Dat.mkBag trivial e2', by rw [List.length_map]; have := zok.four; omega, fun _ H' x dx s3 f3 ex => ?_, fun hm => absurd hm no⟩⟩
  exact q H' x p2 ((s1.trans s2).trans s3) ⟨⟨dx, ex⟩, s3 _ _ e2'⟩ zok
end Lb
namespace Lb
open PySem PySem.Spec PyProof.Rows L2 RZ TL
/-- what is due: borrowed or paid -/
theorem rd_due {σ : L2.St} {H : Hp} {Q : VK} {i j l : Nat} {st sl pr : Addr} {mv cv : V} {g : Nat} {ts : List Trd} {cap : Option Int} {more : List (Str × V)} {s : DS} {z : List Int} {b : Bool} (h4 : σ[i]? = some (some (.ref st))) (h7 : σ[j]? = some (some (.ref pr))) (h9 : σ[l]? = some (some (.bl b)))
    (sa : StAt H st sl mv cv s) (ne : st ≠ sl) (mk : MkV H mv g ts) (er : H pr = some (.tup (z.map V.int))) (lz : z.length = g) (nz : ∀ v ∈ z, 0 ≤ v) (co : CapOk more cv cap) (g4 : g ≤ 4) (ok : DsOk g s) (hp : s.past.length < 500)
    (q : Told H st sl mv cv s Q (if b then borrowO g cap s (some z) else payO g s (some z))) :
    tIf (tTest (tVar l)) (tCall spBorrowed [] E0 (tCons (tVar i) (tCons (tVar j) tNil))) (tCall spPaid [] E0 (tCons (tVar i) (tCons (tVar j) tNil))) σ H Q := by
  cases b with
  | true => exact ⟨_, h9, true, rfl, iteT ⟨_, h4, _, h7, st, sl, mv, .ref pr, cv, g, ts, some z, cap, s, rfl, sa, ne, mk, ⟨pr, rfl, er, by omega⟩, (fun w hw => by cases hw; exact nz), (by cases cap <;> exact co.2), g4, ok, hp, q⟩⟩
  | false => exact ⟨_, h9, false, rfl, iteF ⟨_, h4, _, h7, st, sl, mv, .ref pr, cv, g, ts, some z, s, rfl, sa, ne, mk, ⟨pr, rfl, er, by omega⟩, (fun w hw => by cases hw; exact nz), g4, ok, hp, q⟩⟩
end Lb
set_option Elab.async false
set_option linter.all false
set_option maxRecDepth 100000
set_option maxHeartbeats 8000000
namespace Lb
open PySem PySem.Spec PyProof.Rows L2 RZ TL
def topS (i : Nat) : Stmt := PySem.Challenge.pw_lentbeside_k37_bags_that_no_desk_takes.main.body.getD i (.Pass ⟨0, 0, 0, 0⟩)
abbrev s_BadMarket___init__ : Stmt := inClass (topS 3) 0
abbrev s_BadTimes___init__ : Stmt := inClass (topS 5) 0
abbrev s_Lacking___init__ : Stmt := inClass (topS 6) 0
abbrev s_NotOwed___init__ : Stmt := inClass (topS 7) 0
abbrev s_TooMuch___init__ : Stmt := inClass (topS 8) 0
abbrev s_NoTrade___init__ : Stmt := inClass (topS 11) 0
abbrev s_is_whole : Stmt := topS 20
abbrev s_is_bag : Stmt := topS 21
abbrev s_is_pair : Stmt := topS 22
abbrev s_trade_fault : Stmt := topS 23
abbrev s_market_error : Stmt := topS 24
abbrev s_joined : Stmt := topS 38
abbrev s_first_lacking : Stmt := topS 40
abbrev s_Bag___init__ : Stmt := inClass (topS 41) 1
abbrev s_Bag_amounts : Stmt := inClass (topS 41) 3
abbrev s_Bag_is_like : Stmt := inClass (topS 41) 4
abbrev s_Bag_amounts_of : Stmt := inClass (topS 41) 5
abbrev s_Bag___len__ : Stmt := inClass (topS 41) 7
abbrev s_Bag___add__ : Stmt := inClass (topS 41) 11
abbrev s_Bag___sub__ : Stmt := inClass (topS 41) 12
abbrev s_Bag___or__ : Stmt := inClass (topS 41) 13
abbrev s_Bag___eq__ : Stmt := inClass (topS 41) 17
abbrev s_desk_error : Stmt := topS 64
abbrev s_check_kind : Stmt := topS 65
abbrev s_check_room : Stmt := topS 66
abbrev s_Desk___init__ : Stmt := inClass (topS 67) 0
abbrev s_Desk_market : Stmt := inClass (topS 67) 1
abbrev s_Desk_stock : Stmt := inClass (topS 67) 2
abbrev s_Desk_debt : Stmt := inClass (topS 67) 3
abbrev s_Desk_version : Stmt := inClass (topS 67) 4
abbrev s_Desk_settled : Stmt := inClass (topS 67) 5
abbrev s_Desk_record : Stmt := inClass (topS 67) 7
abbrev s_Desk_trade : Stmt := inClass (topS 67) 8
abbrev s_Desk_borrow : Stmt := inClass (topS 67) 9
abbrev s_Desk_pay : Stmt := inClass (topS 67) 10
abbrev s_Desk_undo : Stmt := inClass (topS 67) 11
abbrev s_Desk_loans : Stmt := inClass (topS 67) 13
abbrev s_Desk___iadd__ : Stmt := inClass (topS 67) 14
abbrev s_Desk___isub__ : Stmt := inClass (topS 67) 15
abbrev s_Desk___len__ : Stmt := inClass (topS 67) 16
abbrev s_Desk___eq__ : Stmt := inClass (topS 67) 18
abbrev s_CappedDesk___init__ : Stmt := inClass (topS 68) 0
abbrev s_CappedDesk_borrow : Stmt := inClass (topS 68) 2
abbrev s__law_deck : Stmt := topS 70
abbrev s__law_draw : Stmt := topS 71
abbrev s__law_one : Stmt := topS 72
abbrev s__law_bag : Stmt := topS 73
abbrev s__law_side : Stmt := topS 74
abbrev s__law_trade : Stmt := topS 75
abbrev s__law_market : Stmt := topS 76
abbrev s__law_small : Stmt := topS 77
abbrev s__law_plus : Stmt := topS 78
abbrev s__law_less : Stmt := topS 79
abbrev s__law_tell : Stmt := topS 80
abbrev s__law_kept : Stmt := topS 81
abbrev s__law_borrowed : Stmt := topS 82
abbrev s__law_paid : Stmt := topS 83
abbrev s__law_undone : Stmt := topS 84
abbrev s__law_done : Stmt := topS 85
abbrev s__law_is_shown : Stmt := topS 86
abbrev s__law_taken_back : Stmt := topS 87
abbrev s__law_deed : Stmt := topS 88
abbrev s__law_begun : Stmt := topS 89
abbrev s__law_signed : Stmt := topS 90
abbrev s__law_asked : Stmt := topS 91
abbrev s_law : Stmt := topS 92
end Lb
set_option Elab.async false
set_option linter.all false
set_option maxRecDepth 100000
set_option maxHeartbeats 8000000
namespace Lb
open PySem PySem.Spec PyProof.Rows L2 RZ TL
section
variable {P : Program} {w : World} {K : PySem.W.Frag} {mg : Str → Option Value} {base : Heap}
theorem sc__law_draw : FnScope ["_law_deck_here", "_law_many", "_law_cells", "_law_turn", "_law_rests", "_law_at", "_law_digit", "_law_mixed", "_law_again"] ["_law_deck_here", "_law_many"] (defScope s__law_draw) := ⟨rfl, rfl, rfl, by decide +kernel, rfl, by decide +kernel, by decide +kernel⟩
theorem own_draw (D : Df K mg "_law_draw" s__law_draw) (B : Blt mg) : Own P w K mg base "_law_draw" 1 ["_law_deck_here", "_law_many"] spDraw := by
  refine own_of D sc__law_draw (fun _ _ _ _ _ _ us hl => match us, hl with | [_, _], _ => rfl) (fun vs H Q E h => ?_) (fun f cdv A outer s H vs Q E hr h => ?_)
  · obtain ⟨_, _, _, _, _, rfl, _⟩ := h
    rfl
  · obtain ⟨d, c, r, n, m, rfl, dk, hn, hm, hm2, q⟩ := h
    obtain ⟨t, cs, rs, ht, h0, h64, hrl, n1, n2, n3, e1, e2, e3⟩ := dk
    refine ⟨_, (pss_cons (ps_asg (pv 0) (pg_lst rfl (pgs_cons (pg_name (i := 2) sc__law_draw.nd rfl (.inl rfl)) (pgs_cons (pg_name (i := 3) sc__law_draw.nd rfl (.inl rfl)) (pgs_cons (pg_name (i := 4) sc__law_draw.nd rfl (.inl rfl)) pgs_nil)))))
      (pss_cons (ps_set (i := 5) sc__law_draw.nd rfl (.inl rfl) (pe_op op_mod (pe_callTy (T := "int") call_int1 (by rfl) B.b_int PyProof.Rows.boot_int (pa_cons (pv 3) pa_nil)) (pe_callB (id := "len") call_len_seq (by rfl) B.b_len PySem.boot_len (pa_cons (pv 2) pa_nil))))
      (pss_cons (ps_asg (pe_op op_add (pv 3) pe_int) (pg_sub (pv 0) pe_int set_list))
      (pss_cons (ps_if (pt_cmpR op_gt (pe_ix ix_list (pv 4) (pv 5) (fun _ _ => rfl)) pe_int (nomark _)) (pss_cons (ps_set (i := 6) sc__law_draw.nd rfl (.inl rfl) (pe_op op_mod (pe_callTy (T := "int") call_int1 (by rfl) B.b_int PyProof.Rows.boot_int (pa_cons (pe_ix ix_list (pv 4) (pv 5) (fun _ _ => rfl)) pa_nil)) (pv 1)))
      (pss_cons (ps_asg (pe_op op_fdiv (pe_ix ix_list (pv 4) (pv 5) (fun _ _ => rfl)) (pv 1)) (pg_sub (pv 4) (pv 5) set_list))
      (pss_one (ps_ret (pv 6))))) pss_nil)
      (pss_cons (ps_set (i := 7) sc__law_draw.nd rfl (.inl rfl) (pe_op op_mod (pe_op op_pow (pe_op op_add (pe_op op_add (pe_op op_mod (pe_callTy (T := "int") call_int1 (by rfl) B.b_int PyProof.Rows.boot_int (pa_cons (pe_ix ix_list (pv 2) (pv 5) (fun _ _ => rfl)) pa_nil)) pe_int) (pe_op op_mul pe_int (pv 3))) pe_int) pe_int) pe_int))
      (pss_cons (ps_set (i := 8) sc__law_draw.nd rfl (.inl rfl) (pe_op op_mod (pe_op op_pow (pe_op op_add (pe_op op_add (pv 7) (pe_op op_mul pe_int (pv 3))) pe_int) pe_int) pe_int))
      (pss_one (ps_ret (pe_op op_mod (pe_op op_mod (pe_callTy (T := "int") call_int1 (by rfl) B.b_int PyProof.Rows.boot_int (pa_cons (pe_op op_add (pe_op op_mul (pv 8) pe_int) (pv 7)) pa_nil)) pe_int) (pv 1)))))))))), ?_⟩
    -- cells, turn, rests = deck; at = int(turn) % len(cells)
    refine ⟨_, rfl, d, _, rfl, SqL.of e1, rfl, _, _, rfl, _, _, rfl, _, _, rfl, rfl, ?_⟩
    refine ⟨_, rfl, .inl ⟨_, rfl, ?_⟩⟩
    refine ⟨_, rfl, c, _, rfl, .inl (SqL.of e2), _, _, rfl, rfl, ?_, ?_⟩
    · show (0 : Int) < ((cs.map V.int).length : Int)
      rw [List.length_map]
      omega
    dsimp only
    rw [List.length_map]
    obtain ⟨j, hj, ej⟩ := emod_nat (t : Int) h0
    rw [ej]
    -- deck[1] = turn + 1
    refine ⟨_, rfl, _, _, rfl, rfl, ?_⟩
    refine ⟨_, rfl, d, _, _, 1, rfl, rfl, e1, rfl, ?_⟩
    have hr1 : upd H d (.lst ([V.ref c, .int (t : Int), .ref r].set 1 (.int ((t : Int) + 1)))) r = some (.lst (rs.map V.int)) := by
      rw [upd_ne n2.symm]
      exact e3
    have hc1 : upd H d (.lst ([V.ref c, .int (t : Int), .ref r].set 1 (.int ((t : Int) + 1)))) c = some (.lst (cs.map V.int)) := by
      rw [upd_ne n1.symm]
      exact e2
    -- if rests[at] > 0
    refine ⟨_, rfl, _, rfl, r, _, _, _, rfl, rfl, SqL.of hr1, nat_at (by omega), _, _, rfl, rfl, _, rfl, ite2 (fun hp => ?_) (fun hp => ?_)⟩
    · refine ⟨_, rfl, _, rfl, r, _, _, _, rfl, rfl, SqL.of hr1, nat_at (by omega), .inl ⟨_, rfl, ?_⟩⟩
      refine ⟨_, rfl, _, _, rfl, rfl, ?_, ?_⟩
      · show (0 : Int) < (m : Int)
        omega
      obtain ⟨v, hv, ev⟩ := emod_nat (rs.getD j 0) hm
      dsimp only
      rw [ev]
      refine ⟨_, rfl, _, rfl, r, _, _, _, rfl, rfl, SqL.of hr1, nat_at (by omega), ?_⟩
      refine ⟨_, rfl, _, _, rfl, rfl, ⟨by omega, by omega⟩, ?_⟩
      refine ⟨_, rfl, _, rfl, r, _, _, j, rfl, rfl, hr1, ixN_nat (by rw [List.length_map]; omega), ?_⟩
      refine ⟨_, rfl, q _ v hv ⟨t + 1, cs, rs.set j (rs.getD j 0 / (m : Int)), by omega, h0, h64, by rw [List.length_set]; exact hrl, n1, n2, n3, ?_, ?_, ?_⟩ ?_⟩
      · rw [upd_ne n2, upd_same]
        rfl
      · rw [upd_ne n3]
        exact hc1
      · rw [upd_same, List.map_set]
      · intro b o z1 z2 e
        rw [upd_ne z2, upd_ne z1]
        exact e
    · have ht2 : (t : Int) < 2 ^ 40 := by omega
      have md : ∀ (a b : Int), 0 < b → 0 ≤ a % b ∧ a % b < b := fun a b hb => ⟨Int.emod_nonneg a (by omega), Int.emod_lt_of_pos a hb⟩
      refine ⟨_, rfl, _, rfl, c, _, _, _, rfl, rfl, SqL.of hc1, nat_at hj, .inl ⟨_, rfl, ?_⟩⟩
      refine ⟨_, _, rfl, rfl, (by show (0 : Int) < 2147483543; decide), ?_⟩
      have k1 := md (cs.getD j 0) 2147483543 (by decide)
      refine ⟨_, rfl, _, _, rfl, rfl, .inl ⟨by decide, by decide⟩, _, _, rfl, rfl, _, _, rfl, rfl, _, _, rfl, rfl, ⟨by decide, by decide, ?_⟩, _, _, rfl, rfl, (by show (0 : Int) < 2147483497; decide), ?_⟩
      · generalize cs.getD j 0 % 2147483543 = x at k1
        show (x + 75979 * (t : Int) + 4481).natAbs < 2 ^ 64
        omega
      dsimp only
      generalize hm3 : (cs.getD j 0 % 2147483543 + 75979 * (t : Int) + 4481) ^ (3 : Int).toNat % 2147483497 = mx
      have k2 := md ((cs.getD j 0 % 2147483543 + 75979 * (t : Int) + 4481) ^ (3 : Int).toNat) 2147483497 (by decide)
      rw [hm3] at k2
      refine ⟨_, rfl, _, rfl, _, _, rfl, rfl, .inl ⟨by decide, by decide⟩, _, _, rfl, rfl, _, _, rfl, rfl, _, _, rfl, rfl, ⟨by decide, by decide, ?_⟩, _, _, rfl, rfl, (by show (0 : Int) < 2147483423; decide), ?_⟩
      · show (mx + 7919 * (t : Int) + 13).natAbs < 2 ^ 64
        omega
      refine ⟨_, rfl, _, _, rfl, rfl, .inr ⟨by decide, by decide⟩, _, rfl, _, _, rfl, rfl, .inl ⟨_, rfl, ?_⟩⟩
      refine ⟨_, _, rfl, rfl, (by show (0 : Int) < 4611686018427387847; decide), _, rfl, _, _, rfl, rfl, ?_, ?_⟩
      · show (0 : Int) < (m : Int)
        omega
      dsimp only
      generalize (mx + 7919 * (t : Int) + 13) ^ (3 : Int).toNat % 2147483423 * 2147483399 + mx = z
      obtain ⟨v, hv, ev⟩ := emod_nat (z % 4611686018427387847) hm
      rw [ev]
      refine q _ v hv ⟨t + 1, cs, rs, by omega, h0, h64, hrl, n1, n2, n3, ?_, hc1, hr1⟩ fun b o z1 z2 e => ?_
      · rw [upd_same]
        rfl
      · rw [upd_ne z1]
        exact e

end
end Lb
set_option Elab.async false
set_option linter.all false
set_option maxRecDepth 100000
set_option maxHeartbeats 8000000
namespace Lb
open PySem PySem.Spec PyProof.Rows L2 RZ TL
section
variable {P : Program} {w : World} {K : PySem.W.Frag} {mg : Str → Option Value} {base : Heap}
theorem sc__law_deck : FnScope ["_law_script", "_law_cells", "_law_cell"] ["_law_script"] (defScope s__law_deck) := ⟨rfl, rfl, rfl, by decide +kernel, rfl, by decide +kernel, by decide +kernel⟩
theorem own_deck (D : Df K mg "_law_deck" s__law_deck) (B : Blt mg) : Own P w K mg base "_law_deck" 1 ["_law_script"] (spDeck K) := by
  refine own_of D sc__law_deck (fun _ _ _ _ _ _ us hl => match us, hl with | [_], _ => rfl) (fun vs H Q E h => ?_) (fun f cdv A outer s H vs Q E hr h => ?_)
  · obtain ⟨_, _, rfl, _⟩ := h
    rfl
  · obtain ⟨a, ns, rfl, hS, hl, q⟩ := h
    refine ⟨_, (pss_cons (ps_set (i := 1) sc__law_deck.nd rfl (.inl rfl) (pe_op op_cat (pe_callTy (T := "list") call_list_of (by rfl) B.b_list (by decide +kernel) (pa_cons (pe_slice sl_list (pv 0) po_none (po_some pe_int)) pa_nil)) (pe_op op_rep (pe_lst (pa_cons pe_int pa_nil)) (pe_callTy (T := "int") call_int1 (by rfl) B.b_int PyProof.Rows.boot_int (pa_cons (pe_cmpR op_eq (pe_callB (id := "len") call_len_seq (by rfl) B.b_len PySem.boot_len (pa_cons (pv 0) pa_nil)) pe_int (nomark _)) pa_nil)))))
      (pss_one (ps_ret (pe_lst (pa_cons (pv 1) (pa_cons pe_int (pa_cons (pe_lc (own := [("_law_cell", 2)]) (g := gName 2) (tt := tYes) rfl sc__law_deck.nd (pi_list (pv 1)) (blkOk_by (own := [("_law_cell", 2)]) (N := ["_law_script", "_law_cells", "_law_cell"]) (sc := defScope s__law_deck) (by decide +kernel)) (fun _ _ _ _ _ => (pg_name (i := 2) sc__law_deck.nd rfl (.inl rfl))) (fun _ _ _ _ _ => pts_nil) (fun _ _ _ _ _ => (pe_op op_mul (pv 2) (pe_callTy (T := "int") call_int1 (by rfl) B.b_int PyProof.Rows.boot_int (pa_cons (pe_cmpR op_ge (pv 2) (pe_op op_pow pe_int pe_int) (nomark _)) pa_nil))))) pa_nil))))))), ?_⟩
    -- list(script[:63])
    refine ⟨_, rfl, 63, rfl, a, _, rfl, hS, fun p1 z1 => ?_⟩
    have s1 := same_upd (o := .lst (cutV (ns.map V.int) none (some 63))) z1
    refine ⟨p1, _, rfl, .inl (SqL.of upd_same), fun p2 z2 => ?_⟩
    have s2 := s1.trans (same_upd (o := .lst (cutV (ns.map V.int) none (some 63))) z2)
    -- [0] * int(len(script) == 0)
    refine ⟨(by show 1 ≤ sizeLine; decide), fun p3 z3 => ?_⟩
    have s3 := s2.trans (same_upd (o := .lst [V.int 0]) z3)
    refine ⟨_, rfl, a, _, rfl, .inl (s3.seq hS), rfl, .inr ⟨_, rfl, ?_⟩⟩
    have hb : ∀ b : Bool, (-(2 ^ 63) : Int) ≤ (if b then 1 else 0) ∧ (if b then (1 : Int) else 0) < 2 ^ 63 ∧ [V.int 0].length * (if b then (1 : Int) else 0).toNat ≤ sizeLine := fun b => by cases b <;> decide
    obtain ⟨b1, b2, b3⟩ := hb (decide (V.int ((ns.map V.int).length : Int) = V.int 0))
    refine ⟨p3, _, _, rfl, rfl, upd_same, b1, b2, b3, fun p4 z4 => ?_⟩
    dsimp only
    generalize hcs : (List.replicate (if decide (V.int ((ns.map V.int).length : Int) = V.int 0) = true then (1 : Int) else 0).toNat [V.int 0]).flatten = more at *
    have s4 := s3.trans (same_upd (o := .lst more) z4)
    have e2 : upd (upd (upd (upd H p1 (.lst (cutV (ns.map V.int) none (some 63)))) p2 (.lst (cutV (ns.map V.int) none (some 63)))) p3 (.lst [V.int 0])) p4 (.lst more) p2 = some (.lst (cutV (ns.map V.int) none (some 63))) :=
      same_upd z4 _ _ (same_upd z3 _ _ upd_same)
    obtain ⟨zs, hz, hz2⟩ : ∃ zs : List Int, more = zs.map V.int ∧ 0 < ns.length + zs.length ∧ zs.length ≤ 1 := by
      rw [← hcs]
      cases ns with
      | nil => exact ⟨[0], rfl, by decide, by decide⟩
      | cons x xs => exact ⟨[], by
          rw [decide_eq_false (fun z => by
            have := V.int.inj z
            simp at this
            omega)]
          rfl, by simp, by simp⟩
    subst hz
    rw [cut63 ns hl] at *
    refine ⟨p2, p4, _, _, rfl, rfl, e2, upd_same, ?_, fun p5 z5 => ?_⟩
    · rw [List.length_map, List.length_map]
      exact Nat.le_of_lt (small1000 (by omega))
    generalize hH5 : upd (upd (upd (upd (upd H p1 (.lst (ns.map V.int))) p2 (.lst (ns.map V.int))) p3 (.lst [V.int 0])) p4 (.lst (zs.map V.int))) p5 (.lst (ns.map V.int ++ zs.map V.int)) = H5
    have e5 : H5 p5 = some (.lst ((ns ++ zs).map V.int)) := by
      rw [← hH5, upd_same, List.map_append]
    have s5 : Same H H5 := by
      rw [← hH5]
      exact s4.trans (same_upd z5)
    have f5 : H p5 = none := s4.free z5
    -- [cells, 0, [..]]
    refine ⟨_, rfl, _, rfl, p5, rfl, ⟨_, SqL.of e5⟩, fun D hD => ?_⟩
    have f6 : H D = none := s5.free hD
    have n56 : p5 ≠ D := ne_of_none e5 hD
    refine lc_list (K := K) (a := p5) (xs := (ns ++ zs).map V.int) (fun i H' => Same H5 H' ∧ ∃ rs : List Int, rs.length = i ∧ H' D = some (.lst (rs.map V.int)))
      ⟨same_upd hD, [], rfl, upd_same⟩ (fun i H' _ hP => hP.1.seq (SqL.of e5)) ?_ ?_
    · rintro i x H' hi ⟨sm, rs, hr1, hr2⟩
      have hlt : i < (ns ++ zs).length := by
        have := (List.getElem?_eq_some_iff.mp hi).1
        rw [List.length_map] at this
        exact this
      obtain ⟨u, rfl, _⟩ := int_at hi
      refine ⟨rfl, all_in ?_⟩
      refine ⟨_, rfl, _, rfl, _, _, rfl, rfl, ⟨by decide, by decide, by decide⟩, _, _, rfl, rfl, .inr ⟨_, rfl, ?_⟩⟩
      refine ⟨_, _, rfl, rfl, .inr ?_, rs.map V.int, hr2, ?_, ?_, ?_⟩
      · cases decide ((10 : Int) ^ (18 : Int).toNat ≤ u) <;> exact ⟨by decide, by decide⟩
      · rw [List.length_map]
        exact small1000 (by rw [List.length_append] at hlt; omega)
      · intro b o e
        rw [upd_ne (ne_of_none e hD)]
        exact sm _ _ e
      · refine ⟨rs ++ [u * (if decide ((10 : Int) ^ (18 : Int).toNat ≤ u) = true then 1 else 0)], by rw [List.length_append, hr1]; rfl, ?_⟩
        rw [upd_same, List.map_append]
        rfl
    · rintro H' ⟨sm, rs, hr1, hr2⟩
      rw [List.length_map] at hr1
      refine ⟨(by show 3 ≤ sizeLine; decide), fun p7 z7 => ?_⟩
      have s7 := same_upd (o := .lst [V.ref p5, V.int 0, V.ref D]) z7
      have a5 := s7 _ _ (sm _ _ e5)
      have aD := s7 _ _ hr2
      refine q _ p7 p5 D ((s5.trans sm).trans s7) ((s5.trans sm).free z7) f5 f6 ⟨0, ns ++ zs, rs, Nat.le_refl _, ?_, ?_, hr1, ?_, ?_, n56, upd_same, a5, aD⟩
      · rw [List.length_append]
        exact hz2.1
      · rw [List.length_append]
        omega
      · exact (ne_of_none (sm _ _ e5) z7).symm
      · exact (ne_of_none hr2 z7).symm

end
end Lb
set_option Elab.async false
set_option linter.all false
set_option maxRecDepth 100000
set_option maxHeartbeats 8000000
namespace Lb
open PySem PySem.Spec PyProof.Rows L2 RZ TL
section
variable {P : Program} {w : World} {K : PySem.W.Frag} {mg : Str → Option Value} {base : Heap}
theorem sc__law_one : FnScope ["_law_deck_here", "_law_items"] ["_law_deck_here", "_law_items"] (defScope s__law_one) := ⟨rfl, rfl, rfl, by decide +kernel, rfl, by decide +kernel, by decide +kernel⟩
theorem own_one (D : Df K mg "_law_one" s__law_one) (B : Blt mg) (O__law_draw : Own P w K mg base "_law_draw" 1 ["_law_deck_here", "_law_many"] spDraw) : Own P w K mg base "_law_one" 2 ["_law_deck_here", "_law_items"] spOne := by
  refine own_of D sc__law_one (fun _ _ _ _ _ _ us hl => match us, hl with | [_, _], _ => rfl) (fun vs H Q E h => ?_) (fun f cdv A outer s H vs Q E hr h => ?_)
  · obtain ⟨_, _, _, _, _, _, rfl, _⟩ := h
    rfl
  · obtain ⟨d, c, r, l, n, xs, rfl, dk, hn, el, nd, nr, h0, h1, q⟩ := h
    refine ⟨_, (pss_one (ps_ret (pe_ix ix_list (pv 1) (pe_own O__law_draw (hr.mono (by omega)) (by rfl) (pa_cons (pv 0) (pa_cons (pe_callB (id := "len") call_len_seq (by rfl) B.b_len PySem.boot_len (pa_cons (pv 1) pa_nil)) pa_nil))) (fun _ _ => rfl)))), ?_⟩
    refine ⟨_, rfl, _, rfl, _, rfl, l, _, rfl, .inl (SqL.of el), ?_⟩
    refine ⟨d, c, r, n, xs.length, rfl, dk, hn, h0, by omega, fun H' v hv dk' kp => ?_⟩
    exact ⟨l, xs, _, _, rfl, rfl, SqL.of (kp _ _ nd nr el), atI_nat (List.getElem?_eq_getElem hv), q H' v _ (List.getElem?_eq_getElem hv) dk' kp⟩

end
end Lb
set_option Elab.async false
set_option linter.all false
set_option maxRecDepth 100000
set_option maxHeartbeats 8000000
namespace Lb
open PySem PySem.Spec PyProof.Rows L2 RZ TL
section
variable {P : Program} {w : World} {K : PySem.W.Frag} {mg : Str → Option Value} {base : Heap}
theorem sc__law_plus : FnScope ["_law_one_here", "_law_other", "_law_own", "_law_more"] ["_law_one_here", "_law_other"] (defScope s__law_plus) := ⟨rfl, rfl, rfl, by decide +kernel, rfl, by decide +kernel, by decide +kernel⟩
theorem own_plus (D : Df K mg "_law_plus" s__law_plus) (B : Blt mg) : Own P w K mg base "_law_plus" 1 ["_law_one_here", "_law_other"] (spPlus K) := by
  refine own_of D sc__law_plus (fun _ _ _ _ _ _ us hl => match us, hl with | [_, _], _ => rfl) (fun vs H Q E h => ?_) (fun f cdv A outer s H vs Q E hr h => ?_)
  · obtain ⟨_, _, _, _, rfl, _⟩ := h
    rfl
  · obtain ⟨a, b, x, y, rfl, hA, hB, hl, hl2, q⟩ := h
    refine ⟨_, (pss_one (ps_ret (pe_callTy (T := "tuple") call_tuple_of (by rfl) B.b_tuple (by decide +kernel) (pa_cons (pe_lc (own := [("_law_own", 2), ("_law_more", 3)]) (g := gTup _ 2 (gCons (gName 2) (gCons (gName 3) gNil))) (tt := tYes) rfl sc__law_plus.nd (pi_zipA (by rfl) B.b_zip (pa_cons (pv 0) (pa_cons (pv 1) pa_nil))) (blkOk_by (own := [("_law_own", 2), ("_law_more", 3)]) (N := ["_law_one_here", "_law_other", "_law_own", "_law_more"]) (sc := defScope s__law_plus) (by decide +kernel)) (fun _ _ _ _ _ => (pg_tup rfl (pgs_cons (pg_name (i := 2) sc__law_plus.nd rfl (.inl rfl)) (pgs_cons (pg_name (i := 3) sc__law_plus.nd rfl (.inl rfl)) pgs_nil)))) (fun _ _ _ _ _ => pts_nil) (fun _ _ _ _ _ => (pe_op op_add (pv 2) (pv 3)))) pa_nil)))), ?_⟩
    refine ⟨_, rfl, _, rfl, a, b, _, _, rfl, .inr ⟨hA, hB, fun D hD => ?_⟩⟩
    refine lc_zipT (K := K) (xs := x.map V.int) (ys := y.map V.int) (by rw [List.length_map, List.length_map]; exact hl) (fun i H' => Same H H' ∧ H' D = some (.lst (((List.zipWith (· + ·) x y).take i).map V.int)))
      ⟨same_upd hD, upd_same⟩ (fun i H' hP => ⟨same_tup hP.1 hA, same_tup hP.1 hB⟩) ?_ ?_
    · rintro i u v T H' hu hv ⟨sm, eD⟩ hT
      obtain ⟨u, rfl, hu'⟩ := int_at hu
      obtain ⟨v, rfl, hv'⟩ := int_at hv
      have nTD : D ≠ T := ne_of_none eD hT
      refine ⟨T, _, rfl, .inl (.inl upd_same), rfl, _, _, rfl, _, _, rfl, rfl, rfl, all_in ?_⟩
      refine ⟨_, rfl, _, rfl, _, _, rfl, rfl, _, (same_upd hT) _ _ eD, ?_, ?_, ?_⟩
      · rw [List.length_map, List.length_take]
        refine small1000 (Nat.le_trans (Nat.min_le_right _ _) ?_)
        rw [List.length_zipWith]
        omega
      · intro b o e
        rw [upd_ne (ne_of_none e hD)]
        exact (same_upd hT) _ _ (sm _ _ e)
      · rw [upd_same, zip_take hu' hv', List.map_append]
        rfl
    · rintro H' ⟨sm, eD⟩
      have el : (List.zipWith (· + ·) x y).take (x.map V.int).length = List.zipWith (· + ·) x y := List.take_of_length_le (by rw [List.length_zipWith, List.length_map]; omega)
      rw [el] at eD
      refine ⟨D, _, rfl, .inl ⟨SqL.of eD, fun p hp => ?_⟩⟩
      exact q _ p (sm.trans (same_upd hp)) (sm.free hp) upd_same

end
end Lb
set_option Elab.async false
set_option linter.all false
set_option maxRecDepth 100000
set_option maxHeartbeats 8000000
namespace Lb
open PySem PySem.Spec PyProof.Rows L2 RZ TL
section
variable {P : Program} {w : World} {K : PySem.W.Frag} {mg : Str → Option Value} {base : Heap}
theorem sc__law_side : FnScope ["_law_deck_here", "_law_goods", "_law_most", "_law_row", "_law_k", "_law_at"] ["_law_deck_here", "_law_goods", "_law_most"] (defScope s__law_side) := ⟨rfl, rfl, rfl, by decide +kernel, rfl, by decide +kernel, by decide +kernel⟩
theorem own_side (D : Df K mg "_law_side" s__law_side) (B : Blt mg) (O__law_draw : Own P w K mg base "_law_draw" 1 ["_law_deck_here", "_law_many"] spDraw) : Own P w K mg base "_law_side" 2 ["_law_deck_here", "_law_goods", "_law_most"] spSide := by
  refine own_of D sc__law_side (fun _ _ _ _ _ _ us hl => match us, hl with | [_, _, _], _ => rfl) (fun vs H Q E h => ?_) (fun f cdv A outer s H vs Q E hr h => ?_)
  · obtain ⟨_, _, _, _, _, _, rfl, _⟩ := h
    rfl
  · obtain ⟨d, c, r, n, g, m, rfl, dk, hn, hg, hg2, hm, q⟩ := h
    refine ⟨_, (pss_cons (ps_set (i := 3) sc__law_side.nd rfl (.inl rfl) (pe_op op_rep (pe_lst (pa_cons pe_int pa_nil)) (pv 1)))
      (pss_cons (ps_for PassesOwn.never rfl (pi_range1 (by rfl) B.b_range (pa_cons (pe_own O__law_draw (hr.mono (by omega)) (by rfl) (pa_cons (pv 0) (pa_cons (pe_op op_add (pv 2) pe_int) pa_nil))) pa_nil)) (pg_name (i := 4) sc__law_side.nd rfl (.inl rfl))
        (pss_cons (ps_set (i := 5) sc__law_side.nd rfl (.inl rfl) (pe_own O__law_draw (hr.mono (by omega)) (by rfl) (pa_cons (pv 0) (pa_cons (pv 1) pa_nil))))
      (pss_one (ps_asg (pe_op op_add (pe_ix ix_list (pv 3) (pv 5) (fun _ _ => rfl)) (pe_callTy (T := "int") call_int1 (by rfl) B.b_int PyProof.Rows.boot_int (pa_cons (pe_cmpR op_lt (pe_ix ix_list (pv 3) (pv 5) (fun _ _ => rfl)) pe_int (nomark _)) pa_nil))) (pg_sub (pv 3) (pv 5) set_list)))))
      (pss_one (ps_ret (pe_callTy (T := "tuple") call_tuple_of (by rfl) B.b_tuple (by decide +kernel) (pa_cons (pv 3) pa_nil)))))), ?_⟩
    -- row = [0] * goods
    refine ⟨(by show 1 ≤ sizeLine; decide), fun p1 z1 => ?_⟩
    refine ⟨_, rfl, p1, _, _, rfl, rfl, upd_same, by omega, by omega, ?_, fun p2 z2 => ?_⟩
    · show 1 * (g : Int).toNat ≤ sizeLine
      exact Nat.le_of_lt (small1000 (by omega))
    have e0 : (List.replicate (g : Int).toNat [V.int 0]).flatten = (List.replicate g (0 : Int)).map V.int := by
      rw [Int.toNat_natCast, rep0]
    dsimp only
    rw [e0]
    have s2 : Same H (upd (upd H p1 (.lst [V.int 0])) p2 (.lst ((List.replicate g (0 : Int)).map V.int))) := (same_upd z1).trans (same_upd z2)
    generalize hH2 : upd (upd H p1 (.lst [V.int 0])) p2 (.lst ((List.replicate g (0 : Int)).map V.int)) = H2 at *
    have e2 : H2 p2 = some (.lst ((List.replicate g (0 : Int)).map V.int)) := by
      rw [← hH2, upd_same]
    have f2 : H p2 = none := (same_upd z1).free z2
    -- range(draw(deck, most + 1))
    refine ⟨_, rfl, _, rfl, _, _, rfl, rfl, ?_⟩
    refine ⟨d, c, r, n, m + 1, rfl, dk.same s2, by omega, by omega, by omega, fun H3 v hv dk3 k3 => ?_⟩
    have nd := dk.nd f2
    refine ⟨(v : Int), rfl, by omega, by omega, ?_⟩
    rw [Int.toNat_natCast]
    refine for_range (n := v) (fun i σ H' => ∃ (y4 y5 : Option V) (b : List Int), σ = [some (.ref d), some (.int (g : Int)), some (.int (m : Int)), some (.ref p2), y4, y5] ∧ Dk H' d c r (n + 1 + i) ∧ Kp d r H H' ∧ H' p2 = some (.lst (b.map V.int)) ∧ Side g i b)
      ⟨none, none, List.replicate g 0, rfl, dk3, (Kp.of s2).trans k3, k3 _ _ nd.1 nd.2.1 e2, ?_⟩ ?_ ?_
    · refine ⟨List.length_replicate, fun x hx => ?_, ?_⟩
      · rw [(List.mem_replicate.mp hx).2]
        exact ⟨by decide, by decide⟩
      · rw [sum_rep0]
        exact Int.le_refl _
    · rintro i σ H4 hi ⟨y4, y5, b, rfl, dk4, k4, eb, sd⟩
      -- at = draw(deck, goods)
      refine ⟨_, rfl, _, rfl, d, c, r, n + 1 + i, g, rfl, dk4, by omega, hg, by omega, fun H5 j hj dk5 k5 => ?_⟩
      have eb5 : H5 p2 = some (.lst (b.map V.int)) := k5 _ _ nd.1 nd.2.1 eb
      have hjb : j < b.length := by
        rw [sd.len]
        exact hj
      -- row[at] = row[at] + int(row[at] < 3)
      refine ⟨_, rfl, _, rfl, p2, _, _, _, rfl, rfl, SqL.of eb5, nat_at hjb, ?_⟩
      refine ⟨_, rfl, _, rfl, p2, _, _, _, rfl, rfl, SqL.of eb5, nat_at hjb, _, _, rfl, rfl, .inr ⟨_, rfl, ?_⟩⟩
      refine ⟨_, _, rfl, rfl, ?_⟩
      refine ⟨_, rfl, _, rfl, p2, _, _, j, rfl, rfl, eb5, ixN_nat (by rw [List.length_map]; exact hjb), ?_⟩
      have hm0 : b.getD j 0 ∈ b := by
        rw [List.getD_eq_getElem?_getD, List.getElem?_eq_getElem hjb]
        exact List.getElem_mem hjb
      have hm1 := sd.amt _ hm0
      have hst : (b.set j (b.getD j 0 + (if decide (b.getD j 0 < 3) = true then 1 else 0))).sum = b.sum - b.getD j 0 + (b.getD j 0 + (if decide (b.getD j 0 < 3) = true then 1 else 0)) :=
        sum_set (by rw [List.getD_eq_getElem?_getD, List.getElem?_eq_getElem hjb]; rfl)
      refine ⟨_, _, b.set j (b.getD j 0 + (if decide (b.getD j 0 < 3) = true then 1 else 0)), rfl, ?_, ?_, ?_, ?_, ?_, ?_⟩
      · have n2 : p2 ≠ d := nd.1
        have n3 : p2 ≠ r := nd.2.1
        have n4 : p2 ≠ c := nd.2.2
        obtain ⟨t, cs, rs, g1, g2, g3, g4, g5, g6, g7, w1, w2, w3⟩ := dk5
        exact ⟨t, cs, rs, g1, g2, g3, g4, g5, g6, g7, by rw [upd_ne n2.symm]; exact w1, by rw [upd_ne n4.symm]; exact w2, by rw [upd_ne n3.symm]; exact w3⟩
      · intro z o z1 z2 ez
        rw [upd_ne (ne_of_none ez f2)]
        exact k5 _ _ z1 z2 (k4 _ _ z1 z2 ez)
      · rw [upd_same, List.map_set]
      · rw [List.length_set]
        exact sd.len
      · intro x hx
        rcases List.mem_or_eq_of_mem_set hx with h | h
        · exact sd.amt x h
        · rw [h]
          by_cases h3 : b.getD j 0 < 3
          · rw [decide_eq_true h3, if_pos rfl]
            omega
          · rw [decide_eq_false h3, if_neg Bool.false_ne_true]
            omega
      · rw [hst]
        have := sd.tot
        by_cases h3 : b.getD j 0 < 3
        · rw [decide_eq_true h3, if_pos rfl]
          omega
        · rw [decide_eq_false h3, if_neg Bool.false_ne_true]
          omega
    · rintro σ H4 ⟨y4, y5, b, rfl, dk4, k4, eb, sd⟩
      refine ⟨_, rfl, p2, _, rfl, .inl ⟨SqL.of eb, fun p hp => ?_⟩⟩
      have sp := same_upd (o := .tup (b.map V.int)) hp
      refine q _ p b (sd.mono (by omega)) ?_ upd_same ((dk4.same sp).mono (by omega)) (k4.trans (Kp.of sp))
      cases e : H p with
      | none => rfl
      | some o =>
        have := dk4.nd hp
        rw [k4 _ _ this.1 this.2.1 e] at hp
        cases hp

end
end Lb
set_option Elab.async false
set_option linter.all false
set_option maxRecDepth 100000
set_option maxHeartbeats 8000000
namespace Lb
open PySem PySem.Spec PyProof.Rows L2 RZ TL
section
variable {P : Program} {w : World} {K : PySem.W.Frag} {mg : Str → Option Value} {base : Heap}
theorem sc__law_trade : FnScope ["_law_deck_here", "_law_goods", "_law_most", "_law_at", "_law_many", "_law_beside", "_law_good", "_law_one_here", "_law_other"] ["_law_deck_here", "_law_goods", "_law_most"] (defScope s__law_trade) := ⟨rfl, rfl, rfl, by decide +kernel, rfl, by decide +kernel, by decide +kernel⟩
theorem own_trade (D : Df K mg "_law_trade" s__law_trade) (B : Blt mg) (O__law_draw : Own P w K mg base "_law_draw" 1 ["_law_deck_here", "_law_many"] spDraw) (O__law_side : Own P w K mg base "_law_side" 2 ["_law_deck_here", "_law_goods", "_law_most"] spSide)
    (O__law_plus : Own P w K mg base "_law_plus" 1 ["_law_one_here", "_law_other"] (spPlus K)) : Own P w K mg base "_law_trade" 3 ["_law_deck_here", "_law_goods", "_law_most"] spTrade := by
  refine own_of D sc__law_trade (fun _ _ _ _ _ _ us hl => match us, hl with | [_, _, _], _ => rfl) (fun vs H Q E h => ?_) (fun f cdv A outer s H vs Q E hr h => ?_)
  · obtain ⟨_, _, _, _, _, _, _, rfl, _⟩ := h
    rfl
  · obtain ⟨R, d, c, r, n, g, m, rfl, dk, hn, hg, hg2, hm, rg, q⟩ := h
    refine ⟨_, (pss_cons (ps_if (PW.pt (pw_or (pt_cmpR op_lt (pv 2) pe_int (nomark _)) (pw_or1 (pt_cmpR op_eq (pe_own O__law_draw (hr.mono (by omega)) (by rfl) (pa_cons (pv 0) (pa_cons pe_int pa_nil))) pe_int (nomark _))))) (pss_one (ps_ret (pe_tup (pa_cons (pe_own O__law_side (hr.mono (by omega)) (by rfl) (pa_cons (pv 0) (pa_cons (pv 1) (pa_cons (pv 2) pa_nil)))) (pa_cons (pe_own O__law_side (hr.mono (by omega)) (by rfl) (pa_cons (pv 0) (pa_cons (pv 1) (pa_cons (pv 2) pa_nil)))) pa_nil))))) pss_nil)
      (pss_cons (ps_asg (pe_tup (pa_cons (pe_own O__law_draw (hr.mono (by omega)) (by rfl) (pa_cons (pv 0) (pa_cons (pv 1) pa_nil))) (pa_cons (pe_op op_add pe_int (pe_own O__law_draw (hr.mono (by omega)) (by rfl) (pa_cons (pv 0) (pa_cons (pe_op op_sub (pv 2) pe_int) pa_nil)))) pa_nil))) (pg_tup rfl (pgs_cons (pg_name (i := 3) sc__law_trade.nd rfl (.inr rfl)) (pgs_cons (pg_name (i := 4) sc__law_trade.nd rfl (.inr rfl)) pgs_nil))))
      (pss_cons (ps_set (i := 5) sc__law_trade.nd rfl (.inl rfl) (pe_callTy (T := "tuple") call_tuple_of (by rfl) B.b_tuple (by decide +kernel) (pa_cons (pe_lc (own := [("_law_good", 6)]) (g := gName 6) (tt := tYes) rfl sc__law_trade.nd (pi_range1 (by rfl) B.b_range (pa_cons (pv 1) pa_nil)) (blkOk_by (own := [("_law_good", 6)]) (N := ["_law_deck_here", "_law_goods", "_law_most", "_law_at", "_law_many", "_law_beside", "_law_good", "_law_one_here", "_law_other"]) (sc := defScope s__law_trade) (by decide +kernel)) (fun _ _ _ _ _ => (pg_name (i := 6) sc__law_trade.nd rfl (.inl rfl))) (fun _ _ _ _ _ => pts_nil) (fun _ _ _ _ _ => (pe_op op_mul (pv 4) (pe_callTy (T := "int") call_int1 (by rfl) B.b_int PyProof.Rows.boot_int (pa_cons (pe_cmpR op_eq (pv 6) (pv 3) (nomark _)) pa_nil))))) pa_nil)))
      (pss_cons (ps_par (i := 7) (j := 8) rfl sc__law_trade.nd rfl rfl (by decide) rfl rfl (pa_cons (pe_own O__law_side (hr.mono (by omega)) (by rfl) (pa_cons (pv 0) (pa_cons (pv 1) (pa_cons pe_int pa_nil)))) (pa_cons (pe_own O__law_side (hr.mono (by omega)) (by rfl) (pa_cons (pv 0) (pa_cons (pv 1) (pa_cons pe_int pa_nil)))) pa_nil)) rfl)
      (pss_one (ps_ret (pe_ifExp (pt_cmpR op_lt (pv 4) pe_int (nomark _)) (pe_tup (pa_cons (pe_own O__law_plus (hr.mono (by omega)) (by rfl) (pa_cons (pv 7) (pa_cons (pv 5) pa_nil))) (pa_cons (pe_own O__law_plus (hr.mono (by omega)) (by rfl) (pa_cons (pv 8) (pa_cons (pv 5) pa_nil))) pa_nil))) (pe_tup (pa_cons (pe_own O__law_plus (hr.mono (by omega)) (by rfl) (pa_cons (pv 7) (pa_cons (pv 5) pa_nil))) (pa_cons (pv 5) pa_nil)))))))))), ?_⟩
    refine ⟨_, rfl, _, _, rfl, rfl, _, rfl, ite2 (fun hlt => ?_) (fun hlt => ?_)⟩
    · refine iteT ?_
      exact two_sides rfl rfl rfl dk (by omega) hg hg2 hm rg fun H' v t ok dt dk' k' => q H' v t ok dt (dk'.mono (by omega)) k'
    have hm3 : 3 ≤ m := by
      have : ¬ (m : Int) < 3 := fun z => hlt (decide_eq_true z)
      omega
    refine ⟨_, rfl, d, c, r, n, 2, rfl, dk, by omega, by omega, by omega, fun H1 v hv dk1 k1 => ?_⟩
    refine ⟨rfl, _, rfl, ite2 (fun _ => ?_) (fun _ => ?_)⟩
    · exact two_sides rfl rfl rfl dk1 (by omega) hg hg2 hm (rg.kp k1 dk1) fun H' v t ok dt dk' k' => q H' v t ok dt (dk'.mono (by omega)) (k1.trans k')
    have rg1 := rg.kp k1 dk1
    -- at, many = draw(deck, goods), 1 + draw(deck, most - 2)
    refine ⟨_, rfl, _, rfl, d, c, r, n + 1, g, rfl, dk1, by omega, hg, by omega, fun H2 at_ ha dk2 k2 => ?_⟩
    refine ⟨_, rfl, _, rfl, _, _, rfl, rfl, ?_⟩
    have em : (m : Int) - 2 = ((m - 2 : Nat) : Int) := by omega
    refine ⟨d, c, r, n + 1 + 1, m - 2, by dsimp only; rw [em]; rfl, dk2, by omega, by omega, by omega, fun H3 mm hmm dk3 k3 => ?_⟩
    refine ⟨_, _, rfl, rfl, ?_⟩
    have rg3 := (rg1.kp k2 dk2).kp k3 dk3
    have hmm1 : (1 : Int) + (mm : Int) ≤ 2 := by omega
    refine ⟨(by show 2 ≤ sizeLine; decide), fun p4 z4 => ?_⟩
    have s4 := same_upd (o := .tup [V.int (at_ : Int), V.int (1 + (mm : Int))]) z4
    refine ⟨p4, _, rfl, .inl (.inl upd_same), rfl, _, _, rfl, _, _, rfl, rfl, ?_⟩
    generalize upd H3 p4 (.tup [V.int (at_ : Int), V.int (1 + (mm : Int))]) = H4 at *
    have dk4 := dk3.same s4
    -- beside = tuple([many * int(good == at) for good in range(goods)])
    refine ⟨_, rfl, (g : Int), rfl, by omega, by omega, fun D hD => ?_⟩
    rw [Int.toNat_natCast]
    refine lc_range (lo := 0) (n := g) (fun i H' => Same H4 H' ∧ H' D = some (.lst ((besideL i at_ (1 + (mm : Int))).map V.int))) ⟨same_upd hD, upd_same⟩ ?_ ?_
    · rintro i H' hi ⟨sm, eD⟩
      refine ⟨rfl, all_in ?_⟩
      refine ⟨_, rfl, _, rfl, _, rfl, rfl, .inr ⟨_, rfl, ?_⟩⟩
      refine ⟨_, _, rfl, rfl, .inl ⟨by omega, by omega⟩, _, eD, ?_, ?_, ?_⟩
      · rw [List.length_map, beside_len]
        exact small1000 (by omega)
      · intro b o e
        rw [upd_ne (ne_of_none e hD)]
        exact sm _ _ e
      · rw [upd_same]
        unfold besideL
        rw [List.range_succ, List.map_append, List.map_append]
        rfl
    rintro H5 ⟨s5, eD⟩
    refine ⟨D, _, rfl, .inl ⟨SqL.of eD, fun p6 z6 => ?_⟩⟩
    have s6 := same_upd (o := .tup ((besideL g at_ (1 + (mm : Int))).map V.int)) z6
    have e6 : upd H5 p6 (.tup ((besideL g at_ (1 + (mm : Int))).map V.int)) p6 = some (.tup ((besideL g at_ (1 + (mm : Int))).map V.int)) := upd_same
    have s46 := s5.trans s6
    have f6 : H4 p6 = none := s5.free z6
    generalize upd H5 p6 (.tup ((besideL g at_ (1 + (mm : Int))).map V.int)) = H6 at *
    have dk6 := dk4.same s46
    have k6 : Kp d r H H6 := ((k1.trans k2).trans k3).trans (Kp.of (s4.trans s46))
    have rg6 : Rg R H6 d r := rg3.same (s4.trans s46)
    have r6 : R p6 := (rg3.same s4).new _ f6
    -- one, other = side(deck, goods, 1), side(deck, goods, 2)
    refine ⟨_, rfl, _, rfl, d, c, r, _, g, 1, rfl, dk6, by omega, hg, by omega, by omega, fun H7 p7 b7 sd7 f7 e7 dk7 k7 => ?_⟩
    refine ⟨_, rfl, _, rfl, d, c, r, _, g, 2, rfl, dk7, by omega, hg, by omega, by omega, fun H8 p8 b8 sd8 f8 e8 dk8 k8 => ?_⟩
    refine ⟨_, _, rfl, ?_⟩
    have nd6 := dk4.nd f6
    have nd7 := dk6.nd f7
    have e68 : H8 p6 = some (.tup ((besideL g at_ (1 + (mm : Int))).map V.int)) := k8 _ _ nd6.1 nd6.2.1 (k7 _ _ nd6.1 nd6.2.1 e6)
    have e78 : H8 p7 = some (.tup (b7.map V.int)) := k8 _ _ nd7.1 nd7.2.1 e7
    have rg7 := rg6.kp k7 dk7
    have rg8 := rg7.kp k8 dk8
    have r7 : R p7 := rg6.new _ f7
    have r8 : R p8 := rg7.new _ f8
    have k68 : Kp d r H H8 := (k6.trans k7).trans k8
    refine ⟨_, rfl, _, _, rfl, rfl, _, rfl, ite2 (fun hl => ?_) (fun hl => ?_)⟩
    · have hl1 : (1 : Int) + (mm : Int) < 2 := of_decide_eq_true hl
      refine ⟨_, rfl, _, rfl, p7, p6, _, _, rfl, .inl (.inl e78), .inl (.inl e68), by rw [sd7.len, beside_len], by rw [sd7.len]; omega, fun H9 p9 s9 f9 e9 => ?_⟩
      refine ⟨_, rfl, _, rfl, p8, p6, _, _, rfl, .inl (.inl (s9 _ _ e8)), .inl (.inl (s9 _ _ e68)), by rw [sd8.len, beside_len], by rw [sd8.len]; omega, fun H10 p10 s10 f10 e10 => ?_⟩
      refine ⟨(by show 2 ≤ sizeLine; decide), fun p11 z11 => ?_⟩
      have s11 := same_upd (o := .tup [V.ref p9, V.ref p10]) z11
      have rg9 := rg8.same s9
      have rg10 := rg9.same s10
      refine q _ _ (_, _) ⟨(side_plus sd7 (by omega) (by omega)).mono hm3, (side_plus sd8 (by omega) (by omega)).mono hm3⟩
        (.tup (rg10.new _ z11) upd_same (.cons (Dat.mkBag (rg8.new _ f9) (s11 _ _ (s10 _ _ e9))) (.cons (Dat.mkBag (rg9.new _ f10) (s11 _ _ e10)) .nil)))
        ((dk8.same ((s9.trans s10).trans s11)).mono (by omega)) (k68.trans (Kp.of ((s9.trans s10).trans s11)))
    · refine ⟨_, rfl, _, rfl, p7, p6, _, _, rfl, .inl (.inl e78), .inl (.inl e68), by rw [sd7.len, beside_len], by rw [sd7.len]; omega, fun H9 p9 s9 f9 e9 => ?_⟩
      refine ⟨_, rfl, (by show 2 ≤ sizeLine; decide), fun p11 z11 => ?_⟩
      have s11 := same_upd (o := .tup [V.ref p9, V.ref p6]) z11
      have rg9 := rg8.same s9
      refine q _ _ (_, _) ⟨(side_plus sd7 (by omega) (by omega)).mono hm3, (side_beside (by omega) (by omega)).mono hm3⟩
        (.tup (rg9.new _ z11) upd_same (.cons (Dat.mkBag (rg8.new _ f9) (s11 _ _ e9)) (.cons (Dat.mkBag r6 (s11 _ _ (s9 _ _ e68))) .nil)))
        ((dk8.same (s9.trans s11)).mono (by omega)) (k68.trans (Kp.of (s9.trans s11)))

end
end Lb
set_option Elab.async false
set_option linter.all false
set_option maxRecDepth 100000
set_option maxHeartbeats 8000000
namespace Lb
open PySem PySem.Spec PyProof.Rows L2 RZ TL
section
variable {P : Program} {w : World} {K : PySem.W.Frag} {mg : Str → Option Value} {base : Heap}
theorem sc__law_market : FnScope ["_law_deck_here", "_law_goods", "_law_trades", "_law_most", "_law_k"] ["_law_deck_here", "_law_goods", "_law_trades", "_law_most"] (defScope s__law_market) := ⟨rfl, rfl, rfl, by decide +kernel, rfl, by decide +kernel, by decide +kernel⟩
theorem own_market (D : Df K mg "_law_market" s__law_market) (B : Blt mg) (O__law_draw : Own P w K mg base "_law_draw" 1 ["_law_deck_here", "_law_many"] spDraw) (O__law_trade : Own P w K mg base "_law_trade" 3 ["_law_deck_here", "_law_goods", "_law_most"] spTrade) :
    Own P w K mg base "_law_market" 4 ["_law_deck_here", "_law_goods", "_law_trades", "_law_most"] spMarket := by
  refine own_of D sc__law_market (fun _ _ _ _ _ _ us hl => match us, hl with | [_, _, _, _], _ => rfl) (fun vs H Q E h => ?_) (fun f cdv A outer s H vs Q E hr h => ?_)
  · obtain ⟨_, _, _, _, _, _, _, _, rfl, _⟩ := h
    rfl
  · obtain ⟨R, d, c, r, n, g, tr, m, rfl, dk, hn, hg, hg2, ht, hm, rg, q⟩ := h
    refine ⟨_, (pss_one (ps_ret (pe_tup (pa_cons (pv 1) (pa_cons (pe_callTy (T := "tuple") call_tuple_of (by rfl) B.b_tuple (by decide +kernel) (pa_cons (pe_lc (own := [("_law_k", 4)]) (g := gName 4) (tt := tYes) rfl sc__law_market.nd (pi_range1 (by rfl) B.b_range (pa_cons (pe_own O__law_draw (hr.mono (by omega)) (by rfl) (pa_cons (pv 0) (pa_cons (pe_op op_add (pv 2) pe_int) pa_nil))) pa_nil)) (blkOk_by (own := [("_law_k", 4)]) (N := ["_law_deck_here", "_law_goods", "_law_trades", "_law_most", "_law_k"]) (sc := defScope s__law_market) (by decide +kernel)) (fun _ _ _ _ _ => (pg_name (i := 4) sc__law_market.nd rfl (.inl rfl))) (fun _ _ _ _ _ => pts_nil) (fun _ _ _ _ _ => (pe_own O__law_trade (hr.mono (by omega)) (by rfl) (pa_cons (pv 0) (pa_cons (pv 1) (pa_cons (pv 3) pa_nil)))))) pa_nil)) pa_nil))))), ?_⟩
    refine ⟨_, rfl, _, rfl, _, rfl, _, _, rfl, rfl, ?_⟩
    refine ⟨d, c, r, n, tr + 1, rfl, dk, by omega, by omega, by omega, fun H1 v hv dk1 k1 => ?_⟩
    refine ⟨(v : Int), rfl, by omega, by omega, fun L hL => ?_⟩
    rw [Int.toNat_natCast]
    have rg1 := rg.kp k1 dk1
    have ndL := dk1.nd hL
    refine lc_range (lo := 0) (n := v) (fun i H' => ∃ (ts : List Trd) (vs : List V), ts.length = i ∧ (∀ t ∈ ts, TrdOk g m t) ∧ H' L = some (.lst vs) ∧ Dats (wo R L) H' vs (ts.map trdD) ∧ Dk H' d c r (n + 1 + 20 * i) ∧ Kp d r H1 H' ∧ Rg R H' d r)
      ⟨[], [], rfl, (fun _ z => nomatch z), upd_same, .nil, dk1.same (same_upd hL), Kp.of (same_upd hL), rg1.same (same_upd hL)⟩ ?_ ?_
    · rintro i H2 hi ⟨ts, vs, hl, ok, eL, dt, dk2, k2, rg2⟩
      refine ⟨rfl, all_in ?_⟩
      refine ⟨_, rfl, _, rfl, _, rfl, wo R L, d, c, r, _, g, m, rfl, dk2, by omega, hg, hg2, hm, wo_rg rg2 eL, fun H3 u t tok dtu dk3 k3 => ?_⟩
      have eL3 : H3 L = some (.lst vs) := k3 _ _ ndL.1 ndL.2.1 eL
      have rg3 := rg2.kp k3 dk3
      refine ⟨vs, eL3, ?_, ?_⟩
      · rw [dt.length, List.length_map, hl]
        exact small1000 (by omega)
      refine ⟨ts ++ [t], vs ++ [u], by rw [List.length_append, hl]; rfl, ?_, upd_same, ?_, ?_, ?_, ?_⟩
      · intro t' ht'
        rcases List.mem_append.mp ht' with h | h
        · exact ok t' h
        · rw [List.mem_singleton.mp h]
          exact tok
      · rw [List.map_append]
        have onW : On (wo R L) H2 H3 := fun b o hb e => k3 b o (fun z => rg2.nd (z ▸ hb.1)) (fun z => rg2.nr (z ▸ hb.1)) e
        exact ((dt.on onW).append (.cons dtu .nil)).on wo_on
      · obtain ⟨t', cs, rs, g1, g2, g3, g4, g5, g6, g7, w1, w2, w3⟩ := dk3
        exact ⟨t', cs, rs, by omega, g2, g3, g4, g5, g6, g7, by rw [upd_ne ndL.1.symm]; exact w1, by rw [upd_ne ndL.2.2.symm]; exact w2, by rw [upd_ne ndL.2.1.symm]; exact w3⟩
      · intro b o z1 z2 e
        rw [upd_ne (ne_of_none e hL)]
        exact k3 _ _ z1 z2 (k2 _ _ z1 z2 e)
      · refine ⟨rg3.nd, rg3.nr, fun p hp => rg3.new p ?_⟩
        by_cases hpL : p = L
        · rw [hpL, upd_same] at hp
          cases hp
        · rw [upd_ne hpL] at hp
          exact hp
    · rintro H2 ⟨ts, vs, hl, ok, eL, dt, dk2, k2, rg2⟩
      refine ⟨L, _, rfl, .inl ⟨SqL.of eL, fun p3 z3 => ?_⟩⟩
      have s3 := same_upd (o := .tup vs) z3
      refine ⟨(by show 2 ≤ sizeLine; decide), fun p4 z4 => ?_⟩
      have s4 := same_upd (o := .tup [V.int (g : Int), V.ref p3]) z4
      have dR : Dats R H2 vs (ts.map trdD) := dt.sub fun b o hb _ => hb.1
      refine q _ _ ts (by omega) ok (.tup ((rg2.same s3).new _ z4) upd_same (.cons (.int _) (.cons (.tup (rg2.new _ z3) (s4 _ _ upd_same) (dR.same (s3.trans s4))) .nil))) ((dk2.same (s3.trans s4)).mono (by omega)) ((k1.trans k2).trans (Kp.of (s3.trans s4)))

end
end Lb
set_option Elab.async false
set_option linter.all false
set_option maxRecDepth 100000
set_option maxHeartbeats 8000000
namespace Lb
open PySem PySem.Spec PyProof.Rows L2 RZ TL
section
variable {P : Program} {w : World} {K : PySem.W.Frag} {mg : Str → Option Value} {base : Heap}
theorem sc__law_small : FnScope ["_law_deck_here"] ["_law_deck_here"] (defScope s__law_small) := ⟨rfl, rfl, rfl, by decide +kernel, rfl, by decide +kernel, by decide +kernel⟩
theorem own_small (D : Df K mg "_law_small" s__law_small) (B : Blt mg) (O__law_draw : Own P w K mg base "_law_draw" 1 ["_law_deck_here", "_law_many"] spDraw) (O__law_market : Own P w K mg base "_law_market" 4 ["_law_deck_here", "_law_goods", "_law_trades", "_law_most"] spMarket) :
    Own P w K mg base "_law_small" 5 ["_law_deck_here"] spSmall := by
  refine own_of D sc__law_small (fun _ _ _ _ _ _ us hl => match us, hl with | [_], _ => rfl) (fun vs H Q E h => ?_) (fun f cdv A outer s H vs Q E hr h => ?_)
  · obtain ⟨_, _, _, _, _, rfl, _⟩ := h
    rfl
  · obtain ⟨R, d, c, r, n, rfl, dk, hn, rg, q⟩ := h
    refine ⟨_, (pss_cons (ps_if (pt_cmpR op_gt (pe_own O__law_draw (hr.mono (by omega)) (by rfl) (pa_cons (pv 0) (pa_cons pe_int pa_nil))) pe_int (nomark _)) (pss_one (ps_ret (pe_own O__law_market (hr.mono (by omega)) (by rfl) (pa_cons (pv 0) (pa_cons pe_int (pa_cons pe_int (pa_cons pe_int pa_nil))))))) pss_nil)
      (pss_one (ps_ret (pe_ifExp (pt_cmpR op_eq (pe_own O__law_draw (hr.mono (by omega)) (by rfl) (pa_cons (pv 0) (pa_cons pe_int pa_nil))) pe_int (nomark _)) (pe_own O__law_market (hr.mono (by omega)) (by rfl) (pa_cons (pv 0) (pa_cons pe_int (pa_cons pe_int (pa_cons pe_int pa_nil))))) (pe_own O__law_market (hr.mono (by omega)) (by rfl) (pa_cons (pv 0) (pa_cons pe_int (pa_cons pe_int (pa_cons pe_int pa_nil))))))))), ?_⟩
    refine ⟨_, rfl, d, c, r, n, 3, rfl, dk, by omega, by omega, by omega, fun H1 v hv dk1 k1 => ?_⟩
    have rg1 := rg.kp k1 dk1
    refine ⟨_, _, rfl, rfl, _, rfl, ite2 (fun _ => ?_) (fun _ => ?_)⟩
    · refine ⟨_, rfl, R, d, c, r, n + 1, 2, 3, 3, rfl, dk1, by omega, by omega, by omega, by omega, by omega, rg1, fun H' u ts hl ok dt dk' k' => ?_⟩
      exact q H' u 2 ts ⟨by omega, by omega, by omega, fun t ht => ⟨(ok t ht).1.mono (by omega), (ok t ht).2.mono (by omega)⟩⟩ (by omega) hl dt (dk'.mono (by omega)) (k1.trans k')
    · refine ⟨_, rfl, d, c, r, n + 1, 3, rfl, dk1, by omega, by omega, by omega, fun H2 v2 hv2 dk2 k2 => ?_⟩
      have rg2 := rg1.kp k2 dk2
      refine ⟨rfl, _, rfl, ite2 (fun _ => ?_) (fun _ => ?_)⟩
      · refine ⟨_, rfl, R, d, c, r, n + 1 + 1, 1, 2, 4, rfl, dk2, by omega, by omega, by omega, by omega, by omega, rg2, fun H' u ts hl ok dt dk' k' => ?_⟩
        exact q H' u 1 ts ⟨by omega, by omega, by omega, ok⟩ (by omega) (by omega) dt (dk'.mono (by omega)) ((k1.trans k2).trans k')
      · refine ⟨_, rfl, R, d, c, r, n + 1 + 1, 3, 2, 3, rfl, dk2, by omega, by omega, by omega, by omega, by omega, rg2, fun H' u ts hl ok dt dk' k' => ?_⟩
        exact q H' u 3 ts ⟨by omega, by omega, by omega, fun t ht => ⟨(ok t ht).1.mono (by omega), (ok t ht).2.mono (by omega)⟩⟩ (by omega) (by omega) dt (dk'.mono (by omega)) ((k1.trans k2).trans k')

end
end Lb
set_option Elab.async false
set_option linter.all false
set_option maxRecDepth 100000
set_option maxHeartbeats 8000000
namespace Lb
open PySem PySem.Spec PyProof.Rows L2 RZ TL
section
variable {P : Program} {w : World} {K : PySem.W.Frag} {mg : Str → Option Value} {base : Heap}
theorem sc__law_bag : FnScope ["_law_deck_here", "_law_goods", "_law_most", "_law_good"] ["_law_deck_here", "_law_goods", "_law_most"] (defScope s__law_bag) := ⟨rfl, rfl, rfl, by decide +kernel, rfl, by decide +kernel, by decide +kernel⟩
theorem own_bag (D : Df K mg "_law_bag" s__law_bag) (B : Blt mg) (O__law_draw : Own P w K mg base "_law_draw" 1 ["_law_deck_here", "_law_many"] spDraw) : Own P w K mg base "_law_bag" 2 ["_law_deck_here", "_law_goods", "_law_most"] spBag := by
  refine own_of D sc__law_bag (fun _ _ _ _ _ _ us hl => match us, hl with | [_, _, _], _ => rfl) (fun vs H Q E h => ?_) (fun f cdv A outer s H vs Q E hr h => ?_)
  · obtain ⟨_, _, _, _, _, _, rfl, _⟩ := h
    rfl
  · obtain ⟨d, c, r, n, g, m, rfl, dk, hn, hg, hm, q⟩ := h
    refine ⟨_, (pss_one (ps_ret (pe_callTy (T := "tuple") call_tuple_of (by rfl) B.b_tuple (by decide +kernel) (pa_cons (pe_lc (own := [("_law_good", 3)]) (g := gName 3) (tt := tYes) rfl sc__law_bag.nd (pi_range1 (by rfl) B.b_range (pa_cons (pv 1) pa_nil)) (blkOk_by (own := [("_law_good", 3)]) (N := ["_law_deck_here", "_law_goods", "_law_most", "_law_good"]) (sc := defScope s__law_bag) (by decide +kernel)) (fun _ _ _ _ _ => (pg_name (i := 3) sc__law_bag.nd rfl (.inl rfl))) (fun _ _ _ _ _ => pts_nil) (fun _ _ _ _ _ => (pe_own O__law_draw (hr.mono (by omega)) (by rfl) (pa_cons (pv 0) (pa_cons (pe_op op_add (pv 2) pe_int) pa_nil))))) pa_nil)))), ?_⟩
    refine ⟨_, rfl, (g : Int), rfl, by omega, by omega, fun D hD => ?_⟩
    rw [Int.toNat_natCast]
    have nd := dk.nd hD
    refine lc_range (lo := 0) (n := g) (fun i H' => ∃ b : List Int, b.length = i ∧ (∀ x ∈ b, 0 ≤ x ∧ x ≤ (m : Int)) ∧ Dk H' d c r (n + i) ∧ Kp d r H H' ∧ H' D = some (.lst (b.map V.int)))
      ⟨[], rfl, fun x hx => absurd hx List.not_mem_nil, dk.same (same_upd hD), Kp.of (same_upd hD), upd_same⟩ ?_ ?_
    · rintro i H' hi ⟨b, lb, hb, dk', k', eD⟩
      refine ⟨rfl, all_in ?_⟩
      refine ⟨_, rfl, _, rfl, _, _, rfl, rfl, ?_⟩
      refine ⟨d, c, r, n + i, m + 1, rfl, dk', by omega, by omega, by omega, fun H2 v hv dk2 k2 => ?_⟩
      refine ⟨_, k2 _ _ nd.1 nd.2.1 eD, by rw [List.length_map]; exact small1000 (by omega), b ++ [(v : Int)], by rw [List.length_append, lb]; rfl, fun x hx => ?_, upd_dk dk2 nd.1 nd.2.1 nd.2.2, fun z o z1 z2 ez => ?_, ?_⟩
      · rcases List.mem_append.mp hx with h | h
        · exact hb x h
        · rw [List.mem_singleton.mp h]
          omega
      · rw [upd_ne (ne_of_none ez hD)]
        exact k2 _ _ z1 z2 (k' _ _ z1 z2 ez)
      · rw [upd_same, List.map_append]
        rfl
    · rintro H' ⟨b, lb, hb, dk', k', eD⟩
      refine ⟨D, _, rfl, .inl ⟨SqL.of eD, fun p hp => ?_⟩⟩
      have sp := same_upd (o := .tup (b.map V.int)) hp
      exact q _ p b lb hb (kp_free k' dk' hp) upd_same (dk'.same sp) (k'.trans (Kp.of sp))

end
end Lb
set_option Elab.async false
set_option linter.all false
set_option maxRecDepth 100000
set_option maxHeartbeats 8000000
namespace Lb
open PySem PySem.Spec PyProof.Rows L2 RZ TL
section
variable {P : Program} {w : World} {K : PySem.W.Frag} {mg : Str → Option Value} {base : Heap}
theorem sc_is_whole : FnScope ["value"] ["value"] (defScope s_is_whole) := ⟨rfl, rfl, rfl, by decide +kernel, rfl, by decide +kernel, by decide +kernel⟩
theorem own_wholeX (D : Df K mg "is_whole" s_is_whole) (B : Blt mg) : Own P w K mg base "is_whole" 1 ["value"] (spWholeX K) := by
  refine own_of D sc_is_whole (fun _ _ _ _ _ _ us hl => match us, hl with | [_], _ => rfl) (fun vs H Q E h => ?_) (fun f cdv A outer s H vs Q E hr h => ?_)
  · obtain ⟨_, _, _, _, rfl, _⟩ := h
    rfl
  · obtain ⟨v, ty, b1, b2, rfl, ht, k1, k2, q⟩ := h
    refine ⟨_, (pss_one (ps_ret (pe_and (pe_callB (id := "isinstance") call_isi (by rfl) B.b_isinstance (by decide +kernel) (pa_cons (pv 0) (pa_cons (pe_bltn (v := .ty "int") (u := .type "int") (by rfl) B.b_int (by decide +kernel) rfl) pa_nil))) (pe_one (pe_not (pe_callB (id := "isinstance") call_isi (by rfl) B.b_isinstance (by decide +kernel) (pa_cons (pv 0) (pa_cons (pe_bltn (v := .ty "bool") (u := .type "bool") (by rfl) B.b_bool (by decide +kernel) rfl) pa_nil)))))))), ?_⟩
    refine ⟨_, rfl, _, _, _, _, _, rfl, .ty _, ht, k1, _, rfl, ?_⟩
    cases b1 with
    | true => exact iteT ⟨_, rfl, _, _, _, _, _, rfl, .ty _, ht, k2, _, rfl, q⟩
    | false => exact iteF q

end
end Lb
set_option Elab.async false
set_option linter.all false
set_option maxRecDepth 100000
set_option maxHeartbeats 8000000
namespace Lb
open PySem PySem.Spec PyProof.Rows L2 RZ TL
section
variable {P : Program} {w : World} {K : PySem.W.Frag} {mg : Str → Option Value} {base : Heap}
theorem sc_is_pair : FnScope ["value"] ["value"] (defScope s_is_pair) := ⟨rfl, rfl, rfl, by decide +kernel, rfl, by decide +kernel, by decide +kernel⟩
theorem own_pair (D : Df K mg "is_pair" s_is_pair) (B : Blt mg) : Own P w K mg base "is_pair" 1 ["value"] spPair := by
  refine own_of D sc_is_pair (fun _ _ _ _ _ _ us hl => match us, hl with | [_], _ => rfl) (fun vs H Q E h => ?_) (fun f cdv A outer s H vs Q E hr h => ?_)
  · obtain ⟨_, _, _, rfl, _⟩ := h
    rfl
  · obtain ⟨R, v, d, rfl, dt, q⟩ := h
    refine ⟨_, (pss_one (ps_ret (pe_and (pe_callB (id := "isinstance") call_isi (by rfl) B.b_isinstance (by decide +kernel) (pa_cons (pv 0) (pa_cons (pe_bltn (v := .ty "tuple") (u := .type "tuple") (by rfl) B.b_tuple (by decide +kernel) rfl) pa_nil))) (pe_one (pe_cmpR op_eq (pe_callB (id := "len") call_len_seq (by rfl) B.b_len PySem.boot_len (pa_cons (pv 0) pa_nil)) pe_int (nomark _)))))), ?_⟩
    refine ⟨_, rfl, _, _, _, _, _, rfl, .ty _, dat_ty dt, kit_ty (kit_tup d), _, rfl, ?_⟩
    cases dt with
    | @tup a xs ds ra e t =>
      refine iteT ⟨_, rfl, a, _, rfl, .inr (.inl (.inl e)), rfl, ?_⟩
      have e2 : decide (V.int ((xs.length : Nat) : Int) = V.int 2) = pairB (.tuple ds) := by
        unfold pairB
        rw [t.length]
        refine decide_eq_decide.mpr ⟨fun z => ?_, fun z => ?_⟩
        · have := V.int.inj z
          omega
        · rw [z]
          rfl
      rw [← e2] at q
      exact q
    | _ => exact iteF q

end
end Lb
set_option Elab.async false
set_option linter.all false
set_option maxRecDepth 100000
set_option maxHeartbeats 8000000
namespace Lb
open PySem PySem.Spec PyProof.Rows L2 RZ TL
section
variable {P : Program} {w : World} {K : PySem.W.Frag} {mg : Str → Option Value} {base : Heap}
theorem sc_is_bag : FnScope ["goods", "value", "amount"] ["goods", "value"] (defScope s_is_bag) := ⟨rfl, rfl, rfl, by decide +kernel, rfl, by decide +kernel, by decide +kernel⟩
theorem own_isbag (D : Df K mg "is_bag" s_is_bag) (B : Blt mg) (O_is_whole : Own P w K mg base "is_whole" 1 ["value"] spWhole) : Own P w K mg base "is_bag" 2 ["goods", "value"] spIsBag := by
  refine own_of D sc_is_bag (fun _ _ _ _ _ _ us hl => match us, hl with | [_, _], _ => rfl) (fun vs H Q E h => ?_) (fun f cdv A outer s H vs Q E hr h => ?_)
  · obtain ⟨_, _, _, _, rfl, _⟩ := h
    rfl
  · obtain ⟨R, v, g, d, rfl, dt, hw, q⟩ := h
    refine ⟨_, (pss_cons (ps_if (PW.pt (pw_or (pt_not (pt_val (pe_callB (id := "isinstance") call_isi (by rfl) B.b_isinstance (by decide +kernel) (pa_cons (pv 1) (pa_cons (pe_bltn (v := .ty "tuple") (u := .type "tuple") (by rfl) B.b_tuple (by decide +kernel) rfl) pa_nil))))) (pw_or1 (pt_cmpR op_ne (pe_callB (id := "len") call_len_seq (by rfl) B.b_len PySem.boot_len (pa_cons (pv 1) pa_nil)) (pv 0) (nomark _))))) (pss_one (ps_ret pe_bl)) pss_nil)
      (pss_one (ps_ret (pe_callB (id := "all") (cr_all rfl) (by rfl) B.b_all (by decide +kernel) (pa_cons (pe_lc (own := [("amount", 2)]) (g := gName 2) (tt := tYes) rfl sc_is_bag.nd (pi_tup (pv 1)) (blkOk_by (own := [("amount", 2)]) (N := ["goods", "value", "amount"]) (sc := defScope s_is_bag) (by decide +kernel)) (fun _ _ _ _ _ => (pg_name (i := 2) sc_is_bag.nd rfl (.inl rfl))) (fun _ _ _ _ _ => pts_nil) (fun _ _ _ _ _ => (pe_and (pe_own O_is_whole (hr.mono (by omega)) (by rfl) (pa_cons (pv 2) pa_nil)) (pe_one (pe_cmpR op_ge (pv 2) pe_int (nomark _)))))) pa_nil))))), ?_⟩
    refine ⟨_, rfl, _, _, _, _, _, rfl, .ty _, dat_ty dt, kit_ty (kit_tup d), _, rfl, ?_⟩
    cases dt with
    | @tup a xs ds ra e t =>
      have hlx := t.length
      have hlen := wts_len ds
      have hw' : 4 + wts ds ≤ 1000000 := hw
      refine iteF ⟨_, rfl, a, _, rfl, .inr (.inl (.inl e)), _, rfl, rfl, _, rfl, ?_⟩
      by_cases hg : (ds.length : Int) = g
      · have e1 : decide (V.int ((xs.length : Nat) : Int) = V.int g) = true := decide_eq_true (by rw [hlx, hg])
        rw [e1]
        refine iteF ?_
        refine ⟨_, rfl, a, rfl, ⟨_, .inl (.inl e)⟩, fun L hL => ?_⟩
        refine lc_tup (K := K) (a := a) (xs := xs) (fun i H' => Same H H' ∧ H' L = some (.lst (((ds.take i).map nn).map V.bl))) ⟨same_upd hL, upd_same⟩ (fun i H' _ hP => .inl (.inl (hP.1 _ _ e))) ?_ ?_
        · rintro i x H' hx ⟨sm, eL⟩
          obtain ⟨dx, hdx, dtx⟩ := t.get' hx
          have hi : i < ds.length := (List.getElem?_eq_some_iff.mp hdx).1
          have fin : ∃ acc, H' L = some (.lst acc) ∧ acc.length < sizeLine ∧ Same H (upd H' L (.lst (acc ++ [V.bl (nn dx)]))) ∧ upd H' L (.lst (acc ++ [V.bl (nn dx)])) L = some (.lst (((ds.take (i + 1)).map nn).map V.bl)) := by
            refine ⟨_, eL, ?_, fun b o eb => ?_, ?_⟩
            · rw [List.length_map, List.length_map, List.length_take, sizeLine_eq]
              omega
            · rw [upd_ne (ne_of_none eb hL)]
              exact sm _ _ eb
            · rw [upd_same, take_map hdx, List.map_append]
              rfl
          refine ⟨rfl, all_in ?_⟩
          refine ⟨_, rfl, R, x, dx, rfl, dtx.same sm, _, rfl, ?_⟩
          cases dtx with
          | int n => exact iteT ⟨_, rfl, _, _, rfl, rfl, fin⟩
          | _ => exact iteF fin
        · rintro H' ⟨sm, eL⟩
          rw [hlx, List.take_length] at eL
          refine ⟨L, _, rfl, SqL.of eL, ?_⟩
          have e2 : ((ds.map nn).all id) = bagB g (.tuple ds) := by
            rw [bagB_tup, decide_eq_true hg, Bool.true_and, List.all_map]
            rfl
          rw [e2]
          exact q H' sm
      · have e1 : decide (V.int ((xs.length : Nat) : Int) = V.int g) = false := decide_eq_false (fun z => hg (by have := V.int.inj z; omega))
        rw [e1]
        refine iteT ?_
        have e2 : bagB g (.tuple ds) = false := by
          rw [bagB_tup, decide_eq_false hg, Bool.false_and]
        have := q H (Same.refl H)
        rw [e2] at this
        exact this
    | _ => exact iteT (iteT (q H (Same.refl H)))
theorem own_isbagL (D : Df K mg "is_bag" s_is_bag) (B : Blt mg) (O_wx : Own P w K mg base "is_whole" 1 ["value"] (spWholeX K)) : Own P w K mg base "is_bag" 2 ["goods", "value"] spIsBagL := by
  have O_is_whole := O_wx.imp whole_imp
  refine own_of D sc_is_bag (fun _ _ _ _ _ _ us hl => match us, hl with | [_, _], _ => rfl) (fun vs H Q E h => ?_) (fun f cdv A outer s H vs Q E hr h => ?_)
  · obtain ⟨_, _, _, _, rfl, _⟩ := h
    rfl
  · obtain ⟨R, v, g, ds, rfl, dt, hw, q⟩ := h
    refine ⟨_, (pss_cons (ps_if (PW.pt (pw_or (pt_not (pt_val (pe_callB (id := "isinstance") call_isi (by rfl) B.b_isinstance (by decide +kernel) (pa_cons (pv 1) (pa_cons (pe_bltn (v := .ty "tuple") (u := .type "tuple") (by rfl) B.b_tuple (by decide +kernel) rfl) pa_nil))))) (pw_or1 (pt_cmpR op_ne (pe_callB (id := "len") call_len_seq (by rfl) B.b_len PySem.boot_len (pa_cons (pv 1) pa_nil)) (pv 0) (nomark _))))) (pss_one (ps_ret pe_bl)) pss_nil)
      (pss_one (ps_ret (pe_callB (id := "all") (cr_all rfl) (by rfl) B.b_all (by decide +kernel) (pa_cons (pe_lc (own := [("amount", 2)]) (g := gName 2) (tt := tYes) rfl sc_is_bag.nd (pi_tup (pv 1)) (blkOk_by (own := [("amount", 2)]) (N := ["goods", "value", "amount"]) (sc := defScope s_is_bag) (by decide +kernel)) (fun _ _ _ _ _ => (pg_name (i := 2) sc_is_bag.nd rfl (.inl rfl))) (fun _ _ _ _ _ => pts_nil) (fun _ _ _ _ _ => (pe_and (pe_own O_is_whole (hr.mono (by omega)) (by rfl) (pa_cons (pv 2) pa_nil)) (pe_one (pe_cmpR op_ge (pv 2) pe_int (nomark _)))))) pa_nil))))), ?_⟩
    refine ⟨_, rfl, _, _, _, _, _, rfl, .ty _, dat_ty dt, kit_ty (kit_tup (.tuple ds)), _, rfl, ?_⟩
    cases dt with
    | @tup a xs _ ra e t =>
      have hlx := t.length
      refine iteF ⟨_, rfl, a, _, rfl, .inr (.inl (.inl e)), _, rfl, rfl, _, rfl, ?_⟩
      by_cases hg : (ds.length : Int) = g
      · have e1 : decide (V.int ((xs.length : Nat) : Int) = V.int g) = true := decide_eq_true (by rw [hlx, hg])
        rw [e1]
        refine iteF ?_
        refine ⟨_, rfl, a, rfl, ⟨_, .inl (.inl e)⟩, fun L hL => ?_⟩
        refine lc_tup (K := K) (a := a) (xs := xs) (fun i H' => Same H H' ∧ H' L = some (.lst (((ds.take i).map nn).map V.bl))) ⟨same_upd hL, upd_same⟩ (fun i H' _ hP => .inl (.inl (hP.1 _ _ e))) ?_ ?_
        · rintro i x H' hx ⟨sm, eL⟩
          obtain ⟨dx, hdx, dtx⟩ := t.get' hx
          have hi : i < ds.length := (List.getElem?_eq_some_iff.mp hdx).1
          have fin : ∃ acc, H' L = some (.lst acc) ∧ acc.length < sizeLine ∧ Same H (upd H' L (.lst (acc ++ [V.bl (nn dx)]))) ∧ upd H' L (.lst (acc ++ [V.bl (nn dx)])) L = some (.lst (((ds.take (i + 1)).map nn).map V.bl)) := by
            refine ⟨_, eL, ?_, fun b o eb => ?_, ?_⟩
            · rw [List.length_map, List.length_map, List.length_take, sizeLine_eq]
              omega
            · rw [upd_ne (ne_of_none eb hL)]
              exact sm _ _ eb
            · rw [upd_same, take_map hdx, List.map_append]
              rfl
          refine ⟨rfl, all_in ?_⟩
          refine ⟨_, rfl, R, x, dx, rfl, dtx.same sm, _, rfl, ?_⟩
          cases dtx with
          | int n => exact iteT ⟨_, rfl, _, _, rfl, rfl, fin⟩
          | _ => exact iteF fin
        · rintro H' ⟨sm, eL⟩
          rw [hlx, List.take_length] at eL
          refine ⟨L, _, rfl, SqL.of eL, ?_⟩
          have e2 : ((ds.map nn).all id) = bagB g (.tuple ds) := by
            rw [bagB_tup, decide_eq_true hg, Bool.true_and, List.all_map]
            rfl
          rw [e2]
          exact q H' sm
      · have e1 : decide (V.int ((xs.length : Nat) : Int) = V.int g) = false := decide_eq_false (fun z => hg (by have := V.int.inj z; omega))
        rw [e1]
        refine iteT ?_
        have e2 : bagB g (.tuple ds) = false := by
          rw [bagB_tup, decide_eq_false hg, Bool.false_and]
        have := q H (Same.refl H)
        rw [e2] at this
        exact this

end
end Lb
set_option Elab.async false
set_option linter.all false
set_option maxRecDepth 100000
set_option maxHeartbeats 8000000
namespace Lb
open PySem PySem.Spec PyProof.Rows L2 RZ TL
section
variable {P : Program} {w : World} {K : PySem.W.Frag} {mg : Str → Option Value} {base : Heap}
theorem sc_trade_fault : FnScope ["goods", "value", "bag"] ["goods", "value"] (defScope s_trade_fault) := ⟨rfl, rfl, rfl, by decide +kernel, rfl, by decide +kernel, by decide +kernel⟩
theorem own_fault (D : Df K mg "trade_fault" s_trade_fault) (B : Blt mg) (O_is_pair : Own P w K mg base "is_pair" 1 ["value"] spPair) (O_is_bag : Own P w K mg base "is_bag" 2 ["goods", "value"] spIsBag)
    {t1 t2 : Tok} (c_MAX_AMOUNT : mg "MAX_AMOUNT" = some (.int 3 t1)) (c_MAX_TOTAL : mg "MAX_TOTAL" = some (.int 4 t2)) : Own P w K mg base "trade_fault" 3 ["goods", "value"] spFault := by
  refine own_of D sc_trade_fault (fun _ _ _ _ _ _ us hl => match us, hl with | [_, _], _ => rfl) (fun vs H Q E h => ?_) (fun f cdv A outer s H vs Q E hr h => ?_)
  · obtain ⟨_, _, _, _, rfl, _⟩ := h
    rfl
  · obtain ⟨R, v, g, d, rfl, hg, dt, hw, q⟩ := h
    refine ⟨_, (pss_cons (ps_if (PW.pt (pw_or (pt_not (pt_val (pe_own O_is_pair (hr.mono (by omega)) (by rfl) (pa_cons (pv 1) pa_nil)))) (pw_or1 (pt_not (pt_val (pe_callB (id := "all") (cr_all rfl) (by rfl) B.b_all (by decide +kernel) (pa_cons (pe_lc (own := [("bag", 2)]) (g := gName 2) (tt := tYes) rfl sc_trade_fault.nd (pi_tup (pv 1)) (blkOk_by (own := [("bag", 2)]) (N := ["goods", "value", "bag"]) (sc := defScope s_trade_fault) (by decide +kernel)) (fun _ _ _ _ _ => (pg_name (i := 2) sc_trade_fault.nd rfl (.inl rfl))) (fun _ _ _ _ _ => pts_nil) (fun _ _ _ _ _ => (pe_own O_is_bag (hr.mono (by omega)) (by rfl) (pa_cons (pv 0) (pa_cons (pv 2) pa_nil))))) pa_nil))))))) (pss_one (ps_ret pe_str)) pss_nil)
      (pss_cons (ps_if (pt_val (pe_callB (id := "any") (cr_any rfl) (by rfl) B.b_any (by decide +kernel) (pa_cons (pe_lc (own := [("bag", 2)]) (g := gName 2) (tt := tYes) rfl sc_trade_fault.nd (pi_tup (pv 1)) (blkOk_by (own := [("bag", 2)]) (N := ["goods", "value", "bag"]) (sc := defScope s_trade_fault) (by decide +kernel)) (fun _ _ _ _ _ => (pg_name (i := 2) sc_trade_fault.nd rfl (.inl rfl))) (fun _ _ _ _ _ => pts_nil) (fun _ _ _ _ _ => (pe_cmpR op_gt (pe_callB (id := "max") (show CallR _ _ (rMaxT K) from (cr_maxT rfl (hu_of hr))) (by rfl) B.b_max (by decide +kernel) (pa_cons (pv 2) pa_nil)) (pe_glob (v := .int 3) (by rfl) c_MAX_AMOUNT ⟨_, rfl⟩) (nomark _)))) pa_nil))) (pss_one (ps_ret pe_str)) pss_nil)
      (pss_cons (ps_if (pt_val (pe_callB (id := "any") (cr_any rfl) (by rfl) B.b_any (by decide +kernel) (pa_cons (pe_lc (own := [("bag", 2)]) (g := gName 2) (tt := tYes) rfl sc_trade_fault.nd (pi_tup (pv 1)) (blkOk_by (own := [("bag", 2)]) (N := ["goods", "value", "bag"]) (sc := defScope s_trade_fault) (by decide +kernel)) (fun _ _ _ _ _ => (pg_name (i := 2) sc_trade_fault.nd rfl (.inl rfl))) (fun _ _ _ _ _ => pts_nil) (fun _ _ _ _ _ => (pe_cmpR op_gt (pe_callB (id := "sum") (show CallR _ _ (rSumT K) from (cr_sumT rfl)) (by rfl) B.b_sum (by decide +kernel) (pa_cons (pv 2) pa_nil)) (pe_glob (v := .int 4) (by rfl) c_MAX_TOTAL ⟨_, rfl⟩) (nomark _)))) pa_nil))) (pss_one (ps_ret pe_str)) pss_nil)
      (pss_one (ps_ret pe_non))))), ?_⟩
    refine ⟨_, rfl, R, v, d, rfl, dt, _, rfl, ?_⟩
    cases hp : pairB d with
    | false =>
      have := q H (Same.refl H)
      rw [tw_not hp] at this
      exact iteT (iteT this)
    | true =>
      obtain ⟨x, y, rfl⟩ := pair_shape hp
      refine iteF ?_
      rw [tw_pair] at q
      have hwx : wt x ≤ 1000000 ∧ wt y ≤ 1000000 := by
        have : 4 + (wt x + 2 + (wt y + 2 + 0)) ≤ 1000000 := hw
        omega
      cases dt with
      | @tup a xs ds ra e t =>
        cases t with
        | @cons vx _ _ _ dx t =>
          cases t with
          | @cons vy _ _ _ dy t =>
            cases t
            -- all([is_bag(goods, bag) for bag in value])
            refine ⟨_, rfl, a, rfl, ⟨_, .inl (.inl e)⟩, fun L hL => ?_⟩
            refine lc_tup (K := K) (a := a) (xs := [vx, vy]) (fun i H' => Same H H' ∧ H' L = some (.lst ((([x, y].take i).map (bagB g)).map V.bl))) ⟨same_upd hL, upd_same⟩ (fun i H' _ hP => .inl (.inl (hP.1 _ _ e))) ?_ ?_
            · rintro i z H' hz ⟨sm, eL⟩
              obtain ⟨dz, hdz, dtz⟩ := (Dats.cons dx (.cons dy .nil)).get' hz
              have hi : i < 2 := (List.getElem?_eq_some_iff.mp hdz).1
              have hwz : wt dz ≤ 1000000 := by
                have := List.mem_of_getElem? hdz
                rcases List.mem_cons.mp this with rfl | this
                · exact hwx.1
                · rw [List.mem_singleton.mp this]
                  exact hwx.2
              refine ⟨rfl, all_in ?_⟩
              refine ⟨_, rfl, _, rfl, R, z, g, dz, rfl, dtz.same sm, hwz, fun H2 s2 => ?_⟩
              refine ⟨_, s2 _ _ eL, ?_, fun b o eb => ?_, ?_⟩
              · rw [List.length_map, List.length_map, List.length_take]
                exact small1000 (by simp; omega)
              · rw [upd_ne (ne_of_none eb hL)]
                exact s2 _ _ (sm _ _ eb)
              · rw [upd_same, take_map hdz, List.map_append]
                rfl
            rintro H1 ⟨s1, e1⟩
            refine ⟨L, _, rfl, SqL.of e1, _, rfl, ?_⟩
            have ea : ((([x, y].take [vx, vy].length).map (bagB g)).all id) = (bagB g x && bagB g y) := by
              show (bagB g x && (bagB g y && true)) = _
              rw [Bool.and_true]
            rw [ea]
            cases hb : (bagB g x && bagB g y) with
            | false =>
              have := q H1 s1
              rw [hb] at this
              exact this
            | true =>
              rw [Bool.and_eq_true] at hb
              obtain ⟨nx, rfl, lx, px, ex⟩ := bag_ints hb.1
              obtain ⟨ny, rfl, ly, py, ey⟩ := bag_ints hb.2
              obtain ⟨ax, rfl, rax, eax⟩ := dx.bag
              obtain ⟨ay, rfl, ray, eay⟩ := dy.bag
              have hb' : (bagB g (bagD nx) && bagB g (bagD ny)) = true := by rw [hb.1, hb.2]; rfl
              rw [hb', if_pos rfl, ex, ey] at q
              -- any([max(bag) > MAX_AMOUNT for bag in value])
              have e' := s1 _ _ e
              refine iteF ⟨_, rfl, a, rfl, ⟨_, .inl (.inl e')⟩, fun M hM => ?_⟩
              refine lc_tup (K := K) (a := a) (xs := [V.ref ax, V.ref ay]) (fun i H' => Same H1 H' ∧ H' M = some (.lst ((([nx, ny].take i).map fun n => n.any (fun i => decide (3 < i))).map V.bl))) ⟨same_upd hM, upd_same⟩ (fun i H' _ hP => .inl (.inl (hP.1 _ _ e'))) ?_ ?_
              · rintro i z H' hz ⟨sm, eM⟩
                obtain ⟨n, az, hn, rfl, enz, gnz⟩ : ∃ n az, [nx, ny][i]? = some n ∧ z = V.ref az ∧ H az = some (.tup (n.map V.int)) ∧ 0 < n.length := by
                  match i, hz with
                  | 0, hz => exact ⟨nx, ax, rfl, (Option.some.inj hz).symm, eax, by omega⟩
                  | 1, hz => exact ⟨ny, ay, rfl, (Option.some.inj hz).symm, eay, by omega⟩
                refine ⟨rfl, all_in ?_⟩
                refine ⟨_, rfl, az, n, rfl, .inl (.inl (sm _ _ (s1 _ _ enz))), gnz, fun m hm1 hm2 => ?_⟩
                refine ⟨_, _, rfl, rfl, _, eM, ?_, fun b o eb => ?_, ?_⟩
                · rw [List.length_map, List.length_map, List.length_take]
                  exact small1000 (by simp; omega)
                · rw [upd_ne (ne_of_none eb hM)]
                  exact sm _ _ eb
                · rw [upd_same, take_map hn, List.map_append, ← max_any hm1 hm2]
                  rfl
              rintro H2 ⟨s2, e2⟩
              refine ⟨M, _, rfl, SqL.of e2, _, rfl, ?_⟩
              have eb : ((([nx, ny].take [V.ref ax, V.ref ay].length).map fun n => n.any (fun i => decide (3 < i))).any id) = (nx.any (fun i => decide (3 < i)) || ny.any (fun i => decide (3 < i))) := by
                show (nx.any (fun i => decide (3 < i)) || (ny.any (fun i => decide (3 < i)) || false)) = _
                rw [Bool.or_false]
              rw [eb]
              cases hm : (nx.any (fun i => decide (3 < i)) || ny.any (fun i => decide (3 < i))) with
              | true =>
                have := q H2 (s1.trans s2)
                rw [hm] at this
                exact this
              | false =>
                rw [hm, if_neg Bool.false_ne_true] at q
                -- any([sum(bag) > MAX_TOTAL for bag in value])
                have e'' := s2 _ _ e'
                refine iteF ⟨_, rfl, a, rfl, ⟨_, .inl (.inl e'')⟩, fun N hN => ?_⟩
                refine lc_tup (K := K) (a := a) (xs := [V.ref ax, V.ref ay]) (fun i H' => Same H2 H' ∧ H' N = some (.lst ((([nx, ny].take i).map fun n => decide (4 < n.sum)).map V.bl))) ⟨same_upd hN, upd_same⟩ (fun i H' _ hP => .inl (.inl (hP.1 _ _ e''))) ?_ ?_
                · rintro i z H' hz ⟨sm, eM⟩
                  obtain ⟨n, az, hn, rfl, enz⟩ : ∃ n az, [nx, ny][i]? = some n ∧ z = V.ref az ∧ H az = some (.tup (n.map V.int)) := by
                    match i, hz with
                    | 0, hz => exact ⟨nx, ax, rfl, (Option.some.inj hz).symm, eax⟩
                    | 1, hz => exact ⟨ny, ay, rfl, (Option.some.inj hz).symm, eay⟩
                  refine ⟨rfl, all_in ?_⟩
                  refine ⟨_, rfl, az, n, rfl, .inl (.inl (sm _ _ (s2 _ _ (s1 _ _ enz)))), ?_⟩
                  refine ⟨_, _, rfl, rfl, _, eM, ?_, fun b o eb => ?_, ?_⟩
                  · rw [List.length_map, List.length_map, List.length_take]
                    exact small1000 (by simp; omega)
                  · rw [upd_ne (ne_of_none eb hN)]
                    exact sm _ _ eb
                  · rw [upd_same, take_map hn, List.map_append]
                    rfl
                rintro H3 ⟨s3, e3⟩
                refine ⟨N, _, rfl, SqL.of e3, _, rfl, ?_⟩
                have ec : ((([nx, ny].take [V.ref ax, V.ref ay].length).map fun n => decide (4 < n.sum)).any id) = (decide (4 < nx.sum) || decide (4 < ny.sum)) := by
                  show (decide (4 < nx.sum) || (decide (4 < ny.sum) || false)) = _
                  rw [Bool.or_false]
                rw [ec]
                have fin := q H3 ((s1.trans s2).trans s3)
                cases ht : (decide (4 < nx.sum) || decide (4 < ny.sum)) with
                | true =>
                  rw [ht] at fin
                  exact fin
                | false =>
                  rw [ht] at fin
                  exact fin

end
end Lb
set_option Elab.async false
set_option linter.all false
set_option maxRecDepth 100000
set_option maxHeartbeats 8000000
namespace Lb
open PySem PySem.Spec PyProof.Rows L2 RZ TL
section
variable {P : Program} {w : World} {K : PySem.W.Frag} {mg : Str → Option Value} {base : Heap}
theorem sc_market_error : FnScope ["value", "goods", "trades", "k", "trade", "word"] ["value"] (defScope s_market_error) := ⟨rfl, rfl, rfl, by decide +kernel, rfl, by decide +kernel, by decide +kernel⟩
theorem own_err (D : Df K mg "market_error" s_market_error) (B : Blt mg) (O_is_whole : Own P w K mg base "is_whole" 1 ["value"] spWhole) (O_is_pair : Own P w K mg base "is_pair" 1 ["value"] spPair) (O_trade_fault : Own P w K mg base "trade_fault" 3 ["goods", "value"] spFault)
    {t1 t2 : Tok} (c_MAX_GOODS : mg "MAX_GOODS" = some (.int 4 t1)) (c_MAX_TRADES : mg "MAX_TRADES" = some (.int 4 t2)) : Own P w K mg base "market_error" 4 ["value"] spErr := by
  refine own_of D sc_market_error (fun _ _ _ _ _ _ us hl => match us, hl with | [_], _ => rfl) (fun vs H Q E h => ?_) (fun f cdv A outer s H vs Q E hr h => ?_)
  · obtain ⟨_, _, _, rfl, _⟩ := h
    rfl
  · obtain ⟨R, v, d, rfl, dt, hw, hR, q⟩ := h
    refine ⟨_, (pss_cons (ps_if (pt_not (pt_val (pe_own O_is_pair (hr.mono (by omega)) (by rfl) (pa_cons (pv 0) pa_nil)))) (pss_one (ps_ret (pe_tup (pa_cons pe_non (pa_cons pe_str pa_nil))))) pss_nil)
      (pss_cons (ps_asg (pv 0) (pg_tup rfl (pgs_cons (pg_name (i := 1) sc_market_error.nd rfl (.inl rfl)) (pgs_cons (pg_name (i := 2) sc_market_error.nd rfl (.inl rfl)) pgs_nil))))
      (pss_cons (ps_if (PW.pt (pw_or (pt_not (pt_val (pe_own O_is_whole (hr.mono (by omega)) (by rfl) (pa_cons (pv 1) pa_nil)))) (pw_or1 (pt_not (pt_chain op_le op_le pe_int (pv 1) (pe_glob (v := .int 4) (by rfl) c_MAX_GOODS ⟨_, rfl⟩)))))) (pss_one (ps_ret (pe_tup (pa_cons pe_non (pa_cons pe_str pa_nil))))) pss_nil)
      (pss_cons (ps_if (pt_not (pt_val (pe_callB (id := "isinstance") call_isi (by rfl) B.b_isinstance (by decide +kernel) (pa_cons (pv 2) (pa_cons (pe_bltn (v := .ty "tuple") (u := .type "tuple") (by rfl) B.b_tuple (by decide +kernel) rfl) pa_nil))))) (pss_one (ps_ret (pe_tup (pa_cons pe_non (pa_cons pe_str pa_nil))))) pss_nil)
      (pss_cons (ps_if (pt_cmpR op_gt (pe_callB (id := "len") call_len_seq (by rfl) B.b_len PySem.boot_len (pa_cons (pv 2) pa_nil)) (pe_glob (v := .int 4) (by rfl) c_MAX_TRADES ⟨_, rfl⟩) (nomark _)) (pss_one (ps_ret (pe_tup (pa_cons pe_non (pa_cons pe_str pa_nil))))) pss_nil)
      (pss_cons (ps_for PassesOwn.never rfl (pi_enumT (by rfl) B.b_enumerate (pa_cons (pv 2) pa_nil)) (pg_tup rfl (pgs_cons (pg_name (i := 3) sc_market_error.nd rfl (.inl rfl)) (pgs_cons (pg_name (i := 4) sc_market_error.nd rfl (.inl rfl)) pgs_nil)))
        (pss_cons (ps_set (i := 5) sc_market_error.nd rfl (.inl rfl) (pe_own O_trade_fault (hr.mono (by omega)) (by rfl) (pa_cons (pv 1) (pa_cons (pv 4) pa_nil))))
      (pss_one (ps_if (pt_cmp (pc_notN (pv 5))) (pss_one (ps_ret (pe_tup (pa_cons (pv 3) (pa_cons (pv 5) pa_nil))))) pss_nil))))
      (pss_one (ps_ret pe_non)))))))), ?_⟩
    refine ⟨_, rfl, R, v, d, rfl, dt, _, rfl, ?_⟩
    cases hp : pairB d with
    | false =>
      rw [err_not hp] at q
      exact iteT ⟨(by show 2 ≤ sizeLine; decide), fun p hp => q _ _ (same_upd hp) (new_err _ hp (hR p hp))⟩
    | true =>
      obtain ⟨x, y, rfl⟩ := pair_shape hp
      have hwx : wt y ≤ 1000000 := by
        have : 4 + (wt x + 2 + (wt y + 2 + 0)) ≤ 1000000 := hw
        omega
      refine iteF ?_
      cases dt with
      | @tup a xs ds ra e t =>
        cases t with
        | @cons vx _ _ _ dx t =>
          cases t with
          | @cons vy _ _ _ dy t =>
            cases t
            refine ⟨_, rfl, a, _, rfl, .inl (.inl e), rfl, _, _, rfl, _, _, rfl, rfl, ?_⟩
            refine ⟨_, rfl, R, vx, x, rfl, dx, _, rfl, ?_⟩
            cases hx : whole x with
            | false =>
              rw [err_goods hx] at q
              exact iteT (iteT ⟨(by show 2 ≤ sizeLine; decide), fun p hp => q _ _ (same_upd hp) (new_err _ hp (hR p hp))⟩)
            | true =>
              cases dx with
              | int g =>
                refine iteF ?_
                refine ⟨_, rfl, _, _, rfl, rfl, _, rfl, ?_⟩
                by_cases h1 : 1 ≤ g
                · rw [decide_eq_true h1]
                  refine iteT ⟨_, _, rfl, rfl, _, rfl, ?_⟩
                  by_cases h4 : g ≤ 4
                  · rw [decide_eq_true h4]
                    refine iteF ?_
                    -- if not isinstance(trades, tuple)
                    refine ⟨_, rfl, _, _, _, _, _, rfl, .ty _, dat_ty dy, kit_ty (kit_tup y), _, rfl, ?_⟩
                    cases hy : isTup y with
                    | false =>
                      rw [err_trades ⟨h1, h4⟩ hy] at q
                      exact iteT ⟨(by show 2 ≤ sizeLine; decide), fun p hp => q _ _ (same_upd hp) (new_err _ hp (hR p hp))⟩
                    | true =>
                      refine iteF ?_
                      cases dy with
                      | @tup b ys ts rb eb tt =>
                        refine ⟨_, rfl, b, _, rfl, .inr (.inl (.inl eb)), _, _, rfl, rfl, _, rfl, ?_⟩
                        have hl := tt.length
                        by_cases h5 : ts.length ≤ 4
                        · rw [err_scan ⟨h1, h4⟩ h5] at q
                          rw [decide_eq_false (by omega)]
                          refine iteF ?_
                          -- for k, trade in enumerate(trades)
                          refine ⟨_, rfl, b, _, rfl, .inl (.inl eb), ?_⟩
                          refine for_enumT (K := K) (a := b) (xs := ys) (fun i σ H' => ∃ y3 y4 y5, σ = [some (.ref a), some (.int g), some (.ref b), y3, y4, y5] ∧ Same H H' ∧ scan g ts 0 = scan g (ts.drop i) i)
                            ⟨none, none, none, rfl, Same.refl H, rfl⟩ (fun i σ H' hP => by obtain ⟨_, _, _, _, sm, _⟩ := hP; exact .inl (.inl (sm _ _ eb))) ?_ ?_
                          · rintro i z T σ H' hz ⟨y3, y4, y5, rfl, sm, es⟩ hT
                            obtain ⟨dz, hdz, dtz⟩ := tt.get' hz
                            have hwz : wt dz ≤ 1000000 := by
                              have m1 := wts_mem (List.mem_of_getElem? hdz)
                              have m2 : 4 + wts ts ≤ 1000000 := hwx
                              omega
                            rw [drop_at hdz, scan_cons] at es
                            have sT := same_upd (o := .tup [V.int ((i : Nat) : Int), z]) hT
                            refine ⟨T, _, rfl, .inl (.inl upd_same), rfl, _, _, rfl, _, _, rfl, rfl, ?_⟩
                            refine ⟨_, rfl, _, rfl, R, z, g, dz, rfl, h1, dtz.same (sm.trans sT), hwz, fun H2 s2 => ?_⟩
                            refine ⟨_, rfl, _, rfl, ?_⟩
                            cases ht : tw g dz with
                            | none =>
                              rw [ht] at es
                              exact ⟨_, _, _, rfl, (sm.trans sT).trans s2, es⟩
                            | some wd =>
                              rw [ht] at es
                              rw [es] at q
                              refine ⟨_, rfl, _, rfl, (by show 2 ≤ sizeLine; decide), fun p hp => ?_⟩
                              have s3 := (sm.trans sT).trans s2
                              exact q _ _ (s3.trans (same_upd hp)) (.tup (hR p (s3.free hp)) upd_same (.cons (.int _) (.cons (.str wd) .nil)))
                          · rintro σ H' ⟨y3, y4, y5, rfl, sm, es⟩
                            have : ts.drop ys.length = [] := List.drop_eq_nil_of_le (by omega)
                            rw [this] at es
                            have e0 : scan g [] ys.length = .none := rfl
                            rw [e0] at es
                            rw [es] at q
                            exact q H' .non sm .non
                        · rw [err_many ⟨h1, h4⟩ h5] at q
                          rw [decide_eq_true (by omega)]
                          exact iteT ⟨(by show 2 ≤ sizeLine; decide), fun p hp => q _ _ (same_upd hp) (new_err _ hp (hR p hp))⟩
                      | _ => exact absurd hy Bool.false_ne_true
                  · rw [decide_eq_false h4]
                    rw [err_range (fun z => h4 z.2)] at q
                    exact iteT ⟨(by show 2 ≤ sizeLine; decide), fun p hp => q _ _ (same_upd hp) (new_err _ hp (hR p hp))⟩
                · rw [decide_eq_false h1]
                  rw [err_range (fun z => h1 z.1)] at q
                  exact iteF ⟨_, rfl, iteT ⟨(by show 2 ≤ sizeLine; decide), fun p hp => q _ _ (same_upd hp) (new_err _ hp (hR p hp))⟩⟩
              | _ => exact absurd hx Bool.false_ne_true

end
end Lb
set_option Elab.async false
set_option linter.all false
set_option maxRecDepth 100000
set_option maxHeartbeats 8000000
namespace Lb
open PySem PySem.Spec PyProof.Rows L2 RZ TL
section
variable {P : Program} {w : World} {K : PySem.W.Frag} {mg : Str → Option Value} {base : Heap}
theorem sc_desk_error : FnScope ["market", "error"] ["market"] (defScope s_desk_error) := ⟨rfl, rfl, rfl, by decide +kernel, rfl, by decide +kernel, by decide +kernel⟩
theorem own_derr (D : Df K mg "desk_error" s_desk_error) (B : Blt mg) (c_MAX_LENT : ∃ t, mg "MAX_LENT" = some (.int 3 t)) (O_market_error : Own P w K mg base "market_error" 4 ["value"] spErr) : Own P w K mg base "desk_error" 5 ["market"] spDErr := by
  obtain ⟨tL, c_MAX_LENT⟩ := c_MAX_LENT
  refine own_of D sc_desk_error (fun _ _ _ _ _ _ us hl => match us, hl with | [_], _ => rfl) (fun vs H Q E h => ?_) (fun f cdv A outer s H vs Q E hr h => ?_)
  · obtain ⟨_, _, _, rfl, _⟩ := h
    rfl
  · obtain ⟨R, v, d, rfl, dv, hw, new, q⟩ := h
    refine ⟨_, (pss_cons (ps_set (i := 1) sc_desk_error.nd rfl (.inl rfl) (pe_own O_market_error (hr.mono (by omega)) (by rfl) (pa_cons (pv 0) pa_nil)))
      (pss_cons (ps_if (PW.pt (pw_and (pt_cmp (pc_isN (pv 1))) (pw_and1 (PW.pt (pw_or (pt_cmpR op_gt (pe_ix ix_tup (pv 0) pe_int (fun _ _ => rfl)) (pe_glob (v := .int 3) (by rfl) c_MAX_LENT ⟨_, rfl⟩) (nomark _)) (pw_or1 (pt_cmpR op_gt (pe_callB (id := "len") call_len_seq (by rfl) B.b_len PySem.boot_len (pa_cons (pe_ix ix_tup (pv 0) pe_int (fun _ _ => rfl)) pa_nil)) (pe_glob (v := .int 3) (by rfl) c_MAX_LENT ⟨_, rfl⟩) (nomark _)))))))) (pss_one (ps_ret (pe_tup (pa_cons pe_non (pa_cons pe_str pa_nil))))) pss_nil)
      (pss_one (ps_ret (pv 1))))), ?_⟩
    refine ⟨_, rfl, R, v, d, rfl, dv, hw, new, fun H1 u s1 du => ?_⟩
    cases hd : mErr d with
    | none =>
      rw [hd] at du
      obtain rfl := du.nonI
      obtain ⟨g, ts, rfl, g1, g4, tl⟩ := mErr_none hd
      have ed : dErr (.tuple [.int g, .tuple ts]) = if 3 < g ∨ 3 < ts.length then errD "room" else .none := by
        unfold dErr
        rw [hd]
      rw [ed] at q
      obtain ⟨am, w1, w2, rfl, ram, eam, dg, dts⟩ := Dat.pair dv
      obtain rfl := dg.intI
      obtain ⟨tv, ys, rfl, rtv, etv, dys⟩ := dts.tupI
      have ly := dys.length
      have fin : (3 < g ∨ 3 < ts.length) → 2 ≤ sizeLine ∧ ∀ p, H1 p = none → Q (.ref p) (upd H1 p (.tup [V.non, V.str "room"])) := fun h => by
        rw [if_pos h] at q
        exact ⟨(by show 2 ≤ sizeLine; decide), fun p hp => q _ _ (s1.trans (same_upd hp)) (.tup (new p (s1.free hp)) upd_same (.cons .non (.cons (.str _) .nil)))⟩
      refine ⟨_, rfl, _, rfl, iteT ?_⟩
      refine ⟨_, rfl, am, _, _, _, rfl, rfl, tup_at0 (s1 _ _ eam), rfl, _, _, rfl, rfl, _, rfl, ?_⟩
      by_cases h1 : 3 < g
      · rw [decide_eq_true h1]
        exact iteT (iteT (fin (.inl h1)))
      · rw [decide_eq_false h1]
        refine iteF ?_
        refine ⟨_, rfl, am, _, _, _, rfl, rfl, tup_at0 (s1 _ _ eam), rfl, tv, _, rfl, .inr (.inl (.inl (s1 _ _ etv))), _, _, rfl, rfl, _, rfl, ?_⟩
        by_cases h2 : 3 < ts.length
        · rw [decide_eq_true (show (3 : Int) < ((ys.length : Nat) : Int) by omega)]
          exact iteT (fin (.inr h2))
        · rw [decide_eq_false (show ¬ (3 : Int) < ((ys.length : Nat) : Int) by omega)]
          rw [if_neg (by omega)] at q
          exact iteF ⟨_, rfl, q H1 .non s1 .non⟩
    | _ =>
      have ed : dErr d = mErr d := by
        unfold dErr
        rw [hd]
      have hn : isNV u = false := by
        rw [hd] at du
        cases du <;> rfl
      rw [ed] at q
      refine ⟨_, rfl, _, rfl, ?_⟩
      rw [show (decide (u = V.non)) = false from decide_eq_false fun z => by rw [z] at hn; cases hn]
      exact iteF (iteF ⟨_, rfl, q H1 u s1 du⟩)

end
end Lb
set_option Elab.async false
set_option linter.all false
set_option maxRecDepth 100000
set_option maxHeartbeats 8000000
namespace Lb
open PySem PySem.Spec PyProof.Rows L2 RZ TL
section
variable {P : Program} {w : World} {K : PySem.W.Frag} {mg : Str → Option Value} {base : Heap}
theorem sc_first_lacking : FnScope ["bag", "other", "good", "many", "wanted"] ["bag", "other"] (defScope s_first_lacking) := ⟨rfl, rfl, rfl, by decide +kernel, rfl, by decide +kernel, by decide +kernel⟩
theorem own_lack (D : Df K mg "first_lacking" s_first_lacking) (B : Blt mg) : Own P w K mg base "first_lacking" 1 ["bag", "other"] (spLack K) := by
  refine own_of D sc_first_lacking (fun _ _ _ _ _ _ us hl => match us, hl with | [_, _], _ => rfl) (fun vs H Q E h => ?_) (fun f cdv A outer s H vs Q E hr h => ?_)
  · obtain ⟨_, _, _, _, rfl, _⟩ := h
    rfl
  · obtain ⟨a, b, x, y, rfl, hA, hB, hl, hl2, q⟩ := h
    refine ⟨_, (pss_cons (ps_for PassesOwn.never rfl (pi_enumZ (by rfl) B.b_enumerate (by rfl) B.b_zip (pa_cons (pv 0) (pa_cons (pv 1) pa_nil))) (pg_tup rfl (pgs_cons (pg_name (i := 2) sc_first_lacking.nd rfl (.inl rfl)) (pgs_cons (pg_tup rfl (pgs_cons (pg_name (i := 3) sc_first_lacking.nd rfl (.inl rfl)) (pgs_cons (pg_name (i := 4) sc_first_lacking.nd rfl (.inl rfl)) pgs_nil))) pgs_nil)))
        (pss_one (ps_if (pt_cmpR op_lt (pv 3) (pv 4) (nomark _)) (pss_one (ps_ret (pv 2))) pss_nil)))
      (pss_one (ps_ret pe_non))), ?_⟩
    refine ⟨_, rfl, _, rfl, a, b, _, _, rfl, hA, hB, ?_⟩
    refine for_enumZ (K := K) (xs := x.map V.int) (ys := y.map V.int) (by rw [List.length_map, List.length_map]; exact hl) (fun i σ H' => ∃ y2 y3 y4, σ = [some (.ref a), some (.ref b), y2, y3, y4] ∧ Same H H' ∧ lackN x y 0 = lackN (x.drop i) (y.drop i) i)
      ⟨none, none, none, rfl, Same.refl _, rfl⟩ (fun i σ H' hP => by obtain ⟨_, _, _, _, s', _⟩ := hP; exact ⟨same_tup s' hA, same_tup s' hB⟩) ?_ ?_
    · rintro i u v T U σ H' hu hv ⟨y2, y3, y4, rfl, sm, el⟩ hT hU ne
      obtain ⟨u, rfl, hu'⟩ := int_at hu
      obtain ⟨v, rfl, hv'⟩ := int_at hv
      have s1 := same_upd (o := .tup [V.int u, V.int v]) hT
      have hU' : upd H' T (.tup [V.int u, V.int v]) U = none := by rw [upd_ne ne.symm]; exact hU
      have s2 := same_upd (o := .tup [V.int ((i : Nat) : Int), V.ref T]) hU'
      have eT : upd (upd H' T (.tup [V.int u, V.int v])) U (.tup [V.int ((i : Nat) : Int), V.ref T]) T = some (.tup [V.int u, V.int v]) := s2 _ _ upd_same
      have sT := (sm.trans s1).trans s2
      rw [drop_at hu', drop_at hv', lackN_cons] at el
      refine ⟨U, _, rfl, .inl (.inl upd_same), rfl, _, _, rfl, _, _, rfl, T, _, rfl, .inl (.inl eT), rfl, _, _, rfl, _, _, rfl, rfl, rfl, ?_⟩
      refine ⟨_, rfl, _, rfl, _, _, rfl, rfl, _, rfl, ite2 (fun hlt => ?_) (fun hlt => ?_)⟩
      · have hlt' : u < v := of_decide_eq_true hlt
        rw [if_pos hlt'] at el
        rw [el] at q
        exact ⟨_, rfl, q _ sT⟩
      · have hlt' : ¬ u < v := fun z => hlt (decide_eq_true z)
        rw [if_neg hlt'] at el
        exact ⟨_, _, _, rfl, sT, el⟩
    · rintro σ H' ⟨y2, y3, y4, rfl, sm, el⟩
      rw [List.length_map, List.drop_length, hl, List.drop_length] at el
      rw [el] at q
      exact q _ sm

end
end Lb
set_option Elab.async false
set_option linter.all false
set_option maxRecDepth 100000
set_option maxHeartbeats 8000000
namespace Lb
open PySem PySem.Spec PyProof.Rows L2 RZ TL
section
variable {P : Program} {w : World} {K : PySem.W.Frag} {mg : Str → Option Value} {base : Heap}
theorem sc_Bag___init__ : FnScope ["self", "amounts"] ["self", "amounts"] (defScope s_Bag___init__) := ⟨rfl, rfl, rfl, by decide +kernel, rfl, by decide +kernel, by decide +kernel⟩
theorem own_binit {C CB : Addr} (D : DfM K C "__init__" "Bag.__init__" s_Bag___init__) (B : Blt mg) (BC : BagC K mg C) (T_BadBag : Err0 K mg "BadBag" CB) (O_is_bag : Own P w K mg base "is_bag" 2 ["goods", "value"] spIsBagL) :
    OwnM P w K mg base C "__init__" 3 ["self", "amounts"] (spInit K C CB) := by
  refine ownM_of D sc_Bag___init__ (fun _ _ _ _ _ _ us hl => match us, hl with | [_, _], _ => rfl) (fun vs H Q E h => ?_) (fun f cdv A outer s H vs Q E hr h => ?_)
  · obtain ⟨_, _, _, rfl, _⟩ := h
    rfl
  · obtain ⟨x, dx, v, rfl, ex, q⟩ := h
    obtain ⟨mc, u, cr, cv⟩ := BC.lim
    refine ⟨_, (pss_cons (ps_if (PW.pt (pw_or (pt_not (pt_val (pe_callB (id := "isinstance") call_isi (by rfl) B.b_isinstance (by decide +kernel) (pa_cons (pv 1) (pa_cons (pe_bltn (v := .ty "tuple") (u := .type "tuple") (by rfl) B.b_tuple (by decide +kernel) rfl) pa_nil))))) (pw_or1 (pt_not (pt_chain op_le op_le pe_int (pe_callB (id := "len") call_len_seq (by rfl) B.b_len PySem.boot_len (pa_cons (pv 1) pa_nil)) (ClX.pe_cval (pe_glob (v := .ref C) (by rfl) BC.gB rfl))))))) (pss_one (ps_raise rfl (takes_of rfl rfl rfl rfl) (pmk_err0 T_BadBag (by rfl)))) pss_nil)
      (pss_cons (ps_if (pt_not (pt_val (pe_own O_is_bag (hr.mono (by omega)) (by rfl) (pa_cons (pe_callB (id := "len") call_len_seq (by rfl) B.b_len PySem.boot_len (pa_cons (pv 1) pa_nil)) (pa_cons (pv 1) pa_nil))))) (pss_one (ps_raise rfl (takes_of rfl rfl rfl rfl) (pmk_err0 T_BadBag (by rfl)))) pss_nil)
      (pss_one (ps_fld (pv 0) (pv 1) rfl)))), ?_⟩
    rcases q with ⟨R, ds, hd, hl, q1, q2⟩ | ⟨⟨ty, ht, hk⟩, q2⟩
    · obtain ⟨a, xs, rfl, ra, e, t⟩ := hd.tupI
      have lx := t.length
      refine ⟨_, rfl, _, _, _, _, _, rfl, .ty _, dat_ty hd, kit_ty (kit_tup _), _, rfl, iteF ?_⟩
      refine ⟨_, rfl, a, _, rfl, .inr (.inl (.inl e)), _, _, rfl, rfl, _, rfl, ?_⟩
      by_cases h1 : 1 ≤ ds.length
      · rw [decide_eq_true (show (1 : Int) ≤ ((xs.length : Nat) : Int) by omega)]
        refine iteT ⟨C, mc, _, u, rfl, cr, cv, _, _, rfl, rfl, _, rfl, ?_⟩
        by_cases h4 : ds.length ≤ 4
        · rw [decide_eq_true (show ((xs.length : Nat) : Int) ≤ 4 by omega)]
          refine iteF ?_
          refine ⟨_, rfl, a, _, rfl, .inr (.inl (.inl e)), _, rfl, R, _, _, ds, rfl, hd, hl, fun H' sm => ?_⟩
          have eb : bagB ((xs.length : Nat) : Int) (.tuple ds) = mkB (.tuple ds) := by
            rw [bagB_tup, decide_eq_true (show ((ds.length : Nat) : Int) = ((xs.length : Nat) : Int) by omega)]
            show _ = (decide (1 ≤ ds.length) && decide (ds.length ≤ 4) && ds.all nn)
            rw [decide_eq_true h1, decide_eq_true h4]
            rfl
          rw [eb]
          cases hm : mkB (.tuple ds) with
          | true => exact ⟨_, rfl, iteF ⟨_, rfl, _, rfl, x, C, dx, _, rfl, sm _ _ ex, BC.cl, BC.no, (by decide), q1 hm H' sm⟩⟩
          | false => exact ⟨_, rfl, iteT (q2 hm H' sm)⟩
        · have hm : mkB (.tuple ds) = false := by
            show (decide (1 ≤ ds.length) && decide (ds.length ≤ 4) && ds.all nn) = false
            rw [decide_eq_false h4, Bool.and_false, Bool.false_and]
          rw [decide_eq_false (show ¬ ((xs.length : Nat) : Int) ≤ 4 by omega)]
          exact iteT (q2 hm H (Same.refl H))
      · have hm : mkB (.tuple ds) = false := by
          show (decide (1 ≤ ds.length) && decide (ds.length ≤ 4) && ds.all nn) = false
          rw [decide_eq_false h1, Bool.false_and, Bool.false_and]
        rw [decide_eq_false (show ¬ (1 : Int) ≤ ((xs.length : Nat) : Int) by omega)]
        exact iteF ⟨_, rfl, iteT (q2 hm H (Same.refl H))⟩
    · exact ⟨_, rfl, _, _, _, _, _, rfl, .ty _, ht, hk, _, rfl, iteT (iteT (q2 H (Same.refl H)))⟩

end
end Lb
set_option Elab.async false
set_option linter.all false
set_option maxRecDepth 100000
set_option maxHeartbeats 8000000
namespace Lb
open PySem PySem.Spec PyProof.Rows L2 RZ TL
section
variable {P : Program} {w : World} {K : PySem.W.Frag} {mg : Str → Option Value} {base : Heap}
theorem sc_Bag_amounts : FnScope ["self"] ["self"] (defScope s_Bag_amounts) := ⟨rfl, rfl, rfl, by decide +kernel, rfl, by decide +kernel, by decide +kernel⟩
theorem own_bamt {C p g : Addr} {fd : FuncData} (F : Fun K "amounts" "Bag.amounts" s_Bag_amounts g fd) (hp : PropOf K C "amounts" p g) (BC : BagC K mg C) : PropM P w K mg base C "amounts" 1 (spAmt C) := by
  refine ⟨p, g, fd, hp, F.okX sc_Bag_amounts (fun vs H Q E h => ?_) (fun cdv A outer s H vs Q E hr h => ?_), F.binds (fun _ _ _ _ _ _ us hl => match us, hl with | [_], _ => rfl)⟩
  · obtain ⟨_, _, _, rfl, _⟩ := h
    rfl
  · obtain ⟨a, t, x, rfl, ⟨⟨dx, ea⟩, et⟩, q⟩ := h
    refine ⟨_, (pss_one (ps_ret (pe_fld (pv 0) rfl))), ?_⟩
    exact ⟨_, rfl, a, C, dx, _, _, rfl, ea, BC.cl, BC.no, rfl, q⟩

end
end Lb
set_option Elab.async false
set_option linter.all false
set_option maxRecDepth 100000
set_option maxHeartbeats 8000000
namespace Lb
open PySem PySem.Spec PyProof.Rows L2 RZ TL
section
variable {P : Program} {w : World} {K : PySem.W.Frag} {mg : Str → Option Value} {base : Heap}
theorem sc_Bag_is_like : FnScope ["self", "other"] ["self", "other"] (defScope s_Bag_is_like) := ⟨rfl, rfl, rfl, by decide +kernel, rfl, by decide +kernel, by decide +kernel⟩
theorem own_blike {C : Addr} (D : DfM K C "is_like" "Bag.is_like" s_Bag_is_like) (B : Blt mg) (BC : BagC K mg C) : OwnM P w K mg base C "is_like" 1 ["self", "other"] (spIsLike K C) := by
  refine ownM_of D sc_Bag_is_like (fun _ _ _ _ _ _ us hl => match us, hl with | [_, _], _ => rfl) (fun vs H Q E h => ?_) (fun f cdv A outer s H vs Q E hr h => ?_)
  · obtain ⟨_, _, _, _, rfl, _⟩ := h
    rfl
  · obtain ⟨a, t, x, y, rfl, ⟨⟨dx, ea⟩, et⟩, q⟩ := h
    refine ⟨_, (pss_one (ps_ret (pe_and (pe_callB (id := "isinstance") call_isi (by rfl) B.b_isinstance (by decide +kernel) (pa_cons (pv 1) (pa_cons (pe_glob (v := .ref C) (by rfl) BC.gB rfl) pa_nil))) (pe_one (pe_cmpR op_eq (pe_callB (id := "len") call_len_seq (by rfl) B.b_len PySem.boot_len (pa_cons (pe_fld (pv 1) rfl) pa_nil)) (pe_callB (id := "len") call_len_seq (by rfl) B.b_len PySem.boot_len (pa_cons (pe_fld (pv 0) rfl) pa_nil)) (nomark _)))))), ?_⟩
    rcases q with ⟨b, s', z, rfl, ⟨⟨dy, eb⟩, es⟩, zok, q⟩ | ⟨⟨ty, ht, hk⟩, q⟩
    · refine ⟨_, rfl, _, _, _, _, _, rfl, .own C, BC.ty eb, BC.ks, _, rfl, iteT ?_⟩
      refine ⟨_, rfl, b, C, dy, _, _, rfl, eb, BC.cl, BC.no, rfl, s', _, rfl, .inr (.inl (.inl es)), _, rfl, a, C, dx, _, _, rfl, ea, BC.cl, BC.no, rfl, t, _, rfl, .inr (.inl (.inl et)), rfl, ?_⟩
      have e1 : decide (V.int (((z.map V.int).length : Nat) : Int) = V.int (((x.map V.int).length : Nat) : Int)) = decide (z.length = x.length) := by
        rw [List.length_map, List.length_map]
        refine decide_eq_decide.mpr ⟨fun h => ?_, fun h => by rw [h]⟩
        have := V.int.inj h
        omega
      rw [← e1] at q
      exact q
    · exact ⟨_, rfl, _, _, _, _, _, rfl, .own C, ht, hk, _, rfl, iteF q⟩

end
end Lb
set_option Elab.async false
set_option linter.all false
set_option maxRecDepth 100000
set_option maxHeartbeats 8000000
namespace Lb
open PySem PySem.Spec PyProof.Rows L2 RZ TL
section
variable {P : Program} {w : World} {K : PySem.W.Frag} {mg : Str → Option Value} {base : Heap}
theorem sc_Bag___len__ : FnScope ["self"] ["self"] (defScope s_Bag___len__) := ⟨rfl, rfl, rfl, by decide +kernel, rfl, by decide +kernel, by decide +kernel⟩
theorem own_blen {C : Addr} (D : DfM K C "__len__" "Bag.__len__" s_Bag___len__) (B : Blt mg) (BC : BagC K mg C) : OwnM P w K mg base C "__len__" 1 ["self"] (spLen C) := by
  refine ownM_of D sc_Bag___len__ (fun _ _ _ _ _ _ us hl => match us, hl with | [_], _ => rfl) (fun vs H Q E h => ?_) (fun f cdv A outer s H vs Q E hr h => ?_)
  · obtain ⟨_, _, _, rfl, _⟩ := h
    rfl
  · obtain ⟨a, t, x, rfl, ⟨⟨dx, ea⟩, et⟩, q⟩ := h
    refine ⟨_, (pss_one (ps_ret (pe_callB (id := "len") call_len_seq (by rfl) B.b_len PySem.boot_len (pa_cons (pe_fld (pv 0) rfl) pa_nil)))), ?_⟩
    refine ⟨_, rfl, a, C, dx, _, _, rfl, ea, BC.cl, BC.no, rfl, ?_⟩
    have q' : Q (.int ((x.map V.int).length : Int)) H := by rw [List.length_map]; exact q
    exact ⟨t, _, rfl, .inr (.inl (.inl et)), q'⟩

end
end Lb
set_option Elab.async false
set_option linter.all false
set_option maxRecDepth 100000
set_option maxHeartbeats 8000000
namespace Lb
open PySem PySem.Spec PyProof.Rows L2 RZ TL
section
variable {P : Program} {w : World} {K : PySem.W.Frag} {mg : Str → Option Value} {base : Heap}
theorem sc_check_kind : FnScope ["bag", "value"] ["bag", "value"] (defScope s_check_kind) := ⟨rfl, rfl, rfl, by decide +kernel, rfl, by decide +kernel, by decide +kernel⟩
theorem own_ckind {C CB : Addr} (D : Df K mg "check_kind" s_check_kind) (B : Blt mg) (BC : BagC K mg C) (T_BadBag : Err0 K mg "BadBag" CB) (M_is_like : OwnM P w K mg base C "is_like" 1 ["self", "other"] (spIsLike K C)) : OwnX P w K mg base "check_kind" 2 ["bag", "value"] (spCKind K C CB) := by
  refine ownX_of D sc_check_kind (fun _ _ _ _ _ _ us hl => match us, hl with | [_, _], _ => rfl) (fun vs H Q E h => ?_) (fun f cdv A outer s H vs Q E hr h => ?_)
  · obtain ⟨_, _, _, _, rfl, _⟩ := h
    rfl
  · obtain ⟨a, t, x, y, rfl, hb, q⟩ := h
    obtain ⟨⟨dx, ea⟩, et⟩ := id hb
    refine ⟨_, (pss_one (ps_if (pt_not (pt_val (pe_methX (pv 0) BC.cl M_is_like (hr.mono (by omega)) passX0 (pa_cons (pv 1) pa_nil)))) (pss_one (ps_raise rfl (takes_of rfl rfl rfl rfl) (pmk_err0 T_BadBag (by rfl)))) pss_nil)), ?_⟩
    refine ⟨_, rfl, a, dx, _, rfl, ea, rfl, _, rfl, a, t, x, y, rfl, hb, ?_⟩
    rcases q with ⟨b, s', z, rfl, hb2, zok, q1, q2⟩ | ⟨hn, q⟩
    · refine .inl ⟨b, s', z, rfl, hb2, zok, _, rfl, ?_⟩
      by_cases h : z.length = x.length
      · rw [decide_eq_true h]
        exact iteF (q1 h)
      · rw [decide_eq_false h]
        exact iteT (q2 h H (Same.refl H))
    · exact .inr ⟨hn, _, rfl, iteT (q H (Same.refl H))⟩

end
end Lb
set_option Elab.async false
set_option linter.all false
set_option maxRecDepth 100000
set_option maxHeartbeats 8000000
namespace Lb
open PySem PySem.Spec PyProof.Rows L2 RZ TL
section
variable {P : Program} {w : World} {K : PySem.W.Frag} {mg : Str → Option Value} {base : Heap}
theorem sc_check_room : FnScope ["bag", "good"] ["bag"] (defScope s_check_room) := ⟨rfl, rfl, rfl, by decide +kernel, rfl, by decide +kernel, by decide +kernel⟩
theorem own_croom {C CT : Addr} (D : Df K mg "check_room" s_check_room) (B : Blt mg) (BC : BagC K mg C) {tM : Tok} (c_MAX_DESK : mg "MAX_DESK" = some (.int 6 tM)) (T_TooMuch : Err1 P w K mg base "TooMuch" "good" CT) (O_first_lacking : Own P w K mg base "first_lacking" 1 ["bag", "other"] (spLack K)) (M_len : OwnM P w K mg base C "__len__" 1 ["self"] (spLen C)) (M_amounts : PropM P w K mg base C "amounts" 1 (spAmt C)) :
    OwnX P w K mg base "check_room" 4 ["bag"] (spCRoom C CT) := by
  refine ownX_of D sc_check_room (fun _ _ _ _ _ _ us hl => match us, hl with | [_], _ => rfl) (fun vs H Q E h => ?_) (fun f cdv A outer s H vs Q E hr h => ?_)
  · obtain ⟨_, _, _, rfl, _⟩ := h
    rfl
  · obtain ⟨a, t, x, rfl, hb, x4, q1, q2⟩ := h
    obtain ⟨⟨dx, ea⟩, et⟩ := id hb
    refine ⟨_, (pss_cons (ps_set (i := 1) sc_check_room.nd rfl (.inl rfl) (pe_own O_first_lacking (hr.mono (by omega)) (by rfl) (pa_cons (pe_op op_repA (pe_tup (pa_cons (pe_glob (v := .int 6) (by rfl) c_MAX_DESK ⟨_, rfl⟩) pa_nil)) (pe_callB (id := "len") (call_lenM M_len (hr.mono (by omega)) passX0) (by rfl) B.b_len PySem.boot_len (pa_cons (pv 0) pa_nil))) (pa_cons (pe_amt BC M_amounts (hr.mono (by omega)) (pv 0)) pa_nil))))
      (pss_one (ps_if (pt_cmp (pc_notN (pv 1))) (pss_one (ps_raise rfl (takes_of rfl rfl rfl rfl) (pmk_err T_TooMuch (hr.mono (by omega)) (by rfl) (pa_cons (pv 1) pa_nil)))) pss_nil))), ?_⟩
    refine ⟨(by show 1 ≤ sizeLine; decide), fun p1 z1 => ?_⟩
    have s1 := same_upd (o := .tup [V.int 6]) z1
    have e1 : upd H p1 (.tup [V.int 6]) p1 = some (.tup [V.int 6]) := upd_same
    generalize upd H p1 (.tup [V.int 6]) = H1 at s1 e1 ⊢
    refine ⟨_, rfl, a, dx, _, rfl, s1 _ _ ea, a, t, x, rfl, hb.same s1, x.length, by omega, rfl, ?_⟩
    refine rd_repI (R := fun _ => True) e1 trivial (fun _ _ => trivial) (by omega) fun H2 p2 s2 _ e2 => ?_
    have s02 := s1.trans s2
    refine ⟨_, rfl, rd_amt (hb.same s02) ?_⟩
    refine ⟨p2, t, _, x, rfl, .inl (.inl e2), .inl (.inl (s02 _ _ et)), by rw [List.length_replicate], by rw [List.length_replicate]; omega, fun H3 s3 => ?_⟩
    have s03 := s02.trans s3
    cases hk : muchN x with
    | some k =>
      rw [show lackN (List.replicate x.length 6) x 0 = some k from hk]
      refine ⟨_, rfl, _, rfl, iteT ⟨_, rfl, err_in fun dd hd => ?_⟩⟩
      exact q2 k hk _ dd (s03.trans (same_upd hd)) (s03.free hd) upd_same
    | none =>
      rw [show lackN (List.replicate x.length 6) x 0 = none from hk]
      exact ⟨_, rfl, _, rfl, iteF (q1 hk H3 s03)⟩

end
end Lb
set_option Elab.async false
set_option linter.all false
set_option maxRecDepth 100000
set_option maxHeartbeats 8000000
namespace Lb
open PySem PySem.Spec PyProof.Rows L2 RZ TL
section
variable {P : Program} {w : World} {K : PySem.W.Frag} {mg : Str → Option Value} {base : Heap}
theorem sc_Desk___init__ : FnScope ["self", "market", "stock", "error", "nothing"] ["self", "market", "stock"] (defScope s_Desk___init__) := ⟨rfl, rfl, rfl, by decide +kernel, rfl, by decide +kernel, by decide +kernel⟩
theorem own_dinit {C CB CD CM CT : Addr} (D : DfM K CD "__init__" "Desk.__init__" s_Desk___init__) (B : Blt mg) (BC : BagC K mg C) (T_BadMarket : Err1 P w K mg base "BadMarket" "error" CM) (T_BadBag : Err0 K mg "BadBag" CB) (O_desk_error : Own P w K mg base "desk_error" 5 ["market"] spDErr) (O_check_kind : OwnX P w K mg base "check_kind" 2 ["bag", "value"] (spCKind K C CB)) (O_check_room : OwnX P w K mg base "check_room" 4 ["bag"] (spCRoom C CT)) (M_init : OwnM P w K mg base C "__init__" 3 ["self", "amounts"] (spInit K C CB)) :
    OwnM P w K mg base CD "__init__" 6 ["self", "market", "stock"] (spDInit K C CB CM CT) := by
  refine ownM_of D sc_Desk___init__ (fun _ _ _ _ _ _ us hl => match us, hl with | [_, _, _], _ => rfl) (fun vs H Q E h => ?_) (fun f cdv A outer s H vs Q E hr h => ?_)
  · obtain ⟨_, _, _, _, _, _, _, rfl, _⟩ := h
    rfl
  · obtain ⟨x, dx, mv, sv, R, d, CX, rfl, dc, ex, dv, hw, new, q1, q2⟩ := h
    refine ⟨_, (pss_cons (ps_set (i := 3) sc_Desk___init__.nd rfl (.inl rfl) (pe_own O_desk_error (hr.mono (by omega)) (by rfl) (pa_cons (pv 1) pa_nil)))
      (pss_cons (ps_if (pt_cmp (pc_notN (pv 3))) (pss_one (ps_raise rfl (takes_of rfl rfl rfl rfl) (pmk_err T_BadMarket (hr.mono (by omega)) (by rfl) (pa_cons (pv 3) pa_nil)))) pss_nil)
      (pss_cons (ps_set (i := 4) sc_Desk___init__.nd rfl (.inl rfl) (pe_bagX BC M_init (hr.mono (by omega)) (passE (takes_of rfl rfl rfl rfl) (fun _ _ _ _ h => h)) (by rfl) (pa_cons (pe_op op_repA (pe_tup (pa_cons pe_int pa_nil)) (pe_ix ix_tup (pv 1) pe_int (fun _ _ => rfl))) pa_nil)))
      (pss_cons (ps_expr (pe_ownE O_check_kind (hr.mono (by omega)) (passE (takes_of rfl rfl rfl rfl) (fun _ _ _ _ h => h)) (by rfl) (pa_cons (pv 4) (pa_cons (pv 2) pa_nil))))
      (pss_cons (ps_expr (pe_ownE O_check_room (hr.mono (by omega)) (passE (takes_of rfl rfl rfl rfl) (fun _ _ _ _ h => h)) (by rfl) (pa_cons (pv 2) pa_nil)))
      (pss_cons (ps_fld (pv 0) (pv 1) rfl)
      (pss_cons (ps_fld (pv 0) (pv 2) rfl)
      (pss_cons (ps_fld (pv 0) (pv 4) rfl)
      (pss_one (ps_fld (pv 0) (pe_lst pa_nil) rfl)))))))))), ?_⟩
    -- error = desk_error(market)
    refine ⟨_, rfl, R, mv, d, rfl, dv, hw, new, fun H1 u s1 du => ?_⟩
    by_cases hd : dErr d = .none
    · rw [hd] at du
      obtain rfl := du.nonI
      refine ⟨_, rfl, _, rfl, iteF ?_⟩
      obtain ⟨g, ts, rfl, g1, g3, q2⟩ := q2 hd
      obtain ⟨am, w1, w2, rfl, ram, eam, dg, dts⟩ := Dat.pair dv
      obtain rfl := dg.intI
      -- nothing = Bag((0,) * market[0])
      refine ⟨(by show 1 ≤ sizeLine; decide), fun p2 z2 => ?_⟩
      have s2 := same_upd (o := .tup [V.int 0]) z2
      have e2 : upd H1 p2 (.tup [V.int 0]) p2 = some (.tup [V.int 0]) := upd_same
      generalize upd H1 p2 (.tup [V.int 0]) = H2 at s2 e2 ⊢
      refine ⟨_, rfl, am, _, _, _, rfl, rfl, tup_at0 ((s1.trans s2) _ _ eam), rfl, ?_⟩
      refine rd_rep0 (R := fun _ => True) e2 trivial (fun _ _ => trivial) (by omega) fun H3 p3 s3 _ e3 => ?_
      have nok : BgOk (List.replicate g (0 : Int)) := ⟨by rw [List.length_replicate]; exact g1, by rw [List.length_replicate]; omega, fun y hy => by rw [List.eq_of_mem_replicate hy]; omega⟩
      have no : ¬ mkB (bagD (List.replicate g (0 : Int))) = false := by rw [mkB_ok nok]; exact fun z => nomatch z
      refine ⟨_, rfl, .inl ⟨fun _ => True, _, Dat.mkBag trivial e3, by rw [List.length_map, List.length_replicate]; omega, fun _ H4 nb dn s4 f4 en => ?_, fun hm => absurd hm no⟩⟩
      have S4 := ((s1.trans s2).trans s3).trans s4
      have N4 : Bg C H4 nb p3 (List.replicate g (0 : Int)) := ⟨⟨dn, en⟩, s4 _ _ e3⟩
      -- check_kind(nothing, stock)
      refine ⟨_, rfl, _, rfl, nb, p3, _, sv, rfl, N4, ?_⟩
      rcases q2 with ⟨b, s', z, rfl, hb, zok, qn, qy⟩ | ⟨hn, qe⟩
      · refine .inl ⟨b, s', z, rfl, hb.same S4, zok, fun hl => ?_, fun hne H' sm => qn (by rw [List.length_replicate] at hne; exact hne) H' (S4.trans sm)⟩
        rw [List.length_replicate] at hl
        obtain ⟨qk, qo⟩ := qy hl
        -- check_room(stock)
        refine ⟨_, rfl, b, s', z, rfl, hb.same S4, zok.four, fun hm H5 s5 => ?_, fun k hk H' dd sm nd ed => qk k hk H' dd (S4.trans sm) (S4.free nd) ed⟩
        have S5 := S4.trans s5
        refine ⟨_, rfl, _, rfl, x, CX, dx, _, rfl, S5 _ _ ex, dc.cl, dc.n1, (by decide), ?_⟩
        refine ⟨_, rfl, _, rfl, x, CX, dx, _, rfl, upd_same, dc.cl, dc.n2, (by show 1 < 1000; decide), ?_⟩
        refine ⟨_, rfl, _, rfl, x, CX, dx, _, rfl, upd_same, dc.cl, dc.n3, (by show 2 < 1000; decide), ?_⟩
        refine ⟨Nat.zero_le _, fun pl hpl => ?_⟩
        have hne : pl ≠ x := fun z => by rw [z, upd_same] at hpl; cases hpl
        have h5 : H5 pl = none := by rw [upd_ne hne, upd_ne hne, upd_ne hne] at hpl; exact hpl
        refine ⟨_, rfl, x, CX, dx, _, rfl, (by rw [upd_ne (Ne.symm hne)]; exact upd_same), dc.cl, dc.n4, (by show 3 < 1000; decide), ?_⟩
        have s6 := same_upd (o := .lst []) h5
        have fin := qo hm (upd H5 pl (.lst [])) nb p3 pl (S5.trans s6) (S5.free h5) ((N4.same s5).same s6) upd_same
        rw [upd_past hne]
        exact fin
      · exact .inr ⟨hn.same S4, fun H' sm => qe H' (S4.trans sm)⟩
    · have hu : u ≠ .non := isNV_dat du hd
      refine ⟨_, rfl, _, rfl, ?_⟩
      rw [decide_eq_false hu]
      refine iteT ⟨_, rfl, err_in fun dd hdd => ?_⟩
      exact q1 hd _ dd u (s1.trans (same_upd hdd)) (s1.free hdd) upd_same (du.same (same_upd hdd))

end
end Lb
set_option Elab.async false
set_option linter.all false
set_option maxRecDepth 100000
set_option maxHeartbeats 8000000
namespace Lb
open PySem PySem.Spec PyProof.Rows L2 RZ TL
section
variable {P : Program} {w : World} {K : PySem.W.Frag} {mg : Str → Option Value} {base : Heap}
theorem sc_CappedDesk___init__ : FnScope ["self", "market", "stock", "cap"] ["self", "market", "stock", "cap"] (defScope s_CappedDesk___init__) := ⟨rfl, rfl, rfl, by decide +kernel, rfl, by decide +kernel, by decide +kernel⟩
theorem own_cinit {C CB CC CD CM CT CV : Addr} (D : DfM K CC "__init__" "CappedDesk.__init__" s_CappedDesk___init__) (B : Blt mg) (gD : mg "Desk" = some (.ref CD)) (T_BadTimes : Err1 P w K mg base "BadTimes" "value" CV) (O_is_whole : Own P w K mg base "is_whole" 1 ["value"] (spWholeX K)) (O_di : CFunO P w K mg base CD "__init__" 6 (spDInit K C CB CM CT)) :
    OwnM P w K mg base CC "__init__" 7 ["self", "market", "stock", "cap"] (spCInit K C CB CM CT CV) := by
  refine ownM_of D sc_CappedDesk___init__ (fun _ _ _ _ _ _ us hl => match us, hl with | [_, _, _, _], _ => rfl) (fun vs H Q E h => ?_) (fun f cdv A outer s H vs Q E hr h => ?_)
  · obtain ⟨_, _, _, _, _, _, _, _, _, rfl, _⟩ := h
    rfl
  · obtain ⟨x, dx, mv, sv, cv, R, d, CX, ok, rfl, dc, nm, ex, dv, hw, new, hcap, q1, q2⟩ := h
    refine ⟨_, (pss_cons (ps_expr (pe_cfun O_di (hr.mono (by omega)) (passE (takes_of rfl rfl rfl rfl) (fun _ _ _ _ h => h)) (pe_glob (v := .ref CD) (by rfl) gD rfl) (pa_cons (pv 0) (pa_cons (pv 1) (pa_cons (pv 2) pa_nil)))))
      (pss_cons (ps_if (PW.pt (pw_or (pt_not (pt_val (pe_own O_is_whole (hr.mono (by omega)) (by rfl) (pa_cons (pv 3) pa_nil)))) (pw_or1 (pt_cmpR op_lt (pv 3) pe_int (nomark _))))) (pss_one (ps_raise rfl (takes_of rfl rfl rfl rfl) (pmk_err T_BadTimes (hr.mono (by omega)) (by rfl) (pa_cons (pv 3) pa_nil)))) pss_nil)
      (pss_one (ps_fld (pv 0) (pv 3) rfl)))), ?_⟩
    refine ⟨rfl, _, rfl, _, rfl, _, rfl, x, dx, mv, sv, R, d, CX, rfl, dc, ex, dv, hw, new, q1, fun hd => ?_⟩
    obtain ⟨g, ts, ed, g1, g3, q2⟩ := q2 hd
    refine ⟨g, ts, ed, g1, g3, ?_⟩
    rcases q2 with ⟨b, s', z, rfl, hb, zok, qn, qy⟩ | ⟨hn, qe⟩
    · refine .inl ⟨b, s', z, rfl, hb, zok, qn, fun hl => ⟨(qy hl).1, fun hm H' ow to pl sm np bo ep => ?_⟩⟩
      obtain ⟨qf, qt⟩ := (qy hl).2 hm
      have sx : SameX x H (upd H' x (.ins CX dx (dskF mv (.ref b) (.ref ow) pl))) := (SameX.of sm).upd
      obtain ⟨ty, b1, b2, ht, k1, k2, hc⟩ := hcap _ sx
      have err : ok = false → ∀ dd, upd H' x (.ins CX dx (dskF mv (.ref b) (.ref ow) pl)) dd = none → E (.ref CV) (some dd) (upd (upd H' x (.ins CX dx (dskF mv (.ref b) (.ref ow) pl))) dd (.xd [("value", cv)])) := fun ho dd hdd => by
        have hne : dd ≠ x := fun z => by rw [z, upd_same] at hdd; cases hdd
        have h0 : H dd = none := sm.free (by rw [upd_ne hne] at hdd; exact hdd)
        refine qf ho _ dd (fun bb o hb e => ?_) h0 upd_same
        rw [upd_ne (ne_of_none e h0)]
        exact sx bb o hb e
      refine ⟨_, rfl, cv, ty, b1, b2, rfl, ht, k1, k2, _, rfl, ?_⟩
      rcases hc with ⟨ho, hf⟩ | ⟨ht', n, rfl, ho⟩
      · rw [hf]
        exact iteT (iteT ⟨_, rfl, err_in (err ho)⟩)
      · rw [ht']
        refine iteF ?_
        refine ⟨_, rfl, _, _, rfl, rfl, _, rfl, ?_⟩
        by_cases h0 : n < 0
        · rw [decide_eq_true h0]
          exact iteT ⟨_, rfl, err_in (err (by rw [ho]; exact decide_eq_false (by omega)))⟩
        · rw [decide_eq_false h0]
          refine iteF ⟨_, rfl, _, rfl, x, CX, dx, _, rfl, upd_same, dc.cl, nm, (by show 4 < 1000; decide), ?_⟩
          rw [upd_upd]
          exact qt (by rw [ho]; exact decide_eq_true (by omega)) H' ow to pl sm np bo ep
    · exact .inr ⟨hn, qe⟩

end
end Lb
set_option Elab.async false
set_option linter.all false
set_option maxRecDepth 100000
set_option maxHeartbeats 8000000
namespace Lb
open PySem PySem.Spec PyProof.Rows L2 RZ TL
section
variable {P : Program} {w : World} {K : PySem.W.Frag} {mg : Str → Option Value} {base : Heap}
theorem sc_Desk___len__ : FnScope ["self"] ["self"] (defScope s_Desk___len__) := ⟨rfl, rfl, rfl, by decide +kernel, rfl, by decide +kernel, by decide +kernel⟩
theorem own_dlen {CD : Addr} (D : DfM K CD "__len__" "Desk.__len__" s_Desk___len__) (B : Blt mg) : OwnM P w K mg base CD "__len__" 1 ["self"] (spDLen K) := by
  refine ownM_of D sc_Desk___len__ (fun _ _ _ _ _ _ us hl => match us, hl with | [_], _ => rfl) (fun vs H Q E h => ?_) (fun f cdv A outer s H vs Q E hr h => ?_)
  · obtain ⟨_, _, _, _, _, rfl, _⟩ := h
    rfl
  · obtain ⟨a, C, dx, fs, l, rfl, ea, dc, hl, xs, el, q⟩ := h
    refine ⟨_, (pss_one (ps_ret (pe_callB (id := "len") call_len_seq (by rfl) B.b_len PySem.boot_len (pa_cons (pe_fld (pv 0) rfl) pa_nil)))), ?_⟩
    refine ⟨_, rfl, a, C, dx, _, _, rfl, ea, dc.cl, dc.n4, hl, ?_⟩
    exact ⟨l, _, rfl, .inl (SqL.of el), q⟩

end
end Lb
set_option Elab.async false
set_option linter.all false
set_option maxRecDepth 100000
set_option maxHeartbeats 8000000
namespace Lb
open PySem PySem.Spec PyProof.Rows L2 RZ TL
section
variable {P : Program} {w : World} {K : PySem.W.Frag} {mg : Str → Option Value} {base : Heap}
theorem sc_Desk_market : FnScope ["self"] ["self"] (defScope s_Desk_market) := ⟨rfl, rfl, rfl, by decide +kernel, rfl, by decide +kernel, by decide +kernel⟩
theorem own_dmarket {C p g : Addr} {fd : FuncData} (F : Fun K "market" "Desk.market" s_Desk_market g fd) (hp : PropOf K C "market" p g) : PropM P w K mg base C "market" 1 (spFldV K "place") := by
  refine ⟨p, g, fd, hp, F.okX sc_Desk_market (fun vs H Q E h => ?_) (fun cdv A outer s H vs Q E hr h => ?_), F.binds (fun _ _ _ _ _ _ us hl => match us, hl with | [_], _ => rfl)⟩
  · obtain ⟨_, _, _, _, _, rfl, _⟩ := h
    rfl
  · obtain ⟨a, C', dx, fs, v, rfl, ea, cl, no, hf, q⟩ := h
    refine ⟨_, (pss_one (ps_ret (pe_fld (pv 0) rfl))), ?_⟩
    exact ⟨_, rfl, a, C', dx, _, _, rfl, ea, cl, no, hf, q⟩

end
end Lb
set_option Elab.async false
set_option linter.all false
set_option maxRecDepth 100000
set_option maxHeartbeats 8000000
namespace Lb
open PySem PySem.Spec PyProof.Rows L2 RZ TL
section
variable {P : Program} {w : World} {K : PySem.W.Frag} {mg : Str → Option Value} {base : Heap}
theorem sc_Desk_stock : FnScope ["self"] ["self"] (defScope s_Desk_stock) := ⟨rfl, rfl, rfl, by decide +kernel, rfl, by decide +kernel, by decide +kernel⟩
theorem own_dstock {C p g : Addr} {fd : FuncData} (F : Fun K "stock" "Desk.stock" s_Desk_stock g fd) (hp : PropOf K C "stock" p g) : PropM P w K mg base C "stock" 1 (spFldV K "present") := by
  refine ⟨p, g, fd, hp, F.okX sc_Desk_stock (fun vs H Q E h => ?_) (fun cdv A outer s H vs Q E hr h => ?_), F.binds (fun _ _ _ _ _ _ us hl => match us, hl with | [_], _ => rfl)⟩
  · obtain ⟨_, _, _, _, _, rfl, _⟩ := h
    rfl
  · obtain ⟨a, C', dx, fs, v, rfl, ea, cl, no, hf, q⟩ := h
    refine ⟨_, (pss_one (ps_ret (pe_fld (pv 0) rfl))), ?_⟩
    exact ⟨_, rfl, a, C', dx, _, _, rfl, ea, cl, no, hf, q⟩

end
end Lb
set_option Elab.async false
set_option linter.all false
set_option maxRecDepth 100000
set_option maxHeartbeats 8000000
namespace Lb
open PySem PySem.Spec PyProof.Rows L2 RZ TL
section
variable {P : Program} {w : World} {K : PySem.W.Frag} {mg : Str → Option Value} {base : Heap}
theorem sc_Desk_debt : FnScope ["self"] ["self"] (defScope s_Desk_debt) := ⟨rfl, rfl, rfl, by decide +kernel, rfl, by decide +kernel, by decide +kernel⟩
theorem own_ddebt {C p g : Addr} {fd : FuncData} (F : Fun K "debt" "Desk.debt" s_Desk_debt g fd) (hp : PropOf K C "debt" p g) : PropM P w K mg base C "debt" 1 (spFldV K "owed") := by
  refine ⟨p, g, fd, hp, F.okX sc_Desk_debt (fun vs H Q E h => ?_) (fun cdv A outer s H vs Q E hr h => ?_), F.binds (fun _ _ _ _ _ _ us hl => match us, hl with | [_], _ => rfl)⟩
  · obtain ⟨_, _, _, _, _, rfl, _⟩ := h
    rfl
  · obtain ⟨a, C', dx, fs, v, rfl, ea, cl, no, hf, q⟩ := h
    refine ⟨_, (pss_one (ps_ret (pe_fld (pv 0) rfl))), ?_⟩
    exact ⟨_, rfl, a, C', dx, _, _, rfl, ea, cl, no, hf, q⟩

end
end Lb
set_option Elab.async false
set_option linter.all false
set_option maxRecDepth 100000
set_option maxHeartbeats 8000000
namespace Lb
open PySem PySem.Spec PyProof.Rows L2 RZ TL
section
variable {P : Program} {w : World} {K : PySem.W.Frag} {mg : Str → Option Value} {base : Heap}
theorem sc_Desk_version : FnScope ["self"] ["self"] (defScope s_Desk_version) := ⟨rfl, rfl, rfl, by decide +kernel, rfl, by decide +kernel, by decide +kernel⟩
theorem own_dversion {C p g : Addr} {fd : FuncData} (F : Fun K "version" "Desk.version" s_Desk_version g fd) (hp : PropOf K C "version" p g) (B : Blt mg) : PropM P w K mg base C "version" 1 (spDLen K) := by
  refine ⟨p, g, fd, hp, F.okX sc_Desk_version (fun vs H Q E h => ?_) (fun cdv A outer s H vs Q E hr h => ?_), F.binds (fun _ _ _ _ _ _ us hl => match us, hl with | [_], _ => rfl)⟩
  · obtain ⟨_, _, _, _, _, rfl, _⟩ := h
    rfl
  · obtain ⟨a, C', dx, fs, l, rfl, ea, dc, hl, xs, el, q⟩ := h
    refine ⟨_, (pss_one (ps_ret (pe_callB (id := "len") call_len_seq (by rfl) B.b_len PySem.boot_len (pa_cons (pe_fld (pv 0) rfl) pa_nil)))), ?_⟩
    refine ⟨_, rfl, a, C', dx, _, _, rfl, ea, dc.cl, dc.n4, hl, ?_⟩
    exact ⟨l, _, rfl, .inl (SqL.of el), q⟩

end
end Lb
set_option Elab.async false
set_option linter.all false
set_option maxRecDepth 100000
set_option maxHeartbeats 8000000
namespace Lb
open PySem PySem.Spec PyProof.Rows L2 RZ TL
section
variable {P : Program} {w : World} {K : PySem.W.Frag} {mg : Str → Option Value} {base : Heap}
theorem sc_Desk_settled : FnScope ["self"] ["self"] (defScope s_Desk_settled) := ⟨rfl, rfl, rfl, by decide +kernel, rfl, by decide +kernel, by decide +kernel⟩
theorem own_dsettled {C C' p g : Addr} {fd : FuncData} (F : Fun K "settled" "Desk.settled" s_Desk_settled g fd) (hp : PropOf K C' "settled" p g) (B : Blt mg) (BC : BagC K mg C) (M_amounts : PropM P w K mg base C "amounts" 1 (spAmt C)) : PropM P w K mg base C' "settled" 4 (spSettled K C) := by
  refine ⟨p, g, fd, hp, F.okX sc_Desk_settled (fun vs H Q E h => ?_) (fun cdv A outer s H vs Q E hr h => ?_), F.binds (fun _ _ _ _ _ _ us hl => match us, hl with | [_], _ => rfl)⟩
  · obtain ⟨_, _, _, _, _, _, _, rfl, _⟩ := h
    rfl
  · obtain ⟨a, CX, dx, fs, b, t, x, rfl, ea, dc, hl, hb, q⟩ := h
    refine ⟨_, (pss_one (ps_ret (pe_cmpR op_eq (pe_callB (id := "sum") (cr_sumT rfl) (by rfl) B.b_sum (by decide +kernel) (pa_cons (pe_amt BC M_amounts (hr.mono (by omega)) (pe_fld (pv 0) rfl)) pa_nil)) pe_int (nomark _)))), ?_⟩
    refine ⟨_, rfl, a, CX, dx, _, _, rfl, ea, dc.cl, dc.n3, hl, rd_amt hb ?_⟩
    refine ⟨t, x, rfl, .inl (.inl hb.tup), rfl, ?_⟩
    have e : decide (V.int x.sum = V.int 0) = decide (x.sum = 0) := by
      by_cases h : x.sum = 0
      · rw [h, decide_eq_true rfl, decide_eq_true rfl]
      · rw [decide_eq_false h, decide_eq_false fun z => h (V.int.inj z)]
    rw [e]
    exact q

end
end Lb
set_option Elab.async false
set_option linter.all false
set_option maxRecDepth 100000
set_option maxHeartbeats 8000000
namespace Lb
open PySem PySem.Spec PyProof.Rows L2 RZ TL
section
variable {P : Program} {w : World} {K : PySem.W.Frag} {mg : Str → Option Value} {base : Heap}
end
end Lb
set_option Elab.async false
set_option linter.all false
set_option maxRecDepth 100000
set_option maxHeartbeats 8000000
namespace Lb
open PySem PySem.Spec PyProof.Rows L2 RZ TL
section
variable {P : Program} {w : World} {K : PySem.W.Frag} {mg : Str → Option Value} {base : Heap}
theorem sc_Bag_amounts_of : FnScope ["self", "other"] ["self", "other"] (defScope s_Bag_amounts_of) := ⟨rfl, rfl, rfl, by decide +kernel, rfl, by decide +kernel, by decide +kernel⟩
theorem own_bof {C CB : Addr} (D : DfM K C "amounts_of" "Bag.amounts_of" s_Bag_amounts_of) (B : Blt mg) (BC : BagC K mg C) (T_BadBag : Err0 K mg "BadBag" CB) (M_is_like : OwnM P w K mg base C "is_like" 1 ["self", "other"] (spIsLike K C)) : OwnM P w K mg base C "amounts_of" 2 ["self", "other"] (spAmtsOf K C CB) := by
  refine ownM_of D sc_Bag_amounts_of (fun _ _ _ _ _ _ us hl => match us, hl with | [_, _], _ => rfl) (fun vs H Q E h => ?_) (fun f cdv A outer s H vs Q E hr h => ?_)
  · obtain ⟨_, _, _, _, rfl, _⟩ := h
    rfl
  · obtain ⟨a, t, x, y, rfl, hb, q⟩ := h
    obtain ⟨⟨dx, ea⟩, et⟩ := id hb
    refine ⟨_, (pss_cons (ps_if (pt_not (pt_val (pe_methX (pv 0) BC.cl M_is_like (hr.mono (by omega)) passX0 (pa_cons (pv 1) pa_nil)))) (pss_one (ps_raise rfl (takes_of rfl rfl rfl rfl) (pmk_err0 T_BadBag (by rfl)))) pss_nil)
      (pss_one (ps_ret (pe_fld (pv 1) rfl)))), ?_⟩
    refine ⟨_, rfl, a, dx, _, rfl, ea, rfl, _, rfl, a, t, x, y, rfl, hb, ?_⟩
    rcases q with ⟨b, s', z, rfl, hb2, zok, q1, q2⟩ | ⟨hn, q⟩
    · obtain ⟨⟨dy, eb⟩, es⟩ := id hb2
      refine .inl ⟨b, s', z, rfl, hb2, zok, _, rfl, ?_⟩
      by_cases h : z.length = x.length
      · rw [decide_eq_true h]
        exact iteF ⟨_, rfl, b, C, dy, _, _, rfl, eb, BC.cl, BC.no, rfl, q1 h⟩
      · rw [decide_eq_false h]
        exact iteT (q2 h)
    · exact .inr ⟨hn, _, rfl, iteT q⟩

end
end Lb
set_option Elab.async false
set_option linter.all false
set_option maxRecDepth 100000
set_option maxHeartbeats 8000000
namespace Lb
open PySem PySem.Spec PyProof.Rows L2 RZ TL
section
variable {P : Program} {w : World} {K : PySem.W.Frag} {mg : Str → Option Value} {base : Heap}
theorem sc_Bag___add__ : FnScope ["self", "other", "more", "amount", "many"] ["self", "other"] (defScope s_Bag___add__) := ⟨rfl, rfl, rfl, by decide +kernel, rfl, by decide +kernel, by decide +kernel⟩
theorem own_badd {C CB : Addr} (D : DfM K C "__add__" "Bag.__add__" s_Bag___add__) (B : Blt mg) (BC : BagC K mg C) (M_init : OwnM P w K mg base C "__init__" 3 ["self", "amounts"] (spInit K C CB)) (M_amounts_of : OwnM P w K mg base C "amounts_of" 2 ["self", "other"] (spAmtsOf K C CB)) :
    OwnM P w K mg base C "__add__" 6 ["self", "other"] (spBin (· + ·) K C CB) := by
  refine ownM_of D sc_Bag___add__ (fun _ _ _ _ _ _ us hl => match us, hl with | [_, _], _ => rfl) (fun vs H Q E h => ?_) (fun f cdv A outer s H vs Q E hr h => ?_)
  · obtain ⟨_, _, _, _, rfl, _⟩ := h
    rfl
  · obtain ⟨a, t, x, y, rfl, hb, xok, q⟩ := h
    obtain ⟨⟨dx, ea⟩, et⟩ := id hb
    have x4 := xok.four
    refine ⟨_, (pss_cons (ps_set (i := 2) sc_Bag___add__.nd rfl (.inl rfl) (pe_methX (pv 0) BC.cl M_amounts_of (hr.mono (by omega)) (passE (takes_of rfl rfl rfl rfl) (fun _ _ _ _ h => h)) (pa_cons (pv 1) pa_nil)))
      (pss_one (ps_ret (pe_bagX BC M_init (hr.mono (by omega)) (passE (takes_of rfl rfl rfl rfl) (fun _ _ _ _ h => h)) (by rfl) (pa_cons (pe_callTy (T := "tuple") call_tuple_of (by rfl) B.b_tuple (by decide +kernel) (pa_cons (pe_lc (own := [("amount", 3), ("many", 4)]) (g := gTup _ 2 (gCons (gName 3) (gCons (gName 4) gNil))) (tt := tYes) rfl sc_Bag___add__.nd (pi_zipA (by rfl) B.b_zip (pa_cons (pe_fld (pv 0) rfl) (pa_cons (pv 2) pa_nil))) (blkOk_by (own := [("amount", 3), ("many", 4)]) (N := ["self", "other", "more", "amount", "many"]) (sc := defScope s_Bag___add__) (by decide +kernel)) (fun _ _ _ _ _ => (pg_tup rfl (pgs_cons (pg_name (i := 3) sc_Bag___add__.nd rfl (.inl rfl)) (pgs_cons (pg_name (i := 4) sc_Bag___add__.nd rfl (.inl rfl)) pgs_nil)))) (fun _ _ _ _ _ => pts_nil) (fun _ _ _ _ _ => (pe_op op_add (pv 3) (pv 4)))) pa_nil)) pa_nil))))), ?_⟩
    -- more = self.amounts_of(other)
    refine ⟨_, rfl, a, dx, _, rfl, ea, rfl, _, rfl, a, t, x, y, rfl, hb, ?_⟩
    rcases q with ⟨b, s', z, rfl, hb2, zok, q1, q2⟩ | ⟨hn, q⟩
    · obtain ⟨⟨dy, eb⟩, es⟩ := id hb2
      refine .inl ⟨b, s', z, rfl, hb2, zok, fun hl => ?_, fun hne => q2 hne H (Same.refl H)⟩
      have ok : BgOk (List.zipWith (· + ·) x z) := by
        refine ⟨by rw [List.length_zipWith, hl, Nat.min_self]; exact xok.one, by rw [List.length_zipWith, hl, Nat.min_self]; exact x4, fun w hw => ?_⟩
        obtain ⟨u, hu, v, hv, rfl⟩ := mem_zip hw
        have h1 := xok.nn u hu
        have h2 := zok.nn v hv
        show 0 ≤ u + v; omega
      -- Bag(tuple([..]))
      refine ⟨_, rfl, a, C, dx, _, _, rfl, ea, BC.cl, BC.no, rfl, _, rfl, t, s', _, _, rfl, .inr ⟨.inl (.inl et), .inl (.inl es), fun D hD => ?_⟩⟩
      refine lc_zw (f := (· + ·)) hD (.inl (.inl et)) (.inl (.inl es)) hl.symm (by omega) (fun u v T H' Q' sm _ _ eT q' => ?_) (fun H' sm eD => ?_) gTup2_mono
      · exact ⟨T, _, rfl, .inl (.inl eT), rfl, _, _, rfl, _, _, rfl, rfl, rfl, _, rfl, _, rfl, _, _, rfl, rfl, q'⟩
      · refine ⟨D, _, rfl, .inl ⟨SqL.of eD, fun p hp => ?_⟩⟩
        have s2 := sm.trans (same_upd (o := .tup ((List.zipWith (· + ·) x z).map V.int)) hp)
        refine ⟨_, rfl, .inl ⟨fun _ => True, _, Dat.mkBag trivial upd_same, by rw [List.length_map]; have := ok.four; omega, fun _ H3 n dn s3 hn3 e3 => ?_, fun hm => ?_⟩⟩
        · exact q1 hl H3 n p (s2.trans s3) (s2.free hn3) ⟨⟨dn, e3⟩, s3 _ _ upd_same⟩
        · rw [mkB_ok ok] at hm
          cases hm
    · exact .inr ⟨hn, q H (Same.refl H)⟩

end
end Lb
set_option Elab.async false
set_option linter.all false
set_option maxRecDepth 100000
set_option maxHeartbeats 8000000
namespace Lb
open PySem PySem.Spec PyProof.Rows L2 RZ TL
section
variable {P : Program} {w : World} {K : PySem.W.Frag} {mg : Str → Option Value} {base : Heap}
theorem sc_joined : FnScope ["one", "other", "amount", "like"] ["one", "other"] (defScope s_joined) := ⟨rfl, rfl, rfl, by decide +kernel, rfl, by decide +kernel, by decide +kernel⟩
theorem own_joined (D : Df K mg "joined" s_joined) (B : Blt mg) : Own P w K mg base "joined" 1 ["one", "other"] (spZw maxI K) := by
  refine own_of D sc_joined (fun _ _ _ _ _ _ us hl => match us, hl with | [_, _], _ => rfl) (fun vs H Q E h => ?_) (fun f cdv A outer s H vs Q E hr h => ?_)
  · obtain ⟨_, _, _, _, rfl, _⟩ := h
    rfl
  · obtain ⟨a, b, x, y, rfl, hA, hB, hl, hl2, q⟩ := h
    refine ⟨_, (pss_one (ps_ret (pe_callTy (T := "tuple") call_tuple_of (by rfl) B.b_tuple (by decide +kernel) (pa_cons (pe_lc (own := [("amount", 2), ("like", 3)]) (g := gTup _ 2 (gCons (gName 2) (gCons (gName 3) gNil))) (tt := tYes) rfl sc_joined.nd (pi_zipA (by rfl) B.b_zip (pa_cons (pv 0) (pa_cons (pv 1) pa_nil))) (blkOk_by (own := [("amount", 2), ("like", 3)]) (N := ["one", "other", "amount", "like"]) (sc := defScope s_joined) (by decide +kernel)) (fun _ _ _ _ _ => (pg_tup rfl (pgs_cons (pg_name (i := 2) sc_joined.nd rfl (.inl rfl)) (pgs_cons (pg_name (i := 3) sc_joined.nd rfl (.inl rfl)) pgs_nil)))) (fun _ _ _ _ _ => pts_nil) (fun _ _ _ _ _ => (pe_callB (id := "max") (show CallR _ _ _ from call_max2 rfl) (by rfl) B.b_max (by decide +kernel) (pa_cons (pv 2) (pa_cons (pv 3) pa_nil))))) pa_nil)))), ?_⟩
    refine ⟨_, rfl, _, rfl, a, b, _, _, rfl, .inr ⟨hA, hB, fun D hD => ?_⟩⟩
    refine lc_zw (f := maxI) hD hA hB hl hl2 (fun u v T H' Q' sm _ _ eT q' => ?_) (fun H' sm eD => ?_) gTup2_mono
    · exact ⟨T, _, rfl, .inl (.inl eT), rfl, _, _, rfl, _, _, rfl, rfl, rfl, _, rfl, _, rfl, _, _, rfl, q'⟩
    · exact ⟨D, _, rfl, .inl ⟨SqL.of eD, fun p hp => q _ p (sm.trans (same_upd hp)) (sm.free hp) upd_same⟩⟩

end
end Lb
set_option Elab.async false
set_option linter.all false
set_option maxRecDepth 100000
set_option maxHeartbeats 8000000
namespace Lb
open PySem PySem.Spec PyProof.Rows L2 RZ TL
section
variable {P : Program} {w : World} {K : PySem.W.Frag} {mg : Str → Option Value} {base : Heap}
theorem sc_Bag___or__ : FnScope ["self", "other"] ["self", "other"] (defScope s_Bag___or__) := ⟨rfl, rfl, rfl, by decide +kernel, rfl, by decide +kernel, by decide +kernel⟩
theorem own_bor {C CB : Addr} (D : DfM K C "__or__" "Bag.__or__" s_Bag___or__) (B : Blt mg) (BC : BagC K mg C) (O_joined : Own P w K mg base "joined" 1 ["one", "other"] (spZw maxI K)) (M_init : OwnM P w K mg base C "__init__" 3 ["self", "amounts"] (spInit K C CB)) (M_amounts_of : OwnM P w K mg base C "amounts_of" 2 ["self", "other"] (spAmtsOf K C CB)) :
    OwnM P w K mg base C "__or__" 6 ["self", "other"] (spBin maxI K C CB) := by
  refine ownM_of D sc_Bag___or__ (fun _ _ _ _ _ _ us hl => match us, hl with | [_, _], _ => rfl) (fun vs H Q E h => ?_) (fun f cdv A outer s H vs Q E hr h => ?_)
  · obtain ⟨_, _, _, _, rfl, _⟩ := h
    rfl
  · obtain ⟨a, t, x, y, rfl, hb, xok, q⟩ := h
    obtain ⟨⟨dx, ea⟩, et⟩ := id hb
    have x4 := xok.four
    refine ⟨_, (pss_one (ps_ret (pe_bagX BC M_init (hr.mono (by omega)) (passE (takes_of rfl rfl rfl rfl) (fun _ _ _ _ h => h)) (by rfl) (pa_cons (pe_own O_joined (hr.mono (by omega)) (by rfl) (pa_cons (pe_fld (pv 0) rfl) (pa_cons (pe_methX (pv 0) BC.cl M_amounts_of (hr.mono (by omega)) (passE (takes_of rfl rfl rfl rfl) (fun _ _ _ _ h => h)) (pa_cons (pv 1) pa_nil)) pa_nil))) pa_nil)))), ?_⟩
    -- Bag(joined(self.held, self.amounts_of(other)))
    refine ⟨_, rfl, a, C, dx, _, _, rfl, ea, BC.cl, BC.no, rfl, _, rfl, a, dx, _, rfl, ea, rfl, _, rfl, a, t, x, y, rfl, hb, ?_⟩
    rcases q with ⟨b, s', z, rfl, hb2, zok, q1, q2⟩ | ⟨hn, q⟩
    · obtain ⟨⟨dy, eb⟩, es⟩ := id hb2
      refine .inl ⟨b, s', z, rfl, hb2, zok, fun hl => ?_, fun hne => q2 hne H (Same.refl H)⟩
      have ok : BgOk (List.zipWith maxI x z) := by
        refine ⟨by rw [List.length_zipWith, hl, Nat.min_self]; exact xok.one, by rw [List.length_zipWith, hl, Nat.min_self]; exact x4, fun w hw => ?_⟩
        obtain ⟨u, hu, v, hv, rfl⟩ := mem_zip hw
        have h1 := xok.nn u hu
        have h2 := zok.nn v hv
        show 0 ≤ (if v > u then v else u)
        split <;> omega
      refine ⟨t, s', x, z, rfl, .inl (.inl et), .inl (.inl es), hl.symm, by omega, fun H2 p s2 hp ep => ?_⟩
      refine ⟨_, rfl, .inl ⟨fun _ => True, _, Dat.mkBag trivial ep, by rw [List.length_map]; have := ok.four; omega, fun _ H3 n dn s3 hn3 e3 => ?_, fun hm => ?_⟩⟩
      · exact q1 hl H3 n p (s2.trans s3) (s2.free hn3) ⟨⟨dn, e3⟩, s3 _ _ ep⟩
      · rw [mkB_ok ok] at hm
        cases hm
    · exact .inr ⟨hn, q H (Same.refl H)⟩

end
end Lb
set_option Elab.async false
set_option linter.all false
set_option maxRecDepth 100000
set_option maxHeartbeats 8000000
namespace Lb
open PySem PySem.Spec PyProof.Rows L2 RZ TL
section
variable {P : Program} {w : World} {K : PySem.W.Frag} {mg : Str → Option Value} {base : Heap}
end
end Lb
set_option Elab.async false
set_option linter.all false
set_option maxRecDepth 100000
set_option maxHeartbeats 8000000
namespace Lb
open PySem PySem.Spec PyProof.Rows L2 RZ TL
section
variable {P : Program} {w : World} {K : PySem.W.Frag} {mg : Str → Option Value} {base : Heap}
theorem sc_Bag___eq__ : FnScope ["self", "other"] ["self", "other"] (defScope s_Bag___eq__) := ⟨rfl, rfl, rfl, by decide +kernel, rfl, by decide +kernel, by decide +kernel⟩
theorem own_beq {C : Addr} (D : DfM K C "__eq__" "Bag.__eq__" s_Bag___eq__) (B : Blt mg) (BC : BagC K mg C) : OwnM P w K mg base C "__eq__" 6 ["self", "other"] (spEq K C) := by
  refine ownM_of D sc_Bag___eq__ (fun _ _ _ _ _ _ us hl => match us, hl with | [_, _], _ => rfl) (fun vs H Q E h => ?_) (fun f cdv A outer s H vs Q E hr h => ?_)
  · obtain ⟨_, _, _, _, rfl, _⟩ := h
    rfl
  · obtain ⟨a, t, x, y, rfl, ⟨⟨dx, ea⟩, et⟩, xok, q⟩ := h
    refine ⟨_, (pss_one (ps_ret (pe_and (pe_callB (id := "isinstance") call_isi (by rfl) B.b_isinstance (by decide +kernel) (pa_cons (pv 1) (pa_cons (pe_glob (v := .ref C) (by rfl) BC.gB rfl) pa_nil))) (pe_one (pe_cmpR (op_eqD hr.units) (pe_fld (pv 0) rfl) (pe_fld (pv 1) rfl) (nomark _)))))), ?_⟩
    rcases q with ⟨b, s', z, rfl, ⟨⟨dy, eb⟩, es⟩, zok, q⟩ | ⟨⟨ty, ht, hk⟩, q⟩
    · refine ⟨_, rfl, _, _, _, _, _, rfl, .own C, BC.ty eb, BC.ks, _, rfl, iteT ?_⟩
      refine ⟨_, rfl, a, C, dx, _, _, rfl, ea, BC.cl, BC.no, rfl, _, rfl, b, C, dy, _, _, rfl, eb, BC.cl, BC.no, rfl, bagD x, bagD z, dp_bag et, dp_bag es, shaped_bag x, shaped_bag z, ?_⟩
      rw [eqv_bag]
      exact q
    · exact ⟨_, rfl, _, _, _, _, _, rfl, .own C, ht, hk, _, rfl, iteF q⟩

end
end Lb
set_option Elab.async false
set_option linter.all false
set_option maxRecDepth 100000
set_option maxHeartbeats 8000000
namespace Lb
open PySem PySem.Spec PyProof.Rows L2 RZ TL
section
variable {P : Program} {w : World} {K : PySem.W.Frag} {mg : Str → Option Value} {base : Heap}
end
end Lb
set_option Elab.async false
set_option linter.all false
set_option maxRecDepth 100000
set_option maxHeartbeats 8000000
namespace Lb
open PySem PySem.Spec PyProof.Rows L2 RZ TL
section
variable {P : Program} {w : World} {K : PySem.W.Frag} {mg : Str → Option Value} {base : Heap}
end
end Lb
set_option Elab.async false
set_option linter.all false
set_option maxRecDepth 100000
set_option maxHeartbeats 8000000
namespace Lb
open PySem PySem.Spec PyProof.Rows L2 RZ TL
section
variable {P : Program} {w : World} {K : PySem.W.Frag} {mg : Str → Option Value} {base : Heap}
theorem sc_Desk___eq__ : FnScope ["self", "other"] ["self", "other"] (defScope s_Desk___eq__) := ⟨rfl, rfl, rfl, by decide +kernel, rfl, by decide +kernel, by decide +kernel⟩
theorem own_deq {C CD CC : Addr} (D : DfM K CC "__eq__" "Desk.__eq__" s_Desk___eq__) (B : Blt mg) (gD : mg "Desk" = some (.ref CD)) (M_eq : OwnM P w K mg base C "__eq__" 6 ["self", "other"] (spEq K C)) : OwnM P w K mg base CC "__eq__" 8 ["self", "other"] (spDEq K C CD) := by
  refine ownM_of D sc_Desk___eq__ (fun _ _ _ _ _ _ us hl => match us, hl with | [_, _], _ => rfl) (fun vs H Q E h => ?_) (fun f cdv A outer s H vs Q E hr h => ?_)
  · obtain ⟨_, _, _, _, _, rfl, _⟩ := h
    rfl
  · obtain ⟨a, mv, x, o, y, rfl, da, xok, ook, h⟩ := h
    refine ⟨_, (pss_cons (ps_if (pt_not (pt_val (pe_callB (id := "isinstance") call_isi (by rfl) B.b_isinstance (by decide +kernel) (pa_cons (pv 1) (pa_cons (pe_glob (v := .ref CD) (by rfl) gD rfl) pa_nil))))) (pss_one (ps_ret pe_bl)) pss_nil)
      (pss_one (ps_ret (pe_and (pe_cmpR (op_eqD hr.units) (pe_fld (pv 0) rfl) (pe_fld (pv 1) rfl) (nomark _)) (pe_and (pe_cmpR (op_eqM M_eq (hr.mono (by omega)) passX0) (pe_fld (pv 0) rfl) (pe_fld (pv 1) rfl) (nomark _)) (pe_one (pe_cmpR (op_eqM M_eq (hr.mono (by omega)) passX0) (pe_fld (pv 0) rfl) (pe_fld (pv 1) rfl) (nomark _)))))))), ?_⟩
    rcases h with ⟨ty, ht, hk, q⟩ | ⟨b, mw, x', o', d, d', rfl, db, xok', ook', dp1, dp2, sh1, sh2, q⟩
    · exact ⟨_, rfl, _, _, _, _, _, rfl, .own _, ht, hk, _, rfl, iteT q⟩
    · obtain ⟨CX, dx, fs, b1, s1, p1, q1, dt, ea, f1, f2, f3, B1, O1⟩ := da.ex
      obtain ⟨CY, dy, gs, b2, s2, p2, q2, dt', eb, g1, g2, g3, B2, O2⟩ := db.ex
      refine ⟨_, rfl, _, _, _, _, _, rfl, .own _, dt'.ty eb, dt'.ki, _, rfl, iteF ?_⟩
      refine ⟨_, rfl, a, CX, dx, _, _, rfl, ea, dt.dc.cl, dt.dc.n1, f1, _, rfl, b, CY, dy, _, _, rfl, eb, dt'.dc.cl, dt'.dc.n1, g1, d, d', dp1, dp2, sh1, sh2, _, rfl, ?_⟩
      cases hv : PyData.eqv d d' with
      | false =>
        rw [hv, Bool.false_and] at q
        exact iteF q
      | true =>
        rw [hv, Bool.true_and] at q
        refine iteT ?_
        refine ⟨_, rfl, a, CX, dx, _, _, rfl, ea, dt.dc.cl, dt.dc.n2, f2, _, rfl, b, CY, dy, _, _, rfl, eb, dt'.dc.cl, dt'.dc.n2, g2, rd_eq B1 B2 xok xok' ⟨_, rfl, ?_⟩⟩
        by_cases hx : x = x'
        · rw [decide_eq_true hx, Bool.true_and] at q
          rw [decide_eq_true hx]
          refine iteT ?_
          exact ⟨_, rfl, a, CX, dx, _, _, rfl, ea, dt.dc.cl, dt.dc.n3, f3, _, rfl, b, CY, dy, _, _, rfl, eb, dt'.dc.cl, dt'.dc.n3, g3, rd_eq O1 O2 ook ook' q⟩
        · rw [decide_eq_false hx, Bool.false_and] at q
          rw [decide_eq_false hx]
          exact iteF q

end
end Lb
set_option Elab.async false
set_option linter.all false
set_option maxRecDepth 100000
set_option maxHeartbeats 8000000
namespace Lb
open PySem PySem.Spec PyProof.Rows L2 RZ TL
section
variable {P : Program} {w : World} {K : PySem.W.Frag} {mg : Str → Option Value} {base : Heap}
theorem sc_BadMarket___init__ : FnScope ["self", "error"] ["self", "error"] (defScope s_BadMarket___init__) := ⟨rfl, rfl, rfl, by decide +kernel, rfl, by decide +kernel, by decide +kernel⟩
theorem ini_badmarket {C f : Addr} {fd : FuncData} (F : Fun K "__init__" "BadMarket.__init__" s_BadMarket___init__ f fd) (ox : OexC K C) (no : PySem.W.findIn K (.ref C) "error" = some none) : FnOk P w K mg base CX0 1 f fd ["self", "error"] (spIni C "error") := by
  refine F.ok sc_BadMarket___init__ (fun vs H Q E h => ?_) (fun cdv A outer s H vs Q E hr h => ?_)
  · obtain ⟨_, _, rfl, _⟩ := h
    rfl
  · obtain ⟨a, v, rfl, ea, q⟩ := h
    refine ⟨_, (pss_one (ps_ost (pv 0) (pv 1))), ?_⟩
    exact ⟨_, rfl, _, rfl, a, C, rfl, ox, no, .inl ⟨ea, fun dx n ne => q dx n ne⟩⟩

end
end Lb
set_option Elab.async false
set_option linter.all false
set_option maxRecDepth 100000
set_option maxHeartbeats 8000000
namespace Lb
open PySem PySem.Spec PyProof.Rows L2 RZ TL
section
variable {P : Program} {w : World} {K : PySem.W.Frag} {mg : Str → Option Value} {base : Heap}
theorem sc_TooMuch___init__ : FnScope ["self", "good"] ["self", "good"] (defScope s_TooMuch___init__) := ⟨rfl, rfl, rfl, by decide +kernel, rfl, by decide +kernel, by decide +kernel⟩
theorem ini_toomuch {C f : Addr} {fd : FuncData} (F : Fun K "__init__" "TooMuch.__init__" s_TooMuch___init__ f fd) (ox : OexC K C) (no : PySem.W.findIn K (.ref C) "good" = some none) : FnOk P w K mg base CX0 1 f fd ["self", "good"] (spIni C "good") := by
  refine F.ok sc_TooMuch___init__ (fun vs H Q E h => ?_) (fun cdv A outer s H vs Q E hr h => ?_)
  · obtain ⟨_, _, rfl, _⟩ := h
    rfl
  · obtain ⟨a, v, rfl, ea, q⟩ := h
    refine ⟨_, (pss_one (ps_ost (pv 0) (pv 1))), ?_⟩
    exact ⟨_, rfl, _, rfl, a, C, rfl, ox, no, .inl ⟨ea, fun dx n ne => q dx n ne⟩⟩

end
end Lb
set_option Elab.async false
set_option linter.all false
set_option maxRecDepth 100000
set_option maxHeartbeats 8000000
namespace Lb
open PySem PySem.Spec PyProof.Rows L2 RZ TL
section
variable {P : Program} {w : World} {K : PySem.W.Frag} {mg : Str → Option Value} {base : Heap}
theorem sc_BadTimes___init__ : FnScope ["self", "value"] ["self", "value"] (defScope s_BadTimes___init__) := ⟨rfl, rfl, rfl, by decide +kernel, rfl, by decide +kernel, by decide +kernel⟩
theorem ini_badtimes {C f : Addr} {fd : FuncData} (F : Fun K "__init__" "BadTimes.__init__" s_BadTimes___init__ f fd) (ox : OexC K C) (no : PySem.W.findIn K (.ref C) "value" = some none) : FnOk P w K mg base CX0 1 f fd ["self", "value"] (spIni C "value") := by
  refine F.ok sc_BadTimes___init__ (fun vs H Q E h => ?_) (fun cdv A outer s H vs Q E hr h => ?_)
  · obtain ⟨_, _, rfl, _⟩ := h
    rfl
  · obtain ⟨a, v, rfl, ea, q⟩ := h
    refine ⟨_, (pss_one (ps_ost (pv 0) (pv 1))), ?_⟩
    exact ⟨_, rfl, _, rfl, a, C, rfl, ox, no, .inl ⟨ea, fun dx n ne => q dx n ne⟩⟩

end
end Lb
set_option Elab.async false
set_option linter.all false
set_option maxRecDepth 100000
set_option maxHeartbeats 8000000
namespace Lb
open PySem PySem.Spec PyProof.Rows L2 RZ TL
section
variable {P : Program} {w : World} {K : PySem.W.Frag} {mg : Str → Option Value} {base : Heap}
theorem sc_Lacking___init__ : FnScope ["self", "good"] ["self", "good"] (defScope s_Lacking___init__) := ⟨rfl, rfl, rfl, by decide +kernel, rfl, by decide +kernel, by decide +kernel⟩
theorem ini_lacking {C f : Addr} {fd : FuncData} (F : Fun K "__init__" "Lacking.__init__" s_Lacking___init__ f fd) (ox : OexC K C) (no : PySem.W.findIn K (.ref C) "good" = some none) : FnOk P w K mg base CX0 1 f fd ["self", "good"] (spIni C "good") := by
  refine F.ok sc_Lacking___init__ (fun vs H Q E h => ?_) (fun cdv A outer s H vs Q E hr h => ?_)
  · obtain ⟨_, _, rfl, _⟩ := h
    rfl
  · obtain ⟨a, v, rfl, ea, q⟩ := h
    refine ⟨_, (pss_one (ps_ost (pv 0) (pv 1))), ?_⟩
    exact ⟨_, rfl, _, rfl, a, C, rfl, ox, no, .inl ⟨ea, fun dx n ne => q dx n ne⟩⟩

end
end Lb
set_option Elab.async false
set_option linter.all false
set_option maxRecDepth 100000
set_option maxHeartbeats 8000000
namespace Lb
open PySem PySem.Spec PyProof.Rows L2 RZ TL
section
variable {P : Program} {w : World} {K : PySem.W.Frag} {mg : Str → Option Value} {base : Heap}
theorem sc_Bag___sub__ : FnScope ["self", "other", "less", "good", "amount", "many"] ["self", "other"] (defScope s_Bag___sub__) := ⟨rfl, rfl, rfl, by decide +kernel, rfl, by decide +kernel, by decide +kernel⟩
theorem own_bsub {C CB CL : Addr} (D : DfM K C "__sub__" "Bag.__sub__" s_Bag___sub__) (B : Blt mg) (BC : BagC K mg C) (T_Lacking : Err1 P w K mg base "Lacking" "good" CL) (O_first_lacking : Own P w K mg base "first_lacking" 1 ["bag", "other"] (spLack K)) (M_init : OwnM P w K mg base C "__init__" 3 ["self", "amounts"] (spInit K C CB)) (M_amounts_of : OwnM P w K mg base C "amounts_of" 2 ["self", "other"] (spAmtsOf K C CB)) :
    OwnM P w K mg base C "__sub__" 6 ["self", "other"] (spSub K C CB CL) := by
  refine ownM_of D sc_Bag___sub__ (fun _ _ _ _ _ _ us hl => match us, hl with | [_, _], _ => rfl) (fun vs H Q E h => ?_) (fun f cdv A outer s H vs Q E hr h => ?_)
  · obtain ⟨_, _, _, _, rfl, _⟩ := h
    rfl
  · obtain ⟨a, t, x, y, rfl, hb, xok, q⟩ := h
    obtain ⟨⟨dx, ea⟩, et⟩ := id hb
    have x4 := xok.four
    refine ⟨_, (pss_cons (ps_set (i := 2) sc_Bag___sub__.nd rfl (.inl rfl) (pe_methX (pv 0) BC.cl M_amounts_of (hr.mono (by omega)) (passE (takes_of rfl rfl rfl rfl) (fun _ _ _ _ h => h)) (pa_cons (pv 1) pa_nil)))
      (pss_cons (ps_set (i := 3) sc_Bag___sub__.nd rfl (.inl rfl) (pe_own O_first_lacking (hr.mono (by omega)) (by rfl) (pa_cons (pe_fld (pv 0) rfl) (pa_cons (pv 2) pa_nil))))
      (pss_cons (ps_if (pt_cmp (pc_notN (pv 3))) (pss_one (ps_raise rfl (takes_of rfl rfl rfl rfl) (pmk_err T_Lacking (hr.mono (by omega)) (by rfl) (pa_cons (pv 3) pa_nil)))) pss_nil)
      (pss_one (ps_ret (pe_bagX BC M_init (hr.mono (by omega)) (passE (takes_of rfl rfl rfl rfl) (fun _ _ _ _ h => h)) (by rfl) (pa_cons (pe_callTy (T := "tuple") call_tuple_of (by rfl) B.b_tuple (by decide +kernel) (pa_cons (pe_lc (own := [("amount", 4), ("many", 5)]) (g := gTup _ 2 (gCons (gName 4) (gCons (gName 5) gNil))) (tt := tYes) rfl sc_Bag___sub__.nd (pi_zipA (by rfl) B.b_zip (pa_cons (pe_fld (pv 0) rfl) (pa_cons (pv 2) pa_nil))) (blkOk_by (own := [("amount", 4), ("many", 5)]) (N := ["self", "other", "less", "good", "amount", "many"]) (sc := defScope s_Bag___sub__) (by decide +kernel)) (fun _ _ _ _ _ => (pg_tup rfl (pgs_cons (pg_name (i := 4) sc_Bag___sub__.nd rfl (.inl rfl)) (pgs_cons (pg_name (i := 5) sc_Bag___sub__.nd rfl (.inl rfl)) pgs_nil)))) (fun _ _ _ _ _ => pts_nil) (fun _ _ _ _ _ => (pe_op op_sub (pv 4) (pv 5)))) pa_nil)) pa_nil))))))), ?_⟩
    -- less = self.amounts_of(other)
    refine ⟨_, rfl, a, dx, _, rfl, ea, rfl, _, rfl, a, t, x, y, rfl, hb, ?_⟩
    rcases q with ⟨b, s', z, rfl, hb2, zok, q1, q2⟩ | ⟨hn, q⟩
    · obtain ⟨⟨dy, eb⟩, es⟩ := id hb2
      refine .inl ⟨b, s', z, rfl, hb2, zok, fun hl => ?_, fun hne => q2 hne H (Same.refl H)⟩
      obtain ⟨q1, qk⟩ := q1 hl
      -- good = first_lacking(self.held, less)
      refine ⟨_, rfl, a, C, dx, _, _, rfl, ea, BC.cl, BC.no, rfl, _, rfl, t, s', x, z, rfl, .inl (.inl et), .inl (.inl es), hl.symm, by omega, fun H2 s2 => ?_⟩
      cases hk : lackN x z 0 with
      | some k =>
        refine ⟨_, rfl, _, rfl, iteT ⟨_, rfl, err_in fun dd hd => ?_⟩⟩
        exact qk k hk _ dd (s2.trans (same_upd hd)) (s2.free hd) upd_same
      | none =>
        have ok : BgOk (List.zipWith (· - ·) x z) := ⟨by rw [List.length_zipWith, hl, Nat.min_self]; exact xok.one, by rw [List.length_zipWith, hl, Nat.min_self]; exact x4, lackN_none hl.symm hk⟩
        refine ⟨_, rfl, _, rfl, iteF ?_⟩
        have ea2 := s2 _ _ ea
        have et2 := s2 _ _ et
        have es2 := s2 _ _ es
        refine ⟨_, rfl, a, C, dx, _, _, rfl, ea2, BC.cl, BC.no, rfl, _, rfl, t, s', _, _, rfl, .inr ⟨.inl (.inl et2), .inl (.inl es2), fun D hD => ?_⟩⟩
        refine lc_zw (f := (· - ·)) hD (.inl (.inl et2)) (.inl (.inl es2)) hl.symm (by omega) (fun u v T H' Q' sm _ _ eT q' => ?_) (fun H' sm eD => ?_) gTup2_mono
        · exact ⟨T, _, rfl, .inl (.inl eT), rfl, _, _, rfl, _, _, rfl, rfl, rfl, _, rfl, _, rfl, _, _, rfl, rfl, q'⟩
        · refine ⟨D, _, rfl, .inl ⟨SqL.of eD, fun p hp => ?_⟩⟩
          have s3 := (s2.trans sm).trans (same_upd (o := .tup ((List.zipWith (· - ·) x z).map V.int)) hp)
          refine ⟨_, rfl, .inl ⟨fun _ => True, _, Dat.mkBag trivial upd_same, by rw [List.length_map]; have := ok.four; omega, fun _ H3 n dn s4 hn3 e3 => ?_, fun hm => ?_⟩⟩
          · exact q1 hk H3 n p (s3.trans s4) (s3.free hn3) ⟨⟨dn, e3⟩, s4 _ _ upd_same⟩
          · rw [mkB_ok ok] at hm
            cases hm
    · exact .inr ⟨hn, q H (Same.refl H)⟩

end
end Lb
set_option Elab.async false
set_option linter.all false
set_option maxRecDepth 100000
set_option maxHeartbeats 8000000
namespace Lb
open PySem PySem.Spec PyProof.Rows L2 RZ TL
section
variable {P : Program} {w : World} {K : PySem.W.Frag} {mg : Str → Option Value} {base : Heap}
theorem PastV.keepK {C CX : Addr} {H H' : Hp} {a dx pl : Addr} {fs : List (Str × V)} {ws : List V} (k : Ke a pl H H') (ne : C ≠ CX) (ea : H a = some (.ins CX dx fs)) (ep : H pl = some (.lst ws)) {vs : List V} {l : List (List Int × List Int)} (h : PastV C H vs l) : PastV C H' vs l := by
  refine h.keep fun b o ho e => k b o (fun z => ?_) (fun z => ?_) e
  · rw [z, ea] at e
    cases e
    rcases ho with ⟨xs, z⟩ | ⟨dx, fs, z⟩
    · cases z
    · cases z
      exact ne rfl
  · rw [z, ep] at e
    cases e
    rcases ho with ⟨xs, z⟩ | ⟨dx, fs, z⟩ <;> cases z
theorem ne_of_none' {H : Hp} {a p : Addr} {o : HO} (e : H a = some o) (z : H p = none) : p ≠ a := fun h => by rw [h, e] at z; cases z
theorem sc_Desk_record : FnScope ["self", "stock", "debt"] ["self", "stock", "debt"] (defScope s_Desk_record) := ⟨rfl, rfl, rfl, by decide +kernel, rfl, by decide +kernel, by decide +kernel⟩
theorem own_drecord {C CX : Addr} (D : DfM K CX "record" "Desk.record" s_Desk_record) (B : Blt mg) : OwnM P w K mg base CX "record" 1 ["self", "stock", "debt"] (spRecord K C CX) := by
  refine ownM_of D sc_Desk_record (fun _ _ _ _ _ _ us hl => match us, hl with | [_, _, _], _ => rfl) (fun vs H Q E h => ?_) (fun f cdv A outer s H vs Q E hr h => ?_)
  · obtain ⟨_, _, _, _, _, _, _, _, _, _, _, _, _, _, rfl, _⟩ := h
    rfl
  · obtain ⟨a, dx, pl, b', t', o', u', mv, more, x, y, x', y', past, rfl, dc, da, hb', ho', hp, hm, hmo, q⟩ := h
    refine ⟨_, (pss_cons (ps_expr (pe_bm PySem.F.plainAttrs_list PySem.F.slot_list_append PySem.F.type_list_append mt_append (pe_fld (pv 0) rfl) (pa_cons (pe_tup (pa_cons (pe_fld (pv 0) rfl) (pa_cons (pe_fld (pv 0) rfl) pa_nil))) pa_nil)))
      (pss_cons (ps_fld (pv 0) (pv 1) rfl)
      (pss_cons (ps_fld (pv 0) (pv 2) rfl)
      (pss_one (ps_ret (pe_callB (id := "len") call_len_seq (by rfl) B.b_len PySem.boot_len (pa_cons (pe_fld (pv 0) rfl) pa_nil))))))), ?_⟩
    obtain ⟨b, t, o, u, ws, ea, hb, ho, ep, hpast⟩ := da.ex
    have lw := hpast.length
    -- self.past.append((self.present, self.owed))
    refine ⟨_, rfl, a, CX, dx, _, _, rfl, ea, dc.cl, dc.n4, rfl, (.inl ⟨rfl, _, SqL.of ep⟩), ?_⟩
    refine ⟨_, rfl, a, CX, dx, _, _, rfl, ea, dc.cl, dc.n2, rfl, ?_⟩
    refine ⟨_, rfl, a, CX, dx, _, _, rfl, ea, dc.cl, dc.n3, rfl, ?_⟩
    refine ⟨(by show 2 ≤ sizeLine; decide), fun p zp => ?_⟩
    have n1 : pl ≠ a := fun z => by rw [z, ea] at ep; cases ep
    have n2 : p ≠ a := ne_of_none' ea zp
    have n3 : p ≠ pl := ne_of_none' ep zp
    have s1 := same_upd (o := .tup [V.ref b, V.ref o]) zp
    have e1 : upd H p (.tup [V.ref b, V.ref o]) p = some (.tup [V.ref b, V.ref o]) := upd_same
    generalize upd H p (.tup [V.ref b, V.ref o]) = H1 at s1 e1 ⊢
    refine ⟨pl, _, _, rfl, rfl, s1 _ _ ep, by rw [sizeLine_eq]; omega, ?_⟩
    refine ⟨_, rfl, _, rfl, a, CX, dx, _, rfl, (by rw [upd_ne (Ne.symm n1)]; exact s1 _ _ ea), dc.cl, dc.n2, (by show more.length + 1 + 1 + 1 + 1 < 1000; omega), ?_⟩
    refine ⟨_, rfl, _, rfl, a, CX, dx, _, rfl, upd_same, dc.cl, dc.n3, (by show more.length + 1 + 1 + 1 + 1 < 1000; omega), ?_⟩
    rw [upd_upd]
    refine ⟨_, rfl, a, CX, dx, _, _, rfl, upd_same, dc.cl, dc.n4, rfl, ?_⟩
    refine ⟨pl, _, rfl, .inl (SqL.of (by rw [upd_ne n1]; exact upd_same)), ?_⟩
    have ke : Ke a pl H (upd (upd H1 pl (.lst (ws ++ [V.ref p]))) a (.ins CX dx (dskF mv (.ref b') (.ref o') pl ++ more))) := fun c ob h1 h2 e => by
      rw [upd_ne h1, upd_ne h2]
      exact s1 _ _ e
    have fin := q _ ke ⟨⟨b', t', o', u', ws ++ [V.ref p], upd_same, hb'.ke ke da.ne ea ep, ho'.ke ke da.ne ea ep, (by rw [upd_ne n1]; exact upd_same), (hpast.keepK ke da.ne ea ep).append (.cons (by rw [upd_ne n2, upd_ne n3]; exact e1) (hb.ke ke da.ne ea ep) (ho.ke ke da.ne ea ep) .nil)⟩, da.ne⟩
    have el : (ws ++ [V.ref p]).length = past.length + 1 := by rw [List.length_append, List.length_singleton, lw]
    rw [el]
    exact fin

end
end Lb
set_option Elab.async false
set_option linter.all false
set_option maxRecDepth 100000
set_option maxHeartbeats 8000000
namespace Lb
open PySem PySem.Spec PyProof.Rows L2 RZ TL
section
variable {P : Program} {w : World} {K : PySem.W.Frag} {mg : Str → Option Value} {base : Heap}
theorem sc_Desk_borrow : FnScope ["self", "bag", "stock", "debt"] ["self", "bag"] (defScope s_Desk_borrow) := ⟨rfl, rfl, rfl, by decide +kernel, rfl, by decide +kernel, by decide +kernel⟩
theorem fn_dborrow {C CB CT CX f : Addr} {fd : FuncData} (F : Fun K "borrow" "Desk.borrow" s_Desk_borrow f fd) (B : Blt mg) (BC : BagC K mg C) (cD : Cls K CX) (O_check_kind : OwnX P w K mg base "check_kind" 2 ["bag", "value"] (spCKind K C CB)) (O_check_room : OwnX P w K mg base "check_room" 4 ["bag"] (spCRoom C CT)) (M_add : OwnM P w K mg base C "__add__" 6 ["self", "other"] (spBin (· + ·) K C CB)) (M_or : OwnM P w K mg base C "__or__" 6 ["self", "other"] (spBin maxI K C CB)) (M_record : OwnM P w K mg base CX "record" 1 ["self", "stock", "debt"] (spRecord K C CX)) :
    FnOk P w K mg base (L2.CX P w) 8 f fd ["self", "bag"] (spBorrow K C CX CB CT) := by
  refine F.okX sc_Desk_borrow (fun vs H Q E h => ?_) (fun cdv A outer s H vs Q E hr h => ?_)
  · obtain ⟨_, _, _, _, _, _, _, _, _, rfl, _⟩ := h
    rfl
  · obtain ⟨a, dx, pl, v, mv, more, x, y, past, rfl, dc, da, xok, yok, lyx, hp, mo, h⟩ := h
    refine ⟨_, (pss_cons (ps_expr (pe_ownE O_check_kind (hr.mono (by omega)) (passE (takes_of rfl rfl rfl rfl) (fun _ _ _ _ h => h)) (by rfl) (pa_cons (pe_fld (pv 0) rfl) (pa_cons (pv 1) pa_nil))))
      (pss_cons (ps_set (i := 2) sc_Desk_borrow.nd rfl (.inl rfl) (pe_op (op_binM (op := .Add) M_add BC.fst (hr.mono (by omega)) passX0) (pe_fld (pv 0) rfl) (pv 1)))
      (pss_cons (ps_set (i := 3) sc_Desk_borrow.nd rfl (.inl rfl) (pe_op (op_binM (op := .Add) M_add BC.fst (hr.mono (by omega)) passX0) (pe_fld (pv 0) rfl) (pv 1)))
      (pss_cons (ps_expr (pe_ownE O_check_room (hr.mono (by omega)) (passE (takes_of rfl rfl rfl rfl) (fun _ _ _ _ h => h)) (by rfl) (pa_cons (pe_op (op_binM (op := .BitOr) M_or BC.fst (hr.mono (by omega)) passX0) (pv 2) (pv 3)) pa_nil)))
      (pss_one (ps_ret (pe_methX (pv 0) cD M_record (hr.mono (by omega)) passX0 (pa_cons (pv 2) (pa_cons (pv 3) pa_nil))))))))), ?_⟩
    obtain ⟨b0, t0, o0, u0, ws, ea, hb0, ho0, ep, hpast⟩ := da.ex
    -- check_kind(self.owed, bag)
    refine ⟨_, rfl, a, CX, dx, _, _, rfl, ea, dc.cl, dc.n3, rfl, _, rfl, o0, u0, y, v, rfl, ho0, ?_⟩
    rcases h with ⟨b, s', z, rfl, hb, zok, hy, hn⟩ | ⟨hn, he⟩
    · refine .inl ⟨b, s', z, rfl, hb, zok, fun hl => ?_, fun hne => hn hne⟩
      obtain ⟨hk, hd⟩ := hy hl
      -- stock, debt
      refine ⟨_, rfl, a, CX, dx, _, _, rfl, ea, dc.cl, dc.n2, rfl, _, rfl, rd_bin hb0 hb xok zok (by omega) fun H1 p1 u1 s1 f1 b1 => ?_⟩
      refine ⟨_, rfl, a, CX, dx, _, _, rfl, s1 _ _ ea, dc.cl, dc.n3, rfl, _, rfl, rd_bin (ho0.same s1) (hb.same s1) yok zok (by omega) fun H2 p2 u2 s2 f2 b2 => ?_⟩
      have k1 : BgOk (plusZ x z) := plus_ok xok zok (by omega)
      have k2 : BgOk (plusZ y z) := plus_ok yok zok (by omega)
      have l1 : (plusZ x z).length = x.length := by rw [List.length_zipWith]; omega
      have l2 : (plusZ y z).length = x.length := by rw [List.length_zipWith]; omega
      refine ⟨_, rfl, _, rfl, rd_bin (b1.same s2) b2 k1 k2 (l2.trans l1.symm) fun H3 p3 u3 s3 f3 b3 => ?_⟩
      have k3 : BgOk (joinZ (plusZ x z) (plusZ y z)) := join_ok k1 k2 (l2.trans l1.symm)
      have s03 := (s1.trans s2).trans s3
      -- check_room(stock | debt)
      refine ⟨p3, u3, _, rfl, b3, k3.four, fun hm H4 s4 => ?_, fun k hm H' dd sm nd ed => hk k hm H' dd (s03.trans sm) (s03.free nd) ed⟩
      have s04 := s03.trans s4
      have ea4 := s04 _ _ ea
      refine ⟨_, rfl, a, dx, _, rfl, ea4, mo.no (by decide) (by decide) (by decide) (by decide) (by decide), _, rfl, _, rfl, ?_⟩
      refine ⟨a, dx, pl, p1, u1, p2, u2, mv, more, x, y, _, _, past, rfl, dc, da.same s04, (b1.same s2).same (s3.trans s4), b2.same (s3.trans s4), hp, mo.len, mo.all, fun H' ke d' => ?_⟩
      exact hd hm H' ((Ke.of s04).trans ke) d'
    · exact .inr ⟨hn, he⟩
end
end Lb
set_option Elab.async false
set_option linter.all false
set_option maxRecDepth 100000
set_option maxHeartbeats 8000000
namespace Lb
open PySem PySem.Spec PyProof.Rows L2 RZ TL
section
variable {P : Program} {w : World} {K : PySem.W.Frag} {mg : Str → Option Value} {base : Heap}
theorem nsc_cborrow : NdefX.NScope ["self", "bag", "__class__"] ["self", "bag"] ["__class__"] (defScope s_CappedDesk_borrow) := NdefX.nscope_by (by decide +kernel)
theorem own_cborrow {C CC f c cc f2 : Addr} {fd2 : FuncData} {cs : ErrCs} {ccl : Value} {cdd : Option Addr} {ccs : Array (Option Value)} {vsC : Array Value} {file : Str} {tf : Tok} {cdC : ClassData} (D : DfS K CC "borrow" "CappedDesk.borrow" s_CappedDesk_borrow f c cc) (B : Blt mg) (BC : BagC K mg C) (dcD : DskC K CC) (nm : NoAttr K CC "most") (T_OverCap : Err0 K mg "OverCap" cs.cap)
    (lc : K.lookup c = some ⟨ccl, cdd, .fields vsC, ccs⟩) (hv2 : vsC[2]? = some (.str file tf)) (hfile : ((P.main.file : Str) == file) = true) (top : (P.main.scope.names.lookup ("super" : Str)).isSome = false) (mgs : mg "super" = none) (clC : PySem.W.clsIn K CC = some cdC) (sub : PySem.W.mroIn K CC (.ref CC) = some true) (third : PySem.W.nsIn K cStatics "thirdparty.any" = some none) (at2 : PySem.W.ks_superIn K CC CC "borrow" = some (some (.ref f2))) (ty2 : PySem.W.typeIn K (.ref f2) = some (.type "function")) (fn2 : PySem.W.fnIn K f2 = true)
    (O_check_kind : OwnX P w K mg base "check_kind" 2 ["bag", "value"] (spCKind K C cs.bag)) (M_add : OwnM P w K mg base C "__add__" 6 ["self", "other"] (spBin (· + ·) K C cs.bag)) (M_amounts : PropM P w K mg base C "amounts" 1 (spAmt C)) (F2 : FnOk P w K mg base (L2.CX P w) 8 f2 fd2 ["self", "bag"] (spBorrow K C CC cs.bag cs.much)) (b2 : Binds K fd2 ["self", "bag"] []) :
    OwnM P w K mg base CC "borrow" 12 ["self", "bag"] (spBorrowO K C CC cs true) := by
  refine ownMS_of D nsc_cborrow (fun _ _ _ _ _ _ us hl => match us, hl with | [_, _], _ => rfl) (fun vs H Q E h => ?_) (fun A outer s H vs Q E hr h => ?_)
  · obtain ⟨_, _, _, _, _, _, _, _, _, _, rfl, _⟩ := h
    rfl
  · obtain ⟨a, dx, pl, v, mv, cv, cap, more, g, st, rfl, dc, da, co, hcp, g1, g4, ok, hp, h⟩ := h
    obtain ⟨oc, od, kV, doc, pm, ct, an, osl, lk⟩ := D.lk
    have SF : SupF (NdefX.ncx (L2.CX P w) P w K mg base ["self", "bag", "__class__"] (nfS "borrow" "CappedDesk.borrow" s_CappedDesk_borrow c cc) f A outer s H E) f CC f2 "borrow" "self" :=
      ⟨rfl, rfl, rfl, ⟨_, _, _, _, _, lk, rfl, rfl⟩, ⟨c, _, _, _, _, _, _, rfl, lc, hv2, hfile⟩, top, mgs, ⟨_, clC⟩, sub, third, at2, ty2, fn2⟩
    refine ⟨_, (psat_cons (ps_expr (pe_ownE O_check_kind (hr.mono (by omega)) (passE (takes_of rfl rfl rfl rfl) (fun _ _ _ _ h => h)) (by rfl) (pa_cons (pe_fld (pv 0) rfl) (pa_cons (pv 1) pa_nil))))
      (psat_cons (ps_if (pt_cmpR op_gt (pe_callB (id := "sum") (cr_sumT rfl) (by rfl) B.b_sum (by decide +kernel) (pa_cons (pe_amt BC M_amounts (hr.mono (by omega)) (pe_op (op_binM (op := .Add) M_add BC.fst (hr.mono (by omega)) passX0) (pe_fld (pv 0) rfl) (pv 1))) pa_nil)) (pe_fld (pv 0) rfl) (nomark _)) (pss_one (ps_raise rfl (takes_of rfl rfl rfl rfl) (pmk_err0 T_OverCap (by rfl)))) pss_nil)
      (psat_super (jc := 2) (j := 1) SF F2 b2 (hr.mono (by omega)) (passE (takes_of rfl rfl rfl rfl) (fun _ _ _ _ h => h)) rfl (.inl rfl) rfl (.inr (.inr rfl)) rfl (.inl rfl) (by decide) (by decide) (by decide) (by decide) rfl rfl))), ?_⟩
    cases cap with
    | none => cases hcp
    | some cp =>
    obtain ⟨rfl, rfl⟩ := co
    obtain ⟨b0, t0, o0, u0, ws, ea, hb0, ho0, ep, hpast⟩ := id da.ex
    have xok := ok.bx g1 g4
    have yok := ok.by_ g1 g4
    have lyx : st.y.length = st.x.length := ok.ly.trans ok.lx.symm
    -- check_kind(self.owed, bag)
    refine ⟨_, rfl, a, CC, dx, _, _, rfl, ea, dc.cl, dc.n3, rfl, _, rfl, o0, u0, st.y, v, rfl, ho0, ?_⟩
    rcases h with ⟨b, s', z, rfl, hb, zok, h⟩ | ⟨hn, h⟩
    · refine .inl ⟨b, s', z, rfl, hb, zok, fun hl => ?_, fun hne => ?_⟩
      · have hg : z.length = g := hl.trans ok.ly
        unfold borrowO at h
        dsimp only at h
        rw [if_pos hg] at h
        -- sum((self.owed + bag).amounts) > self.most
        refine ⟨_, rfl, a, CC, dx, _, _, rfl, ea, dc.cl, dc.n3, rfl, _, rfl, rd_bin ho0 hb yok zok hl fun H1 p1 u1 s1 f1 b1 => rd_amt b1 ⟨u1, _, rfl, .inl (.inl b1.tup), ?_⟩⟩
        refine ⟨_, rfl, a, CC, dx, _, _, rfl, s1 _ _ ea, dc.cl, nm, rfl, _, _, rfl, rfl, _, rfl, ?_⟩
        rw [sum_zip hl.symm]
        by_cases hc : cp < st.y.sum + z.sum
        · rw [if_pos hc] at h
          rw [decide_eq_true hc]
          exact iteT (h H1 s1)
        rw [if_neg hc] at h
        rw [decide_eq_false hc]
        refine iteF ?_
        have h1 := Meet.same s1 h
        refine ⟨a, dx, .ref b, _, rfl, rfl, rfl, s1 _ _ ea, a, dx, pl, .ref b, mv, _, st.x, st.y, st.past, rfl, dc, da.same s1, xok, yok, lyx, hp, .inr ⟨_, rfl⟩, .inl ⟨b, s', z, rfl, hb.same s1, zok, fun _ => ?_, fun hne => absurd hl hne⟩⟩
        unfold keptO at h1
        refine ⟨fun k hk => ?_, fun hk => ?_⟩
        · rw [hk] at h1
          exact h1
        · rw [hk] at h1
          intro H' ke d'
          have q : _ := h1 H' ke d'
          have q' : Q (.int ((st.past ++ [(st.x, st.y)]).length : Int)) H' := q
          rw [List.length_append, List.length_singleton] at q'
          exact q'
      · have e : borrowO g (some cp) st (some z) = .bag := if_neg (fun q => hne (q.trans ok.ly.symm))
        rw [e] at h
        exact h
    · exact .inr ⟨hn, h⟩

end
end Lb
set_option Elab.async false
set_option linter.all false
set_option maxRecDepth 100000
set_option maxHeartbeats 8000000
namespace Lb
open PySem PySem.Spec PyProof.Rows L2 RZ TL
section
variable {P : Program} {w : World} {K : PySem.W.Frag} {mg : Str → Option Value} {base : Heap}
theorem sc_Desk_pay : FnScope ["self", "bag", "good"] ["self", "bag"] (defScope s_Desk_pay) := ⟨rfl, rfl, rfl, by decide +kernel, rfl, by decide +kernel, by decide +kernel⟩
theorem own_dpay {C CB CO CL CX : Addr} (D : DfM K CX "pay" "Desk.pay" s_Desk_pay) (B : Blt mg) (BC : BagC K mg C) (cD : Cls K CX) (T_NotOwed : Err1 P w K mg base "NotOwed" "good" CO) (O_check_kind : OwnX P w K mg base "check_kind" 2 ["bag", "value"] (spCKind K C CB)) (O_first_lacking : Own P w K mg base "first_lacking" 1 ["bag", "other"] (spLack K)) (M_amounts : PropM P w K mg base C "amounts" 1 (spAmt C)) (M_sub : OwnM P w K mg base C "__sub__" 6 ["self", "other"] (spSub K C CB CL)) (M_record : OwnM P w K mg base CX "record" 1 ["self", "stock", "debt"] (spRecord K C CX)) :
    OwnM P w K mg base CX "pay" 8 ["self", "bag"] (spPay K C CX CB CO CL) := by
  refine ownM_of D sc_Desk_pay (fun _ _ _ _ _ _ us hl => match us, hl with | [_, _], _ => rfl) (fun vs H Q E h => ?_) (fun f cdv A outer s H vs Q E hr h => ?_)
  · obtain ⟨_, _, _, _, _, _, _, _, _, rfl, _⟩ := h
    rfl
  · obtain ⟨a, dx, pl, v, mv, more, x, y, past, rfl, dc, da, xok, yok, lyx, hp, mo, h⟩ := h
    refine ⟨_, (pss_cons (ps_expr (pe_ownE O_check_kind (hr.mono (by omega)) (passE (takes_of rfl rfl rfl rfl) (fun _ _ _ _ h => h)) (by rfl) (pa_cons (pe_fld (pv 0) rfl) (pa_cons (pv 1) pa_nil))))
      (pss_cons (ps_set (i := 2) sc_Desk_pay.nd rfl (.inl rfl) (pe_own O_first_lacking (hr.mono (by omega)) (by rfl) (pa_cons (pe_amt BC M_amounts (hr.mono (by omega)) (pe_fld (pv 0) rfl)) (pa_cons (pe_amt BC M_amounts (hr.mono (by omega)) (pv 1)) pa_nil))))
      (pss_cons (ps_if (pt_cmp (pc_notN (pv 2))) (pss_one (ps_raise rfl (takes_of rfl rfl rfl rfl) (pmk_err T_NotOwed (hr.mono (by omega)) (by rfl) (pa_cons (pv 2) pa_nil)))) pss_nil)
      (pss_one (ps_ret (pe_methX (pv 0) cD M_record (hr.mono (by omega)) passX0 (pa_cons (pe_op (op_binM (op := .Sub) M_sub BC.fst (hr.mono (by omega)) (passE (takes_of rfl rfl rfl rfl) (fun _ _ _ _ h => h))) (pe_fld (pv 0) rfl) (pv 1)) (pa_cons (pe_op (op_binM (op := .Sub) M_sub BC.fst (hr.mono (by omega)) passX0) (pe_fld (pv 0) rfl) (pv 1)) pa_nil)))))))), ?_⟩
    obtain ⟨b0, t0, o0, u0, ws, ea, hb0, ho0, ep, hpast⟩ := da.ex
    -- check_kind(self.owed, bag)
    refine ⟨_, rfl, a, CX, dx, _, _, rfl, ea, dc.cl, dc.n3, rfl, _, rfl, o0, u0, y, v, rfl, ho0, ?_⟩
    rcases h with ⟨b, s', z, rfl, hb, zok, hy, hn⟩ | ⟨hn, he⟩
    · refine .inl ⟨b, s', z, rfl, hb, zok, fun hl => ?_, fun hne => hn hne⟩
      obtain ⟨ho, hd⟩ := hy hl
      -- good = first_lacking(self.owed.amounts, bag.amounts)
      refine ⟨_, rfl, a, CX, dx, _, _, rfl, ea, dc.cl, dc.n3, rfl, rd_amt ho0 ?_⟩
      refine ⟨_, rfl, rd_amt hb ?_⟩
      refine ⟨u0, s', y, z, rfl, .inl (.inl ho0.tup), .inl (.inl hb.tup), by omega, by have := yok.four; omega, fun H1 s1 => ?_⟩
      cases hk : lackN y z 0 with
      | some k => exact ⟨_, rfl, _, rfl, iteT ⟨_, rfl, err_in fun dd hdd => ho k hk _ dd (s1.trans (same_upd hdd)) (s1.free hdd) upd_same⟩⟩
      | none =>
        obtain ⟨hx, hf⟩ := hd hk
        refine ⟨_, rfl, _, rfl, iteF ?_⟩
        have ea1 := s1 _ _ ea
        obtain ⟨db0, eb0⟩ := (hb0.same s1).ins
        obtain ⟨db, eb⟩ := (hb.same s1).ins
        refine ⟨_, rfl, a, dx, _, rfl, ea1, mo.no (by decide) (by decide) (by decide) (by decide) (by decide), ?_⟩
        refine ⟨_, rfl, a, CX, dx, _, _, rfl, ea1, dc.cl, dc.n2, rfl, _, rfl, b0, db0, _, b, db, _, rfl, rfl, eb0, eb, b0, t0, x, .ref b, rfl, hb0.same s1, xok, .inl ⟨b, s', z, rfl, hb.same s1, zok, fun hlx => ⟨fun hxn => ?_, fun k hxk H' dd sm nd ed => hx k hxk H' dd (s1.trans sm) (s1.free nd) ed⟩, fun hne => absurd (show z.length = x.length by omega) hne⟩⟩
        intro H2 p2 u2 s2 f2 b2
        have s02 := s1.trans s2
        refine ⟨_, rfl, a, CX, dx, _, _, rfl, s2 _ _ ea1, dc.cl, dc.n3, rfl, _, rfl, rd_sub (ho0.same s02) (hb.same s02) yok zok hl hk fun H3 p3 u3 s3 f3 b3 => ?_⟩
        have s03 := s02.trans s3
        refine ⟨a, dx, pl, p2, u2, p3, u3, mv, more, x, y, _, _, past, rfl, dc, da.same s03, b2.same s3, b3, hp, mo.len, mo.all, fun H' ke d' => ?_⟩
        exact hf hxn H' ((Ke.of s03).trans ke) d'
    · exact .inr ⟨hn, he⟩

end
end Lb
set_option Elab.async false
set_option linter.all false
set_option maxRecDepth 100000
set_option maxHeartbeats 8000000
namespace Lb
open PySem PySem.Spec PyProof.Rows L2 RZ TL
section
variable {P : Program} {w : World} {K : PySem.W.Frag} {mg : Str → Option Value} {base : Heap}
theorem sc_NotOwed___init__ : FnScope ["self", "good"] ["self", "good"] (defScope s_NotOwed___init__) := ⟨rfl, rfl, rfl, by decide +kernel, rfl, by decide +kernel, by decide +kernel⟩
theorem ini_notowed {C f : Addr} {fd : FuncData} (F : Fun K "__init__" "NotOwed.__init__" s_NotOwed___init__ f fd) (ox : OexC K C) (no : PySem.W.findIn K (.ref C) "good" = some none) : FnOk P w K mg base CX0 1 f fd ["self", "good"] (spIni C "good") := by
  refine F.ok sc_NotOwed___init__ (fun vs H Q E h => ?_) (fun cdv A outer s H vs Q E hr h => ?_)
  · obtain ⟨_, _, rfl, _⟩ := h
    rfl
  · obtain ⟨a, v, rfl, ea, q⟩ := h
    refine ⟨_, (pss_one (ps_ost (pv 0) (pv 1))), ?_⟩
    exact ⟨_, rfl, _, rfl, a, C, rfl, ox, no, .inl ⟨ea, fun dx n ne => q dx n ne⟩⟩

end
end Lb
set_option Elab.async false
set_option linter.all false
set_option maxRecDepth 100000
set_option maxHeartbeats 8000000
namespace Lb
open PySem PySem.Spec PyProof.Rows L2 RZ TL
section
variable {P : Program} {w : World} {K : PySem.W.Frag} {mg : Str → Option Value} {base : Heap}
theorem sc_NoTrade___init__ : FnScope ["self", "value"] ["self", "value"] (defScope s_NoTrade___init__) := ⟨rfl, rfl, rfl, by decide +kernel, rfl, by decide +kernel, by decide +kernel⟩
theorem ini_notrade {C f : Addr} {fd : FuncData} (F : Fun K "__init__" "NoTrade.__init__" s_NoTrade___init__ f fd) (ox : OexL K C) (no : PySem.W.findIn K (.ref C) "value" = some none) : FnOk P w K mg base CX0 1 f fd ["self", "value"] (spIni C "value") := by
  refine F.ok sc_NoTrade___init__ (fun vs H Q E h => ?_) (fun cdv A outer s H vs Q E hr h => ?_)
  · obtain ⟨_, _, rfl, _⟩ := h
    rfl
  · obtain ⟨a, v, rfl, ea, q⟩ := h
    refine ⟨_, (pss_one (ps_ostL (pv 0) (pv 1))), ?_⟩
    exact ⟨_, rfl, _, rfl, a, C, rfl, ox, no, ea, fun dx n ne => q dx n ne⟩

end
end Lb
set_option Elab.async false
set_option linter.all false
set_option maxRecDepth 100000
set_option maxHeartbeats 8000000
namespace Lb
open PySem PySem.Spec PyProof.Rows L2 RZ TL
section
variable {P : Program} {w : World} {K : PySem.W.Frag} {mg : Str → Option Value} {base : Heap}
theorem sc_Desk_undo : FnScope ["self"] ["self"] (defScope s_Desk_undo) := ⟨rfl, rfl, rfl, by decide +kernel, rfl, by decide +kernel, by decide +kernel⟩
theorem getLast_split {α : Type} {l : List α} {z : α} (h : l.getLast? = some z) : l = l.dropLast ++ [z] := by
  obtain ⟨ys, rfl⟩ := List.getLast?_eq_some_iff.mp h
  rw [List.dropLast_concat]
theorem own_dundo {C CX : Addr} {cs : ErrCs} (D : DfM K CX "undo" "Desk.undo" s_Desk_undo) (B : Blt mg) (T_NothingToUndo : Err0 K mg "NothingToUndo" cs.nothing) : OwnM P w K mg base CX "undo" 1 ["self"] (spUndo K C CX cs) := by
  refine ownM_of D sc_Desk_undo (fun _ _ _ _ _ _ us hl => match us, hl with | [_], _ => rfl) (fun vs H Q E h => ?_) (fun f cdv A outer s H vs Q E hr h => ?_)
  · obtain ⟨_, _, _, _, _, _, rfl, _⟩ := h
    rfl
  · obtain ⟨a, dx, pl, mv, more, st, rfl, dc, da, mo, h⟩ := h
    refine ⟨_, (pss_cons (ps_if (pt_cmpR op_eq (pe_callB (id := "len") call_len_seq (by rfl) B.b_len PySem.boot_len (pa_cons (pe_fld (pv 0) rfl) pa_nil)) pe_int (nomark _)) (pss_one (ps_raise rfl (takes_of rfl rfl rfl rfl) (pmk_err0 T_NothingToUndo (by rfl)))) pss_nil)
      (pss_one (ps_asg (pe_bm0 PySem.F.plainAttrs_list PySem.F.slot_list_pop PySem.F.type_list_pop mt_pop (pe_fld (pv 0) rfl)) (pg_tup rfl (pgs_cons (pg_fld (pv 0)) (pgs_cons (pg_fld (pv 0)) pgs_nil)))))), ?_⟩
    obtain ⟨b, t, o, u, ws, ea, hb, ho, ep, hpast⟩ := da.ex
    have lw := hpast.length
    -- len(self.past) == 0
    refine ⟨_, rfl, a, CX, dx, _, _, rfl, ea, dc.cl, dc.n4, rfl, pl, _, rfl, .inl (SqL.of ep), ?_⟩
    refine ⟨rfl, _, rfl, ?_⟩
    cases hl : st.past.getLast? with
    | none =>
      have e0 : st.past = [] := List.getLast?_eq_none_iff.mp hl
      have hz : ws.length = 0 := by rw [lw, e0]; rfl
      rw [show decide (V.int (ws.length : Int) = V.int 0) = true from decide_eq_true (by rw [hz]; rfl)]
      refine iteT ?_
      unfold undoO at h
      rw [hl] at h
      exact h H (Same.refl H)
    | some z =>
      have es := getLast_split hl
      have hz : ws.length ≠ 0 := by rw [lw, es, List.length_append, List.length_singleton]; omega
      rw [show decide (V.int (ws.length : Int) = V.int 0) = false from decide_eq_false (fun q => hz (by have := V.int.inj q; omega))]
      refine iteF ?_
      unfold undoO at h
      rw [hl] at h
      rw [es] at hpast
      obtain ⟨ws', p, b', t', o', u', rfl, hp', ep', hb', ho'⟩ := hpast.split
      refine ⟨_, rfl, a, CX, dx, _, _, rfl, ea, dc.cl, dc.n4, rfl, (.inl ⟨rfl, _, SqL.of ep⟩), ?_⟩
      have n1 : pl ≠ a := fun q => by rw [q, ea] at ep; cases ep
      have n2 : p ≠ pl := fun q => by rw [q, ep] at ep'; cases ep'
      have ei : (ws' ++ [V.ref p])[(ws' ++ [V.ref p]).length - 1]? = some (V.ref p) := by
        rw [List.length_append, List.length_singleton, Nat.add_sub_cancel, List.getElem?_append_right (Nat.le_refl _), Nat.sub_self]
        rfl
      refine ⟨pl, _, V.ref p, rfl, rfl, ep, ei, ?_⟩
      rw [List.dropLast_concat]
      refine ⟨p, _, rfl, .inl (.inl (by rw [upd_ne n2]; exact ep')), rfl, ?_⟩
      have hl1 : more.length ≤ 1 := mo.len
      refine ⟨_, _, rfl, _, rfl, a, CX, dx, _, rfl, (by rw [upd_ne (Ne.symm n1)]; exact ea), dc.cl, dc.n2, (by show more.length + 1 + 1 + 1 + 1 < 1000; omega), ?_⟩
      refine ⟨_, _, rfl, _, rfl, a, CX, dx, _, rfl, upd_same, dc.cl, dc.n3, (by show more.length + 1 + 1 + 1 + 1 < 1000; omega), rfl, ?_⟩
      rw [upd_upd]
      have ke : Ke a pl H (upd (upd H pl (.lst ws')) a (.ins CX dx (dskF mv (.ref b') (.ref o') pl ++ more))) := fun c ob h1 h2 e => by
        rw [upd_ne h1, upd_ne h2]
        exact e
      exact h _ ke ⟨⟨b', t', o', u', ws', upd_same, hb'.ke ke da.ne ea ep, ho'.ke ke da.ne ea ep, (by rw [upd_ne n1]; exact upd_same), hp'.keepK ke da.ne ea ep⟩, da.ne⟩

end
end Lb
set_option Elab.async false
set_option linter.all false
set_option maxRecDepth 100000
set_option maxHeartbeats 8000000
namespace Lb
open PySem PySem.Spec PyProof.Rows L2 RZ TL
section
variable {P : Program} {w : World} {K : PySem.W.Frag} {mg : Str → Option Value} {base : Heap}
theorem SmV.whole {H : Hp} {v : V} {z : Option Int} (h : SmV v z) : ∃ (ty : Value) (b1 b2 : Bool), TyX K H v ty ∧ PySem.W.kitOne K ty (.type "int") = some b1 ∧ PySem.W.kitOne K ty (.type "bool") = some b2 ∧ (b1 && !b2) = z.isSome := by
  obtain ⟨c, hd, hc⟩ : ∃ c : PyData, Dat (fun _ => True) H v c ∧ ((c = .none ∧ z = none) ∨ (∃ b, c = .bool b ∧ z = none) ∨ ∃ n, c = .int n ∧ z = some n) := by
    cases h with
    | int n => exact ⟨_, .int n, .inr (.inr ⟨n, rfl, rfl⟩)⟩
    | bl b => exact ⟨_, .bl b, .inr (.inl ⟨b, rfl, rfl⟩)⟩
    | non => exact ⟨_, .non, .inl ⟨rfl, rfl⟩⟩
  refine ⟨_, _, _, dat_ty hd, kit_ty (kit_int c), kit_ty (kit_bool c), ?_⟩
  rcases hc with ⟨rfl, rfl⟩ | ⟨b, rfl, rfl⟩ | ⟨n, rfl, rfl⟩ <;> rfl
theorem sc_Desk_trade : FnScope ["self", "k", "back", "times", "trades", "give", "get", "amounts", "stock", "done"] ["self", "k", "back", "times"] (defScope s_Desk_trade) := ⟨rfl, rfl, rfl, by decide +kernel, rfl, by decide +kernel, by decide +kernel⟩
theorem own_dtrade {C CX : Addr} {cs : ErrCs} {tM : Tok} (D : DfM K CX "trade" "Desk.trade" s_Desk_trade) (B : Blt mg) (BC : BagC K mg C) (cD : Cls K CX) (c_MAX_TIMES : mg "MAX_TIMES" = some (.int 9 tM)) (T_NoTrade : Err1L P w K mg base "NoTrade" "value" cs.trade) (T_BadTimes : Err1 P w K mg base "BadTimes" "value" cs.times) (O_is_whole : Own P w K mg base "is_whole" 1 ["value"] (spWholeX K)) (O_check_room : OwnX P w K mg base "check_room" 4 ["bag"] (spCRoom C cs.much)) (M_init : OwnM P w K mg base C "__init__" 3 ["self", "amounts"] (spInit K C cs.bag)) (M_add : OwnM P w K mg base C "__add__" 6 ["self", "other"] (spBin (· + ·) K C cs.bag)) (M_sub : OwnM P w K mg base C "__sub__" 6 ["self", "other"] (spSub K C cs.bag cs.lacking)) (M_record : OwnM P w K mg base CX "record" 1 ["self", "stock", "debt"] (spRecord K C CX)) :
    OwnMN P w K mg base CX "trade" 8 ["self", "k", "back", "times"] 1 ["back", "times"] (spDTrade K C CX cs) := by
  refine ownMN_of D sc_Desk_trade (fun _ _ _ _ _ _ us ws hl hw => match us, hl, ws, hw with | [_, _], _, [_, _], _ => rfl) (fun vs H Q E h => ?_) (fun f cdv A outer s H vs Q E hr h => ?_)
  · obtain ⟨_, _, _, _, _, _, _, _, _, _, _, _, _, rfl, _⟩ := h
    rfl
  · obtain ⟨a, dx, pl, mv, kv, tv, kz, tz, back, more, g, ts, st, rfl, hk, ht, dc, da, mo, mk, mok, ok, hp, h⟩ := h
    refine ⟨_, (pss_cons (ps_set (i := 4) sc_Desk_trade.nd rfl (.inl rfl) (pe_ix ix_tup (pe_fld (pv 0) rfl) pe_int (fun _ _ => rfl)))
      (pss_cons (ps_if (PW.pt (pw_or (pt_not (pt_val (pe_own O_is_whole (hr.mono (by omega)) (by rfl) (pa_cons (pv 1) pa_nil)))) (pw_or1 (pt_not (pt_chain op_le op_lt pe_int (pv 1) (pe_callB (id := "len") call_len_seq (by rfl) B.b_len PySem.boot_len (pa_cons (pv 4) pa_nil))))))) (pss_one (ps_raise rfl (takes_of rfl rfl rfl rfl) (pmk_errL T_NoTrade (hr.mono (by omega)) (by rfl) (pa_cons (pv 1) pa_nil)))) pss_nil)
      (pss_cons (ps_if (PW.pt (pw_or (pt_not (pt_val (pe_own O_is_whole (hr.mono (by omega)) (by rfl) (pa_cons (pv 3) pa_nil)))) (pw_or1 (pt_not (pt_chain op_le op_le pe_int (pv 3) (pe_glob (v := .int 9) (by rfl) c_MAX_TIMES ⟨_, rfl⟩)))))) (pss_one (ps_raise rfl (takes_of rfl rfl rfl rfl) (pmk_err T_BadTimes (hr.mono (by omega)) (by rfl) (pa_cons (pv 3) pa_nil)))) pss_nil)
      (pss_cons (ps_asg (pe_lc (own := [("amounts", 7)]) (g := gName 7) (tt := tYes) rfl sc_Desk_trade.nd (pi_tup (pe_ix ix_tup (pv 4) (pv 1) (fun _ _ => rfl))) (blkOk_by (own := [("amounts", 7)]) (N := ["self", "k", "back", "times", "trades", "give", "get", "amounts", "stock", "done"]) (sc := defScope s_Desk_trade) (by decide +kernel)) (fun _ _ _ _ _ => (pg_name (i := 7) sc_Desk_trade.nd rfl (.inl rfl))) (fun _ _ _ _ _ => pts_nil) (fun _ _ _ _ _ => (show PE _ _ (tBag K C cs.bag L2.E0 (tCons (tVar 7) tNil)) from pe_bagX BC M_init (hr.mono (by omega)) passX0 (by rfl) (pa_cons (pv 7) pa_nil)))) (pg_lst rfl (pgs_cons (pg_name (i := 5) sc_Desk_trade.nd rfl (.inl rfl)) (pgs_cons (pg_name (i := 6) sc_Desk_trade.nd rfl (.inl rfl)) pgs_nil))))
      (pss_cons (ps_set (i := 8) sc_Desk_trade.nd rfl (.inl rfl) (pe_fld (pv 0) rfl))
      (pss_cons (ps_for (passes_of rfl) rfl (pi_range1 (by rfl) B.b_range (pa_cons (pv 3) pa_nil)) (pg_name (i := 9) sc_Desk_trade.nd rfl (.inl rfl))
        (pss_one (ps_set (i := 8) sc_Desk_trade.nd rfl (.inl rfl) (pe_ifExp (pt_val (pv 2)) (pe_op (op_binM (op := .Add) M_add BC.fst (hr.mono (by omega)) passX0) (pe_op (op_binM (op := .Sub) M_sub BC.fst (hr.mono (by omega)) (passE (takes_of rfl rfl rfl rfl) (fun _ _ _ _ h => h))) (pv 8) (pv 6)) (pv 5)) (pe_op (op_binM (op := .Add) M_add BC.fst (hr.mono (by omega)) passX0) (pe_op (op_binM (op := .Sub) M_sub BC.fst (hr.mono (by omega)) (passE (takes_of rfl rfl rfl rfl) (fun _ _ _ _ h => h))) (pv 8) (pv 5)) (pv 6))))))
      (pss_cons (ps_expr (pe_ownE O_check_room (hr.mono (by omega)) (passE (takes_of rfl rfl rfl rfl) (fun _ _ _ _ h => h)) (by rfl) (pa_cons (pv 8) pa_nil)))
      (pss_one (ps_ret (pe_methX (pv 0) cD M_record (hr.mono (by omega)) passX0 (pa_cons (pv 8) (pa_cons (pe_fld (pv 0) rfl) pa_nil)))))))))))), ?_⟩
    obtain ⟨b0, t0, o0, u0, ws, ea, hb0, ho0, ep, hpast⟩ := da.ex
    obtain ⟨m, tt, tvs, rfl, em, ett, htr⟩ := mk
    have g1 := mok.one
    have g4 := mok.four
    have ltr := htr.length
    have lm := mok.many
    -- trades = self.place[1]
    refine ⟨_, rfl, a, CX, dx, _, _, rfl, ea, dc.cl, dc.n1, rfl, m, _, _, _, rfl, rfl, .inl (.inl em), (show atI _ ((1 : Nat) : Int) = _ from atI_nat rfl), ?_⟩
    -- if not is_whole(k) or not 0 <= k < len(trades)
    obtain ⟨tyk, b1, b2, htk, kk1, kk2, hkb⟩ := SmV.whole (K := K) (H := H) hk
    refine ⟨_, rfl, kv, tyk, b1, b2, rfl, htk, kk1, kk2, _, rfl, ?_⟩
    have noT : trdAt ts kz = none → ∀ dd, H dd = none → E (.ref cs.trade) (some dd) (upd H dd (.xd [("value", kv)])) := fun hn dd hd => by
      have h' := h
      unfold tradeO at h'
      rw [hn] at h'
      exact h' _ dd (same_upd hd) hd upd_same
    rw [hkb]
    cases kz with
    | none => exact iteT (iteT ⟨_, rfl, err_in (noT rfl)⟩)
    | some kn =>
      obtain rfl : kv = .int kn := by cases hk; rfl
      refine iteF ?_
      refine ⟨_, rfl, _, _, rfl, rfl, _, rfl, ?_⟩
      by_cases h0 : 0 ≤ kn
      case neg =>
        rw [decide_eq_false h0]
        exact iteF ⟨_, rfl, iteT ⟨_, rfl, err_in (noT (if_neg (fun z => h0 z.1)))⟩⟩
      rw [decide_eq_true h0]
      refine iteT ⟨_, rfl, tt, _, rfl, .inr (.inl (.inl ett)), _, _, rfl, rfl, _, rfl, ?_⟩
      rw [ltr]
      by_cases h1 : kn < (ts.length : Int)
      case neg =>
        rw [decide_eq_false h1]
        exact iteT ⟨_, rfl, err_in (noT (if_neg (fun z => h1 z.2)))⟩
      rw [decide_eq_true h1]
      refine iteF ?_
      obtain ⟨kN, rfl⟩ : ∃ kN : Nat, kn = (kN : Int) := ⟨kn.toNat, by omega⟩
      have hkN : kN < ts.length := by omega
      obtain ⟨td, htd⟩ : ∃ td, ts[kN]? = some td := ⟨_, List.getElem?_eq_getElem hkN⟩
      have eat : trdAt ts (some (kN : Int)) = some td := by
        rw [show trdAt ts (some (kN : Int)) = ts[(kN : Int).toNat]? from if_pos ⟨h0, h1⟩]
        exact htd
      obtain ⟨sd1, sd2⟩ := mok.all td (List.mem_of_getElem? htd)
      unfold tradeO at h
      rw [eat] at h
      dsimp only at h
      -- if not is_whole(times) or not 1 <= times <= MAX_TIMES
      obtain ⟨tyt, c1, c2, htt, kt1, kt2, htb⟩ := SmV.whole (K := K) (H := H) ht
      refine ⟨_, rfl, tv, tyt, c1, c2, rfl, htt, kt1, kt2, _, rfl, ?_⟩
      have noN : timesOf tz = none → ∀ dd, H dd = none → E (.ref cs.times) (some dd) (upd H dd (.xd [("value", tv)])) := fun hn dd hd => by
        rw [hn] at h
        exact h _ dd (same_upd hd) hd upd_same
      rw [htb]
      cases tz with
      | none => exact iteT (iteT ⟨_, rfl, err_in (noN rfl)⟩)
      | some tn =>
        obtain rfl : tv = .int tn := by cases ht; rfl
        refine iteF ?_
        refine ⟨_, rfl, _, _, rfl, rfl, _, rfl, ?_⟩
        by_cases h2 : 1 ≤ tn
        case neg =>
          rw [decide_eq_false h2]
          exact iteF ⟨_, rfl, iteT ⟨_, rfl, err_in (noN (if_neg (fun z => h2 z.1)))⟩⟩
        rw [decide_eq_true h2]
        refine iteT ⟨_, _, rfl, rfl, _, rfl, ?_⟩
        by_cases h3 : tn ≤ 9
        case neg =>
          rw [decide_eq_false h3]
          exact iteT ⟨_, rfl, err_in (noN (if_neg (fun z => h3 z.2)))⟩
        rw [decide_eq_true h3]
        refine iteF ?_
        obtain ⟨n, rfl⟩ : ∃ n : Nat, tn = (n : Int) := ⟨tn.toNat, by omega⟩
        have etm : timesOf (some (n : Int)) = some n := by
          rw [show timesOf (some (n : Int)) = some (n : Int).toNat from if_pos ⟨h2, h3⟩]
          rfl
        rw [etm] at h
        dsimp only at h
        -- give, get = [Bag(amounts) for amounts in trades[k]]
        obtain ⟨pp, ug, vg, hpv, epp, eug, evg⟩ := htr.get htd
        have k1 := sd1.bok g1 g4
        have k2 := sd2.bok g1 g4
        refine ⟨_, rfl, _, rfl, tt, _, _, _, rfl, rfl, .inl (.inl ett), atI_nat hpv, pp, rfl, ⟨_, .inl (.inl epp)⟩, fun L hL => ?_⟩
        have mkBag : ∀ (H' : Hp) (acc : List V) (tb : Addr) (x : List Int) (i : Nat) (Nx : Hp → Prop), Same H H' → H' L = some (.lst acc) → acc.length < 5 → H tb = some (.tup (x.map V.int)) → BgOk x → (∀ (H4 : Hp) (px : Addr), Same H H4 → (∀ b o, b ≠ L → H' b = some o → H4 b = some o) → H4 L = some (.lst (acc ++ [.ref px])) → Bg C H4 px tb x → Nx H4) →
            spMk K C cs.bag [.ref tb] H' (fun y H4 => ∃ acc, H4 L = some (.lst acc) ∧ acc.length < sizeLine ∧ Nx (upd H4 L (.lst (acc ++ [y])))) L2.E0 := by
          intro H' acc tb x i Nx sm eL hacc etb xok nx
          have no : ¬ mkB (bagD x) = false := by rw [mkB_ok xok]; exact fun z => nomatch z
          refine ⟨_, rfl, .inl ⟨fun _ => True, _, Dat.mkBag trivial (sm _ _ etb), by rw [List.length_map]; have := xok.four; omega, fun _ H6 px dpx s6 f6 epx => ?_, fun hm => absurd hm no⟩⟩
          refine ⟨acc, s6 _ _ eL, by rw [sizeLine_eq]; omega, nx _ px (fun b o e => ?_) (fun b o hb e => ?_) upd_same ?_⟩
          · rw [upd_ne (ne_of_none e hL)]
            exact s6 _ _ (sm _ _ e)
          · rw [upd_ne hb]
            exact s6 _ _ e
          · exact Bg.updL ⟨⟨dpx, epx⟩, s6 _ _ (sm _ _ etb)⟩ (s6 _ _ eL)
        refine lc_tup (K := K) (a := pp) (xs := [.ref ug, .ref vg]) (TwoB C L ug vg td.1 td.2 H) ⟨same_upd hL, .inl ⟨rfl, upd_same⟩⟩ (fun i H' _ hP => .inl (.inl (hP.1 _ _ epp))) ?_ ?_
        · rintro i z H' hz ⟨sm, hc⟩
          rcases hc with ⟨rfl, eL⟩ | ⟨rfl, q1, eL, hq1⟩ | ⟨rfl, _⟩
          · cases hz
            refine ⟨rfl, all_in ⟨_, rfl, mkBag H' [] ug td.1 0 (TwoB C L ug vg td.1 td.2 H 1) sm eL (by show 0 < 5; decide) eug k1 fun H4 px s4 _ e4 b4 => ?_⟩⟩
            exact ⟨s4, .inr (.inl ⟨rfl, px, e4, b4⟩)⟩
          · cases hz
            refine ⟨rfl, all_in ⟨_, rfl, mkBag H' [.ref q1] vg td.2 1 (TwoB C L ug vg td.1 td.2 H 2) sm eL (by show 1 < 5; decide) evg k2 fun H4 px s4 s4' e4 b4 => ?_⟩⟩
            refine ⟨s4, .inr (.inr ⟨rfl, q1, px, e4, ?_, b4⟩)⟩
            obtain ⟨⟨dq, eq⟩, et⟩ := hq1
            exact ⟨⟨dq, s4' _ _ (fun z => by rw [z, eL] at eq; cases eq) eq⟩, s4' _ _ (fun z => by rw [z, eL] at et; cases et) et⟩
          · cases hz
        · intro H1 hB
          obtain ⟨s1, q1, q2, eL, hq1, hq2⟩ := TwoB.last hB
          refine ⟨L, _, rfl, SqL.of eL, rfl, _, _, rfl, _, _, rfl, rfl, ?_⟩
          -- stock = self.present
          refine ⟨_, rfl, a, CX, dx, _, _, rfl, s1 _ _ ea, dc.cl, dc.n2, rfl, ?_⟩
          -- for done in range(times)
          refine ⟨_, rfl, n, rfl, by omega, by omega, ?_⟩
          have tk : BgOk (if back then td.2 else td.1) ∧ BgOk (if back then td.1 else td.2) ∧ (if back then td.2 else td.1).length = g ∧ (if back then td.1 else td.2).length = g := by
            cases back
            · exact ⟨k1, k2, sd1.len, sd2.len⟩
            · exact ⟨k2, k1, sd2.len, sd1.len⟩
          obtain ⟨tk1, tk2, lt1, lt2⟩ := tk
          generalize hta : (if back then td.2 else td.1) = ta at *
          generalize htp : (if back then td.1 else td.2) = tp at *
          refine for_range (n := n) (fun i σ H' => ∃ (sb tb : Addr) (x : List Int) (y7 y9 : Option V), σ = [some (.ref a), some (.int (kN : Int)), some (.bl back), some (.int (n : Int)), some (.ref tt), some (.ref q1), some (.ref q2), y7, some (.ref sb), y9] ∧ Same H H' ∧ Bg C H' q1 ug td.1 ∧ Bg C H' q2 vg td.2 ∧ Bg C H' sb tb x ∧ x.length = g ∧ (∀ v ∈ x, 0 ≤ v) ∧ tradeL n ta tp st.x = tradeL (n - i) ta tp x)
            ⟨b0, t0, st.x, none, none, rfl, s1, hq1, hq2, hb0.same s1, ok.lx, fun v hv => (ok.ax v hv).1, rfl⟩ ?_ ?_
          · rintro i σ H2 hi ⟨sb, tb, x, y7, y9, rfl, s2, hq1, hq2, hsb, lx, nx, etl⟩
            have xok : BgOk x := ⟨by omega, by omega, nx⟩
            obtain ⟨j, hj⟩ : ∃ j, n - i = j + 1 := ⟨n - i - 1, by omega⟩
            rw [hj, tradeL] at etl
            have more_ : ∀ (H3 H4 : Hp) (p4 u4 : Addr), Same H2 H3 → Same H3 H4 → lackN x ta 0 = none → Bg C H4 p4 u4 (plusZ (lessZ x ta) tp) → Same H H4 ∧ Bg C H4 q1 ug td.1 ∧ Bg C H4 q2 vg td.2 ∧ Bg C H4 p4 u4 (plusZ (lessZ x ta) tp) ∧ (plusZ (lessZ x ta) tp).length = g ∧ (∀ v ∈ plusZ (lessZ x ta) tp, 0 ≤ v) ∧ tradeL n ta tp st.x = tradeL (n - (i + 1)) ta tp (plusZ (lessZ x ta) tp) := by
              intro H3 H4 p4 u4 s3 s4 hn b4
              have s24 := s3.trans s4
              refine ⟨s2.trans s24, hq1.same s24, hq2.same s24, b4, plus_len (less_len lx lt1) lt2, plus_nn (lackN_none (lx.trans lt1.symm) hn) tk2.3, ?_⟩
              rw [hn] at etl
              rw [etl, show n - (i + 1) = j by omega]
            have bad : ∀ k : Nat, lackN x ta 0 = some k → ErrG E cs.lacking H2 k := by
              intro k hk
              rw [hk] at etl
              rw [etl] at h
              exact fun H' dd sm nd ed => h H' dd (s2.trans sm) (s2.free nd) ed
            have lok : lackN x ta 0 = none → BgOk (lessZ x ta) := fun hn => by
              have ll := less_len lx lt1
              exact ⟨by rw [ll]; omega, by rw [ll]; omega, lackN_none (lx.trans lt1.symm) hn⟩
            cases hbk : back with
            | true =>
              rw [hbk] at hta htp
              have e1 : td.2 = ta := hta
              have e2 : td.1 = tp := htp
              refine ⟨_, rfl, true, rfl, iteT ?_⟩
              refine ⟨_, rfl, _, rfl, rd_subE hsb (e1 ▸ hq2) xok tk1 (lt1.trans lx.symm) (fun hn H3 p3 u3 s3 f3 b3 => ?_) bad⟩
              refine ⟨_, rfl, rd_bin b3 ((e2 ▸ hq1 : Bg C H2 q1 ug tp).same s3) (lok hn) tk2 (lt2.trans (less_len lx lt1).symm) fun H4 p4 u4 s4 f4 b4 => ?_⟩
              exact ⟨p4, u4, _, _, _, rfl, more_ H3 H4 p4 u4 s3 s4 hn b4⟩
            | false =>
              rw [hbk] at hta htp
              have e1 : td.1 = ta := hta
              have e2 : td.2 = tp := htp
              refine ⟨_, rfl, false, rfl, iteF ?_⟩
              refine ⟨_, rfl, _, rfl, rd_subE hsb (e1 ▸ hq1) xok tk1 (lt1.trans lx.symm) (fun hn H3 p3 u3 s3 f3 b3 => ?_) bad⟩
              refine ⟨_, rfl, rd_bin b3 ((e2 ▸ hq2 : Bg C H2 q2 vg tp).same s3) (lok hn) tk2 (lt2.trans (less_len lx lt1).symm) fun H4 p4 u4 s4 f4 b4 => ?_⟩
              exact ⟨p4, u4, _, _, _, rfl, more_ H3 H4 p4 u4 s3 s4 hn b4⟩
          · rintro σ H2 ⟨sb, tb, x, y7, y9, rfl, s2, hq1, hq2, hsb, lx, nx, etl⟩
            rw [Nat.sub_self, tradeL] at etl
            rw [etl] at h
            have h' : Meet K C CX cs H a dx pl (.ref m) more Q E (keptO st x st.y) := h
            unfold keptO at h'
            rw [muchN_join (lx.trans ok.ly.symm) (fun v hv => (ok.ay v hv).2)] at h'
            -- check_room(stock)
            refine ⟨_, rfl, sb, tb, x, rfl, hsb, by omega, fun hm H3 s3 => ?_, fun k hm H' dd sm nd ed => ?_⟩
            · rw [hm] at h'
              have s03 := s2.trans s3
              have ea3 := s03 _ _ ea
              refine ⟨_, rfl, a, dx, _, rfl, ea3, mo.no (by decide) (by decide) (by decide) (by decide) (by decide), _, rfl, _, rfl, a, CX, dx, _, _, rfl, ea3, dc.cl, dc.n3, rfl, ?_⟩
              refine ⟨a, dx, pl, sb, tb, o0, u0, .ref m, more, st.x, st.y, _, _, st.past, rfl, dc, da.same s03, hsb.same s3, ho0.same s03, hp, mo.len, mo.all, fun H' ke d' => ?_⟩
              have q := h' H' ((Ke.of s03).trans ke) d'
              have q' : Q (.int ((st.past ++ [(st.x, st.y)]).length : Int)) H' := q
              rw [List.length_append, List.length_singleton] at q'
              exact q'
            · rw [hm] at h'
              exact h' H' dd (s2.trans sm) (s2.free nd) ed

end
end Lb
set_option Elab.async false
set_option linter.all false
set_option maxRecDepth 100000
set_option maxHeartbeats 8000000
namespace Lb
open PySem PySem.Spec PyProof.Rows L2 RZ TL
section
variable {P : Program} {w : World} {K : PySem.W.Frag} {mg : Str → Option Value} {base : Heap}
theorem sc__law_less : FnScope ["_law_one_here", "_law_other", "_law_own", "_law_more"] ["_law_one_here", "_law_other"] (defScope s__law_less) := ⟨rfl, rfl, rfl, by decide +kernel, rfl, by decide +kernel, by decide +kernel⟩
theorem own_less (D : Df K mg "_law_less" s__law_less) (B : Blt mg) : Own P w K mg base "_law_less" 1 ["_law_one_here", "_law_other"] (spMinus K) := by
  refine own_of D sc__law_less (fun _ _ _ _ _ _ us hl => match us, hl with | [_, _], _ => rfl) (fun vs H Q E h => ?_) (fun f cdv A outer s H vs Q E hr h => ?_)
  · obtain ⟨_, _, _, _, rfl, _⟩ := h
    rfl
  · obtain ⟨a, b, x, y, rfl, hA, hB, hl, hl2, q⟩ := h
    refine ⟨_, (pss_one (ps_ret (pe_callTy (T := "tuple") call_tuple_of (by rfl) B.b_tuple (by decide +kernel) (pa_cons (pe_lc (own := [("_law_own", 2), ("_law_more", 3)]) (g := gTup _ 2 (gCons (gName 2) (gCons (gName 3) gNil))) (tt := tYes) rfl sc__law_less.nd (pi_zipA (by rfl) B.b_zip (pa_cons (pv 0) (pa_cons (pv 1) pa_nil))) (blkOk_by (own := [("_law_own", 2), ("_law_more", 3)]) (N := ["_law_one_here", "_law_other", "_law_own", "_law_more"]) (sc := defScope s__law_less) (by decide +kernel)) (fun _ _ _ _ _ => (pg_tup rfl (pgs_cons (pg_name (i := 2) sc__law_less.nd rfl (.inl rfl)) (pgs_cons (pg_name (i := 3) sc__law_less.nd rfl (.inl rfl)) pgs_nil)))) (fun _ _ _ _ _ => pts_nil) (fun _ _ _ _ _ => (pe_op op_sub (pv 2) (pv 3)))) pa_nil)))), ?_⟩
    refine ⟨_, rfl, _, rfl, a, b, _, _, rfl, .inr ⟨hA, hB, fun D hD => ?_⟩⟩
    refine lc_zipT (K := K) (xs := x.map V.int) (ys := y.map V.int) (by rw [List.length_map, List.length_map]; exact hl) (fun i H' => Same H H' ∧ H' D = some (.lst (((minusL x y).take i).map V.int)))
      ⟨same_upd hD, upd_same⟩ (fun i H' hP => ⟨same_tup hP.1 hA, same_tup hP.1 hB⟩) ?_ ?_
    · rintro i u v T H' hu hv ⟨sm, eD⟩ hT
      obtain ⟨u, rfl, hu'⟩ := int_at hu
      obtain ⟨v, rfl, hv'⟩ := int_at hv
      have nTD : D ≠ T := ne_of_none eD hT
      refine ⟨T, _, rfl, .inl (.inl upd_same), rfl, _, _, rfl, _, _, rfl, rfl, rfl, all_in ?_⟩
      refine ⟨_, rfl, _, rfl, _, _, rfl, rfl, _, (same_upd hT) _ _ eD, ?_, ?_, ?_⟩
      · rw [List.length_map, List.length_take]
        refine small1000 (Nat.le_trans (Nat.min_le_right _ _) ?_)
        rw [List.length_zipWith]
        omega
      · intro b o e
        rw [upd_ne (ne_of_none e hD)]
        exact (same_upd hT) _ _ (sm _ _ e)
      · rw [upd_same, zipW_take hu' hv', List.map_append]
        rfl
    · rintro H' ⟨sm, eD⟩
      have el : (minusL x y).take (x.map V.int).length = minusL x y := List.take_of_length_le (by rw [List.length_zipWith, List.length_map]; omega)
      rw [el] at eD
      refine ⟨D, _, rfl, .inl ⟨SqL.of eD, fun p hp => ?_⟩⟩
      exact q _ p (sm.trans (same_upd hp)) (sm.free hp) upd_same

end
end Lb
set_option Elab.async false
set_option linter.all false
set_option maxRecDepth 100000
set_option maxHeartbeats 8000000
namespace Lb
open PySem PySem.Spec PyProof.Rows L2 RZ TL
section
variable {P : Program} {w : World} {K : PySem.W.Frag} {mg : Str → Option Value} {base : Heap}
theorem sc__law_kept : FnScope ["_law_state", "_law_row", "_law_owed", "_law_great", "_law_good"] ["_law_state", "_law_row", "_law_owed"] (defScope s__law_kept) := ⟨rfl, rfl, rfl, by decide +kernel, rfl, by decide +kernel, by decide +kernel⟩
theorem own_kept (D : Df K mg "_law_kept" s__law_kept) (B : Blt mg) : Own P w K mg base "_law_kept" 1 ["_law_state", "_law_row", "_law_owed"] spKept := by
  refine own_of D sc__law_kept (fun _ _ _ _ _ _ us hl => match us, hl with | [_, _, _], _ => rfl) (fun vs H Q E h => ?_) (fun f cdv A outer s H vs Q E hr h => ?_)
  · obtain ⟨_, _, _, _, _, _, _, _, _, rfl, _⟩ := h
    rfl
  · obtain ⟨st, sl, t, u, mv, cv, x, y, ds, rfl, sa, nss, et, eu, hl, h4, hp, h⟩ := h
    refine ⟨_, (pss_cons (ps_setLc (i := 3) (own := [("_law_good", 4)]) (g := gName 4) (tt := _) rfl sc__law_kept.nd rfl rfl (sw_true rfl rfl rfl (by decide +kernel)) (pi_range1 (by rfl) B.b_range (pa_cons (pe_callB (id := "len") call_len_seq (by rfl) B.b_len PySem.boot_len (pa_cons (pv 1) pa_nil)) pa_nil)) (blkOk_by (own := [("_law_good", 4)]) (N := ["_law_state", "_law_row", "_law_owed", "_law_great", "_law_good"]) (sc := defScope s__law_kept) (by decide +kernel)) (fun _ _ _ _ _ => (pg_name (i := 4) sc__law_kept.nd rfl (.inl rfl))) (fun _ _ _ _ _ => (pts_one (pt_cmpR op_gt (pe_callB (id := "max") (show CallR _ _ _ from call_max2 rfl) (by rfl) B.b_max (by decide +kernel) (pa_cons (pe_ix (show IxR _ (rIxT K) from ix_tup) (pv 1) (pv 4) (fun _ _ => rfl)) (pa_cons (pe_ix (show IxR _ (rIxT K) from ix_tup) (pv 2) (pv 4) (fun _ _ => rfl)) pa_nil))) pe_int (nomark _)))) (fun _ _ _ _ _ => (pv 4)))
      (pss_cons (ps_if (pt_cmpR (op_neE hr.units) (pv 3) (pe_lst pa_nil) (nomark _)) (pss_one (ps_ret (pe_lst (pa_cons pe_str (pa_cons (pe_ix ix_list (pv 3) pe_int (fun _ _ => rfl)) pa_nil))))) pss_nil)
      (pss_cons (ps_expr (pe_bm PySem.F.plainAttrs_list PySem.F.slot_list_append PySem.F.type_list_append mt_append (pe_ix ix_list (pv 0) pe_int (fun _ _ => rfl)) (pa_cons (pe_tup (pa_cons (pe_ix ix_list (pv 0) pe_int (fun _ _ => rfl)) (pa_cons (pe_ix ix_list (pv 0) pe_int (fun _ _ => rfl)) pa_nil))) pa_nil)))
      (pss_cons (ps_asg (pe_tup (pa_cons (pv 1) (pa_cons (pv 2) pa_nil))) (pg_tup rfl (pgs_cons (pg_sub (pv 0) pe_int set_list) (pgs_cons (pg_sub (pv 0) pe_int set_list) pgs_nil))))
      (pss_one (ps_ret (pe_lst (pa_cons pe_str (pa_cons (pe_callB (id := "len") call_len_seq (by rfl) B.b_len PySem.boot_len (pa_cons (pe_ix ix_list (pv 0) pe_int (fun _ _ => rfl)) pa_nil)) pa_nil))))))))), ?_⟩
    have lx : (x.map V.int).length = x.length := List.length_map _
    -- great
    refine ⟨_, rfl, t, _, rfl, .inr (.inl (.inl et)), _, rfl, by rw [lx]; omega, by rw [lx]; omega, fun M hM => ?_⟩
    rw [Int.toNat_natCast, lx]
    refine lc_places (v := 4) (fun i => decide (6 < (joinZ x y).getD i 0)) hM (by omega) (fun _ => rfl) (fun _ => rfl) (fun i H' Qb hi sm qb => ?_) (fun H1 s1 eM => ?_)
    · refine ⟨_, rfl, _, rfl, t, _, _, _, rfl, rfl, .inl (.inl (sm _ _ et)), at_int hi, ?_⟩
      refine ⟨_, rfl, _, rfl, u, _, _, _, rfl, rfl, .inl (.inl (sm _ _ eu)), at_int (by omega), ?_⟩
      refine ⟨_, _, rfl, _, _, rfl, rfl, _, rfl, ?_⟩
      rw [getD_join hi (by omega)] at qb
      exact qb
    have lj : (joinZ x y).length = x.length := by rw [List.length_zipWith]; omega
    have hmu : muchN (joinZ x y) = (plc (fun i => decide (6 < (joinZ x y).getD i 0)) x.length).head? := by rw [much_plc, lj]
    generalize plc (fun i => decide (6 < (joinZ x y).getD i 0)) x.length = gr at eM hmu
    refine ⟨_, rfl, Nat.zero_le _, fun p3 z3 => ?_⟩
    have s3 := same_upd (o := .lst []) z3
    have e3 : upd H1 p3 (.lst []) p3 = some (.lst []) := upd_same
    generalize upd H1 p3 (.lst []) = H3 at s3 e3 ⊢
    have s03 := s1.trans s3
    have em : gr.map (fun k : Nat => V.int ((k : Nat) : Int)) = (gr.map fun k : Nat => ((k : Nat) : Int)).map V.int := by
      rw [List.map_map]
      rfl
    rw [em] at eM
    refine ⟨M, p3, _, rfl, rfl, s3 _ _ eM, e3, _, rfl, ?_⟩
    have h := h.same s03
    have sa := sa.same s03
    unfold keptO at h
    rw [hmu] at h
    cases hg : gr with
    | cons k r =>
      rw [hg] at h eM
      refine iteT ⟨_, rfl, M, _, _, _, rfl, rfl, SqL.of (s3 _ _ eM), (show atI _ ((0 : Nat) : Int) = _ from atI_nat rfl), ?_⟩
      exact h.no sa rfl rfl (by show 2 ≤ 2; decide)
    | nil =>
      rw [hg] at h
      refine iteF ?_
      obtain ⟨t0, u0, vs, e1, e2, e4, e5, hpv⟩ := sa.ex
      have lv := hpv.length
      have h : Told H3 st sl mv cv ds Q (.did ⟨x, y, ds.past ++ [(ds.x, ds.y)]⟩) := h
      -- state[3].append((state[1], state[2]))
      refine ⟨_, rfl, st, _, _, _, rfl, rfl, SqL.of e1, (show atI _ ((3 : Nat) : Int) = _ from atI_nat rfl), (.inl ⟨rfl, _, SqL.of e5⟩), ?_⟩
      refine ⟨_, rfl, st, _, _, _, rfl, rfl, SqL.of e1, (show atI _ ((1 : Nat) : Int) = _ from atI_nat rfl), ?_⟩
      refine ⟨_, rfl, st, _, _, _, rfl, rfl, SqL.of e1, (show atI _ ((2 : Nat) : Int) = _ from atI_nat rfl), ?_⟩
      refine ⟨(by show 2 ≤ sizeLine; decide), fun p zp => ?_⟩
      have s4 := same_upd (o := .tup [V.ref t0, V.ref u0]) zp
      have ep : upd H3 p (.tup [V.ref t0, V.ref u0]) p = some (.tup [V.ref t0, V.ref u0]) := upd_same
      generalize upd H3 p (.tup [V.ref t0, V.ref u0]) = H4 at s4 ep ⊢
      refine ⟨sl, _, _, rfl, rfl, s4 _ _ e5, by rw [sizeLine_eq]; omega, ?_⟩
      have n1 : st ≠ sl := nss
      have n2 : p ≠ st := ne_of_none' e1 zp
      have n3 : p ≠ sl := ne_of_none' e5 zp
      refine ⟨_, rfl, _, rfl, (by show 2 ≤ sizeLine; decide), fun q zq => ?_⟩
      have q1 : q ≠ sl := fun z => by rw [z, upd_same] at zq; cases zq
      rw [upd_ne q1] at zq
      have q2 : q ≠ st := ne_of_none' (s4 _ _ e1) zq
      refine ⟨q, _, rfl, .inl (.inl upd_same), rfl, ?_⟩
      refine ⟨_, _, rfl, _, rfl, st, _, 1, 1, rfl, rfl, (by rw [upd_ne (Ne.symm q2), upd_ne n1]; exact s4 _ _ e1), rfl, ?_⟩
      refine ⟨_, _, rfl, _, rfl, st, _, 2, 2, rfl, rfl, upd_same, rfl, rfl, ?_⟩
      rw [upd_upd]
      refine ⟨_, rfl, st, _, _, _, rfl, rfl, SqL.of upd_same, (show atI _ ((3 : Nat) : Int) = _ from atI_nat rfl), ?_⟩
      refine ⟨sl, _, rfl, .inl (SqL.of (by rw [upd_ne (Ne.symm n1), upd_ne (Ne.symm q1)]; exact upd_same)), ?_⟩
      refine ⟨(by show 2 ≤ sizeLine; decide), fun p5 z5 => ?_⟩
      have w1 : p5 ≠ st := fun z => by rw [z, upd_same] at z5; cases z5
      rw [upd_ne w1] at z5
      have w2 : p5 ≠ q := fun z => by rw [z, upd_same] at z5; cases z5
      rw [upd_ne w2] at z5
      have w3 : p5 ≠ sl := fun z => by rw [z, upd_same] at z5; cases z5
      rw [upd_ne w3] at z5
      have k4 : ∀ c o, c ≠ st → c ≠ sl → H4 c = some o → ∀ v, upd (upd (upd (upd H4 sl (.lst (vs ++ [V.ref p]))) q (.tup [V.ref t, V.ref u])) st (.lst [mv, V.ref t, V.ref u, V.ref sl, cv])) p5 (.lst v) c = some o := fun c o h1 h2 e v => by
        rw [upd_ne (fun z => by rw [z, z5] at e; cases e), upd_ne h1, upd_ne (fun z => by rw [z, zq] at e; cases e), upd_ne h2]
        exact e
      have ke : ∀ v, Ke st sl H3 (upd (upd (upd (upd H4 sl (.lst (vs ++ [V.ref p]))) q (.tup [V.ref t, V.ref u])) st (.lst [mv, V.ref t, V.ref u, V.ref sl, cv])) p5 (.lst v)) := fun v c o h1 h2 e => k4 c o h1 h2 (s4 _ _ e) v
      have kc : ∀ v, KC 0 H3 (upd (upd (upd (upd H4 sl (.lst (vs ++ [V.ref p]))) q (.tup [V.ref t, V.ref u])) st (.lst [mv, V.ref t, V.ref u, V.ref sl, cv])) p5 (.lst v)) := fun v => KC.lists e1 e5 (ke v)
      have ll : ((vs ++ [V.ref p]).length : Int) = (((ds.past ++ [(ds.x, ds.y)]).length : Nat) : Int) := by
        rw [List.length_append, List.length_append, lv]
        rfl
      refine h _ p5 (ke _) ⟨t, u, vs ++ [V.ref p], ?_, (kc _).tup (s03 _ _ et), (kc _).tup (s03 _ _ eu), ?_, ?_⟩ (s4.free z5) ?_
      · rw [upd_ne (Ne.symm w1)]
        exact upd_same
      · rw [upd_ne (Ne.symm w3), upd_ne (Ne.symm n1), upd_ne (Ne.symm q1), upd_same]
      · exact (hpv.kc (kc _)).append (.cons (k4 _ _ n2 n3 ep _) ((kc _).tup e2) ((kc _).tup e4) .nil)
      · rw [upd_same]
        show some (HO.lst [V.str "ok", V.int _]) = some (HO.lst [V.str "ok", V.int _])
        rw [ll]

end
end Lb
set_option Elab.async false
set_option linter.all false
set_option maxRecDepth 100000
set_option maxHeartbeats 8000000
namespace Lb
open PySem PySem.Spec PyProof.Rows L2 RZ TL
section
variable {P : Program} {w : World} {K : PySem.W.Frag} {mg : Str → Option Value} {base : Heap}
theorem sc__law_borrowed : FnScope ["_law_state", "_law_row"] ["_law_state", "_law_row"] (defScope s__law_borrowed) := ⟨rfl, rfl, rfl, by decide +kernel, rfl, by decide +kernel, by decide +kernel⟩
theorem own_borrowed (D : Df K mg "_law_borrowed" s__law_borrowed) (B : Blt mg) (O__law_plus : Own P w K mg base "_law_plus" 1 ["_law_one_here", "_law_other"] (spPlus K)) (O__law_kept : Own P w K mg base "_law_kept" 1 ["_law_state", "_law_row", "_law_owed"] spKept) : Own P w K mg base "_law_borrowed" 2 ["_law_state", "_law_row"] spBorrowed := by
  refine own_of D sc__law_borrowed (fun _ _ _ _ _ _ us hl => match us, hl with | [_, _], _ => rfl) (fun vs H Q E h => ?_) (fun f cdv A outer s H vs Q E hr h => ?_)
  · obtain ⟨_, _, _, _, _, _, _, _, _, _, rfl, _⟩ := h
    rfl
  · obtain ⟨st, sl, mv, rv, cv, g, ts, row, cap, ds, rfl, sa, nss, ⟨m, tt, tvs, rfl, em, ett, htr⟩, hrow, hz, hcap, g4, ok, hp, h⟩ := h
    refine ⟨_, (pss_cons (ps_if (PW.pt (pw_or (pt_cmp (pc_isN (pv 1))) (pw_or1 (pt_cmpR op_ne (pe_callB (id := "len") call_len_seq (by rfl) B.b_len PySem.boot_len (pa_cons (pv 1) pa_nil)) (pe_ix ix_tup (pe_ix ix_list (pv 0) pe_int (fun _ _ => rfl)) pe_int (fun _ _ => rfl)) (nomark _))))) (pss_one (ps_ret (pe_lst (pa_cons pe_str pa_nil)))) pss_nil)
      (pss_cons (ps_if (PW.pt (pw_and (pt_cmp (pc_notN (pe_ix ix_list (pv 0) pe_int (fun _ _ => rfl)))) (pw_and1 (pt_cmpR op_gt (pe_op op_add (pe_callB (id := "sum") (cr_sumT rfl) (by rfl) B.b_sum (by decide +kernel) (pa_cons (pe_ix ix_list (pv 0) pe_int (fun _ _ => rfl)) pa_nil)) (pe_callB (id := "sum") (cr_sumT rfl) (by rfl) B.b_sum (by decide +kernel) (pa_cons (pv 1) pa_nil))) (pe_ix ix_list (pv 0) pe_int (fun _ _ => rfl)) (nomark _))))) (pss_one (ps_ret (pe_lst (pa_cons pe_str pa_nil)))) pss_nil)
      (pss_one (ps_ret (pe_own O__law_kept (hr.mono (by omega)) (by rfl) (pa_cons (pv 0) (pa_cons (pe_own O__law_plus (hr.mono (by omega)) (by rfl) (pa_cons (pe_ix ix_list (pv 0) pe_int (fun _ _ => rfl)) (pa_cons (pv 1) pa_nil))) (pa_cons (pe_own O__law_plus (hr.mono (by omega)) (by rfl) (pa_cons (pe_ix ix_list (pv 0) pe_int (fun _ _ => rfl)) (pa_cons (pv 1) pa_nil))) pa_nil)))))))), ?_⟩
    obtain ⟨t0, u0, vs, e1, e2, e4, e5, hpv⟩ := id sa.ex
    cases row with
    | none =>
      obtain rfl : rv = .non := hrow
      refine ⟨_, rfl, _, rfl, iteT (iteT ?_)⟩
      exact h.no sa rfl rfl (by show 1 ≤ 2; decide)
    | some z =>
      obtain ⟨pr, rfl, er, z4⟩ := hrow
      refine ⟨_, rfl, _, rfl, iteF ?_⟩
      refine ⟨_, rfl, pr, _, rfl, .inr (.inl (.inl er)), _, rfl, st, _, _, _, rfl, rfl, SqL.of e1, (show atI _ ((0 : Nat) : Int) = _ from atI_nat rfl), m, _, _, _, rfl, rfl, .inl (.inl em), (show atI _ ((0 : Nat) : Int) = _ from atI_nat rfl), rfl, _, rfl, ?_⟩
      have lz : ((z.map V.int).length : Int) = (z.length : Int) := by rw [List.length_map]
      rw [lz]
      by_cases hl : z.length = g
      case neg =>
        rw [show (!decide (V.int (z.length : Int) = V.int (g : Int))) = true by simp; omega]
        have eo : borrowO g cap ds (some z) = .bag := if_neg hl
        rw [eo] at h
        exact iteT (h.no sa rfl rfl (by show 1 ≤ 2; decide))
      rw [show (!decide (V.int (z.length : Int) = V.int (g : Int))) = false by simp; omega]
      refine iteF ?_
      have zlx : ds.x.length = z.length := ok.lx.trans hl.symm
      have zly : ds.y.length = z.length := ok.ly.trans hl.symm
      have lp1 : (plusZ ds.x z).length = z.length := plus_len zlx rfl
      have lp2 : (plusZ ds.y z).length = z.length := plus_len zly rfl
      unfold borrowO at h
      dsimp only at h
      rw [if_pos hl] at h
      cases cap with
      | none =>
        obtain rfl : cv = .non := hcap
        have h : Told H st sl (.ref m) .non ds Q (keptO ds (plusZ ds.x z) (plusZ ds.y z)) := h
        refine ⟨_, rfl, st, _, _, _, rfl, rfl, SqL.of e1, (show atI _ ((4 : Nat) : Int) = _ from atI_nat rfl), _, rfl, iteF (iteF ?_)⟩
        refine ⟨_, rfl, _, rfl, st, _, _, _, rfl, rfl, SqL.of e1, (show atI _ ((1 : Nat) : Int) = _ from atI_nat rfl), _, rfl, t0, pr, _, _, rfl, .inl (.inl e2), .inl (.inl er), zlx, by omega, fun H1 p1 s1 f1 ep1 => ?_⟩
        refine ⟨_, rfl, st, _, _, _, rfl, rfl, SqL.of (s1 _ _ e1), (show atI _ ((2 : Nat) : Int) = _ from atI_nat rfl), _, rfl, u0, pr, _, _, rfl, .inl (.inl (s1 _ _ e4)), .inl (.inl (s1 _ _ er)), zly, by omega, fun H2 p2 s2 f2 ep2 => ?_⟩
        exact ⟨st, sl, p1, p2, _, _, _, _, ds, rfl, sa.same (s1.trans s2), nss, s2 _ _ ep1, ep2, lp1.trans lp2.symm, (by rw [lp1]; exact z4), hp, h.same (s1.trans s2)⟩
      | some c =>
        obtain rfl : cv = .int c := hcap
        have h : Told H st sl (.ref m) (.int c) ds Q (if c < ds.y.sum + z.sum then .cap else keptO ds (plusZ ds.x z) (plusZ ds.y z)) := h
        refine ⟨_, rfl, st, _, _, _, rfl, rfl, SqL.of e1, (show atI _ ((4 : Nat) : Int) = _ from atI_nat rfl), _, rfl, iteT ?_⟩
        refine ⟨_, rfl, st, _, _, _, rfl, rfl, SqL.of e1, (show atI _ ((2 : Nat) : Int) = _ from atI_nat rfl), u0, _, rfl, .inl (.inl e4), ?_⟩
        refine ⟨_, rfl, pr, _, rfl, .inl (.inl er), ?_⟩
        refine ⟨_, _, rfl, rfl, _, rfl, st, _, _, _, rfl, rfl, SqL.of e1, (show atI _ ((4 : Nat) : Int) = _ from atI_nat rfl), ?_⟩
        refine ⟨_, _, rfl, rfl, _, rfl, ?_⟩
        by_cases hc : c < ds.y.sum + z.sum
        · rw [if_pos hc] at h
          rw [decide_eq_true hc]
          exact iteT (h.no sa rfl rfl (by show 1 ≤ 2; decide))
        rw [if_neg hc] at h
        rw [decide_eq_false hc]
        refine iteF ?_
        refine ⟨_, rfl, _, rfl, st, _, _, _, rfl, rfl, SqL.of e1, (show atI _ ((1 : Nat) : Int) = _ from atI_nat rfl), _, rfl, t0, pr, _, _, rfl, .inl (.inl e2), .inl (.inl er), zlx, by omega, fun H1 p1 s1 f1 ep1 => ?_⟩
        refine ⟨_, rfl, st, _, _, _, rfl, rfl, SqL.of (s1 _ _ e1), (show atI _ ((2 : Nat) : Int) = _ from atI_nat rfl), _, rfl, u0, pr, _, _, rfl, .inl (.inl (s1 _ _ e4)), .inl (.inl (s1 _ _ er)), zly, by omega, fun H2 p2 s2 f2 ep2 => ?_⟩
        exact ⟨st, sl, p1, p2, _, _, _, _, ds, rfl, sa.same (s1.trans s2), nss, s2 _ _ ep1, ep2, lp1.trans lp2.symm, (by rw [lp1]; exact z4), hp, h.same (s1.trans s2)⟩

end
end Lb
set_option Elab.async false
set_option linter.all false
set_option maxRecDepth 100000
set_option maxHeartbeats 8000000
namespace Lb
open PySem PySem.Spec PyProof.Rows L2 RZ TL
section
variable {P : Program} {w : World} {K : PySem.W.Frag} {mg : Str → Option Value} {base : Heap}
theorem sc__law_paid : FnScope ["_law_state", "_law_row", "_law_sort", "_law_own", "_law_less_here", "_law_good"] ["_law_state", "_law_row"] (defScope s__law_paid) := ⟨rfl, rfl, rfl, by decide +kernel, rfl, by decide +kernel, by decide +kernel⟩
theorem own_paid (D : Df K mg "_law_paid" s__law_paid) (B : Blt mg) (O__law_less : Own P w K mg base "_law_less" 1 ["_law_one_here", "_law_other"] (spMinus K)) (O__law_kept : Own P w K mg base "_law_kept" 1 ["_law_state", "_law_row", "_law_owed"] spKept) : Own P w K mg base "_law_paid" 2 ["_law_state", "_law_row"] spPaid := by
  refine own_of D sc__law_paid (fun _ _ _ _ _ _ us hl => match us, hl with | [_, _], _ => rfl) (fun vs H Q E h => ?_) (fun f cdv A outer s H vs Q E hr h => ?_)
  · obtain ⟨_, _, _, _, _, _, _, _, _, rfl, _⟩ := h
    rfl
  · obtain ⟨st, sl, mv, rv, cv, g, ts, row, ds, rfl, sa, nss, ⟨m, tt, tvs, rfl, em, ett, htr⟩, hrow, hz, g4, ok, hp, h⟩ := h
    refine ⟨_, (pss_cons (ps_if (PW.pt (pw_or (pt_cmp (pc_isN (pv 1))) (pw_or1 (pt_cmpR op_ne (pe_callB (id := "len") call_len_seq (by rfl) B.b_len PySem.boot_len (pa_cons (pv 1) pa_nil)) (pe_ix ix_tup (pe_ix ix_list (pv 0) pe_int (fun _ _ => rfl)) pe_int (fun _ _ => rfl)) (nomark _))))) (pss_one (ps_ret (pe_lst (pa_cons pe_str pa_nil)))) pss_nil)
      (pss_cons (ps_for PassesOwn.never rfl (pi_list (pe_lst (pa_cons (pe_tup (pa_cons pe_str (pa_cons (pe_ix ix_list (pv 0) pe_int (fun _ _ => rfl)) pa_nil))) (pa_cons (pe_tup (pa_cons pe_str (pa_cons (pe_ix ix_list (pv 0) pe_int (fun _ _ => rfl)) pa_nil))) pa_nil)))) (pg_tup rfl (pgs_cons (pg_name (i := 2) sc__law_paid.nd rfl (.inl rfl)) (pgs_cons (pg_name (i := 3) sc__law_paid.nd rfl (.inr rfl)) pgs_nil)))
        (pss_cons (ps_setLc (i := 4) (own := [("_law_good", 5)]) (g := gName 5) (tt := _) rfl sc__law_paid.nd rfl rfl (sw_true rfl rfl rfl (by decide +kernel)) (pi_range1 (by rfl) B.b_range (pa_cons (pe_callB (id := "len") call_len_seq (by rfl) B.b_len PySem.boot_len (pa_cons (pv 1) pa_nil)) pa_nil)) (blkOk_by (own := [("_law_good", 5)]) (N := ["_law_state", "_law_row", "_law_sort", "_law_own", "_law_less_here", "_law_good"]) (sc := defScope s__law_paid) (by decide +kernel)) (fun _ _ _ _ _ => (pg_name (i := 5) sc__law_paid.nd rfl (.inl rfl))) (fun _ _ _ _ _ => (pts_one (pt_cmpR op_lt (pe_ix (show IxR _ (rIxT K) from ix_tup) (pv 3) (pv 5) (fun _ _ => rfl)) (pe_ix (show IxR _ (rIxT K) from ix_tup) (pv 1) (pv 5) (fun _ _ => rfl)) (nomark _)))) (fun _ _ _ _ _ => (pv 5)))
      (pss_one (ps_if (pt_cmpR (op_neE hr.units) (pv 4) (pe_lst pa_nil) (nomark _)) (pss_one (ps_ret (pe_lst (pa_cons (pv 2) (pa_cons (pe_ix ix_list (pv 4) pe_int (fun _ _ => rfl)) pa_nil))))) pss_nil))))
      (pss_one (ps_ret (pe_own O__law_kept (hr.mono (by omega)) (by rfl) (pa_cons (pv 0) (pa_cons (pe_own O__law_less (hr.mono (by omega)) (by rfl) (pa_cons (pe_ix ix_list (pv 0) pe_int (fun _ _ => rfl)) (pa_cons (pv 1) pa_nil))) (pa_cons (pe_own O__law_less (hr.mono (by omega)) (by rfl) (pa_cons (pe_ix ix_list (pv 0) pe_int (fun _ _ => rfl)) (pa_cons (pv 1) pa_nil))) pa_nil)))))))), ?_⟩
    obtain ⟨t0, u0, vs, e1, e2, e4, e5, hpv⟩ := id sa.ex
    cases row with
    | none =>
      obtain rfl : rv = .non := hrow
      refine ⟨_, rfl, _, rfl, iteT (iteT ?_)⟩
      exact h.no sa rfl rfl (by show 1 ≤ 2; decide)
    | some z =>
      obtain ⟨pr, rfl, er, z4⟩ := hrow
      refine ⟨_, rfl, _, rfl, iteF ?_⟩
      refine ⟨_, rfl, pr, _, rfl, .inr (.inl (.inl er)), _, rfl, st, _, _, _, rfl, rfl, SqL.of e1, (show atI _ ((0 : Nat) : Int) = _ from atI_nat rfl), m, _, _, _, rfl, rfl, .inl (.inl em), (show atI _ ((0 : Nat) : Int) = _ from atI_nat rfl), rfl, _, rfl, ?_⟩
      have lz : ((z.map V.int).length : Int) = (z.length : Int) := by rw [List.length_map]
      rw [lz]
      by_cases hl : z.length = g
      case neg =>
        rw [show (!decide (V.int (z.length : Int) = V.int (g : Int))) = true by simp; omega]
        have eo : payO g ds (some z) = .bag := if_neg hl
        rw [eo] at h
        exact iteT (h.no sa rfl rfl (by show 1 ≤ 2; decide))
      rw [show (!decide (V.int (z.length : Int) = V.int (g : Int))) = false by simp; omega]
      refine iteF ?_
      have zlx : ds.x.length = z.length := ok.lx.trans hl.symm
      have zly : ds.y.length = z.length := ok.ly.trans hl.symm
      unfold payO at h
      dsimp only at h
      rw [if_pos hl] at h
      refine ⟨_, rfl, st, _, _, _, rfl, rfl, SqL.of e1, (show atI _ ((2 : Nat) : Int) = _ from atI_nat rfl), (by show 2 ≤ sizeLine; decide), fun pA zA => ?_⟩
      have sA := same_upd (o := .tup [V.str "owed", V.ref u0]) zA
      have eA : upd H pA (.tup [V.str "owed", V.ref u0]) pA = some (.tup [V.str "owed", V.ref u0]) := upd_same
      generalize upd H pA (.tup [V.str "owed", V.ref u0]) = HA at sA eA ⊢
      refine ⟨_, rfl, st, _, _, _, rfl, rfl, SqL.of (sA _ _ e1), (show atI _ ((1 : Nat) : Int) = _ from atI_nat rfl), (by show 2 ≤ sizeLine; decide), fun pB zB => ?_⟩
      have sB := same_upd (o := .tup [V.str "lacking", V.ref t0]) zB
      have eB : upd HA pB (.tup [V.str "lacking", V.ref t0]) pB = some (.tup [V.str "lacking", V.ref t0]) := upd_same
      generalize upd HA pB (.tup [V.str "lacking", V.ref t0]) = HB at sB eB ⊢
      refine ⟨(by show 2 ≤ sizeLine; decide), fun L zL => ?_⟩
      have sL := same_upd (o := .lst [V.ref pA, V.ref pB]) zL
      have eL : upd HB L (.lst [V.ref pA, V.ref pB]) L = some (.lst [V.ref pA, V.ref pB]) := upd_same
      generalize upd HB L (.lst [V.ref pA, V.ref pB]) = HL at sL eL ⊢
      have s0 := (sA.trans sB).trans sL
      have lm : (z.map V.int).length = z.length := List.length_map _
      refine ⟨L, rfl, ⟨_, SqL.of eL⟩, ?_⟩
      refine for_list (K := K) (a := L) (xs := [V.ref pA, V.ref pB]) (fun i σ H' => ∃ y2 y3 y4 y5, σ = [some (.ref st), some (.ref pr), y2, y3, y4, y5] ∧ Same HL H' ∧ (1 ≤ i → lackN ds.y z 0 = none) ∧ (2 ≤ i → lackN ds.x z 0 = none))
        ⟨none, none, none, none, rfl, Same.refl _, fun z => absurd z (by omega), fun z => absurd z (by omega)⟩ (fun i σ H' _ hP => by obtain ⟨_, _, _, _, _, sm, _⟩ := hP; exact SqL.of (sm _ _ eL)) ?_ ?_
      · rintro i v σ H1 hv ⟨y2, y3, y4, y5, rfl, s1, h1, h2⟩
        have s01 := s0.trans s1
        obtain ⟨pV, word, o, x, rfl, ePV, eo, lx, hsome, hnone⟩ : ∃ (pV : Addr) (word : Str) (o : Addr) (x : List Int), v = .ref pV ∧ H1 pV = some (.tup [.str word, .ref o]) ∧ H1 o = some (.tup (x.map V.int)) ∧ x.length = z.length ∧
            (∀ k : Nat, lackN x z 0 = some k → ∀ H2, Same H1 H2 → [V.str word, V.int (k : Int)].length ≤ sizeLine ∧ ∀ p, H2 p = none → Q (.ref p) (upd H2 p (.lst [V.str word, V.int (k : Int)]))) ∧ (lackN x z 0 = none → (1 ≤ i + 1 → lackN ds.y z 0 = none) ∧ (2 ≤ i + 1 → lackN ds.x z 0 = none)) := by
          match i, hv with
          | 0, hv =>
            cases hv
            refine ⟨pA, "owed", u0, ds.y, rfl, ((sB.trans sL).trans s1) _ _ eA, s01 _ _ e4, zly, fun k hk H2 s2 => ?_, fun hn => ⟨fun _ => hn, fun q => absurd q (by omega)⟩⟩
            rw [hk] at h
            exact (h.same (s01.trans s2)).no (sa.same (s01.trans s2)) rfl rfl (by show 2 ≤ 2; decide)
          | 1, hv =>
            cases hv
            refine ⟨pB, "lacking", t0, ds.x, rfl, (sL.trans s1) _ _ eB, s01 _ _ e2, zlx, fun k hk H2 s2 => ?_, fun hn => ⟨fun _ => h1 (by omega), fun _ => hn⟩⟩
            rw [h1 (by omega), hk] at h
            exact (h.same (s01.trans s2)).no (sa.same (s01.trans s2)) rfl rfl (by show 2 ≤ 2; decide)
          | j + 2, hv => cases hv
        refine ⟨pV, _, rfl, .inl (.inl ePV), rfl, _, _, rfl, _, _, rfl, rfl, ?_⟩
        refine ⟨_, rfl, pr, _, rfl, .inr (.inl (.inl (s01 _ _ er))), _, rfl, by rw [lm]; omega, by rw [lm]; omega, fun M hM => ?_⟩
        rw [Int.toNat_natCast, lm]
        refine lc_places (v := 5) (fun i => decide (x.getD i 0 < z.getD i 0)) hM (by omega) (fun _ => rfl) (fun _ => rfl) (fun i H' Qb hi sm qb => ?_) (fun H2 s2 eM => ?_)
        · refine ⟨_, rfl, _, rfl, o, _, _, _, rfl, rfl, .inl (.inl (sm _ _ eo)), at_int (by omega), ?_⟩
          exact ⟨_, rfl, _, rfl, pr, _, _, _, rfl, rfl, .inl (.inl ((s01.trans sm) _ _ er)), at_int hi, _, _, rfl, rfl, _, rfl, qb⟩
        have hlk : lackN x z 0 = (plc (fun i => decide (x.getD i 0 < z.getD i 0)) z.length).head? := by rw [lack_plc0 lx, lx]
        generalize plc (fun i => decide (x.getD i 0 < z.getD i 0)) z.length = gr at eM hlk
        refine ⟨_, rfl, Nat.zero_le _, fun p3 z3 => ?_⟩
        have s3 := same_upd (o := .lst []) z3
        have e3 : upd H2 p3 (.lst []) p3 = some (.lst []) := upd_same
        generalize upd H2 p3 (.lst []) = H3 at s3 e3 ⊢
        have em : gr.map (fun k : Nat => V.int ((k : Nat) : Int)) = (gr.map fun k : Nat => ((k : Nat) : Int)).map V.int := by
          rw [List.map_map]
          rfl
        rw [em] at eM
        refine ⟨M, p3, _, rfl, rfl, s3 _ _ eM, e3, _, rfl, ?_⟩
        cases hg : gr with
        | cons k r =>
          rw [hg] at eM hlk
          refine iteT ⟨_, rfl, _, rfl, M, _, _, _, rfl, rfl, SqL.of (s3 _ _ eM), (show atI _ ((0 : Nat) : Int) = _ from atI_nat rfl), ?_⟩
          exact hsome k hlk H3 (s2.trans s3)
        | nil =>
          rw [hg] at hlk
          refine iteF ?_
          exact ⟨_, _, _, _, rfl, s1.trans (s2.trans s3), hnone hlk⟩
      · rintro σ H1 ⟨y2, y3, y4, y5, rfl, s1, h1, h2⟩
        have s01 := s0.trans s1
        have hy := h1 (by show 1 ≤ 2; decide)
        have hx := h2 (by show 2 ≤ 2; decide)
        rw [hy, hx] at h
        have h : Told H st sl (.ref m) cv ds Q (keptO ds (lessZ ds.x z) (lessZ ds.y z)) := h
        have lp1 : (lessZ ds.x z).length = z.length := less_len zlx rfl
        have lp2 : (lessZ ds.y z).length = z.length := less_len zly rfl
        refine ⟨_, rfl, _, rfl, st, _, _, _, rfl, rfl, SqL.of (s01 _ _ e1), (show atI _ ((1 : Nat) : Int) = _ from atI_nat rfl), _, rfl, t0, pr, _, _, rfl, .inl (.inl (s01 _ _ e2)), .inl (.inl (s01 _ _ er)), zlx, by omega, fun H2 p1 s2 f1 ep1 => ?_⟩
        have s02 := s01.trans s2
        refine ⟨_, rfl, st, _, _, _, rfl, rfl, SqL.of (s02 _ _ e1), (show atI _ ((2 : Nat) : Int) = _ from atI_nat rfl), _, rfl, u0, pr, _, _, rfl, .inl (.inl (s02 _ _ e4)), .inl (.inl (s02 _ _ er)), zly, by omega, fun H3 p2 s3 f2 ep2 => ?_⟩
        exact ⟨st, sl, p1, p2, _, _, _, _, ds, rfl, sa.same (s02.trans s3), nss, s3 _ _ ep1, ep2, lp1.trans lp2.symm, (by rw [show (minusL ds.x z).length = z.length from lp1]; exact z4), hp, h.same (s02.trans s3)⟩

end
end Lb
set_option Elab.async false
set_option linter.all false
set_option maxRecDepth 100000
set_option maxHeartbeats 8000000
namespace Lb
open PySem PySem.Spec PyProof.Rows L2 RZ TL
section
variable {P : Program} {w : World} {K : PySem.W.Frag} {mg : Str → Option Value} {base : Heap}
theorem sc__law_undone : FnScope ["_law_state"] ["_law_state"] (defScope s__law_undone) := ⟨rfl, rfl, rfl, by decide +kernel, rfl, by decide +kernel, by decide +kernel⟩
theorem own_undone (D : Df K mg "_law_undone" s__law_undone) (B : Blt mg) : Own P w K mg base "_law_undone" 1 ["_law_state"] spUndone := by
  refine own_of D sc__law_undone (fun _ _ _ _ _ _ us hl => match us, hl with | [_], _ => rfl) (fun vs H Q E h => ?_) (fun f cdv A outer s H vs Q E hr h => ?_)
  · obtain ⟨_, _, _, _, _, rfl, _⟩ := h
    rfl
  · obtain ⟨st, sl, mv, cv, ds, rfl, sa, nss, h⟩ := h
    refine ⟨_, (pss_cons (ps_if (pt_cmpR (op_eqE hr.units0) (pe_ix ix_list (pv 0) pe_int (fun _ _ => rfl)) (pe_lst pa_nil) (nomark _)) (pss_one (ps_ret (pe_lst (pa_cons pe_str pa_nil)))) pss_nil)
      (pss_cons (ps_asg (pe_bm0 PySem.F.plainAttrs_list PySem.F.slot_list_pop PySem.F.type_list_pop mt_pop (pe_ix ix_list (pv 0) pe_int (fun _ _ => rfl))) (pg_tup rfl (pgs_cons (pg_sub (pv 0) pe_int set_list) (pgs_cons (pg_sub (pv 0) pe_int set_list) pgs_nil))))
      (pss_one (ps_ret (pe_lst (pa_cons pe_str (pa_cons pe_non pa_nil))))))), ?_⟩
    obtain ⟨t0, u0, vs, e1, e2, e4, e5, hpv⟩ := id sa.ex
    have lv := hpv.length
    refine ⟨_, rfl, st, _, _, _, rfl, rfl, SqL.of e1, (show atI _ ((3 : Nat) : Int) = _ from atI_nat rfl), Nat.zero_le _, fun p3 z3 => ?_⟩
    have s3 := same_upd (o := .lst []) z3
    have e3 : upd H p3 (.lst []) p3 = some (.lst []) := upd_same
    generalize upd H p3 (.lst []) = H3 at s3 e3 ⊢
    have h := h.same s3
    have sa := sa.same s3
    refine ⟨sl, p3, _, rfl, rfl, s3 _ _ e5, e3, _, rfl, ?_⟩
    unfold undoO at h
    cases hl : ds.past.getLast? with
    | none =>
      have e0 : ds.past = [] := List.getLast?_eq_none_iff.mp hl
      have hv : vs = [] := List.eq_nil_of_length_eq_zero (by rw [lv, e0]; rfl)
      rw [hl] at h
      rw [hv]
      exact iteT (h.no sa rfl rfl (by show 1 ≤ 2; decide))
    | some w =>
      have es := getLast_split hl
      rw [hl] at h
      rw [es] at hpv
      obtain ⟨ws', p, t', u', rfl, hp', ep', et', eu'⟩ := hpv.split
      have hv : (ws' ++ [V.ref p]).isEmpty = false := by cases ws' <;> rfl
      rw [hv]
      refine iteF ?_
      have e1 := s3 _ _ e1
      have e5 := s3 _ _ e5
      have ep' := s3 _ _ ep'
      -- state[1], state[2] = state[3].pop()
      refine ⟨_, rfl, st, _, _, _, rfl, rfl, SqL.of e1, (show atI _ ((3 : Nat) : Int) = _ from atI_nat rfl), (.inl ⟨rfl, _, SqL.of e5⟩), ?_⟩
      have ei : (ws' ++ [V.ref p])[(ws' ++ [V.ref p]).length - 1]? = some (V.ref p) := by
        rw [List.length_append, List.length_singleton, Nat.add_sub_cancel, List.getElem?_append_right (Nat.le_refl _), Nat.sub_self]
        rfl
      refine ⟨sl, _, V.ref p, rfl, rfl, e5, ei, ?_⟩
      rw [List.dropLast_concat]
      have n2 : p ≠ sl := fun q => by rw [q, e5] at ep'; cases ep'
      refine ⟨p, _, rfl, .inl (.inl (by rw [upd_ne n2]; exact ep')), rfl, ?_⟩
      refine ⟨_, _, rfl, _, rfl, st, _, 1, 1, rfl, rfl, (by rw [upd_ne nss]; exact e1), rfl, ?_⟩
      refine ⟨_, _, rfl, _, rfl, st, _, 2, 2, rfl, rfl, upd_same, rfl, rfl, ?_⟩
      rw [upd_upd]
      refine ⟨(by show 2 ≤ sizeLine; decide), fun p5 z5 => ?_⟩
      have w1 : p5 ≠ st := fun z => by rw [z, upd_same] at z5; cases z5
      rw [upd_ne w1] at z5
      have w3 : p5 ≠ sl := fun z => by rw [z, upd_same] at z5; cases z5
      rw [upd_ne w3] at z5
      have ke : ∀ v, Ke st sl H3 (upd (upd (upd H3 sl (.lst ws')) st (.lst [mv, V.ref t', V.ref u', V.ref sl, cv])) p5 (.lst v)) := fun v c o h1 h2 e => by
        rw [upd_ne (fun z => by rw [z, z5] at e; cases e), upd_ne h1, upd_ne h2]
        exact e
      have kc : ∀ v, KC 0 H3 (upd (upd (upd H3 sl (.lst ws')) st (.lst [mv, V.ref t', V.ref u', V.ref sl, cv])) p5 (.lst v)) := fun v => KC.lists e1 e5 (ke v)
      refine h _ p5 (ke _) ⟨t', u', ws', ?_, (kc _).tup (s3 _ _ et'), (kc _).tup (s3 _ _ eu'), ?_, ?_⟩ z5 upd_same
      · rw [upd_ne (Ne.symm w1)]
        exact upd_same
      · rw [upd_ne (Ne.symm w3), upd_ne (Ne.symm nss), upd_same]
      · exact (hp'.kc (C := 0) (KC.of s3)).kc (kc _)

end
end Lb
set_option Elab.async false
set_option linter.all false
set_option maxRecDepth 100000
set_option maxHeartbeats 8000000
namespace Lb
open PySem PySem.Spec PyProof.Rows L2 RZ TL
section
variable {P : Program} {w : World} {K : PySem.W.Frag} {mg : Str → Option Value} {base : Heap}
theorem sc__law_tell : FnScope ["_law_state", "_law_k", "_law_is_back", "_law_often", "_law_market_here", "_law_row", "_law_take", "_law_put", "_law_turn", "_law_lacking", "_law_good"] ["_law_state", "_law_k", "_law_is_back", "_law_often"] (defScope s__law_tell) := ⟨rfl, rfl, rfl, by decide +kernel, rfl, by decide +kernel, by decide +kernel⟩
theorem own_tell (D : Df K mg "_law_tell" s__law_tell) (B : Blt mg) (O__law_plus : Own P w K mg base "_law_plus" 1 ["_law_one_here", "_law_other"] (spPlus K)) (O__law_less : Own P w K mg base "_law_less" 1 ["_law_one_here", "_law_other"] (spMinus K)) (O__law_kept : Own P w K mg base "_law_kept" 1 ["_law_state", "_law_row", "_law_owed"] spKept) : Own P w K mg base "_law_tell" 2 ["_law_state", "_law_k", "_law_is_back", "_law_often"] spTell := by
  refine own_of D sc__law_tell (fun _ _ _ _ _ _ us hl => match us, hl with | [_, _, _, _], _ => rfl) (fun vs H Q E h => ?_) (fun f cdv A outer s H vs Q E hr h => ?_)
  · obtain ⟨_, _, _, _, _, _, _, _, _, _, _, _, rfl, _⟩ := h
    rfl
  · obtain ⟨st, sl, mv, cv, kv, tv, kz, tz, back, g, ts, ds, rfl, hk, ht, sa, nss, ⟨m, tt, tvs, rfl, em, ett, htr⟩, mok, ok, hp, h⟩ := h
    refine ⟨_, (pss_cons (ps_asg (pe_tup (pa_cons (pe_ix ix_list (pv 0) pe_int (fun _ _ => rfl)) (pa_cons (pe_ix ix_list (pv 0) pe_int (fun _ _ => rfl)) pa_nil))) (pg_tup rfl (pgs_cons (pg_name (i := 4) sc__law_tell.nd rfl (.inl rfl)) (pgs_cons (pg_name (i := 5) sc__law_tell.nd rfl (.inr rfl)) pgs_nil))))
      (pss_cons (ps_if (PW.pt (pw_or (pt_val (pe_callB (id := "isinstance") call_isi (by rfl) B.b_isinstance (by decide +kernel) (pa_cons (pv 1) (pa_cons (pe_bltn (v := .ty "bool") (u := .type "bool") (by rfl) B.b_bool (by decide +kernel) rfl) pa_nil)))) (pw_or (pt_not (pt_val (pe_callB (id := "isinstance") call_isi (by rfl) B.b_isinstance (by decide +kernel) (pa_cons (pv 1) (pa_cons (pe_bltn (v := .ty "int") (u := .type "int") (by rfl) B.b_int (by decide +kernel) rfl) pa_nil))))) (pw_or1 (pt_not (pt_chain op_le op_lt pe_int (pv 1) (pe_callB (id := "len") call_len_seq (by rfl) B.b_len PySem.boot_len (pa_cons (pe_ix ix_tup (pv 4) pe_int (fun _ _ => rfl)) pa_nil)))))))) (pss_one (ps_ret (pe_lst (pa_cons pe_str (pa_cons (pv 1) pa_nil))))) pss_nil)
      (pss_cons (ps_if (PW.pt (pw_or (pt_val (pe_callB (id := "isinstance") call_isi (by rfl) B.b_isinstance (by decide +kernel) (pa_cons (pv 3) (pa_cons (pe_bltn (v := .ty "bool") (u := .type "bool") (by rfl) B.b_bool (by decide +kernel) rfl) pa_nil)))) (pw_or (pt_not (pt_val (pe_callB (id := "isinstance") call_isi (by rfl) B.b_isinstance (by decide +kernel) (pa_cons (pv 3) (pa_cons (pe_bltn (v := .ty "int") (u := .type "int") (by rfl) B.b_int (by decide +kernel) rfl) pa_nil))))) (pw_or1 (pt_not (pt_chain op_le op_le pe_int (pv 3) pe_int)))))) (pss_one (ps_ret (pe_lst (pa_cons pe_str (pa_cons (pv 3) pa_nil))))) pss_nil)
      (pss_cons (ps_asg (pe_ifExp (pt_val (pv 2)) (pe_tup (pa_cons (pe_ix ix_tup (pe_ix ix_tup (pe_ix ix_tup (pv 4) pe_int (fun _ _ => rfl)) (pv 1) (fun _ _ => rfl)) pe_int (fun _ _ => rfl)) (pa_cons (pe_ix ix_tup (pe_ix ix_tup (pe_ix ix_tup (pv 4) pe_int (fun _ _ => rfl)) (pv 1) (fun _ _ => rfl)) pe_int (fun _ _ => rfl)) pa_nil))) (pe_ix ix_tup (pe_ix ix_tup (pv 4) pe_int (fun _ _ => rfl)) (pv 1) (fun _ _ => rfl))) (pg_tup rfl (pgs_cons (pg_name (i := 6) sc__law_tell.nd rfl (.inr rfl)) (pgs_cons (pg_name (i := 7) sc__law_tell.nd rfl (.inl rfl)) pgs_nil))))
      (pss_cons (ps_for PassesOwn.never rfl (pi_range1 (by rfl) B.b_range (pa_cons (pv 3) pa_nil)) (pg_name (i := 8) sc__law_tell.nd rfl (.inl rfl))
        (pss_cons (ps_setLc (i := 9) (own := [("_law_good", 10)]) (g := gName 10) (tt := _) rfl sc__law_tell.nd rfl rfl (sw_true rfl rfl rfl (by decide +kernel)) (pi_range1 (by rfl) B.b_range (pa_cons (pe_ix ix_tup (pv 4) pe_int (fun _ _ => rfl)) pa_nil)) (blkOk_by (own := [("_law_good", 10)]) (N := ["_law_state", "_law_k", "_law_is_back", "_law_often", "_law_market_here", "_law_row", "_law_take", "_law_put", "_law_turn", "_law_lacking", "_law_good"]) (sc := defScope s__law_tell) (by decide +kernel)) (fun _ _ _ _ _ => (pg_name (i := 10) sc__law_tell.nd rfl (.inl rfl))) (fun _ _ _ _ _ => (pts_one (pt_cmpR op_lt (pe_ix (show IxR _ (rIxT K) from ix_tup) (pv 5) (pv 10) (fun _ _ => rfl)) (pe_ix (show IxR _ (rIxT K) from ix_tup) (pv 6) (pv 10) (fun _ _ => rfl)) (nomark _)))) (fun _ _ _ _ _ => (pv 10)))
      (pss_cons (ps_if (pt_cmpR (op_neE hr.units) (pv 9) (pe_lst pa_nil) (nomark _)) (pss_one (ps_ret (pe_lst (pa_cons pe_str (pa_cons (pe_ix ix_list (pv 9) pe_int (fun _ _ => rfl)) pa_nil))))) pss_nil)
      (pss_one (ps_set (i := 5) sc__law_tell.nd rfl (.inr rfl) (pe_own O__law_plus (hr.mono (by omega)) (by rfl) (pa_cons (pe_own O__law_less (hr.mono (by omega)) (by rfl) (pa_cons (pv 5) (pa_cons (pv 6) pa_nil))) (pa_cons (pv 7) pa_nil))))))))
      (pss_one (ps_ret (pe_own O__law_kept (hr.mono (by omega)) (by rfl) (pa_cons (pv 0) (pa_cons (pv 5) (pa_cons (pe_ix ix_list (pv 0) pe_int (fun _ _ => rfl)) pa_nil))))))))))), ?_⟩
    obtain ⟨t0, u0, vs, e1, e2, e4, e5, hpv⟩ := id sa.ex
    have g1 := mok.one
    have g4 := mok.four
    have ltr := htr.length
    have lm := mok.many
    refine ⟨_, rfl, st, _, _, _, rfl, rfl, SqL.of e1, (show atI _ ((0 : Nat) : Int) = _ from atI_nat rfl), ?_⟩
    refine ⟨_, rfl, st, _, _, _, rfl, rfl, SqL.of e1, (show atI _ ((1 : Nat) : Int) = _ from atI_nat rfl), ?_⟩
    refine ⟨(by show 2 ≤ sizeLine; decide), fun p1 z1 => ?_⟩
    have s1 := same_upd (o := .tup [V.ref m, V.ref t0]) z1
    have ep1 : upd H p1 (.tup [V.ref m, V.ref t0]) p1 = some (.tup [V.ref m, V.ref t0]) := upd_same
    generalize upd H p1 (.tup [V.ref m, V.ref t0]) = H1 at s1 ep1 ⊢
    refine ⟨p1, _, rfl, .inl (.inl ep1), rfl, _, _, rfl, _, _, rfl, rfl, ?_⟩
    have h1 := h.same s1
    have sa1 := sa.same s1
    have noT : trdAt ts kz = none → [V.str "trade", kv].length ≤ sizeLine ∧ ∀ p, H1 p = none → Q (.ref p) (upd H1 p (.lst [V.str "trade", kv])) := fun hn => by
      unfold tradeO at h1
      rw [hn] at h1
      exact h1.no sa1 rfl rfl (by show 2 ≤ 2; decide)
    cases hk with
    | bl b => exact ⟨_, rfl, _, _, _, _, _, rfl, .ty _, dat_ty (Dat.bl (R := fun _ => True) b), kit_ty (kit_bool _), _, rfl, iteT (iteT ⟨_, rfl, noT rfl⟩)⟩
    | non => exact ⟨_, rfl, _, _, _, _, _, rfl, .ty _, dat_ty (Dat.non (R := fun _ => True)), kit_ty (kit_bool _), _, rfl, iteF ⟨_, rfl, _, _, _, _, _, rfl, .ty _, dat_ty (Dat.non (R := fun _ => True)), kit_ty (kit_int _), _, rfl, iteT (iteT ⟨_, rfl, noT rfl⟩)⟩⟩
    | int kn =>
      refine ⟨_, rfl, _, _, _, _, _, rfl, .ty _, dat_ty (Dat.int (R := fun _ => True) kn), kit_ty (kit_bool _), _, rfl, iteF ?_⟩
      refine ⟨_, rfl, _, _, _, _, _, rfl, .ty _, dat_ty (Dat.int (R := fun _ => True) kn), kit_ty (kit_int _), _, rfl, iteF ?_⟩
      refine ⟨_, rfl, _, _, rfl, rfl, _, rfl, ?_⟩
      by_cases h0 : 0 ≤ kn
      case neg =>
        rw [decide_eq_false h0]
        exact iteF ⟨_, rfl, iteT ⟨_, rfl, noT (if_neg (fun z => h0 z.1))⟩⟩
      rw [decide_eq_true h0]
      refine iteT ⟨_, rfl, m, _, _, _, rfl, rfl, .inl (.inl (s1 _ _ em)), (show atI _ ((1 : Nat) : Int) = _ from atI_nat rfl), tt, _, rfl, .inr (.inl (.inl (s1 _ _ ett))), _, _, rfl, rfl, _, rfl, ?_⟩
      rw [ltr]
      by_cases h2 : kn < (ts.length : Int)
      case neg =>
        rw [decide_eq_false h2]
        exact iteT ⟨_, rfl, noT (if_neg (fun z => h2 z.2))⟩
      rw [decide_eq_true h2]
      refine iteF ?_
      obtain ⟨kN, rfl⟩ : ∃ kN : Nat, kn = (kN : Int) := ⟨kn.toNat, by omega⟩
      have hkN : kN < ts.length := by omega
      obtain ⟨td, htd⟩ : ∃ td, ts[kN]? = some td := ⟨_, List.getElem?_eq_getElem hkN⟩
      have eat : trdAt ts (some (kN : Int)) = some td := by
        rw [show trdAt ts (some (kN : Int)) = ts[(kN : Int).toNat]? from if_pos ⟨h0, h2⟩]
        exact htd
      obtain ⟨sd1, sd2⟩ := mok.all td (List.mem_of_getElem? htd)
      clear noT
      unfold tradeO at h1
      rw [eat] at h1
      dsimp only at h1
      have noN : timesOf tz = none → [V.str "times", tv].length ≤ sizeLine ∧ ∀ p, H1 p = none → Q (.ref p) (upd H1 p (.lst [V.str "times", tv])) := fun hn => by
        rw [hn] at h1
        exact h1.no sa1 rfl rfl (by show 2 ≤ 2; decide)
      cases ht with
      | bl b => exact ⟨_, rfl, _, _, _, _, _, rfl, .ty _, dat_ty (Dat.bl (R := fun _ => True) b), kit_ty (kit_bool _), _, rfl, iteT (iteT ⟨_, rfl, noN rfl⟩)⟩
      | non => exact ⟨_, rfl, _, _, _, _, _, rfl, .ty _, dat_ty (Dat.non (R := fun _ => True)), kit_ty (kit_bool _), _, rfl, iteF ⟨_, rfl, _, _, _, _, _, rfl, .ty _, dat_ty (Dat.non (R := fun _ => True)), kit_ty (kit_int _), _, rfl, iteT (iteT ⟨_, rfl, noN rfl⟩)⟩⟩
      | int tn =>
        refine ⟨_, rfl, _, _, _, _, _, rfl, .ty _, dat_ty (Dat.int (R := fun _ => True) tn), kit_ty (kit_bool _), _, rfl, iteF ?_⟩
        refine ⟨_, rfl, _, _, _, _, _, rfl, .ty _, dat_ty (Dat.int (R := fun _ => True) tn), kit_ty (kit_int _), _, rfl, iteF ?_⟩
        refine ⟨_, rfl, _, _, rfl, rfl, _, rfl, ?_⟩
        by_cases h3 : 1 ≤ tn
        case neg =>
          rw [decide_eq_false h3]
          exact iteF ⟨_, rfl, iteT ⟨_, rfl, noN (if_neg (fun z => h3 z.1))⟩⟩
        rw [decide_eq_true h3]
        refine iteT ⟨_, _, rfl, rfl, _, rfl, ?_⟩
        by_cases h4 : tn ≤ 9
        case neg =>
          rw [decide_eq_false h4]
          exact iteT ⟨_, rfl, noN (if_neg (fun z => h4 z.2))⟩
        rw [decide_eq_true h4]
        refine iteF ?_
        obtain ⟨n, rfl⟩ : ∃ n : Nat, tn = (n : Int) := ⟨tn.toNat, by omega⟩
        have etm : timesOf (some (n : Int)) = some n := by
          rw [show timesOf (some (n : Int)) = some (n : Int).toNat from if_pos ⟨h3, h4⟩]
          rfl
        rw [etm] at h1
        dsimp only at h1
        clear noN
        obtain ⟨pp, ug, vg, hpv', epp, eug, evg⟩ := htr.get htd
        have tk : BgOk (if back then td.2 else td.1) ∧ BgOk (if back then td.1 else td.2) ∧ (if back then td.2 else td.1).length = g ∧ (if back then td.1 else td.2).length = g := by
          cases back
          · exact ⟨sd1.bok g1 g4, sd2.bok g1 g4, sd1.len, sd2.len⟩
          · exact ⟨sd2.bok g1 g4, sd1.bok g1 g4, sd2.len, sd1.len⟩
        obtain ⟨tk1, tk2, lt1, lt2⟩ := tk
        generalize hta : (if back then td.2 else td.1) = ta at *
        generalize htp : (if back then td.1 else td.2) = tp at *
        refine nxt_in (seq_in fun DD n1 n2 n3 n4 => ?_)
        have rest : ∀ (H2 : Hp) (qa qb : Addr), Same H1 H2 → H2 qa = some (.tup (ta.map V.int)) → H2 qb = some (.tup (tp.map V.int)) → DD.nx [some (.ref st), some (.int (kN : Int)), some (.bl back), some (.int (n : Int)), some (.ref m), some (.ref t0), some (.ref qa), some (.ref qb), none, none, none] H2 := by
          rw [n1]
          intro H2 qa qb s2 eqa eqb
          have h2 := h1.same s2
          have sa2 := sa1.same s2
          refine ⟨_, rfl, n, rfl, by omega, by omega, ?_⟩
          refine for_range (n := n) (fun i σ H' => ∃ (tr : Addr) (x : List Int) (y8 y9 y10 : Option V), σ = [some (.ref st), some (.int (kN : Int)), some (.bl back), some (.int (n : Int)), some (.ref m), some (.ref tr), some (.ref qa), some (.ref qb), y8, y9, y10] ∧ Same H2 H' ∧ H' tr = some (.tup (x.map V.int)) ∧ x.length = g ∧ (∀ v ∈ x, 0 ≤ v) ∧ tradeL n ta tp ds.x = tradeL (n - i) ta tp x)
            ⟨t0, ds.x, none, none, none, rfl, Same.refl _, (s1.trans s2) _ _ e2, ok.lx, fun v hv => (ok.ax v hv).1, rfl⟩ ?_ ?_
          · rintro i σ H3 hi ⟨tr, x, y8, y9, y10, rfl, s3, etr, lx, nx, etl⟩
            obtain ⟨j, hj⟩ : ∃ j, n - i = j + 1 := ⟨n - i - 1, by omega⟩
            rw [hj, tradeL] at etl
            have s03 := (s1.trans s2).trans s3
            refine ⟨_, rfl, m, _, _, _, rfl, rfl, .inl (.inl (s03 _ _ em)), (show atI _ ((0 : Nat) : Int) = _ from atI_nat rfl), _, rfl, by omega, by omega, fun M hM => ?_⟩
            rw [Int.toNat_natCast]
            refine lc_places (v := 10) (fun i => decide (x.getD i 0 < ta.getD i 0)) hM (by omega) (fun _ => rfl) (fun _ => rfl) (fun i H' Qb hi sm qb => ?_) (fun H4 s4 eM => ?_)
            · refine ⟨_, rfl, _, rfl, tr, _, _, _, rfl, rfl, .inl (.inl (sm _ _ etr)), at_int (by omega), ?_⟩
              exact ⟨_, rfl, _, rfl, qa, _, _, _, rfl, rfl, .inl (.inl ((s3.trans sm) _ _ eqa)), at_int (by omega), _, _, rfl, rfl, _, rfl, qb⟩
            have hlk : lackN x ta 0 = (plc (fun i => decide (x.getD i 0 < ta.getD i 0)) g).head? := by rw [lack_plc0 (lx.trans lt1.symm), lx]
            generalize plc (fun i => decide (x.getD i 0 < ta.getD i 0)) g = gr at eM hlk
            refine ⟨_, rfl, Nat.zero_le _, fun p3 z3 => ?_⟩
            have s5 := same_upd (o := .lst []) z3
            have e3 : upd H4 p3 (.lst []) p3 = some (.lst []) := upd_same
            generalize upd H4 p3 (.lst []) = H5 at s5 e3 ⊢
            have em' : gr.map (fun k : Nat => V.int ((k : Nat) : Int)) = (gr.map fun k : Nat => ((k : Nat) : Int)).map V.int := by
              rw [List.map_map]
              rfl
            rw [em'] at eM
            have s35 := s4.trans s5
            refine ⟨M, p3, _, rfl, rfl, s5 _ _ eM, e3, _, rfl, ?_⟩
            cases hg : gr with
            | cons k r =>
              rw [hg] at eM hlk
              refine iteT ⟨_, rfl, M, _, _, _, rfl, rfl, SqL.of (s5 _ _ eM), (show atI _ ((0 : Nat) : Int) = _ from atI_nat rfl), ?_⟩
              rw [show lackN x ta 0 = some k from hlk] at etl
              rw [etl] at h2
              exact (h2.same (s3.trans s35)).no (sa2.same (s3.trans s35)) rfl rfl (by show 2 ≤ 2; decide)
            | nil =>
              rw [hg] at hlk
              have hn : lackN x ta 0 = none := hlk
              rw [hn] at etl
              refine iteF ?_
              refine ⟨_, rfl, _, rfl, tr, qa, _, _, rfl, .inl (.inl (s35 _ _ etr)), .inl (.inl ((s3.trans s35) _ _ eqa)), lx.trans lt1.symm, by omega, fun H6 p6 s6 f6 ep6 => ?_⟩
              have ll := less_len lx lt1
              refine ⟨_, rfl, p6, qb, _, _, rfl, .inl (.inl ep6), .inl (.inl (((s3.trans s35).trans s6) _ _ eqb)), ll.trans lt2.symm, (by rw [show (minusL x ta).length = g from ll]; omega), fun H7 p7 s7 f7 ep7 => ?_⟩
              refine ⟨p7, plusZ (lessZ x ta) tp, _, _, _, rfl, s3.trans (s35.trans (s6.trans s7)), ep7, plus_len ll lt2, plus_nn (lackN_none (lx.trans lt1.symm) hn) tk2.3, ?_⟩
              rw [etl, show n - (i + 1) = j by omega]
          · rintro σ H3 ⟨tr, x, y8, y9, y10, rfl, s3, etr, lx, nx, etl⟩
            rw [Nat.sub_self, tradeL] at etl
            rw [etl] at h2
            have h2 : Told H2 st sl (.ref m) cv ds Q (keptO ds x ds.y) := h2
            have s03 := (s1.trans s2).trans s3
            refine ⟨_, rfl, _, rfl, _, rfl, st, _, _, _, rfl, rfl, SqL.of (s03 _ _ e1), (show atI _ ((2 : Nat) : Int) = _ from atI_nat rfl), ?_⟩
            exact ⟨st, sl, tr, u0, _, _, _, _, ds, rfl, sa2.same s3, nss, etr, s03 _ _ e4, lx.trans ok.ly.symm, by omega, hp, h2.same s3⟩
        cases hbk : back with
        | true =>
          rw [hbk] at hta htp
          have q1 : td.2 = ta := hta
          have q2 : td.1 = tp := htp
          refine ⟨_, rfl, true, rfl, iteT ?_⟩
          refine ⟨_, rfl, m, _, _, _, rfl, rfl, .inl (.inl (s1 _ _ em)), (show atI _ ((1 : Nat) : Int) = _ from atI_nat rfl), _, rfl, tt, _, _, _, rfl, rfl, .inl (.inl (s1 _ _ ett)), atI_nat hpv', pp, _, _, _, rfl, rfl, .inl (.inl (s1 _ _ epp)), (show atI _ ((1 : Nat) : Int) = _ from atI_nat rfl), ?_⟩
          refine ⟨_, rfl, m, _, _, _, rfl, rfl, .inl (.inl (s1 _ _ em)), (show atI _ ((1 : Nat) : Int) = _ from atI_nat rfl), _, rfl, tt, _, _, _, rfl, rfl, .inl (.inl (s1 _ _ ett)), atI_nat hpv', pp, _, _, _, rfl, rfl, .inl (.inl (s1 _ _ epp)), (show atI _ ((0 : Nat) : Int) = _ from atI_nat rfl), ?_⟩
          refine ⟨(by show 2 ≤ sizeLine; decide), fun p5 z5 => ?_⟩
          have s5 := same_upd (o := .tup [V.ref vg, V.ref ug]) z5
          refine ⟨p5, _, rfl, .inl (.inl upd_same), rfl, _, _, rfl, _, _, rfl, rfl, ?_⟩
          have rest := rest _ vg ug s5 (q1 ▸ (s1.trans s5) _ _ evg) (q2 ▸ (s1.trans s5) _ _ eug)
          rw [hbk] at rest
          exact rest
        | false =>
          rw [hbk] at hta htp
          have q1 : td.1 = ta := hta
          have q2 : td.2 = tp := htp
          refine ⟨_, rfl, false, rfl, iteF ?_⟩
          refine ⟨_, rfl, m, _, _, _, rfl, rfl, .inl (.inl (s1 _ _ em)), (show atI _ ((1 : Nat) : Int) = _ from atI_nat rfl), _, rfl, tt, _, _, _, rfl, rfl, .inl (.inl (s1 _ _ ett)), atI_nat hpv', ?_⟩
          refine ⟨pp, _, rfl, .inl (.inl (s1 _ _ epp)), rfl, _, _, rfl, _, _, rfl, rfl, ?_⟩
          have rest := rest _ ug vg (Same.refl _) (q1 ▸ s1 _ _ eug) (q2 ▸ s1 _ _ evg)
          rw [hbk] at rest
          exact rest

end
end Lb
set_option Elab.async false
set_option linter.all false
set_option maxRecDepth 100000
set_option maxHeartbeats 8000000
namespace Lb
open PySem PySem.Spec PyProof.Rows L2 RZ TL
section
variable {P : Program} {w : World} {K : PySem.W.Frag} {mg : Str → Option Value} {base : Heap}
theorem sc__law_done : FnScope ["_law_call", "e"] ["_law_call"] (defScope s__law_done) := ⟨rfl, rfl, rfl, by decide +kernel, rfl, by decide +kernel, by decide +kernel⟩
theorem gives_done {X : Cx} {g : Addr} {cs : ErrCs} {cdg : Value} {q : Str} (DD : Dist X.K (doneC cs)) (T : DoneT X.prog X.w X.K X.mg X.base cs) :
    LamX.GivesTo X ["_law_call", "e"] "_law_done" (defScope s__law_done) g cdg (defBody s__law_done) "_law_call" q (TMade (doneC cs)) := by
  intro f c' s H Q tl act hc h
  obtain ⟨T1, T2, T3, T4, T5, T6, T7, T8⟩ := T
  refine ⟨_, pss_one (ps_try_hds (X := (cxOf C8.CX0 X.prog X.w X.K X.mg X.base ["_law_call", "e"] "_law_done" (defScope s__law_done) g cdg X.A X.stack s H C8.E0).nox)
      (w := clW X.K (doneC cs))
      (tb := fun W D σ H => ∃ Ech : XK, (∀ cls d (σ' : L2.St) H', Ech cls d H' → σ'.length = 2 → W cls d σ' H') ∧ σ[0]? = some (some (.ref f)) ∧ H c' = some (LamX.CodeO c' q) ∧ tl Ech H (fun v H' => [V.str "ok", v].length ≤ sizeLine ∧ ∀ p, H' p = none → D.rt (.ref p) (upd H' p (.lst [.str "ok", v]))))
      rfl rfl (fun W pn xe tk _ => ?_)
      (hds_as sc__law_done.nd rfl rfl ⟨by rfl, by decide, .inl T1.gC⟩ (fun a ob cls d pn hz hf => pss_imp (pss_one (ps_ret (pe_lst (pa_cons pe_str (pa_cons (pe_xf T1.xf T1.no hz hf (pv 1)) pa_nil))))) ?s1)
      (hds_as sc__law_done.nd rfl rfl ⟨by rfl, by decide, .inl T2.gC⟩ (fun a ob cls d pn hz hf => pss_imp (pss_one (ps_ret (pe_lst (pa_cons pe_str (pa_cons (pe_xf T2.xf T2.no hz hf (pv 1)) pa_nil))))) ?s2)
      (hds_as sc__law_done.nd rfl rfl ⟨by rfl, by decide, .inl T3.gC⟩ (fun a ob cls d pn hz hf => pss_imp (pss_one (ps_ret (pe_lst (pa_cons pe_str (pa_cons (pe_xf T3.xf T3.no hz hf (pv 1)) pa_nil))))) ?s3)
      (hds_as sc__law_done.nd rfl rfl ⟨by rfl, by decide, .inl T4.gC⟩ (fun a ob cls d pn hz hf => pss_imp (pss_one (ps_ret (pe_lst (pa_cons pe_str (pa_cons (pe_xf T4.xf T4.no hz hf (pv 1)) pa_nil))))) ?s4)
      (hds_as sc__law_done.nd rfl rfl ⟨by rfl, by decide, .inl T5.gC⟩ (fun a ob cls d pn hz hf => pss_imp (pss_one (ps_ret (pe_lst (pa_cons pe_str (pa_cons (pe_xf T5.xf T5.no hz hf (pv 1)) pa_nil))))) ?s5)
      (hds_cons ⟨by rfl, by decide, .inl T6.gC⟩ (fun a ob cls d pn hz hf => pss_imp (pss_one (ps_ret (pe_lst (pa_cons pe_str pa_nil)))) ?s6)
      (hds_cons ⟨by rfl, by decide, .inl T7.gC⟩ (fun a ob cls d pn hz hf => pss_imp (pss_one (ps_ret (pe_lst (pa_cons pe_str pa_nil)))) ?s7)
      (hds_cons ⟨by rfl, by decide, .inl T8.gC⟩ (fun a ob cls d pn hz hf => pss_imp (pss_one (ps_ret (pe_lst (pa_cons pe_str pa_nil)))) ?s8)
              (hds_nil L2.takes0)))))))))), ?_⟩
  case s1 | s2 | s3 | s4 | s5 =>
    rintro D σ H' ⟨rfl, h1, dd, v, rfl, e, hp⟩
    exact ⟨_, h1 rfl, rfl, rfl, dd, _, v, rfl, e, rfl, (by show 2 ≤ sizeLine; decide), fun p z => hp p z⟩
  case s6 | s7 | s8 =>
    rintro D σ H' ⟨rfl, _, hp⟩
    exact ⟨(by show 1 ≤ sizeLine; decide), fun p z => hp p z⟩
  · refine ⟨fun pins s' σ H' D I h' => ?_⟩
    obtain ⟨Ech, hW, h1, h2, h3⟩ := h'
    have hp := fun p1 p2 => act (fun c d σ H => σ.length = 2 → W c d σ H) pn xe Ech p1 p2 (takes_len tk) (fun cls d σ' H' he hl => hW cls d σ' H' he hl)
    exact PSs.run (pss_one (ps_ret (pe_lst (pa_cons pe_str (pa_cons (hp _ _) pa_nil))))) pins s' σ H' D I ⟨h1, h2, h3⟩
  · exact ⟨clE _ Q, fun cls d σ' H' he hl => clW_in (D := ⟨_, Q, _, _⟩) DD he hl, rfl, hc, h⟩
theorem pe_lamDone {X : Cx} {cs : ErrCs} {c Pt : Addr} {TS : List (Addr × Str)} {params : Arguments} {body : Expr} {scope : Scope} {t : XK → TE} {p lpos pos : Pos} (D : Df X.K X.mg "_law_done" s__law_done) (DD : Dist X.K (doneC cs)) (T : DoneT X.prog X.w X.K X.mg X.base cs)
    (TB : LamX.TabB X.base X.mg c Pt) (hcode : X.env.code = .ref c) (hmT : (Pt, X.env.qual ++ "<lambda>") ∈ TS) (hu : ∀ p ∈ TS, p.1 = Pt → p.2 = X.env.qual ++ "<lambda>") (hr : Room 17 X.A) (hg : Gl X "_law_done")
    (L : LamX.LamS X.env.scope scope) (hdef : defaultsOf params X.env = ([], [])) (hbind : ∀ (q : Str) (cl : List (Str × Addr)) (pm cv ctv : Value), bindArgs (PySem.W.kla_fn "<lambda>" q params body scope cl pm cv ctv) ⟨[], []⟩ = pure [])
    (hbody : ∀ (A : Around) (outer : List Env) (s : Shared) (H : Hp) (E : XK) (f c' : Addr), Room 15 (A.deeper (LamX.lamEnv X scope s.heap.objs.size f c')) → PE (LamX.lamCx X A outer s H E scope f c') body (t E)) :
    PE X (.Call (.Name "_law_done" p) [.Lambda params body scope lpos] [] pos) (LamX.tLam TS (TMade (doneC cs)) t) := by
  obtain ⟨g, fd, F, m⟩ := D.ex
  have b := F.binds (ps := ["_law_call"]) (fun _ _ _ _ _ _ us hl => match us, hl with | [_], _ => rfl)
  have kp := F.kp
  obtain ⟨oc, od, kV, doc, pm, an, cdv, ct, osl, rfl, lk, hcd⟩ := F.ex
  exact LamX.pe_lamcall (Ng := ["_law_call", "e"]) hg m kp lk hcd b sc__law_done rfl (.inl rfl) (gives_done DD T) TB hcode hmT hu hr L hdef hbind hbody

end
end Lb
set_option Elab.async false
set_option linter.all false
set_option maxRecDepth 100000
set_option maxHeartbeats 8000000
namespace Lb
open PySem PySem.Spec PyProof.Rows L2 RZ TL
section
variable {P : Program} {w : World} {K : PySem.W.Frag} {mg : Str → Option Value} {base : Heap}
theorem sc__law_is_shown : FnScope ["_law_desk", "_law_state", "_law_found"] ["_law_desk", "_law_state"] (defScope s__law_is_shown) := ⟨rfl, rfl, rfl, by decide +kernel, rfl, by decide +kernel, by decide +kernel⟩
theorem own_shown {C CX : Addr} (D : Df K mg "_law_is_shown" s__law_is_shown) (B : Blt mg) (BC : BagC K mg C) (dcD : DskC K CX) (P_market : PropM P w K mg base CX "market" 1 (spFldV K "place")) (P_stock : PropM P w K mg base CX "stock" 1 (spFldV K "present")) (P_debt : PropM P w K mg base CX "debt" 1 (spFldV K "owed")) (P_version : PropM P w K mg base CX "version" 1 (spDLen K)) (P_settled : PropM P w K mg base CX "settled" 4 (spSettled K C)) (M_amounts : PropM P w K mg base C "amounts" 1 (spAmt C)) (M_dlen : OwnM P w K mg base CX "__len__" 1 ["self"] (spDLen K)) :
    OwnG P w K mg base "_law_is_shown" 6 ["_law_desk", "_law_state"] (spShown K C CX) := by
  refine ownG_of D sc__law_is_shown (fun _ _ _ _ _ _ us hl => match us, hl with | [_, _], _ => rfl) (fun vs H Q E h => ?_) (fun f cdv A outer s H vs Q E hgd hr h => ?_)
  · obtain ⟨_, _, _, _, _, _, _, _, _, _, _, rfl, _⟩ := h
    rfl
  · obtain ⟨a, dx, pl, st, sl, mv, cv, more, g, ts, ds, rfl, dc, da, sa, mk, mok, ok, hp, q⟩ := h
    have cD := dcD.cl
    have hud : (cxOf CX0 P w K mg base ["_law_desk", "_law_state", "_law_found"] "_law_is_shown" (defScope s__law_is_shown) f cdv A outer s H E).nox.A.units + 110 < cLine := by
      have := hr.un
      show (A.deeper _).units + 110 < cLine
      omega
    refine ⟨_, (pss_cons (ps_set (i := 2) sc__law_is_shown.nd rfl (.inl rfl) (pe_lst (pa_cons (pe_propM cD P_market (hr.mono (by omega)) (pv 0)) (pa_cons (pe_amt BC M_amounts (hr.mono (by omega)) (pe_propM cD P_stock (hr.mono (by omega)) (pv 0))) (pa_cons (pe_amt BC M_amounts (hr.mono (by omega)) (pe_propM cD P_debt (hr.mono (by omega)) (pv 0))) (pa_cons (pe_propM cD P_version (hr.mono (by omega)) (pv 0)) (pa_cons (pe_propM cD P_settled (hr.mono (by omega)) (pv 0)) (pa_cons (pe_callB (id := "len") (call_lenM M_dlen (hr.mono (by omega)) passX0) (by rfl) B.b_len PySem.boot_len (pa_cons (pv 0) pa_nil)) pa_nil))))))))
      (pss_one (ps_ret (pe_cmpR op_eq (pe_callB (id := "repr") (call_reprD hgd hud) (by rfl) B.b_repr PyProof.Rows.boot_repr (pa_cons (pv 2) pa_nil)) (pe_callB (id := "repr") (call_reprD hgd hud) (by rfl) B.b_repr PyProof.Rows.boot_repr (pa_cons (pe_lst (pa_cons (pe_ix ix_list (pv 1) pe_int (fun _ _ => rfl)) (pa_cons (pe_ix ix_list (pv 1) pe_int (fun _ _ => rfl)) (pa_cons (pe_ix ix_list (pv 1) pe_int (fun _ _ => rfl)) (pa_cons (pe_callB (id := "len") call_len_seq (by rfl) B.b_len PySem.boot_len (pa_cons (pe_ix ix_list (pv 1) pe_int (fun _ _ => rfl)) pa_nil)) (pa_cons (pe_cmpR op_eq (pe_callB (id := "sum") (cr_sumT rfl) (by rfl) B.b_sum (by decide +kernel) (pa_cons (pe_ix ix_list (pv 1) pe_int (fun _ _ => rfl)) pa_nil)) pe_int (nomark _)) (pa_cons (pe_callB (id := "len") call_len_seq (by rfl) B.b_len PySem.boot_len (pa_cons (pe_ix ix_list (pv 1) pe_int (fun _ _ => rfl)) pa_nil)) pa_nil))))))) pa_nil)) (nomark _))))), ?_⟩
    obtain ⟨b0, t0, o0, u0, ws, ea, hb0, ho0, ep, hpast⟩ := id da.ex
    obtain ⟨t1, u1, vs, e1, e2, e4, e5, hpv⟩ := id sa.ex
    have lw := hpast.length
    have lv := hpv.length
    -- found
    refine ⟨_, rfl, a, dx, _, rfl, ea, a, CX, dx, _, mv, rfl, ea, dc.cl, dc.n1, rfl, ?_⟩
    refine ⟨_, rfl, a, dx, _, rfl, ea, a, CX, dx, _, .ref b0, rfl, ea, dc.cl, dc.n2, rfl, rd_amt hb0 ?_⟩
    refine ⟨_, rfl, a, dx, _, rfl, ea, a, CX, dx, _, .ref o0, rfl, ea, dc.cl, dc.n3, rfl, rd_amt ho0 ?_⟩
    refine ⟨_, rfl, a, dx, _, rfl, ea, a, CX, dx, _, pl, rfl, ea, dc, rfl, _, ep, ?_⟩
    refine ⟨_, rfl, a, dx, _, rfl, ea, a, CX, dx, _, o0, u0, ds.y, rfl, ea, dc, rfl, ho0, ?_⟩
    refine ⟨_, rfl, a, dx, _, rfl, ea, a, CX, dx, _, pl, rfl, ea, dc, rfl, _, ep, ws.length, by omega, rfl, ?_⟩
    rw [lw]
    refine ⟨(by show 6 ≤ sizeLine; decide), fun p1 z1 => ?_⟩
    have s1 := same_upd (o := .lst [mv, V.ref t0, V.ref u0, V.int (ds.past.length : Int), V.bl (decide (ds.y.sum = 0)), V.int (ds.past.length : Int)]) z1
    have ep1 : upd H p1 (.lst [mv, V.ref t0, V.ref u0, V.int (ds.past.length : Int), V.bl (decide (ds.y.sum = 0)), V.int (ds.past.length : Int)]) p1 = some (.lst [mv, V.ref t0, V.ref u0, V.int (ds.past.length : Int), V.bl (decide (ds.y.sum = 0)), V.int (ds.past.length : Int)]) := upd_same
    generalize upd H p1 (.lst [mv, V.ref t0, V.ref u0, V.int (ds.past.length : Int), V.bl (decide (ds.y.sum = 0)), V.int (ds.past.length : Int)]) = H1 at s1 ep1 ⊢
    have okS := shown_ok mok ok hp
    have sh1 := fine_show _ okS.fi
    have sh2 := okS.shown (by omega)
    have dp : (shownD g ts ds).depth ≤ 100 := Nat.le_trans okS.dp (by omega)
    have dm1 : Dat (fun _ => True) H1 mv (mktD g ts) := (mk.dat (fun _ _ _ => trivial)).same s1
    refine ⟨_, rfl, fun _ => True, _, shownD g ts ds, rfl, .lst trivial ep1 (.cons dm1 (.cons (Dat.mkBag trivial (s1 _ _ hb0.tup)) (.cons (Dat.mkBag trivial (s1 _ _ ho0.tup)) (.cons (.int _) (.cons (.bl _) (.cons (.int _) .nil)))))), sh1, sh2, dp, ?_⟩
    refine ⟨_, rfl, st, _, _, _, rfl, rfl, SqL.of (s1 _ _ e1), (show atI _ ((0 : Nat) : Int) = _ from atI_nat rfl), ?_⟩
    refine ⟨_, rfl, st, _, _, _, rfl, rfl, SqL.of (s1 _ _ e1), (show atI _ ((1 : Nat) : Int) = _ from atI_nat rfl), ?_⟩
    refine ⟨_, rfl, st, _, _, _, rfl, rfl, SqL.of (s1 _ _ e1), (show atI _ ((2 : Nat) : Int) = _ from atI_nat rfl), ?_⟩
    refine ⟨_, rfl, st, _, _, _, rfl, rfl, SqL.of (s1 _ _ e1), (show atI _ ((3 : Nat) : Int) = _ from atI_nat rfl), sl, _, rfl, .inl (SqL.of (s1 _ _ e5)), ?_⟩
    refine ⟨_, rfl, st, _, _, _, rfl, rfl, SqL.of (s1 _ _ e1), (show atI _ ((2 : Nat) : Int) = _ from atI_nat rfl), u1, _, rfl, .inl (.inl (s1 _ _ e4)), rfl, ?_⟩
    refine ⟨_, rfl, st, _, _, _, rfl, rfl, SqL.of (s1 _ _ e1), (show atI _ ((3 : Nat) : Int) = _ from atI_nat rfl), sl, _, rfl, .inl (SqL.of (s1 _ _ e5)), ?_⟩
    have ed : decide (V.int ds.y.sum = V.int 0) = decide (ds.y.sum = 0) := decide_eq_decide.mpr ⟨fun h => V.int.inj h, fun h => by rw [h]⟩
    rw [ed, lv]
    refine ⟨(by show 6 ≤ sizeLine; decide), fun p2 z2 => ?_⟩
    have s2 := same_upd (o := .lst [mv, V.ref t1, V.ref u1, V.int (ds.past.length : Int), V.bl (decide (ds.y.sum = 0)), V.int (ds.past.length : Int)]) z2
    have ep2 : upd H1 p2 (.lst [mv, V.ref t1, V.ref u1, V.int (ds.past.length : Int), V.bl (decide (ds.y.sum = 0)), V.int (ds.past.length : Int)]) p2 = some (.lst [mv, V.ref t1, V.ref u1, V.int (ds.past.length : Int), V.bl (decide (ds.y.sum = 0)), V.int (ds.past.length : Int)]) := upd_same
    generalize upd H1 p2 (.lst [mv, V.ref t1, V.ref u1, V.int (ds.past.length : Int), V.bl (decide (ds.y.sum = 0)), V.int (ds.past.length : Int)]) = H2 at s2 ep2 ⊢
    have s02 := s1.trans s2
    refine ⟨fun _ => True, _, shownD g ts ds, rfl, .lst trivial ep2 (.cons (dm1.same s2) (.cons (Dat.mkBag trivial (s02 _ _ e2)) (.cons (Dat.mkBag trivial (s02 _ _ e4)) (.cons (.int _) (.cons (.bl _) (.cons (.int _) .nil)))))), sh1, sh2, dp, ?_⟩
    have qq := q H2 s02
    exact ⟨rfl, by simpa using qq⟩

end
end Lb
set_option Elab.async false
set_option linter.all false
set_option maxRecDepth 100000
set_option maxHeartbeats 8000000
namespace Lb
open PySem PySem.Spec PyProof.Rows L2 RZ TL
section
variable {P : Program} {w : World} {K : PySem.W.Frag} {mg : Str → Option Value} {base : Heap}
theorem sc__law_taken_back : FnScope ["_law_desk"] ["_law_desk"] (defScope s__law_taken_back) := ⟨rfl, rfl, rfl, by decide +kernel, rfl, by decide +kernel, by decide +kernel⟩
theorem own_takenB {C CX : Addr} {cs : ErrCs} (D : Df K mg "_law_taken_back" s__law_taken_back) (B : Blt mg) (cD : Cls K CX) (M_undo : OwnM P w K mg base CX "undo" 1 ["self"] (spUndo K C CX cs)) : OwnX P w K mg base "_law_taken_back" 2 ["_law_desk"] (spUndo K C CX cs) := by
  refine ownX_of D sc__law_taken_back (fun _ _ _ _ _ _ us hl => match us, hl with | [_], _ => rfl) (fun vs H Q E h => ?_) (fun f cdv A outer s H vs Q E hr h => ?_)
  · obtain ⟨_, _, _, _, _, _, rfl, _⟩ := h
    rfl
  · obtain ⟨a, dx, pl, mv, more, st, rfl, dc, da, mo, h⟩ := h
    obtain ⟨fu, fdu, M, F, bb⟩ := M_undo.ex
    refine ⟨_, (pss_cons (ps_if (pt_cmp (pc_notN (pe_meth0 (pv 0) cD M F (hr.mono (by omega)) bb .nil (passE (takes_of rfl rfl rfl rfl) (fun _ _ _ _ h => h))))) (pss_one (ps_ret pe_str)) pss_nil)
      (pss_one (ps_ret pe_non))), ?_⟩
    obtain ⟨b0, t0, o0, u0, ws, ea, hb0, ho0, ep, hpast⟩ := id da.ex
    refine ⟨_, rfl, a, dx, _, rfl, ea, mo.no (by decide) (by decide) (by decide) (by decide) (by decide), ?_⟩
    refine ⟨a, dx, pl, mv, more, st, rfl, dc, da, mo, ?_⟩
    unfold undoO at h ⊢
    cases hl : st.past.getLast? with
    | none =>
      rw [hl] at h
      exact h
    | some z =>
      rw [hl] at h
      intro H' ke d'
      exact ⟨_, rfl, iteF (h H' ke d')⟩

end
end Lb
set_option Elab.async false
set_option linter.all false
set_option maxRecDepth 100000
set_option maxHeartbeats 8000000
namespace Lb
open PySem PySem.Spec PyProof.Rows L2 RZ TL
section
variable {P : Program} {w : World} {K : PySem.W.Frag} {mg : Str → Option Value} {base : Heap}
theorem sc__law_deed : FnScope ["_law_deck_here", "_law_desk", "_law_state", "_law_way", "_law_many", "_law_row", "_law_k", "_law_is_back", "_law_often", "_law_due", "_law_found"] ["_law_deck_here", "_law_desk", "_law_state"] (defScope s__law_deed) := ⟨rfl, rfl, rfl, by decide +kernel, rfl, by decide +kernel, by decide +kernel⟩
theorem own_deed {C CX f c Pt : Addr} {cs : ErrCs} {cp : Bool} {TS : List (Addr × Str)} {oc : Value} {od an : Option Addr} {osl : Array (Option Value)} {kV doc pm ct : Value}
    (lk : K.lookup f = some ⟨oc, od, .func (PySem.W.fnOf "_law_deed" "_law_deed" (defArgs s__law_deed) (defBody s__law_deed) (defScope s__law_deed) .none kV doc pm an (.ref c) ct), osl⟩) (hcd : PySem.W.codeIn K (.ref c) "_law_deed" = true) (mf : mg "_law_deed" = some (.ref f)) (kp : PySem.W.keepIn K (.ref f) = true)
    (B : Blt mg) (TB : LamX.TabB base mg c Pt) (TF : TabFor TS Pt "_law_deed") (BC : BagC K mg C) (dc : DskC K CX) (DD : Dist K (doneC cs)) (T : DoneT P w K mg base cs) (Ddone : Df K mg "_law_done" s__law_done)
    (O__law_draw : Own P w K mg base "_law_draw" 1 ["_law_deck_here", "_law_many"] spDraw) (O__law_one : Own P w K mg base "_law_one" 2 ["_law_deck_here", "_law_items"] spOne) (O__law_bag : Own P w K mg base "_law_bag" 2 ["_law_deck_here", "_law_goods", "_law_most"] spBag)
    (O__law_tell : Own P w K mg base "_law_tell" 2 ["_law_state", "_law_k", "_law_is_back", "_law_often"] spTell) (O__law_borrowed : Own P w K mg base "_law_borrowed" 2 ["_law_state", "_law_row"] spBorrowed) (O__law_paid : Own P w K mg base "_law_paid" 2 ["_law_state", "_law_row"] spPaid) (O__law_undone : Own P w K mg base "_law_undone" 1 ["_law_state"] spUndone)
    (O__law_is_shown : OwnG P w K mg base "_law_is_shown" 6 ["_law_desk", "_law_state"] (spShown K C CX)) (O_taken : OwnX P w K mg base "_law_taken_back" 2 ["_law_desk"] (spUndo K C CX cs))
    (M_init : OwnM P w K mg base C "__init__" 3 ["self", "amounts"] (spInit K C cs.bag)) (M_trade : OwnMN P w K mg base CX "trade" 8 ["self", "k", "back", "times"] 1 ["back", "times"] (spDTrade K C CX cs)) (M_borrow : OwnM P w K mg base CX "borrow" 12 ["self", "bag"] (spBorrowO K C CX cs cp)) (M_pay : OwnM P w K mg base CX "pay" 8 ["self", "bag"] (spPayO K C CX cs)) :
    OwnG P w K mg base "_law_deed" 18 ["_law_deck_here", "_law_desk", "_law_state"] (spDeed K C CX TS cp) := by
  refine ownG_ofC lk hcd mf kp sc__law_deed (fun _ _ _ _ _ _ us hl => match us, hl with | [_, _, _], _ => rfl) (fun vs H Q E h => ?_) (fun A outer s H vs Q E hgd hr h => ?_)
  · obtain ⟨_, _, _, _, _, _, _, _, _, rfl, _⟩ := h
    rfl
  · obtain ⟨L, mv, cv, cap, more, g, ts, n, ds, rfl, wd, co, hcp, mok, ok, hp, hn, q⟩ := h
    have cD := dc.cl
    have hud : (cxOf CX0 P w K mg base ["_law_deck_here", "_law_desk", "_law_state", "_law_way", "_law_many", "_law_row", "_law_k", "_law_is_back", "_law_often", "_law_due", "_law_found"] "_law_deed" (defScope s__law_deed) f (.ref c) A outer s H E).nox.A.units + 110 < cLine := by
      have := hr.un
      show (A.deeper _).units + 110 < cLine
      omega
    refine ⟨_, (pss_cons (ps_par (i := 3) (j := 4) rfl sc__law_deed.nd rfl rfl (by decide) rfl rfl (pa_cons (pe_own O__law_draw (hr.mono (by omega)) (by rfl) (pa_cons (pv 0) (pa_cons pe_int pa_nil))) (pa_cons (pe_callB (id := "len") call_len_seq (by rfl) B.b_len PySem.boot_len (pa_cons (pe_ix ix_tup (pe_ix ix_list (pv 2) pe_int (fun _ _ => rfl)) pe_int (fun _ _ => rfl)) pa_nil)) pa_nil)) rfl)
      (pss_cons (ps_set (i := 5) sc__law_deed.nd rfl (.inr rfl) (pe_own O__law_bag (hr.mono (by omega)) (by rfl) (pa_cons (pv 0) (pa_cons (pe_ix ix_tup (pe_ix ix_list (pv 2) pe_int (fun _ _ => rfl)) pe_int (fun _ _ => rfl)) (pa_cons (pe_own O__law_one (hr.mono (by omega)) (by rfl) (pa_cons (pv 0) (pa_cons (pe_lst (pa_cons pe_int (pa_cons pe_int (pa_cons pe_int (pa_cons pe_int pa_nil))))) pa_nil))) pa_nil)))))
      (pss_cons (ps_if (pt_cmpR op_lt (pv 3) pe_int (nomark _)) (pss_cons (ps_set (i := 6) sc__law_deed.nd rfl (.inr rfl) (pe_own O__law_one (hr.mono (by omega)) (by rfl) (pa_cons (pv 0) (pa_cons (pe_op op_cat (pe_op op_rep (pe_listRg rfl (by rfl) B.b_list (prg_1 (by rfl) B.b_range (pv 4))) pe_int) (pe_lst (pa_cons (pv 4) (pa_cons (pe_un un_neg pe_int) (pa_cons pe_bl (pa_cons pe_non pa_nil)))))) pa_nil))))
      (pss_cons (ps_asg (pe_tup (pa_cons (pe_cmpR op_eq (pe_own O__law_draw (hr.mono (by omega)) (by rfl) (pa_cons (pv 0) (pa_cons pe_int pa_nil))) pe_int (nomark _)) (pa_cons (pe_own O__law_one (hr.mono (by omega)) (by rfl) (pa_cons (pv 0) (pa_cons (pe_lst (pa_cons pe_int (pa_cons pe_int (pa_cons pe_int (pa_cons pe_int (pa_cons pe_int (pa_cons pe_int (pa_cons pe_int (pa_cons pe_int (pa_cons pe_bl pa_nil)))))))))) pa_nil))) pa_nil))) (pg_tup rfl (pgs_cons (pg_name (i := 7) sc__law_deed.nd rfl (.inr rfl)) (pgs_cons (pg_name (i := 8) sc__law_deed.nd rfl (.inr rfl)) pgs_nil))))
      (pss_cons (ps_set (i := 9) sc__law_deed.nd rfl (.inl rfl) (pe_own O__law_tell (hr.mono (by omega)) (by rfl) (pa_cons (pv 2) (pa_cons (pv 6) (pa_cons (pv 7) (pa_cons (pv 8) pa_nil))))))
      (pss_cons (ps_set (i := 10) sc__law_deed.nd rfl (.inl rfl) (pe_lamDone Ddone DD T TB rfl TF.mem TF.one (hr.mono (by omega)) (by rfl) (LamX.lamS_by (by show LamX.lamSB (defScope s__law_deed) _ = true; decide +kernel)) (by rfl) (fun _ _ _ _ _ => rfl) (fun A outer s H E f c' hr' => pe_methNX (pv 1) cD M_trade (hr'.mono (by omega)) (passes_call (takes_of rfl rfl rfl rfl) (fun _ _ _ _ h => h)) (pa_cons (pv 6) pa_nil) (pk_cons (pv 7) (pk_cons (pv 8) pk_nil)))))
      (pss_one (ps_ret (pe_and (pe_cmpR op_eq (pe_callB (id := "repr") (call_reprD hgd hud) (by rfl) B.b_repr PyProof.Rows.boot_repr (pa_cons (pv 10) pa_nil)) (pe_callB (id := "repr") (call_reprD hgd hud) (by rfl) B.b_repr PyProof.Rows.boot_repr (pa_cons (pv 9) pa_nil)) (nomark _)) (pe_one (pe_ownG O__law_is_shown hgd (hr.mono (by omega)) (by rfl) (pa_cons (pv 1) (pa_cons (pv 2) pa_nil))))))))))) pss_nil)
      (pss_cons (ps_if (pt_cmpR op_lt (pv 3) pe_int (nomark _)) (pss_cons (ps_set (i := 9) sc__law_deed.nd rfl (.inl rfl) (pe_own O__law_borrowed (hr.mono (by omega)) (by rfl) (pa_cons (pv 2) (pa_cons (pv 5) pa_nil))))
      (pss_one (ps_ret (pe_and (pe_cmpR op_eq (pe_callB (id := "repr") (call_reprD hgd hud) (by rfl) B.b_repr PyProof.Rows.boot_repr (pa_cons (pe_lamDone Ddone DD T TB rfl TF.mem TF.one (hr.mono (by omega)) (by rfl) (LamX.lamS_by (by show LamX.lamSB (defScope s__law_deed) _ = true; decide +kernel)) (by rfl) (fun _ _ _ _ _ => rfl) (fun A outer s H E f c' hr' => pe_methX (pv 1) cD M_borrow (hr'.mono (by omega)) (passes_call (takes_of rfl rfl rfl rfl) (fun _ _ _ _ h => h)) (pa_cons (show PE _ _ (tBag K C cs.bag L2.E0 (tCons (tVar 5) tNil)) from pe_bagX BC M_init (hr'.mono (by omega)) passX0 (by rfl) (pa_cons (pv 5) pa_nil)) pa_nil))) pa_nil)) (pe_callB (id := "repr") (call_reprD hgd hud) (by rfl) B.b_repr PyProof.Rows.boot_repr (pa_cons (pv 9) pa_nil)) (nomark _)) (pe_one (pe_ownG O__law_is_shown hgd (hr.mono (by omega)) (by rfl) (pa_cons (pv 1) (pa_cons (pv 2) pa_nil)))))))) pss_nil)
      (pss_cons (ps_if (pt_cmpR op_lt (pv 3) pe_int (nomark _)) (pss_cons (ps_set (i := 5) sc__law_deed.nd rfl (.inr rfl) (pe_ifExp (pt_cmpR op_eq (pe_own O__law_draw (hr.mono (by omega)) (by rfl) (pa_cons (pv 0) (pa_cons pe_int pa_nil))) pe_int (nomark _)) (pe_ix ix_list (pv 2) pe_int (fun _ _ => rfl)) (pv 5)))
      (pss_cons (ps_set (i := 9) sc__law_deed.nd rfl (.inl rfl) (pe_own O__law_paid (hr.mono (by omega)) (by rfl) (pa_cons (pv 2) (pa_cons (pv 5) pa_nil))))
      (pss_one (ps_ret (pe_and (pe_cmpR op_eq (pe_callB (id := "repr") (call_reprD hgd hud) (by rfl) B.b_repr PyProof.Rows.boot_repr (pa_cons (pe_lamDone Ddone DD T TB rfl TF.mem TF.one (hr.mono (by omega)) (by rfl) (LamX.lamS_by (by show LamX.lamSB (defScope s__law_deed) _ = true; decide +kernel)) (by rfl) (fun _ _ _ _ _ => rfl) (fun A outer s H E f c' hr' => pe_methX (pv 1) cD M_pay (hr'.mono (by omega)) (passes_call (takes_of rfl rfl rfl rfl) (fun _ _ _ _ h => h)) (pa_cons (show PE _ _ (tBag K C cs.bag L2.E0 (tCons (tVar 5) tNil)) from pe_bagX BC M_init (hr'.mono (by omega)) passX0 (by rfl) (pa_cons (pv 5) pa_nil)) pa_nil))) pa_nil)) (pe_callB (id := "repr") (call_reprD hgd hud) (by rfl) B.b_repr PyProof.Rows.boot_repr (pa_cons (pv 9) pa_nil)) (nomark _)) (pe_one (pe_ownG O__law_is_shown hgd (hr.mono (by omega)) (by rfl) (pa_cons (pv 1) (pa_cons (pv 2) pa_nil))))))))) pss_nil)
      (pss_cons (ps_set (i := 9) sc__law_deed.nd rfl (.inl rfl) (pe_own O__law_undone (hr.mono (by omega)) (by rfl) (pa_cons (pv 2) pa_nil)))
      (pss_one (ps_ret (pe_and (pe_cmpR op_eq (pe_callB (id := "repr") (call_reprD hgd hud) (by rfl) B.b_repr PyProof.Rows.boot_repr (pa_cons (pe_lamDone Ddone DD T TB rfl TF.mem TF.one (hr.mono (by omega)) (by rfl) (LamX.lamS_by (by show LamX.lamSB (defScope s__law_deed) _ = true; decide +kernel)) (by rfl) (fun _ _ _ _ _ => rfl) (fun A outer s H E f c' hr' => pe_ownE O_taken (hr'.mono (by omega)) (passes_call (takes_of rfl rfl rfl rfl) (fun _ _ _ _ h => h)) (by rfl) (pa_cons (pv 1) pa_nil))) pa_nil)) (pe_callB (id := "repr") (call_reprD hgd hud) (by rfl) B.b_repr PyProof.Rows.boot_repr (pa_cons (pv 9) pa_nil)) (nomark _)) (pe_one (pe_ownG O__law_is_shown hgd (hr.mono (by omega)) (by rfl) (pa_cons (pv 1) (pa_cons (pv 2) pa_nil))))))))))))), ?_⟩
    have g1 := mok.one
    have g4 := mok.four
    -- way, many
    refine ⟨_, rfl, L.d, L.cc, L.r, _, 9, rfl, wd.dk, by omega, by omega, by omega, fun H1 way hway dk1 k1 => ?_⟩
    have wd1 := wd.draw k1 dk1
    obtain ⟨m, tt, tvs, rfl, em1, ett1, htr1⟩ := id wd1.mv_
    obtain ⟨t1, u1, vs1, e11, e21, e41, e51, hpv1⟩ := id wd1.sa.ex
    have ltr := htr1.length
    refine ⟨_, rfl, L.st, _, _, _, rfl, rfl, SqL.of e11, (show atI _ ((0 : Nat) : Int) = _ from atI_nat rfl), m, _, _, _, rfl, rfl, .inl (.inl em1), (show atI _ ((1 : Nat) : Int) = _ from atI_nat rfl), tt, _, rfl, .inr (.inl (.inl ett1)), _, _, rfl, ?_⟩
    -- row
    refine ⟨_, rfl, _, rfl, L.st, _, _, _, rfl, rfl, SqL.of e11, (show atI _ ((0 : Nat) : Int) = _ from atI_nat rfl), m, _, _, _, rfl, rfl, .inl (.inl em1), (show atI _ ((0 : Nat) : Int) = _ from atI_nat rfl), ?_⟩
    refine ⟨_, rfl, (by show 4 ≤ sizeLine; decide), fun L2 hL2 => ?_⟩
    have s2 := same_upd (o := .lst [V.int 1, V.int 1, V.int 2, V.int 3]) hL2
    have e2 : upd H1 L2 (.lst [V.int 1, V.int 1, V.int 2, V.int 3]) L2 = some (.lst [V.int 1, V.int 1, V.int 2, V.int 3]) := upd_same
    have ndL2 := dk1.nd hL2
    generalize upd H1 L2 (.lst [V.int 1, V.int 1, V.int 2, V.int 3]) = H2 at s2 e2 ⊢
    have wd2 := wd1.same s2
    refine ⟨L.d, L.cc, L.r, L2, _, _, rfl, wd2.dk, by omega, e2, ndL2.1, ndL2.2.1, (by show 0 < 4; decide), (by show 4 ≤ 1000; decide), fun H3 j3 m3 hm3 dk3 k3 => ?_⟩
    obtain ⟨mm, rfl, hmm⟩ : ∃ mm : Nat, m3 = V.int (mm : Int) ∧ mm ≤ 3 := by
      match j3, hm3 with
      | 0, h => cases h; exact ⟨1, rfl, by omega⟩
      | 1, h => cases h; exact ⟨1, rfl, by omega⟩
      | 2, h => cases h; exact ⟨2, rfl, by omega⟩
      | 3, h => cases h; exact ⟨3, rfl, by omega⟩
    have wd3 := wd2.draw k3 dk3
    refine ⟨L.d, L.cc, L.r, _, g, mm, rfl, wd3.dk, by omega, by omega, by omega, fun H4 pr z lz hz f4 e4 dk4 k4 => ?_⟩
    have wd4 := wd3.draw k4 dk4
    have hz0 : ∀ v ∈ z, 0 ≤ v := fun v hv => (hz v hv).1
    have zok : BgOk z := ⟨by omega, by omega, hz0⟩
    clear em1 ett1 htr1 e11 e21 e41 e51 hpv1
    have m4 := mok.many
    refine ⟨_, rfl, _, _, rfl, rfl, _, rfl, ?_⟩
    by_cases hw : (way : Int) < 4
    · rw [decide_eq_true hw]
      refine iteT ?_
      -- k
      refine ⟨_, rfl, _, rfl, _, rfl, .of_le (by omega) (by omega) (by omega) (by omega), fun q5 z5 => ?_⟩
      have s5 := same_upd (o := .lst (rgV 0 (tvs.length : Int))) z5
      have e5 : upd H4 q5 (.lst (rgV 0 (tvs.length : Int))) q5 = some (.lst (rgV 0 (tvs.length : Int))) := upd_same
      generalize upd H4 q5 (.lst (rgV 0 (tvs.length : Int))) = H5 at s5 e5 ⊢
      have lrg : (rgV 0 (tvs.length : Int)).length = tvs.length := by rw [rgV_length]; omega
      refine ⟨q5, 3, _, rfl, rfl, e5, by decide, by decide, (by rw [lrg, sizeLine_eq]; show tvs.length * 3 ≤ _; omega), fun q6 z6 => ?_⟩
      have s6 := same_upd (o := .lst (List.replicate (3 : Int).toNat (rgV 0 (tvs.length : Int))).flatten) z6
      have e6 : upd H5 q6 (.lst (List.replicate (3 : Int).toNat (rgV 0 (tvs.length : Int))).flatten) q6 = some (.lst (List.replicate (3 : Int).toNat (rgV 0 (tvs.length : Int))).flatten) := upd_same
      generalize upd H5 q6 (.lst (List.replicate (3 : Int).toNat (rgV 0 (tvs.length : Int))).flatten) = H6 at s6 e6 ⊢
      refine ⟨_, rfl, _, rfl, (by show 4 ≤ sizeLine; decide), fun q7 z7 => ?_⟩
      have s7 := same_upd (o := .lst [V.int (tvs.length : Int), V.int (-1), V.bl true, V.non]) z7
      have e7 : upd H6 q7 (.lst [V.int (tvs.length : Int), V.int (-1), V.bl true, V.non]) q7 = some (.lst [V.int (tvs.length : Int), V.int (-1), V.bl true, V.non]) := upd_same
      generalize upd H6 q7 (.lst [V.int (tvs.length : Int), V.int (-1), V.bl true, V.non]) = H7 at s7 e7 ⊢
      refine ⟨q6, q7, _, _, rfl, rfl, s7 _ _ e6, e7, (by have h9 := rg3_len tvs.length; rw [sizeLine_eq]; show ((List.replicate (3 : Int).toNat (rgV 0 (tvs.length : Int))).flatten).length + 4 ≤ _; omega), fun q8 z8 => ?_⟩
      have s8 := same_upd (o := .lst ((List.replicate (3 : Int).toNat (rgV 0 (tvs.length : Int))).flatten ++ [V.int (tvs.length : Int), V.int (-1), V.bl true, V.non])) z8
      have e8 : upd H7 q8 (.lst ((List.replicate (3 : Int).toNat (rgV 0 (tvs.length : Int))).flatten ++ [V.int (tvs.length : Int), V.int (-1), V.bl true, V.non])) q8 = some (.lst ((List.replicate (3 : Int).toNat (rgV 0 (tvs.length : Int))).flatten ++ [V.int (tvs.length : Int), V.int (-1), V.bl true, V.non])) := upd_same
      generalize upd H7 q8 (.lst ((List.replicate (3 : Int).toNat (rgV 0 (tvs.length : Int))).flatten ++ [V.int (tvs.length : Int), V.int (-1), V.bl true, V.non])) = H8 at s8 e8 ⊢
      have s48 := ((s5.trans s6).trans s7).trans s8
      have wd8 := wd4.same s48
      have nd8 := (wd4.same ((s5.trans s6).trans s7)).dk.nd z8
      have l8 : ((List.replicate (3 : Int).toNat (rgV 0 (tvs.length : Int))).flatten ++ [V.int (tvs.length : Int), V.int (-1), V.bl true, V.non]).length = 3 * tvs.length + 4 := by rw [List.length_append, rg3_len]; rfl
      refine ⟨L.d, L.cc, L.r, q8, _, _, rfl, wd8.dk, by omega, e8, nd8.1, nd8.2.1, by rw [l8]; omega, by rw [l8]; omega, fun H9 j9 kv hkv dk9 k9 => ?_⟩
      obtain ⟨⟨kz, hkz⟩, skv⟩ := draw_k (by omega) (List.mem_of_getElem? hkv)
      have wd9 := wd8.draw k9 dk9
      -- is_back, often
      refine ⟨_, rfl, L.d, L.cc, L.r, _, 2, rfl, wd9.dk, by omega, by omega, by omega, fun H10 vb hvb dk10 k10 => ?_⟩
      have wd10 := wd9.draw k10 dk10
      refine ⟨rfl, ?_⟩
      generalize decide (V.int (vb : Int) = V.int 1) = back
      refine ⟨_, rfl, (by show 9 ≤ sizeLine; decide), fun q11 z11 => ?_⟩
      have s11 := same_upd (o := .lst [V.int 1, V.int 1, V.int 1, V.int 2, V.int 3, V.int 9, V.int 0, V.int 10, V.bl true]) z11
      have e11 : upd H10 q11 (.lst [V.int 1, V.int 1, V.int 1, V.int 2, V.int 3, V.int 9, V.int 0, V.int 10, V.bl true]) q11 = some (.lst [V.int 1, V.int 1, V.int 1, V.int 2, V.int 3, V.int 9, V.int 0, V.int 10, V.bl true]) := upd_same
      generalize upd H10 q11 (.lst [V.int 1, V.int 1, V.int 1, V.int 2, V.int 3, V.int 9, V.int 0, V.int 10, V.bl true]) = H11 at s11 e11 ⊢
      have nd11 := dk10.nd z11
      have wd11 := wd10.same s11
      refine ⟨L.d, L.cc, L.r, q11, _, _, rfl, wd11.dk, by omega, e11, nd11.1, nd11.2.1, (by show 0 < 9; decide), (by show 9 ≤ 1000; decide), fun H12 j12 tv htv dk12 k12 => ?_⟩
      obtain ⟨⟨tz, htz⟩, stv⟩ := draw_t (List.mem_of_getElem? htv)
      have wd12 := wd11.draw k12 dk12
      refine ⟨(by show 2 ≤ sizeLine; decide), fun q13 z13 => ?_⟩
      have s13 := same_upd (o := .tup [V.bl back, tv]) z13
      have e13 : upd H12 q13 (.tup [V.bl back, tv]) q13 = some (.tup [V.bl back, tv]) := upd_same
      generalize upd H12 q13 (.tup [V.bl back, tv]) = H13 at s13 e13 ⊢
      have wd13 := wd12.same s13
      refine ⟨q13, _, rfl, .inl (.inl e13), rfl, _, _, rfl, _, _, rfl, rfl, ?_⟩
      -- due
      refine ⟨_, rfl, _, rfl, _, rfl, _, rfl, L.st, L.sl, _, _, kv, tv, kz, tz, back, g, ts, ds, rfl, hkz, htz, wd13.sa, wd13.sep.s1, wd13.mv_, mok, ok, by omega, fun H14 p14 ke14 sa14 z14 e14 => ?_⟩
      have wd14 := wd13.kept ke14 sa14
      have sm := small_trade (kz := kz) (tz := tz) (back := back) ok mok (by omega) skv stv
      have dok := tradeO_ok (kv := kv) (tv := tv) (kz := kz) (tz := tz) (back := back) ok mok
      have dln := trade_len (ts := ts) (s := ds) (kv := kv) (tv := tv) (kz := kz) (tz := tz) (back := back)
      refine ⟨wd14.tb, fun H15 ex15 tb15 => ?_⟩
      have wd15 := wd14.lam ex15 tb15
      have e15 : H15 p14 = some (.lst (tradeO ts ds kv tv kz tz back).vals) := ex15 _ _ e14 fun _ z => nomatch z
      obtain ⟨b15, t15, o15, u15, ws15, ea15, _, _, ep15, _⟩ := id wd15.da.ex
      obtain ⟨_, _, _, _, _, _, _, _, ep13, _⟩ := id wd13.da.ex
      have nl : p14 ≠ L.pl := ne_of_none' ep13 z14
      have na : p14 ≠ L.a := fun z => by rw [z, ea15] at e15; cases e15
      refine ⟨_, rfl, L.a, L.dx, _, rfl, ea15, co.more.no (by decide) (by decide) (by decide) (by decide) (by decide), _, rfl, _, rfl, _, rfl, rfl, rfl, ?_⟩
      refine ⟨L.a, L.dx, L.pl, _, kv, tv, kz, tz, back, more, g, ts, ds, rfl, hkz, htz, dc, wd15.da, co.more, wd15.mv_, mok, ok, by omega, meet_done wd15.da fun H16 p16 ke16 d16 n1 n2 e16 => ?_⟩
      have wd16 := wd15.desk ke16 d16
      have e16' := ke16 _ _ na nl e15
      obtain ⟨f1, f2⟩ := two_told e16 e16' (fun R => smalls_dats sm)
      have tok := told_ok sm
      have sh1 := fine_show _ tok.fi
      have sh2 := tok.shown (by omega)
      have sh3 : (PyData.list ((tradeO ts ds kv tv kz tz back).vals.map vD)).depth ≤ 100 := Nat.le_trans tok.dp (by omega)
      refine ⟨_, rfl, fun _ => True, _, _, rfl, f1, sh1, sh2, sh3, ?_⟩
      refine ⟨_, rfl, fun _ => True, _, _, rfl, f2, sh1, sh2, sh3, ?_⟩
      refine eq_sameS ⟨_, rfl, iteT ⟨_, rfl, _, rfl, ?_⟩⟩
      refine ⟨L.a, L.dx, L.pl, L.st, L.sl, _, _, more, g, ts, _, rfl, dc, wd16.da, wd16.sa, wd16.mv_, mok, dok, by omega, fun H17 s17 => ?_⟩
      exact q H17 _ ((wd16.same s17).mono (by omega)) dok dln (.trade kv tv kz tz back)
    rw [decide_eq_false hw]
    refine iteF ?_
    refine ⟨_, rfl, _, _, rfl, rfl, _, rfl, ?_⟩
    by_cases hw6 : (way : Int) < 6
    · rw [decide_eq_true hw6]
      refine iteT ?_
      -- due
      refine ⟨_, rfl, _, rfl, L.st, L.sl, _, _, _, g, ts, some z, cap, ds, rfl, wd4.sa, wd4.sep.s1, wd4.mv_, ⟨pr, rfl, e4, by omega⟩, (fun w hw => by cases hw; exact hz0), ?_, g4, ok, by omega, fun H14 p14 ke14 sa14 z14 e14 => ?_⟩
      · cases cap with
        | none => exact co.2
        | some c => exact co.2
      have wd14 := wd4.kept ke14 sa14
      have sm := small_borrow (cap := cap) (row := some z) ok g4 (by omega)
      have dok := borrow_ok (cap := cap) (row := some z) ok (fun w hw => by cases hw; exact hz0)
      have dln := borrow_len (g := g) (cap := cap) (s := ds) (row := some z)
      refine ⟨wd14.tb, fun H15 ex15 tb15 => ?_⟩
      have wd15 := wd14.lam ex15 tb15
      have e15 : H15 p14 = some (.lst (borrowO g cap ds (some z)).vals) := ex15 _ _ e14 fun _ z => nomatch z
      obtain ⟨b15, t15, o15, u15, ws15, ea15, _, _, ep15, _⟩ := id wd15.da.ex
      obtain ⟨_, _, _, _, _, _, _, _, ep13, _⟩ := id wd4.da.ex
      have nl : p14 ≠ L.pl := ne_of_none' ep13 z14
      have na : p14 ≠ L.a := fun z => by rw [z, ea15] at e15; cases e15
      have er15 : H15 pr = some (.tup (z.map V.int)) := by
        obtain ⟨_, _, _, est, _, _, esl, _⟩ := id wd4.sa.ex
        exact (KC.extN (C := 0) ex15).tup ((KC.lists (C := 0) est esl ke14).tup e4)
      refine ⟨_, rfl, L.a, L.dx, _, rfl, ea15, co.more.no (by decide) (by decide) (by decide) (by decide) (by decide), _, rfl, ?_⟩
      have no : ¬ mkB (bagD z) = false := by rw [mkB_ok zok]; exact fun z => nomatch z
      refine ⟨_, rfl, .inl ⟨fun _ => True, _, Dat.mkBag trivial er15, by rw [List.length_map]; omega, fun _ H16 px dpx s16 f16 epx => ?_, fun hm => absurd hm no⟩⟩
      have wd16 := wd15.same s16
      refine ⟨L.a, L.dx, L.pl, .ref px, _, _, cap, more, g, ds, rfl, dc, wd16.da, co, hcp, g1, g4, ok, by omega, .inl ⟨px, pr, z, rfl, ⟨⟨dpx, epx⟩, s16 _ _ er15⟩, zok, meet_done wd16.da fun H17 p17 ke17 d17 n1 n2 e17 => ?_⟩⟩
      have wd17 := wd16.desk ke17 d17
      have e17' := ke17 _ _ na nl (s16 _ _ e15)
      obtain ⟨f1, f2⟩ := two_told e17 e17' (fun R => smalls_dats sm)
      have tok := told_ok sm
      have sh1 := fine_show _ tok.fi
      have sh2 := tok.shown (by omega)
      have sh3 : (PyData.list ((borrowO g cap ds (some z)).vals.map vD)).depth ≤ 100 := Nat.le_trans tok.dp (by omega)
      refine ⟨fun _ => True, _, _, rfl, f1, sh1, sh2, sh3, ?_⟩
      refine ⟨_, rfl, fun _ => True, _, _, rfl, f2, sh1, sh2, sh3, ?_⟩
      refine eq_sameS ⟨_, rfl, iteT ⟨_, rfl, _, rfl, ?_⟩⟩
      refine ⟨L.a, L.dx, L.pl, L.st, L.sl, _, _, more, g, ts, _, rfl, dc, wd17.da, wd17.sa, wd17.mv_, mok, dok, by omega, fun H18 s18 => ?_⟩
      exact q H18 _ ((wd17.same s18).mono (by omega)) dok dln (.borrow z hz0)
    rw [decide_eq_false hw6]
    refine iteF ?_
    refine ⟨_, rfl, _, _, rfl, rfl, _, rfl, ?_⟩
    by_cases hw8 : (way : Int) < 8
    · rw [decide_eq_true hw8]
      refine iteT (seq_in fun DD n1 n2 n3 n4 => ?_)
      have rest : ∀ (H4 : Hp) (pr : Addr) (z : List Int), Wd K C CX H4 L TS (.ref m) cv more g ts (n + 12) ds ds → H4 pr = some (.tup (z.map V.int)) → z.length = g → (∀ v ∈ z, 0 ≤ v) → DD.nx [some (.ref L.d), some (.ref L.a), some (.ref L.st), some (.int (way : Int)), some (.int (tvs.length : Int)), some (.ref pr), none, none, none, none, none] H4 := by
        rw [n1]
        clear n1 n2 n3 n4 zok hz0 hz lz e4 wd4 dk4 k4
        intro H4 pr z wd4 e4 lz hz0
        have zok : BgOk z := ⟨by omega, by omega, hz0⟩
        refine ⟨_, rfl, _, rfl, L.st, L.sl, _, _, _, g, ts, some z, ds, rfl, wd4.sa, wd4.sep.s1, wd4.mv_, ⟨pr, rfl, e4, by omega⟩, (fun w hw => by cases hw; exact hz0), g4, ok, by omega, fun H14 p14 ke14 sa14 z14 e14 => ?_⟩
        have wd14 := wd4.kept ke14 sa14
        have sm := small_pay (row := some z) ok g4 (by omega)
        have dok := pay_ok (row := some z) ok
        have dln := pay_len (g := g) (s := ds) (row := some z)
        refine ⟨wd14.tb, fun H15 ex15 tb15 => ?_⟩
        have wd15 := wd14.lam ex15 tb15
        have e15 : H15 p14 = some (.lst (payO g ds (some z)).vals) := ex15 _ _ e14 fun _ z => nomatch z
        obtain ⟨b15, t15, o15, u15, ws15, ea15, _, _, ep15, _⟩ := id wd15.da.ex
        obtain ⟨_, _, _, _, _, _, _, _, ep13, _⟩ := id wd4.da.ex
        have nl : p14 ≠ L.pl := ne_of_none' ep13 z14
        have na : p14 ≠ L.a := fun z => by rw [z, ea15] at e15; cases e15
        have er15 : H15 pr = some (.tup (z.map V.int)) := by
          obtain ⟨_, _, _, est, _, _, esl, _⟩ := id wd4.sa.ex
          exact (KC.extN (C := 0) ex15).tup ((KC.lists (C := 0) est esl ke14).tup e4)
        refine ⟨_, rfl, L.a, L.dx, _, rfl, ea15, co.more.no (by decide) (by decide) (by decide) (by decide) (by decide), _, rfl, ?_⟩
        have no : ¬ mkB (bagD z) = false := by rw [mkB_ok zok]; exact fun z => nomatch z
        refine ⟨_, rfl, .inl ⟨fun _ => True, _, Dat.mkBag trivial er15, by rw [List.length_map]; omega, fun _ H16 px dpx s16 f16 epx => ?_, fun hm => absurd hm no⟩⟩
        have wd16 := wd15.same s16
        refine ⟨L.a, L.dx, L.pl, .ref px, _, _, cap, more, g, ds, rfl, dc, wd16.da, co, g1, g4, ok, by omega, .inl ⟨px, pr, z, rfl, ⟨⟨dpx, epx⟩, s16 _ _ er15⟩, zok, meet_done wd16.da fun H17 p17 ke17 d17 n1 n2 e17 => ?_⟩⟩
        have wd17 := wd16.desk ke17 d17
        have e17' := ke17 _ _ na nl (s16 _ _ e15)
        obtain ⟨f1, f2⟩ := two_told e17 e17' (fun R => smalls_dats sm)
        have tok := told_ok sm
        have sh1 := fine_show _ tok.fi
        have sh2 := tok.shown (by omega)
        have sh3 : (PyData.list ((payO g ds (some z)).vals.map vD)).depth ≤ 100 := Nat.le_trans tok.dp (by omega)
        refine ⟨fun _ => True, _, _, rfl, f1, sh1, sh2, sh3, ?_⟩
        refine ⟨_, rfl, fun _ => True, _, _, rfl, f2, sh1, sh2, sh3, ?_⟩
        refine eq_sameS ⟨_, rfl, iteT ⟨_, rfl, _, rfl, ?_⟩⟩
        refine ⟨L.a, L.dx, L.pl, L.st, L.sl, _, _, more, g, ts, _, rfl, dc, wd17.da, wd17.sa, wd17.mv_, mok, dok, by omega, fun H18 s18 => ?_⟩
        exact q H18 _ ((wd17.same s18).mono (by omega)) dok dln (.pay z hz0)
      refine ⟨_, rfl, L.d, L.cc, L.r, _, 3, rfl, wd4.dk, by omega, by omega, by omega, fun H5 v5 hv5 dk5 k5 => ⟨rfl, _, rfl, ?_⟩⟩
      have wd5 := wd4.draw k5 dk5
      refine ite2 (fun _ => ?_) (fun _ => ?_)
      · obtain ⟨t5, u5, _, est, _, eu5, _, _⟩ := id wd5.sa.ex
        refine ⟨_, rfl, L.st, _, _, _, rfl, rfl, SqL.of est, (show atI _ ((2 : Nat) : Int) = _ from atI_nat rfl), ?_⟩
        exact rest H5 u5 ds.y (wd5.mono (by omega)) eu5 ok.ly (fun v hv => (ok.ay v hv).1)
      · exact ⟨_, rfl, rest H5 pr z (wd5.mono (by omega)) ((KC.kp (C := 0) wd4.dk k5).tup e4) lz hz0⟩
    rw [decide_eq_false hw8]
    refine iteF ?_
    refine ⟨_, rfl, L.st, L.sl, _, _, ds, rfl, wd4.sa, wd4.sep.s1, fun H14 p14 ke14 sa14 z14 e14 => ?_⟩
    have wd14 := wd4.kept ke14 sa14
    have sm := small_undo (s := ds)
    have dok := undo_ok ok
    have dln := undo_len (s := ds)
    refine ⟨wd14.tb, fun H15 ex15 tb15 => ?_⟩
    have wd15 := wd14.lam ex15 tb15
    have e15 : H15 p14 = some (.lst (undoO ds).vals) := ex15 _ _ e14 fun _ z => nomatch z
    obtain ⟨b15, t15, o15, u15, ws15, ea15, _, _, ep15, _⟩ := id wd15.da.ex
    obtain ⟨_, _, _, _, _, _, _, _, ep13, _⟩ := id wd4.da.ex
    have nl : p14 ≠ L.pl := ne_of_none' ep13 z14
    have na : p14 ≠ L.a := fun z => by rw [z, ea15] at e15; cases e15
    refine ⟨_, rfl, L.a, L.dx, L.pl, _, more, ds, rfl, dc, wd15.da, co.more, meet_done wd15.da fun H17 p17 ke17 d17 n1 n2 e17 => ?_⟩
    have wd17 := wd15.desk ke17 d17
    have e17' := ke17 _ _ na nl e15
    obtain ⟨f1, f2⟩ := two_told e17 e17' (fun R => smalls_dats sm)
    have tok := told_ok sm
    have sh1 := fine_show _ tok.fi
    have sh2 := tok.shown (by omega)
    have sh3 : (PyData.list ((undoO ds).vals.map vD)).depth ≤ 100 := Nat.le_trans tok.dp (by omega)
    refine ⟨fun _ => True, _, _, rfl, f1, sh1, sh2, sh3, ?_⟩
    refine ⟨_, rfl, fun _ => True, _, _, rfl, f2, sh1, sh2, sh3, ?_⟩
    refine eq_sameS ⟨_, rfl, iteT ⟨_, rfl, _, rfl, ?_⟩⟩
    refine ⟨L.a, L.dx, L.pl, L.st, L.sl, _, _, more, g, ts, _, rfl, dc, wd17.da, wd17.sa, wd17.mv_, mok, dok, by omega, fun H18 s18 => ?_⟩
    exact q H18 _ ((wd17.same s18).mono (by omega)) dok dln .undo

end
end Lb
set_option Elab.async false
set_option linter.all false
set_option maxRecDepth 100000
set_option maxHeartbeats 8000000
namespace Lb
open PySem PySem.Spec PyProof.Rows L2 RZ TL
section
variable {P : Program} {w : World} {K : PySem.W.Frag} {mg : Str → Option Value} {base : Heap}
theorem sc__law_begun : FnScope ["_law_deck_here", "_law_capped", "_law_market_here", "_law_row", "_law_cap", "_law_desk"] ["_law_deck_here", "_law_capped"] (defScope s__law_begun) := ⟨rfl, rfl, rfl, by decide +kernel, rfl, by decide +kernel, by decide +kernel⟩
theorem own_begunB {C CD CC CM CB CT CV : Addr} {cpD cpC : Bool} {TS : List (Addr × Str)} (D : Df K mg "_law_begun" s__law_begun) (B : Blt mg) (BC : BagC K mg C) (DT : DkT K mg CD CC) (neD : C ≠ CD) (neC : C ≠ CC) (hD : cpD = false) (hC : cpC = true) (O__law_one : Own P w K mg base "_law_one" 2 ["_law_deck_here", "_law_items"] spOne) (O__law_bag : Own P w K mg base "_law_bag" 2 ["_law_deck_here", "_law_goods", "_law_most"] spBag) (O__law_small : Own P w K mg base "_law_small" 5 ["_law_deck_here"] spSmall)
    (M_init : OwnM P w K mg base C "__init__" 3 ["self", "amounts"] (spInit K C CB)) (M_dinit : OwnM P w K mg base CD "__init__" 6 ["self", "market", "stock"] (spDInit K C CB CM CT)) (M_cinit : OwnM P w K mg base CC "__init__" 7 ["self", "market", "stock", "cap"] (spCInit K C CB CM CT CV)) :
    Own P w K mg base "_law_begun" 9 ["_law_deck_here", "_law_capped"] (spBegunB K C CD CC cpD cpC TS) := by
  obtain ⟨fd1, fdd1, Md, Fd, bd⟩ := M_dinit.ex
  obtain ⟨fc1, fdc1, Mc, Fc, bc⟩ := M_cinit.ex
  refine own_of D sc__law_begun (fun _ _ _ _ _ _ us hl => match us, hl with | [_, _], _ => rfl) (fun vs H Q E h => ?_) (fun f cdv A outer s H vs Q E hr h => ?_)
  · obtain ⟨_, _, _, _, _, rfl, _⟩ := h
    rfl
  · obtain ⟨d, cc, r, n, bb, rfl, dk, hn, tb, q⟩ := h
    refine ⟨_, (pss_cons (ps_set (i := 2) sc__law_begun.nd rfl (.inl rfl) (pe_own O__law_small (hr.mono (by omega)) (by rfl) (pa_cons (pv 0) pa_nil)))
      (pss_cons (ps_set (i := 3) sc__law_begun.nd rfl (.inl rfl) (pe_own O__law_bag (hr.mono (by omega)) (by rfl) (pa_cons (pv 0) (pa_cons (pe_ix ix_tup (pv 2) pe_int (fun _ _ => rfl)) (pa_cons pe_int pa_nil)))))
      (pss_cons (ps_set (i := 4) sc__law_begun.nd rfl (.inl rfl) (pe_ifExp (pt_val (pv 1)) (pe_own O__law_one (hr.mono (by omega)) (by rfl) (pa_cons (pv 0) (pa_cons (pe_lst (pa_cons pe_int (pa_cons pe_int (pa_cons pe_int (pa_cons pe_int pa_nil))))) pa_nil))) pe_non))
      (pss_cons (ps_set (i := 5) sc__law_begun.nd rfl (.inl rfl) (pe_ifExp (pt_val (pv 1)) (pe_make ⟨DT.mC, Mc.at_, Mc.fn, DT.kC⟩ Fc (hr.mono (by omega)) (by rfl) DT.gC bc .nil passX0 (pa_cons (pv 2) (pa_cons (pe_bagX BC M_init (hr.mono (by omega)) passX0 (by rfl) (pa_cons (pv 3) pa_nil)) (pa_cons (pv 4) pa_nil)))) (pe_make ⟨DT.mD, Md.at_, Md.fn, DT.kD⟩ Fd (hr.mono (by omega)) (by rfl) DT.gD bd .nil passX0 (pa_cons (pv 2) (pa_cons (pe_bagX BC M_init (hr.mono (by omega)) passX0 (by rfl) (pa_cons (pv 3) pa_nil)) pa_nil)))))
      (pss_one (ps_ret (pe_tup (pa_cons (pv 5) (pa_cons (pe_lst (pa_cons (pv 2) (pa_cons (pv 3) (pa_cons (pe_op op_repA (pe_tup (pa_cons pe_int pa_nil)) (pe_ix ix_tup (pv 2) pe_int (fun _ _ => rfl))) (pa_cons (pe_lst pa_nil) (pa_cons (pv 4) pa_nil)))))) pa_nil))))))))), ?_⟩
    refine ⟨_, rfl, R0 d r, d, cc, r, _, rfl, dk, by omega, rg0 dk, fun H1 mv g ts mok g3 t3 dm dk1 k1 => ?_⟩
    have mk1 := MkV.of dm
    have tb1 := tabs_kp tb dk k1
    obtain ⟨m, tt, tvs, rfl, em1, ett1, htr1⟩ := id mk1
    have g1 := mok.one
    refine ⟨_, rfl, _, rfl, m, _, _, _, rfl, rfl, .inl (.inl em1), (show atI _ ((0 : Nat) : Int) = _ from atI_nat rfl), d, cc, r, _, g, 4, rfl, dk1, by omega, by omega, by omega, fun H2 pr z lz hz f2 e2 dk2 k2 => ?_⟩
    have mk2 := mk1.kc (C := 0) (KC.kp dk1 k2)
    have tb2 := tabs_kp tb1 dk1 k2
    have hz6 : ∀ v ∈ z, 0 ≤ v ∧ v ≤ 6 := fun v hv => by have := hz v hv; omega
    have zok : BgOk z := ⟨by omega, by omega, fun v hv => (hz6 v hv).1⟩
    cases bb with
    | false =>
      refine ⟨_, rfl, false, rfl, iteF ?_⟩
      refine ⟨_, rfl, false, rfl, iteF ?_⟩
      have no : ¬ mkB (bagD z) = false := by rw [mkB_ok zok]; exact fun z => nomatch z
      refine ⟨_, rfl, _, rfl, _, rfl, .inl ⟨fun _ => True, _, Dat.mkBag trivial e2, by rw [List.length_map]; omega, fun _ H3 px dpx s3 f3 epx => ?_, fun hm => absurd hm no⟩⟩
      intro x dx nx ndx nn
      refine mk_desk DT.dD.dc neD (mk2.kc (C := 0) (KC.of s3)) mok g3 t3 ⟨⟨dpx, epx⟩, s3 _ _ e2⟩ lz hz6 nx ndx fun H4 pl s4 np nplx da => ?_
      have s24 := s3.trans s4
      have mk4 := mk2.kc (C := 0) (KC.of s24)
      obtain ⟨m', tt', tvs', em', em4, ett4, htr4⟩ := id mk4
      cases em'
      -- the keeping
      refine ⟨_, rfl, _, rfl, _, rfl, ?_⟩
      refine ⟨(by show 1 ≤ sizeLine; decide), fun p5 z5 => ?_⟩
      have s5 := same_upd (o := .tup [V.int 0]) z5
      have e5 : upd H4 p5 (.tup [V.int 0]) p5 = some (.tup [V.int 0]) := upd_same
      generalize upd H4 p5 (.tup [V.int 0]) = H5 at s5 e5 ⊢
      refine ⟨_, rfl, m, _, _, _, rfl, rfl, .inl (.inl (s5 _ _ em4)), (show atI _ ((0 : Nat) : Int) = _ from atI_nat rfl), ?_⟩
      refine rd_rep0 (R := fun _ => True) e5 trivial (fun _ _ => trivial) (by omega) fun H6 p6 s6 _ e6 => ?_
      refine ⟨Nat.zero_le _, fun p7 z7 => ?_⟩
      refine ⟨_, rfl, (by show 5 ≤ sizeLine; decide), fun p8 z8 => ?_⟩
      have dk4 := dk2.same s24
      obtain ⟨s48, wd⟩ := wd_new (TS := TS) (mv := .ref m) (cv := .non) (more := []) (ts := ts) dk4 da (dk2.same s3 |>.nd np) (tb2.ext s24) mk4 (s24 _ _ e2) (s5.trans s6) e6 z7 rfl z8 rfl
      generalize upd (upd H6 p7 (.lst [])) p8 (.lst [V.ref m, V.ref pr, V.ref p6, V.ref p7, V.non]) = H8 at wd s48 ⊢
      refine ⟨(by show 2 ≤ sizeLine; decide), fun p9 z9 => ?_⟩
      have s9 := same_upd (o := .tup [V.ref x, V.ref p8]) z9
      exact q CD cpD (.inl ⟨rfl, rfl⟩) _ ⟨d, cc, r, x, dx, pl, p8, p7⟩ _ _ none [] g ts _ p9 rfl rfl rfl ((wd.same s9).mono (by omega)) ⟨rfl, rfl⟩ hD.symm (fun c hc => by cases hc) g3 mok (ds_new lz hz6) ⟨rfl, rfl⟩ upd_same
    | true =>
      refine ⟨_, rfl, true, rfl, iteT ?_⟩
      -- cap
      refine ⟨_, rfl, (by show 4 ≤ sizeLine; decide), fun qc zc => ?_⟩
      have sc := same_upd (o := .lst [V.int 0, V.int 2, V.int 4, V.int 9]) zc
      have ec : upd H2 qc (.lst [V.int 0, V.int 2, V.int 4, V.int 9]) qc = some (.lst [V.int 0, V.int 2, V.int 4, V.int 9]) := upd_same
      have ndc := dk2.nd zc
      generalize upd H2 qc (.lst [V.int 0, V.int 2, V.int 4, V.int 9]) = Hc at sc ec ⊢
      refine ⟨d, cc, r, qc, _, _, rfl, dk2.same sc, by omega, ec, ndc.1, ndc.2.1, (by show 0 < 4; decide), (by show 4 ≤ 1000; decide), fun Hd jd md hmd dkd kd => ?_⟩
      obtain ⟨cp, rfl, hcp0, hcp9⟩ : ∃ cp : Int, md = V.int cp ∧ 0 ≤ cp ∧ cp ≤ 9 := by
        match jd, hmd with
        | 0, h => cases h; exact ⟨0, rfl, by decide, by decide⟩
        | 1, h => cases h; exact ⟨2, rfl, by decide, by decide⟩
        | 2, h => cases h; exact ⟨4, rfl, by decide, by decide⟩
        | 3, h => cases h; exact ⟨9, rfl, by decide, by decide⟩
      have mk2 := (mk2.kc (C := 0) (KC.of sc)).kc (C := 0) (KC.kp (dk2.same sc) kd)
      have tb2 := tabs_kp (tb2.ext sc) (dk2.same sc) kd
      have e2 := (KC.kp (C := 0) (dk2.same sc) kd).tup (sc _ _ e2)
      have dk2 := dkd
      clear kd sc ec ndc zc
      refine ⟨_, rfl, true, rfl, iteT ?_⟩
      have no : ¬ mkB (bagD z) = false := by rw [mkB_ok zok]; exact fun z => nomatch z
      refine ⟨_, rfl, _, rfl, _, rfl, .inl ⟨fun _ => True, _, Dat.mkBag trivial e2, by rw [List.length_map]; omega, fun _ H3 px dpx s3 f3 epx => ?_, fun hm => absurd hm no⟩⟩
      refine ⟨_, rfl, ?_⟩
      intro x dx nx ndx nn
      refine mk_cdesk DT.dC.dc DT.nm neC (mk2.kc (C := 0) (KC.of s3)) mok g3 t3 ⟨⟨dpx, epx⟩, s3 _ _ e2⟩ lz hz6 hcp0 nx ndx fun H4 pl s4 np nplx da => ?_
      have s24 := s3.trans s4
      have mk4 := mk2.kc (C := 0) (KC.of s24)
      obtain ⟨m', tt', tvs', em', em4, ett4, htr4⟩ := id mk4
      cases em'
      -- the keeping
      refine ⟨_, rfl, _, rfl, _, rfl, ?_⟩
      refine ⟨(by show 1 ≤ sizeLine; decide), fun p5 z5 => ?_⟩
      have s5 := same_upd (o := .tup [V.int 0]) z5
      have e5 : upd H4 p5 (.tup [V.int 0]) p5 = some (.tup [V.int 0]) := upd_same
      generalize upd H4 p5 (.tup [V.int 0]) = H5 at s5 e5 ⊢
      refine ⟨_, rfl, m, _, _, _, rfl, rfl, .inl (.inl (s5 _ _ em4)), (show atI _ ((0 : Nat) : Int) = _ from atI_nat rfl), ?_⟩
      refine rd_rep0 (R := fun _ => True) e5 trivial (fun _ _ => trivial) (by omega) fun H6 p6 s6 _ e6 => ?_
      refine ⟨Nat.zero_le _, fun p7 z7 => ?_⟩
      refine ⟨_, rfl, (by show 5 ≤ sizeLine; decide), fun p8 z8 => ?_⟩
      have dk4 := dk2.same s24
      obtain ⟨s48, wd⟩ := wd_new (TS := TS) (mv := .ref m) (cv := .int cp) (more := [(("most" : Str), .int cp)]) (ts := ts) dk4 da (dk2.same s3 |>.nd np) (tb2.ext s24) mk4 (s24 _ _ e2) (s5.trans s6) e6 z7 rfl z8 rfl
      generalize upd (upd H6 p7 (.lst [])) p8 (.lst [V.ref m, V.ref pr, V.ref p6, V.ref p7, V.int cp]) = H8 at wd s48 ⊢
      refine ⟨(by show 2 ≤ sizeLine; decide), fun p9 z9 => ?_⟩
      have s9 := same_upd (o := .tup [V.ref x, V.ref p8]) z9
      exact q CC cpC (.inr ⟨rfl, rfl⟩) _ ⟨d, cc, r, x, dx, pl, p8, p7⟩ _ _ (some cp) [(("most" : Str), .int cp)] g ts _ p9 rfl rfl rfl ((wd.same s9).mono (by omega)) ⟨rfl, rfl⟩ hC.symm (fun c hc => by cases hc; exact ⟨hcp0, hcp9⟩) g3 mok (ds_new lz hz6) ⟨rfl, rfl⟩ upd_same

end
end Lb
set_option Elab.async false
set_option linter.all false
set_option maxRecDepth 100000
set_option maxHeartbeats 8000000
namespace Lb
open PySem PySem.Spec PyProof.Rows L2 RZ TL
section
variable {P : Program} {w : World} {K : PySem.W.Frag} {mg : Str → Option Value} {base : Heap}
theorem sc_Desk___iadd__ : FnScope ["self", "other"] ["self", "other"] (defScope s_Desk___iadd__) := ⟨rfl, rfl, rfl, by decide +kernel, rfl, by decide +kernel, by decide +kernel⟩
theorem own_diadd {C CX : Addr} {cs : ErrCs} {cp : Bool} (D : DfM K CX "__iadd__" "Desk.__iadd__" s_Desk___iadd__) (B : Blt mg) (cD : Cls K CX) (M_borrow : OwnM P w K mg base CX "borrow" 12 ["self", "bag"] (spBorrowO K C CX cs cp)) : OwnM P w K mg base CX "__iadd__" 13 ["self", "other"] (spIadd K C CX cs cp) := by
  refine ownM_of D sc_Desk___iadd__ (fun _ _ _ _ _ _ us hl => match us, hl with | [_, _], _ => rfl) (fun vs H Q E h => ?_) (fun f cdv A outer s H vs Q E hr h => ?_)
  · obtain ⟨_, _, rfl, _⟩ := h
    rfl
  · obtain ⟨a, v, rfl, a', dx, pl, v', mv, cv, cap, more, g, st, e, dc, da, co, hcp, g1, g4, ok, hp, h⟩ := h
    cases e
    refine ⟨_, (pss_cons (ps_expr (pe_methX (pv 0) cD M_borrow (hr.mono (by omega)) (passE (takes_of rfl rfl rfl rfl) (fun _ _ _ _ h => h)) (pa_cons (pv 1) pa_nil)))
      (pss_one (ps_ret (pv 0)))), ?_⟩
    obtain ⟨b0, t0, o0, u0, ws, ea, hb0, ho0, ep, hpast⟩ := id da.ex
    refine ⟨_, rfl, a, dx, _, rfl, ea, co.more.no (by decide) (by decide) (by decide) (by decide) (by decide), _, rfl, ?_⟩
    refine ⟨a, dx, pl, v, mv, cv, cap, more, g, st, rfl, dc, da, co, hcp, g1, g4, ok, hp, ?_⟩
    rcases h with ⟨b, s', z, rfl, hb, zok, h⟩ | ⟨hn, h⟩
    · exact .inl ⟨b, s', z, rfl, hb, zok, Meet.mono (fun _ H' _ _ _ _ q => ⟨_, rfl, q⟩) h⟩
    · exact .inr ⟨hn, h⟩

end
end Lb
set_option Elab.async false
set_option linter.all false
set_option maxRecDepth 100000
set_option maxHeartbeats 8000000
namespace Lb
open PySem PySem.Spec PyProof.Rows L2 RZ TL
section
variable {P : Program} {w : World} {K : PySem.W.Frag} {mg : Str → Option Value} {base : Heap}
theorem sc_Desk___isub__ : FnScope ["self", "other"] ["self", "other"] (defScope s_Desk___isub__) := ⟨rfl, rfl, rfl, by decide +kernel, rfl, by decide +kernel, by decide +kernel⟩
theorem own_disub {C CX : Addr} {cs : ErrCs} (D : DfM K CX "__isub__" "Desk.__isub__" s_Desk___isub__) (B : Blt mg) (cD : Cls K CX) (M_pay : OwnM P w K mg base CX "pay" 8 ["self", "bag"] (spPayO K C CX cs)) : OwnM P w K mg base CX "__isub__" 9 ["self", "other"] (spIsub K C CX cs) := by
  refine ownM_of D sc_Desk___isub__ (fun _ _ _ _ _ _ us hl => match us, hl with | [_, _], _ => rfl) (fun vs H Q E h => ?_) (fun f cdv A outer s H vs Q E hr h => ?_)
  · obtain ⟨_, _, rfl, _⟩ := h
    rfl
  · obtain ⟨a, v, rfl, a', dx, pl, v', mv, cv, cap, more, g, st, e, dc, da, co, g1, g4, ok, hp, h⟩ := h
    cases e
    refine ⟨_, (pss_cons (ps_expr (pe_methX (pv 0) cD M_pay (hr.mono (by omega)) (passE (takes_of rfl rfl rfl rfl) (fun _ _ _ _ h => h)) (pa_cons (pv 1) pa_nil)))
      (pss_one (ps_ret (pv 0)))), ?_⟩
    obtain ⟨b0, t0, o0, u0, ws, ea, hb0, ho0, ep, hpast⟩ := id da.ex
    refine ⟨_, rfl, a, dx, _, rfl, ea, co.more.no (by decide) (by decide) (by decide) (by decide) (by decide), _, rfl, ?_⟩
    refine ⟨a, dx, pl, v, mv, cv, cap, more, g, st, rfl, dc, da, co, g1, g4, ok, hp, ?_⟩
    rcases h with ⟨b, s', z, rfl, hb, zok, h⟩ | ⟨hn, h⟩
    · exact .inl ⟨b, s', z, rfl, hb, zok, Meet.mono (fun _ H' _ _ _ _ q => ⟨_, rfl, q⟩) h⟩
    · exact .inr ⟨hn, h⟩

end
end Lb
set_option Elab.async false
set_option linter.all false
set_option maxRecDepth 100000
set_option maxHeartbeats 8000000
namespace Lb
open PySem PySem.Spec PyProof.Rows L2 RZ TL
section
variable {P : Program} {w : World} {K : PySem.W.Frag} {mg : Str → Option Value} {base : Heap}
theorem sc_Desk_loans : FnScope ["self", "goal", "wanted", "amounts"] ["self", "goal"] (defScope s_Desk_loans) := ⟨rfl, rfl, rfl, by decide +kernel, rfl, by decide +kernel, by decide +kernel⟩
theorem own_loansB {C CX : Addr} {cs : ErrCs} {cp : Bool} (D : DfM K CX "loans" "Desk.loans" s_Desk_loans) (B : Blt mg) (S : StdC K C) (cD : Cls K CX) (O_check_kind : OwnX P w K mg base "check_kind" 2 ["bag", "value"] (spCKind K C cs.bag)) : OwnM P w K mg base CX "loans" 4 ["self", "goal"] (spBad K C CX cs cp) := by
  refine ownM_of D sc_Desk_loans (fun _ _ _ _ _ _ us hl => match us, hl with | [_, _], _ => rfl) (fun vs H Q E h => ?_) (fun f cdv A outer s H vs Q E hr h => ?_)
  · obtain ⟨_, _, _, _, _, _, _, _, _, _, _, rfl, _⟩ := h
    rfl
  · obtain ⟨a, dx, pl, v, mv, cv, cap, more, g, ts, st, rfl, dc, da, co, hcp, mk, mok, ok, hp, bad, he⟩ := h
    refine ⟨_, (pss_cons (ps_expr (pe_ownE O_check_kind (hr.mono (by omega)) (passE (takes_of rfl rfl rfl rfl) (fun _ _ _ _ h => h)) (by rfl) (pa_cons (pe_fld (pv 0) rfl) (pa_cons (pv 1) pa_nil)))) pss_never), ?_⟩
    obtain ⟨b0, t0, o0, u0, ws, ea, hb0, ho0, ep, hpast⟩ := id da.ex
    refine ⟨_, rfl, a, CX, dx, _, _, rfl, ea, dc.cl, dc.n3, rfl, _, rfl, o0, u0, st.y, v, rfl, ho0, ?_⟩
    rcases bad with ⟨b, t, z, rfl, hb, zok, hne⟩ | hty
    · exact .inl ⟨b, t, z, rfl, hb, zok, fun hl => absurd (hl.trans ok.ly) hne, fun _ => he⟩
    · exact .inr ⟨hty.notC S, he⟩

end
end Lb
set_option Elab.async false
set_option linter.all false
set_option maxRecDepth 100000
set_option maxHeartbeats 8000000
namespace Lb
open PySem PySem.Spec PyProof.Rows L2 RZ TL
section
variable {P : Program} {w : World} {K : PySem.W.Frag} {mg : Str → Option Value} {base : Heap}
theorem sc__law_signed : FnScope ["_law_desk", "_law_value", "_law_is_more", "_law_held"] ["_law_desk", "_law_value", "_law_is_more"] (defScope s__law_signed) := ⟨rfl, rfl, rfl, by decide +kernel, rfl, by decide +kernel, by decide +kernel⟩
theorem own_signed {C CD CX : Addr} {cs : ErrCs} {cp : Bool} (D : Df K mg "_law_signed" s__law_signed) (B : Blt mg) (dt : DskT K CD CX) (sf : PySem.W.selfFirst K CX = true) (M_iadd : OwnM P w K mg base CX "__iadd__" 13 ["self", "other"] (spIadd K C CX cs cp)) (M_isub : OwnM P w K mg base CX "__isub__" 9 ["self", "other"] (spIsub K C CX cs)) (M_eq : OwnM P w K mg base CX "__eq__" 8 ["self", "other"] (spDEq K C CD)) (P_version : PropM P w K mg base CX "version" 1 (spDLen K)) : OwnX P w K mg base "_law_signed" 14 ["_law_desk", "_law_value", "_law_is_more"] (spSigned K C CX cs cp) := by
  refine ownX_of D sc__law_signed (fun _ _ _ _ _ _ us hl => match us, hl with | [_, _, _], _ => rfl) (fun vs H Q E h => ?_) (fun f cdv A outer s H vs Q E hr h => ?_)
  · obtain ⟨_, _, _, _, _, _, _, _, _, _, _, _, rfl, _⟩ := h
    rfl
  · obtain ⟨a, dx, pl, v, mv, cv, cap, more, g, ts, st, b, rfl, dc, da, co, hcp, mk, mok, ok, hp, h⟩ := h
    have cD := dc.cl
    refine ⟨_, (pss_cons (ps_set (i := 3) sc__law_signed.nd rfl (.inl rfl) (pv 0))
      (pss_cons (ps_if (pt_val (pv 2)) (pss_one (ps_aug (i := 3) sc__law_signed.nd rfl (.inl rfl) (pv 1) (op_inpM (op := .Add) M_iadd sf (hr.mono (by omega)) (passE (takes_of rfl rfl rfl rfl) (fun _ _ _ _ h => h))))) (pss_one (ps_aug (i := 3) sc__law_signed.nd rfl (.inl rfl) (pv 1) (op_inpM (op := .Sub) M_isub sf (hr.mono (by omega)) (passE (takes_of rfl rfl rfl rfl) (fun _ _ _ _ h => h))))))
      (pss_one (ps_ret (pe_and (pe_cmpR (op_eqM M_eq (hr.mono (by omega)) passX0) (pv 3) (pv 0) (nomark _)) (pe_one (pe_cmpR op_eq (pe_propM cD P_version (hr.mono (by omega)) (pv 3)) (pe_propM cD P_version (hr.mono (by omega)) (pv 0)) (nomark _)))))))), ?_⟩
    obtain ⟨b0, t0, o0, u0, ws, ea, hb0, ho0, ep, hpast⟩ := id da.ex
    have g1 := mok.one
    have g4 := mok.four
    have okD := mkt_okD mok
    have layM := mkt_lay (err_ok0 mok)
    have shM := shaped_of layM okD (by omega)
    refine ⟨_, rfl, nxE (seq_in fun DD n1 n2 n3 n4 => ?_)⟩
    have rest : ∀ (H' : Hp) (s' : DS), Ke a pl H H' → DeskAt K C CX H' a dx pl mv more s'.x s'.y s'.past → DsOk g s' → (∀ H'', Same H' H'' → Q (.bl true) H'') → DD.nx [some (.ref a), some v, some (.bl b), some (.ref a)] H' := by
      rw [n1]
      intro H' s' ke d' ok' q
      obtain ⟨b1, t1, o1, u1, ws1, ea1, hb1, ho1, ep1, hp1⟩ := id d'.ex
      have mk' := mk.kc (C := C) (KC.desk ea ep da.ne ke)
      have dm : Dat (fun _ => True) H' mv (mktD g ts) := mk'.dat fun _ _ _ => trivial
      have dp : Dp K H' mv (mktD g ts) := dm.dp (lay_nd layM)
      have kD : Dsk K C CD H' a mv s'.x s'.y := ⟨CX, dx, _, b1, t1, o1, u1, dt, ea1, rfl, rfl, rfl, hb1, ho1⟩
      have eq1 : (PyData.eqv (mktD g ts) (mktD g ts) && (decide (s'.x = s'.x) && decide (s'.y = s'.y))) = true := by
        rw [SeqAt.eqv_refl _ layM, decide_eq_true rfl, decide_eq_true rfl]
        rfl
      refine ⟨_, rfl, _, rfl, a, dx, _, a, dx, _, rfl, rfl, ea1, ea1, a, mv, s'.x, s'.y, .ref a, rfl, kD, ok'.bx g1 g4, ok'.by_ g1 g4, .inr ⟨a, mv, s'.x, s'.y, _, _, rfl, kD, ok'.bx g1 g4, ok'.by_ g1 g4, dp, dp, shM, shM, ?_⟩⟩
      rw [eq1]
      refine ⟨_, rfl, iteT ?_⟩
      refine ⟨_, rfl, a, dx, _, rfl, ea1, a, CX, dx, _, pl, rfl, ea1, dc, rfl, _, ep1, ?_⟩
      refine ⟨_, rfl, a, dx, _, rfl, ea1, a, CX, dx, _, pl, rfl, ea1, dc, rfl, _, ep1, ?_⟩
      have q' := q H' (Same.refl _)
      exact ⟨rfl, by simpa using q'⟩
    have fin : ∀ o : Oc, DsOk g (o.next st) → Meet K C CX cs H a dx pl mv more (fun _ H' => ∀ H'', Same H' H'' → Q (.bl true) H'') E o → Meet K C CX cs H a dx pl mv more (fun _ H' => DD.nx [some (.ref a), some v, some (.bl b), some (.ref a)] H') E o := fun o oo h => by
      refine Meet.mono (fun u H' s' ke d' e q => rest H' s' ke d' ?_ q) h
      rcases e with rfl | rfl <;> exact oo
    cases b with
    | true =>
      refine ⟨_, rfl, true, rfl, iteT ⟨_, rfl, _, rfl, a, dx, _, rfl, ea, a, v, rfl, a, dx, pl, v, mv, cv, cap, more, g, st, rfl, dc, da, co, hcp, g1, g4, ok, hp, ?_⟩⟩
      rcases h with ⟨b', s', z, rfl, hb, zok, h⟩ | ⟨hn, h⟩
      · exact .inl ⟨b', s', z, rfl, hb, zok, fin _ (borrow_ok ok fun w hw => by cases hw; exact zok.3) h⟩
      · exact .inr ⟨hn, h⟩
    | false =>
      refine ⟨_, rfl, false, rfl, iteF ⟨_, rfl, _, rfl, a, dx, _, rfl, ea, a, v, rfl, a, dx, pl, v, mv, cv, cap, more, g, st, rfl, dc, da, co, g1, g4, ok, hp, ?_⟩⟩
      rcases h with ⟨b', s', z, rfl, hb, zok, h⟩ | ⟨hn, h⟩
      · exact .inl ⟨b', s', z, rfl, hb, zok, fin _ (pay_ok ok) h⟩
      · exact .inr ⟨hn, h⟩

end
end Lb
set_option Elab.async false
set_option linter.all false
set_option maxRecDepth 100000
set_option maxHeartbeats 8000000
namespace Lb
open PySem PySem.Spec PyProof.Rows L2 RZ TL
section
variable {P : Program} {w : World} {K : PySem.W.Frag} {mg : Str → Option Value} {base : Heap}
theorem sc__law_asked : FnScope ["_law_desk", "_law_value", "_law_k"] ["_law_desk", "_law_value", "_law_k"] (defScope s__law_asked) := ⟨rfl, rfl, rfl, by decide +kernel, rfl, by decide +kernel, by decide +kernel⟩
theorem own_asked {C CX : Addr} {cs : ErrCs} {cp : Bool} (D : Df K mg "_law_asked" s__law_asked) (B : Blt mg) (S : StdC K C) (cD : Cls K CX) (O__law_signed : OwnX P w K mg base "_law_signed" 14 ["_law_desk", "_law_value", "_law_is_more"] (spSigned K C CX cs cp)) (M_borrow : OwnM P w K mg base CX "borrow" 12 ["self", "bag"] (spBorrowO K C CX cs cp)) (M_pay : OwnM P w K mg base CX "pay" 8 ["self", "bag"] (spPayO K C CX cs)) (M_loans : OwnM P w K mg base CX "loans" 4 ["self", "goal"] (spBad K C CX cs cp)) : OwnX P w K mg base "_law_asked" 15 ["_law_desk", "_law_value", "_law_k"] (spAsked K C CX cs cp) := by
  refine ownX_of D sc__law_asked (fun _ _ _ _ _ _ us hl => match us, hl with | [_, _, _], _ => rfl) (fun vs H Q E h => ?_) (fun f cdv A outer s H vs Q E hr h => ?_)
  · obtain ⟨_, _, _, rfl, _⟩ := h
    rfl
  · obtain ⟨a, v, k, rfl, hbad⟩ := h
    obtain ⟨a', dx, pl, v', mv, cv, cap, more, g, ts, st, e, dc, da, co, hcp, mk, mok, ok, hp, bad, he⟩ := id hbad
    cases e
    refine ⟨_, (pss_cons (ps_if (pt_cmpR op_lt (pv 2) pe_int (nomark _)) (pss_one (ps_ret (pe_ownE O__law_signed (hr.mono (by omega)) (passE (takes_of rfl rfl rfl rfl) (fun _ _ _ _ h => h)) (by rfl) (pa_cons (pv 0) (pa_cons (pv 1) (pa_cons (pe_cmpR op_eq (pv 2) pe_int (nomark _)) pa_nil)))))) pss_nil)
      (pss_cons (ps_if (pt_cmpR op_eq (pv 2) pe_int (nomark _)) (pss_one (ps_ret (pe_methX (pv 0) cD M_borrow (hr.mono (by omega)) (passE (takes_of rfl rfl rfl rfl) (fun _ _ _ _ h => h)) (pa_cons (pv 1) pa_nil)))) pss_nil)
      (pss_one (ps_ret (pe_ifExp (pt_cmpR op_eq (pv 2) pe_int (nomark _)) (pe_methX (pv 0) cD M_pay (hr.mono (by omega)) (passE (takes_of rfl rfl rfl rfl) (fun _ _ _ _ h => h)) (pa_cons (pv 1) pa_nil)) (pe_methX (pv 0) cD M_loans (hr.mono (by omega)) (passE (takes_of rfl rfl rfl rfl) (fun _ _ _ _ h => h)) (pa_cons (pv 1) pa_nil))))))), ?_⟩
    obtain ⟨b0, t0, o0, u0, ws, ea, hb0, ho0, ep, hpast⟩ := id da.ex
    have g1 := mok.one
    have g4 := mok.four
    have noa : ∀ m : Str, m ≠ "place" → m ≠ "present" → m ≠ "owed" → m ≠ "past" → m ≠ "most" → (dskF mv (.ref b0) (.ref o0) pl ++ more).lookup m = none := fun m n1 n2 n3 n4 n5 => co.more.no n1 n2 n3 n4 n5
    have opd : ∀ {Q' : VK} (o : List Int → Oc), (∀ z, z.length ≠ g → o z = .bag) → Opd K C H v (fun _ _ z => Meet K C CX cs H a dx pl mv more Q' E (o z)) (ErrN E cs.bag H) := fun {Q'} o ho => by
      rcases bad with ⟨b, t, z, rfl, hb, zok, hne⟩ | hty
      · refine .inl ⟨b, t, z, rfl, hb, zok, ?_⟩
        show Meet K C CX cs H a dx pl mv more Q' E (o z)
        rw [ho z hne]
        exact he
      · exact .inr ⟨hty.notC S, he⟩
    have ob : ∀ z : List Int, z.length ≠ g → borrowO g cap st (some z) = .bag := fun z hne => if_neg hne
    have op : ∀ z : List Int, z.length ≠ g → payO g st (some z) = .bag := fun z hne => if_neg hne
    refine ⟨_, rfl, _, _, rfl, rfl, _, rfl, ?_⟩
    refine ite2 (fun _ => ?_) (fun _ => ?_)
    · refine ⟨_, rfl, _, rfl, _, rfl, rfl, a, dx, pl, v, mv, cv, cap, more, g, ts, st, _, rfl, dc, da, co, hcp, mk, mok, ok, hp, ?_⟩
      cases decide (V.int k = V.int 0) with
      | true => exact opd (fun z => borrowO g cap st (some z)) ob
      | false => exact opd (fun z => payO g st (some z)) op
    refine nxt_in ⟨_, rfl, rfl, _, rfl, ?_⟩
    refine ite2 (fun _ => ?_) (fun _ => ?_)
    · refine ⟨_, rfl, a, dx, _, rfl, ea, noa _ (by decide) (by decide) (by decide) (by decide) (by decide), _, rfl, ?_⟩
      exact ⟨a, dx, pl, v, mv, cv, cap, more, g, st, rfl, dc, da, co, hcp, g1, g4, ok, hp, opd (fun z => borrowO g cap st (some z)) ob⟩
    refine nxt_in ⟨_, rfl, rfl, _, rfl, ?_⟩
    refine ite2 (fun _ => ?_) (fun _ => ?_)
    · refine ⟨_, rfl, a, dx, _, rfl, ea, noa _ (by decide) (by decide) (by decide) (by decide) (by decide), _, rfl, ?_⟩
      exact ⟨a, dx, pl, v, mv, cv, cap, more, g, st, rfl, dc, da, co, g1, g4, ok, hp, opd (fun z => payO g st (some z)) op⟩
    · refine ⟨_, rfl, a, dx, _, rfl, ea, noa _ (by decide) (by decide) (by decide) (by decide) (by decide), _, rfl, ?_⟩
      exact ⟨a, dx, pl, v, mv, cv, cap, more, g, ts, st, rfl, dc, da, co, hcp, mk, mok, ok, hp, bad, he⟩

end
end Lb
set_option Elab.async false
set_option linter.all false
set_option maxRecDepth 100000
set_option maxHeartbeats 8000000
namespace Lb
open PySem PySem.Spec PyProof.Rows L2 RZ TL
section
variable {P : Program} {w : World} {K : PySem.W.Frag} {mg : Str → Option Value} {base : Heap}
theorem sc_law : FnScope ["_law_script", "_law_deck_here", "_law_turn", "_law_desk", "_law_state", "_law_k", "_law_goods", "_law_row", "_law_value", "_law_is_more", "_law_due", "_law_found"] ["_law_script"] (defScope s_law) := ⟨rfl, rfl, rfl, by decide +kernel, rfl, by decide +kernel, by decide +kernel⟩
theorem fn_law {f c Pt cD PtD C CC CD : Addr} {cs : ErrCs} {cpD cpC : Bool} {TS : List (Addr × Str)} {oc : Value} {od an : Option Addr} {osl : Array (Option Value)} {kV doc pm ct : Value}
    (lk : K.lookup f = some ⟨oc, od, .func (PySem.W.fnOf "law" "law" (defArgs s_law) (defBody s_law) (defScope s_law) .none kV doc pm an (.ref c) ct), osl⟩) (hcd : PySem.W.codeIn K (.ref c) "law" = true) (TB : LamX.TabB base mg c Pt) (hTS : TS = [(PtD, lamQ "_law_deed"), (Pt, lamQ "law")]) (hne : PtD ≠ Pt)
    (B : Blt mg) (BC : BagC K mg C) (DT : DkT K mg CD CC) (DD : Dist K (doneC cs)) (T : DoneT P w K mg base cs) (Ddone : Df K mg "_law_done" s__law_done)
    (O__law_deck : Own P w K mg base "_law_deck" 1 ["_law_script"] (spDeck K)) (O__law_draw : Own P w K mg base "_law_draw" 1 ["_law_deck_here", "_law_many"] spDraw) (O__law_one : Own P w K mg base "_law_one" 2 ["_law_deck_here", "_law_items"] spOne) (O__law_bag : Own P w K mg base "_law_bag" 2 ["_law_deck_here", "_law_goods", "_law_most"] spBag)
    (O__law_begun : Own P w K mg base "_law_begun" 9 ["_law_deck_here", "_law_capped"] (spBegunB K C CD CC cpD cpC TS)) (O_deedD : OwnG P w K mg base "_law_deed" 18 ["_law_deck_here", "_law_desk", "_law_state"] (spDeed K C CD TS cpD)) (O_deedC : OwnG P w K mg base "_law_deed" 18 ["_law_deck_here", "_law_desk", "_law_state"] (spDeed K C CC TS cpC))
    (O__law_borrowed : Own P w K mg base "_law_borrowed" 2 ["_law_state", "_law_row"] spBorrowed) (O__law_paid : Own P w K mg base "_law_paid" 2 ["_law_state", "_law_row"] spPaid) (O_shownD : OwnG P w K mg base "_law_is_shown" 6 ["_law_desk", "_law_state"] (spShown K C CD)) (O_shownC : OwnG P w K mg base "_law_is_shown" 6 ["_law_desk", "_law_state"] (spShown K C CC))
    (O_askedD : OwnX P w K mg base "_law_asked" 15 ["_law_desk", "_law_value", "_law_k"] (spAsked K C CD cs cpD)) (O_askedC : OwnX P w K mg base "_law_asked" 15 ["_law_desk", "_law_value", "_law_k"] (spAsked K C CC cs cpC)) (O_signedD : OwnX P w K mg base "_law_signed" 14 ["_law_desk", "_law_value", "_law_is_more"] (spSigned K C CD cs cpD)) (O_signedC : OwnX P w K mg base "_law_signed" 14 ["_law_desk", "_law_value", "_law_is_more"] (spSigned K C CC cs cpC))
    (M_init : OwnM P w K mg base C "__init__" 3 ["self", "amounts"] (spInit K C cs.bag)) :
    FnG P w K mg base CX0 26 f (PySem.W.fnOf "law" "law" (defArgs s_law) (defBody s_law) (defScope s_law) .none kV doc pm an (.ref c) ct) ["_law_script"] (spLawS K [(cD, PtD), (c, Pt)]) := by
  refine fnG_ofC lk hcd sc_law (fun vs H Q E h => ?_) (fun A outer s H vs Q E hgd hr h => ?_)
  · obtain ⟨_, _, rfl, _⟩ := h
    rfl
  · obtain ⟨a, ns, rfl, hS, hl, hT0, q⟩ := h
    have hud : (cxOf CX0 P w K mg base ["_law_script", "_law_deck_here", "_law_turn", "_law_desk", "_law_state", "_law_k", "_law_goods", "_law_row", "_law_value", "_law_is_more", "_law_due", "_law_found"] "law" (defScope s_law) f (.ref c) A outer s H E).nox.A.units + 110 < cLine := by
      have := hr.un
      show (A.deeper _).units + 110 < cLine
      omega
    have TF : TabFor TS Pt "law" := by
      rw [hTS]
      refine ⟨.tail _ (.head _), fun p hp e => ?_⟩
      rcases List.mem_cons.mp hp with rfl | hp
      · exact absurd e hne
      · rw [List.mem_singleton.mp hp]
    refine ⟨_, (pss_cons (ps_set (i := 1) sc_law.nd rfl (.inl rfl) (pe_own O__law_deck (hr.mono (by omega)) (by rfl) (pa_cons (pv 0) pa_nil)))
      (pss_cons (ps_for PassesOwn.never rfl (pi_range1 (by rfl) B.b_range (pa_cons pe_int pa_nil)) (pg_name (i := 2) sc_law.nd rfl (.inl rfl))
        (pss_cons (ps_asg (pe_own O__law_begun (hr.mono (by omega)) (by rfl) (pa_cons (pv 1) (pa_cons (pe_cmpR op_eq (pe_own O__law_draw (hr.mono (by omega)) (by rfl) (pa_cons (pv 1) (pa_cons pe_int pa_nil))) pe_int (nomark _)) pa_nil))) (pg_tup rfl (pgs_cons (pg_name (i := 3) sc_law.nd rfl (.inr rfl)) (pgs_cons (pg_name (i := 4) sc_law.nd rfl (.inl rfl)) pgs_nil))))
      (pss_cons (ps_for PassesOwn.never rfl (pi_range1 (by rfl) B.b_range (pa_cons (pe_own O__law_draw (hr.mono (by omega)) (by rfl) (pa_cons (pv 1) (pa_cons pe_int pa_nil))) pa_nil)) (pg_name (i := 5) sc_law.nd rfl (.inr rfl))
        (pss_one (ps_if (pt_not (pt_val (pe_or2 (pe_ownG O_deedD hgd (hr.mono (by omega)) (by rfl) (pa_cons (pv 1) (pa_cons (pv 3) (pa_cons (pv 4) pa_nil)))) (pe_ownG O_deedC hgd (hr.mono (by omega)) (by rfl) (pa_cons (pv 1) (pa_cons (pv 3) (pa_cons (pv 4) pa_nil))))))) (pss_one (ps_ret pe_bl)) pss_nil)))
      (pss_cons (ps_set (i := 6) sc_law.nd rfl (.inl rfl) (pe_ix ix_tup (pe_ix ix_list (pv 4) pe_int (fun _ _ => rfl)) pe_int (fun _ _ => rfl)))
      (pss_cons (ps_set (i := 7) sc_law.nd rfl (.inr rfl) (pe_own O__law_bag (hr.mono (by omega)) (by rfl) (pa_cons (pv 1) (pa_cons (pv 6) (pa_cons pe_int pa_nil)))))
      (pss_cons (ps_set (i := 8) sc_law.nd rfl (.inr rfl) (pe_own O__law_one (hr.mono (by omega)) (by rfl) (pa_cons (pv 1) (pa_cons (pe_lst (pa_cons pe_non (pa_cons (pv 7) (pa_cons (pe_callTy (T := "list") call_list_of (by rfl) B.b_list (by decide +kernel) (pa_cons (pv 7) pa_nil)) (pa_cons pe_int (pa_cons pe_str (pa_cons (pe_bagX BC M_init (hr.mono (by omega)) passX0 (by rfl) (pa_cons (pe_op op_catA (pv 7) (pe_tup (pa_cons pe_int pa_nil))) pa_nil)) (pa_cons pe_bl (pa_cons pe_dnewK (pa_cons (pe_tup (pa_cons (pe_bagX BC M_init (hr.mono (by omega)) passX0 (by rfl) (pa_cons (pv 7) pa_nil)) pa_nil)) pa_nil)))))))))) pa_nil))))
      (pss_cons (ps_for PassesOwn.never rfl (pi_range1 (by rfl) B.b_range (pa_cons pe_int pa_nil)) (pg_name (i := 5) sc_law.nd rfl (.inr rfl))
        (pss_one (ps_if (PW.pt (pw_or (pt_cmpR (op_neD hr.units) (pe_or2 (pe_lamDone Ddone DD T TB rfl TF.mem TF.one (hr.mono (by omega)) (by rfl) (LamX.lamS_by (by show LamX.lamSB (defScope s_law) _ = true; decide +kernel)) (by rfl) (fun _ _ _ _ _ => rfl) (fun A outer s H E f c' hr' => pe_ownE O_askedD (hr'.mono (by omega)) (passes_call (takes_of rfl rfl rfl rfl) (fun _ _ _ _ h => h)) (by rfl) (pa_cons (pv 3) (pa_cons (pv 8) (pa_cons (pv 5) pa_nil))))) (pe_lamDone Ddone DD T TB rfl TF.mem TF.one (hr.mono (by omega)) (by rfl) (LamX.lamS_by (by show LamX.lamSB (defScope s_law) _ = true; decide +kernel)) (by rfl) (fun _ _ _ _ _ => rfl) (fun A outer s H E f c' hr' => pe_ownE O_askedC (hr'.mono (by omega)) (passes_call (takes_of rfl rfl rfl rfl) (fun _ _ _ _ h => h)) (by rfl) (pa_cons (pv 3) (pa_cons (pv 8) (pa_cons (pv 5) pa_nil)))))) (pe_lst (pa_cons pe_str pa_nil)) (nomark _)) (pw_or1 (pt_not (pt_val (pe_or2 (pe_ownG O_shownD hgd (hr.mono (by omega)) (by rfl) (pa_cons (pv 3) (pa_cons (pv 4) pa_nil))) (pe_ownG O_shownC hgd (hr.mono (by omega)) (by rfl) (pa_cons (pv 3) (pa_cons (pv 4) pa_nil))))))))) (pss_one (ps_ret pe_bl)) pss_nil)))
      (pss_one (ps_for PassesOwn.never rfl (pi_tup (pe_tup (pa_cons pe_bl (pa_cons pe_bl pa_nil)))) (pg_name (i := 9) sc_law.nd rfl (.inr rfl))
        (pss_cons (ps_set (i := 10) sc_law.nd rfl (.inl rfl) (pe_ifExp (pt_val (pv 9)) (pe_own O__law_borrowed (hr.mono (by omega)) (by rfl) (pa_cons (pv 4) (pa_cons (pv 7) pa_nil))) (pe_own O__law_paid (hr.mono (by omega)) (by rfl) (pa_cons (pv 4) (pa_cons (pv 7) pa_nil)))))
      (pss_cons (ps_set (i := 11) sc_law.nd rfl (.inl rfl) (pe_or2 (pe_lamDone Ddone DD T TB rfl TF.mem TF.one (hr.mono (by omega)) (by rfl) (LamX.lamS_by (by show LamX.lamSB (defScope s_law) _ = true; decide +kernel)) (by rfl) (fun _ _ _ _ _ => rfl) (fun A outer s H E f c' hr' => pe_ownE O_signedD (hr'.mono (by omega)) (passes_call (takes_of rfl rfl rfl rfl) (fun _ _ _ _ h => h)) (by rfl) (pa_cons (pv 3) (pa_cons (show PE _ _ (tBag K C cs.bag L2.E0 (tCons (tVar 7) tNil)) from pe_bagX BC M_init (hr'.mono (by omega)) passX0 (by rfl) (pa_cons (pv 7) pa_nil)) (pa_cons (pv 9) pa_nil))))) (pe_lamDone Ddone DD T TB rfl TF.mem TF.one (hr.mono (by omega)) (by rfl) (LamX.lamS_by (by show LamX.lamSB (defScope s_law) _ = true; decide +kernel)) (by rfl) (fun _ _ _ _ _ => rfl) (fun A outer s H E f c' hr' => pe_ownE O_signedC (hr'.mono (by omega)) (passes_call (takes_of rfl rfl rfl rfl) (fun _ _ _ _ h => h)) (by rfl) (pa_cons (pv 3) (pa_cons (show PE _ _ (tBag K C cs.bag L2.E0 (tCons (tVar 7) tNil)) from pe_bagX BC M_init (hr'.mono (by omega)) passX0 (by rfl) (pa_cons (pv 7) pa_nil)) (pa_cons (pv 9) pa_nil)))))))
      (pss_one (ps_if (PW.pt (pw_or (pt_cmpR op_ne (pe_callB (id := "repr") (call_reprD hgd hud) (by rfl) B.b_repr PyProof.Rows.boot_repr (pa_cons (pv 11) pa_nil)) (pe_callB (id := "repr") (call_reprD hgd hud) (by rfl) B.b_repr PyProof.Rows.boot_repr (pa_cons (pe_ifExp (pt_cmpR op_eq (pe_ix ix_list (pv 10) pe_int (fun _ _ => rfl)) pe_str (nomark _)) (pe_lst (pa_cons pe_str (pa_cons pe_bl pa_nil))) (pv 10)) pa_nil)) (nomark _)) (pw_or1 (pt_not (pt_val (pe_or2 (pe_ownG O_shownD hgd (hr.mono (by omega)) (by rfl) (pa_cons (pv 3) (pa_cons (pv 4) pa_nil))) (pe_ownG O_shownC hgd (hr.mono (by omega)) (by rfl) (pa_cons (pv 3) (pa_cons (pv 4) pa_nil))))))))) (pss_one (ps_ret pe_bl)) pss_nil)))))))))))))
      (pss_one (ps_ret pe_bl)))), ?_⟩
    refine ⟨_, rfl, a, ns, rfl, hS, hl, fun H1 d cc r s1 fd1 fc1 fr1 dk1 => ?_⟩
    have tb1 : LamX.Tabs TS H1 := by
      rw [hTS]
      intro p hp
      rcases List.mem_cons.mp hp with rfl | hp
      · exact LamX.TabS.nil (s1 _ _ (hT0 (_, _) (.head _)))
      · rw [List.mem_singleton.mp hp]
        exact LamX.TabS.nil (s1 _ _ (hT0 (c, Pt) (.tail _ (.head _))))
    refine ⟨4, rfl, by decide, by decide, ?_⟩
    refine for_range (n := 4) (fun i σ H' => ∃ y2 y3 y4 y5 y6 y7 y8 y9 y10 y11, σ = [some (.ref a), some (.ref d), y2, y3, y4, y5, y6, y7, y8, y9, y10, y11] ∧ Dk H' d cc r (1000 * i) ∧ LamX.Tabs TS H') ⟨none, none, none, none, none, none, none, none, none, none, rfl, dk1, tb1⟩ ?_ (fun σ H' _ => q H')
    rintro i σ H2 hi ⟨y2, y3, y4, y5, y6, y7, y8, y9, y10, y11, rfl, dk2, tb2⟩
    -- desk, state = begun(deck, draw(deck, 2) == 0)
    refine ⟨_, rfl, _, rfl, d, cc, r, _, 2, rfl, dk2, by omega, by omega, by omega, fun H3 vb hvb dk3 k3 => ⟨rfl, ?_⟩⟩
    have tb3 := tabs_kp tb2 dk2 k3
    refine ⟨d, cc, r, _, _, rfl, dk3, by omega, tb3, fun CX cp hx H4 L mv cv cap more g ts st p4 l1 l2 l3 wd4 co hcp hcap g3 mok ok hpast e4 => ?_⟩
    subst l1 l2 l3
    have dc : DskC K CX := by
      rcases hx with ⟨rfl, _⟩ | ⟨rfl, _⟩
      · exact DT.dD.dc
      · exact DT.dC.dc
    refine ⟨p4, _, rfl, .inl (.inl e4), rfl, _, _, rfl, _, _, rfl, rfl, ?_⟩
    have g1 := mok.one
    have g4 := mok.four
    -- for k in range(draw(deck, 7))
    refine ⟨_, rfl, L.d, L.cc, L.r, _, 7, rfl, wd4.dk, by omega, by omega, by omega, fun H5 mm hmm dk5 k5 => ⟨_, rfl, by omega, by omega, ?_⟩⟩
    rw [Int.toNat_natCast]
    have wd5 := wd4.draw k5 dk5
    refine for_range (n := mm) (fun j σ H' => ∃ (y5 y6 y7 y8 y9 y10 y11 : Option V) (st : DS), σ = [some (.ref a), some (.ref L.d), some (.int (0 + (i : Int))), some (.ref L.a), some (.ref L.st), y5, y6, y7, y8, y9, y10, y11] ∧ Wd K C CX H' L TS mv cv more g ts (1000 * i + 120 + 20 * j) st st ∧ DsOk g st ∧ st.past.length ≤ j)
      ⟨y5, y6, y7, y8, y9, y10, y11, st, rfl, wd5.mono (by omega), ok, by rw [hpast.1]; exact Nat.zero_le _⟩ ?_ ?_
    · rintro j σ H6 hj ⟨y5, y6, y7, y8, y9, y10, y11, st, rfl, wd6, ok6, lp6⟩
      refine orX (tf := fun CX cp => tCall (spDeed K C CX TS cp) [] E0 (tCons (tVar 1) (tCons (tVar 3) (tCons (tVar 4) tNil)))) hx ?_
      refine ⟨_, rfl, _, rfl, _, rfl, L, mv, cv, cap, more, g, ts, _, st, rfl, wd6, co, hcp, mok, ok6, by omega, by omega, fun H7 st7 wd7 ok7 lp7 _ => ⟨_, rfl, iteF (nxt_in ?_)⟩⟩
      exact ⟨_, _, _, _, _, _, _, st7, rfl, wd7.mono (by omega), ok7, by omega⟩
    rintro σ H6 ⟨y5, y6, y7, y8, y9, y10, y11, st, rfl, wd6, ok6, lp6⟩
    obtain ⟨m, tt, tvs, rfl, em6, ett6, htr6⟩ := id wd6.mv_
    obtain ⟨ta6, ua6, vs6, e16, e26, e46, e56, _⟩ := id wd6.sa.ex
    -- goods = state[0][0]
    refine ⟨_, rfl, L.st, _, _, _, rfl, rfl, SqL.of e16, (show atI _ ((0 : Nat) : Int) = _ from atI_nat rfl), m, _, _, _, rfl, rfl, .inl (.inl em6), (show atI _ ((0 : Nat) : Int) = _ from atI_nat rfl), ?_⟩
    -- row = bag(deck, goods, 2)
    refine ⟨_, rfl, _, rfl, L.d, L.cc, L.r, _, g, 2, rfl, wd6.dk, by omega, by omega, by omega, fun H7 pr z lz hz f7 e7 dk7 k7 => ?_⟩
    have wd7 := wd6.draw k7 dk7
    have hz0 : ∀ v ∈ z, 0 ≤ v := fun v hv => (hz v hv).1
    have zok : BgOk z := ⟨by omega, by omega, hz0⟩
    have no : ¬ mkB (bagD z) = false := by rw [mkB_ok zok]; exact fun z => nomatch z
    -- value = one(deck, [..])
    refine ⟨_, rfl, _, rfl, _, rfl, pr, _, rfl, .inr (.inl (.inl e7)), fun p8 z8 => ?_⟩
    have s8 := same_upd (o := .lst (z.map V.int)) z8
    have e8 : upd H7 p8 (.lst (z.map V.int)) p8 = some (.lst (z.map V.int)) := upd_same
    generalize upd H7 p8 (.lst (z.map V.int)) = H8 at s8 e8 ⊢
    refine rd_more0 (b := z) rfl (s8 _ _ e7) (by omega) zok fun H9 pm tm s9 bm mok9 => ?_
    refine fun p10 z10 => ?_
    have s10 := same_upd (o := .dK []) z10
    have e10 : upd H9 p10 (.dK []) p10 = some (.dK []) := upd_same
    generalize upd H9 p10 (.dK []) = H10 at s10 e10 ⊢
    refine ⟨_, rfl, _, rfl, .inl ⟨fun _ => True, _, Dat.mkBag trivial (((s8.trans s9).trans s10) _ _ e7), by rw [List.length_map]; omega, fun _ H11 px dpx s11 f11 epx => ?_, fun hm => absurd hm no⟩⟩
    refine ⟨(by show 1 ≤ sizeLine; decide), fun p12 z12 => ?_⟩
    have s12 := same_upd (o := .tup [V.ref px]) z12
    have e12 : upd H11 p12 (.tup [V.ref px]) p12 = some (.tup [V.ref px]) := upd_same
    generalize upd H11 p12 (.tup [V.ref px]) = H12 at s12 e12 ⊢
    refine ⟨(by show 9 ≤ sizeLine; decide), fun p13 z13 => ?_⟩
    have s13 := same_upd (o := .lst [V.non, V.ref pr, V.ref p8, V.int 3, V.str "1 0", V.ref pm, V.bl true, V.ref p10, V.ref p12]) z13
    have e13 : upd H12 p13 (.lst [V.non, V.ref pr, V.ref p8, V.int 3, V.str "1 0", V.ref pm, V.bl true, V.ref p10, V.ref p12]) p13 = some (.lst [V.non, V.ref pr, V.ref p8, V.int 3, V.str "1 0", V.ref pm, V.bl true, V.ref p10, V.ref p12]) := upd_same
    have s712 := (((s8.trans s9).trans s10).trans s11).trans s12
    have nd13 := (wd7.dk.same s712).nd z13
    generalize upd H12 p13 (.lst [V.non, V.ref pr, V.ref p8, V.int 3, V.str "1 0", V.ref pm, V.bl true, V.ref p10, V.ref p12]) = H13 at s13 e13 ⊢
    have wd13 := wd7.same (s712.trans s13)
    refine ⟨L.d, L.cc, L.r, p13, _, _, rfl, wd13.dk, by omega, e13, nd13.1, nd13.2.1, (by show 0 < 9; decide), (by show 9 ≤ 1000; decide), fun H14 j14 v hv14 dk14 k14 => ?_⟩
    have wd14 := wd13.draw k14 dk14
    have rf14 : Refd K C H14 z v := by
      match j14, hv14 with
      | 0, hm => cases hm; exact refd_non
      | 1, hm => cases hm; exact refd_tup (kp_obj k14 wd13.dk ((s712.trans s13) _ _ e7) fun _ z => nomatch z)
      | 2, hm => cases hm; exact refd_lst (k14 _ _ (wd7.dk.nd z8).1 (wd7.dk.nd z8).2.1 (((((s9.trans s10).trans s11).trans s12).trans s13) _ _ e8))
      | 3, hm => cases hm; exact refd_int 3
      | 4, hm => cases hm; exact refd_str "1 0"
      | 5, hm => cases hm; exact .inl ⟨pm, tm, _, rfl, (bm.same (((s10.trans s11).trans s12).trans s13)).kp k14 wd13.dk, mok9, by rw [List.length_append, List.length_singleton]; omega⟩
      | 6, hm => cases hm; exact refd_bl true
      | 7, hm => cases hm; exact refd_dK (kp_obj k14 wd13.dk (((s11.trans s12).trans s13) _ _ e10) fun _ z => nomatch z)
      | 8, hm => cases hm; exact refd_tup (kp_obj k14 wd13.dk (s13 _ _ e12) fun _ z => nomatch z)
    have er14 : H14 pr = some (.tup (z.map V.int)) := kp_obj k14 wd13.dk ((s712.trans s13) _ _ e7) fun _ z => nomatch z
    clear hv14 k14 e13 e12 e10 e8
    -- for k in range(5)
    refine ⟨5, rfl, by decide, by decide, ?_⟩
    refine for_range (n := 5) (fun n σ H' => ∃ (y5 : Option V), σ = [some (.ref a), some (.ref L.d), some (.int (0 + (i : Int))), some (.ref L.a), some (.ref L.st), y5, some (.int (g : Int)), some (.ref pr), some v, y9, y10, y11] ∧ Wd K C CX H' L TS (.ref m) cv more g ts (1000 * i + 400) st st ∧ Refd K C H' z v ∧ H' pr = some (.tup (z.map V.int)))
      ⟨_, rfl, wd14.mono (by omega), rf14, er14⟩ ?_ ?_
    · rintro n σ H15 hn ⟨y5', rfl, wd15, rf15, er15⟩
      refine orX (tf := fun CX cp => LamX.tLam TS (TMade (doneC cs)) (fun E => tCall (spAsked K C CX cs cp) [] E (tCons (tVar 3) (tCons (tVar 8) (tCons (tVar 5) tNil))))) hx ?_
      refine ⟨wd15.tb, fun H16 ex16 tb16 => ?_⟩
      have wd16 := wd15.lam ex16 tb16
      have rf16 := rf15.extN ex16
      have er16 := ex16 _ _ er15 fun _ z => nomatch z
      refine ⟨_, rfl, _, rfl, _, rfl, L.a, v, _, rfl, L.a, L.dx, L.pl, v, .ref m, cv, cap, more, g, ts, st, rfl, dc, wd16.da, co, hcp, wd16.mv_, mok, ok6, by omega, rf16.bad lz, clE_n (w := "bag") (by simp) fun H17 p17 s17 z17 e17 => ?_⟩
      refine ⟨(by show 1 ≤ sizeLine; decide), fun p18 z18 => ?_⟩
      have s18 := same_upd (o := .lst [V.str "bag"]) z18
      have e18 : upd H17 p18 (.lst [V.str "bag"]) p18 = some (.lst [V.str "bag"]) := upd_same
      generalize upd H17 p18 (.lst [V.str "bag"]) = H18 at s18 e18 ⊢
      refine bag_same (s18 _ _ e17) e18 ⟨_, rfl, iteF' ?_⟩
      have s1618 := s17.trans s18
      have wd18 := wd16.same s1618
      refine orX (tf := fun CX _ => tCall (spShown K C CX) [] E0 (tCons (tVar 3) (tCons (tVar 4) tNil))) hx ?_
      refine ⟨_, rfl, _, rfl, L.a, L.dx, L.pl, L.st, L.sl, _, cv, more, g, ts, st, rfl, dc, wd18.da, wd18.sa, wd18.mv_, mok, ok6, by omega, fun H19 s19 => ⟨_, rfl, iteF (nxt_in ?_)⟩⟩
      exact ⟨_, rfl, wd18.same s19, (rf16.same s1618).same s19, (s1618.trans s19) _ _ er16⟩
    rintro σ H15 ⟨y5', rfl, wd15, rf15, er15⟩
    -- for is_more in (True, False)
    refine ⟨(by show 2 ≤ sizeLine; decide), fun p16 z16 => ?_⟩
    have s16 := same_upd (o := .tup [V.bl true, V.bl false]) z16
    have e16 : upd H15 p16 (.tup [V.bl true, V.bl false]) p16 = some (.tup [V.bl true, V.bl false]) := upd_same
    generalize upd H15 p16 (.tup [V.bl true, V.bl false]) = H16 at s16 e16 ⊢
    refine ⟨p16, rfl, ⟨_, .inl (.inl e16)⟩, ?_⟩
    have wd16 := wd15.same s16
    have er16 := s16 _ _ er15
    refine for_tup (K := K) (a := p16) (xs := [V.bl true, V.bl false]) (fun n σ H' => ∃ (y9 y10 y11 : Option V) (st : DS), σ = [some (.ref a), some (.ref L.d), some (.int (0 + (i : Int))), some (.ref L.a), some (.ref L.st), y5', some (.int (g : Int)), some (.ref pr), some v, y9, y10, y11] ∧ Wd K C CX H' L TS (.ref m) cv more g ts (1000 * i + 400) st st ∧ DsOk g st ∧ st.past.length ≤ 10 + n ∧ KC C H16 H')
      ⟨y9, y10, y11, st, rfl, wd16, ok6, by omega, KC.of (Same.refl _)⟩ (fun n σ H' _ hP => ?_) ?_ ?_
    · obtain ⟨_, _, _, _, _, _, _, _, kc⟩ := hP
      exact .inl (.inl (kc.tup e16))
    · rintro n x σ H17 hxn ⟨y9, y10, y11, st, rfl, wd17, ok17, lp17, kc17⟩
      obtain ⟨b, rfl⟩ : ∃ b, x = V.bl b := by
        match n, hxn with
        | 0, h => cases h; exact ⟨_, rfl⟩
        | 1, h => cases h; exact ⟨_, rfl⟩
      have hn2 : n < 2 := (List.getElem?_eq_some_iff.mp hxn).1
      have er17 := kc17.tup er16
      obtain ⟨o, ho⟩ : ∃ o, o = if b then borrowO g cap st (some z) else payO g st (some z) := ⟨_, rfl⟩
      have fo : (∀ s', o ≠ .undid s') ∧ SmallO o ∧ DsOk g (o.next st) ∧ (o.next st).past.length ≤ st.past.length + 1 := by
        cases b with
        | true =>
          have ho : o = borrowO g cap st (some z) := ho
          rw [ho]
          exact ⟨borrow_nu, small_borrow ok17 g4 (by omega), borrow_ok ok17 (fun w hw => by cases hw; exact hz0), borrow_len⟩
        | false =>
          have ho : o = payO g st (some z) := ho
          rw [ho]
          exact ⟨pay_nu, small_pay ok17 g4 (by omega), pay_ok ok17, pay_len⟩
      obtain ⟨nu, sm, dok, dln⟩ := fo
      refine rd_due (more := more) rfl rfl rfl wd17.sa wd17.sep.s1 wd17.mv_ er17 lz hz0 co g4 ok17 (by omega) ?_
      rw [← ho]
      refine fun H18 p18 ke18 sa18 z18 e18 => ?_
      have wd18 := wd17.kept ke18 sa18
      obtain ⟨_, _, _, est, _, _, esl, _⟩ := id wd17.sa.ex
      have kc18 : KC C H17 H18 := KC.lists est esl ke18
      refine orX (tf := fun CX cp => LamX.tLam TS (TMade (doneC cs)) (fun E => tCall (spSigned K C CX cs cp) [] E (tCons (tVar 3) (tCons (tBag K C cs.bag E0 (tCons (tVar 7) tNil)) (tCons (tVar 9) tNil))))) hx ?_
      refine ⟨wd18.tb, fun H19 ex19 tb19 => ?_⟩
      have wd19 := wd18.lam ex19 tb19
      have kc19 : KC C H17 H19 := kc18.trans (KC.extN ex19)
      have er19 := kc19.tup er17
      have e19 : H19 p18 = some (.lst o.vals) := ex19 _ _ e18 fun _ z => nomatch z
      obtain ⟨b19, t19, o19, u19, ws19, ea19, _, _, ep19, _⟩ := id wd19.da.ex
      obtain ⟨_, _, _, _, _, _, _, _, ep17, _⟩ := id wd17.da.ex
      have nl : p18 ≠ L.pl := ne_of_none' ep17 z18
      have na : p18 ≠ L.a := fun z => by rw [z, ea19] at e19; cases e19
      refine ⟨_, rfl, _, rfl, _, rfl, .inl ⟨fun _ => True, _, Dat.mkBag trivial er19, by rw [List.length_map]; omega, fun _ H20 px2 dpx2 s20 f20 epx2 => ?_, fun hm => absurd hm no⟩⟩
      have wd20 := wd19.same s20
      refine ⟨_, rfl, L.a, L.dx, L.pl, .ref px2, .ref m, cv, cap, more, g, ts, st, b, rfl, dc, wd20.da, co, hcp, wd20.mv_, mok, ok17, by omega, .inl ⟨px2, pr, z, rfl, ⟨⟨dpx2, epx2⟩, s20 _ _ er19⟩, zok, ?_⟩⟩
      show Meet K C CX cs H20 L.a L.dx L.pl (V.ref m) more _ _ (if b then borrowO g cap st (some z) else payO g st (some z))
      rw [← ho]
      refine meet_signed nu wd20.da fun H21 p21 ke21 d21 n1 n2 e21 => ?_
      have wd21 := wd20.desk ke21 d21
      have e21' := ke21 _ _ na nl (s20 _ _ e19)
      obtain ⟨_, _, _, _, _, ea20, _, _, ep20, _⟩ := id wd20.da.ex
      have kc21 : KC C H17 H21 := (kc19.trans (KC.of s20)).trans (KC.desk ea20 ep20 wd20.da.ne ke21)
      have tok := sg_ok sm
      have sh1 := fine_show _ tok.fi
      have sh2 := tok.shown (by omega)
      have sh3 : (PyData.list ((sgVals o).map vD)).depth ≤ 100 := Nat.le_trans tok.dp (by omega)
      have dt : ∀ {H' : Hp} {p : Addr}, H' p = some (.lst (sgVals o)) → Dat (fun _ => True) H' (.ref p) (.list ((sgVals o).map vD)) := fun e => .lst trivial e (smalls_dats (small_sg sm))
      refine ⟨_, rfl, fun _ => True, _, _, rfl, dt e21, sh1, sh2, sh3, ?_⟩
      obtain ⟨w, rr, hv, hc⟩ := sg_due nu
      have e21w : H21 p18 = some (.lst (V.str w :: rr)) := by
        rw [← hv]
        exact e21'
      refine ⟨_, rfl, p18, _, _, _, rfl, rfl, SqL.of e21w, (show atI _ ((0 : Nat) : Int) = _ from atI_nat rfl), rfl, _, rfl, ?_⟩
      have shown : ∀ H22, Same H21 H22 → spShown K C CX [.ref L.a, .ref L.st] H22 (fun v H' => v = .bl true ∧ Same H22 H') E0 := fun H22 s22 => ⟨L.a, L.dx, L.pl, L.st, L.sl, _, cv, more, g, ts, _, rfl, dc, (wd21.same s22).da, (wd21.same s22).sa, (wd21.same s22).mv_, mok, dok, by omega, fun H' s' => ⟨rfl, s'⟩⟩
      rcases hc with ⟨rfl, hs⟩ | ⟨hw, hs⟩
      · rw [decide_eq_true (rfl : V.str "ok" = V.str "ok")]
        refine iteT ⟨(by show 2 ≤ sizeLine; decide), fun p22 z22 => ?_⟩
        have s22 := same_upd (o := .lst [V.str "ok", V.bl true]) z22
        have e22 : upd H21 p22 (.lst [V.str "ok", V.bl true]) p22 = some (.lst (sgVals o)) := by rw [hs]; exact upd_same
        generalize upd H21 p22 (.lst [V.str "ok", V.bl true]) = H22 at s22 e22 ⊢
        refine ⟨fun _ => True, _, _, rfl, dt e22, sh1, sh2, sh3, ?_⟩
        refine ne_same (iteF' ?_)
        refine orX (tf := fun CX _ => tCall (spShown K C CX) [] E0 (tCons (tVar 3) (tCons (tVar 4) tNil))) hx ?_
        have wd22 := wd21.same s22
        refine ⟨_, rfl, _, rfl, L.a, L.dx, L.pl, L.st, L.sl, _, cv, more, g, ts, _, rfl, dc, wd22.da, wd22.sa, wd22.mv_, mok, dok, by omega, fun H23 s23 => ⟨_, rfl, iteF (nxt_in ?_)⟩⟩
        exact ⟨_, _, _, _, rfl, wd22.same s23, dok, by omega, ((kc17.trans kc21).trans (KC.of s22)).trans (KC.of s23)⟩
      · rw [decide_eq_false (fun z => hw (V.str.inj z))]
        refine iteF ⟨_, rfl, ?_⟩
        refine ⟨fun _ => True, _, _, rfl, dt (by rw [hs]; exact e21'), sh1, sh2, sh3, ?_⟩
        refine ne_same (iteF' ?_)
        refine orX (tf := fun CX _ => tCall (spShown K C CX) [] E0 (tCons (tVar 3) (tCons (tVar 4) tNil))) hx ?_
        refine ⟨_, rfl, _, rfl, L.a, L.dx, L.pl, L.st, L.sl, _, cv, more, g, ts, _, rfl, dc, wd21.da, wd21.sa, wd21.mv_, mok, dok, by omega, fun H23 s23 => ⟨_, rfl, iteF (nxt_in ?_)⟩⟩
        exact ⟨_, _, _, _, rfl, wd21.same s23, dok, by omega, (kc17.trans kc21).trans (KC.of s23)⟩
    · rintro σ H17 ⟨y9, y10, y11, st, rfl, wd17, ok17, lp17, kc17⟩
      exact ⟨_, _, _, _, _, _, _, _, _, _, rfl, wd17.dk.mono (by omega), wd17.tb⟩

end
end Lb
set_option Elab.async false
set_option linter.all false
set_option maxRecDepth 100000
set_option maxHeartbeats 8000000
namespace Lb
open PySem PySem.Spec PyProof.Rows L2 RZ TL
section
variable {P : Program} {w : World} {K : PySem.W.Frag} {mg : Str → Option Value} {base : Heap}
theorem all_nilL {α : Type} {p : α → Prop} : ∀ q ∈ ([] : List α), p q := fun q hq => absurd hq List.not_mem_nil
theorem all_consL {α : Type} {p : α → Prop} {a : α} {l : List α} (h : p a) (k : ∀ q ∈ l, p q) : ∀ q ∈ a :: l, p q := fun q hq => by
  rcases List.mem_cons.mp hq with rfl | hq
  · exact h
  · exact k q hq
def DistR (K : PySem.W.Frag) (c : Addr) : Clz → Prop
  | [] => True
  | x :: r => PySem.W.exmOne K (.ref x.1) (.ref c) = some false ∧ DistR K c r
def DistP (K : PySem.W.Frag) : Clz → Prop
  | [] => True
  | c :: r => PySem.W.exmOne K (.ref c.1) (.ref c.1) = some true ∧ DistR K c.1 r ∧ DistP K r
theorem distR_all {K : PySem.W.Frag} {c : Addr} : ∀ {l : Clz}, DistR K c l → ∀ x ∈ l, PySem.W.exmOne K (.ref x.1) (.ref c) = some false
  | [], _, x, hx => absurd hx List.not_mem_nil
  | y :: l, h, x, hx => by
    rcases List.mem_cons.mp hx with rfl | hx
    · exact h.1
    · exact distR_all h.2 x hx
theorem dist_of {K : PySem.W.Frag} : ∀ {l : Clz}, DistP K l → Dist K l
  | [], _ => trivial
  | c :: l, h => ⟨h.1, distR_all h.2.1, dist_of h.2.2⟩
theorem cfun_of {C g : Addr} {m : Str} {k : Nat} {ps : List Str} {sp : Sp} {mc : Value} (O : OwnM P w K mg base C m k ps sp) (a : PySem.W.findIn K (.ref C) m = some (some (.ref g))) (r : ClX.CRead K C mc) (v : PySem.W.findCls K (.ref C) mc m = some (.val (.ref g))) (kp : PySem.W.keepIn K (.ref g) = true) : CFunO P w K mg base C m k sp := by
  obtain ⟨f, fd, M, F, b⟩ := O.ex
  have e := M.at_.symm.trans a
  cases e
  exact ⟨mc, g, r, ⟨v, rfl⟩, kp, (FnOk.raw F b .nil).imp fun vs H Q E h => by rw [List.append_nil]; exact h⟩
theorem tab_fst {P1 P2 : Addr} {x y : Str} (ne : P1 ≠ P2) : TabFor [(P1, lamQ x), (P2, lamQ y)] P1 x := by
  refine ⟨.head _, fun p hp e => ?_⟩
  rcases List.mem_cons.mp hp with rfl | hp
  · rfl
  · rw [List.mem_singleton.mp hp] at e
    exact absurd e.symm ne

end
end Lb
set_option Elab.async false
set_option linter.all false
set_option maxRecDepth 100000
set_option maxHeartbeats 8000000
namespace Lb
open PySem PySem.Spec PyProof.Rows L2 RZ
theorem all_mk {l : PySem.W.OpenLaw} {w : World} {K : PySem.W.Frag} {h : Heap} {mg : Str → Option Value} {fa f0 f1 f2 f3 f4 f5 f6 f7 f8 f9 f10 f11 f12 f13 f14 f15 f16 f17 f18 f19 f20 f21 f22 f23 f24 f25 f26 f27 f28 f29 f30 f31 f32 : Addr} (X : K.In h) (G : h.Ns mainGlobals mg) (hfa : mg "law" = some (.ref fa)) (own : ∀ y ∈ [("_law_deed" : Str), ("law" : Str)], ∀ f, mg y = some (.ref f) → LamX.OwnTab K f h)
    {od0 an0 : Option Addr} {sl0 : Array (Option Value)} {oc0 kV0 dc0 pm0 cd0 ct0 : Value}
    {od1 an1 : Option Addr} {sl1 : Array (Option Value)} {oc1 kV1 dc1 pm1 cd1 ct1 : Value}
    {od2 an2 : Option Addr} {sl2 : Array (Option Value)} {oc2 kV2 dc2 pm2 cd2 ct2 : Value}
    {od3 an3 : Option Addr} {sl3 : Array (Option Value)} {oc3 kV3 dc3 pm3 cd3 ct3 : Value}
    {od4 an4 : Option Addr} {sl4 : Array (Option Value)} {oc4 kV4 dc4 pm4 cd4 ct4 : Value}
    {od5 an5 : Option Addr} {sl5 : Array (Option Value)} {oc5 kV5 dc5 pm5 cd5 ct5 : Value}
    {od6 an6 : Option Addr} {sl6 : Array (Option Value)} {oc6 kV6 dc6 pm6 cd6 ct6 : Value}
    {od7 an7 : Option Addr} {sl7 : Array (Option Value)} {oc7 kV7 dc7 pm7 cd7 ct7 : Value}
    {od8 an8 : Option Addr} {sl8 : Array (Option Value)} {oc8 kV8 dc8 pm8 cd8 ct8 : Value}
    {od9 an9 : Option Addr} {sl9 : Array (Option Value)} {oc9 kV9 dc9 pm9 cd9 ct9 : Value}
    {od10 an10 : Option Addr} {sl10 : Array (Option Value)} {oc10 kV10 dc10 pm10 cd10 ct10 : Value}
    {od11 an11 : Option Addr} {sl11 : Array (Option Value)} {oc11 kV11 dc11 pm11 cd11 ct11 : Value}
    {od12 an12 : Option Addr} {sl12 : Array (Option Value)} {oc12 kV12 dc12 pm12 cd12 ct12 : Value}
    {od13 an13 : Option Addr} {sl13 : Array (Option Value)} {oc13 kV13 dc13 pm13 cd13 ct13 : Value}
    {od14 an14 : Option Addr} {sl14 : Array (Option Value)} {oc14 kV14 dc14 pm14 cd14 ct14 : Value}
    {od15 an15 : Option Addr} {sl15 : Array (Option Value)} {oc15 kV15 dc15 pm15 cd15 ct15 : Value}
    {od16 an16 : Option Addr} {sl16 : Array (Option Value)} {oc16 kV16 dc16 pm16 cd16 ct16 : Value}
    {od17 an17 : Option Addr} {sl17 : Array (Option Value)} {oc17 kV17 dc17 pm17 cd17 ct17 : Value}
    {od18 an18 : Option Addr} {sl18 : Array (Option Value)} {oc18 kV18 dc18 pm18 ct18 : Value}
    {od19 an19 : Option Addr} {sl19 : Array (Option Value)} {oc19 kV19 dc19 pm19 cd19 ct19 : Value}
    {od20 an20 : Option Addr} {sl20 : Array (Option Value)} {oc20 kV20 dc20 pm20 cd20 ct20 : Value}
    {od21 an21 : Option Addr} {sl21 : Array (Option Value)} {oc21 kV21 dc21 pm21 cd21 ct21 : Value}
    {od22 an22 : Option Addr} {sl22 : Array (Option Value)} {oc22 kV22 dc22 pm22 cd22 ct22 : Value}
    {od23 an23 : Option Addr} {sl23 : Array (Option Value)} {oc23 kV23 dc23 pm23 cd23 ct23 : Value}
    {od24 an24 : Option Addr} {sl24 : Array (Option Value)} {oc24 kV24 dc24 pm24 cd24 ct24 : Value}
    {od25 an25 : Option Addr} {sl25 : Array (Option Value)} {oc25 kV25 dc25 pm25 cd25 ct25 : Value}
    {od26 an26 : Option Addr} {sl26 : Array (Option Value)} {oc26 kV26 dc26 pm26 cd26 ct26 : Value}
    {od27 an27 : Option Addr} {sl27 : Array (Option Value)} {oc27 kV27 dc27 pm27 cd27 ct27 : Value}
    {od28 an28 : Option Addr} {sl28 : Array (Option Value)} {oc28 kV28 dc28 pm28 cd28 ct28 : Value}
    {od29 an29 : Option Addr} {sl29 : Array (Option Value)} {oc29 kV29 dc29 pm29 cd29 ct29 : Value}
    {od30 an30 : Option Addr} {sl30 : Array (Option Value)} {oc30 kV30 dc30 pm30 cd30 ct30 : Value}
    {od31 an31 : Option Addr} {sl31 : Array (Option Value)} {oc31 kV31 dc31 pm31 cd31 ct31 : Value}
    {od32 an32 : Option Addr} {sl32 : Array (Option Value)} {oc32 kV32 dc32 pm32 ct32 : Value}
    {cT18 Pt18 : Addr} {oe18 : Value} {odd18 : Option Addr} {vsC18 : Array Value} {slC18 : Array (Option Value)}
    {cT32 Pt32 : Addr} {oe32 : Value} {odd32 : Option Addr} {vsC32 : Array Value} {slC32 : Array (Option Value)}
    (a0 : PySem.W.nsIn K mainGlobals "_law_deck" = some (some (.ref f0)))
    (l0 : K.lookup f0 = some ⟨oc0, od0, .func (PySem.W.fnOf "_law_deck" "_law_deck" (defArgs s__law_deck) (defBody s__law_deck) (defScope s__law_deck) .none kV0 dc0 pm0 an0 cd0 ct0), sl0⟩) (c0 : PySem.W.codeIn K cd0 "_law_deck" = true) (k0 : PySem.W.keepIn K (.ref f0) = true)
    (a1 : PySem.W.nsIn K mainGlobals "_law_draw" = some (some (.ref f1)))
    (l1 : K.lookup f1 = some ⟨oc1, od1, .func (PySem.W.fnOf "_law_draw" "_law_draw" (defArgs s__law_draw) (defBody s__law_draw) (defScope s__law_draw) .none kV1 dc1 pm1 an1 cd1 ct1), sl1⟩) (c1 : PySem.W.codeIn K cd1 "_law_draw" = true) (k1 : PySem.W.keepIn K (.ref f1) = true)
    (a2 : PySem.W.nsIn K mainGlobals "_law_one" = some (some (.ref f2)))
    (l2 : K.lookup f2 = some ⟨oc2, od2, .func (PySem.W.fnOf "_law_one" "_law_one" (defArgs s__law_one) (defBody s__law_one) (defScope s__law_one) .none kV2 dc2 pm2 an2 cd2 ct2), sl2⟩) (c2 : PySem.W.codeIn K cd2 "_law_one" = true) (k2 : PySem.W.keepIn K (.ref f2) = true)
    (a3 : PySem.W.nsIn K mainGlobals "_law_bag" = some (some (.ref f3)))
    (l3 : K.lookup f3 = some ⟨oc3, od3, .func (PySem.W.fnOf "_law_bag" "_law_bag" (defArgs s__law_bag) (defBody s__law_bag) (defScope s__law_bag) .none kV3 dc3 pm3 an3 cd3 ct3), sl3⟩) (c3 : PySem.W.codeIn K cd3 "_law_bag" = true) (k3 : PySem.W.keepIn K (.ref f3) = true)
    (a4 : PySem.W.nsIn K mainGlobals "_law_side" = some (some (.ref f4)))
    (l4 : K.lookup f4 = some ⟨oc4, od4, .func (PySem.W.fnOf "_law_side" "_law_side" (defArgs s__law_side) (defBody s__law_side) (defScope s__law_side) .none kV4 dc4 pm4 an4 cd4 ct4), sl4⟩) (c4 : PySem.W.codeIn K cd4 "_law_side" = true) (k4 : PySem.W.keepIn K (.ref f4) = true)
    (a5 : PySem.W.nsIn K mainGlobals "_law_trade" = some (some (.ref f5)))
    (l5 : K.lookup f5 = some ⟨oc5, od5, .func (PySem.W.fnOf "_law_trade" "_law_trade" (defArgs s__law_trade) (defBody s__law_trade) (defScope s__law_trade) .none kV5 dc5 pm5 an5 cd5 ct5), sl5⟩) (c5 : PySem.W.codeIn K cd5 "_law_trade" = true) (k5 : PySem.W.keepIn K (.ref f5) = true)
    (a6 : PySem.W.nsIn K mainGlobals "_law_market" = some (some (.ref f6)))
    (l6 : K.lookup f6 = some ⟨oc6, od6, .func (PySem.W.fnOf "_law_market" "_law_market" (defArgs s__law_market) (defBody s__law_market) (defScope s__law_market) .none kV6 dc6 pm6 an6 cd6 ct6), sl6⟩) (c6 : PySem.W.codeIn K cd6 "_law_market" = true) (k6 : PySem.W.keepIn K (.ref f6) = true)
    (a7 : PySem.W.nsIn K mainGlobals "_law_small" = some (some (.ref f7)))
    (l7 : K.lookup f7 = some ⟨oc7, od7, .func (PySem.W.fnOf "_law_small" "_law_small" (defArgs s__law_small) (defBody s__law_small) (defScope s__law_small) .none kV7 dc7 pm7 an7 cd7 ct7), sl7⟩) (c7 : PySem.W.codeIn K cd7 "_law_small" = true) (k7 : PySem.W.keepIn K (.ref f7) = true)
    (a8 : PySem.W.nsIn K mainGlobals "_law_plus" = some (some (.ref f8)))
    (l8 : K.lookup f8 = some ⟨oc8, od8, .func (PySem.W.fnOf "_law_plus" "_law_plus" (defArgs s__law_plus) (defBody s__law_plus) (defScope s__law_plus) .none kV8 dc8 pm8 an8 cd8 ct8), sl8⟩) (c8 : PySem.W.codeIn K cd8 "_law_plus" = true) (k8 : PySem.W.keepIn K (.ref f8) = true)
    (a9 : PySem.W.nsIn K mainGlobals "_law_less" = some (some (.ref f9)))
    (l9 : K.lookup f9 = some ⟨oc9, od9, .func (PySem.W.fnOf "_law_less" "_law_less" (defArgs s__law_less) (defBody s__law_less) (defScope s__law_less) .none kV9 dc9 pm9 an9 cd9 ct9), sl9⟩) (c9 : PySem.W.codeIn K cd9 "_law_less" = true) (k9 : PySem.W.keepIn K (.ref f9) = true)
    (a10 : PySem.W.nsIn K mainGlobals "_law_tell" = some (some (.ref f10)))
    (l10 : K.lookup f10 = some ⟨oc10, od10, .func (PySem.W.fnOf "_law_tell" "_law_tell" (defArgs s__law_tell) (defBody s__law_tell) (defScope s__law_tell) .none kV10 dc10 pm10 an10 cd10 ct10), sl10⟩) (c10 : PySem.W.codeIn K cd10 "_law_tell" = true) (k10 : PySem.W.keepIn K (.ref f10) = true)
    (a11 : PySem.W.nsIn K mainGlobals "_law_kept" = some (some (.ref f11)))
    (l11 : K.lookup f11 = some ⟨oc11, od11, .func (PySem.W.fnOf "_law_kept" "_law_kept" (defArgs s__law_kept) (defBody s__law_kept) (defScope s__law_kept) .none kV11 dc11 pm11 an11 cd11 ct11), sl11⟩) (c11 : PySem.W.codeIn K cd11 "_law_kept" = true) (k11 : PySem.W.keepIn K (.ref f11) = true)
    (a12 : PySem.W.nsIn K mainGlobals "_law_borrowed" = some (some (.ref f12)))
    (l12 : K.lookup f12 = some ⟨oc12, od12, .func (PySem.W.fnOf "_law_borrowed" "_law_borrowed" (defArgs s__law_borrowed) (defBody s__law_borrowed) (defScope s__law_borrowed) .none kV12 dc12 pm12 an12 cd12 ct12), sl12⟩) (c12 : PySem.W.codeIn K cd12 "_law_borrowed" = true) (k12 : PySem.W.keepIn K (.ref f12) = true)
    (a13 : PySem.W.nsIn K mainGlobals "_law_paid" = some (some (.ref f13)))
    (l13 : K.lookup f13 = some ⟨oc13, od13, .func (PySem.W.fnOf "_law_paid" "_law_paid" (defArgs s__law_paid) (defBody s__law_paid) (defScope s__law_paid) .none kV13 dc13 pm13 an13 cd13 ct13), sl13⟩) (c13 : PySem.W.codeIn K cd13 "_law_paid" = true) (k13 : PySem.W.keepIn K (.ref f13) = true)
    (a14 : PySem.W.nsIn K mainGlobals "_law_undone" = some (some (.ref f14)))
    (l14 : K.lookup f14 = some ⟨oc14, od14, .func (PySem.W.fnOf "_law_undone" "_law_undone" (defArgs s__law_undone) (defBody s__law_undone) (defScope s__law_undone) .none kV14 dc14 pm14 an14 cd14 ct14), sl14⟩) (c14 : PySem.W.codeIn K cd14 "_law_undone" = true) (k14 : PySem.W.keepIn K (.ref f14) = true)
    (a15 : PySem.W.nsIn K mainGlobals "_law_done" = some (some (.ref f15)))
    (l15 : K.lookup f15 = some ⟨oc15, od15, .func (PySem.W.fnOf "_law_done" "_law_done" (defArgs s__law_done) (defBody s__law_done) (defScope s__law_done) .none kV15 dc15 pm15 an15 cd15 ct15), sl15⟩) (c15 : PySem.W.codeIn K cd15 "_law_done" = true) (k15 : PySem.W.keepIn K (.ref f15) = true)
    (a16 : PySem.W.nsIn K mainGlobals "_law_is_shown" = some (some (.ref f16)))
    (l16 : K.lookup f16 = some ⟨oc16, od16, .func (PySem.W.fnOf "_law_is_shown" "_law_is_shown" (defArgs s__law_is_shown) (defBody s__law_is_shown) (defScope s__law_is_shown) .none kV16 dc16 pm16 an16 cd16 ct16), sl16⟩) (c16 : PySem.W.codeIn K cd16 "_law_is_shown" = true) (k16 : PySem.W.keepIn K (.ref f16) = true)
    (a17 : PySem.W.nsIn K mainGlobals "_law_taken_back" = some (some (.ref f17)))
    (l17 : K.lookup f17 = some ⟨oc17, od17, .func (PySem.W.fnOf "_law_taken_back" "_law_taken_back" (defArgs s__law_taken_back) (defBody s__law_taken_back) (defScope s__law_taken_back) .none kV17 dc17 pm17 an17 cd17 ct17), sl17⟩) (c17 : PySem.W.codeIn K cd17 "_law_taken_back" = true) (k17 : PySem.W.keepIn K (.ref f17) = true)
    (a18 : PySem.W.nsIn K mainGlobals "_law_deed" = some (some (.ref f18)))
    (l18 : K.lookup f18 = some ⟨oc18, od18, .func (PySem.W.fnOf "_law_deed" "_law_deed" (defArgs s__law_deed) (defBody s__law_deed) (defScope s__law_deed) .none kV18 dc18 pm18 an18 (.ref cT18) ct18), sl18⟩) (c18 : PySem.W.codeIn K (.ref cT18) "_law_deed" = true) (k18 : PySem.W.keepIn K (.ref f18) = true)
    (a19 : PySem.W.nsIn K mainGlobals "_law_begun" = some (some (.ref f19)))
    (l19 : K.lookup f19 = some ⟨oc19, od19, .func (PySem.W.fnOf "_law_begun" "_law_begun" (defArgs s__law_begun) (defBody s__law_begun) (defScope s__law_begun) .none kV19 dc19 pm19 an19 cd19 ct19), sl19⟩) (c19 : PySem.W.codeIn K cd19 "_law_begun" = true) (k19 : PySem.W.keepIn K (.ref f19) = true)
    (a20 : PySem.W.nsIn K mainGlobals "is_whole" = some (some (.ref f20)))
    (l20 : K.lookup f20 = some ⟨oc20, od20, .func (PySem.W.fnOf "is_whole" "is_whole" (defArgs s_is_whole) (defBody s_is_whole) (defScope s_is_whole) .none kV20 dc20 pm20 an20 cd20 ct20), sl20⟩) (c20 : PySem.W.codeIn K cd20 "is_whole" = true) (k20 : PySem.W.keepIn K (.ref f20) = true)
    (a21 : PySem.W.nsIn K mainGlobals "is_pair" = some (some (.ref f21)))
    (l21 : K.lookup f21 = some ⟨oc21, od21, .func (PySem.W.fnOf "is_pair" "is_pair" (defArgs s_is_pair) (defBody s_is_pair) (defScope s_is_pair) .none kV21 dc21 pm21 an21 cd21 ct21), sl21⟩) (c21 : PySem.W.codeIn K cd21 "is_pair" = true) (k21 : PySem.W.keepIn K (.ref f21) = true)
    (a22 : PySem.W.nsIn K mainGlobals "is_bag" = some (some (.ref f22)))
    (l22 : K.lookup f22 = some ⟨oc22, od22, .func (PySem.W.fnOf "is_bag" "is_bag" (defArgs s_is_bag) (defBody s_is_bag) (defScope s_is_bag) .none kV22 dc22 pm22 an22 cd22 ct22), sl22⟩) (c22 : PySem.W.codeIn K cd22 "is_bag" = true) (k22 : PySem.W.keepIn K (.ref f22) = true)
    (a23 : PySem.W.nsIn K mainGlobals "trade_fault" = some (some (.ref f23)))
    (l23 : K.lookup f23 = some ⟨oc23, od23, .func (PySem.W.fnOf "trade_fault" "trade_fault" (defArgs s_trade_fault) (defBody s_trade_fault) (defScope s_trade_fault) .none kV23 dc23 pm23 an23 cd23 ct23), sl23⟩) (c23 : PySem.W.codeIn K cd23 "trade_fault" = true) (k23 : PySem.W.keepIn K (.ref f23) = true)
    (a24 : PySem.W.nsIn K mainGlobals "market_error" = some (some (.ref f24)))
    (l24 : K.lookup f24 = some ⟨oc24, od24, .func (PySem.W.fnOf "market_error" "market_error" (defArgs s_market_error) (defBody s_market_error) (defScope s_market_error) .none kV24 dc24 pm24 an24 cd24 ct24), sl24⟩) (c24 : PySem.W.codeIn K cd24 "market_error" = true) (k24 : PySem.W.keepIn K (.ref f24) = true)
    (a25 : PySem.W.nsIn K mainGlobals "joined" = some (some (.ref f25)))
    (l25 : K.lookup f25 = some ⟨oc25, od25, .func (PySem.W.fnOf "joined" "joined" (defArgs s_joined) (defBody s_joined) (defScope s_joined) .none kV25 dc25 pm25 an25 cd25 ct25), sl25⟩) (c25 : PySem.W.codeIn K cd25 "joined" = true) (k25 : PySem.W.keepIn K (.ref f25) = true)
    (a26 : PySem.W.nsIn K mainGlobals "first_lacking" = some (some (.ref f26)))
    (l26 : K.lookup f26 = some ⟨oc26, od26, .func (PySem.W.fnOf "first_lacking" "first_lacking" (defArgs s_first_lacking) (defBody s_first_lacking) (defScope s_first_lacking) .none kV26 dc26 pm26 an26 cd26 ct26), sl26⟩) (c26 : PySem.W.codeIn K cd26 "first_lacking" = true) (k26 : PySem.W.keepIn K (.ref f26) = true)
    (a27 : PySem.W.nsIn K mainGlobals "desk_error" = some (some (.ref f27)))
    (l27 : K.lookup f27 = some ⟨oc27, od27, .func (PySem.W.fnOf "desk_error" "desk_error" (defArgs s_desk_error) (defBody s_desk_error) (defScope s_desk_error) .none kV27 dc27 pm27 an27 cd27 ct27), sl27⟩) (c27 : PySem.W.codeIn K cd27 "desk_error" = true) (k27 : PySem.W.keepIn K (.ref f27) = true)
    (a28 : PySem.W.nsIn K mainGlobals "check_kind" = some (some (.ref f28)))
    (l28 : K.lookup f28 = some ⟨oc28, od28, .func (PySem.W.fnOf "check_kind" "check_kind" (defArgs s_check_kind) (defBody s_check_kind) (defScope s_check_kind) .none kV28 dc28 pm28 an28 cd28 ct28), sl28⟩) (c28 : PySem.W.codeIn K cd28 "check_kind" = true) (k28 : PySem.W.keepIn K (.ref f28) = true)
    (a29 : PySem.W.nsIn K mainGlobals "check_room" = some (some (.ref f29)))
    (l29 : K.lookup f29 = some ⟨oc29, od29, .func (PySem.W.fnOf "check_room" "check_room" (defArgs s_check_room) (defBody s_check_room) (defScope s_check_room) .none kV29 dc29 pm29 an29 cd29 ct29), sl29⟩) (c29 : PySem.W.codeIn K cd29 "check_room" = true) (k29 : PySem.W.keepIn K (.ref f29) = true)
    (a30 : PySem.W.nsIn K mainGlobals "_law_signed" = some (some (.ref f30)))
    (l30 : K.lookup f30 = some ⟨oc30, od30, .func (PySem.W.fnOf "_law_signed" "_law_signed" (defArgs s__law_signed) (defBody s__law_signed) (defScope s__law_signed) .none kV30 dc30 pm30 an30 cd30 ct30), sl30⟩) (c30 : PySem.W.codeIn K cd30 "_law_signed" = true) (k30 : PySem.W.keepIn K (.ref f30) = true)
    (a31 : PySem.W.nsIn K mainGlobals "_law_asked" = some (some (.ref f31)))
    (l31 : K.lookup f31 = some ⟨oc31, od31, .func (PySem.W.fnOf "_law_asked" "_law_asked" (defArgs s__law_asked) (defBody s__law_asked) (defScope s__law_asked) .none kV31 dc31 pm31 an31 cd31 ct31), sl31⟩) (c31 : PySem.W.codeIn K cd31 "_law_asked" = true) (k31 : PySem.W.keepIn K (.ref f31) = true)
    (a32 : PySem.W.nsIn K mainGlobals "law" = some (some (.ref f32)))
    (l32 : K.lookup f32 = some ⟨oc32, od32, .func (PySem.W.fnOf "law" "law" (defArgs s_law) (defBody s_law) (defScope s_law) .none kV32 dc32 pm32 an32 (.ref cT32) ct32), sl32⟩) (c32 : PySem.W.codeIn K (.ref cT32) "law" = true) (k32 : PySem.W.keepIn K (.ref f32) = true)
    (vl18 : K.lookup cT18 = some ⟨oe18, odd18, .fields vsC18, slC18⟩) (v11_18 : vsC18[11]? = some (.ref Pt18)) (nPt18 : K.lookup Pt18 = none) (hhd18 : PySem.W.codeHdIn K cT18 Pt18 = true)
    (vl32 : K.lookup cT32 = some ⟨oe32, odd32, .fields vsC32, slC32⟩) (v11_32 : vsC32[11]? = some (.ref Pt32)) (nPt32 : K.lookup Pt32 = none) (hhd32 : PySem.W.codeHdIn K cT32 Pt32 = true)
    {C_BadMarket fI_BadMarket N_BadMarket : Addr} {nm_BadMarket q_BadMarket : Str} {bs_BadMarket bm_BadMarket sub_BadMarket : List Value} {sn_BadMarket : List Str} {ab_BadMarket : Bool} {col_BadMarket : Option Bool} {dd_BadMarket : Option Addr} {m0_BadMarket m1_BadMarket m2_BadMarket m3_BadMarket m5_BadMarket : Option Value} {odI_BadMarket anI_BadMarket : Option Addr} {slI_BadMarket : Array (Option Value)} {ocI_BadMarket kVI_BadMarket dcI_BadMarket pmI_BadMarket cdI_BadMarket ctI_BadMarket : Value}
    (eA_BadMarket : PySem.W.nsIn K mainGlobals "BadMarket" = some (some (.ref C_BadMarket))) (eX_BadMarket : K.lookup C_BadMarket = some (excClassObj nm_BadMarket q_BadMarket C_BadMarket N_BadMarket bs_BadMarket bm_BadMarket true sn_BadMarket sub_BadMarket ab_BadMarket col_BadMarket dd_BadMarket m0_BadMarket m1_BadMarket m2_BadMarket m3_BadMarket m5_BadMarket "ValueError.__new__")) (eR_BadMarket : PySem.HandSPX.refsVE bm_BadMarket = true)
    (eS_BadMarket : PySem.W.findIn K (.ref C_BadMarket) "__setattr__" = some (some (.builtin "object.__setattr__"))) (eG_BadMarket : PySem.W.findIn K (.ref C_BadMarket) "__getattribute__" = some (some (.builtin "BaseException.__getattribute__"))) (eH_BadMarket : PySem.W.findIn K (.ref C_BadMarket) "__getattr__" = some none) (eN_BadMarket : PySem.W.findIn K (.ref C_BadMarket) "error" = some none)
    (eK_BadMarket : PySem.W.keepIn K (.ref C_BadMarket) = true) (eB_BadMarket : PySem.W.subIn K (.ref C_BadMarket) (.type "BaseException") = some true) (eT_BadMarket : PySem.W.typeIn K (.ref C_BadMarket) = some (.type "type")) (eD_BadMarket : PySem.W.hasDictIn K C_BadMarket = true) (eM_BadMarket : PySem.W.exmOne K (.ref C_BadMarket) (.ref C_BadMarket) = some true)
    (eI_BadMarket : PySem.W.findIn K (.ref C_BadMarket) "__init__" = some (some (.ref fI_BadMarket))) (eJ_BadMarket : PySem.W.typeIn K (.ref fI_BadMarket) = some (.type "function")) (eL_BadMarket : K.lookup fI_BadMarket = some ⟨ocI_BadMarket, odI_BadMarket, .func (PySem.W.fnOf "__init__" "BadMarket.__init__" (defArgs s_BadMarket___init__) (defBody s_BadMarket___init__) (defScope s_BadMarket___init__) .none kVI_BadMarket dcI_BadMarket pmI_BadMarket anI_BadMarket cdI_BadMarket ctI_BadMarket), slI_BadMarket⟩) (eC_BadMarket : PySem.W.codeIn K cdI_BadMarket "BadMarket.__init__" = true) (eQ_BadMarket : PySem.W.keepIn K (.ref fI_BadMarket) = true)
    {C_TooMuch fI_TooMuch N_TooMuch : Addr} {nm_TooMuch q_TooMuch : Str} {bs_TooMuch bm_TooMuch sub_TooMuch : List Value} {sn_TooMuch : List Str} {ab_TooMuch : Bool} {col_TooMuch : Option Bool} {dd_TooMuch : Option Addr} {m0_TooMuch m1_TooMuch m2_TooMuch m3_TooMuch m5_TooMuch : Option Value} {odI_TooMuch anI_TooMuch : Option Addr} {slI_TooMuch : Array (Option Value)} {ocI_TooMuch kVI_TooMuch dcI_TooMuch pmI_TooMuch cdI_TooMuch ctI_TooMuch : Value}
    (eA_TooMuch : PySem.W.nsIn K mainGlobals "TooMuch" = some (some (.ref C_TooMuch))) (eX_TooMuch : K.lookup C_TooMuch = some (excClassObj nm_TooMuch q_TooMuch C_TooMuch N_TooMuch bs_TooMuch bm_TooMuch true sn_TooMuch sub_TooMuch ab_TooMuch col_TooMuch dd_TooMuch m0_TooMuch m1_TooMuch m2_TooMuch m3_TooMuch m5_TooMuch "ValueError.__new__")) (eR_TooMuch : PySem.HandSPX.refsVE bm_TooMuch = true)
    (eS_TooMuch : PySem.W.findIn K (.ref C_TooMuch) "__setattr__" = some (some (.builtin "object.__setattr__"))) (eG_TooMuch : PySem.W.findIn K (.ref C_TooMuch) "__getattribute__" = some (some (.builtin "BaseException.__getattribute__"))) (eH_TooMuch : PySem.W.findIn K (.ref C_TooMuch) "__getattr__" = some none) (eN_TooMuch : PySem.W.findIn K (.ref C_TooMuch) "good" = some none)
    (eK_TooMuch : PySem.W.keepIn K (.ref C_TooMuch) = true) (eB_TooMuch : PySem.W.subIn K (.ref C_TooMuch) (.type "BaseException") = some true) (eT_TooMuch : PySem.W.typeIn K (.ref C_TooMuch) = some (.type "type")) (eD_TooMuch : PySem.W.hasDictIn K C_TooMuch = true) (eM_TooMuch : PySem.W.exmOne K (.ref C_TooMuch) (.ref C_TooMuch) = some true)
    (eI_TooMuch : PySem.W.findIn K (.ref C_TooMuch) "__init__" = some (some (.ref fI_TooMuch))) (eJ_TooMuch : PySem.W.typeIn K (.ref fI_TooMuch) = some (.type "function")) (eL_TooMuch : K.lookup fI_TooMuch = some ⟨ocI_TooMuch, odI_TooMuch, .func (PySem.W.fnOf "__init__" "TooMuch.__init__" (defArgs s_TooMuch___init__) (defBody s_TooMuch___init__) (defScope s_TooMuch___init__) .none kVI_TooMuch dcI_TooMuch pmI_TooMuch anI_TooMuch cdI_TooMuch ctI_TooMuch), slI_TooMuch⟩) (eC_TooMuch : PySem.W.codeIn K cdI_TooMuch "TooMuch.__init__" = true) (eQ_TooMuch : PySem.W.keepIn K (.ref fI_TooMuch) = true)
    {C_BadTimes fI_BadTimes N_BadTimes : Addr} {nm_BadTimes q_BadTimes : Str} {bs_BadTimes bm_BadTimes sub_BadTimes : List Value} {sn_BadTimes : List Str} {ab_BadTimes : Bool} {col_BadTimes : Option Bool} {dd_BadTimes : Option Addr} {m0_BadTimes m1_BadTimes m2_BadTimes m3_BadTimes m5_BadTimes : Option Value} {odI_BadTimes anI_BadTimes : Option Addr} {slI_BadTimes : Array (Option Value)} {ocI_BadTimes kVI_BadTimes dcI_BadTimes pmI_BadTimes cdI_BadTimes ctI_BadTimes : Value}
    (eA_BadTimes : PySem.W.nsIn K mainGlobals "BadTimes" = some (some (.ref C_BadTimes))) (eX_BadTimes : K.lookup C_BadTimes = some (excClassObj nm_BadTimes q_BadTimes C_BadTimes N_BadTimes bs_BadTimes bm_BadTimes true sn_BadTimes sub_BadTimes ab_BadTimes col_BadTimes dd_BadTimes m0_BadTimes m1_BadTimes m2_BadTimes m3_BadTimes m5_BadTimes "ValueError.__new__")) (eR_BadTimes : PySem.HandSPX.refsVE bm_BadTimes = true)
    (eS_BadTimes : PySem.W.findIn K (.ref C_BadTimes) "__setattr__" = some (some (.builtin "object.__setattr__"))) (eG_BadTimes : PySem.W.findIn K (.ref C_BadTimes) "__getattribute__" = some (some (.builtin "BaseException.__getattribute__"))) (eH_BadTimes : PySem.W.findIn K (.ref C_BadTimes) "__getattr__" = some none) (eN_BadTimes : PySem.W.findIn K (.ref C_BadTimes) "value" = some none)
    (eK_BadTimes : PySem.W.keepIn K (.ref C_BadTimes) = true) (eB_BadTimes : PySem.W.subIn K (.ref C_BadTimes) (.type "BaseException") = some true) (eT_BadTimes : PySem.W.typeIn K (.ref C_BadTimes) = some (.type "type")) (eD_BadTimes : PySem.W.hasDictIn K C_BadTimes = true) (eM_BadTimes : PySem.W.exmOne K (.ref C_BadTimes) (.ref C_BadTimes) = some true)
    (eI_BadTimes : PySem.W.findIn K (.ref C_BadTimes) "__init__" = some (some (.ref fI_BadTimes))) (eJ_BadTimes : PySem.W.typeIn K (.ref fI_BadTimes) = some (.type "function")) (eL_BadTimes : K.lookup fI_BadTimes = some ⟨ocI_BadTimes, odI_BadTimes, .func (PySem.W.fnOf "__init__" "BadTimes.__init__" (defArgs s_BadTimes___init__) (defBody s_BadTimes___init__) (defScope s_BadTimes___init__) .none kVI_BadTimes dcI_BadTimes pmI_BadTimes anI_BadTimes cdI_BadTimes ctI_BadTimes), slI_BadTimes⟩) (eC_BadTimes : PySem.W.codeIn K cdI_BadTimes "BadTimes.__init__" = true) (eQ_BadTimes : PySem.W.keepIn K (.ref fI_BadTimes) = true)
    {C_Lacking fI_Lacking N_Lacking : Addr} {nm_Lacking q_Lacking : Str} {bs_Lacking bm_Lacking sub_Lacking : List Value} {sn_Lacking : List Str} {ab_Lacking : Bool} {col_Lacking : Option Bool} {dd_Lacking : Option Addr} {m0_Lacking m1_Lacking m2_Lacking m3_Lacking m5_Lacking : Option Value} {odI_Lacking anI_Lacking : Option Addr} {slI_Lacking : Array (Option Value)} {ocI_Lacking kVI_Lacking dcI_Lacking pmI_Lacking cdI_Lacking ctI_Lacking : Value}
    (eA_Lacking : PySem.W.nsIn K mainGlobals "Lacking" = some (some (.ref C_Lacking))) (eX_Lacking : K.lookup C_Lacking = some (excClassObj nm_Lacking q_Lacking C_Lacking N_Lacking bs_Lacking bm_Lacking true sn_Lacking sub_Lacking ab_Lacking col_Lacking dd_Lacking m0_Lacking m1_Lacking m2_Lacking m3_Lacking m5_Lacking "ValueError.__new__")) (eR_Lacking : PySem.HandSPX.refsVE bm_Lacking = true)
    (eS_Lacking : PySem.W.findIn K (.ref C_Lacking) "__setattr__" = some (some (.builtin "object.__setattr__"))) (eG_Lacking : PySem.W.findIn K (.ref C_Lacking) "__getattribute__" = some (some (.builtin "BaseException.__getattribute__"))) (eH_Lacking : PySem.W.findIn K (.ref C_Lacking) "__getattr__" = some none) (eN_Lacking : PySem.W.findIn K (.ref C_Lacking) "good" = some none)
    (eK_Lacking : PySem.W.keepIn K (.ref C_Lacking) = true) (eB_Lacking : PySem.W.subIn K (.ref C_Lacking) (.type "BaseException") = some true) (eT_Lacking : PySem.W.typeIn K (.ref C_Lacking) = some (.type "type")) (eD_Lacking : PySem.W.hasDictIn K C_Lacking = true) (eM_Lacking : PySem.W.exmOne K (.ref C_Lacking) (.ref C_Lacking) = some true)
    (eI_Lacking : PySem.W.findIn K (.ref C_Lacking) "__init__" = some (some (.ref fI_Lacking))) (eJ_Lacking : PySem.W.typeIn K (.ref fI_Lacking) = some (.type "function")) (eL_Lacking : K.lookup fI_Lacking = some ⟨ocI_Lacking, odI_Lacking, .func (PySem.W.fnOf "__init__" "Lacking.__init__" (defArgs s_Lacking___init__) (defBody s_Lacking___init__) (defScope s_Lacking___init__) .none kVI_Lacking dcI_Lacking pmI_Lacking anI_Lacking cdI_Lacking ctI_Lacking), slI_Lacking⟩) (eC_Lacking : PySem.W.codeIn K cdI_Lacking "Lacking.__init__" = true) (eQ_Lacking : PySem.W.keepIn K (.ref fI_Lacking) = true)
    {C_NotOwed fI_NotOwed N_NotOwed : Addr} {nm_NotOwed q_NotOwed : Str} {bs_NotOwed bm_NotOwed sub_NotOwed : List Value} {sn_NotOwed : List Str} {ab_NotOwed : Bool} {col_NotOwed : Option Bool} {dd_NotOwed : Option Addr} {m0_NotOwed m1_NotOwed m2_NotOwed m3_NotOwed m5_NotOwed : Option Value} {odI_NotOwed anI_NotOwed : Option Addr} {slI_NotOwed : Array (Option Value)} {ocI_NotOwed kVI_NotOwed dcI_NotOwed pmI_NotOwed cdI_NotOwed ctI_NotOwed : Value}
    (eA_NotOwed : PySem.W.nsIn K mainGlobals "NotOwed" = some (some (.ref C_NotOwed))) (eX_NotOwed : K.lookup C_NotOwed = some (excClassObj nm_NotOwed q_NotOwed C_NotOwed N_NotOwed bs_NotOwed bm_NotOwed true sn_NotOwed sub_NotOwed ab_NotOwed col_NotOwed dd_NotOwed m0_NotOwed m1_NotOwed m2_NotOwed m3_NotOwed m5_NotOwed "ValueError.__new__")) (eR_NotOwed : PySem.HandSPX.refsVE bm_NotOwed = true)
    (eS_NotOwed : PySem.W.findIn K (.ref C_NotOwed) "__setattr__" = some (some (.builtin "object.__setattr__"))) (eG_NotOwed : PySem.W.findIn K (.ref C_NotOwed) "__getattribute__" = some (some (.builtin "BaseException.__getattribute__"))) (eH_NotOwed : PySem.W.findIn K (.ref C_NotOwed) "__getattr__" = some none) (eN_NotOwed : PySem.W.findIn K (.ref C_NotOwed) "good" = some none)
    (eK_NotOwed : PySem.W.keepIn K (.ref C_NotOwed) = true) (eB_NotOwed : PySem.W.subIn K (.ref C_NotOwed) (.type "BaseException") = some true) (eT_NotOwed : PySem.W.typeIn K (.ref C_NotOwed) = some (.type "type")) (eD_NotOwed : PySem.W.hasDictIn K C_NotOwed = true) (eM_NotOwed : PySem.W.exmOne K (.ref C_NotOwed) (.ref C_NotOwed) = some true)
    (eI_NotOwed : PySem.W.findIn K (.ref C_NotOwed) "__init__" = some (some (.ref fI_NotOwed))) (eJ_NotOwed : PySem.W.typeIn K (.ref fI_NotOwed) = some (.type "function")) (eL_NotOwed : K.lookup fI_NotOwed = some ⟨ocI_NotOwed, odI_NotOwed, .func (PySem.W.fnOf "__init__" "NotOwed.__init__" (defArgs s_NotOwed___init__) (defBody s_NotOwed___init__) (defScope s_NotOwed___init__) .none kVI_NotOwed dcI_NotOwed pmI_NotOwed anI_NotOwed cdI_NotOwed ctI_NotOwed), slI_NotOwed⟩) (eC_NotOwed : PySem.W.codeIn K cdI_NotOwed "NotOwed.__init__" = true) (eQ_NotOwed : PySem.W.keepIn K (.ref fI_NotOwed) = true)
    {C_NoTrade fI_NoTrade N_NoTrade : Addr} {nm_NoTrade q_NoTrade : Str} {bs_NoTrade sub_NoTrade : List Value} {sn_NoTrade : List Str} {ab_NoTrade : Bool} {col_NoTrade : Option Bool} {dd_NoTrade : Option Addr} {m0_NoTrade m1_NoTrade m2_NoTrade m3_NoTrade m5_NoTrade : Option Value} {odI_NoTrade anI_NoTrade : Option Addr} {slI_NoTrade : Array (Option Value)} {ocI_NoTrade kVI_NoTrade dcI_NoTrade pmI_NoTrade cdI_NoTrade ctI_NoTrade : Value}
    (eA_NoTrade : PySem.W.nsIn K mainGlobals "NoTrade" = some (some (.ref C_NoTrade))) (eX_NoTrade : K.lookup C_NoTrade = some (excClassObj nm_NoTrade q_NoTrade C_NoTrade N_NoTrade bs_NoTrade leTail true sn_NoTrade sub_NoTrade ab_NoTrade col_NoTrade dd_NoTrade m0_NoTrade m1_NoTrade m2_NoTrade m3_NoTrade m5_NoTrade "LookupError.__new__"))
    (eS_NoTrade : PySem.W.findIn K (.ref C_NoTrade) "__setattr__" = some (some (.builtin "object.__setattr__"))) (eG_NoTrade : PySem.W.findIn K (.ref C_NoTrade) "__getattribute__" = some (some (.builtin "BaseException.__getattribute__"))) (eH_NoTrade : PySem.W.findIn K (.ref C_NoTrade) "__getattr__" = some none) (eN_NoTrade : PySem.W.findIn K (.ref C_NoTrade) "value" = some none)
    (eK_NoTrade : PySem.W.keepIn K (.ref C_NoTrade) = true) (eB_NoTrade : PySem.W.subIn K (.ref C_NoTrade) (.type "BaseException") = some true) (eT_NoTrade : PySem.W.typeIn K (.ref C_NoTrade) = some (.type "type")) (eD_NoTrade : PySem.W.hasDictIn K C_NoTrade = true) (eM_NoTrade : PySem.W.exmOne K (.ref C_NoTrade) (.ref C_NoTrade) = some true)
    (eI_NoTrade : PySem.W.findIn K (.ref C_NoTrade) "__init__" = some (some (.ref fI_NoTrade))) (eJ_NoTrade : PySem.W.typeIn K (.ref fI_NoTrade) = some (.type "function")) (eL_NoTrade : K.lookup fI_NoTrade = some ⟨ocI_NoTrade, odI_NoTrade, .func (PySem.W.fnOf "__init__" "NoTrade.__init__" (defArgs s_NoTrade___init__) (defBody s_NoTrade___init__) (defScope s_NoTrade___init__) .none kVI_NoTrade dcI_NoTrade pmI_NoTrade anI_NoTrade cdI_NoTrade ctI_NoTrade), slI_NoTrade⟩) (eC_NoTrade : PySem.W.codeIn K cdI_NoTrade "NoTrade.__init__" = true) (eQ_NoTrade : PySem.W.keepIn K (.ref fI_NoTrade) = true)
    {C_BadBag : Addr} (zA_BadBag : PySem.W.nsIn K mainGlobals "BadBag" = some (some (.ref C_BadBag))) (zX_BadBag : PySem.W.excIn K C_BadBag [.type "ValueError", .type "Exception", .type "BaseException", .type "object"] "ValueError.__new__" = true)
    (zK_BadBag : PySem.W.keepIn K (.ref C_BadBag) = true) (zB_BadBag : PySem.W.subIn K (.ref C_BadBag) (.type "BaseException") = some true) (zT_BadBag : PySem.W.typeIn K (.ref C_BadBag) = some (.type "type")) (zM_BadBag : PySem.W.exmOne K (.ref C_BadBag) (.ref C_BadBag) = some true)
    {C_OverCap : Addr} (zA_OverCap : PySem.W.nsIn K mainGlobals "OverCap" = some (some (.ref C_OverCap))) (zX_OverCap : PySem.W.excIn K C_OverCap [.type "ValueError", .type "Exception", .type "BaseException", .type "object"] "ValueError.__new__" = true)
    (zK_OverCap : PySem.W.keepIn K (.ref C_OverCap) = true) (zB_OverCap : PySem.W.subIn K (.ref C_OverCap) (.type "BaseException") = some true) (zT_OverCap : PySem.W.typeIn K (.ref C_OverCap) = some (.type "type")) (zM_OverCap : PySem.W.exmOne K (.ref C_OverCap) (.ref C_OverCap) = some true)
    {C_NothingToUndo : Addr} (zA_NothingToUndo : PySem.W.nsIn K mainGlobals "NothingToUndo" = some (some (.ref C_NothingToUndo))) (zX_NothingToUndo : PySem.W.excIn K C_NothingToUndo [.type "ValueError", .type "Exception", .type "BaseException", .type "object"] "ValueError.__new__" = true)
    (zK_NothingToUndo : PySem.W.keepIn K (.ref C_NothingToUndo) = true) (zB_NothingToUndo : PySem.W.subIn K (.ref C_NothingToUndo) (.type "BaseException") = some true) (zT_NothingToUndo : PySem.W.typeIn K (.ref C_NothingToUndo) = some (.type "type")) (zM_NothingToUndo : PySem.W.exmOne K (.ref C_NothingToUndo) (.ref C_NothingToUndo) = some true)
    {C_Bag : Addr} (bA : PySem.W.nsIn K mainGlobals "Bag" = some (some (.ref C_Bag))) (bG : PySem.W.plainGet K C_Bag Str.empty = true) (bD : PySem.W.hasDictIn K C_Bag = true) (bO : PySem.W.plainOver K C_Bag = true) (bS : PySem.W.findIn K (.ref C_Bag) "__setattr__" = some (some (.builtin "object.__setattr__")))
    (bN : PySem.W.findIn K (.ref C_Bag) "held" = some none) (bF : PySem.W.selfFirst K C_Bag = true) (bCa : PySem.W.findIn K (.ref C_Bag) "__class__" = some (some (.builtin "object.__class__"))) (bCn : PySem.W.specialIn K (.builtin "object.__class__") "__get__" = some (some (.builtin "getset_descriptor.__get__"))) (bCt : PySem.W.takesIn K (.builtin "object.__class__") = some true) (bCm : PySem.W.mroIn K C_Bag (.type "object") = some true)
    (bK : PySem.W.kitOne K (.ref C_Bag) (.ref C_Bag) = some true) (bR : PySem.W.readsIn K C_Bag (.type "type") = true) (bRg : PySem.W.specialIn K (.ref C_Bag) "__getattribute__" = some (some (.builtin "type.__getattribute__"))) {tB : Tok} (bV : PySem.W.findCls K (.ref C_Bag) (.type "type") "LIMIT" = some (.val (.int 4 tB))) (bM : PySem.W.makesIn K C_Bag = true) (bP : PySem.W.keepIn K (.ref C_Bag) = true)
    {g___init__ : Addr} {odM___init__ anM___init__ : Option Addr} {slM___init__ : Array (Option Value)} {ocM___init__ kVM___init__ dcM___init__ pmM___init__ cdM___init__ ctM___init__ : Value}
    (mA___init__ : PySem.W.findIn K (.ref C_Bag) "__init__" = some (some (.ref g___init__))) (mJ___init__ : PySem.W.typeIn K (.ref g___init__) = some (.type "function")) (mL___init__ : K.lookup g___init__ = some ⟨ocM___init__, odM___init__, .func (PySem.W.fnOf "__init__" "Bag.__init__" (defArgs s_Bag___init__) (defBody s_Bag___init__) (defScope s_Bag___init__) .none kVM___init__ dcM___init__ pmM___init__ anM___init__ cdM___init__ ctM___init__), slM___init__⟩) (mC___init__ : PySem.W.codeIn K cdM___init__ "Bag.__init__" = true) (mK___init__ : PySem.W.keepIn K (.ref g___init__) = true)
    {g_is_like : Addr} {odM_is_like anM_is_like : Option Addr} {slM_is_like : Array (Option Value)} {ocM_is_like kVM_is_like dcM_is_like pmM_is_like cdM_is_like ctM_is_like : Value}
    (mA_is_like : PySem.W.findIn K (.ref C_Bag) "is_like" = some (some (.ref g_is_like))) (mJ_is_like : PySem.W.typeIn K (.ref g_is_like) = some (.type "function")) (mL_is_like : K.lookup g_is_like = some ⟨ocM_is_like, odM_is_like, .func (PySem.W.fnOf "is_like" "Bag.is_like" (defArgs s_Bag_is_like) (defBody s_Bag_is_like) (defScope s_Bag_is_like) .none kVM_is_like dcM_is_like pmM_is_like anM_is_like cdM_is_like ctM_is_like), slM_is_like⟩) (mC_is_like : PySem.W.codeIn K cdM_is_like "Bag.is_like" = true) (mK_is_like : PySem.W.keepIn K (.ref g_is_like) = true)
    {g_amounts_of : Addr} {odM_amounts_of anM_amounts_of : Option Addr} {slM_amounts_of : Array (Option Value)} {ocM_amounts_of kVM_amounts_of dcM_amounts_of pmM_amounts_of cdM_amounts_of ctM_amounts_of : Value}
    (mA_amounts_of : PySem.W.findIn K (.ref C_Bag) "amounts_of" = some (some (.ref g_amounts_of))) (mJ_amounts_of : PySem.W.typeIn K (.ref g_amounts_of) = some (.type "function")) (mL_amounts_of : K.lookup g_amounts_of = some ⟨ocM_amounts_of, odM_amounts_of, .func (PySem.W.fnOf "amounts_of" "Bag.amounts_of" (defArgs s_Bag_amounts_of) (defBody s_Bag_amounts_of) (defScope s_Bag_amounts_of) .none kVM_amounts_of dcM_amounts_of pmM_amounts_of anM_amounts_of cdM_amounts_of ctM_amounts_of), slM_amounts_of⟩) (mC_amounts_of : PySem.W.codeIn K cdM_amounts_of "Bag.amounts_of" = true) (mK_amounts_of : PySem.W.keepIn K (.ref g_amounts_of) = true)
    {g___len__ : Addr} {odM___len__ anM___len__ : Option Addr} {slM___len__ : Array (Option Value)} {ocM___len__ kVM___len__ dcM___len__ pmM___len__ cdM___len__ ctM___len__ : Value}
    (mA___len__ : PySem.W.findIn K (.ref C_Bag) "__len__" = some (some (.ref g___len__))) (mJ___len__ : PySem.W.typeIn K (.ref g___len__) = some (.type "function")) (mL___len__ : K.lookup g___len__ = some ⟨ocM___len__, odM___len__, .func (PySem.W.fnOf "__len__" "Bag.__len__" (defArgs s_Bag___len__) (defBody s_Bag___len__) (defScope s_Bag___len__) .none kVM___len__ dcM___len__ pmM___len__ anM___len__ cdM___len__ ctM___len__), slM___len__⟩) (mC___len__ : PySem.W.codeIn K cdM___len__ "Bag.__len__" = true) (mK___len__ : PySem.W.keepIn K (.ref g___len__) = true)
    {g___add__ : Addr} {odM___add__ anM___add__ : Option Addr} {slM___add__ : Array (Option Value)} {ocM___add__ kVM___add__ dcM___add__ pmM___add__ cdM___add__ ctM___add__ : Value}
    (mA___add__ : PySem.W.findIn K (.ref C_Bag) "__add__" = some (some (.ref g___add__))) (mJ___add__ : PySem.W.typeIn K (.ref g___add__) = some (.type "function")) (mL___add__ : K.lookup g___add__ = some ⟨ocM___add__, odM___add__, .func (PySem.W.fnOf "__add__" "Bag.__add__" (defArgs s_Bag___add__) (defBody s_Bag___add__) (defScope s_Bag___add__) .none kVM___add__ dcM___add__ pmM___add__ anM___add__ cdM___add__ ctM___add__), slM___add__⟩) (mC___add__ : PySem.W.codeIn K cdM___add__ "Bag.__add__" = true) (mK___add__ : PySem.W.keepIn K (.ref g___add__) = true)
    {g___sub__ : Addr} {odM___sub__ anM___sub__ : Option Addr} {slM___sub__ : Array (Option Value)} {ocM___sub__ kVM___sub__ dcM___sub__ pmM___sub__ cdM___sub__ ctM___sub__ : Value}
    (mA___sub__ : PySem.W.findIn K (.ref C_Bag) "__sub__" = some (some (.ref g___sub__))) (mJ___sub__ : PySem.W.typeIn K (.ref g___sub__) = some (.type "function")) (mL___sub__ : K.lookup g___sub__ = some ⟨ocM___sub__, odM___sub__, .func (PySem.W.fnOf "__sub__" "Bag.__sub__" (defArgs s_Bag___sub__) (defBody s_Bag___sub__) (defScope s_Bag___sub__) .none kVM___sub__ dcM___sub__ pmM___sub__ anM___sub__ cdM___sub__ ctM___sub__), slM___sub__⟩) (mC___sub__ : PySem.W.codeIn K cdM___sub__ "Bag.__sub__" = true) (mK___sub__ : PySem.W.keepIn K (.ref g___sub__) = true)
    {g___or__ : Addr} {odM___or__ anM___or__ : Option Addr} {slM___or__ : Array (Option Value)} {ocM___or__ kVM___or__ dcM___or__ pmM___or__ cdM___or__ ctM___or__ : Value}
    (mA___or__ : PySem.W.findIn K (.ref C_Bag) "__or__" = some (some (.ref g___or__))) (mJ___or__ : PySem.W.typeIn K (.ref g___or__) = some (.type "function")) (mL___or__ : K.lookup g___or__ = some ⟨ocM___or__, odM___or__, .func (PySem.W.fnOf "__or__" "Bag.__or__" (defArgs s_Bag___or__) (defBody s_Bag___or__) (defScope s_Bag___or__) .none kVM___or__ dcM___or__ pmM___or__ anM___or__ cdM___or__ ctM___or__), slM___or__⟩) (mC___or__ : PySem.W.codeIn K cdM___or__ "Bag.__or__" = true) (mK___or__ : PySem.W.keepIn K (.ref g___or__) = true)
    {g___eq__ : Addr} {odM___eq__ anM___eq__ : Option Addr} {slM___eq__ : Array (Option Value)} {ocM___eq__ kVM___eq__ dcM___eq__ pmM___eq__ cdM___eq__ ctM___eq__ : Value}
    (mA___eq__ : PySem.W.findIn K (.ref C_Bag) "__eq__" = some (some (.ref g___eq__))) (mJ___eq__ : PySem.W.typeIn K (.ref g___eq__) = some (.type "function")) (mL___eq__ : K.lookup g___eq__ = some ⟨ocM___eq__, odM___eq__, .func (PySem.W.fnOf "__eq__" "Bag.__eq__" (defArgs s_Bag___eq__) (defBody s_Bag___eq__) (defScope s_Bag___eq__) .none kVM___eq__ dcM___eq__ pmM___eq__ anM___eq__ cdM___eq__ ctM___eq__), slM___eq__⟩) (mC___eq__ : PySem.W.codeIn K cdM___eq__ "Bag.__eq__" = true) (mK___eq__ : PySem.W.keepIn K (.ref g___eq__) = true)
    {p_amounts g_amounts : Addr} {rst_amounts : List Value} {odM_amounts anM_amounts : Option Addr} {slM_amounts : Array (Option Value)} {ocM_amounts kVM_amounts dcM_amounts pmM_amounts cdM_amounts ctM_amounts : Value}
    (pA_amounts : PySem.W.findIn K (.ref C_Bag) "amounts" = some (some (.ref p_amounts))) (pG_amounts : PySem.W.specialIn K (.ref p_amounts) "__get__" = some (some (.builtin "property.__get__"))) (pT_amounts : PySem.W.takesIn K (.ref p_amounts) = some true) (pR_amounts : PySem.W.recIn K p_amounts "property" = some (.ref g_amounts :: rst_amounts))
    (mL_amounts : K.lookup g_amounts = some ⟨ocM_amounts, odM_amounts, .func (PySem.W.fnOf "amounts" "Bag.amounts" (defArgs s_Bag_amounts) (defBody s_Bag_amounts) (defScope s_Bag_amounts) .none kVM_amounts dcM_amounts pmM_amounts anM_amounts cdM_amounts ctM_amounts), slM_amounts⟩) (mC_amounts : PySem.W.codeIn K cdM_amounts "Bag.amounts" = true) (mK_amounts : PySem.W.keepIn K (.ref g_amounts) = true)
    {C_Desk : Addr} (dA_Desk : PySem.W.nsIn K mainGlobals "Desk" = some (some (.ref C_Desk))) (dG_Desk : PySem.W.plainGet K C_Desk Str.empty = true) (dH_Desk : PySem.W.hasDictIn K C_Desk = true) (dO_Desk : PySem.W.plainOver K C_Desk = true) (dS_Desk : PySem.W.findIn K (.ref C_Desk) "__setattr__" = some (some (.builtin "object.__setattr__")))
    (d1_Desk : PySem.W.findIn K (.ref C_Desk) "place" = some none) (d2_Desk : PySem.W.findIn K (.ref C_Desk) "present" = some none) (d3_Desk : PySem.W.findIn K (.ref C_Desk) "owed" = some none) (d4_Desk : PySem.W.findIn K (.ref C_Desk) "past" = some none)
    (dCa_Desk : PySem.W.findIn K (.ref C_Desk) "__class__" = some (some (.builtin "object.__class__"))) (dCm_Desk : PySem.W.mroIn K C_Desk (.type "object") = some true) (dK_Desk : PySem.W.kitOne K (.ref C_Desk) (.ref C_Desk) = some true) (dM_Desk : PySem.W.makesIn K C_Desk = true) (dP_Desk : PySem.W.keepIn K (.ref C_Desk) = true)
    {g_Desk___init__ : Addr} {odM_Desk___init__ anM_Desk___init__ : Option Addr} {slM_Desk___init__ : Array (Option Value)} {ocM_Desk___init__ kVM_Desk___init__ dcM_Desk___init__ pmM_Desk___init__ cdM_Desk___init__ ctM_Desk___init__ : Value}
    (mA_Desk___init__ : PySem.W.findIn K (.ref C_Desk) "__init__" = some (some (.ref g_Desk___init__))) (mJ_Desk___init__ : PySem.W.typeIn K (.ref g_Desk___init__) = some (.type "function")) (mL_Desk___init__ : K.lookup g_Desk___init__ = some ⟨ocM_Desk___init__, odM_Desk___init__, .func (PySem.W.fnOf "__init__" "Desk.__init__" (defArgs s_Desk___init__) (defBody s_Desk___init__) (defScope s_Desk___init__) .none kVM_Desk___init__ dcM_Desk___init__ pmM_Desk___init__ anM_Desk___init__ cdM_Desk___init__ ctM_Desk___init__), slM_Desk___init__⟩) (mC_Desk___init__ : PySem.W.codeIn K cdM_Desk___init__ "Desk.__init__" = true) (mK_Desk___init__ : PySem.W.keepIn K (.ref g_Desk___init__) = true)
    {g_Desk_borrow : Addr} {odM_Desk_borrow anM_Desk_borrow : Option Addr} {slM_Desk_borrow : Array (Option Value)} {ocM_Desk_borrow kVM_Desk_borrow dcM_Desk_borrow pmM_Desk_borrow cdM_Desk_borrow ctM_Desk_borrow : Value}
    (mA_Desk_borrow : PySem.W.findIn K (.ref C_Desk) "borrow" = some (some (.ref g_Desk_borrow))) (mJ_Desk_borrow : PySem.W.typeIn K (.ref g_Desk_borrow) = some (.type "function")) (mL_Desk_borrow : K.lookup g_Desk_borrow = some ⟨ocM_Desk_borrow, odM_Desk_borrow, .func (PySem.W.fnOf "borrow" "Desk.borrow" (defArgs s_Desk_borrow) (defBody s_Desk_borrow) (defScope s_Desk_borrow) .none kVM_Desk_borrow dcM_Desk_borrow pmM_Desk_borrow anM_Desk_borrow cdM_Desk_borrow ctM_Desk_borrow), slM_Desk_borrow⟩) (mC_Desk_borrow : PySem.W.codeIn K cdM_Desk_borrow "Desk.borrow" = true) (mK_Desk_borrow : PySem.W.keepIn K (.ref g_Desk_borrow) = true)
    {g_Desk___len__ : Addr} {odM_Desk___len__ anM_Desk___len__ : Option Addr} {slM_Desk___len__ : Array (Option Value)} {ocM_Desk___len__ kVM_Desk___len__ dcM_Desk___len__ pmM_Desk___len__ cdM_Desk___len__ ctM_Desk___len__ : Value}
    (mA_Desk___len__ : PySem.W.findIn K (.ref C_Desk) "__len__" = some (some (.ref g_Desk___len__))) (mJ_Desk___len__ : PySem.W.typeIn K (.ref g_Desk___len__) = some (.type "function")) (mL_Desk___len__ : K.lookup g_Desk___len__ = some ⟨ocM_Desk___len__, odM_Desk___len__, .func (PySem.W.fnOf "__len__" "Desk.__len__" (defArgs s_Desk___len__) (defBody s_Desk___len__) (defScope s_Desk___len__) .none kVM_Desk___len__ dcM_Desk___len__ pmM_Desk___len__ anM_Desk___len__ cdM_Desk___len__ ctM_Desk___len__), slM_Desk___len__⟩) (mC_Desk___len__ : PySem.W.codeIn K cdM_Desk___len__ "Desk.__len__" = true) (mK_Desk___len__ : PySem.W.keepIn K (.ref g_Desk___len__) = true)
    {g_Desk_record : Addr} {odM_Desk_record anM_Desk_record : Option Addr} {slM_Desk_record : Array (Option Value)} {ocM_Desk_record kVM_Desk_record dcM_Desk_record pmM_Desk_record cdM_Desk_record ctM_Desk_record : Value}
    (mA_Desk_record : PySem.W.findIn K (.ref C_Desk) "record" = some (some (.ref g_Desk_record))) (mJ_Desk_record : PySem.W.typeIn K (.ref g_Desk_record) = some (.type "function")) (mL_Desk_record : K.lookup g_Desk_record = some ⟨ocM_Desk_record, odM_Desk_record, .func (PySem.W.fnOf "record" "Desk.record" (defArgs s_Desk_record) (defBody s_Desk_record) (defScope s_Desk_record) .none kVM_Desk_record dcM_Desk_record pmM_Desk_record anM_Desk_record cdM_Desk_record ctM_Desk_record), slM_Desk_record⟩) (mC_Desk_record : PySem.W.codeIn K cdM_Desk_record "Desk.record" = true) (mK_Desk_record : PySem.W.keepIn K (.ref g_Desk_record) = true)
    {g_Desk_trade : Addr} {odM_Desk_trade anM_Desk_trade : Option Addr} {slM_Desk_trade : Array (Option Value)} {ocM_Desk_trade kVM_Desk_trade dcM_Desk_trade pmM_Desk_trade cdM_Desk_trade ctM_Desk_trade : Value}
    (mA_Desk_trade : PySem.W.findIn K (.ref C_Desk) "trade" = some (some (.ref g_Desk_trade))) (mJ_Desk_trade : PySem.W.typeIn K (.ref g_Desk_trade) = some (.type "function")) (mL_Desk_trade : K.lookup g_Desk_trade = some ⟨ocM_Desk_trade, odM_Desk_trade, .func (PySem.W.fnOf "trade" "Desk.trade" (defArgs s_Desk_trade) (defBody s_Desk_trade) (defScope s_Desk_trade) .none kVM_Desk_trade dcM_Desk_trade pmM_Desk_trade anM_Desk_trade cdM_Desk_trade ctM_Desk_trade), slM_Desk_trade⟩) (mC_Desk_trade : PySem.W.codeIn K cdM_Desk_trade "Desk.trade" = true) (mK_Desk_trade : PySem.W.keepIn K (.ref g_Desk_trade) = true)
    {g_Desk_pay : Addr} {odM_Desk_pay anM_Desk_pay : Option Addr} {slM_Desk_pay : Array (Option Value)} {ocM_Desk_pay kVM_Desk_pay dcM_Desk_pay pmM_Desk_pay cdM_Desk_pay ctM_Desk_pay : Value}
    (mA_Desk_pay : PySem.W.findIn K (.ref C_Desk) "pay" = some (some (.ref g_Desk_pay))) (mJ_Desk_pay : PySem.W.typeIn K (.ref g_Desk_pay) = some (.type "function")) (mL_Desk_pay : K.lookup g_Desk_pay = some ⟨ocM_Desk_pay, odM_Desk_pay, .func (PySem.W.fnOf "pay" "Desk.pay" (defArgs s_Desk_pay) (defBody s_Desk_pay) (defScope s_Desk_pay) .none kVM_Desk_pay dcM_Desk_pay pmM_Desk_pay anM_Desk_pay cdM_Desk_pay ctM_Desk_pay), slM_Desk_pay⟩) (mC_Desk_pay : PySem.W.codeIn K cdM_Desk_pay "Desk.pay" = true) (mK_Desk_pay : PySem.W.keepIn K (.ref g_Desk_pay) = true)
    {g_Desk_undo : Addr} {odM_Desk_undo anM_Desk_undo : Option Addr} {slM_Desk_undo : Array (Option Value)} {ocM_Desk_undo kVM_Desk_undo dcM_Desk_undo pmM_Desk_undo cdM_Desk_undo ctM_Desk_undo : Value}
    (mA_Desk_undo : PySem.W.findIn K (.ref C_Desk) "undo" = some (some (.ref g_Desk_undo))) (mJ_Desk_undo : PySem.W.typeIn K (.ref g_Desk_undo) = some (.type "function")) (mL_Desk_undo : K.lookup g_Desk_undo = some ⟨ocM_Desk_undo, odM_Desk_undo, .func (PySem.W.fnOf "undo" "Desk.undo" (defArgs s_Desk_undo) (defBody s_Desk_undo) (defScope s_Desk_undo) .none kVM_Desk_undo dcM_Desk_undo pmM_Desk_undo anM_Desk_undo cdM_Desk_undo ctM_Desk_undo), slM_Desk_undo⟩) (mC_Desk_undo : PySem.W.codeIn K cdM_Desk_undo "Desk.undo" = true) (mK_Desk_undo : PySem.W.keepIn K (.ref g_Desk_undo) = true)
    {g_Desk___iadd__ : Addr} {odM_Desk___iadd__ anM_Desk___iadd__ : Option Addr} {slM_Desk___iadd__ : Array (Option Value)} {ocM_Desk___iadd__ kVM_Desk___iadd__ dcM_Desk___iadd__ pmM_Desk___iadd__ cdM_Desk___iadd__ ctM_Desk___iadd__ : Value}
    (mA_Desk___iadd__ : PySem.W.findIn K (.ref C_Desk) "__iadd__" = some (some (.ref g_Desk___iadd__))) (mJ_Desk___iadd__ : PySem.W.typeIn K (.ref g_Desk___iadd__) = some (.type "function")) (mL_Desk___iadd__ : K.lookup g_Desk___iadd__ = some ⟨ocM_Desk___iadd__, odM_Desk___iadd__, .func (PySem.W.fnOf "__iadd__" "Desk.__iadd__" (defArgs s_Desk___iadd__) (defBody s_Desk___iadd__) (defScope s_Desk___iadd__) .none kVM_Desk___iadd__ dcM_Desk___iadd__ pmM_Desk___iadd__ anM_Desk___iadd__ cdM_Desk___iadd__ ctM_Desk___iadd__), slM_Desk___iadd__⟩) (mC_Desk___iadd__ : PySem.W.codeIn K cdM_Desk___iadd__ "Desk.__iadd__" = true) (mK_Desk___iadd__ : PySem.W.keepIn K (.ref g_Desk___iadd__) = true)
    {g_Desk___isub__ : Addr} {odM_Desk___isub__ anM_Desk___isub__ : Option Addr} {slM_Desk___isub__ : Array (Option Value)} {ocM_Desk___isub__ kVM_Desk___isub__ dcM_Desk___isub__ pmM_Desk___isub__ cdM_Desk___isub__ ctM_Desk___isub__ : Value}
    (mA_Desk___isub__ : PySem.W.findIn K (.ref C_Desk) "__isub__" = some (some (.ref g_Desk___isub__))) (mJ_Desk___isub__ : PySem.W.typeIn K (.ref g_Desk___isub__) = some (.type "function")) (mL_Desk___isub__ : K.lookup g_Desk___isub__ = some ⟨ocM_Desk___isub__, odM_Desk___isub__, .func (PySem.W.fnOf "__isub__" "Desk.__isub__" (defArgs s_Desk___isub__) (defBody s_Desk___isub__) (defScope s_Desk___isub__) .none kVM_Desk___isub__ dcM_Desk___isub__ pmM_Desk___isub__ anM_Desk___isub__ cdM_Desk___isub__ ctM_Desk___isub__), slM_Desk___isub__⟩) (mC_Desk___isub__ : PySem.W.codeIn K cdM_Desk___isub__ "Desk.__isub__" = true) (mK_Desk___isub__ : PySem.W.keepIn K (.ref g_Desk___isub__) = true)
    {g_Desk___eq__ : Addr} {odM_Desk___eq__ anM_Desk___eq__ : Option Addr} {slM_Desk___eq__ : Array (Option Value)} {ocM_Desk___eq__ kVM_Desk___eq__ dcM_Desk___eq__ pmM_Desk___eq__ cdM_Desk___eq__ ctM_Desk___eq__ : Value}
    (mA_Desk___eq__ : PySem.W.findIn K (.ref C_Desk) "__eq__" = some (some (.ref g_Desk___eq__))) (mJ_Desk___eq__ : PySem.W.typeIn K (.ref g_Desk___eq__) = some (.type "function")) (mL_Desk___eq__ : K.lookup g_Desk___eq__ = some ⟨ocM_Desk___eq__, odM_Desk___eq__, .func (PySem.W.fnOf "__eq__" "Desk.__eq__" (defArgs s_Desk___eq__) (defBody s_Desk___eq__) (defScope s_Desk___eq__) .none kVM_Desk___eq__ dcM_Desk___eq__ pmM_Desk___eq__ anM_Desk___eq__ cdM_Desk___eq__ ctM_Desk___eq__), slM_Desk___eq__⟩) (mC_Desk___eq__ : PySem.W.codeIn K cdM_Desk___eq__ "Desk.__eq__" = true) (mK_Desk___eq__ : PySem.W.keepIn K (.ref g_Desk___eq__) = true)
    {g_Desk_loans : Addr} {odM_Desk_loans anM_Desk_loans : Option Addr} {slM_Desk_loans : Array (Option Value)} {ocM_Desk_loans kVM_Desk_loans dcM_Desk_loans pmM_Desk_loans cdM_Desk_loans ctM_Desk_loans : Value}
    (mA_Desk_loans : PySem.W.findIn K (.ref C_Desk) "loans" = some (some (.ref g_Desk_loans))) (mJ_Desk_loans : PySem.W.typeIn K (.ref g_Desk_loans) = some (.type "function")) (mL_Desk_loans : K.lookup g_Desk_loans = some ⟨ocM_Desk_loans, odM_Desk_loans, .func (PySem.W.fnOf "loans" "Desk.loans" (defArgs s_Desk_loans) (defBody s_Desk_loans) (defScope s_Desk_loans) .none kVM_Desk_loans dcM_Desk_loans pmM_Desk_loans anM_Desk_loans cdM_Desk_loans ctM_Desk_loans), slM_Desk_loans⟩) (mC_Desk_loans : PySem.W.codeIn K cdM_Desk_loans "Desk.loans" = true) (mK_Desk_loans : PySem.W.keepIn K (.ref g_Desk_loans) = true)
    {p_Desk_market g_Desk_market : Addr} {rst_Desk_market : List Value} {odM_Desk_market anM_Desk_market : Option Addr} {slM_Desk_market : Array (Option Value)} {ocM_Desk_market kVM_Desk_market dcM_Desk_market pmM_Desk_market cdM_Desk_market ctM_Desk_market : Value}
    (pA_Desk_market : PySem.W.findIn K (.ref C_Desk) "market" = some (some (.ref p_Desk_market))) (pG_Desk_market : PySem.W.specialIn K (.ref p_Desk_market) "__get__" = some (some (.builtin "property.__get__"))) (pT_Desk_market : PySem.W.takesIn K (.ref p_Desk_market) = some true) (pR_Desk_market : PySem.W.recIn K p_Desk_market "property" = some (.ref g_Desk_market :: rst_Desk_market))
    (mL_Desk_market : K.lookup g_Desk_market = some ⟨ocM_Desk_market, odM_Desk_market, .func (PySem.W.fnOf "market" "Desk.market" (defArgs s_Desk_market) (defBody s_Desk_market) (defScope s_Desk_market) .none kVM_Desk_market dcM_Desk_market pmM_Desk_market anM_Desk_market cdM_Desk_market ctM_Desk_market), slM_Desk_market⟩) (mC_Desk_market : PySem.W.codeIn K cdM_Desk_market "Desk.market" = true) (mK_Desk_market : PySem.W.keepIn K (.ref g_Desk_market) = true)
    {p_Desk_stock g_Desk_stock : Addr} {rst_Desk_stock : List Value} {odM_Desk_stock anM_Desk_stock : Option Addr} {slM_Desk_stock : Array (Option Value)} {ocM_Desk_stock kVM_Desk_stock dcM_Desk_stock pmM_Desk_stock cdM_Desk_stock ctM_Desk_stock : Value}
    (pA_Desk_stock : PySem.W.findIn K (.ref C_Desk) "stock" = some (some (.ref p_Desk_stock))) (pG_Desk_stock : PySem.W.specialIn K (.ref p_Desk_stock) "__get__" = some (some (.builtin "property.__get__"))) (pT_Desk_stock : PySem.W.takesIn K (.ref p_Desk_stock) = some true) (pR_Desk_stock : PySem.W.recIn K p_Desk_stock "property" = some (.ref g_Desk_stock :: rst_Desk_stock))
    (mL_Desk_stock : K.lookup g_Desk_stock = some ⟨ocM_Desk_stock, odM_Desk_stock, .func (PySem.W.fnOf "stock" "Desk.stock" (defArgs s_Desk_stock) (defBody s_Desk_stock) (defScope s_Desk_stock) .none kVM_Desk_stock dcM_Desk_stock pmM_Desk_stock anM_Desk_stock cdM_Desk_stock ctM_Desk_stock), slM_Desk_stock⟩) (mC_Desk_stock : PySem.W.codeIn K cdM_Desk_stock "Desk.stock" = true) (mK_Desk_stock : PySem.W.keepIn K (.ref g_Desk_stock) = true)
    {p_Desk_debt g_Desk_debt : Addr} {rst_Desk_debt : List Value} {odM_Desk_debt anM_Desk_debt : Option Addr} {slM_Desk_debt : Array (Option Value)} {ocM_Desk_debt kVM_Desk_debt dcM_Desk_debt pmM_Desk_debt cdM_Desk_debt ctM_Desk_debt : Value}
    (pA_Desk_debt : PySem.W.findIn K (.ref C_Desk) "debt" = some (some (.ref p_Desk_debt))) (pG_Desk_debt : PySem.W.specialIn K (.ref p_Desk_debt) "__get__" = some (some (.builtin "property.__get__"))) (pT_Desk_debt : PySem.W.takesIn K (.ref p_Desk_debt) = some true) (pR_Desk_debt : PySem.W.recIn K p_Desk_debt "property" = some (.ref g_Desk_debt :: rst_Desk_debt))
    (mL_Desk_debt : K.lookup g_Desk_debt = some ⟨ocM_Desk_debt, odM_Desk_debt, .func (PySem.W.fnOf "debt" "Desk.debt" (defArgs s_Desk_debt) (defBody s_Desk_debt) (defScope s_Desk_debt) .none kVM_Desk_debt dcM_Desk_debt pmM_Desk_debt anM_Desk_debt cdM_Desk_debt ctM_Desk_debt), slM_Desk_debt⟩) (mC_Desk_debt : PySem.W.codeIn K cdM_Desk_debt "Desk.debt" = true) (mK_Desk_debt : PySem.W.keepIn K (.ref g_Desk_debt) = true)
    {p_Desk_version g_Desk_version : Addr} {rst_Desk_version : List Value} {odM_Desk_version anM_Desk_version : Option Addr} {slM_Desk_version : Array (Option Value)} {ocM_Desk_version kVM_Desk_version dcM_Desk_version pmM_Desk_version cdM_Desk_version ctM_Desk_version : Value}
    (pA_Desk_version : PySem.W.findIn K (.ref C_Desk) "version" = some (some (.ref p_Desk_version))) (pG_Desk_version : PySem.W.specialIn K (.ref p_Desk_version) "__get__" = some (some (.builtin "property.__get__"))) (pT_Desk_version : PySem.W.takesIn K (.ref p_Desk_version) = some true) (pR_Desk_version : PySem.W.recIn K p_Desk_version "property" = some (.ref g_Desk_version :: rst_Desk_version))
    (mL_Desk_version : K.lookup g_Desk_version = some ⟨ocM_Desk_version, odM_Desk_version, .func (PySem.W.fnOf "version" "Desk.version" (defArgs s_Desk_version) (defBody s_Desk_version) (defScope s_Desk_version) .none kVM_Desk_version dcM_Desk_version pmM_Desk_version anM_Desk_version cdM_Desk_version ctM_Desk_version), slM_Desk_version⟩) (mC_Desk_version : PySem.W.codeIn K cdM_Desk_version "Desk.version" = true) (mK_Desk_version : PySem.W.keepIn K (.ref g_Desk_version) = true)
    {p_Desk_settled g_Desk_settled : Addr} {rst_Desk_settled : List Value} {odM_Desk_settled anM_Desk_settled : Option Addr} {slM_Desk_settled : Array (Option Value)} {ocM_Desk_settled kVM_Desk_settled dcM_Desk_settled pmM_Desk_settled cdM_Desk_settled ctM_Desk_settled : Value}
    (pA_Desk_settled : PySem.W.findIn K (.ref C_Desk) "settled" = some (some (.ref p_Desk_settled))) (pG_Desk_settled : PySem.W.specialIn K (.ref p_Desk_settled) "__get__" = some (some (.builtin "property.__get__"))) (pT_Desk_settled : PySem.W.takesIn K (.ref p_Desk_settled) = some true) (pR_Desk_settled : PySem.W.recIn K p_Desk_settled "property" = some (.ref g_Desk_settled :: rst_Desk_settled))
    (mL_Desk_settled : K.lookup g_Desk_settled = some ⟨ocM_Desk_settled, odM_Desk_settled, .func (PySem.W.fnOf "settled" "Desk.settled" (defArgs s_Desk_settled) (defBody s_Desk_settled) (defScope s_Desk_settled) .none kVM_Desk_settled dcM_Desk_settled pmM_Desk_settled anM_Desk_settled cdM_Desk_settled ctM_Desk_settled), slM_Desk_settled⟩) (mC_Desk_settled : PySem.W.codeIn K cdM_Desk_settled "Desk.settled" = true) (mK_Desk_settled : PySem.W.keepIn K (.ref g_Desk_settled) = true)
    {C_CappedDesk : Addr} (dA_CappedDesk : PySem.W.nsIn K mainGlobals "CappedDesk" = some (some (.ref C_CappedDesk))) (dG_CappedDesk : PySem.W.plainGet K C_CappedDesk Str.empty = true) (dH_CappedDesk : PySem.W.hasDictIn K C_CappedDesk = true) (dO_CappedDesk : PySem.W.plainOver K C_CappedDesk = true) (dS_CappedDesk : PySem.W.findIn K (.ref C_CappedDesk) "__setattr__" = some (some (.builtin "object.__setattr__")))
    (d1_CappedDesk : PySem.W.findIn K (.ref C_CappedDesk) "place" = some none) (d2_CappedDesk : PySem.W.findIn K (.ref C_CappedDesk) "present" = some none) (d3_CappedDesk : PySem.W.findIn K (.ref C_CappedDesk) "owed" = some none) (d4_CappedDesk : PySem.W.findIn K (.ref C_CappedDesk) "past" = some none)
    (dCa_CappedDesk : PySem.W.findIn K (.ref C_CappedDesk) "__class__" = some (some (.builtin "object.__class__"))) (dCm_CappedDesk : PySem.W.mroIn K C_CappedDesk (.type "object") = some true) (dK_CappedDesk : PySem.W.kitOne K (.ref C_CappedDesk) (.ref C_Desk) = some true) (dM_CappedDesk : PySem.W.makesIn K C_CappedDesk = true) (dP_CappedDesk : PySem.W.keepIn K (.ref C_CappedDesk) = true)
    {g_CappedDesk___init__ : Addr} {odM_CappedDesk___init__ anM_CappedDesk___init__ : Option Addr} {slM_CappedDesk___init__ : Array (Option Value)} {ocM_CappedDesk___init__ kVM_CappedDesk___init__ dcM_CappedDesk___init__ pmM_CappedDesk___init__ cdM_CappedDesk___init__ ctM_CappedDesk___init__ : Value}
    (mA_CappedDesk___init__ : PySem.W.findIn K (.ref C_CappedDesk) "__init__" = some (some (.ref g_CappedDesk___init__))) (mJ_CappedDesk___init__ : PySem.W.typeIn K (.ref g_CappedDesk___init__) = some (.type "function")) (mL_CappedDesk___init__ : K.lookup g_CappedDesk___init__ = some ⟨ocM_CappedDesk___init__, odM_CappedDesk___init__, .func (PySem.W.fnOf "__init__" "CappedDesk.__init__" (defArgs s_CappedDesk___init__) (defBody s_CappedDesk___init__) (defScope s_CappedDesk___init__) .none kVM_CappedDesk___init__ dcM_CappedDesk___init__ pmM_CappedDesk___init__ anM_CappedDesk___init__ cdM_CappedDesk___init__ ctM_CappedDesk___init__), slM_CappedDesk___init__⟩) (mC_CappedDesk___init__ : PySem.W.codeIn K cdM_CappedDesk___init__ "CappedDesk.__init__" = true) (mK_CappedDesk___init__ : PySem.W.keepIn K (.ref g_CappedDesk___init__) = true)
    {g_CappedDesk___len__ : Addr} {odM_CappedDesk___len__ anM_CappedDesk___len__ : Option Addr} {slM_CappedDesk___len__ : Array (Option Value)} {ocM_CappedDesk___len__ kVM_CappedDesk___len__ dcM_CappedDesk___len__ pmM_CappedDesk___len__ cdM_CappedDesk___len__ ctM_CappedDesk___len__ : Value}
    (mA_CappedDesk___len__ : PySem.W.findIn K (.ref C_CappedDesk) "__len__" = some (some (.ref g_CappedDesk___len__))) (mJ_CappedDesk___len__ : PySem.W.typeIn K (.ref g_CappedDesk___len__) = some (.type "function")) (mL_CappedDesk___len__ : K.lookup g_CappedDesk___len__ = some ⟨ocM_CappedDesk___len__, odM_CappedDesk___len__, .func (PySem.W.fnOf "__len__" "Desk.__len__" (defArgs s_Desk___len__) (defBody s_Desk___len__) (defScope s_Desk___len__) .none kVM_CappedDesk___len__ dcM_CappedDesk___len__ pmM_CappedDesk___len__ anM_CappedDesk___len__ cdM_CappedDesk___len__ ctM_CappedDesk___len__), slM_CappedDesk___len__⟩) (mC_CappedDesk___len__ : PySem.W.codeIn K cdM_CappedDesk___len__ "Desk.__len__" = true) (mK_CappedDesk___len__ : PySem.W.keepIn K (.ref g_CappedDesk___len__) = true)
    {g_CappedDesk_record : Addr} {odM_CappedDesk_record anM_CappedDesk_record : Option Addr} {slM_CappedDesk_record : Array (Option Value)} {ocM_CappedDesk_record kVM_CappedDesk_record dcM_CappedDesk_record pmM_CappedDesk_record cdM_CappedDesk_record ctM_CappedDesk_record : Value}
    (mA_CappedDesk_record : PySem.W.findIn K (.ref C_CappedDesk) "record" = some (some (.ref g_CappedDesk_record))) (mJ_CappedDesk_record : PySem.W.typeIn K (.ref g_CappedDesk_record) = some (.type "function")) (mL_CappedDesk_record : K.lookup g_CappedDesk_record = some ⟨ocM_CappedDesk_record, odM_CappedDesk_record, .func (PySem.W.fnOf "record" "Desk.record" (defArgs s_Desk_record) (defBody s_Desk_record) (defScope s_Desk_record) .none kVM_CappedDesk_record dcM_CappedDesk_record pmM_CappedDesk_record anM_CappedDesk_record cdM_CappedDesk_record ctM_CappedDesk_record), slM_CappedDesk_record⟩) (mC_CappedDesk_record : PySem.W.codeIn K cdM_CappedDesk_record "Desk.record" = true) (mK_CappedDesk_record : PySem.W.keepIn K (.ref g_CappedDesk_record) = true)
    {g_CappedDesk_trade : Addr} {odM_CappedDesk_trade anM_CappedDesk_trade : Option Addr} {slM_CappedDesk_trade : Array (Option Value)} {ocM_CappedDesk_trade kVM_CappedDesk_trade dcM_CappedDesk_trade pmM_CappedDesk_trade cdM_CappedDesk_trade ctM_CappedDesk_trade : Value}
    (mA_CappedDesk_trade : PySem.W.findIn K (.ref C_CappedDesk) "trade" = some (some (.ref g_CappedDesk_trade))) (mJ_CappedDesk_trade : PySem.W.typeIn K (.ref g_CappedDesk_trade) = some (.type "function")) (mL_CappedDesk_trade : K.lookup g_CappedDesk_trade = some ⟨ocM_CappedDesk_trade, odM_CappedDesk_trade, .func (PySem.W.fnOf "trade" "Desk.trade" (defArgs s_Desk_trade) (defBody s_Desk_trade) (defScope s_Desk_trade) .none kVM_CappedDesk_trade dcM_CappedDesk_trade pmM_CappedDesk_trade anM_CappedDesk_trade cdM_CappedDesk_trade ctM_CappedDesk_trade), slM_CappedDesk_trade⟩) (mC_CappedDesk_trade : PySem.W.codeIn K cdM_CappedDesk_trade "Desk.trade" = true) (mK_CappedDesk_trade : PySem.W.keepIn K (.ref g_CappedDesk_trade) = true)
    {g_CappedDesk_pay : Addr} {odM_CappedDesk_pay anM_CappedDesk_pay : Option Addr} {slM_CappedDesk_pay : Array (Option Value)} {ocM_CappedDesk_pay kVM_CappedDesk_pay dcM_CappedDesk_pay pmM_CappedDesk_pay cdM_CappedDesk_pay ctM_CappedDesk_pay : Value}
    (mA_CappedDesk_pay : PySem.W.findIn K (.ref C_CappedDesk) "pay" = some (some (.ref g_CappedDesk_pay))) (mJ_CappedDesk_pay : PySem.W.typeIn K (.ref g_CappedDesk_pay) = some (.type "function")) (mL_CappedDesk_pay : K.lookup g_CappedDesk_pay = some ⟨ocM_CappedDesk_pay, odM_CappedDesk_pay, .func (PySem.W.fnOf "pay" "Desk.pay" (defArgs s_Desk_pay) (defBody s_Desk_pay) (defScope s_Desk_pay) .none kVM_CappedDesk_pay dcM_CappedDesk_pay pmM_CappedDesk_pay anM_CappedDesk_pay cdM_CappedDesk_pay ctM_CappedDesk_pay), slM_CappedDesk_pay⟩) (mC_CappedDesk_pay : PySem.W.codeIn K cdM_CappedDesk_pay "Desk.pay" = true) (mK_CappedDesk_pay : PySem.W.keepIn K (.ref g_CappedDesk_pay) = true)
    {g_CappedDesk_undo : Addr} {odM_CappedDesk_undo anM_CappedDesk_undo : Option Addr} {slM_CappedDesk_undo : Array (Option Value)} {ocM_CappedDesk_undo kVM_CappedDesk_undo dcM_CappedDesk_undo pmM_CappedDesk_undo cdM_CappedDesk_undo ctM_CappedDesk_undo : Value}
    (mA_CappedDesk_undo : PySem.W.findIn K (.ref C_CappedDesk) "undo" = some (some (.ref g_CappedDesk_undo))) (mJ_CappedDesk_undo : PySem.W.typeIn K (.ref g_CappedDesk_undo) = some (.type "function")) (mL_CappedDesk_undo : K.lookup g_CappedDesk_undo = some ⟨ocM_CappedDesk_undo, odM_CappedDesk_undo, .func (PySem.W.fnOf "undo" "Desk.undo" (defArgs s_Desk_undo) (defBody s_Desk_undo) (defScope s_Desk_undo) .none kVM_CappedDesk_undo dcM_CappedDesk_undo pmM_CappedDesk_undo anM_CappedDesk_undo cdM_CappedDesk_undo ctM_CappedDesk_undo), slM_CappedDesk_undo⟩) (mC_CappedDesk_undo : PySem.W.codeIn K cdM_CappedDesk_undo "Desk.undo" = true) (mK_CappedDesk_undo : PySem.W.keepIn K (.ref g_CappedDesk_undo) = true)
    {g_CappedDesk___iadd__ : Addr} {odM_CappedDesk___iadd__ anM_CappedDesk___iadd__ : Option Addr} {slM_CappedDesk___iadd__ : Array (Option Value)} {ocM_CappedDesk___iadd__ kVM_CappedDesk___iadd__ dcM_CappedDesk___iadd__ pmM_CappedDesk___iadd__ cdM_CappedDesk___iadd__ ctM_CappedDesk___iadd__ : Value}
    (mA_CappedDesk___iadd__ : PySem.W.findIn K (.ref C_CappedDesk) "__iadd__" = some (some (.ref g_CappedDesk___iadd__))) (mJ_CappedDesk___iadd__ : PySem.W.typeIn K (.ref g_CappedDesk___iadd__) = some (.type "function")) (mL_CappedDesk___iadd__ : K.lookup g_CappedDesk___iadd__ = some ⟨ocM_CappedDesk___iadd__, odM_CappedDesk___iadd__, .func (PySem.W.fnOf "__iadd__" "Desk.__iadd__" (defArgs s_Desk___iadd__) (defBody s_Desk___iadd__) (defScope s_Desk___iadd__) .none kVM_CappedDesk___iadd__ dcM_CappedDesk___iadd__ pmM_CappedDesk___iadd__ anM_CappedDesk___iadd__ cdM_CappedDesk___iadd__ ctM_CappedDesk___iadd__), slM_CappedDesk___iadd__⟩) (mC_CappedDesk___iadd__ : PySem.W.codeIn K cdM_CappedDesk___iadd__ "Desk.__iadd__" = true) (mK_CappedDesk___iadd__ : PySem.W.keepIn K (.ref g_CappedDesk___iadd__) = true)
    {g_CappedDesk___isub__ : Addr} {odM_CappedDesk___isub__ anM_CappedDesk___isub__ : Option Addr} {slM_CappedDesk___isub__ : Array (Option Value)} {ocM_CappedDesk___isub__ kVM_CappedDesk___isub__ dcM_CappedDesk___isub__ pmM_CappedDesk___isub__ cdM_CappedDesk___isub__ ctM_CappedDesk___isub__ : Value}
    (mA_CappedDesk___isub__ : PySem.W.findIn K (.ref C_CappedDesk) "__isub__" = some (some (.ref g_CappedDesk___isub__))) (mJ_CappedDesk___isub__ : PySem.W.typeIn K (.ref g_CappedDesk___isub__) = some (.type "function")) (mL_CappedDesk___isub__ : K.lookup g_CappedDesk___isub__ = some ⟨ocM_CappedDesk___isub__, odM_CappedDesk___isub__, .func (PySem.W.fnOf "__isub__" "Desk.__isub__" (defArgs s_Desk___isub__) (defBody s_Desk___isub__) (defScope s_Desk___isub__) .none kVM_CappedDesk___isub__ dcM_CappedDesk___isub__ pmM_CappedDesk___isub__ anM_CappedDesk___isub__ cdM_CappedDesk___isub__ ctM_CappedDesk___isub__), slM_CappedDesk___isub__⟩) (mC_CappedDesk___isub__ : PySem.W.codeIn K cdM_CappedDesk___isub__ "Desk.__isub__" = true) (mK_CappedDesk___isub__ : PySem.W.keepIn K (.ref g_CappedDesk___isub__) = true)
    {g_CappedDesk___eq__ : Addr} {odM_CappedDesk___eq__ anM_CappedDesk___eq__ : Option Addr} {slM_CappedDesk___eq__ : Array (Option Value)} {ocM_CappedDesk___eq__ kVM_CappedDesk___eq__ dcM_CappedDesk___eq__ pmM_CappedDesk___eq__ cdM_CappedDesk___eq__ ctM_CappedDesk___eq__ : Value}
    (mA_CappedDesk___eq__ : PySem.W.findIn K (.ref C_CappedDesk) "__eq__" = some (some (.ref g_CappedDesk___eq__))) (mJ_CappedDesk___eq__ : PySem.W.typeIn K (.ref g_CappedDesk___eq__) = some (.type "function")) (mL_CappedDesk___eq__ : K.lookup g_CappedDesk___eq__ = some ⟨ocM_CappedDesk___eq__, odM_CappedDesk___eq__, .func (PySem.W.fnOf "__eq__" "Desk.__eq__" (defArgs s_Desk___eq__) (defBody s_Desk___eq__) (defScope s_Desk___eq__) .none kVM_CappedDesk___eq__ dcM_CappedDesk___eq__ pmM_CappedDesk___eq__ anM_CappedDesk___eq__ cdM_CappedDesk___eq__ ctM_CappedDesk___eq__), slM_CappedDesk___eq__⟩) (mC_CappedDesk___eq__ : PySem.W.codeIn K cdM_CappedDesk___eq__ "Desk.__eq__" = true) (mK_CappedDesk___eq__ : PySem.W.keepIn K (.ref g_CappedDesk___eq__) = true)
    {g_CappedDesk_loans : Addr} {odM_CappedDesk_loans anM_CappedDesk_loans : Option Addr} {slM_CappedDesk_loans : Array (Option Value)} {ocM_CappedDesk_loans kVM_CappedDesk_loans dcM_CappedDesk_loans pmM_CappedDesk_loans cdM_CappedDesk_loans ctM_CappedDesk_loans : Value}
    (mA_CappedDesk_loans : PySem.W.findIn K (.ref C_CappedDesk) "loans" = some (some (.ref g_CappedDesk_loans))) (mJ_CappedDesk_loans : PySem.W.typeIn K (.ref g_CappedDesk_loans) = some (.type "function")) (mL_CappedDesk_loans : K.lookup g_CappedDesk_loans = some ⟨ocM_CappedDesk_loans, odM_CappedDesk_loans, .func (PySem.W.fnOf "loans" "Desk.loans" (defArgs s_Desk_loans) (defBody s_Desk_loans) (defScope s_Desk_loans) .none kVM_CappedDesk_loans dcM_CappedDesk_loans pmM_CappedDesk_loans anM_CappedDesk_loans cdM_CappedDesk_loans ctM_CappedDesk_loans), slM_CappedDesk_loans⟩) (mC_CappedDesk_loans : PySem.W.codeIn K cdM_CappedDesk_loans "Desk.loans" = true) (mK_CappedDesk_loans : PySem.W.keepIn K (.ref g_CappedDesk_loans) = true)
    {p_CappedDesk_market g_CappedDesk_market : Addr} {rst_CappedDesk_market : List Value} {odM_CappedDesk_market anM_CappedDesk_market : Option Addr} {slM_CappedDesk_market : Array (Option Value)} {ocM_CappedDesk_market kVM_CappedDesk_market dcM_CappedDesk_market pmM_CappedDesk_market cdM_CappedDesk_market ctM_CappedDesk_market : Value}
    (pA_CappedDesk_market : PySem.W.findIn K (.ref C_CappedDesk) "market" = some (some (.ref p_CappedDesk_market))) (pG_CappedDesk_market : PySem.W.specialIn K (.ref p_CappedDesk_market) "__get__" = some (some (.builtin "property.__get__"))) (pT_CappedDesk_market : PySem.W.takesIn K (.ref p_CappedDesk_market) = some true) (pR_CappedDesk_market : PySem.W.recIn K p_CappedDesk_market "property" = some (.ref g_CappedDesk_market :: rst_CappedDesk_market))
    (mL_CappedDesk_market : K.lookup g_CappedDesk_market = some ⟨ocM_CappedDesk_market, odM_CappedDesk_market, .func (PySem.W.fnOf "market" "Desk.market" (defArgs s_Desk_market) (defBody s_Desk_market) (defScope s_Desk_market) .none kVM_CappedDesk_market dcM_CappedDesk_market pmM_CappedDesk_market anM_CappedDesk_market cdM_CappedDesk_market ctM_CappedDesk_market), slM_CappedDesk_market⟩) (mC_CappedDesk_market : PySem.W.codeIn K cdM_CappedDesk_market "Desk.market" = true) (mK_CappedDesk_market : PySem.W.keepIn K (.ref g_CappedDesk_market) = true)
    {p_CappedDesk_stock g_CappedDesk_stock : Addr} {rst_CappedDesk_stock : List Value} {odM_CappedDesk_stock anM_CappedDesk_stock : Option Addr} {slM_CappedDesk_stock : Array (Option Value)} {ocM_CappedDesk_stock kVM_CappedDesk_stock dcM_CappedDesk_stock pmM_CappedDesk_stock cdM_CappedDesk_stock ctM_CappedDesk_stock : Value}
    (pA_CappedDesk_stock : PySem.W.findIn K (.ref C_CappedDesk) "stock" = some (some (.ref p_CappedDesk_stock))) (pG_CappedDesk_stock : PySem.W.specialIn K (.ref p_CappedDesk_stock) "__get__" = some (some (.builtin "property.__get__"))) (pT_CappedDesk_stock : PySem.W.takesIn K (.ref p_CappedDesk_stock) = some true) (pR_CappedDesk_stock : PySem.W.recIn K p_CappedDesk_stock "property" = some (.ref g_CappedDesk_stock :: rst_CappedDesk_stock))
    (mL_CappedDesk_stock : K.lookup g_CappedDesk_stock = some ⟨ocM_CappedDesk_stock, odM_CappedDesk_stock, .func (PySem.W.fnOf "stock" "Desk.stock" (defArgs s_Desk_stock) (defBody s_Desk_stock) (defScope s_Desk_stock) .none kVM_CappedDesk_stock dcM_CappedDesk_stock pmM_CappedDesk_stock anM_CappedDesk_stock cdM_CappedDesk_stock ctM_CappedDesk_stock), slM_CappedDesk_stock⟩) (mC_CappedDesk_stock : PySem.W.codeIn K cdM_CappedDesk_stock "Desk.stock" = true) (mK_CappedDesk_stock : PySem.W.keepIn K (.ref g_CappedDesk_stock) = true)
    {p_CappedDesk_debt g_CappedDesk_debt : Addr} {rst_CappedDesk_debt : List Value} {odM_CappedDesk_debt anM_CappedDesk_debt : Option Addr} {slM_CappedDesk_debt : Array (Option Value)} {ocM_CappedDesk_debt kVM_CappedDesk_debt dcM_CappedDesk_debt pmM_CappedDesk_debt cdM_CappedDesk_debt ctM_CappedDesk_debt : Value}
    (pA_CappedDesk_debt : PySem.W.findIn K (.ref C_CappedDesk) "debt" = some (some (.ref p_CappedDesk_debt))) (pG_CappedDesk_debt : PySem.W.specialIn K (.ref p_CappedDesk_debt) "__get__" = some (some (.builtin "property.__get__"))) (pT_CappedDesk_debt : PySem.W.takesIn K (.ref p_CappedDesk_debt) = some true) (pR_CappedDesk_debt : PySem.W.recIn K p_CappedDesk_debt "property" = some (.ref g_CappedDesk_debt :: rst_CappedDesk_debt))
    (mL_CappedDesk_debt : K.lookup g_CappedDesk_debt = some ⟨ocM_CappedDesk_debt, odM_CappedDesk_debt, .func (PySem.W.fnOf "debt" "Desk.debt" (defArgs s_Desk_debt) (defBody s_Desk_debt) (defScope s_Desk_debt) .none kVM_CappedDesk_debt dcM_CappedDesk_debt pmM_CappedDesk_debt anM_CappedDesk_debt cdM_CappedDesk_debt ctM_CappedDesk_debt), slM_CappedDesk_debt⟩) (mC_CappedDesk_debt : PySem.W.codeIn K cdM_CappedDesk_debt "Desk.debt" = true) (mK_CappedDesk_debt : PySem.W.keepIn K (.ref g_CappedDesk_debt) = true)
    {p_CappedDesk_version g_CappedDesk_version : Addr} {rst_CappedDesk_version : List Value} {odM_CappedDesk_version anM_CappedDesk_version : Option Addr} {slM_CappedDesk_version : Array (Option Value)} {ocM_CappedDesk_version kVM_CappedDesk_version dcM_CappedDesk_version pmM_CappedDesk_version cdM_CappedDesk_version ctM_CappedDesk_version : Value}
    (pA_CappedDesk_version : PySem.W.findIn K (.ref C_CappedDesk) "version" = some (some (.ref p_CappedDesk_version))) (pG_CappedDesk_version : PySem.W.specialIn K (.ref p_CappedDesk_version) "__get__" = some (some (.builtin "property.__get__"))) (pT_CappedDesk_version : PySem.W.takesIn K (.ref p_CappedDesk_version) = some true) (pR_CappedDesk_version : PySem.W.recIn K p_CappedDesk_version "property" = some (.ref g_CappedDesk_version :: rst_CappedDesk_version))
    (mL_CappedDesk_version : K.lookup g_CappedDesk_version = some ⟨ocM_CappedDesk_version, odM_CappedDesk_version, .func (PySem.W.fnOf "version" "Desk.version" (defArgs s_Desk_version) (defBody s_Desk_version) (defScope s_Desk_version) .none kVM_CappedDesk_version dcM_CappedDesk_version pmM_CappedDesk_version anM_CappedDesk_version cdM_CappedDesk_version ctM_CappedDesk_version), slM_CappedDesk_version⟩) (mC_CappedDesk_version : PySem.W.codeIn K cdM_CappedDesk_version "Desk.version" = true) (mK_CappedDesk_version : PySem.W.keepIn K (.ref g_CappedDesk_version) = true)
    {p_CappedDesk_settled g_CappedDesk_settled : Addr} {rst_CappedDesk_settled : List Value} {odM_CappedDesk_settled anM_CappedDesk_settled : Option Addr} {slM_CappedDesk_settled : Array (Option Value)} {ocM_CappedDesk_settled kVM_CappedDesk_settled dcM_CappedDesk_settled pmM_CappedDesk_settled cdM_CappedDesk_settled ctM_CappedDesk_settled : Value}
    (pA_CappedDesk_settled : PySem.W.findIn K (.ref C_CappedDesk) "settled" = some (some (.ref p_CappedDesk_settled))) (pG_CappedDesk_settled : PySem.W.specialIn K (.ref p_CappedDesk_settled) "__get__" = some (some (.builtin "property.__get__"))) (pT_CappedDesk_settled : PySem.W.takesIn K (.ref p_CappedDesk_settled) = some true) (pR_CappedDesk_settled : PySem.W.recIn K p_CappedDesk_settled "property" = some (.ref g_CappedDesk_settled :: rst_CappedDesk_settled))
    (mL_CappedDesk_settled : K.lookup g_CappedDesk_settled = some ⟨ocM_CappedDesk_settled, odM_CappedDesk_settled, .func (PySem.W.fnOf "settled" "Desk.settled" (defArgs s_Desk_settled) (defBody s_Desk_settled) (defScope s_Desk_settled) .none kVM_CappedDesk_settled dcM_CappedDesk_settled pmM_CappedDesk_settled anM_CappedDesk_settled cdM_CappedDesk_settled ctM_CappedDesk_settled), slM_CappedDesk_settled⟩) (mC_CappedDesk_settled : PySem.W.codeIn K cdM_CappedDesk_settled "Desk.settled" = true) (mK_CappedDesk_settled : PySem.W.keepIn K (.ref g_CappedDesk_settled) = true)
    (fB : PySem.W.findIn K (.ref C_Bag) "__format__" = some (some (.builtin "object.__format__")))
    (kS_tuple : PySem.W.kitOne K (.type "tuple") (.ref C_Desk) = some false)
    (kS_NoneType : PySem.W.kitOne K (.type "NoneType") (.ref C_Desk) = some false)
    (kS_int : PySem.W.kitOne K (.type "int") (.ref C_Desk) = some false)
    (kS_bool : PySem.W.kitOne K (.type "bool") (.ref C_Desk) = some false)
    (kS_str : PySem.W.kitOne K (.type "str") (.ref C_Desk) = some false)
    (kS_list : PySem.W.kitOne K (.type "list") (.ref C_Desk) = some false)
    (kS_dict : PySem.W.kitOne K (.type "dict") (.ref C_Desk) = some false)
    {f_cb c_cb cc_cb : Addr} {ocb kVb dcb pmb ctb clb cclb : Value} {odb anb cldb cddb : Option Addr} {oslb cslb ccsb : Array (Option Value)} {vsCB : Array Value} {fileB : Str} {tfB : Tok} {cdCB : ClassData}
    (cbA : PySem.W.findIn K (.ref C_CappedDesk) "borrow" = some (some (.ref f_cb))) (cbJ : PySem.W.typeIn K (.ref f_cb) = some (.type "function")) (cbL : K.lookup f_cb = some ⟨ocb, odb, .func (PySem.W.fnX "borrow" "CappedDesk.borrow" (defArgs s_CappedDesk_borrow) (defBody s_CappedDesk_borrow) (defScope s_CappedDesk_borrow) [("__class__", cc_cb)] .none kVb dcb pmb anb (.ref c_cb) ctb), oslb⟩) (cbC : PySem.W.codeIn K (.ref c_cb) "CappedDesk.borrow" = true) (cbK : PySem.W.keepIn K (.ref f_cb) = true)
    (cbX : K.lookup cc_cb = some ⟨clb, cldb, .cell (some (.ref C_CappedDesk)), cslb⟩) (cbV : K.lookup c_cb = some ⟨cclb, cddb, .fields vsCB, ccsb⟩) (cbF : vsCB[2]? = some (.str fileB tfB)) (cbFile : ((l.prog.main.file : Str) == fileB) = true) (cbTop : (l.prog.main.scope.names.lookup ("super" : Str)).isSome = false) (cbS : PySem.W.nsIn K mainGlobals "super" = some none) (cbCl : PySem.W.clsIn K C_CappedDesk = some cdCB) (cbSub : PySem.W.mroIn K C_CappedDesk (.ref C_CappedDesk) = some true) (cbTh : PySem.W.nsIn K cStatics "thirdparty.any" = some none)
    (cbAt : PySem.W.ks_superIn K C_CappedDesk C_CappedDesk "borrow" = some (some (.ref g_Desk_borrow))) (cbFn : PySem.W.fnIn K g_Desk_borrow = true)
    (nmC : PySem.W.findIn K (.ref C_CappedDesk) "most" = some none)
    (neDC : C_Desk ≠ C_CappedDesk)
    (sCD : PySem.W.subIn K (.ref C_CappedDesk) (.ref C_Desk) = some true)
    (sDC : PySem.W.subIn K (.ref C_Desk) (.ref C_CappedDesk) = some false)
    (n1C : PySem.W.findIn K (.ref C_CappedDesk) "__ne__" = some (some (.builtin "object.__ne__")))
    (rD : PySem.W.readsIn K C_Desk (.type "type") = true)
    (rDg : PySem.W.specialIn K (.ref C_Desk) "__getattribute__" = some (some (.builtin "type.__getattribute__")))
    (vD : PySem.W.findCls K (.ref C_Desk) (.type "type") "__init__" = some (.val (.ref g_Desk___init__)))
    (x10 : PySem.W.exmOne K (.ref C_BadTimes) (.ref C_NoTrade) = some false)
    (x20 : PySem.W.exmOne K (.ref C_Lacking) (.ref C_NoTrade) = some false)
    (x30 : PySem.W.exmOne K (.ref C_NotOwed) (.ref C_NoTrade) = some false)
    (x40 : PySem.W.exmOne K (.ref C_TooMuch) (.ref C_NoTrade) = some false)
    (x50 : PySem.W.exmOne K (.ref C_BadBag) (.ref C_NoTrade) = some false)
    (x60 : PySem.W.exmOne K (.ref C_OverCap) (.ref C_NoTrade) = some false)
    (x70 : PySem.W.exmOne K (.ref C_NothingToUndo) (.ref C_NoTrade) = some false)
    (x21 : PySem.W.exmOne K (.ref C_Lacking) (.ref C_BadTimes) = some false)
    (x31 : PySem.W.exmOne K (.ref C_NotOwed) (.ref C_BadTimes) = some false)
    (x41 : PySem.W.exmOne K (.ref C_TooMuch) (.ref C_BadTimes) = some false)
    (x51 : PySem.W.exmOne K (.ref C_BadBag) (.ref C_BadTimes) = some false)
    (x61 : PySem.W.exmOne K (.ref C_OverCap) (.ref C_BadTimes) = some false)
    (x71 : PySem.W.exmOne K (.ref C_NothingToUndo) (.ref C_BadTimes) = some false)
    (x32 : PySem.W.exmOne K (.ref C_NotOwed) (.ref C_Lacking) = some false)
    (x42 : PySem.W.exmOne K (.ref C_TooMuch) (.ref C_Lacking) = some false)
    (x52 : PySem.W.exmOne K (.ref C_BadBag) (.ref C_Lacking) = some false)
    (x62 : PySem.W.exmOne K (.ref C_OverCap) (.ref C_Lacking) = some false)
    (x72 : PySem.W.exmOne K (.ref C_NothingToUndo) (.ref C_Lacking) = some false)
    (x43 : PySem.W.exmOne K (.ref C_TooMuch) (.ref C_NotOwed) = some false)
    (x53 : PySem.W.exmOne K (.ref C_BadBag) (.ref C_NotOwed) = some false)
    (x63 : PySem.W.exmOne K (.ref C_OverCap) (.ref C_NotOwed) = some false)
    (x73 : PySem.W.exmOne K (.ref C_NothingToUndo) (.ref C_NotOwed) = some false)
    (x54 : PySem.W.exmOne K (.ref C_BadBag) (.ref C_TooMuch) = some false)
    (x64 : PySem.W.exmOne K (.ref C_OverCap) (.ref C_TooMuch) = some false)
    (x74 : PySem.W.exmOne K (.ref C_NothingToUndo) (.ref C_TooMuch) = some false)
    (x65 : PySem.W.exmOne K (.ref C_OverCap) (.ref C_BadBag) = some false)
    (x75 : PySem.W.exmOne K (.ref C_NothingToUndo) (.ref C_BadBag) = some false)
    (x76 : PySem.W.exmOne K (.ref C_NothingToUndo) (.ref C_OverCap) = some false)
    (neB : C_Bag ≠ C_Desk)
    (neBC : C_Bag ≠ C_CappedDesk)
    (neT : Pt18 ≠ Pt32)
    (sfD : PySem.W.selfFirst K C_Desk = true)
    (sfC : PySem.W.selfFirst K C_CappedDesk = true)
    (rS_tuple : PySem.W.kitOne K (.type "tuple") (.ref C_Bag) = some false)
    (rS_NoneType : PySem.W.kitOne K (.type "NoneType") (.ref C_Bag) = some false)
    (rS_int : PySem.W.kitOne K (.type "int") (.ref C_Bag) = some false)
    (rS_bool : PySem.W.kitOne K (.type "bool") (.ref C_Bag) = some false)
    (rS_str : PySem.W.kitOne K (.type "str") (.ref C_Bag) = some false)
    (rS_list : PySem.W.kitOne K (.type "list") (.ref C_Bag) = some false)
    (rS_dict : PySem.W.kitOne K (.type "dict") (.ref C_Bag) = some false)
    (z_len : PySem.W.nsIn K mainGlobals "len" = some none)
    (z_range : PySem.W.nsIn K mainGlobals "range" = some none)
    (z_int : PySem.W.nsIn K mainGlobals "int" = some none)
    (z_bool : PySem.W.nsIn K mainGlobals "bool" = some none)
    (z_tuple : PySem.W.nsIn K mainGlobals "tuple" = some none)
    (z_list : PySem.W.nsIn K mainGlobals "list" = some none)
    (z_str : PySem.W.nsIn K mainGlobals "str" = some none)
    (z_dict : PySem.W.nsIn K mainGlobals "dict" = some none)
    (z_all : PySem.W.nsIn K mainGlobals "all" = some none)
    (z_any : PySem.W.nsIn K mainGlobals "any" = some none)
    (z_max : PySem.W.nsIn K mainGlobals "max" = some none)
    (z_min : PySem.W.nsIn K mainGlobals "min" = some none)
    (z_sum : PySem.W.nsIn K mainGlobals "sum" = some none)
    (z_zip : PySem.W.nsIn K mainGlobals "zip" = some none)
    (z_enumerate : PySem.W.nsIn K mainGlobals "enumerate" = some none)
    (z_isinstance : PySem.W.nsIn K mainGlobals "isinstance" = some none)
    (z_repr : PySem.W.nsIn K mainGlobals "repr" = some none)
    (z_sorted : PySem.W.nsIn K mainGlobals "sorted" = some none)
    {t_MAX_GOODS : Tok} (v_MAX_GOODS : PySem.W.nsIn K mainGlobals "MAX_GOODS" = some (some (.int 4 t_MAX_GOODS)))
    {t_MAX_TRADES : Tok} (v_MAX_TRADES : PySem.W.nsIn K mainGlobals "MAX_TRADES" = some (some (.int 4 t_MAX_TRADES)))
    {t_MAX_AMOUNT : Tok} (v_MAX_AMOUNT : PySem.W.nsIn K mainGlobals "MAX_AMOUNT" = some (some (.int 3 t_MAX_AMOUNT)))
    {t_MAX_TOTAL : Tok} (v_MAX_TOTAL : PySem.W.nsIn K mainGlobals "MAX_TOTAL" = some (some (.int 4 t_MAX_TOTAL)))
    {t_MAX_LENT : Tok} (v_MAX_LENT : PySem.W.nsIn K mainGlobals "MAX_LENT" = some (some (.int 3 t_MAX_LENT)))
    {t_MAX_DESK : Tok} (v_MAX_DESK : PySem.W.nsIn K mainGlobals "MAX_DESK" = some (some (.int 6 t_MAX_DESK)))
    {t_MAX_TIMES : Tok} (v_MAX_TIMES : PySem.W.nsIn K mainGlobals "MAX_TIMES" = some (some (.int 9 t_MAX_TIMES)))
    : LawTs l w K 26 "_law_script" mg fa h := by
  have e := hfa.symm.trans (PySem.W.mg_of X G a32)
  cases e
  have F := fun_mk (st := s_law) l32 c32 k32
  have B : Blt mg := ⟨PySem.W.mg_none_of X G z_len, PySem.W.mg_none_of X G z_range, PySem.W.mg_none_of X G z_int, PySem.W.mg_none_of X G z_bool, PySem.W.mg_none_of X G z_tuple, PySem.W.mg_none_of X G z_list, PySem.W.mg_none_of X G z_str, PySem.W.mg_none_of X G z_dict, PySem.W.mg_none_of X G z_all, PySem.W.mg_none_of X G z_any, PySem.W.mg_none_of X G z_max, PySem.W.mg_none_of X G z_min, PySem.W.mg_none_of X G z_sum, PySem.W.mg_none_of X G z_zip, PySem.W.mg_none_of X G z_enumerate, PySem.W.mg_none_of X G z_isinstance, PySem.W.mg_none_of X G z_repr, PySem.W.mg_none_of X G z_sorted⟩
  have D__law_deck : Df K mg "_law_deck" s__law_deck := df_mk X G a0 l0 c0 k0
  have D__law_draw : Df K mg "_law_draw" s__law_draw := df_mk X G a1 l1 c1 k1
  have D__law_one : Df K mg "_law_one" s__law_one := df_mk X G a2 l2 c2 k2
  have D__law_bag : Df K mg "_law_bag" s__law_bag := df_mk X G a3 l3 c3 k3
  have D__law_side : Df K mg "_law_side" s__law_side := df_mk X G a4 l4 c4 k4
  have D__law_trade : Df K mg "_law_trade" s__law_trade := df_mk X G a5 l5 c5 k5
  have D__law_market : Df K mg "_law_market" s__law_market := df_mk X G a6 l6 c6 k6
  have D__law_small : Df K mg "_law_small" s__law_small := df_mk X G a7 l7 c7 k7
  have D__law_plus : Df K mg "_law_plus" s__law_plus := df_mk X G a8 l8 c8 k8
  have D__law_less : Df K mg "_law_less" s__law_less := df_mk X G a9 l9 c9 k9
  have D__law_tell : Df K mg "_law_tell" s__law_tell := df_mk X G a10 l10 c10 k10
  have D__law_kept : Df K mg "_law_kept" s__law_kept := df_mk X G a11 l11 c11 k11
  have D__law_borrowed : Df K mg "_law_borrowed" s__law_borrowed := df_mk X G a12 l12 c12 k12
  have D__law_paid : Df K mg "_law_paid" s__law_paid := df_mk X G a13 l13 c13 k13
  have D__law_undone : Df K mg "_law_undone" s__law_undone := df_mk X G a14 l14 c14 k14
  have D__law_done : Df K mg "_law_done" s__law_done := df_mk X G a15 l15 c15 k15
  have D__law_is_shown : Df K mg "_law_is_shown" s__law_is_shown := df_mk X G a16 l16 c16 k16
  have D__law_taken_back : Df K mg "_law_taken_back" s__law_taken_back := df_mk X G a17 l17 c17 k17
  have D__law_deed : Df K mg "_law_deed" s__law_deed := df_mk X G a18 l18 c18 k18
  have D__law_begun : Df K mg "_law_begun" s__law_begun := df_mk X G a19 l19 c19 k19
  have D_is_whole : Df K mg "is_whole" s_is_whole := df_mk X G a20 l20 c20 k20
  have D_is_pair : Df K mg "is_pair" s_is_pair := df_mk X G a21 l21 c21 k21
  have D_is_bag : Df K mg "is_bag" s_is_bag := df_mk X G a22 l22 c22 k22
  have D_trade_fault : Df K mg "trade_fault" s_trade_fault := df_mk X G a23 l23 c23 k23
  have D_market_error : Df K mg "market_error" s_market_error := df_mk X G a24 l24 c24 k24
  have D_joined : Df K mg "joined" s_joined := df_mk X G a25 l25 c25 k25
  have D_first_lacking : Df K mg "first_lacking" s_first_lacking := df_mk X G a26 l26 c26 k26
  have D_desk_error : Df K mg "desk_error" s_desk_error := df_mk X G a27 l27 c27 k27
  have D_check_kind : Df K mg "check_kind" s_check_kind := df_mk X G a28 l28 c28 k28
  have D_check_room : Df K mg "check_room" s_check_room := df_mk X G a29 l29 c29 k29
  have D__law_signed : Df K mg "_law_signed" s__law_signed := df_mk X G a30 l30 c30 k30
  have D__law_asked : Df K mg "_law_asked" s__law_asked := df_mk X G a31 l31 c31 k31
  have K_MAX_GOODS := PySem.W.mg_of X G v_MAX_GOODS
  have K_MAX_TRADES := PySem.W.mg_of X G v_MAX_TRADES
  have K_MAX_AMOUNT := PySem.W.mg_of X G v_MAX_AMOUNT
  have K_MAX_TOTAL := PySem.W.mg_of X G v_MAX_TOTAL
  have K_MAX_LENT := PySem.W.mg_of X G v_MAX_LENT
  have K_MAX_DESK := PySem.W.mg_of X G v_MAX_DESK
  have K_MAX_TIMES := PySem.W.mg_of X G v_MAX_TIMES
  have BC : BagC K mg C_Bag := ⟨⟨bG, bD, bO, bS⟩, bN, bF, PySem.W.mg_of X G bA, bCa, bCn, bCt, bCm, bK, ⟨_, _, ⟨bR, bRg⟩, ⟨bV, ⟨_, rfl⟩⟩⟩, bM, bP⟩
  have D_Bag___init__ : DfM K C_Bag "__init__" "Bag.__init__" s_Bag___init__ := dfM_mk mA___init__ mJ___init__ mL___init__ mC___init__ mK___init__
  have D_Bag_is_like : DfM K C_Bag "is_like" "Bag.is_like" s_Bag_is_like := dfM_mk mA_is_like mJ_is_like mL_is_like mC_is_like mK_is_like
  have D_Bag_amounts_of : DfM K C_Bag "amounts_of" "Bag.amounts_of" s_Bag_amounts_of := dfM_mk mA_amounts_of mJ_amounts_of mL_amounts_of mC_amounts_of mK_amounts_of
  have D_Bag___len__ : DfM K C_Bag "__len__" "Bag.__len__" s_Bag___len__ := dfM_mk mA___len__ mJ___len__ mL___len__ mC___len__ mK___len__
  have D_Bag___add__ : DfM K C_Bag "__add__" "Bag.__add__" s_Bag___add__ := dfM_mk mA___add__ mJ___add__ mL___add__ mC___add__ mK___add__
  have D_Bag___sub__ : DfM K C_Bag "__sub__" "Bag.__sub__" s_Bag___sub__ := dfM_mk mA___sub__ mJ___sub__ mL___sub__ mC___sub__ mK___sub__
  have D_Bag___or__ : DfM K C_Bag "__or__" "Bag.__or__" s_Bag___or__ := dfM_mk mA___or__ mJ___or__ mL___or__ mC___or__ mK___or__
  have D_Bag___eq__ : DfM K C_Bag "__eq__" "Bag.__eq__" s_Bag___eq__ := dfM_mk mA___eq__ mJ___eq__ mL___eq__ mC___eq__ mK___eq__
  have F_Bag_amounts := fun_mk (st := s_Bag_amounts) mL_amounts mC_amounts mK_amounts
  have P_Bag_amounts : PropOf K C_Bag "amounts" p_amounts g_amounts := ⟨pA_amounts, pG_amounts, pT_amounts, _, pR_amounts⟩
  have DSb : DfS K C_CappedDesk "borrow" "CappedDesk.borrow" s_CappedDesk_borrow f_cb c_cb cc_cb := ⟨⟨_, _, _, _, _, _, _, _, cbL⟩, cbC, ⟨cbA, by unfold PySem.W.isFn; rw [cbJ]; exact beq_self_eq_true _, cbK⟩, ⟨_, _, _, cbX⟩⟩
  have CL_Desk : Cls K C_Desk := ⟨dG_Desk, dH_Desk, dO_Desk, dS_Desk⟩
  have DC_Desk : DskC K C_Desk := ⟨CL_Desk, d1_Desk, d2_Desk, d3_Desk, d4_Desk⟩
  have DX_Desk : DskT K C_Desk C_Desk := ⟨DC_Desk, dCa_Desk, bCn, bCt, dCm_Desk, dK_Desk⟩
  have D_Desk___init__ : DfM K C_Desk "__init__" "Desk.__init__" s_Desk___init__ := dfM_mk mA_Desk___init__ mJ_Desk___init__ mL_Desk___init__ mC_Desk___init__ mK_Desk___init__
  have D_Desk_borrow : DfM K C_Desk "borrow" "Desk.borrow" s_Desk_borrow := dfM_mk mA_Desk_borrow mJ_Desk_borrow mL_Desk_borrow mC_Desk_borrow mK_Desk_borrow
  have D_Desk___len__ : DfM K C_Desk "__len__" "Desk.__len__" s_Desk___len__ := dfM_mk mA_Desk___len__ mJ_Desk___len__ mL_Desk___len__ mC_Desk___len__ mK_Desk___len__
  have D_Desk_record : DfM K C_Desk "record" "Desk.record" s_Desk_record := dfM_mk mA_Desk_record mJ_Desk_record mL_Desk_record mC_Desk_record mK_Desk_record
  have D_Desk_trade : DfM K C_Desk "trade" "Desk.trade" s_Desk_trade := dfM_mk mA_Desk_trade mJ_Desk_trade mL_Desk_trade mC_Desk_trade mK_Desk_trade
  have D_Desk_pay : DfM K C_Desk "pay" "Desk.pay" s_Desk_pay := dfM_mk mA_Desk_pay mJ_Desk_pay mL_Desk_pay mC_Desk_pay mK_Desk_pay
  have D_Desk_undo : DfM K C_Desk "undo" "Desk.undo" s_Desk_undo := dfM_mk mA_Desk_undo mJ_Desk_undo mL_Desk_undo mC_Desk_undo mK_Desk_undo
  have D_Desk___iadd__ : DfM K C_Desk "__iadd__" "Desk.__iadd__" s_Desk___iadd__ := dfM_mk mA_Desk___iadd__ mJ_Desk___iadd__ mL_Desk___iadd__ mC_Desk___iadd__ mK_Desk___iadd__
  have D_Desk___isub__ : DfM K C_Desk "__isub__" "Desk.__isub__" s_Desk___isub__ := dfM_mk mA_Desk___isub__ mJ_Desk___isub__ mL_Desk___isub__ mC_Desk___isub__ mK_Desk___isub__
  have D_Desk___eq__ : DfM K C_Desk "__eq__" "Desk.__eq__" s_Desk___eq__ := dfM_mk mA_Desk___eq__ mJ_Desk___eq__ mL_Desk___eq__ mC_Desk___eq__ mK_Desk___eq__
  have D_Desk_loans : DfM K C_Desk "loans" "Desk.loans" s_Desk_loans := dfM_mk mA_Desk_loans mJ_Desk_loans mL_Desk_loans mC_Desk_loans mK_Desk_loans
  have F_Desk_market := fun_mk (st := s_Desk_market) mL_Desk_market mC_Desk_market mK_Desk_market
  have P_Desk_market : PropOf K C_Desk "market" p_Desk_market g_Desk_market := ⟨pA_Desk_market, pG_Desk_market, pT_Desk_market, _, pR_Desk_market⟩
  have F_Desk_stock := fun_mk (st := s_Desk_stock) mL_Desk_stock mC_Desk_stock mK_Desk_stock
  have P_Desk_stock : PropOf K C_Desk "stock" p_Desk_stock g_Desk_stock := ⟨pA_Desk_stock, pG_Desk_stock, pT_Desk_stock, _, pR_Desk_stock⟩
  have F_Desk_debt := fun_mk (st := s_Desk_debt) mL_Desk_debt mC_Desk_debt mK_Desk_debt
  have P_Desk_debt : PropOf K C_Desk "debt" p_Desk_debt g_Desk_debt := ⟨pA_Desk_debt, pG_Desk_debt, pT_Desk_debt, _, pR_Desk_debt⟩
  have F_Desk_version := fun_mk (st := s_Desk_version) mL_Desk_version mC_Desk_version mK_Desk_version
  have P_Desk_version : PropOf K C_Desk "version" p_Desk_version g_Desk_version := ⟨pA_Desk_version, pG_Desk_version, pT_Desk_version, _, pR_Desk_version⟩
  have F_Desk_settled := fun_mk (st := s_Desk_settled) mL_Desk_settled mC_Desk_settled mK_Desk_settled
  have P_Desk_settled : PropOf K C_Desk "settled" p_Desk_settled g_Desk_settled := ⟨pA_Desk_settled, pG_Desk_settled, pT_Desk_settled, _, pR_Desk_settled⟩
  have CL_CappedDesk : Cls K C_CappedDesk := ⟨dG_CappedDesk, dH_CappedDesk, dO_CappedDesk, dS_CappedDesk⟩
  have DC_CappedDesk : DskC K C_CappedDesk := ⟨CL_CappedDesk, d1_CappedDesk, d2_CappedDesk, d3_CappedDesk, d4_CappedDesk⟩
  have DX_CappedDesk : DskT K C_Desk C_CappedDesk := ⟨DC_CappedDesk, dCa_CappedDesk, bCn, bCt, dCm_CappedDesk, dK_CappedDesk⟩
  have D_CappedDesk___init__ : DfM K C_CappedDesk "__init__" "CappedDesk.__init__" s_CappedDesk___init__ := dfM_mk mA_CappedDesk___init__ mJ_CappedDesk___init__ mL_CappedDesk___init__ mC_CappedDesk___init__ mK_CappedDesk___init__
  have D_CappedDesk___len__ : DfM K C_CappedDesk "__len__" "Desk.__len__" s_Desk___len__ := dfM_mk mA_CappedDesk___len__ mJ_CappedDesk___len__ mL_CappedDesk___len__ mC_CappedDesk___len__ mK_CappedDesk___len__
  have D_CappedDesk_record : DfM K C_CappedDesk "record" "Desk.record" s_Desk_record := dfM_mk mA_CappedDesk_record mJ_CappedDesk_record mL_CappedDesk_record mC_CappedDesk_record mK_CappedDesk_record
  have D_CappedDesk_trade : DfM K C_CappedDesk "trade" "Desk.trade" s_Desk_trade := dfM_mk mA_CappedDesk_trade mJ_CappedDesk_trade mL_CappedDesk_trade mC_CappedDesk_trade mK_CappedDesk_trade
  have D_CappedDesk_pay : DfM K C_CappedDesk "pay" "Desk.pay" s_Desk_pay := dfM_mk mA_CappedDesk_pay mJ_CappedDesk_pay mL_CappedDesk_pay mC_CappedDesk_pay mK_CappedDesk_pay
  have D_CappedDesk_undo : DfM K C_CappedDesk "undo" "Desk.undo" s_Desk_undo := dfM_mk mA_CappedDesk_undo mJ_CappedDesk_undo mL_CappedDesk_undo mC_CappedDesk_undo mK_CappedDesk_undo
  have D_CappedDesk___iadd__ : DfM K C_CappedDesk "__iadd__" "Desk.__iadd__" s_Desk___iadd__ := dfM_mk mA_CappedDesk___iadd__ mJ_CappedDesk___iadd__ mL_CappedDesk___iadd__ mC_CappedDesk___iadd__ mK_CappedDesk___iadd__
  have D_CappedDesk___isub__ : DfM K C_CappedDesk "__isub__" "Desk.__isub__" s_Desk___isub__ := dfM_mk mA_CappedDesk___isub__ mJ_CappedDesk___isub__ mL_CappedDesk___isub__ mC_CappedDesk___isub__ mK_CappedDesk___isub__
  have D_CappedDesk___eq__ : DfM K C_CappedDesk "__eq__" "Desk.__eq__" s_Desk___eq__ := dfM_mk mA_CappedDesk___eq__ mJ_CappedDesk___eq__ mL_CappedDesk___eq__ mC_CappedDesk___eq__ mK_CappedDesk___eq__
  have D_CappedDesk_loans : DfM K C_CappedDesk "loans" "Desk.loans" s_Desk_loans := dfM_mk mA_CappedDesk_loans mJ_CappedDesk_loans mL_CappedDesk_loans mC_CappedDesk_loans mK_CappedDesk_loans
  have F_CappedDesk_market := fun_mk (st := s_Desk_market) mL_CappedDesk_market mC_CappedDesk_market mK_CappedDesk_market
  have P_CappedDesk_market : PropOf K C_CappedDesk "market" p_CappedDesk_market g_CappedDesk_market := ⟨pA_CappedDesk_market, pG_CappedDesk_market, pT_CappedDesk_market, _, pR_CappedDesk_market⟩
  have F_CappedDesk_stock := fun_mk (st := s_Desk_stock) mL_CappedDesk_stock mC_CappedDesk_stock mK_CappedDesk_stock
  have P_CappedDesk_stock : PropOf K C_CappedDesk "stock" p_CappedDesk_stock g_CappedDesk_stock := ⟨pA_CappedDesk_stock, pG_CappedDesk_stock, pT_CappedDesk_stock, _, pR_CappedDesk_stock⟩
  have F_CappedDesk_debt := fun_mk (st := s_Desk_debt) mL_CappedDesk_debt mC_CappedDesk_debt mK_CappedDesk_debt
  have P_CappedDesk_debt : PropOf K C_CappedDesk "debt" p_CappedDesk_debt g_CappedDesk_debt := ⟨pA_CappedDesk_debt, pG_CappedDesk_debt, pT_CappedDesk_debt, _, pR_CappedDesk_debt⟩
  have F_CappedDesk_version := fun_mk (st := s_Desk_version) mL_CappedDesk_version mC_CappedDesk_version mK_CappedDesk_version
  have P_CappedDesk_version : PropOf K C_CappedDesk "version" p_CappedDesk_version g_CappedDesk_version := ⟨pA_CappedDesk_version, pG_CappedDesk_version, pT_CappedDesk_version, _, pR_CappedDesk_version⟩
  have F_CappedDesk_settled := fun_mk (st := s_Desk_settled) mL_CappedDesk_settled mC_CappedDesk_settled mK_CappedDesk_settled
  have P_CappedDesk_settled : PropOf K C_CappedDesk "settled" p_CappedDesk_settled g_CappedDesk_settled := ⟨pA_CappedDesk_settled, pG_CappedDesk_settled, pT_CappedDesk_settled, _, pR_CappedDesk_settled⟩
  have SC_Desk : StdC K C_Desk := fun T hT => std_cases (P := fun T => PySem.W.kitOne K (.type T) (.ref C_Desk) = some false) hT kS_tuple kS_NoneType kS_int kS_bool kS_str kS_list kS_dict
  have T_BadBag : Err0 K mg "BadBag" C_BadBag := ⟨PySem.W.mg_of X G zA_BadBag, zX_BadBag, zK_BadBag, zB_BadBag, zT_BadBag, zM_BadBag⟩
  have T_OverCap : Err0 K mg "OverCap" C_OverCap := ⟨PySem.W.mg_of X G zA_OverCap, zX_OverCap, zK_OverCap, zB_OverCap, zT_OverCap, zM_OverCap⟩
  have T_NothingToUndo : Err0 K mg "NothingToUndo" C_NothingToUndo := ⟨PySem.W.mg_of X G zA_NothingToUndo, zX_NothingToUndo, zK_NothingToUndo, zB_NothingToUndo, zT_NothingToUndo, zM_NothingToUndo⟩
  refine ⟨PySem.W.fnOf "law" "law" (defArgs s_law) (defBody s_law) (defScope s_law) .none kV32 dc32 pm32 an32 (.ref cT32) ct32, [(cT18, Pt18), (cT32, Pt32)], (all_consL (own _ (by simp) _ (PySem.W.mg_of X G a18) cT18 Pt18 _ _ _ _ _ _ l18 rfl rfl vl18 v11_18) (all_consL (own _ (by simp) _ (PySem.W.mg_of X G a32) cT32 Pt32 _ _ _ _ _ _ l32 rfl rfl vl32 v11_32) all_nilL)), (all_consL (nPt18) (all_consL (nPt32) all_nilL)), (all_consL (PySem.W.codeHd_of_K X hhd18) (all_consL (PySem.W.codeHd_of_K X hhd32) all_nilL)), fun s v => .of_eq rfl, fun base _ _ TBs => ?_⟩
  have TB18 := TBs (cT18, Pt18) (by simp)
  have TB32 := TBs (cT32, Pt32) (by simp)
  have ox_BadMarket : OexC K C_BadMarket := ⟨⟨_, _, _, _, _, _, _, _, _, _, _, _, _, _, _, eX_BadMarket, eR_BadMarket⟩, eS_BadMarket, eB_BadMarket, eT_BadMarket, eK_BadMarket⟩
  have F_BadMarket := fun_mk (st := s_BadMarket___init__) eL_BadMarket eC_BadMarket eQ_BadMarket
  have T_BadMarket : Err1 l.prog w K mg base "BadMarket" "error" C_BadMarket := ⟨PySem.W.mg_of X G eA_BadMarket, ox_BadMarket, ⟨eG_BadMarket, eH_BadMarket, eB_BadMarket, eD_BadMarket⟩, eN_BadMarket, eM_BadMarket, fI_BadMarket, _, eI_BadMarket, eJ_BadMarket, ini_badmarket F_BadMarket ox_BadMarket eN_BadMarket, F_BadMarket.binds (fun _ _ _ _ _ _ us hl => match us, hl with | [_, _], _ => rfl)⟩
  have ox_TooMuch : OexC K C_TooMuch := ⟨⟨_, _, _, _, _, _, _, _, _, _, _, _, _, _, _, eX_TooMuch, eR_TooMuch⟩, eS_TooMuch, eB_TooMuch, eT_TooMuch, eK_TooMuch⟩
  have F_TooMuch := fun_mk (st := s_TooMuch___init__) eL_TooMuch eC_TooMuch eQ_TooMuch
  have T_TooMuch : Err1 l.prog w K mg base "TooMuch" "good" C_TooMuch := ⟨PySem.W.mg_of X G eA_TooMuch, ox_TooMuch, ⟨eG_TooMuch, eH_TooMuch, eB_TooMuch, eD_TooMuch⟩, eN_TooMuch, eM_TooMuch, fI_TooMuch, _, eI_TooMuch, eJ_TooMuch, ini_toomuch F_TooMuch ox_TooMuch eN_TooMuch, F_TooMuch.binds (fun _ _ _ _ _ _ us hl => match us, hl with | [_, _], _ => rfl)⟩
  have ox_BadTimes : OexC K C_BadTimes := ⟨⟨_, _, _, _, _, _, _, _, _, _, _, _, _, _, _, eX_BadTimes, eR_BadTimes⟩, eS_BadTimes, eB_BadTimes, eT_BadTimes, eK_BadTimes⟩
  have F_BadTimes := fun_mk (st := s_BadTimes___init__) eL_BadTimes eC_BadTimes eQ_BadTimes
  have T_BadTimes : Err1 l.prog w K mg base "BadTimes" "value" C_BadTimes := ⟨PySem.W.mg_of X G eA_BadTimes, ox_BadTimes, ⟨eG_BadTimes, eH_BadTimes, eB_BadTimes, eD_BadTimes⟩, eN_BadTimes, eM_BadTimes, fI_BadTimes, _, eI_BadTimes, eJ_BadTimes, ini_badtimes F_BadTimes ox_BadTimes eN_BadTimes, F_BadTimes.binds (fun _ _ _ _ _ _ us hl => match us, hl with | [_, _], _ => rfl)⟩
  have ox_Lacking : OexC K C_Lacking := ⟨⟨_, _, _, _, _, _, _, _, _, _, _, _, _, _, _, eX_Lacking, eR_Lacking⟩, eS_Lacking, eB_Lacking, eT_Lacking, eK_Lacking⟩
  have F_Lacking := fun_mk (st := s_Lacking___init__) eL_Lacking eC_Lacking eQ_Lacking
  have T_Lacking : Err1 l.prog w K mg base "Lacking" "good" C_Lacking := ⟨PySem.W.mg_of X G eA_Lacking, ox_Lacking, ⟨eG_Lacking, eH_Lacking, eB_Lacking, eD_Lacking⟩, eN_Lacking, eM_Lacking, fI_Lacking, _, eI_Lacking, eJ_Lacking, ini_lacking F_Lacking ox_Lacking eN_Lacking, F_Lacking.binds (fun _ _ _ _ _ _ us hl => match us, hl with | [_, _], _ => rfl)⟩
  have ox_NotOwed : OexC K C_NotOwed := ⟨⟨_, _, _, _, _, _, _, _, _, _, _, _, _, _, _, eX_NotOwed, eR_NotOwed⟩, eS_NotOwed, eB_NotOwed, eT_NotOwed, eK_NotOwed⟩
  have F_NotOwed := fun_mk (st := s_NotOwed___init__) eL_NotOwed eC_NotOwed eQ_NotOwed
  have T_NotOwed : Err1 l.prog w K mg base "NotOwed" "good" C_NotOwed := ⟨PySem.W.mg_of X G eA_NotOwed, ox_NotOwed, ⟨eG_NotOwed, eH_NotOwed, eB_NotOwed, eD_NotOwed⟩, eN_NotOwed, eM_NotOwed, fI_NotOwed, _, eI_NotOwed, eJ_NotOwed, ini_notowed F_NotOwed ox_NotOwed eN_NotOwed, F_NotOwed.binds (fun _ _ _ _ _ _ us hl => match us, hl with | [_, _], _ => rfl)⟩
  have ox_NoTrade : OexL K C_NoTrade := ⟨⟨_, _, _, _, _, _, _, _, _, _, _, _, _, _, eX_NoTrade⟩, eS_NoTrade, eB_NoTrade, eT_NoTrade, eK_NoTrade⟩
  have F_NoTrade := fun_mk (st := s_NoTrade___init__) eL_NoTrade eC_NoTrade eQ_NoTrade
  have T_NoTrade : Err1L l.prog w K mg base "NoTrade" "value" C_NoTrade := ⟨PySem.W.mg_of X G eA_NoTrade, ox_NoTrade, ⟨eG_NoTrade, eH_NoTrade, eB_NoTrade, eD_NoTrade⟩, eN_NoTrade, eM_NoTrade, fI_NoTrade, _, eI_NoTrade, eJ_NoTrade, ini_notrade F_NoTrade ox_NoTrade eN_NoTrade, F_NoTrade.binds (fun _ _ _ _ _ _ us hl => match us, hl with | [_, _], _ => rfl)⟩
  have SC_Bag : StdC K C_Bag := fun T hT => std_cases (P := fun T => PySem.W.kitOne K (.type T) (.ref C_Bag) = some false) hT rS_tuple rS_NoneType rS_int rS_bool rS_str rS_list rS_dict
  have O_draw := own_draw (P := l.prog) (w := w) (base := base) D__law_draw B
  have O_deck := own_deck (P := l.prog) (w := w) (base := base) D__law_deck B
  have O_one := own_one D__law_one B O_draw
  have O_bag := own_bag D__law_bag B O_draw
  have O_plus := own_plus (P := l.prog) (w := w) (base := base) D__law_plus B
  have O_less := own_less (P := l.prog) (w := w) (base := base) D__law_less B
  have O_side := own_side D__law_side B O_draw
  have O_trade := own_trade D__law_trade B O_draw O_side O_plus
  have O_market := own_market D__law_market B O_draw O_trade
  have O_small := own_small D__law_small B O_draw O_market
  have O_wx := own_wholeX (P := l.prog) (w := w) (base := base) D_is_whole B
  have O_whole := O_wx.imp whole_imp
  have O_pair := own_pair (P := l.prog) (w := w) (base := base) D_is_pair B
  have O_isbag := own_isbag D_is_bag B O_whole
  have O_isbagL := own_isbagL D_is_bag B O_wx
  have O_fault := own_fault D_trade_fault B O_pair O_isbag K_MAX_AMOUNT K_MAX_TOTAL
  have O_err := own_err D_market_error B O_whole O_pair O_fault K_MAX_GOODS K_MAX_TRADES
  have O_derr := own_derr D_desk_error B ⟨_, K_MAX_LENT⟩ O_err
  have O_lack := own_lack (P := l.prog) (w := w) (base := base) D_first_lacking B
  have O_joined := own_joined (P := l.prog) (w := w) (base := base) D_joined B
  have M_init := own_binit D_Bag___init__ B BC T_BadBag O_isbagL
  have M_amounts := own_bamt (P := l.prog) (w := w) (mg := mg) (base := base) F_Bag_amounts P_Bag_amounts BC
  have M_is_like := own_blike (P := l.prog) (w := w) (base := base) D_Bag_is_like B BC
  have M_of := own_bof D_Bag_amounts_of B BC T_BadBag M_is_like
  have M_len := own_blen (P := l.prog) (w := w) (base := base) D_Bag___len__ B BC
  have M_add := own_badd D_Bag___add__ B BC M_init M_of
  have M_sub := own_bsub D_Bag___sub__ B BC T_Lacking O_lack M_init M_of
  have M_or := own_bor D_Bag___or__ B BC O_joined M_init M_of
  have O_ck := own_ckind D_check_kind B BC T_BadBag M_is_like
  have O_cr := own_croom D_check_room B BC K_MAX_DESK T_TooMuch O_lack M_len M_amounts
  have M_dinit := own_dinit D_Desk___init__ B BC T_BadMarket T_BadBag O_derr O_ck O_cr M_init
  have O_di := cfun_of M_dinit mA_Desk___init__ ⟨rD, rDg⟩ vD mK_Desk___init__
  have M_cinit := own_cinit D_CappedDesk___init__ B (PySem.W.mg_of X G dA_Desk) T_BadTimes O_wx O_di
  have DT : DkT K mg C_Desk C_CappedDesk := ⟨PySem.W.mg_of X G dA_Desk, PySem.W.mg_of X G dA_CappedDesk, dM_Desk, dM_CappedDesk, dP_Desk, dP_CappedDesk, DX_Desk, DX_CappedDesk, nmC, neDC, sCD, sDC, n1C, SC_Desk⟩
  have DD : Dist K (doneC ⟨C_NoTrade, C_BadTimes, C_Lacking, C_NotOwed, C_TooMuch, C_BadBag, C_OverCap, C_NothingToUndo⟩) := dist_of ⟨eM_NoTrade, ⟨x10, x20, x30, x40, x50, x60, x70, trivial⟩, eM_BadTimes, ⟨x21, x31, x41, x51, x61, x71, trivial⟩, eM_Lacking, ⟨x32, x42, x52, x62, x72, trivial⟩, eM_NotOwed, ⟨x43, x53, x63, x73, trivial⟩, eM_TooMuch, ⟨x54, x64, x74, trivial⟩, zM_BadBag, ⟨x65, x75, trivial⟩, zM_OverCap, ⟨x76, trivial⟩, zM_NothingToUndo, trivial, trivial⟩
  have TD : DoneT l.prog w K mg base ⟨C_NoTrade, C_BadTimes, C_Lacking, C_NotOwed, C_TooMuch, C_BadBag, C_OverCap, C_NothingToUndo⟩ := ⟨T_NoTrade, T_BadTimes, T_Lacking, T_NotOwed, T_TooMuch, T_BadBag, T_OverCap, T_NothingToUndo⟩
  have O_kept := own_kept (P := l.prog) (w := w) (base := base) D__law_kept B
  have O_borrowed := own_borrowed D__law_borrowed B O_plus O_kept
  have O_paid := own_paid D__law_paid B O_less O_kept
  have O_undone := own_undone (P := l.prog) (w := w) (base := base) D__law_undone B
  have O_tell := own_tell D__law_tell B O_plus O_less O_kept
  have M_eq := own_beq (P := l.prog) (w := w) (base := base) D_Bag___eq__ B BC
  have TFd : TabFor [(Pt18, lamQ "_law_deed"), (Pt32, lamQ "law")] Pt18 "_law_deed" := tab_fst neT
  have FB2 := fun_mk (st := s_Desk_borrow) mL_Desk_borrow mC_Desk_borrow mK_Desk_borrow
  have B2 := FB2.binds (ps := ["self", "bag"]) (fun _ _ _ _ _ _ us hl => match us, hl with | [_, _], _ => rfl)
  have Q_market_D := own_dmarket (P := l.prog) (w := w) (mg := mg) (base := base) F_Desk_market P_Desk_market
  have Q_stock_D := own_dstock (P := l.prog) (w := w) (mg := mg) (base := base) F_Desk_stock P_Desk_stock
  have Q_debt_D := own_ddebt (P := l.prog) (w := w) (mg := mg) (base := base) F_Desk_debt P_Desk_debt
  have Q_version_D := own_dversion (P := l.prog) (w := w) (mg := mg) (base := base) F_Desk_version P_Desk_version B
  have Q_settled_D := own_dsettled F_Desk_settled P_Desk_settled B BC M_amounts
  have M_dlen_D := own_dlen (P := l.prog) (w := w) (base := base) D_Desk___len__ B
  have M_record_D := own_drecord (P := l.prog) (w := w) (base := base) (C := C_Bag) D_Desk_record B
  have F2_D := fn_dborrow FB2 B BC CL_Desk O_ck O_cr M_add M_or M_record_D
  have M_borrow0_D : OwnM l.prog w K mg base C_Desk "borrow" 8 ["self", "bag"] _ := ⟨_, _, ⟨mA_Desk_borrow, by unfold PySem.W.isFn; rw [mJ_Desk_borrow]; exact beq_self_eq_true _, mK_Desk_borrow⟩, F2_D, B2⟩
  have M_borrow_D := M_borrow0_D.up (j := 12) (by omega) (borrow_imp (cs := ⟨C_NoTrade, C_BadTimes, C_Lacking, C_NotOwed, C_TooMuch, C_BadBag, C_OverCap, C_NothingToUndo⟩))
  have M_pay0_D := own_dpay D_Desk_pay B BC CL_Desk T_NotOwed O_ck O_lack M_amounts M_sub M_record_D
  have M_pay_D := M_pay0_D.up (j := 8) (by omega) (pay_imp (cs := ⟨C_NoTrade, C_BadTimes, C_Lacking, C_NotOwed, C_TooMuch, C_BadBag, C_OverCap, C_NothingToUndo⟩))
  have M_undo_D := own_dundo (P := l.prog) (w := w) (base := base) (C := C_Bag) (cs := ⟨C_NoTrade, C_BadTimes, C_Lacking, C_NotOwed, C_TooMuch, C_BadBag, C_OverCap, C_NothingToUndo⟩) D_Desk_undo B T_NothingToUndo
  have M_trade_D := own_dtrade (cs := ⟨C_NoTrade, C_BadTimes, C_Lacking, C_NotOwed, C_TooMuch, C_BadBag, C_OverCap, C_NothingToUndo⟩) D_Desk_trade B BC CL_Desk K_MAX_TIMES T_NoTrade T_BadTimes O_wx O_cr M_init M_add M_sub M_record_D
  have M_iadd_D := own_diadd D_Desk___iadd__ B CL_Desk M_borrow_D
  have M_isub_D := own_disub D_Desk___isub__ B CL_Desk M_pay_D
  have M_deq_D := own_deq D_Desk___eq__ B (PySem.W.mg_of X G dA_Desk) M_eq
  have M_loans_D := own_loansB (cs := ⟨C_NoTrade, C_BadTimes, C_Lacking, C_NotOwed, C_TooMuch, C_BadBag, C_OverCap, C_NothingToUndo⟩) (cp := false) D_Desk_loans B SC_Bag CL_Desk O_ck
  have O_shown_D := own_shown D__law_is_shown B BC DC_Desk Q_market_D Q_stock_D Q_debt_D Q_version_D Q_settled_D M_amounts M_dlen_D
  have O_taken_D := own_takenB D__law_taken_back B CL_Desk M_undo_D
  have O_deed_D := own_deed (cp := false) l18 c18 (PySem.W.mg_of X G a18) k18 B TB18 TFd BC DC_Desk DD TD D__law_done O_draw O_one O_bag O_tell O_borrowed O_paid O_undone O_shown_D O_taken_D M_init M_trade_D M_borrow_D M_pay_D
  have O_signed_D := own_signed D__law_signed B DX_Desk sfD M_iadd_D M_isub_D M_deq_D Q_version_D
  have O_asked_D := own_asked D__law_asked B SC_Bag CL_Desk O_signed_D M_borrow_D M_pay_D M_loans_D
  have Q_market_C := own_dmarket (P := l.prog) (w := w) (mg := mg) (base := base) F_CappedDesk_market P_CappedDesk_market
  have Q_stock_C := own_dstock (P := l.prog) (w := w) (mg := mg) (base := base) F_CappedDesk_stock P_CappedDesk_stock
  have Q_debt_C := own_ddebt (P := l.prog) (w := w) (mg := mg) (base := base) F_CappedDesk_debt P_CappedDesk_debt
  have Q_version_C := own_dversion (P := l.prog) (w := w) (mg := mg) (base := base) F_CappedDesk_version P_CappedDesk_version B
  have Q_settled_C := own_dsettled F_CappedDesk_settled P_CappedDesk_settled B BC M_amounts
  have M_dlen_C := own_dlen (P := l.prog) (w := w) (base := base) D_CappedDesk___len__ B
  have M_record_C := own_drecord (P := l.prog) (w := w) (base := base) (C := C_Bag) D_CappedDesk_record B
  have F2_C := fn_dborrow FB2 B BC CL_CappedDesk O_ck O_cr M_add M_or M_record_C
  have M_borrow_C := own_cborrow (cs := ⟨C_NoTrade, C_BadTimes, C_Lacking, C_NotOwed, C_TooMuch, C_BadBag, C_OverCap, C_NothingToUndo⟩) DSb B BC DC_CappedDesk nmC T_OverCap cbV cbF cbFile cbTop (PySem.W.mg_none_of X G cbS) cbCl cbSub cbTh cbAt mJ_Desk_borrow cbFn O_ck M_add M_amounts F2_C B2
  have M_pay0_C := own_dpay D_CappedDesk_pay B BC CL_CappedDesk T_NotOwed O_ck O_lack M_amounts M_sub M_record_C
  have M_pay_C := M_pay0_C.up (j := 8) (by omega) (pay_imp (cs := ⟨C_NoTrade, C_BadTimes, C_Lacking, C_NotOwed, C_TooMuch, C_BadBag, C_OverCap, C_NothingToUndo⟩))
  have M_undo_C := own_dundo (P := l.prog) (w := w) (base := base) (C := C_Bag) (cs := ⟨C_NoTrade, C_BadTimes, C_Lacking, C_NotOwed, C_TooMuch, C_BadBag, C_OverCap, C_NothingToUndo⟩) D_CappedDesk_undo B T_NothingToUndo
  have M_trade_C := own_dtrade (cs := ⟨C_NoTrade, C_BadTimes, C_Lacking, C_NotOwed, C_TooMuch, C_BadBag, C_OverCap, C_NothingToUndo⟩) D_CappedDesk_trade B BC CL_CappedDesk K_MAX_TIMES T_NoTrade T_BadTimes O_wx O_cr M_init M_add M_sub M_record_C
  have M_iadd_C := own_diadd D_CappedDesk___iadd__ B CL_CappedDesk M_borrow_C
  have M_isub_C := own_disub D_CappedDesk___isub__ B CL_CappedDesk M_pay_C
  have M_deq_C := own_deq D_CappedDesk___eq__ B (PySem.W.mg_of X G dA_Desk) M_eq
  have M_loans_C := own_loansB (cs := ⟨C_NoTrade, C_BadTimes, C_Lacking, C_NotOwed, C_TooMuch, C_BadBag, C_OverCap, C_NothingToUndo⟩) (cp := true) D_CappedDesk_loans B SC_Bag CL_CappedDesk O_ck
  have O_shown_C := own_shown D__law_is_shown B BC DC_CappedDesk Q_market_C Q_stock_C Q_debt_C Q_version_C Q_settled_C M_amounts M_dlen_C
  have O_taken_C := own_takenB D__law_taken_back B CL_CappedDesk M_undo_C
  have O_deed_C := own_deed (cp := true) l18 c18 (PySem.W.mg_of X G a18) k18 B TB18 TFd BC DC_CappedDesk DD TD D__law_done O_draw O_one O_bag O_tell O_borrowed O_paid O_undone O_shown_C O_taken_C M_init M_trade_C M_borrow_C M_pay_C
  have O_signed_C := own_signed D__law_signed B DX_CappedDesk sfC M_iadd_C M_isub_C M_deq_C Q_version_C
  have O_asked_C := own_asked D__law_asked B SC_Bag CL_CappedDesk O_signed_C M_borrow_C M_pay_C M_loans_C
  have O_begun := own_begunB (TS := [(Pt18, lamQ "_law_deed"), (Pt32, lamQ "law")]) (cpD := false) (cpC := true) D__law_begun B BC DT neB neBC rfl rfl O_one O_bag O_small M_init M_dinit M_cinit
  exact fn_law l32 c32 TB32 rfl neT B BC DT DD TD D__law_done O_deck O_draw O_one O_bag O_begun O_deed_D O_deed_C O_borrowed O_paid O_shown_D O_shown_C O_asked_D O_asked_C O_signed_D O_signed_C M_init
end Lb
namespace LbH
open PySem PySem.W
def names : List PySem.Str := (["_wall", "__name__", "MarketError", "BadMarket", "BadBag", "BadTimes", "Lacking", "NotOwed", "TooMuch", "OverCap", "NothingToUndo", "NoTrade", "MAX_GOODS", "MAX_TRADES", "MAX_AMOUNT", "MAX_TOTAL", "MAX_LENT", "MAX_DESK", "MAX_TIMES", "is_whole", "is_bag", "is_pair", "trade_fault", "market_error", "holds", "exchange", "after_step", "plainness", "plainer", "first_use"] : List PySem.Str) ++ (["times_alone", "times_until", "times_in_a_row", "after_uses", "descent", "fall", "joined", "first_lacking", "Bag", "turned", "share", "is_settled", "Ledger", "ledger_of", "the_list", "all_among", "lies_in", "is_part", "narrowed", "parts_without", "greatest", "added", "with_note", "lent_rules", "Search", "finished_search", "helpers", "desk_error", "check_kind", "check_room"] : List PySem.Str) ++ (["Desk", "CappedDesk", "_law_deck", "_law_draw", "_law_one", "_law_bag", "_law_side", "_law_trade", "_law_market", "_law_small", "_law_plus", "_law_less", "_law_tell", "_law_kept", "_law_borrowed", "_law_paid", "_law_undone", "_law_done", "_law_is_shown", "_law_taken_back", "_law_begun", "_law_signed", "_law_asked"] : List PySem.Str)
theorem ob_eq (as ts : List Addr) (s : SharedT) : (as.map (HandSHeadRun.getT s), ts.map (HandSHeadRun.getT s)) = (as.map s.abs.heap.get?, ts.map s.abs.heap.get?) :=
  Prod.ext (List.map_congr_left fun a _ => HandSHeadRun.getT_eq s a) (List.map_congr_left fun a _ => HandSHeadRun.getT_eq s a)
end LbH
section
open PySem PySem.W PySem.Calls PyProof.Rows
local macro_rules | `(tactic| o_head ($f $kS $aS $e $ts)) => `(tactic| refine HandSHeadRun.head_any (r := (PySem.W.OpenLaw.row PySem.Challenge.rw_lentbeside_k37_bags_that_no_desk_takes)) (q := view (PySem.W.OpenLaw.row PySem.Challenge.rw_lentbeside_k37_bags_that_no_desk_takes).prog [88, 92]) (H := $f $kS $aS $e $ts) (ob := fun s => (List.map (HandSHeadRun.getT s) $aS, List.map (HandSHeadRun.getT s) $ts)) (M := 20000) (loose := LbH.names) (d := HandSHeadRun.topDef (PySem.W.OpenLaw.row PySem.Challenge.rw_lentbeside_k37_bags_that_no_desk_takes).prog 92) (kwd := []) (fun s => LbH.ob_eq $aS $ts s)
    (by kernel_rfl) (fun s => by kernel_rfl) (fun w => by intro os; kernel_rfl) (by kernel_rfl) (by kernel_rfl) (by kernel_rfl) (by rfl) (by first | assumption | decide +kernel) (by decide +kernel) ⟨rfl, rfl, rfl, rfl, rfl, by decide +kernel⟩ ?hw ?hc)
open PySem PySem.W PyProof.Rows in
set_option maxHeartbeats 0 in
open_top LbTop for PySem.Challenge.rw_lentbeside_k37_bags_that_no_desk_takes
open PySem PySem.W PyProof.Rows in
set_option maxHeartbeats 0 in
theorem PySem.Challenge.cw_lentbeside_k37_bags_that_no_desk_takes_holds : PySem.Challenge.rw_lentbeside_k37_bags_that_no_desk_takes.Holds := by
  refine LbTop ?hc
  case hc =>
    refine Lb.walk_gTs (l := PySem.Challenge.rw_lentbeside_k37_bags_that_no_desk_takes) (k := 26) (x := "_law_script") [("_law_deed" : Str), ("law" : Str)] rfl (by kernel_rfl) ⟨rfl, by decide, by decide⟩ (by kernel_rfl) (fun w h Y => PySem.W.km_in_of Y) ?F
    case F =>
      intro w mg fa h KX G hmg0 own
      have hmg : mg ("law" : PySem.Str) = some (.ref fa) := by
        have e : (HandSHeadRun.topDef (PySem.W.OpenLaw.row PySem.Challenge.rw_lentbeside_k37_bags_that_no_desk_takes).prog 92).name = ("law" : PySem.Str) := by kernel_rfl
        rw [← e]
        exact hmg0
      refine' Lb.all_mk KX G hmg own ?a0 ?l0 ?c0 ?k0 ?a1 ?l1 ?c1 ?k1 ?a2 ?l2 ?c2 ?k2 ?a3 ?l3 ?c3 ?k3 ?a4 ?l4 ?c4 ?k4 ?a5 ?l5 ?c5 ?k5 ?a6 ?l6 ?c6 ?k6 ?a7 ?l7 ?c7 ?k7 ?a8 ?l8 ?c8 ?k8 ?a9 ?l9 ?c9 ?k9 ?a10 ?l10 ?c10 ?k10 ?a11 ?l11 ?c11 ?k11 ?a12 ?l12 ?c12 ?k12 ?a13 ?l13 ?c13 ?k13 ?a14 ?l14 ?c14 ?k14 ?a15 ?l15 ?c15 ?k15 ?a16 ?l16 ?c16 ?k16 ?a17 ?l17 ?c17 ?k17 ?a18 ?l18 ?c18 ?k18 ?a19 ?l19 ?c19 ?k19 ?a20 ?l20 ?c20 ?k20 ?a21 ?l21 ?c21 ?k21 ?a22 ?l22 ?c22 ?k22 ?a23 ?l23 ?c23 ?k23 ?a24 ?l24 ?c24 ?k24 ?a25 ?l25 ?c25 ?k25 ?a26 ?l26 ?c26 ?k26 ?a27 ?l27 ?c27 ?k27 ?a28 ?l28 ?c28 ?k28 ?a29 ?l29 ?c29 ?k29 ?a30 ?l30 ?c30 ?k30 ?a31 ?l31 ?c31 ?k31 ?a32 ?l32 ?c32 ?k32 ?vl18 ?v11_18 ?nPt18 ?hhd18 ?vl32 ?v11_32 ?nPt32 ?hhd32 ?eA_BadMarket ?eX_BadMarket ?eR_BadMarket ?eS_BadMarket ?eG_BadMarket ?eH_BadMarket ?eN_BadMarket ?eK_BadMarket ?eB_BadMarket ?eT_BadMarket ?eD_BadMarket ?eM_BadMarket ?eI_BadMarket ?eJ_BadMarket ?eL_BadMarket ?eC_BadMarket ?eQ_BadMarket ?eA_TooMuch ?eX_TooMuch ?eR_TooMuch ?eS_TooMuch ?eG_TooMuch ?eH_TooMuch ?eN_TooMuch ?eK_TooMuch ?eB_TooMuch ?eT_TooMuch ?eD_TooMuch ?eM_TooMuch ?eI_TooMuch ?eJ_TooMuch ?eL_TooMuch ?eC_TooMuch ?eQ_TooMuch ?eA_BadTimes ?eX_BadTimes ?eR_BadTimes ?eS_BadTimes ?eG_BadTimes ?eH_BadTimes ?eN_BadTimes ?eK_BadTimes ?eB_BadTimes ?eT_BadTimes ?eD_BadTimes ?eM_BadTimes ?eI_BadTimes ?eJ_BadTimes ?eL_BadTimes ?eC_BadTimes ?eQ_BadTimes ?eA_Lacking ?eX_Lacking ?eR_Lacking ?eS_Lacking ?eG_Lacking ?eH_Lacking ?eN_Lacking ?eK_Lacking ?eB_Lacking ?eT_Lacking ?eD_Lacking ?eM_Lacking ?eI_Lacking ?eJ_Lacking ?eL_Lacking ?eC_Lacking ?eQ_Lacking ?eA_NotOwed ?eX_NotOwed ?eR_NotOwed ?eS_NotOwed ?eG_NotOwed ?eH_NotOwed ?eN_NotOwed ?eK_NotOwed ?eB_NotOwed ?eT_NotOwed ?eD_NotOwed ?eM_NotOwed ?eI_NotOwed ?eJ_NotOwed ?eL_NotOwed ?eC_NotOwed ?eQ_NotOwed ?eA_NoTrade ?eX_NoTrade ?eS_NoTrade ?eG_NoTrade ?eH_NoTrade ?eN_NoTrade ?eK_NoTrade ?eB_NoTrade ?eT_NoTrade ?eD_NoTrade ?eM_NoTrade ?eI_NoTrade ?eJ_NoTrade ?eL_NoTrade ?eC_NoTrade ?eQ_NoTrade ?zA_BadBag ?zX_BadBag ?zK_BadBag ?zB_BadBag ?zT_BadBag ?zM_BadBag ?zA_OverCap ?zX_OverCap ?zK_OverCap ?zB_OverCap ?zT_OverCap ?zM_OverCap ?zA_NothingToUndo ?zX_NothingToUndo ?zK_NothingToUndo ?zB_NothingToUndo ?zT_NothingToUndo ?zM_NothingToUndo ?bA ?bG ?bD ?bO ?bS ?bN ?bF ?bCa ?bCn ?bCt ?bCm ?bK ?bR ?bRg ?bV ?bM ?bP ?mA___init__ ?mJ___init__ ?mL___init__ ?mC___init__ ?mK___init__ ?mA_is_like ?mJ_is_like ?mL_is_like ?mC_is_like ?mK_is_like ?mA_amounts_of ?mJ_amounts_of ?mL_amounts_of ?mC_amounts_of ?mK_amounts_of ?mA___len__ ?mJ___len__ ?mL___len__ ?mC___len__ ?mK___len__ ?mA___add__ ?mJ___add__ ?mL___add__ ?mC___add__ ?mK___add__ ?mA___sub__ ?mJ___sub__ ?mL___sub__ ?mC___sub__ ?mK___sub__ ?mA___or__ ?mJ___or__ ?mL___or__ ?mC___or__ ?mK___or__ ?mA___eq__ ?mJ___eq__ ?mL___eq__ ?mC___eq__ ?mK___eq__ ?pA_amounts ?pG_amounts ?pT_amounts ?pR_amounts ?mL_amounts ?mC_amounts ?mK_amounts ?dA_Desk ?dG_Desk ?dH_Desk ?dO_Desk ?dS_Desk ?d1_Desk ?d2_Desk ?d3_Desk ?d4_Desk ?dCa_Desk ?dCm_Desk ?dK_Desk ?dM_Desk ?dP_Desk ?mA_Desk___init__ ?mJ_Desk___init__ ?mL_Desk___init__ ?mC_Desk___init__ ?mK_Desk___init__ ?mA_Desk_borrow ?mJ_Desk_borrow ?mL_Desk_borrow ?mC_Desk_borrow ?mK_Desk_borrow ?mA_Desk___len__ ?mJ_Desk___len__ ?mL_Desk___len__ ?mC_Desk___len__ ?mK_Desk___len__ ?mA_Desk_record ?mJ_Desk_record ?mL_Desk_record ?mC_Desk_record ?mK_Desk_record ?mA_Desk_trade ?mJ_Desk_trade ?mL_Desk_trade ?mC_Desk_trade ?mK_Desk_trade ?mA_Desk_pay ?mJ_Desk_pay ?mL_Desk_pay ?mC_Desk_pay ?mK_Desk_pay ?mA_Desk_undo ?mJ_Desk_undo ?mL_Desk_undo ?mC_Desk_undo ?mK_Desk_undo ?mA_Desk___iadd__ ?mJ_Desk___iadd__ ?mL_Desk___iadd__ ?mC_Desk___iadd__ ?mK_Desk___iadd__ ?mA_Desk___isub__ ?mJ_Desk___isub__ ?mL_Desk___isub__ ?mC_Desk___isub__ ?mK_Desk___isub__ ?mA_Desk___eq__ ?mJ_Desk___eq__ ?mL_Desk___eq__ ?mC_Desk___eq__ ?mK_Desk___eq__ ?mA_Desk_loans ?mJ_Desk_loans ?mL_Desk_loans ?mC_Desk_loans ?mK_Desk_loans ?pA_Desk_market ?pG_Desk_market ?pT_Desk_market ?pR_Desk_market ?mL_Desk_market ?mC_Desk_market ?mK_Desk_market ?pA_Desk_stock ?pG_Desk_stock ?pT_Desk_stock ?pR_Desk_stock ?mL_Desk_stock ?mC_Desk_stock ?mK_Desk_stock ?pA_Desk_debt ?pG_Desk_debt ?pT_Desk_debt ?pR_Desk_debt ?mL_Desk_debt ?mC_Desk_debt ?mK_Desk_debt ?pA_Desk_version ?pG_Desk_version ?pT_Desk_version ?pR_Desk_version ?mL_Desk_version ?mC_Desk_version ?mK_Desk_version ?pA_Desk_settled ?pG_Desk_settled ?pT_Desk_settled ?pR_Desk_settled ?mL_Desk_settled ?mC_Desk_settled ?mK_Desk_settled ?dA_CappedDesk ?dG_CappedDesk ?dH_CappedDesk ?dO_CappedDesk ?dS_CappedDesk ?d1_CappedDesk ?d2_CappedDesk ?d3_CappedDesk ?d4_CappedDesk ?dCa_CappedDesk ?dCm_CappedDesk ?dK_CappedDesk ?dM_CappedDesk ?dP_CappedDesk ?mA_CappedDesk___init__ ?mJ_CappedDesk___init__ ?mL_CappedDesk___init__ ?mC_CappedDesk___init__ ?mK_CappedDesk___init__ ?mA_CappedDesk___len__ ?mJ_CappedDesk___len__ ?mL_CappedDesk___len__ ?mC_CappedDesk___len__ ?mK_CappedDesk___len__ ?mA_CappedDesk_record ?mJ_CappedDesk_record ?mL_CappedDesk_record ?mC_CappedDesk_record ?mK_CappedDesk_record ?mA_CappedDesk_trade ?mJ_CappedDesk_trade ?mL_CappedDesk_trade ?mC_CappedDesk_trade ?mK_CappedDesk_trade ?mA_CappedDesk_pay ?mJ_CappedDesk_pay ?mL_CappedDesk_pay ?mC_CappedDesk_pay ?mK_CappedDesk_pay ?mA_CappedDesk_undo ?mJ_CappedDesk_undo ?mL_CappedDesk_undo ?mC_CappedDesk_undo ?mK_CappedDesk_undo ?mA_CappedDesk___iadd__ ?mJ_CappedDesk___iadd__ ?mL_CappedDesk___iadd__ ?mC_CappedDesk___iadd__ ?mK_CappedDesk___iadd__ ?mA_CappedDesk___isub__ ?mJ_CappedDesk___isub__ ?mL_CappedDesk___isub__ ?mC_CappedDesk___isub__ ?mK_CappedDesk___isub__ ?mA_CappedDesk___eq__ ?mJ_CappedDesk___eq__ ?mL_CappedDesk___eq__ ?mC_CappedDesk___eq__ ?mK_CappedDesk___eq__ ?mA_CappedDesk_loans ?mJ_CappedDesk_loans ?mL_CappedDesk_loans ?mC_CappedDesk_loans ?mK_CappedDesk_loans ?pA_CappedDesk_market ?pG_CappedDesk_market ?pT_CappedDesk_market ?pR_CappedDesk_market ?mL_CappedDesk_market ?mC_CappedDesk_market ?mK_CappedDesk_market ?pA_CappedDesk_stock ?pG_CappedDesk_stock ?pT_CappedDesk_stock ?pR_CappedDesk_stock ?mL_CappedDesk_stock ?mC_CappedDesk_stock ?mK_CappedDesk_stock ?pA_CappedDesk_debt ?pG_CappedDesk_debt ?pT_CappedDesk_debt ?pR_CappedDesk_debt ?mL_CappedDesk_debt ?mC_CappedDesk_debt ?mK_CappedDesk_debt ?pA_CappedDesk_version ?pG_CappedDesk_version ?pT_CappedDesk_version ?pR_CappedDesk_version ?mL_CappedDesk_version ?mC_CappedDesk_version ?mK_CappedDesk_version ?pA_CappedDesk_settled ?pG_CappedDesk_settled ?pT_CappedDesk_settled ?pR_CappedDesk_settled ?mL_CappedDesk_settled ?mC_CappedDesk_settled ?mK_CappedDesk_settled ?fB ?kS_tuple ?kS_NoneType ?kS_int ?kS_bool ?kS_str ?kS_list ?kS_dict ?cbA ?cbJ ?cbL ?cbC ?cbK ?cbX ?cbV ?cbF ?cbFile ?cbTop ?cbS ?cbCl ?cbSub ?cbTh ?cbAt ?cbFn ?nmC ?neDC ?sCD ?sDC ?n1C ?rD ?rDg ?vD ?x10 ?x20 ?x30 ?x40 ?x50 ?x60 ?x70 ?x21 ?x31 ?x41 ?x51 ?x61 ?x71 ?x32 ?x42 ?x52 ?x62 ?x72 ?x43 ?x53 ?x63 ?x73 ?x54 ?x64 ?x74 ?x65 ?x75 ?x76 ?neB ?neBC ?neT ?sfD ?sfC ?rS_tuple ?rS_NoneType ?rS_int ?rS_bool ?rS_str ?rS_list ?rS_dict ?z_len ?z_range ?z_int ?z_bool ?z_tuple ?z_list ?z_str ?z_dict ?z_all ?z_any ?z_max ?z_min ?z_sum ?z_zip ?z_enumerate ?z_isinstance ?z_repr ?z_sorted ?v_MAX_GOODS ?v_MAX_TRADES ?v_MAX_AMOUNT ?v_MAX_TOTAL ?v_MAX_LENT ?v_MAX_DESK ?v_MAX_TIMES
      (case a0 => k_is)
      (case l0 => k_is)
      (case c0 => k_is)
      (case k0 => k_is)
      (case a1 => k_is)
      (case l1 => k_is)
      (case c1 => k_is)
      (case k1 => k_is)
      (case a2 => k_is)
      (case l2 => k_is)
      (case c2 => k_is)
      (case k2 => k_is)
      (case a3 => k_is)
      (case l3 => k_is)
      (case c3 => k_is)
      (case k3 => k_is)
      (case a4 => k_is)
      (case l4 => k_is)
      (case c4 => k_is)
      (case k4 => k_is)
      (case a5 => k_is)
      (case l5 => k_is)
      (case c5 => k_is)
      (case k5 => k_is)
      (case a6 => k_is)
      (case l6 => k_is)
      (case c6 => k_is)
      (case k6 => k_is)
      (case a7 => k_is)
      (case l7 => k_is)
      (case c7 => k_is)
      (case k7 => k_is)
      (case a8 => k_is)
      (case l8 => k_is)
      (case c8 => k_is)
      (case k8 => k_is)
      (case a9 => k_is)
      (case l9 => k_is)
      (case c9 => k_is)
      (case k9 => k_is)
      (case a10 => k_is)
      (case l10 => k_is)
      (case c10 => k_is)
      (case k10 => k_is)
      (case a11 => k_is)
      (case l11 => k_is)
      (case c11 => k_is)
      (case k11 => k_is)
      (case a12 => k_is)
      (case l12 => k_is)
      (case c12 => k_is)
      (case k12 => k_is)
      (case a13 => k_is)
      (case l13 => k_is)
      (case c13 => k_is)
      (case k13 => k_is)
      (case a14 => k_is)
      (case l14 => k_is)
      (case c14 => k_is)
      (case k14 => k_is)
      (case a15 => k_is)
      (case l15 => k_is)
      (case c15 => k_is)
      (case k15 => k_is)
      (case a16 => k_is)
      (case l16 => k_is)
      (case c16 => k_is)
      (case k16 => k_is)
      (case a17 => k_is)
      (case l17 => k_is)
      (case c17 => k_is)
      (case k17 => k_is)
      (case a18 => k_is)
      (case l18 => k_is)
      (case c18 => k_is)
      (case k18 => k_is)
      (case a19 => k_is)
      (case l19 => k_is)
      (case c19 => k_is)
      (case k19 => k_is)
      (case a20 => k_is)
      (case l20 => k_is)
      (case c20 => k_is)
      (case k20 => k_is)
      (case a21 => k_is)
      (case l21 => k_is)
      (case c21 => k_is)
      (case k21 => k_is)
      (case a22 => k_is)
      (case l22 => k_is)
      (case c22 => k_is)
      (case k22 => k_is)
      (case a23 => k_is)
      (case l23 => k_is)
      (case c23 => k_is)
      (case k23 => k_is)
      (case a24 => k_is)
      (case l24 => k_is)
      (case c24 => k_is)
      (case k24 => k_is)
      (case a25 => k_is)
      (case l25 => k_is)
      (case c25 => k_is)
      (case k25 => k_is)
      (case a26 => k_is)
      (case l26 => k_is)
      (case c26 => k_is)
      (case k26 => k_is)
      (case a27 => k_is)
      (case l27 => k_is)
      (case c27 => k_is)
      (case k27 => k_is)
      (case a28 => k_is)
      (case l28 => k_is)
      (case c28 => k_is)
      (case k28 => k_is)
      (case a29 => k_is)
      (case l29 => k_is)
      (case c29 => k_is)
      (case k29 => k_is)
      (case a30 => k_is)
      (case l30 => k_is)
      (case c30 => k_is)
      (case k30 => k_is)
      (case a31 => k_is)
      (case l31 => k_is)
      (case c31 => k_is)
      (case k31 => k_is)
      (case a32 => k_is)
      (case l32 => k_is)
      (case c32 => k_is)
      (case k32 => k_is)
      (case vl18 => k_is)
      (case v11_18 => rfl)
      (case nPt18 => first | rfl | k_is)
      (case hhd18 => first | rfl | k_is)
      (case vl32 => k_is)
      (case v11_32 => rfl)
      (case nPt32 => first | rfl | k_is)
      (case hhd32 => first | rfl | k_is)
      (case eA_BadMarket => k_is)
      (case eX_BadMarket => k_is)
      (case eR_BadMarket => decide +kernel)
      (case eS_BadMarket => k_is)
      (case eG_BadMarket => k_is)
      (case eH_BadMarket => k_is)
      (case eN_BadMarket => k_is)
      (case eK_BadMarket => k_is)
      (case eB_BadMarket => k_is)
      (case eT_BadMarket => k_is)
      (case eD_BadMarket => k_is)
      (case eM_BadMarket => first | rfl | k_is)
      (case eI_BadMarket => k_is)
      (case eJ_BadMarket => k_is)
      (case eL_BadMarket => k_is)
      (case eC_BadMarket => k_is)
      (case eQ_BadMarket => k_is)
      (case eA_TooMuch => k_is)
      (case eX_TooMuch => k_is)
      (case eR_TooMuch => decide +kernel)
      (case eS_TooMuch => k_is)
      (case eG_TooMuch => k_is)
      (case eH_TooMuch => k_is)
      (case eN_TooMuch => k_is)
      (case eK_TooMuch => k_is)
      (case eB_TooMuch => k_is)
      (case eT_TooMuch => k_is)
      (case eD_TooMuch => k_is)
      (case eM_TooMuch => first | rfl | k_is)
      (case eI_TooMuch => k_is)
      (case eJ_TooMuch => k_is)
      (case eL_TooMuch => k_is)
      (case eC_TooMuch => k_is)
      (case eQ_TooMuch => k_is)
      (case eA_BadTimes => k_is)
      (case eX_BadTimes => k_is)
      (case eR_BadTimes => decide +kernel)
      (case eS_BadTimes => k_is)
      (case eG_BadTimes => k_is)
      (case eH_BadTimes => k_is)
      (case eN_BadTimes => k_is)
      (case eK_BadTimes => k_is)
      (case eB_BadTimes => k_is)
      (case eT_BadTimes => k_is)
      (case eD_BadTimes => k_is)
      (case eM_BadTimes => first | rfl | k_is)
      (case eI_BadTimes => k_is)
      (case eJ_BadTimes => k_is)
      (case eL_BadTimes => k_is)
      (case eC_BadTimes => k_is)
      (case eQ_BadTimes => k_is)
      (case eA_Lacking => k_is)
      (case eX_Lacking => k_is)
      (case eR_Lacking => decide +kernel)
      (case eS_Lacking => k_is)
      (case eG_Lacking => k_is)
      (case eH_Lacking => k_is)
      (case eN_Lacking => k_is)
      (case eK_Lacking => k_is)
      (case eB_Lacking => k_is)
      (case eT_Lacking => k_is)
      (case eD_Lacking => k_is)
      (case eM_Lacking => first | rfl | k_is)
      (case eI_Lacking => k_is)
      (case eJ_Lacking => k_is)
      (case eL_Lacking => k_is)
      (case eC_Lacking => k_is)
      (case eQ_Lacking => k_is)
      (case eA_NotOwed => k_is)
      (case eX_NotOwed => k_is)
      (case eR_NotOwed => decide +kernel)
      (case eS_NotOwed => k_is)
      (case eG_NotOwed => k_is)
      (case eH_NotOwed => k_is)
      (case eN_NotOwed => k_is)
      (case eK_NotOwed => k_is)
      (case eB_NotOwed => k_is)
      (case eT_NotOwed => k_is)
      (case eD_NotOwed => k_is)
      (case eM_NotOwed => first | rfl | k_is)
      (case eI_NotOwed => k_is)
      (case eJ_NotOwed => k_is)
      (case eL_NotOwed => k_is)
      (case eC_NotOwed => k_is)
      (case eQ_NotOwed => k_is)
      (case eA_NoTrade => k_is)
      (case eX_NoTrade => k_is)
      (case eS_NoTrade => k_is)
      (case eG_NoTrade => k_is)
      (case eH_NoTrade => k_is)
      (case eN_NoTrade => k_is)
      (case eK_NoTrade => k_is)
      (case eB_NoTrade => k_is)
      (case eT_NoTrade => k_is)
      (case eD_NoTrade => k_is)
      (case eM_NoTrade => first | rfl | k_is)
      (case eI_NoTrade => k_is)
      (case eJ_NoTrade => k_is)
      (case eL_NoTrade => k_is)
      (case eC_NoTrade => k_is)
      (case eQ_NoTrade => k_is)
      (case zA_BadBag => k_is)
      (case zX_BadBag => k_exc)
      (case zK_BadBag => k_is)
      (case zB_BadBag => k_is)
      (case zT_BadBag => k_is)
      (case zM_BadBag => first | rfl | k_is)
      (case zA_OverCap => k_is)
      (case zX_OverCap => k_exc)
      (case zK_OverCap => k_is)
      (case zB_OverCap => k_is)
      (case zT_OverCap => k_is)
      (case zM_OverCap => first | rfl | k_is)
      (case zA_NothingToUndo => k_is)
      (case zX_NothingToUndo => k_exc)
      (case zK_NothingToUndo => k_is)
      (case zB_NothingToUndo => k_is)
      (case zT_NothingToUndo => k_is)
      (case zM_NothingToUndo => first | rfl | k_is)
      (case bA => first | k_is | rfl | decide +kernel)
      (case bG => first | k_is | rfl | decide +kernel)
      (case bD => first | k_is | rfl | decide +kernel)
      (case bO => first | k_is | rfl | decide +kernel)
      (case bS => first | k_is | rfl | decide +kernel)
      (case bN => first | k_is | rfl | decide +kernel)
      (case bF => first | k_is | rfl | decide +kernel)
      (case bCa => first | k_is | rfl | decide +kernel)
      (case bCn => first | k_is | rfl | decide +kernel)
      (case bCt => first | k_is | rfl | decide +kernel)
      (case bCm => first | k_is | rfl | decide +kernel)
      (case bK => first | k_is | rfl | decide +kernel)
      (case bR => first | k_is | rfl | decide +kernel)
      (case bRg => first | k_is | rfl | decide +kernel)
      (case bV => first | k_is | rfl | decide +kernel)
      (case bM => first | k_is | rfl | decide +kernel)
      (case bP => first | k_is | rfl | decide +kernel)
      (case mA___init__ => first | k_is | rfl | decide +kernel)
      (case mJ___init__ => first | k_is | rfl | decide +kernel)
      (case mL___init__ => first | k_is | rfl | decide +kernel)
      (case mC___init__ => first | k_is | rfl | decide +kernel)
      (case mK___init__ => first | k_is | rfl | decide +kernel)
      (case mA_is_like => first | k_is | rfl | decide +kernel)
      (case mJ_is_like => first | k_is | rfl | decide +kernel)
      (case mL_is_like => first | k_is | rfl | decide +kernel)
      (case mC_is_like => first | k_is | rfl | decide +kernel)
      (case mK_is_like => first | k_is | rfl | decide +kernel)
      (case mA_amounts_of => first | k_is | rfl | decide +kernel)
      (case mJ_amounts_of => first | k_is | rfl | decide +kernel)
      (case mL_amounts_of => first | k_is | rfl | decide +kernel)
      (case mC_amounts_of => first | k_is | rfl | decide +kernel)
      (case mK_amounts_of => first | k_is | rfl | decide +kernel)
      (case mA___len__ => first | k_is | rfl | decide +kernel)
      (case mJ___len__ => first | k_is | rfl | decide +kernel)
      (case mL___len__ => first | k_is | rfl | decide +kernel)
      (case mC___len__ => first | k_is | rfl | decide +kernel)
      (case mK___len__ => first | k_is | rfl | decide +kernel)
      (case mA___add__ => first | k_is | rfl | decide +kernel)
      (case mJ___add__ => first | k_is | rfl | decide +kernel)
      (case mL___add__ => first | k_is | rfl | decide +kernel)
      (case mC___add__ => first | k_is | rfl | decide +kernel)
      (case mK___add__ => first | k_is | rfl | decide +kernel)
      (case mA___sub__ => first | k_is | rfl | decide +kernel)
      (case mJ___sub__ => first | k_is | rfl | decide +kernel)
      (case mL___sub__ => first | k_is | rfl | decide +kernel)
      (case mC___sub__ => first | k_is | rfl | decide +kernel)
      (case mK___sub__ => first | k_is | rfl | decide +kernel)
      (case mA___or__ => first | k_is | rfl | decide +kernel)
      (case mJ___or__ => first | k_is | rfl | decide +kernel)
      (case mL___or__ => first | k_is | rfl | decide +kernel)
      (case mC___or__ => first | k_is | rfl | decide +kernel)
      (case mK___or__ => first | k_is | rfl | decide +kernel)
      (case mA___eq__ => first | k_is | rfl | decide +kernel)
      (case mJ___eq__ => first | k_is | rfl | decide +kernel)
      (case mL___eq__ => first | k_is | rfl | decide +kernel)
      (case mC___eq__ => first | k_is | rfl | decide +kernel)
      (case mK___eq__ => first | k_is | rfl | decide +kernel)
      (case pA_amounts => first | k_is | rfl | decide +kernel)
      (case pG_amounts => first | k_is | rfl | decide +kernel)
      (case pT_amounts => first | k_is | rfl | decide +kernel)
      (case pR_amounts => first | k_is | rfl | decide +kernel)
      (case mL_amounts => first | k_is | rfl | decide +kernel)
      (case mC_amounts => first | k_is | rfl | decide +kernel)
      (case mK_amounts => first | k_is | rfl | decide +kernel)
      (case dA_Desk => first | k_is | rfl | decide +kernel)
      (case dG_Desk => first | k_is | rfl | decide +kernel)
      (case dH_Desk => first | k_is | rfl | decide +kernel)
      (case dO_Desk => first | k_is | rfl | decide +kernel)
      (case dS_Desk => first | k_is | rfl | decide +kernel)
      (case d1_Desk => first | k_is | rfl | decide +kernel)
      (case d2_Desk => first | k_is | rfl | decide +kernel)
      (case d3_Desk => first | k_is | rfl | decide +kernel)
      (case d4_Desk => first | k_is | rfl | decide +kernel)
      (case dCa_Desk => first | k_is | rfl | decide +kernel)
      (case dCm_Desk => first | k_is | rfl | decide +kernel)
      (case dK_Desk => first | k_is | rfl | decide +kernel)
      (case dM_Desk => first | k_is | rfl | decide +kernel)
      (case dP_Desk => first | k_is | rfl | decide +kernel)
      (case mA_Desk___init__ => first | k_is | rfl | decide +kernel)
      (case mJ_Desk___init__ => first | k_is | rfl | decide +kernel)
      (case mL_Desk___init__ => first | k_is | rfl | decide +kernel)
      (case mC_Desk___init__ => first | k_is | rfl | decide +kernel)
      (case mK_Desk___init__ => first | k_is | rfl | decide +kernel)
      (case mA_Desk_borrow => first | k_is | rfl | decide +kernel)
      (case mJ_Desk_borrow => first | k_is | rfl | decide +kernel)
      (case mL_Desk_borrow => first | k_is | rfl | decide +kernel)
      (case mC_Desk_borrow => first | k_is | rfl | decide +kernel)
      (case mK_Desk_borrow => first | k_is | rfl | decide +kernel)
      (case mA_Desk___len__ => first | k_is | rfl | decide +kernel)
      (case mJ_Desk___len__ => first | k_is | rfl | decide +kernel)
      (case mL_Desk___len__ => first | k_is | rfl | decide +kernel)
      (case mC_Desk___len__ => first | k_is | rfl | decide +kernel)
      (case mK_Desk___len__ => first | k_is | rfl | decide +kernel)
      (case mA_Desk_record => first | k_is | rfl | decide +kernel)
      (case mJ_Desk_record => first | k_is | rfl | decide +kernel)
      (case mL_Desk_record => first | k_is | rfl | decide +kernel)
      (case mC_Desk_record => first | k_is | rfl | decide +kernel)
      (case mK_Desk_record => first | k_is | rfl | decide +kernel)
      (case mA_Desk_trade => first | k_is | rfl | decide +kernel)
      (case mJ_Desk_trade => first | k_is | rfl | decide +kernel)
      (case mL_Desk_trade => first | k_is | rfl | decide +kernel)
      (case mC_Desk_trade => first | k_is | rfl | decide +kernel)
      (case mK_Desk_trade => first | k_is | rfl | decide +kernel)
      (case mA_Desk_pay => first | k_is | rfl | decide +kernel)
      (case mJ_Desk_pay => first | k_is | rfl | decide +kernel)
      (case mL_Desk_pay => first | k_is | rfl | decide +kernel)
      (case mC_Desk_pay => first | k_is | rfl | decide +kernel)
      (case mK_Desk_pay => first | k_is | rfl | decide +kernel)
      (case mA_Desk_undo => first | k_is | rfl | decide +kernel)
      (case mJ_Desk_undo => first | k_is | rfl | decide +kernel)
      (case mL_Desk_undo => first | k_is | rfl | decide +kernel)
      (case mC_Desk_undo => first | k_is | rfl | decide +kernel)
      (case mK_Desk_undo => first | k_is | rfl | decide +kernel)
      (case mA_Desk___iadd__ => first | k_is | rfl | decide +kernel)
      (case mJ_Desk___iadd__ => first | k_is | rfl | decide +kernel)
      (case mL_Desk___iadd__ => first | k_is | rfl | decide +kernel)
      (case mC_Desk___iadd__ => first | k_is | rfl | decide +kernel)
      (case mK_Desk___iadd__ => first | k_is | rfl | decide +kernel)
      (case mA_Desk___isub__ => first | k_is | rfl | decide +kernel)
      (case mJ_Desk___isub__ => first | k_is | rfl | decide +kernel)
      (case mL_Desk___isub__ => first | k_is | rfl | decide +kernel)
      (case mC_Desk___isub__ => first | k_is | rfl | decide +kernel)
      (case mK_Desk___isub__ => first | k_is | rfl | decide +kernel)
      (case mA_Desk___eq__ => first | k_is | rfl | decide +kernel)
      (case mJ_Desk___eq__ => first | k_is | rfl | decide +kernel)
      (case mL_Desk___eq__ => first | k_is | rfl | decide +kernel)
      (case mC_Desk___eq__ => first | k_is | rfl | decide +kernel)
      (case mK_Desk___eq__ => first | k_is | rfl | decide +kernel)
      (case mA_Desk_loans => first | k_is | rfl | decide +kernel)
      (case mJ_Desk_loans => first | k_is | rfl | decide +kernel)
      (case mL_Desk_loans => first | k_is | rfl | decide +kernel)
      (case mC_Desk_loans => first | k_is | rfl | decide +kernel)
      (case mK_Desk_loans => first | k_is | rfl | decide +kernel)
      (case pA_Desk_market => first | k_is | rfl | decide +kernel)
      (case pG_Desk_market => first | k_is | rfl | decide +kernel)
      (case pT_Desk_market => first | k_is | rfl | decide +kernel)
      (case pR_Desk_market => first | k_is | rfl | decide +kernel)
      (case mL_Desk_market => first | k_is | rfl | decide +kernel)
      (case mC_Desk_market => first | k_is | rfl | decide +kernel)
      (case mK_Desk_market => first | k_is | rfl | decide +kernel)
      (case pA_Desk_stock => first | k_is | rfl | decide +kernel)
      (case pG_Desk_stock => first | k_is | rfl | decide +kernel)
      (case pT_Desk_stock => first | k_is | rfl | decide +kernel)
      (case pR_Desk_stock => first | k_is | rfl | decide +kernel)
      (case mL_Desk_stock => first | k_is | rfl | decide +kernel)
      (case mC_Desk_stock => first | k_is | rfl | decide +kernel)
      (case mK_Desk_stock => first | k_is | rfl | decide +kernel)
      (case pA_Desk_debt => first | k_is | rfl | decide +kernel)
      (case pG_Desk_debt => first | k_is | rfl | decide +kernel)
      (case pT_Desk_debt => first | k_is | rfl | decide +kernel)
      (case pR_Desk_debt => first | k_is | rfl | decide +kernel)
      (case mL_Desk_debt => first | k_is | rfl | decide +kernel)
      (case mC_Desk_debt => first | k_is | rfl | decide +kernel)
      (case mK_Desk_debt => first | k_is | rfl | decide +kernel)
      (case pA_Desk_version => first | k_is | rfl | decide +kernel)
      (case pG_Desk_version => first | k_is | rfl | decide +kernel)
      (case pT_Desk_version => first | k_is | rfl | decide +kernel)
      (case pR_Desk_version => first | k_is | rfl | decide +kernel)
      (case mL_Desk_version => first | k_is | rfl | decide +kernel)
      (case mC_Desk_version => first | k_is | rfl | decide +kernel)
      (case mK_Desk_version => first | k_is | rfl | decide +kernel)
      (case pA_Desk_settled => first | k_is | rfl | decide +kernel)
      (case pG_Desk_settled => first | k_is | rfl | decide +kernel)
      (case pT_Desk_settled => first | k_is | rfl | decide +kernel)
      (case pR_Desk_settled => first | k_is | rfl | decide +kernel)
      (case mL_Desk_settled => first | k_is | rfl | decide +kernel)
      (case mC_Desk_settled => first | k_is | rfl | decide +kernel)
      (case mK_Desk_settled => first | k_is | rfl | decide +kernel)
      (case dA_CappedDesk => first | k_is | rfl | decide +kernel)
      (case dG_CappedDesk => first | k_is | rfl | decide +kernel)
      (case dH_CappedDesk => first | k_is | rfl | decide +kernel)
      (case dO_CappedDesk => first | k_is | rfl | decide +kernel)
      (case dS_CappedDesk => first | k_is | rfl | decide +kernel)
      (case d1_CappedDesk => first | k_is | rfl | decide +kernel)
      (case d2_CappedDesk => first | k_is | rfl | decide +kernel)
      (case d3_CappedDesk => first | k_is | rfl | decide +kernel)
      (case d4_CappedDesk => first | k_is | rfl | decide +kernel)
      (case dCa_CappedDesk => first | k_is | rfl | decide +kernel)
      (case dCm_CappedDesk => first | k_is | rfl | decide +kernel)
      (case dK_CappedDesk => first | k_is | rfl | decide +kernel)
      (case dM_CappedDesk => first | k_is | rfl | decide +kernel)
      (case dP_CappedDesk => first | k_is | rfl | decide +kernel)
      (case mA_CappedDesk___init__ => first | k_is | rfl | decide +kernel)
      (case mJ_CappedDesk___init__ => first | k_is | rfl | decide +kernel)
      (case mL_CappedDesk___init__ => first | k_is | rfl | decide +kernel)
      (case mC_CappedDesk___init__ => first | k_is | rfl | decide +kernel)
      (case mK_CappedDesk___init__ => first | k_is | rfl | decide +kernel)
      (case mA_CappedDesk___len__ => first | k_is | rfl | decide +kernel)
      (case mJ_CappedDesk___len__ => first | k_is | rfl | decide +kernel)
      (case mL_CappedDesk___len__ => first | k_is | rfl | decide +kernel)
      (case mC_CappedDesk___len__ => first | k_is | rfl | decide +kernel)
      (case mK_CappedDesk___len__ => first | k_is | rfl | decide +kernel)
      (case mA_CappedDesk_record => first | k_is | rfl | decide +kernel)
      (case mJ_CappedDesk_record => first | k_is | rfl | decide +kernel)
      (case mL_CappedDesk_record => first | k_is | rfl | decide +kernel)
      (case mC_CappedDesk_record => first | k_is | rfl | decide +kernel)
      (case mK_CappedDesk_record => first | k_is | rfl | decide +kernel)
      (case mA_CappedDesk_trade => first | k_is | rfl | decide +kernel)
      (case mJ_CappedDesk_trade => first | k_is | rfl | decide +kernel)
      (case mL_CappedDesk_trade => first | k_is | rfl | decide +kernel)
      (case mC_CappedDesk_trade => first | k_is | rfl | decide +kernel)
      (case mK_CappedDesk_trade => first | k_is | rfl | decide +kernel)
      (case mA_CappedDesk_pay => first | k_is | rfl | decide +kernel)
      (case mJ_CappedDesk_pay => first | k_is | rfl | decide +kernel)
      (case mL_CappedDesk_pay => first | k_is | rfl | decide +kernel)
      (case mC_CappedDesk_pay => first | k_is | rfl | decide +kernel)
      (case mK_CappedDesk_pay => first | k_is | rfl | decide +kernel)
      (case mA_CappedDesk_undo => first | k_is | rfl | decide +kernel)
      (case mJ_CappedDesk_undo => first | k_is | rfl | decide +kernel)
      (case mL_CappedDesk_undo => first | k_is | rfl | decide +kernel)
      (case mC_CappedDesk_undo => first | k_is | rfl | decide +kernel)
      (case mK_CappedDesk_undo => first | k_is | rfl | decide +kernel)
      (case mA_CappedDesk___iadd__ => first | k_is | rfl | decide +kernel)
      (case mJ_CappedDesk___iadd__ => first | k_is | rfl | decide +kernel)
      (case mL_CappedDesk___iadd__ => first | k_is | rfl | decide +kernel)
      (case mC_CappedDesk___iadd__ => first | k_is | rfl | decide +kernel)
      (case mK_CappedDesk___iadd__ => first | k_is | rfl | decide +kernel)
      (case mA_CappedDesk___isub__ => first | k_is | rfl | decide +kernel)
      (case mJ_CappedDesk___isub__ => first | k_is | rfl | decide +kernel)
      (case mL_CappedDesk___isub__ => first | k_is | rfl | decide +kernel)
      (case mC_CappedDesk___isub__ => first | k_is | rfl | decide +kernel)
      (case mK_CappedDesk___isub__ => first | k_is | rfl | decide +kernel)
      (case mA_CappedDesk___eq__ => first | k_is | rfl | decide +kernel)
      (case mJ_CappedDesk___eq__ => first | k_is | rfl | decide +kernel)
      (case mL_CappedDesk___eq__ => first | k_is | rfl | decide +kernel)
      (case mC_CappedDesk___eq__ => first | k_is | rfl | decide +kernel)
      (case mK_CappedDesk___eq__ => first | k_is | rfl | decide +kernel)
      (case mA_CappedDesk_loans => first | k_is | rfl | decide +kernel)
      (case mJ_CappedDesk_loans => first | k_is | rfl | decide +kernel)
      (case mL_CappedDesk_loans => first | k_is | rfl | decide +kernel)
      (case mC_CappedDesk_loans => first | k_is | rfl | decide +kernel)
      (case mK_CappedDesk_loans => first | k_is | rfl | decide +kernel)
      (case pA_CappedDesk_market => first | k_is | rfl | decide +kernel)
      (case pG_CappedDesk_market => first | k_is | rfl | decide +kernel)
      (case pT_CappedDesk_market => first | k_is | rfl | decide +kernel)
      (case pR_CappedDesk_market => first | k_is | rfl | decide +kernel)
      (case mL_CappedDesk_market => first | k_is | rfl | decide +kernel)
      (case mC_CappedDesk_market => first | k_is | rfl | decide +kernel)
      (case mK_CappedDesk_market => first | k_is | rfl | decide +kernel)
      (case pA_CappedDesk_stock => first | k_is | rfl | decide +kernel)
      (case pG_CappedDesk_stock => first | k_is | rfl | decide +kernel)
      (case pT_CappedDesk_stock => first | k_is | rfl | decide +kernel)
      (case pR_CappedDesk_stock => first | k_is | rfl | decide +kernel)
      (case mL_CappedDesk_stock => first | k_is | rfl | decide +kernel)
      (case mC_CappedDesk_stock => first | k_is | rfl | decide +kernel)
      (case mK_CappedDesk_stock => first | k_is | rfl | decide +kernel)
      (case pA_CappedDesk_debt => first | k_is | rfl | decide +kernel)
      (case pG_CappedDesk_debt => first | k_is | rfl | decide +kernel)
      (case pT_CappedDesk_debt => first | k_is | rfl | decide +kernel)
      (case pR_CappedDesk_debt => first | k_is | rfl | decide +kernel)
      (case mL_CappedDesk_debt => first | k_is | rfl | decide +kernel)
      (case mC_CappedDesk_debt => first | k_is | rfl | decide +kernel)
      (case mK_CappedDesk_debt => first | k_is | rfl | decide +kernel)
      (case pA_CappedDesk_version => first | k_is | rfl | decide +kernel)
      (case pG_CappedDesk_version => first | k_is | rfl | decide +kernel)
      (case pT_CappedDesk_version => first | k_is | rfl | decide +kernel)
      (case pR_CappedDesk_version => first | k_is | rfl | decide +kernel)
      (case mL_CappedDesk_version => first | k_is | rfl | decide +kernel)
      (case mC_CappedDesk_version => first | k_is | rfl | decide +kernel)
      (case mK_CappedDesk_version => first | k_is | rfl | decide +kernel)
      (case pA_CappedDesk_settled => first | k_is | rfl | decide +kernel)
      (case pG_CappedDesk_settled => first | k_is | rfl | decide +kernel)
      (case pT_CappedDesk_settled => first | k_is | rfl | decide +kernel)
      (case pR_CappedDesk_settled => first | k_is | rfl | decide +kernel)
      (case mL_CappedDesk_settled => first | k_is | rfl | decide +kernel)
      (case mC_CappedDesk_settled => first | k_is | rfl | decide +kernel)
      (case mK_CappedDesk_settled => first | k_is | rfl | decide +kernel)
      (case fB => first | k_is | rfl | decide +kernel)
      (case kS_tuple => first | k_is | rfl | decide +kernel)
      (case kS_NoneType => first | k_is | rfl | decide +kernel)
      (case kS_int => first | k_is | rfl | decide +kernel)
      (case kS_bool => first | k_is | rfl | decide +kernel)
      (case kS_str => first | k_is | rfl | decide +kernel)
      (case kS_list => first | k_is | rfl | decide +kernel)
      (case kS_dict => first | k_is | rfl | decide +kernel)
      (case cbA => first | k_is | rfl | decide +kernel | kernel_rfl)
      (case cbJ => first | k_is | rfl | decide +kernel | kernel_rfl)
      (case cbL => first | k_is | rfl | decide +kernel | kernel_rfl)
      (case cbC => first | k_is | rfl | decide +kernel | kernel_rfl)
      (case cbK => first | k_is | rfl | decide +kernel | kernel_rfl)
      (case cbX => first | k_is | rfl | decide +kernel | kernel_rfl)
      (case cbV => first | k_is | rfl | decide +kernel | kernel_rfl)
      (case cbF => first | k_is | rfl | decide +kernel | kernel_rfl)
      (case cbFile => first | k_is | rfl | decide +kernel | kernel_rfl)
      (case cbTop => first | k_is | rfl | decide +kernel | kernel_rfl)
      (case cbS => first | k_is | rfl | decide +kernel | kernel_rfl)
      (case cbCl => first | k_is | rfl | decide +kernel | kernel_rfl)
      (case cbSub => first | k_is | rfl | decide +kernel | kernel_rfl)
      (case cbTh => first | k_is | rfl | decide +kernel | kernel_rfl)
      (case cbAt => first | k_is | rfl | decide +kernel | kernel_rfl)
      (case cbFn => first | k_is | rfl | decide +kernel | kernel_rfl)
      (case nmC => first | k_is | rfl | decide +kernel)
      (case neDC => first | k_is | rfl | decide +kernel)
      (case sCD => first | k_is | rfl | decide +kernel)
      (case sDC => first | k_is | rfl | decide +kernel)
      (case n1C => first | k_is | rfl | decide +kernel)
      (case rD => first | k_is | rfl | decide +kernel)
      (case rDg => first | k_is | rfl | decide +kernel)
      (case vD => first | k_is | rfl | decide +kernel)
      (case x10 => first | k_is | rfl | decide +kernel)
      (case x20 => first | k_is | rfl | decide +kernel)
      (case x30 => first | k_is | rfl | decide +kernel)
      (case x40 => first | k_is | rfl | decide +kernel)
      (case x50 => first | k_is | rfl | decide +kernel)
      (case x60 => first | k_is | rfl | decide +kernel)
      (case x70 => first | k_is | rfl | decide +kernel)
      (case x21 => first | k_is | rfl | decide +kernel)
      (case x31 => first | k_is | rfl | decide +kernel)
      (case x41 => first | k_is | rfl | decide +kernel)
      (case x51 => first | k_is | rfl | decide +kernel)
      (case x61 => first | k_is | rfl | decide +kernel)
      (case x71 => first | k_is | rfl | decide +kernel)
      (case x32 => first | k_is | rfl | decide +kernel)
      (case x42 => first | k_is | rfl | decide +kernel)
      (case x52 => first | k_is | rfl | decide +kernel)
      (case x62 => first | k_is | rfl | decide +kernel)
      (case x72 => first | k_is | rfl | decide +kernel)
      (case x43 => first | k_is | rfl | decide +kernel)
      (case x53 => first | k_is | rfl | decide +kernel)
      (case x63 => first | k_is | rfl | decide +kernel)
      (case x73 => first | k_is | rfl | decide +kernel)
      (case x54 => first | k_is | rfl | decide +kernel)
      (case x64 => first | k_is | rfl | decide +kernel)
      (case x74 => first | k_is | rfl | decide +kernel)
      (case x65 => first | k_is | rfl | decide +kernel)
      (case x75 => first | k_is | rfl | decide +kernel)
      (case x76 => first | k_is | rfl | decide +kernel)
      (case neB => first | k_is | rfl | decide +kernel)
      (case neBC => first | k_is | rfl | decide +kernel)
      (case neT => first | k_is | rfl | decide +kernel)
      (case sfD => first | k_is | rfl | decide +kernel)
      (case sfC => first | k_is | rfl | decide +kernel)
      (case rS_tuple => first | k_is | rfl | decide +kernel)
      (case rS_NoneType => first | k_is | rfl | decide +kernel)
      (case rS_int => first | k_is | rfl | decide +kernel)
      (case rS_bool => first | k_is | rfl | decide +kernel)
      (case rS_str => first | k_is | rfl | decide +kernel)
      (case rS_list => first | k_is | rfl | decide +kernel)
      (case rS_dict => first | k_is | rfl | decide +kernel)
      (case z_len => k_is)
      (case z_range => k_is)
      (case z_int => k_is)
      (case z_bool => k_is)
      (case z_tuple => k_is)
      (case z_list => k_is)
      (case z_str => k_is)
      (case z_dict => k_is)
      (case z_all => k_is)
      (case z_any => k_is)
      (case z_max => k_is)
      (case z_min => k_is)
      (case z_sum => k_is)
      (case z_zip => k_is)
      (case z_enumerate => k_is)
      (case z_isinstance => k_is)
      (case z_repr => k_is)
      (case z_sorted => k_is)
      (case v_MAX_GOODS => k_is)
      (case v_MAX_TRADES => k_is)
      (case v_MAX_AMOUNT => k_is)
      (case v_MAX_TOTAL => k_is)
      (case v_MAX_LENT => k_is)
      (case v_MAX_DESK => k_is)
      (case v_MAX_TIMES => k_is)
end
