import PyProof.Rows.All
import Wide.All
import OpenK.AllK
import Wide.FinOn
import HandS.Base
import HandS.Call
import HandS.List
import HandS.Comp
import HandS.Ends
import HandS.Dict
import HandS.Iter
import HandS.Text
import HandS.Words
import HandS.WordsList
import KE.GoesEnum
import KE.KTupSum
import KE.DataMinMax
import HandS.TupMul
import HandS.TupAny
import HandS.IsInst
import HandS.Zip
import HandS.Style
import PyProof.ReprRoads
import PyProof.CallFns
import HandS.TryOnly
import KE.GoesMore
import HandS.ExcInit
import HandS.ExcField
import HandS.ExcOwn
import HandS.Lambda
import HandS.WordsExc
import HandS.EndOwn
import KE.LtData
import PyProof.SumAnyB
import KE.LcSums
import KE.GoesEnumKw
import KE.KUnpackStar
import HandS.FStr
import HandS.SortKw
import KE.SortCalls
import HandS.Sort
import KE.GoesZip
import HandS.Star
import HandS.Property
import HandS.ClsMeth
import HandS.SlotsOwn
import HandS.Small
import OpenK.KMeth
import OpenK.KOps
import KE.KOpsOwn
import KE.KCallOwn
import KE.KDictZip
import HandS.Wide
import PyProof.CallStr
import HandS.OwnIter
import HandS.IterVal
import PyProof.InstNe
import HandS.Defaults
import KE.KFmtOwn
import PySem.Challenge.RW_lentbeside_k35_desks_made
set_option Elab.async false
set_option linter.all false
set_option maxRecDepth 100000
set_option maxHeartbeats 2000000
/-! Rules that the hand layer lacks: sums and greatest items of tuples, enumerate of a tuple, zip of three, t[::-1], t * 0, t * 1. -/
namespace Lb
open PySem PySem.Spec PyProof.Rows L2
section
variable {X : Cx}
/-! ### sum(t), max(t) -/
def rSumT (K : PySem.W.Frag) : List V → Hp → VK → Prop := fun vs H Q => ∃ (a : Addr) (ns : List Int), vs = [V.ref a] ∧ SqT K H a (ns.map V.int) ∧ Q (.int ns.sum) H
theorem cr_sumT (hc : X.calm = true) : CallR X (.builtin "sum") (rSumT X.K) := by
  intro pins s σ H vs us Q I r h
  obtain ⟨a, ns, rfl, hs, q⟩ := h
  obtain ⟨its, rv, ht, _⟩ := I.tuple hs
  rw [Vals.ref1 r]
  obtain ⟨xs, e⟩ := rv.ints.allInts.items
  have hn : numsOf (intItems xs).toList = ns := by
    rw [← e]
    exact rv.ints.numsOf
  rw [nums_intItems] at hn
  have ht' : s.heap.IsTuple a (intItems xs) := by
    rw [← e]
    exact ht
  refine PySem.W.ktm_sumG (I.ok.hd hc) ht' fun h' tk t' hk => ?_
  have et : preSum (numAt xs) xs.size = ns.sum := by
    rw [preSum_eq, List.take_of_length_le (by simp), hn]
  rw [et]
  exact ⟨.int _, H, I.kept hk, ⟨_, rfl⟩, q⟩
theorem reads_ints {h : Heap} : ∀ {its : List Value} {ns : List Int}, Vals (ns.map V.int) its → ReadsAll h its (ns.map PyData.int) []
  | [], [], _ => .nil
  | u :: us, n :: ns, r => by
    cases r with
    | cons r1 r2 =>
      obtain ⟨t, rfl⟩ := r1
      exact .cons (as := []) (.int n t) (reads_ints r2)
  | [], _ :: _, r => nomatch r
  | _ :: _, [], r => nomatch r
theorem maxD_ints : ∀ (ns : List Int) (n : Int), ∃ m, PySem.W.maxD (.int n) (ns.map PyData.int) = .int m ∧ m ∈ n :: ns ∧ ∀ y ∈ n :: ns, y ≤ m
  | [], n => ⟨n, rfl, List.mem_cons_self, fun y hy => by
      rw [List.mem_singleton.mp hy]
      exact Int.le_refl _⟩
  | k :: ns, n => by
    unfold PySem.W.maxD
    rw [List.map_cons, List.foldl_cons]
    by_cases h : n < k
    · have e : (if PySem.W.dataLt (.int n) (.int k) = true then PyData.int k else .int n) = .int k := by
        rw [if_pos]
        rw [PySem.W.dataLt_int]
        exact decide_eq_true h
      rw [e]
      obtain ⟨m, e2, h1, h2⟩ := maxD_ints ns k
      refine ⟨m, e2, List.mem_cons_of_mem _ h1, fun y hy => ?_⟩
      rcases List.mem_cons.mp hy with rfl | hy
      · have := h2 k List.mem_cons_self
        omega
      · exact h2 y hy
    · have e : (if PySem.W.dataLt (.int n) (.int k) = true then PyData.int k else .int n) = .int n := by
        rw [if_neg]
        intro z
        rw [PySem.W.dataLt_int] at z
        exact h (of_decide_eq_true z)
      rw [e]
      obtain ⟨m, e2, h1, h2⟩ := maxD_ints ns n
      refine ⟨m, e2, ?_, fun y hy => ?_⟩
      · rcases List.mem_cons.mp h1 with rfl | h1
        · exact List.mem_cons_self
        · exact List.mem_cons_of_mem _ (List.mem_cons_of_mem _ h1)
      · rcases List.mem_cons.mp hy with rfl | hy
        · exact h2 y List.mem_cons_self
        · rcases List.mem_cons.mp hy with rfl | hy
          · have := h2 n List.mem_cons_self
            omega
          · exact h2 y (List.mem_cons_of_mem _ hy)
def rMaxT (K : PySem.W.Frag) : List V → Hp → VK → Prop := fun vs H Q => ∃ (a : Addr) (ns : List Int), vs = [V.ref a] ∧ SqT K H a (ns.map V.int) ∧ 0 < ns.length ∧ ∀ m, m ∈ ns → (∀ y, y ∈ ns → y ≤ m) → Q (.int m) H
theorem depth_ints : ∀ ns : List Int, PyData.depthAll (ns.map PyData.int) = 0
  | [] => rfl
  | n :: ns => by
    rw [List.map_cons]
    simp [PyData.depthAll, PyData.depth, depth_ints ns]
theorem cr_maxT (hc : X.calm = true) (hu : X.A.units + 1 < cLine) : CallR X (.builtin "max") (rMaxT X.K) := by
  intro pins s σ H vs us Q I r h
  obtain ⟨a, ns, rfl, hs, hne, q⟩ := h
  obtain ⟨its, rv, ht, _⟩ := I.tuple hs
  rw [Vals.ref1 r]
  cases ns with
  | nil => exact absurd hne (Nat.lt_irrefl 0)
  | cons n ns =>
    have hr : ReadsAll s.heap its.toArray.toList (.int n :: ns.map PyData.int) [] := reads_ints (ns := n :: ns) rv
    refine PySem.W.max_tuple_data (I.ok.hd hc) ht hr ⟨fun x hx y hy => ?_, fun x hx => ?_⟩ ?_ fun i v h' tk bs hi rd hk => ?_
    · have e : ∀ z ∈ (PyData.int n :: ns.map PyData.int), ∃ k, z = PyData.int k := fun z hz => by
        rcases List.mem_cons.mp hz with rfl | hz
        · exact ⟨n, rfl⟩
        · obtain ⟨k, _, rfl⟩ := List.mem_map.mp hz
          exact ⟨k, rfl⟩
      obtain ⟨k1, rfl⟩ := e x hx
      obtain ⟨k2, rfl⟩ := e y hy
      rfl
    · rcases List.mem_cons.mp hx with rfl | hx
      · exact fun z => nomatch z
      · obtain ⟨k, _, rfl⟩ := List.mem_map.mp hx
        exact fun z => nomatch z
    · have := depth_ints (n :: ns)
      rw [List.map_cons] at this
      rw [this]
      exact hu
    · obtain ⟨m, e, h1, h2⟩ := maxD_ints ns n
      rw [e] at rd
      cases rd with
      | int _ t => exact ⟨.int m, H, I.kept hk, ⟨_, rfl⟩, q m h1 h2⟩
end
end Lb
set_option Elab.async false
set_option linter.all false
set_option maxRecDepth 100000
set_option maxHeartbeats 2000000
namespace Lb
open PySem PySem.Spec PyProof.Rows L2
/-! ### enumerate(t), t a tuple -/
set_option maxHeartbeats 4000000 in
theorem meets_enum1 {v : Value} {o : Obj} {G : Heap → Prop} (B : Begins v o G) :
    Meets (Builtin.«enumerate.__new__» ⟨[.type "enumerate", v], []⟩) (fun _ R s => G s.heap ∧
      R (.ok (.ret (.ref (s.heap.push o).objs.size))) { s with heap := (s.heap.push o).push { cls := .type "enumerate", data := .fields #[.none, .bool false, .ref s.heap.objs.size, rawInt 0, .none, .none] } }) :=
  .of_wp fun prog w A R s h => by
    obtain ⟨hp, g, d, tk, os⟩ := s
    obtain ⟨g1, h⟩ := h
    have hsub := sub_enumerate
    have qi : ∀ {A' : Around} {E : Value → Shared → Prop} {Q : Value → Shared → Prop}, Q (.ref hp.objs.size) ⟨hp.push o, g, d, tk, os⟩ → wpAny (model prog w) A' (pyIter v) Q E ⟨hp, g, d, tk, os⟩ :=
      fun q => B.iter prog w _ _ ⟨hp, g, d, tk, os⟩ _ g1 q
    wp_walk using qi
    refine wpAny_stack_any fun st => wpAny_pure ?_
    split
    · rename_i c _ _ _ _ _
      cases (c == Value.type "enumerate")
      · wp_walk using qi
        exact ⟨_, rfl, h⟩
      · wp_walk using qi
        exact ⟨_, rfl, h⟩
    · wp_walk using qi
      exact ⟨_, rfl, h⟩
theorem enum1 {prog : Program} {w : World} {A : Around} {E : Value → Shared → Prop} {s : Shared} {v : Value} {o : Obj} {G : Heap → Prop} {Q : Value → Shared → Prop} (B : Begins v o G) (g : G s.heap)
    (h : ∀ h', IsEnum h' (s.heap.objs.size + 1) s.heap.objs.size 0 .none → h'.get? s.heap.objs.size = some o → (∀ b o, s.heap.get? b = some o → h'.get? b = some o) → Q (.ref (s.heap.objs.size + 1)) { s with heap := h' }) :
    wpAny (model prog w) A (call (.type "enumerate") [v]) Q E s := by
  refine callType_new F.called_enumerate (by decide) (F.typeCall_enumerate_1 _) (F.newCall_enumerate_1 _) (fun obj => F.args_object_init_2 obj _) F.entry_enumerate_new (meets_enum1 B) ⟨g, ?_⟩
  have z1 : (s.heap.push o).objs.size = s.heap.objs.size + 1 := Heap.size_push ..
  show _ ∧ _
  rw [z1]
  have he : IsEnum ((s.heap.push o).push { cls := .type "enumerate", data := .fields #[.none, .bool false, .ref s.heap.objs.size, rawInt 0, .none, .none] }) (s.heap.objs.size + 1) s.heap.objs.size 0 .none := by
    have := Heap.get?_push_size (s.heap.push o) (o := { cls := .type "enumerate", data := .fields #[.none, .bool false, .ref s.heap.objs.size, rawInt 0, .none, .none] }) rfl
    rw [z1] at this
    exact this
  exact ⟨⟨_, he, rfl⟩, h _ he (Heap.get?_push_of_some _ (Heap.get?_push_size _ B.free)) fun b ob q => Heap.get?_push_of_some _ (Heap.get?_push_of_some _ q)⟩
/-- the tuple at a, each item in a new pair with its index -/
def IteT (K : PySem.W.Frag) (a : Addr) : It :=
  ⟨fun i H => ∃ (xs : List V) (x : V), SqT K H a xs ∧ xs[i]? = some x, fun i H v H' => ∃ T x, v = .ref T ∧ H T = none ∧ H' = upd H T (.tup [.int (i : Nat), x]) ∧ ∀ xs, SqT K H a xs → xs[i]? = some x,
    fun i H => ∃ xs : List V, SqT K H a xs ∧ xs.length ≤ i⟩
theorem tupIter_at {h h' : Heap} {it a : Addr} {i : Nat} (t : h.IsTupleIter it a i) (k : ∀ o, h.get? it = some o → h'.get? it = some o) : h'.IsTupleIter it a i :=
  let ⟨o, e, r⟩ := t
  ⟨o, k o e, r⟩
theorem turn_enumT {P : Program} {w : World} {K : PySem.W.Frag} {elts : List Expr} {kk : Nat} {tpos : Pos} (a e it : Addr) :
    Turn P w K (.Tuple elts kk tpos) (IteT K a) [e, it] e (fun i h => (∃ old, IsEnum h e it ((i : Nat) : Int) old) ∧ h.IsTupleIter it a i ∧ e ≠ it) where
  mem := by simp
  obj := fun i h st b hb => by
    obtain ⟨⟨old, he⟩, ⟨o, ho, hc, hd⟩, _⟩ := st
    have e' : b = e ∨ b = it := by simpa using hb
    rcases e' with z | z
    · rw [z]
      exact ⟨_, he, fun v q => nomatch q⟩
    · rw [z]
      exact ⟨o, ho, fun v q => by rw [hd] at q; cases q⟩
  keep := fun i h h' st k => let ⟨⟨old, he⟩, hi, hne⟩ := st; ⟨⟨old, k e (by simp) _ he⟩, tupIter_at hi fun o q => k it (by simp) o q, hne⟩
  item := by
    intro X hP hw hK hc i pins s σ H E I hf st hg
    subst hP hw hK
    obtain ⟨⟨old, he⟩, hit, hne⟩ := st
    obtain ⟨xs, x, hq, hx⟩ := hg
    obtain ⟨its, rv, p, hz⟩ := I.tuple hq
    obtain ⟨u, hu, ru⟩ := rv.get hx
    have hel : e < s.heap.objs.size := Heap.lt_size he
    have hil : it < s.heap.objs.size := by
      obtain ⟨_, q, _⟩ := hit
      exact Heap.lt_size q
    have hat : H a ≠ none ∨ ∃ o, X.K.lookup a = some o := by
      rcases hq with (q | ⟨_, q⟩) | ⟨o, _, _, q, _⟩
      · exact .inl (by rw [q]; exact fun z => nomatch z)
      · exact .inl (by rw [q]; exact fun z => nomatch z)
      · exact .inr ⟨o, q⟩
    have hai : ∀ c, c ∈ [e, it] → a ≠ c := fun c hc q => by
      obtain ⟨o, ho, ho2, n, ho3⟩ := p
      have f0 := (hf c hc).1
      have cls : ∀ o', s.heap.get? a = some o' → o' = o := fun o' q' => by rw [ho] at q'; exact (Option.some.inj q').symm
      have e' : c = e ∨ c = it := by simpa using hc
      rcases e' with z | z
      · rw [q, z] at cls
        have := cls _ he
        rw [← this] at ho2
        injection ho2 with z2
        exact absurd z2 (by decide)
      · obtain ⟨oi, hoi, hci, _⟩ := hit
        rw [q, z] at cls
        have := cls _ hoi
        rw [← this, hci] at ho2
        injection ho2 with z2
        exact absurd z2 (by decide)
    have D := Draws.tuple (prog := X.prog) (w := X.w) (A := X.A.in1) (I.ok.hd hc) it a (hai it (by simp)) its.toArray
    have hlt : i < its.toArray.size := by
      rw [List.size_toArray]
      exact (List.getElem?_eq_some_iff.mp hu).1
    refine wpAny_pyNext_enum_itemC (c := ((i : Nat) : Int)) D he ⟨hit, p⟩ hlt hne (fun z => ?_) fun y h' tk hy ho st' hT hsz hk => ?_
    · have z' : e = it ∨ e = a := by simpa using z
      rcases z' with z | z
      · exact hne z
      · exact hai e (by simp) z.symm
    have ey : y = u := by
      have : its.toArray[i]? = some u := by simpa using hu
      rw [this] at hy
      exact (Option.some.inj hy).symm
    subst ey
    refine ⟨_, rfl, wpAny_letOwnedTupleGo_enum (s := { s with heap := h', toks := tk + 1 }) ho fun h'' he' sb => ?_⟩
    have hT2 : h''.get? s.heap.objs.size = some { cls := .type "tuple", data := .seq #[.int i tk, y] } := (sb.2 _ (Nat.ne_of_gt hel)).trans hT
    have new : ObjOk X.prog X.w (upd H s.heap.objs.size (.tup [.int (i : Nat), x])) h'' s.heap.objs.size (.tup [.int (i : Nat), x]) :=
      ⟨by show 2 ≤ sizeLine; decide, [.int i tk, y], .cons ⟨_, rfl⟩ (.cons ru .nil), ⟨_, hT2, rfl, _, rfl⟩⟩
    have I1 : Inv X pins σ (upd H s.heap.objs.size (.tup [.int (i : Nat), x])) { s with heap := h'', toks := tk + 1 } :=
      I.turnedNew (ch := [e, it]) (fun b ob hb q => (sb.2 b (fun z => hb (by simp [z]))).trans (hk b ob (fun z => hb (by simp [z])) (fun z => hb (by simp [z])) q)) hf (Nat.le_refl _) new
    refine ⟨.ref s.heap.objs.size, _, I1, rfl, ⟨_, x, rfl, I.hok.fresh (Nat.le_refl _), rfl, fun ys hy => by rw [I.tuple_inj hy hq]; exact hx⟩, ⟨⟨y, ?_⟩, tupIter_at st'.1 fun o q => (sb.2 it (Ne.symm hne)).trans q, hne⟩, fun b hb => ?_⟩
    · have e1 : ((i + 1 : Nat) : Int) = (i : Int) + 1 := by omega
      rw [e1]
      exact he'
    · have hb' : b < s.heap.objs.size := by
        have e' : b = e ∨ b = it := by simpa using hb
        rcases e' with z | z
        · rw [z]
          exact hel
        · rw [z]
          exact hil
      rw [upd_ne (Nat.ne_of_lt hb')]
      exact (hf b hb).1
  done := by
    intro X hP hw hK hc i pins s σ H E I hf st hg
    subst hP hw hK
    obtain ⟨⟨old, he⟩, hit, hne⟩ := st
    obtain ⟨xs, hq, hx⟩ := hg
    obtain ⟨its, rv, p, hz⟩ := I.tuple hq
    obtain ⟨f0, f1, f2, f3, f4, f5⟩ := hf it (by simp)
    have hl := rv.length
    have D : Draws X.prog X.w X.A.in1 it [it, a] i (fun _ _ => False) (fun j h => j = i ∧ h.IsTupleIter it a i ∧ h.IsTuple a its.toArray) :=
      { live := fun _ _ st => let ⟨_, ⟨o, ho, _⟩, _⟩ := st; ⟨o, ho⟩
        frame := fun _ _ _ st hk => ⟨st.1, tupIter_at st.2.1 fun o q => hk it (by simp) o q, st.2.2.at fun o q => hk a (by simp) o q⟩
        item := fun j s Q E hj st _ => absurd st.1 (Nat.ne_of_lt hj)
        done := fun s Q E st hE => wpAny_nextOf_tuple_end (I.ok.hd hc) st.2.1 st.2.2 (by simp; omega) hE }
    exact wpAny_pyNext_enum_endD D he ⟨rfl, hit, p⟩ fun h' eb => ⟨rfl, I.turned (t' := s.toks) (fun b o hb q => eb b o hb q) f0 f1 f3 f4 f5⟩
  self := fun A i s Q E st h => let ⟨⟨_, he⟩, _⟩ := st; wpAny_pyIter_enum he h
def iEnumT (K : PySem.W.Frag) (ta : TA) : TI := fun σ H R => ta σ H fun vs H1 => ∃ a xs, vs = [.ref a] ∧ SqT K H1 a xs ∧ R (IteT K a) H1
theorem pi_enumT {X : Cx} {e : Expr} {ta : TA} {p pos tpos : Pos} {elts : List Expr} {kk : Nat} (hg : Gl X "enumerate") (hm : X.mg "enumerate" = none) (ha : PA X [e] ta) (hs : starEach [e] X.env = [(false, eval e X.env)] := by rfl) :
    PI X (.Tuple elts kk tpos) (.Call (.Name "enumerate" p) [e] [] pos) (iEnumT X.K ta) := by
  refine ⟨fun pins s σ H R I h => ?_⟩
  refine Call_ (ld_blt I hg hm boot_enumerate (PyProof.Rows.callWith_type1 (thn (ha.run pos pins s σ H _ I h) fun us s1 ⟨vs, H1, I1, r1, q1⟩ => ?_) hs rfl))
  obtain ⟨a, xs, ex, hq, q⟩ := q1
  subst ex
  rw [Vals.ref1 r1]
  obtain ⟨its, rv, p', hz⟩ := I1.tuple hq
  refine enum1 (begins_tuple a its.toArray) p' fun h' he ho hk => wpAny_pyIter_enum he ?_
  refine ⟨s1.heap.objs.size + 1, [s1.heap.objs.size + 1, s1.heap.objs.size], _, _, H1, rfl, I1.kept (t' := s1.toks) hk, turn_enumT a (s1.heap.objs.size + 1) s1.heap.objs.size, ⟨⟨.none, he⟩, ⟨_, ho, rfl, rfl⟩, Nat.succ_ne_self _⟩, fun b hb => ?_, q⟩
  have hle : s1.heap.objs.size ≤ b := by
    have e' : b = s1.heap.objs.size + 1 ∨ b = s1.heap.objs.size := by simpa using hb
    rcases e' with z | z
    · rw [z]
      exact Nat.le_add_right _ _
    · rw [z]
      exact Nat.le_refl _
  exact I1.fpOk hle (I1.hok.fresh hle)
end Lb
set_option Elab.async false
set_option linter.all false
set_option maxRecDepth 100000
set_option maxHeartbeats 2000000
namespace Lb
open PySem PySem.Spec PyProof.Rows L2
/-! ### values as data: None, bools, ints, texts, tuples, lists, {}; every address lies in the region R -/
abbrev Rgn := Addr → Prop
mutual
inductive Dat (R : Rgn) (H : Hp) : V → PyData → Prop
  | non : Dat R H .non .none
  | bl (b : Bool) : Dat R H (.bl b) (.bool b)
  | int (i : Int) : Dat R H (.int i) (.int i)
  | str (x : Str) : Dat R H (.str x) (.str x)
  | tup {a : Addr} {xs : List V} {ds : List PyData} (ra : R a) (e : H a = some (.tup xs)) (h : Dats R H xs ds) : Dat R H (.ref a) (.tuple ds)
  | lst {a : Addr} {xs : List V} {ds : List PyData} (ra : R a) (e : H a = some (.lst xs)) (h : Dats R H xs ds) : Dat R H (.ref a) (.list ds)
  | emp {a : Addr} (ra : R a) (e : H a = some (.dK [])) : Dat R H (.ref a) (.dict [])
inductive Dats (R : Rgn) (H : Hp) : List V → List PyData → Prop
  | nil : Dats R H [] []
  | cons {v : V} {vs : List V} {d : PyData} {ds : List PyData} (h : Dat R H v d) (t : Dats R H vs ds) : Dats R H (v :: vs) (d :: ds)
end
/-- what lies in the region is kept -/
def On (R : Rgn) (H H' : Hp) : Prop := ∀ b o, R b → H b = some o → H' b = some o
theorem On.of {R : Rgn} {H H' : Hp} (s : Same H H') : On R H H' := fun b o _ e => s b o e
theorem On.trans {R : Rgn} {H H1 H2 : Hp} (a : On R H H1) (b : On R H1 H2) : On R H H2 := fun c o r e => b c o r (a c o r e)
mutual
theorem Dat.on {R : Rgn} {H H' : Hp} (k : On R H H') : ∀ {v : V} {d : PyData}, Dat R H v d → Dat R H' v d
  | _, _, .non => .non
  | _, _, .bl b => .bl b
  | _, _, .int i => .int i
  | _, _, .str x => .str x
  | _, _, .tup ra e h => .tup ra (k _ _ ra e) (Dats.on k h)
  | _, _, .lst ra e h => .lst ra (k _ _ ra e) (Dats.on k h)
  | _, _, .emp ra e => .emp ra (k _ _ ra e)
theorem Dats.on {R : Rgn} {H H' : Hp} (k : On R H H') : ∀ {v : List V} {d : List PyData}, Dats R H v d → Dats R H' v d
  | _, _, .nil => .nil
  | _, _, .cons h t => .cons (Dat.on k h) (Dats.on k t)
end
theorem Dat.same {R : Rgn} {H H' : Hp} {v : V} {d : PyData} (h : Dat R H v d) (s : Same H H') : Dat R H' v d := h.on (On.of s)
theorem Dats.same {R : Rgn} {H H' : Hp} {v : List V} {d : List PyData} (h : Dats R H v d) (s : Same H H') : Dats R H' v d := h.on (On.of s)
mutual
/-- a region may be made smaller by what is not there -/
theorem Dat.sub {R R' : Rgn} {H : Hp} (k : ∀ b o, R b → H b = some o → R' b) : ∀ {v : V} {d : PyData}, Dat R H v d → Dat R' H v d
  | _, _, .non => .non
  | _, _, .bl b => .bl b
  | _, _, .int i => .int i
  | _, _, .str x => .str x
  | _, _, .tup ra e h => .tup (k _ _ ra e) e (Dats.sub k h)
  | _, _, .lst ra e h => .lst (k _ _ ra e) e (Dats.sub k h)
  | _, _, .emp ra e => .emp (k _ _ ra e) e
theorem Dats.sub {R R' : Rgn} {H : Hp} (k : ∀ b o, R b → H b = some o → R' b) : ∀ {v : List V} {d : List PyData}, Dats R H v d → Dats R' H v d
  | _, _, .nil => .nil
  | _, _, .cons h t => .cons (Dat.sub k h) (Dats.sub k t)
end
theorem Dats.length {R : Rgn} {H : Hp} : ∀ {v : List V} {d : List PyData}, Dats R H v d → v.length = d.length
  | _, _, .nil => rfl
  | _, _, .cons _ t => by rw [List.length_cons, List.length_cons, Dats.length t]
theorem Dats.get {R : Rgn} {H : Hp} : ∀ {vs : List V} {ds : List PyData} {i : Nat} {d : PyData}, Dats R H vs ds → ds[i]? = some d → ∃ v, vs[i]? = some v ∧ Dat R H v d
  | _, _, 0, _, .cons h _, e => by
    have e' := Option.some.inj e
    subst e'
    exact ⟨_, rfl, h⟩
  | _, _, i + 1, _, .cons _ t, e => Dats.get (i := i) t e
theorem Dats.get' {R : Rgn} {H : Hp} : ∀ {vs : List V} {ds : List PyData} {i : Nat} {v : V}, Dats R H vs ds → vs[i]? = some v → ∃ d, ds[i]? = some d ∧ Dat R H v d
  | _, _, 0, _, .cons h _, e => by
    have e' := Option.some.inj e
    subst e'
    exact ⟨_, rfl, h⟩
  | _, _, i + 1, _, .cons _ t, e => Dats.get' (i := i) t e
theorem Dats.append {R : Rgn} {H : Hp} : ∀ {vs ws : List V} {ds es : List PyData}, Dats R H vs ds → Dats R H ws es → Dats R H (vs ++ ws) (ds ++ es)
  | _, _, _, _, .nil, k => k
  | _, _, _, _, .cons h t, k => .cons h (Dats.append t k)
theorem Dats.take {R : Rgn} {H : Hp} : ∀ {vs : List V} {ds : List PyData} (n : Nat), Dats R H vs ds → Dats R H (vs.take n) (ds.take n)
  | _, _, 0, _ => .nil
  | _, _, _ + 1, .nil => .nil
  | _, _, n + 1, .cons h t => .cons h (Dats.take n t)
theorem Dats.drop {R : Rgn} {H : Hp} : ∀ {vs : List V} {ds : List PyData} (n : Nat), Dats R H vs ds → Dats R H (vs.drop n) (ds.drop n)
  | _, _, 0, k => k
  | _, _, _ + 1, .nil => .nil
  | _, _, n + 1, .cons _ t => Dats.drop n t
theorem Dats.reverse {R : Rgn} {H : Hp} : ∀ {vs : List V} {ds : List PyData}, Dats R H vs ds → Dats R H vs.reverse ds.reverse
  | _, _, .nil => .nil
  | _, _, .cons h t => by
    rw [List.reverse_cons, List.reverse_cons]
    exact Dats.append (Dats.reverse t) (.cons h .nil)
theorem Dats.rep {R : Rgn} {H : Hp} {vs : List V} {ds : List PyData} (h : Dats R H vs ds) : ∀ n : Nat, Dats R H (List.replicate n vs).flatten (List.replicate n ds).flatten
  | 0 => .nil
  | n + 1 => by
    rw [List.replicate_succ, List.replicate_succ, List.flatten_cons, List.flatten_cons]
    exact h.append (Dats.rep h n)
theorem Dats.ints {R : Rgn} {H : Hp} : ∀ ns : List Int, Dats R H (ns.map V.int) (ns.map PyData.int)
  | [] => .nil
  | n :: ns => .cons (.int n) (Dats.ints ns)
theorem Dats.of_ints {R : Rgn} {H : Hp} : ∀ {vs : List V} {ns : List Int}, Dats R H vs (ns.map PyData.int) → vs = ns.map V.int
  | _, [], .nil => rfl
  | _, n :: ns, .cons h t => by
    cases h
    rw [Dats.of_ints (ns := ns) t]
    rfl
/-- a new tuple, a new list -/
theorem same_upd {H : Hp} {p : Addr} {o : HO} (h : H p = none) : Same H (upd H p o) := fun b x e => by
  rw [upd_ne (ne_of_none e h)]
  exact e
theorem Dat.newT {R : Rgn} {H : Hp} {p : Addr} {xs : List V} {ds : List PyData} (n : H p = none) (r : R p) (h : Dats R H xs ds) : Dat R (upd H p (.tup xs)) (.ref p) (.tuple ds) := .tup r upd_same (h.same (same_upd n))
theorem Dat.newL {R : Rgn} {H : Hp} {p : Addr} {xs : List V} {ds : List PyData} (n : H p = none) (r : R p) (h : Dats R H xs ds) : Dat R (upd H p (.lst xs)) (.ref p) (.list ds) := .lst r upd_same (h.same (same_upd n))

/-! ### repr -/
section
variable {X : Cx} {pins : List (Addr × Obj)} {σ : L2.St} {H : Hp} {s : Shared} {R : Rgn}
mutual
theorem dat_reads (I : Inv X pins σ H s) : ∀ {v : V} {d : PyData} {u : Value}, Dat R H v d → RelV v u → ∃ as, Reads s.heap u d as
  | _, _, u, .non, r => by
    cases (show u = Value.none from r)
    exact ⟨_, .none⟩
  | _, _, u, .bl b, r => by
    cases (show u = Value.bool b from r)
    exact ⟨_, .bool b⟩
  | _, _, u, .int i, r => by
    obtain ⟨t, q⟩ := (show ∃ t, u = Value.int i t from r)
    cases q
    exact ⟨_, .int i t⟩
  | _, _, u, .str x, r => by
    obtain ⟨t, q⟩ := (show ∃ t, u = Value.str x t from r)
    cases q
    exact ⟨_, .str x t⟩
  | _, _, u, .tup (a := a) (xs := xs) _ e h, r => by
    cases (show u = Value.ref a from r)
    obtain ⟨its, rv, ⟨o, ho, hc, n, hd⟩, _⟩ := I.tuple (.inl (.inl e))
    obtain ⟨as, q⟩ := dats_reads I h rv
    exact ⟨_, .tuple ho hc hd q⟩
  | _, _, u, .lst (a := a) (xs := xs) _ e h, r => by
    cases (show u = Value.ref a from r)
    obtain ⟨its, rv, hp, _⟩ := I.list (.inl (.inl e))
    obtain ⟨o, n, ho, hc, _, hd⟩ := hp
    obtain ⟨as, q⟩ := dats_reads I h rv
    exact ⟨_, .list ho hc hd q⟩
  | _, _, u, .emp (a := a) _ e, r => by
    cases (show u = Value.ref a from r)
    obtain ⟨_, _, vs, kv, o, es, ep, ho, hx, hd, hk, hp, _⟩ := (show ObjOk X.prog X.w H s.heap a (.dK []) from I.hok a _ e)
    cases kv
    have e0 : es.toList = [] := by
      generalize es.toList = l at hp
      cases hp
      rfl
    refine ⟨_, .dict (kvs := []) (as := []) (bs := []) ho hx.1 hd ?_ ?_⟩
    · rw [e0]
      exact .nil
    · rw [e0]
      exact .nil
theorem dats_reads (I : Inv X pins σ H s) : ∀ {vs : List V} {ds : List PyData} {us : List Value}, Dats R H vs ds → Vals vs us → ∃ as, ReadsAll s.heap us ds as
  | _, _, _, .nil, .nil => ⟨_, .nil⟩
  | _, _, _, .cons h t, .cons r rr => by
    obtain ⟨as, q⟩ := dat_reads I h r
    obtain ⟨bs, q2⟩ := dats_reads I t rr
    exact ⟨_, .cons q q2⟩
end
theorem emp_at (I : Inv X pins σ H s) {a : Addr} (e : H a = some (.dK [])) : ∃ o n, s.heap.get? a = some o ∧ o.cls = .type "dict" ∧ o.data = .dict #[] n ∧ (a == sysModules) = false := by
  obtain ⟨_, hs, vs, kv, o, es, ep, ho, hx, hd, hk, hp, _⟩ := (show ObjOk X.prog X.w H s.heap a (.dK []) from I.hok a _ e)
  cases kv
  have e0 : es = #[] := by
    have : es.toList = [] := by
      generalize es.toList = l at hp
      cases hp
      rfl
    exact Array.toList_eq_nil_iff.mp this
  subst e0
  exact ⟨o, ep, ho, hx.1, hd, hs⟩
mutual
theorem dat_show (I : Inv X pins σ H s) : ∀ {v : V} {d : PyData} {u : Value}, Dat R H v d → RelV v u → d.showable = true → d.shown.length ≤ sizeLine →
    ∃ bs, ReadAtMost s.heap d.depth bs ∧ ReprK X.prog X.w bs s.heap d.depth u d.shown
  | _, _, u, .non, r, _, _ => by
    cases (show u = Value.none from r)
    refine ⟨[], (fun _ z => nomatch z), ?_⟩
    rw [PyData.shown]
    exact ReprK.of_is ReprIs.none _ _ _
  | _, _, u, .bl b, r, _, _ => by
    cases (show u = Value.bool b from r)
    refine ⟨[], (fun _ z => nomatch z), ?_⟩
    rw [PyData.shown]
    exact ReprK.of_is (ReprIs.bool b) _ _ _
  | _, _, u, .int i, r, hw, _ => by
    obtain ⟨t, q⟩ := (show ∃ t, u = Value.int i t from r)
    cases q
    refine ⟨[], (fun _ z => nomatch z), ?_⟩
    rw [PyData.shown]
    rw [PyData.showable] at hw
    exact ReprK.of_is (ReprIs.int t (of_decide_eq_true hw)) _ _ _
  | _, _, u, .str x, r, _, hz => by
    obtain ⟨t, q⟩ := (show ∃ t, u = Value.str x t from r)
    cases q
    refine ⟨[], (fun _ z => nomatch z), ?_⟩
    rw [PyData.shown] at hz ⊢
    exact ReprK.of_is (ReprIs.str x t hz) _ _ _
  | _, _, u, .tup (a := a) (xs := xs) (ds := ds) ra e h, r, hw, hz => by
    cases (show u = Value.ref a from r)
    obtain ⟨as, rd⟩ := dat_reads I (Dat.tup ra e h) rfl
    obtain ⟨its, rv, ⟨o, ho, hc, n, hd⟩, _⟩ := I.tuple (.inl (.inl e))
    rw [PyData.showable] at hw
    rw [PyData.shown] at hz
    obtain ⟨bs, hb, hk⟩ := dats_show I h rv hw fun t ht => Nat.le_trans (tupleText_mem_le ht) hz
    have na : a ∉ bs := not_mem_of_deeper rd (by rw [PyData.depth]; omega) hb
    refine ⟨a :: bs, ReadAtMost.cons rd (by rw [PyData.depth]; omega) hb, ?_⟩
    rw [PyData.depth, PyData.shown]
    exact ReprK.tuple ho hc hd na hk
  | _, _, u, .lst (a := a) (xs := xs) (ds := ds) ra e h, r, hw, hz => by
    cases (show u = Value.ref a from r)
    obtain ⟨as, rd⟩ := dat_reads I (Dat.lst ra e h) rfl
    obtain ⟨its, rv, hp, _⟩ := I.list (.inl (.inl e))
    obtain ⟨o, n, ho, hc, _, hd⟩ := hp
    rw [PyData.showable] at hw
    rw [PyData.shown] at hz
    obtain ⟨bs, hb, hk⟩ := dats_show I h rv hw fun t ht => Nat.le_trans (listText_mem_le ht) hz
    have na : a ∉ bs := not_mem_of_deeper rd (by rw [PyData.depth]; omega) hb
    refine ⟨a :: bs, ReadAtMost.cons rd (by rw [PyData.depth]; omega) hb, ?_⟩
    rw [PyData.depth, PyData.shown]
    cases its with
    | nil =>
      cases rv
      cases h
      rw [PyData.shownAll, listText_nil]
      exact ReprK.listEmpty ho hc hd
    | cons y ys =>
      refine ReprK.list ho hc hd na ?_ fun i z q => hk.item i z (by simpa using q)
      have := hk.length_eq
      simpa using this
  | _, _, u, .emp (a := a) ra e, r, _, _ => by
    cases (show u = Value.ref a from r)
    obtain ⟨as, rd⟩ := dat_reads I (Dat.emp ra e) rfl
    obtain ⟨o, n, ho, hc, hd, hs⟩ := emp_at I e
    refine ⟨[a], fun b hb => ?_, ?_⟩
    · rw [List.mem_singleton.mp hb]
      exact ⟨_, _, rd, Nat.le_refl _⟩
    · have k := ReprK.dict (prog := X.prog) (w := X.w) (as := []) (d := 0) (ps := []) ho hc hd hs (fun z => nomatch z) .nil
      have e1 : (PyData.dict []).shown = dictText [] := by
        rw [PyData.shown, PyData.shownKv]
      have e2 : (PyData.dict []).depth = 0 + 1 := by
        rw [PyData.depth, PyData.depthKv]
      rw [e1, e2]
      exact k
theorem dats_show (I : Inv X pins σ H s) : ∀ {vs : List V} {ds : List PyData} {us : List Value}, Dats R H vs ds → Vals vs us → PyData.showableAll ds = true → (∀ t ∈ PyData.shownAll ds, t.length ≤ sizeLine) →
    ∃ bs, ReadAtMost s.heap (PyData.depthAll ds) bs ∧ ReprAllK X.prog X.w bs s.heap (PyData.depthAll ds) us (PyData.shownAll ds)
  | _, _, _, .nil, .nil, _, _ => ⟨[], (fun _ z => nomatch z), by rw [PyData.shownAll]; exact .nil⟩
  | _, _, _, .cons (d := d) (ds := ds) h t, .cons r rr, hw, hz => by
    rw [PyData.showableAll, Bool.and_eq_true] at hw
    rw [PyData.shownAll] at hz
    obtain ⟨bs, hb, k⟩ := dat_show I h r hw.1 (hz _ List.mem_cons_self)
    obtain ⟨cs, hc, l⟩ := dats_show I t rr hw.2 fun z q => hz z (List.mem_cons_of_mem _ q)
    have l1 : d.depth ≤ max d.depth (PyData.depthAll ds) := Nat.le_max_left _ _
    have l2 : PyData.depthAll ds ≤ max d.depth (PyData.depthAll ds) := Nat.le_max_right _ _
    refine ⟨bs ++ cs, ?_, ?_⟩
    · rw [PyData.depthAll]
      exact ReadAtMost.append (hb.mono l1) (hc.mono l2)
    · rw [PyData.depthAll, PyData.shownAll]
      exact .cons ((k.more fun b q => List.mem_append_left _ q).level_le l1) (l.more_le (fun b q => List.mem_append_right _ q) l2)
end
end
/-- repr(x), x any data -/
def rRepr : List V → Hp → VK → Prop := fun xs H Q => ∃ (R : Rgn) (v : V) (d : PyData), xs = [v] ∧ Dat R H v d ∧ d.showable = true ∧ d.shown.length ≤ sizeLine ∧ d.depth ≤ 100 ∧ Q (.str d.shown) H
theorem Vals.one {v : V} {us : List Value} (r : Vals [v] us) : ∃ u, us = [u] ∧ RelV v u := by
  cases r with
  | cons a b =>
    cases b
    exact ⟨_, rfl, a⟩
theorem call_reprD {X : Cx} (hg : X.A.guards = some []) (hu : X.A.units + 110 < cLine) : CallR X (.builtin "repr") rRepr := by
  intro pins s σ H xs us Q I r h
  obtain ⟨R, v, d, rfl, hd, hw, hz, hdp, q⟩ := h
  obtain ⟨u, rfl, ru⟩ := Vals.one r
  have fin : ∀ (h' : Heap) (t : Tok) (tk : Nat), (∀ b o, s.heap.get? b = some o → h'.get? b = some o) → EP X pins σ Q (.str d.shown t) { s with heap := h', toks := tk } := fun h' t tk hk =>
    ⟨.str d.shown, H, I.kept hk, ⟨_, rfl⟩, q⟩
  have fin0 : ∀ (t : Tok) (tk : Nat), EP X pins σ Q (.str d.shown t) { s with toks := tk } := fun t tk => fin s.heap t tk fun _ _ e => e
  cases hd with
  | non =>
    cases (show u = Value.none from ru)
    have := fin0 s.toks (s.toks + 1)
    rw [PyData.shown] at this
    exact PySem.P.repr_of_none this
  | bl b =>
    cases (show u = Value.bool b from ru)
    have := fin0 s.toks (s.toks + 1)
    rw [PyData.shown] at this
    exact PySem.P.repr_of_bool this
  | int i =>
    obtain ⟨t, e⟩ := (show ∃ t, u = Value.int i t from ru)
    cases e
    have := fin0 s.toks (s.toks + 1)
    rw [PyData.shown] at this
    rw [PyData.showable] at hw
    exact PySem.P.repr_of_int (of_decide_eq_true hw) this
  | str x =>
    obtain ⟨t, e⟩ := (show ∃ t, u = Value.str x t from ru)
    cases e
    have := fin0 s.toks (s.toks + 1)
    rw [PyData.shown] at this hz
    exact PySem.P.repr_of_str this hz
  | @tup a xs ds ra e h =>
    cases (show u = Value.ref a from ru)
    obtain ⟨as, rd⟩ := dat_reads I (Dat.tup ra e h) rfl
    obtain ⟨its, rv, ⟨o, ho, hc, n, hd⟩, _⟩ := I.tuple (.inl (.inl e))
    rw [PyData.showable] at hw
    rw [PyData.shown] at hz
    rw [PyData.depth] at hdp
    obtain ⟨bs, hb, hk⟩ := dats_show I h rv hw fun t ht => Nat.le_trans (tupleText_mem_le ht) hz
    have na : a ∉ bs := not_mem_of_deeper rd (by rw [PyData.depth]; omega) hb
    refine call_repr_slot (by omega) ⟨o, ho, hc⟩ F.slot_tuple_repr (call_tuple_reprK ho hc hd na hk (A := X.A.in1) hg (fun b _ => Clear.nil b) (by show X.A.units + 1 + _ < _; omega) (fun _ _ e => e) (fun h' t tk hk' => ⟨_, _, rfl, ?_⟩) hz)
    have := fin h' t tk hk'
    rw [PyData.shown] at this
    exact this
  | @lst a xs ds ra e h =>
    cases (show u = Value.ref a from ru)
    obtain ⟨as, rd⟩ := dat_reads I (Dat.lst ra e h) rfl
    obtain ⟨its, rv, hp, _⟩ := I.list (.inl (.inl e))
    obtain ⟨o, n, ho, hc, _, hd⟩ := hp
    rw [PyData.showable] at hw
    rw [PyData.shown] at hz
    rw [PyData.depth] at hdp
    obtain ⟨bs, hb, hk⟩ := dats_show I h rv hw fun t ht => Nat.le_trans (listText_mem_le ht) hz
    have na : a ∉ bs := not_mem_of_deeper rd (by rw [PyData.depth]; omega) hb
    rw [PyData.shown] at fin fin0
    cases its with
    | nil =>
      cases rv
      cases h
      rw [PyData.shownAll, listText_nil] at fin fin0
      exact call_repr_slot (by omega) ⟨o, ho, hc⟩ F.slot_list_repr.toG (call_list_repr_empty ⟨o, ho, hc⟩ ho hd ⟨_, _, rfl, fin0 _ _⟩)
    | cons y ys =>
      refine call_repr_slot (by omega) ⟨o, ho, hc⟩ F.slot_list_repr.toG (call_list_reprK ho hc hd na ?_ (fun i z q => hk.item i z (by simpa using q)) (A := X.A.in1) hg (fun b _ => Clear.nil b) (by show X.A.units + 1 + _ < _; omega) (fun _ _ e => e)
        (fun h' t tk hk' => ⟨_, _, rfl, fin h' t tk hk'⟩) hz)
      have := hk.length_eq
      simpa using this
  | @emp a ra e =>
    cases (show u = Value.ref a from ru)
    obtain ⟨o, n, ho, hc, hd, hs⟩ := emp_at I e
    have e1 : (PyData.dict []).shown = dictText [] := by
      rw [PyData.shown, PyData.shownKv]
    rw [e1] at fin hz
    exact call_repr_slot (by omega) ⟨o, ho, hc⟩ F.slot_dict_repr (call_dict_reprK (as := []) (d := 0) (ps := []) ho hc hd hs (fun z => nomatch z) .nil (A := X.A.in1) hg (fun b _ => Clear.nil b) (by show X.A.units + 1 + _ < _; omega) (fun _ _ e => e)
      (fun h' t tk hk' => ⟨_, _, rfl, fin h' t tk hk'⟩) hz)
end Lb
set_option Elab.async false
set_option linter.all false
set_option maxRecDepth 100000
set_option maxHeartbeats 4000000
namespace Lb
open PySem PySem.Spec PyProof.Rows L2
/-! ### t[::-1] of a tuple -/
section
variable {prog : Program} {w : World} {A : Around} {E : Value → Shared → Prop} {s : Shared}
theorem pick_rev (xs : Array Value) : ((List.range xs.size).filterMap fun (k : Nat) => xs[(((xs.size : Int) - 1) + (k : Int) * (-1)).toNat]?).toArray = xs.toList.reverse.toArray := by
  have e : ∀ k ∈ List.range xs.size, xs[(((xs.size : Int) - 1) + (k : Int) * (-1)).toNat]? = xs[xs.size - 1 - k]? := fun k hk => by
    have := List.mem_range.mp hk
    have e1 : (((xs.size : Int) - 1) + (k : Int) * (-1)).toNat = xs.size - 1 - k := by omega
    rw [e1]
  have e2 : (List.range xs.size).filterMap (fun (k : Nat) => xs[(((xs.size : Int) - 1) + (k : Int) * (-1)).toNat]?) = (List.range xs.size).filterMap (fun k => xs[xs.size - 1 - k]?) := by
    generalize List.range xs.size = l at e
    induction l with
    | nil => rfl
    | cons k l ih =>
      rw [List.filterMap_cons, List.filterMap_cons, e k List.mem_cons_self, ih fun j hj => e j (List.mem_cons_of_mem _ hj)]
  rw [e2]
  have e3 : (List.range xs.size).filterMap (fun k => xs[xs.size - 1 - k]?) = ((List.range xs.size).map (fun k => xs.size - 1 - k)).filterMap (xs[·]?) := by
    rw [List.filterMap_map] <;> rfl
  rw [e3, PySem.W.krv_range, List.filterMap_reverse, PySem.W.krv_all]
theorem applied_rev {sl : Addr} {vk : Value} {n : Nat} {Q : Int × Int × Nat → Shared → Prop} (hs : s.heap.IsSliceOf sl .none .none vk) (pk : IsPart vk (some (-1))) (h : Q ((n : Int) - 1, -1, n) s) :
    wpAny (model prog w) A (Builtin.Slice.sliceApplied (.ref sl) (pure (n : Int))) Q E s := by
  obtain ⟨os, hos, hcs, hds⟩ := id hs
  unfold Builtin.Slice.sliceApplied Builtin.Slice.sliceFields
  refine wpAny_bind (wpAny_bind (wpAny_field hos hds (x := .none) rfl (wpAny_bind (wpAny_field hos hds (x := .none) rfl (wpAny_bind (wpAny_field hos hds (x := vk) rfl (wpAny_pure ?_)))))))
  refine wpAny_bind (HT.slicePart_ pk ?_)
  show wpAny _ _ (if ((-1 : Int) == 0) = true then _ else _) _ _ s
  rw [if_neg (by decide)]
  refine wpAny_bind (PyProof.Rows.slicePart_none (wpAny_bind (PyProof.Rows.slicePart_none (wpAny_bind (wpAny_pure ?_)))))
  have e1 : Builtin.Slice.sliceAdjust none none (-1) (n : Int) = ((n : Int) - 1, -1) := rfl
  have e2 : Builtin.Slice.slicePlaces ((n : Int) - 1) (-1) (-1) = n := by
    unfold Builtin.Slice.slicePlaces
    rw [if_neg (by decide)]
    split
    · have : (-(-1 : Int)) = 1 := by decide
      rw [this, Int.ediv_one]
      omega
    · omega
  show wpAny _ _ (match Builtin.Slice.sliceAdjust none none (-1) (n : Int) with | (lo, hi) => pure (lo, (-1 : Int), Builtin.Slice.slicePlaces lo hi (-1))) _ _ s
  rw [e1]
  show wpAny _ _ (pure ((n : Int) - 1, (-1 : Int), Builtin.Slice.slicePlaces ((n : Int) - 1) (-1) (-1))) _ _ s
  rw [e2]
  exact wpAny_pure h
theorem getItem_rev {t sl : Addr} {items : Array Value} {vk : Value} {Q : Value → Shared → Prop} (ht : IsTup s.heap t items) (hs : s.heap.IsSliceOf sl .none .none vk) (pk : IsPart vk (some (-1)))
    (h : Q (.ref s.heap.objs.size) { s with heap := s.heap.push { cls := .type "tuple", data := .seq items.toList.reverse.toArray } }) (hz : items.size ≤ sizeLine) : wpAny (model prog w) A (getItem (.ref t) (.ref sl)) Q E s := by
  have fits : sizeOk (.seq items.toList.reverse.toArray) := by
    show items.toList.reverse.toArray.size ≤ sizeLine
    rw [List.size_toArray, List.length_reverse, Array.length_toList]
    exact hz
  obtain ⟨os, hos, hcs, hds⟩ := id hs
  have hT : s.TypeIs (.ref sl) "slice" := ⟨os, hos, hcs⟩
  unfold getItem
  try with_reducible refine wpAny_holding ?_
  first | refine wpAny_bind (wpAny_pure ?_) | skip
  refine wpAny_bind (wpAny_sequenceKey ht.typeIs (by decide) ?_)
  refine wpAny_bind (wpAny_callSpecial?_slot (name := Str.ofString "__getitem__") ht.typeIs PyProof.Rows.slot_tuple_getitem
    (wpAny_call_entry PyProof.Rows.slot_tuple_getitem ht.typeIs PyProof.Rows.entry_tuple_getitem ?_ (PyProof.Rows.args_tuple_getitem _ _)))
  show wpAny _ _ (Builtin.Tuple.tupleItemsOf (.ref t) >>= _) _ _ s
  refine wpAny_bind (PyProof.Rows.tupleItemsOf_ ht ?_)
  refine wpAny_bind (wpAny_typeOf hT ?_)
  rw [if_pos (by decide)]
  refine wpAny_bind (applied_rev hs pk ?_)
  have no : ¬ ((((items.size : Int) - 1) == 0 && (-1 : Int) == 1 && items.size == items.size) = true) := by
    intro q
    rw [Bool.and_eq_true, Bool.and_eq_true] at q
    exact absurd q.1.2 (by decide)
  show wpAny _ _ (if (((items.size : Int) - 1) == 0 && (-1 : Int) == 1 && items.size == items.size) = true then _ else _) _ _ s
  rw [if_neg no, pick_rev]
  first
    | exact wpAny_bind (m := Builtin.Tuple.tupleExact _) (wpAny_newObj_type (wpAny_pure ⟨_, rfl, wpAny_pure h⟩) fits)
    | exact wpAny_bind (m := Builtin.Tuple.tupleExact _) (wpAny_newObj_type (wpAny_bind (wpAny_pure (wpAny_pure ⟨_, rfl, wpAny_pure h⟩))) fits)
    | exact wpAny_bind (wpAny_bind (m := Builtin.Tuple.tupleExact _) (wpAny_newObj_type (wpAny_pure (wpAny_pure ⟨_, rfl, wpAny_pure h⟩)) fits))
    | exact wpAny_bind (wpAny_bind (m := Builtin.Tuple.tupleExact _) (wpAny_newObj_type (wpAny_pure ⟨_, rfl, wpAny_pure h⟩) fits))
end
section
variable {X : Cx}
def tRevT (K : PySem.W.Frag) (te : TE) : TE := fun σ H Q => te σ H fun x H1 => ∃ a xs, x = .ref a ∧ SqT K H1 a xs ∧ ∀ p, H1 p = none → Q (.ref p) (upd H1 p (.tup xs.reverse))
theorem pe_revT {e : Expr} {te : TE} {k : Nat} {p1 p2 p3 pos : Pos} (he : PE X e te) : PE X (.Subscript e (.Slice none none (some (.UnaryOp .USub (.Constant (.int 1) k p1) p2)) p3) pos) (tRevT X.K te) := by
  refine ⟨fun pins s σ H Q I h => ?_⟩
  refine Subscript_ (thn (he.run pins s σ H _ I h) fun v s1 ⟨x, H1, I1, r1, a, xs, ex, hx, q⟩ => ?_)
  subst ex
  cases r1
  have hst : PO X (some (.UnaryOp .USub (.Constant (.int 1) k p1) p2)) (tPart (tUn (rU fun i => .int (-i)) (tC (.int 1)))) := po_some (pe_un un_neg pe_int)
  refine wpAny_Slice ?_
  rw [evalPart_none]
  refine wpAny_pure (wpAny_pure ?_)
  refine thn (hst.run pins s1 σ H1 (fun o H2 => o = some (-1) ∧ H2 = H1) I1 ⟨1, rfl, -1, rfl, rfl, rfl⟩) fun vk s2 ⟨o, H2, I2, pk, eo, e2⟩ => ?_
  subst eo e2
  have I3 : Inv X pins σ H2 { s2 with heap := s2.heap.push { cls := .type "slice", data := .fields #[.none, .none, vk] } } := I2.kept (t' := s2.toks) fun b ob z => Heap.get?_push_of_some _ z
  obtain ⟨its, r, ht, hz⟩ := I3.tuple hx
  have hl := r.length
  show wpAny (model X.prog X.w) X.A (subscriptTail e (.Slice none none (some (.UnaryOp .USub (.Constant (.int 1) k p1) p2)) p3) (.ref a) (.ref s2.heap.objs.size)) (EP X pins σ Q) X.xe { s2 with heap := s2.heap.push { cls := .type "slice", data := .fields #[.none, .none, vk] } }
  refine tail_any (ops := [.ref a, .ref s2.heap.objs.size]) ht.typeIs PyProof.Rows.slot_tuple_getitem.lookup ?_ (by with_unfolding_all rfl)
  refine getItem_rev ht (Heap.IsSliceOf.new _ .none .none vk) pk ?_ (by rw [List.size_toArray]; omega)
  refine ⟨.ref _, _, I3.laid (t' := s2.toks) (o := .tup xs.reverse) (fun b ob z => Heap.get?_push_of_some _ z) (Nat.le_refl _) ?_, rfl, q _ (I3.hok.fresh (Nat.le_refl _))⟩
  refine ⟨by rw [List.length_reverse]; exact hz, its.reverse, r.reverse, ?_⟩
  exact IsTup.new _ _
end
end Lb
set_option Elab.async false
set_option linter.all false
set_option maxRecDepth 100000
set_option maxHeartbeats 4000000
namespace Lb
open PySem PySem.Spec PyProof.Rows L2
/-! ### t * k, k any small number -/
theorem mul_same (l : Addr) (items : Array Value) (n : Nat) (dd : Option Addr) (sl : Array (Option Value)) (x : Int) (u : Tok) (c0 : (decide (x < -(2 ^ 63)) || decide (x ≥ 2 ^ 63)) = false) (c1 : (items.isEmpty || x == 1) = true) :
    Meets (Builtin.«tuple.__mul__» ⟨[.ref l, .int x u], []⟩) (fun _ R s => s.heap.get? l = some { cls := .type "tuple", dict := dd, data := .seq items n, slots := sl } ∧ R (.ok (.ret (Value.ref l))) s) :=
  .of_wp fun prog w A R s h => by
    obtain ⟨hp, g, d, tk, os⟩ := s
    obtain ⟨hl, h⟩ := h
    have f1 := AutoSeq1.idx_int
    have hT : (⟨hp, g, d, tk, os⟩ : Shared).TypeIs (.ref l) "tuple" := ⟨_, hl, rfl⟩
    wp_walk using wpAny_loadPart' hl
    refine wpAny_ite_false (decide_eq_false (by rw [c0]; exact Bool.false_ne_true)) ?_
    wp_walk using wpAny_loadPart' hl
    exact ⟨_, rfl, h⟩
theorem mul_none (l : Addr) (items : Array Value) (n : Nat) (dd : Option Addr) (sl : Array (Option Value)) (x : Int) (u : Tok) (c0 : (decide (x < -(2 ^ 63)) || decide (x ≥ 2 ^ 63)) = false) (c1 : (items.isEmpty || x == 1) = false) (c2 : (decide (x ≤ 0) || items.isEmpty) = true) :
    Meets (Builtin.«tuple.__mul__» ⟨[.ref l, .int x u], []⟩) (fun _ R s => s.heap.get? l = some { cls := .type "tuple", dict := dd, data := .seq items n, slots := sl } ∧
      R (.ok (.ret (Value.ref s.heap.objs.size))) { s with heap := s.heap.push { cls := Value.type "tuple", data := Data.seq #[] } }) :=
  .of_wp fun prog w A R s h => by
    obtain ⟨hp, g, d, tk, os⟩ := s
    obtain ⟨hl, h⟩ := h
    have f1 := AutoSeq1.idx_int
    wp_walk using wpAny_loadPart' hl
    refine wpAny_ite_false (decide_eq_false (by rw [c0]; exact Bool.false_ne_true)) ?_
    wp_walk using wpAny_loadPart' hl
    repeat (first
      | exact ⟨_, rfl, h⟩
      | (refine wpAny_ite_false (decide_eq_false (show ¬ ((items.isEmpty || x == 1) = true) by rw [c1]; exact Bool.false_ne_true)) ?_; wp_walk using wpAny_loadPart' hl)
      | (refine wpAny_ite_true (decide_eq_true c2) ?_; wp_walk using wpAny_loadPart' hl))
def rRepA (K : PySem.W.Frag) : R2 := fun x y H Q => ∃ l k xs, x = .ref l ∧ y = .int k ∧ SqT K H l xs ∧ -1000 ≤ k ∧ k ≤ 1000 ∧ xs.length ≤ 1000 ∧ xs ≠ [] ∧
  (k = 1 → Q (.ref l) H) ∧ (k ≠ 1 → ∀ p, H p = none → Q (.ref p) (upd H p (.tup (List.replicate k.toNat xs).flatten)))
section
variable {X : Cx}
theorem op_repA : OpR X (binaryOp .Mult) (rRepA X.K) := by
  intro pins s σ H x y v u Q I rx ry h
  obtain ⟨l, k, xs, rfl, rfl, hT, h1, h2, hz, hne, q1, q2⟩ := h
  by_cases hk : 2 ≤ k
  · exact op_repT pins s σ H _ _ v u Q I rx ry ⟨l, k, xs, rfl, rfl, hT, hne, hk, h2, hz, q2 (by omega)⟩
  cases rx
  obtain ⟨t, rfl⟩ := ry
  obtain ⟨its, r, ⟨⟨cls, dd, data, sl⟩, ho, hc, n, hd⟩, hs⟩ := I.tuple hT
  simp only at hc hd
  subst hc hd
  have hle : its.length = xs.length := r.length.symm
  have hi : its.toArray.isEmpty = false := by
    cases its with
    | nil =>
      have : xs = [] := List.eq_nil_of_length_eq_zero hle.symm
      exact absurd this hne
    | cons a b => rfl
  have c0 : (decide (k < -(2 ^ 63)) || decide (k ≥ 2 ^ 63)) = false := by
    rw [decide_eq_false (by omega), decide_eq_false (by omega)] <;> rfl
  by_cases hk1 : k = 1
  · refine wpAny_binaryOp_repeat_ref (T := "tuple") (U := "int") (by decide) ⟨_, ho, rfl⟩ (fun s' => typeIs_int s' k t) noFill_tuple_mul F.fills_int_mul F.slot_int_rmul repeat_tuple F.slot_int_index.lookup
      (call_meets F.slot_int_rmul (typeIs_int s k t) F.entry_int_rmul (F.args_int_rmul_2 _ _) (int_rmul_tuple k t l its.toArray n dd sl)
        ⟨ho, rfl, ⟨_, ho, rfl⟩, call_meets F.slot_tuple_mul ⟨_, ho, rfl⟩ F.entry_tuple_mul (F.args_tuple_mul_2 _ _) (mul_same l its.toArray n dd sl k t c0 (by rw [hk1, hi] <;> rfl)) ⟨ho, ?_⟩⟩)
    exact ⟨.ref l, H, I, rfl, q1 hk1⟩
  · refine wpAny_binaryOp_repeat_ref (T := "tuple") (U := "int") (by decide) ⟨_, ho, rfl⟩ (fun s' => typeIs_int s' k t) noFill_tuple_mul F.fills_int_mul F.slot_int_rmul repeat_tuple F.slot_int_index.lookup
      (call_meets F.slot_int_rmul (typeIs_int s k t) F.entry_int_rmul (F.args_int_rmul_2 _ _) (int_rmul_tuple k t l its.toArray n dd sl)
        ⟨ho, rfl, ⟨_, ho, rfl⟩, call_meets F.slot_tuple_mul ⟨_, ho, rfl⟩ F.entry_tuple_mul (F.args_tuple_mul_2 _ _) (mul_none l its.toArray n dd sl k t c0 (by rw [hi, Bool.false_or]; exact beq_eq_false_iff_ne.mpr hk1) (by rw [decide_eq_true (by omega)] <;> rfl)) ⟨ho, ?_⟩⟩)
    have e0 : (List.replicate k.toNat xs).flatten = [] := by
      have : k.toNat = 0 := by omega
      rw [this] <;> rfl
    have q := q2 hk1
    rw [e0] at q
    refine ⟨.ref s.heap.objs.size, _, I.laid (t' := s.toks) (o := .tup []) (fun b ob z => Heap.get?_push_of_some _ z) (Nat.le_refl _) ?_, rfl, q _ (I.hok.fresh (Nat.le_refl _))⟩
    exact ⟨Nat.zero_le _, [], .nil, IsTup.new _ _⟩
end
/-! ### the law's own def, run where no repr is under way -/
structure FnG (P : Program) (w : World) (K : PySem.W.Frag) (mg : Str → Option Value) (base : Heap) (CX : CXT) (k : Nat) (f : Addr) (fd : FuncData) (ps : List Str) (sp : Sp) : Prop where
  len : ∀ vs H Q E, sp vs H Q E → vs.length = ps.length
  run : ∀ (A : Around) (outer : List Env) (s : Shared) (H : Hp) (args : Args) (us : List Value) (vs : List V) (Q : VK) (E : XK), A.guards = some [] → Room k A → Env0 P w K mg base A outer s H → BindsTo s fd args (ps.zip us) → Vals vs us → sp vs H Q E →
    codeAny (model P w) A (.call (.ref f) args) (CR CX outer P w H s Q E) s
theorem fnG_of {CX : CXT} {P : Program} {w : World} {K : PySem.W.Frag} {mg : Str → Option Value} {base : Heap} {k : Nat} {f : Addr} {x qual : Str} {st : Stmt} {fd : FuncData} {N ps : List Str} {sp : Sp} (F : Fun K x qual st f fd) (S : FnScope N ps (defScope st))
    (len : ∀ vs H Q E, sp vs H Q E → vs.length = ps.length)
    (hbody : ∀ (cdv : Value) (A : Around) (outer : List Env) (s : Shared) (H : Hp) (vs : List V) (Q : VK) (E : XK), (A.deeper (envOfC qual (defScope st) s.heap.objs.size f cdv)).guards = some [] → Room k (A.deeper (envOfC qual (defScope st) s.heap.objs.size f cdv)) → sp vs H Q E →
      ∃ t, PSs (cxOf CX P w K mg base N qual (defScope st) f cdv A outer s H E) (defBody st) t ∧ t { nx := fun _ H' => Q .non H', rt := Q } (start N vs) H) : FnG P w K mg base CX (k + 1) f fd ps sp := by
  obtain ⟨oc, od, kV, doc, pm, an, cdv, ct, osl, rfl, lk, hcd⟩ := F.ex
  refine ⟨len, fun A outer s H args us vs Q E hg hr e0 hb r hsp => ?_⟩
  have hl := len _ _ _ _ hsp
  have kin : K.In s.heap := e0.mod.kin.keeps fun b o z => (e0.bs b o z).1
  have lim : s.heap.NoLimit := e0.mod.nolimit.keeps fun b o z => (e0.bs b o z).1
  have kinds : ∀ y ∈ ps.zip us, (defScope st).names.lookup y.1 = some .local ∨ ((defScope st).names.lookup y.1 = some .cell ∧ ((cellsFrom (s.heap.objs.size + 1) (defScope st).names []).lookup y.1).isSome = true) := by
    rintro ⟨n, v⟩ hy
    rcases S.par n (List.of_mem_zip hy).1 with z | z
    · exact .inl z
    · exact .inr ⟨z, PySem.W.cellsFrom_some _ _ _ (.inl z)⟩
  refine codeAny_call_function hr.depth (kin _ _ lk) rfl S.co S.gen rfl (PySem.W.codeRec_of kin hcd) (hb _ _ _ _ ?_)
  refine wpAny_newFunctionEnv_cells S.kind kinds fun env he s1 inc => ?_
  subst he
  refine ⟨lim.keeps inc.toInCall.keep, codeAny_func ?_⟩
  obtain ⟨t, ht, hq⟩ := hbody cdv A outer s H vs Q E hg (hr.deeper _) hsp
  have I : Inv (cxOf CX P w K mg base N qual (defScope st) f cdv A outer s H E) [] (start N vs) H s1 := inv_start S hr.hd e0 hl r inc
  refine wpAny_mono (ht.run [] s1 (start N vs) H _ I hq) (fun fl s' hs => ?_) fun e s' hs => hs
  cases fl with
  | ret u =>
    obtain ⟨v, σ', H', J, rv, q⟩ := hs
    exact ⟨v, H', J.os, J.bare, J.base, J.hok, rv, q⟩
  | next =>
    obtain ⟨σ', H', J, q⟩ := hs
    exact ⟨.non, H', J.os, J.bare, J.base, J.hok, rfl, q⟩
  | brk =>
    obtain ⟨_, _, _, q⟩ := hs
    exact q.elim
  | cont =>
    obtain ⟨_, _, _, q⟩ := hs
    exact q.elim
theorem lawG_of {P : Program} {w : World} {K : PySem.W.Frag} {mg : Str → Option Value} {base : Heap} {k : Nat} {f : Addr} {x qual : Str} {st : Stmt} {fd : FuncData} {N ps : List Str} {sp : Sp} (F : Fun K x qual st f fd) (S : FnScope N ps (defScope st))
    (len : ∀ vs H Q E, sp vs H Q E → vs.length = ps.length)
    (hbody : ∀ (cdv : Value) (A : Around) (outer : List Env) (s : Shared) (H : Hp) (vs : List V) (Q : VK) (E : XK), (cxOf CX0 P w K mg base N qual (defScope st) f cdv A outer s H E).nox.A.guards = some [] → Room k (A.deeper (envOfC qual (defScope st) s.heap.objs.size f cdv)) → sp vs H Q E →
      ∃ t, PSs (cxOf CX0 P w K mg base N qual (defScope st) f cdv A outer s H E).nox (defBody st) t ∧ t { nx := fun _ H' => Q .non H', rt := Q } (start N vs) H) : FnG P w K mg base CX0 (k + 1) f fd ps sp :=
  fnG_of F S len fun cdv A outer s H vs Q E hg hr h => let ⟨t, p, q⟩ := hbody cdv A outer s H vs Q E hg hr h; ⟨t, p.nox, q⟩
end Lb
set_option Elab.async false
set_option linter.all false
set_option maxRecDepth 100000
set_option maxHeartbeats 4000000
namespace Lb
open PySem PySem.Spec PyProof.Rows L2
section
variable {P : Program} {w : World} {K : PySem.W.Frag} {mg mb : Str → Option Value} {CX : CXT} {k : Nat} {fa a : Addr} {fd : FuncData} {x : Str} {sp : Sp} {s1 : Shared} {vs : List Value} {ns : List Int}
/-- what the law's call must come to -/
abbrev LawEnd (s1 : Shared) : Result → Shared → Prop := fun r s' => r = .ok (.ret (.bool true)) ∧ OldK s1.heap s'.heap ∧ s'.os = s1.os ∧ AllBare s'.gens
theorem go_from {H : Hp} (kin : K.In s1.heap) (hns : s1.heap.Ns mainGlobals mg) (hb : s1.heap.Ns builtinsNs mb) (hbb : ∀ x : Str, x ≠ "__name__" → mb x = bootBuiltins x) (hlim : s1.heap.NoLimit) (hg : s1.gens = #[])
    (ha : s1.heap.get? a = some { cls := .type "list", data := .seq vs.toArray }) (hr : Room k callerA)
    (F : ∀ base : Heap, K.In base → base.Ns mainGlobals mg → FnG P w K mg base CX k fa fd [x] sp) (hbind : ∀ (s : Shared) (u : Value), BindsTo s fd ⟨[u], []⟩ [(x, u)])
    (only : Only H) (hok : HOk P w H s1.heap) (hA : ∀ b, H b ≠ none → b = a) (hK : H a ≠ none → K.lookup a = none)
    (hsp : sp [.ref a] H (fun v _ => v = .bl true) fun _ _ _ => False) (hCX : ∀ e s', CX [] H s1 (fun _ _ _ => False) e s' → False) :
    codeAny (model P w) callerA (.call (.ref fa) ⟨[.ref a], []⟩) (LawEnd s1) s1 := by
  have isA : ∀ {b : Addr} {u : HO}, H b = some u → b = a := fun {b u} e => hA b (by rw [e]; exact fun z => nomatch z)
  have dictFree : ∀ {b : Addr} {o : Obj} {es : Array DictEntry} {ep : Nat}, s1.heap.get? b = some o → o.data = .dict es ep → H b = none := by
    intro b o es ep e d
    cases q : H b with
    | none => rfl
    | some u =>
      have eb := isA q
      subst eb
      rw [ha] at e
      cases e
      exact nomatch (show Data.seq vs.toArray _ = Data.dict es ep from d)
  have ns : ∀ {b : Addr} {m : Str → Option Value}, s1.heap.Ns b m → (hidT s1.heap H).Ns b m := by
    rintro b m ⟨o, es, ep, e, d, r⟩
    exact ⟨o, es, ep, hidT_get e (dictFree e d), d, r⟩
  have kb : K.In (hidT s1.heap H) := by
    intro b o e
    refine hidT_get (kin b o e) ?_
    cases q : H b with
    | none => rfl
    | some u =>
      have eb := isA q
      subst eb
      rw [hK (by rw [q]; exact fun z => nomatch z)] at e
      cases e
  obtain ⟨mc, n1, n2⟩ := hlim
  have md : Mod K mg (hidT s1.heap H) := ⟨kb, ns hns, ⟨mb, ns hb, hbb⟩, ⟨mc, ns n1, n2⟩⟩
  have e0 : Env0 P w K mg (hidT s1.heap H) callerA [] s1 H :=
    ⟨rfl, md, fun b o e => of_hidT e, Nat.le_of_eq (hidT_size _ _), trivial, fun b hb => absurd (show b ∈ ([] : List Addr) from hb) (by simp), hok, .of_eq hg⟩
  refine codeAny_mono ((F _ kb (ns hns)).run callerA [] s1 H ⟨[.ref a], []⟩ [.ref a] [.ref a] _ _ rfl hr e0 (hbind s1 (.ref a)) (.cons rfl .nil) hsp) fun r s' h => ?_
  cases r with
  | error e => exact (hCX e s' h).elim
  | ok fl =>
    cases fl with
    | next => exact h.elim
    | brk => exact h.elim
    | cont => exact h.elim
    | ret u =>
      obtain ⟨v, H', os, bare, un, hok', ru, q⟩ := h
      have ev : v = .bl true := q
      subst ev
      obtain rfl : u = Value.bool true := ru
      refine ⟨rfl, OldK.of_keep fun b o e => ?_, os, bare⟩
      rcases only b with z | ⟨ob, xs, z⟩
      · exact un.keep b o e z (fun m => absurd (show b ∈ ([] : List Addr) from m) (by simp)) (by simp)
      · obtain ⟨g1, _⟩ := hok b _ z
        obtain ⟨g2, _⟩ := hok' b _ (un.frzs b ob _ z)
        rw [e] at g1
        cases g1
        exact g2
theorem law_go (kin : K.In s1.heap) (hns : s1.heap.Ns mainGlobals mg) (hb : s1.heap.Ns builtinsNs mb) (hbb : ∀ x : Str, x ≠ "__name__" → mb x = bootBuiltins x) (hlim : s1.heap.NoLimit) (hg : s1.gens = #[])
    (ha : s1.heap.get? a = some { cls := .type "list", data := .seq vs.toArray }) (hi : IntsAre vs ns) (hl : ns.length ≤ sizeLine) (hr : Room k callerA)
    (F : ∀ base : Heap, K.In base → base.Ns mainGlobals mg → FnG P w K mg base CX k fa fd [x] sp) (hbind : ∀ (s : Shared) (u : Value), BindsTo s fd ⟨[u], []⟩ [(x, u)])
    (hsp : ∀ H : Hp, Only H → SqL K H a (ns.map V.int) → sp [.ref a] H (fun v _ => v = .bl true) fun _ _ _ => False)
    (hCX : ∀ H e s', CX [] H s1 (fun _ _ _ => False) e s' → False) : codeAny (model P w) callerA (.call (.ref fa) ⟨[.ref a], []⟩) (LawEnd s1) s1 := by
  have rv := vals_ints hi
  cases hk : K.lookup a with
  | some o =>
    have e := kin a o hk
    rw [ha] at e
    cases e
    have only0 : Only (fun _ => none) := fun _ => .inl rfl
    refine go_from (H := fun _ => none) kin hns hb hbb hlim hg ha hr F hbind only0 (fun b u z => nomatch (show (none : Option HO) = some u from z)) (fun b z => absurd rfl z) (fun z => absurd rfl z) (hsp _ only0 (.inr ⟨_, vs.toArray, _, hk, rfl, rfl, rfl, ?_, by simpa using rv⟩)) fun e s' => hCX _ e s'
    rw [List.size_toArray, hi.length]
    exact hl
  | none =>
    let H1 : Hp := fun b => if b = a then some (.frz { cls := .type "list", data := .seq vs.toArray } (.lst (ns.map V.int))) else none
    have at_a : H1 a = some (.frz { cls := .type "list", data := .seq vs.toArray } (.lst (ns.map V.int))) := if_pos rfl
    have off : ∀ {b : Addr}, b ≠ a → H1 b = none := fun h => if_neg h
    have only1 : Only H1 := fun b => by
      by_cases hb : b = a
      · rw [hb]
        exact .inr ⟨_, _, at_a⟩
      · exact .inl (off hb)
    refine go_from (H := H1) kin hns hb hbb hlim hg ha hr F hbind only1 (fun b u z => ?_) (fun b z => ?_) (fun _ => hk) (hsp _ only1 (.inl (.inr ⟨_, at_a⟩))) fun e s' => hCX _ e s'
    · by_cases hb : b = a
      · subst hb
        rw [at_a] at z
        cases z
        exact ⟨ha, by rw [List.length_map]; exact hl, vs, _, rv, ha⟩
      · rw [off hb] at z
        cases z
    · exact Classical.byContradiction fun hb => z (off hb)
end
theorem walk_g {l : PySem.W.OpenLaw} {n k : Nat} {q : Program} {loose : List Str} {XP : (Str → Option Value) → Heap → Prop} {YP : World → Heap → Prop} {d : DefRec} {K : Params → PySem.W.Frag} {CX : World → CXT} {sp : World → Sp} {x : Str}
    (hn : l.most = some n) (hn2 : n ≤ sizeLine) (hdf : d.params.defaults = []) (hr : Room k callerA) (hY : ∀ (w : World) (h : Heap), YP w h → (K w.params).In h)
    (F : ∀ (w : World) (mg : Str → Option Value) (fa : Addr) (h : Heap), (K w.params).In h → h.Ns mainGlobals mg → mg d.name = some (.ref fa) →
      ∃ fd : FuncData, (∀ (s : Shared) (u : Value), BindsTo s fd ⟨[u], []⟩ [(x, u)]) ∧ ∀ base : Heap, (K w.params).In base → base.Ns mainGlobals mg → FnG l.prog w (K w.params) mg base (CX w) k fa fd [x] (sp w))
    (hsp : ∀ (w : World) (H : Hp) (a : Addr) (ns : List Int), ns.length ≤ n → Only H → SqL (K w.params) H a (ns.map V.int) → sp w [.ref a] H (fun v _ => v = .bl true) fun _ _ _ => False)
    (hCX : ∀ (w : World) (H : Hp) (s : Shared) (e : Value) (s' : Shared), CX w [] H s (fun _ _ _ => False) e s' → False) :
    PySem.W.WalkO q loose XP YP l.row.toRowW d [] (fun f vs => PySem.call f vs) := by
  refine Att.attach_call hn hdf fun w s0 s1 mg mb fa o pm cd doc a vs ns G Y ho hd hcd hmg hobj hints hlen hg => ?_
  have kin := hY w _ Y
  obtain ⟨fd, hb, hF⟩ := F w mg fa _ kin G.T.g hmg
  exact law_go kin G.T.g G.T.b G.T.builtins G.T.nolimit hg hobj hints (Nat.le_trans hlen hn2) hr hF hb (fun H hO hS => hsp w H a ns hlen hO hS) fun H e s' => hCX w H s1 e s'
end Lb
set_option Elab.async false
set_option linter.all false
set_option maxRecDepth 100000
set_option maxHeartbeats 4000000
namespace Lb
open PySem PySem.Spec PyProof.Rows L2 RZ
/-! ### defs by their names -/
structure Df (K : PySem.W.Frag) (mg : Str → Option Value) (x : Str) (st : Stmt) : Prop where
  ex : ∃ (f : Addr) (fd : FuncData), Fun K x x st f fd ∧ mg x = some (.ref f)
structure Own (P : Program) (w : World) (K : PySem.W.Frag) (mg : Str → Option Value) (base : Heap) (x : Str) (k : Nat) (ps : List Str) (sp : Sp) : Prop where
  ex : ∃ (f : Addr) (fd : FuncData), FnOk P w K mg base CX0 k f fd ps sp ∧ mg x = some (.ref f) ∧ PySem.W.keepIn K (.ref f) = true ∧ Binds K fd ps []
section
variable {P : Program} {w : World} {K : PySem.W.Frag} {mg : Str → Option Value} {base : Heap}
theorem own_of {x : Str} {st : Stmt} {N ps : List Str} {k : Nat} {sp : Sp} (D : Df K mg x st) (S : FnScope N ps (defScope st))
    (hb : ∀ (kV doc pm : Value) (an : Option Addr) (cdv ct : Value) (us : List Value), us.length = ps.length → bindArgs (PySem.W.fnOf x x (defArgs st) (defBody st) (defScope st) .none kV doc pm an cdv ct) ⟨us, []⟩ = pure (ps.zip us))
    (len : ∀ vs H Q E, sp vs H Q E → vs.length = ps.length)
    (hbody : ∀ (f : Addr) (cdv : Value) (A : Around) (outer : List Env) (s : Shared) (H : Hp) (vs : List V) (Q : VK) (E : XK), Room k (A.deeper (envOfC x (defScope st) s.heap.objs.size f cdv)) → sp vs H Q E →
      ∃ t, PSs (cxOf CX0 P w K mg base N x (defScope st) f cdv A outer s H E).nox (defBody st) t ∧ t { nx := fun _ H' => Q .non H', rt := Q } (start N vs) H) : Own P w K mg base x (k + 1) ps sp := by
  obtain ⟨f, fd, F, m⟩ := D.ex
  exact ⟨f, fd, F.ok S len (hbody f), m, F.kp, F.binds hb⟩
theorem df_mk {h : Heap} {x : Str} {st : Stmt} {f : Addr} {oc : Value} {od an : Option Addr} {osl : Array (Option Value)} {kV doc pm cdv ct : Value} (X : K.In h) (G : h.Ns mainGlobals mg) (a : PySem.W.nsIn K mainGlobals x = some (some (.ref f)))
    (l : K.lookup f = some ⟨oc, od, .func (PySem.W.fnOf x x (defArgs st) (defBody st) (defScope st) .none kV doc pm an cdv ct), osl⟩) (c : PySem.W.codeIn K cdv x = true) (k : PySem.W.keepIn K (.ref f) = true) : Df K mg x st :=
  ⟨f, _, fun_mk l c k, PySem.W.mg_of X G a⟩
end
section
variable {X : Cx} {k : Nat} {ps : List Str} {sp : Sp} {x : Str} {p pos : Pos} {e : Expr} {es : List Expr} {t : TA}
theorem pe_own (O : Own X.prog X.w X.K X.mg X.base x k ps sp) (hr : Room k X.A) (hg : Gl X x) (ha : PA X (e :: es) t) (hdb : (x == ("__debug__" : Str)) = false := by decide)
    (he : starEach (e :: es) X.env = (false, eval e X.env) :: starEach es X.env := by rfl) (hpl : (backTo pos (starEach es X.env)).any (·.1) = false := by rfl) : PE X (.Call (.Name x p) (e :: es) [] pos) (tCall sp [] E0 t) := by
  obtain ⟨f, fd, F, m, kp, b⟩ := O.ex
  exact pe_call F hr hg m kp b .nil pass0 ha hdb he hpl
end
/-- the built-ins' names are no names of the module -/
structure Blt (mg : Str → Option Value) : Prop where
  b_len : mg "len" = none
  b_range : mg "range" = none
  b_int : mg "int" = none
  b_bool : mg "bool" = none
  b_tuple : mg "tuple" = none
  b_list : mg "list" = none
  b_str : mg "str" = none
  b_dict : mg "dict" = none
  b_all : mg "all" = none
  b_any : mg "any" = none
  b_max : mg "max" = none
  b_min : mg "min" = none
  b_sum : mg "sum" = none
  b_zip : mg "zip" = none
  b_enumerate : mg "enumerate" = none
  b_isinstance : mg "isinstance" = none
  b_repr : mg "repr" = none
  b_sorted : mg "sorted" = none
/-! ### the deck -/
/-- the deck at d: its cells at c, at most n draws, what is left at r -/
def Dk (H : Hp) (d c r : Addr) (n : Nat) : Prop :=
  ∃ (t : Nat) (cs rs : List Int), t ≤ n ∧ 0 < cs.length ∧ cs.length ≤ 64 ∧ rs.length = cs.length ∧ d ≠ c ∧ d ≠ r ∧ c ≠ r ∧
    H d = some (.lst [.ref c, .int (t : Int), .ref r]) ∧ H c = some (.lst (cs.map V.int)) ∧ H r = some (.lst (rs.map V.int))
/-- all but the deck's two changing lists is kept -/
def Kp (d r : Addr) (H H' : Hp) : Prop := ∀ b o, b ≠ d → b ≠ r → H b = some o → H' b = some o
theorem Kp.refl (d r : Addr) (H : Hp) : Kp d r H H := fun _ _ _ _ e => e
theorem Kp.of {d r : Addr} {H H' : Hp} (s : Same H H') : Kp d r H H' := fun b o _ _ e => s b o e
theorem Kp.trans {d r : Addr} {H H1 H2 : Hp} (a : Kp d r H H1) (b : Kp d r H1 H2) : Kp d r H H2 := fun c o n1 n2 e => b c o n1 n2 (a c o n1 n2 e)
theorem Dk.mono {H : Hp} {d c r : Addr} {n m : Nat} (h : Dk H d c r n) (l : n ≤ m) : Dk H d c r m := by
  obtain ⟨t, cs, rs, h1, hh⟩ := h
  exact ⟨t, cs, rs, Nat.le_trans h1 l, hh⟩
theorem Dk.same {H H' : Hp} {d c r : Addr} {n : Nat} (h : Dk H d c r n) (s : Same H H') : Dk H' d c r n := by
  obtain ⟨t, cs, rs, h1, h2, h3, h4, h5, h6, h7, e1, e2, e3⟩ := h
  exact ⟨t, cs, rs, h1, h2, h3, h4, h5, h6, h7, s _ _ e1, s _ _ e2, s _ _ e3⟩
theorem Dk.nd {H : Hp} {d c r : Addr} {n : Nat} (h : Dk H d c r n) {p : Addr} (e : H p = none) : p ≠ d ∧ p ≠ r ∧ p ≠ c := by
  obtain ⟨t, cs, rs, _, _, _, _, _, _, _, e1, e2, e3⟩ := h
  exact ⟨(ne_of_none e1 e).symm, (ne_of_none e3 e).symm, (ne_of_none e2 e).symm⟩
/-- a local list's own place survives a draw -/
theorem Kp.at {H H' H0 : Hp} {d c r : Addr} {n : Nat} (k : Kp d r H H') (dk : Dk H0 d c r n) {p : Addr} {o : HO} (e0 : H0 p = none) (e : H p = some o) : H' p = some o :=
  let ⟨a, b, _⟩ := dk.nd e0
  k p o a b e
/-- the region of plain data: away from the deck, with all that is new -/
structure Rg (R : Rgn) (H : Hp) (d r : Addr) : Prop where
  nd : ¬ R d
  nr : ¬ R r
  new : ∀ p, H p = none → R p
theorem Rg.on {R : Rgn} {H H' H0 : Hp} {d r : Addr} (g : Rg R H0 d r) (k : Kp d r H H') : On R H H' := fun b o rb e => k b o (fun z => g.nd (z ▸ rb)) (fun z => g.nr (z ▸ rb)) e
theorem Rg.kp {R : Rgn} {H H' : Hp} {d c r : Addr} {n : Nat} (g : Rg R H d r) (k : Kp d r H H') (dk : Dk H' d c r n) : Rg R H' d r := by
  refine ⟨g.nd, g.nr, fun p e => g.new p ?_⟩
  obtain ⟨n1, n2, _⟩ := dk.nd e
  cases q : H p with
  | none => rfl
  | some o =>
    rw [k p o n1 n2 q] at e
    cases e
theorem Rg.same {R : Rgn} {H H' : Hp} {d r : Addr} (g : Rg R H d r) (s : Same H H') : Rg R H' d r := ⟨g.nd, g.nr, fun p e => g.new p (s.free e)⟩
theorem nat_at {ns : List Int} {j : Nat} (h : j < ns.length) : atI (ns.map V.int) ((j : Nat) : Int) = some (.int (ns.getD j 0)) := by
  refine atI_nat ?_
  rw [List.getElem?_map, List.getElem?_eq_getElem h, List.getD_eq_getElem?_getD, List.getElem?_eq_getElem h]
  rfl
theorem emod_nat (a : Int) {m : Nat} (h : 0 < m) : ∃ v : Nat, v < m ∧ a % (m : Int) = (v : Int) := by
  have h1 : 0 ≤ a % (m : Int) := Int.emod_nonneg a (by omega)
  have h2 : a % (m : Int) < (m : Int) := Int.emod_lt_of_pos a (by omega)
  exact ⟨(a % (m : Int)).toNat, by omega, by omega⟩
theorem ixN_nat {n j : Nat} (h : j < n) : ixN n ((j : Nat) : Int) = some j := by
  unfold ixN
  rw [if_pos (by omega), if_pos (by omega)]
  rfl
theorem all_in {σ : L2.St} {H : Hp} {A B : Hp → Prop} (h : A H) : tYes σ H (fun b H3 => if b = true then A H3 else B H3) := by
  show if true = true then A H else B H
  exact iteT h
theorem int_at {ns : List Int} {i : Nat} {x : V} (h : (ns.map V.int)[i]? = some x) : ∃ u, x = V.int u ∧ ns[i]? = some u := by
  rw [List.getElem?_map] at h
  cases e : ns[i]? with
  | none =>
    rw [e] at h
    cases h
  | some u =>
    rw [e] at h
    exact ⟨u, (Option.some.inj h).symm, rfl⟩
/-! ### comprehensions and loops over zip and enumerate of tuples -/
/-- what the reading of a comprehension asks behind its source -/
abbrev LcW (J : It) (g : TG) (tt : TT) (te : TE) (vs : List Nat) (σ : L2.St) (H1 : Hp) (D : Addr) (Qd : Hp → Prop) : Prop :=
  ∃ W : Nat → Nat → Hp → Prop, (∃ m, W 0 m (upd H1 D (.lst []))) ∧ ∀ i m H, W i m H →
    (J.stop i H ∧ Qd H) ∨ (J.go i H ∧ ∃ Nx : Hp → Prop, (∀ H', Nx H' → ∃ m', m' < m ∧ W (i + 1) m' H') ∧ ∀ x H', J.yld i H x H' → g x (wipe σ vs) H' fun σ2 H2 => wipe σ2 vs = wipe σ vs ∧ tt σ2 H2 fun b H3 =>
      if b = true then te σ2 H3 fun y H4 => ∃ acc, H4 D = some (.lst acc) ∧ acc.length < sizeLine ∧ Nx (upd H4 D (.lst (acc ++ [y]))) else Nx H3)
theorem lc_zipT {K : PySem.W.Frag} {a b : Addr} {xs ys : List V} {g : TG} {tt : TT} {te : TE} {vs : List Nat} {σ : L2.St} {H1 : Hp} {D : Addr} {Qd : Hp → Prop} (hl : xs.length = ys.length) (Pv : Nat → Hp → Prop) (h0 : Pv 0 (upd H1 D (.lst [])))
    (hq : ∀ i H, Pv i H → SqT K H a xs ∧ SqT K H b ys)
    (hs : ∀ (i : Nat) (x y : V) (T : Addr) (H : Hp), xs[i]? = some x → ys[i]? = some y → Pv i H → H T = none → g (.ref T) (wipe σ vs) (upd H T (.tup [x, y])) fun σ2 H2 => wipe σ2 vs = wipe σ vs ∧ tt σ2 H2 fun b H3 =>
      if b = true then te σ2 H3 fun y H4 => ∃ acc, H4 D = some (.lst acc) ∧ acc.length < sizeLine ∧ Pv (i + 1) (upd H4 D (.lst (acc ++ [y]))) else Pv (i + 1) H3) (hd : ∀ H, Pv xs.length H → Qd H) : LcW (ItzT K a b) g tt te vs σ H1 D Qd := by
  refine ⟨fun i m H => m = xs.length - i ∧ i ≤ xs.length ∧ Pv i H, ⟨xs.length, rfl, Nat.zero_le _, h0⟩, ?_⟩
  rintro i m H ⟨rfl, hi, p⟩
  obtain ⟨qx, qy⟩ := hq i H p
  by_cases hlt : i < xs.length
  · refine .inr ⟨⟨xs, ys, _, _, qx, qy, List.getElem?_eq_getElem hlt, List.getElem?_eq_getElem (by omega)⟩, Pv (i + 1), fun H' p' => ⟨xs.length - (i + 1), by omega, rfl, hlt, p'⟩, ?_⟩
    rintro v H' ⟨T, x', y', rfl, hT, rfl, f1, f2⟩
    exact hs i x' y' T H (f1 xs qx) (f2 ys qy) p hT
  · obtain rfl : i = xs.length := by omega
    exact .inl ⟨⟨xs, ys, qx, qy, .inl (Nat.le_refl _)⟩, hd H p⟩
theorem for_enumT {K : PySem.W.Frag} {a : Addr} {xs : List V} {g : TG} {tb : TS} {D : Ends} {σ : L2.St} {H : Hp} (Pv : Nat → L2.St → Hp → Prop) (h0 : Pv 0 σ H) (hq : ∀ i σ H, Pv i σ H → SqT K H a xs)
    (hs : ∀ (i : Nat) (x : V) (T : Addr) (σ : L2.St) (H : Hp), xs[i]? = some x → Pv i σ H → H T = none → g (.ref T) σ (upd H T (.tup [.int (i : Nat), x])) fun σ2 H2 => tb { D with nx := Pv (i + 1), ct := Pv (i + 1), bk := D.nx } σ2 H2) (hd : ∀ σ H, Pv xs.length σ H → D.nx σ H) :
    ∃ W : Nat → Nat → L2.St → Hp → Prop, (∃ m, W 0 m σ H) ∧ ∀ i m σ H, W i m σ H →
      ((IteT K a).stop i H ∧ D.nx σ H) ∨ ((IteT K a).go i H ∧ ∃ N : L2.St → Hp → Prop, (∀ σ' H', N σ' H' → ∃ m', m' < m ∧ W (i + 1) m' σ' H') ∧ ∀ v H', (IteT K a).yld i H v H' → g v σ H' fun σ2 H2 => tb { D with nx := N, ct := N, bk := D.nx } σ2 H2) := by
  refine ⟨fun i m σ H => m = xs.length - i ∧ i ≤ xs.length ∧ Pv i σ H, ⟨xs.length, rfl, Nat.zero_le _, h0⟩, ?_⟩
  rintro i m σ H ⟨rfl, hi, p⟩
  have qx := hq i σ H p
  by_cases hlt : i < xs.length
  · refine .inr ⟨⟨xs, _, qx, List.getElem?_eq_getElem hlt⟩, Pv (i + 1), fun σ' H' p' => ⟨xs.length - (i + 1), by omega, rfl, hlt, p'⟩, ?_⟩
    rintro v H' ⟨T, x', rfl, hT, rfl, f1⟩
    exact hs i x' T σ H (f1 xs qx) p hT
  · obtain rfl : i = xs.length := by omega
    exact .inl ⟨⟨xs, qx, Nat.le_refl _⟩, hd σ H p⟩
/-! ### bags, trades, markets -/
/-- a side of a trade: so many goods, amounts up to three, a total up to m -/
structure Side (g m : Nat) (b : List Int) : Prop where
  len : b.length = g
  amt : ∀ x ∈ b, 0 ≤ x ∧ x ≤ 3
  tot : b.sum ≤ (m : Int)
theorem Side.mono {g m k : Nat} {b : List Int} (h : Side g m b) (l : m ≤ k) : Side g k b := ⟨h.len, h.amt, by have := h.tot; omega⟩
abbrev bagD (b : List Int) : PyData := .tuple (b.map PyData.int)
abbrev Trd := List Int × List Int
abbrev trdD (t : Trd) : PyData := .tuple [bagD t.1, bagD t.2]
abbrev mktD (g : Nat) (ts : List Trd) : PyData := .tuple [.int (g : Int), .tuple (ts.map trdD)]
def TrdOk (g m : Nat) (t : Trd) : Prop := Side g m t.1 ∧ Side g m t.2
structure MktOk (g : Nat) (ts : List Trd) : Prop where
  one : 1 ≤ g
  four : g ≤ 4
  many : ts.length ≤ 4
  all : ∀ t ∈ ts, TrdOk g 4 t
theorem sum_nonneg : ∀ {b : List Int}, (∀ x ∈ b, 0 ≤ x) → 0 ≤ b.sum
  | [], _ => by decide
  | x :: b, h => by
    rw [List.sum_cons]
    have h1 := h x List.mem_cons_self
    have h2 := sum_nonneg (b := b) fun y hy => h y (List.mem_cons_of_mem _ hy)
    omega
theorem le_sum : ∀ {b : List Int}, (∀ x ∈ b, 0 ≤ x) → ∀ x ∈ b, x ≤ b.sum
  | y :: b, h, x, hx => by
    rw [List.sum_cons]
    have h1 := h y List.mem_cons_self
    have hb : ∀ z ∈ b, 0 ≤ z := fun z hz => h z (List.mem_cons_of_mem _ hz)
    have h2 := sum_nonneg hb
    rcases List.mem_cons.mp hx with rfl | hx
    · omega
    · have h3 := le_sum hb x hx
      omega
theorem sum_zip : ∀ {a b : List Int}, a.length = b.length → (List.zipWith (· + ·) a b).sum = a.sum + b.sum
  | [], [], _ => rfl
  | x :: a, y :: b, h => by
    rw [List.zipWith_cons_cons, List.sum_cons, List.sum_cons, List.sum_cons, sum_zip (a := a) (b := b) (by simpa using h)]
    omega
theorem mem_zip {f : Int → Int → Int} : ∀ {a b : List Int} {z : Int}, z ∈ List.zipWith f a b → ∃ x ∈ a, ∃ y ∈ b, z = f x y
  | x :: a, y :: b, z, h => by
    rw [List.zipWith_cons_cons] at h
    rcases List.mem_cons.mp h with rfl | h
    · exact ⟨x, List.mem_cons_self, y, List.mem_cons_self, rfl⟩
    · obtain ⟨x', hx, y', hy, e⟩ := mem_zip h
      exact ⟨x', List.mem_cons_of_mem _ hx, y', List.mem_cons_of_mem _ hy, e⟩
theorem zip_take {f : Int → Int → Int} : ∀ {a b : List Int} {i : Nat} {x y : Int}, a[i]? = some x → b[i]? = some y → (List.zipWith f a b).take (i + 1) = (List.zipWith f a b).take i ++ [f x y]
  | x' :: a, y' :: b, 0, x, y, h1, h2 => by
    have e1 : x' = x := Option.some.inj h1
    have e2 : y' = y := Option.some.inj h2
    rw [e1, e2]
    rfl
  | x' :: a, y' :: b, i + 1, x, y, h1, h2 => by
    rw [List.zipWith_cons_cons, List.take_succ_cons, List.take_succ_cons, zip_take (i := i) (x := x) (y := y) h1 h2]
    rfl
theorem Dat.bag {R : Rgn} {H : Hp} {v : V} {b : List Int} (h : Dat R H v (bagD b)) : ∃ a, v = .ref a ∧ R a ∧ H a = some (.tup (b.map V.int)) := by
  cases h with
  | tup ra e t =>
    rw [Dats.of_ints t] at e
    exact ⟨_, rfl, ra, e⟩
theorem Dat.mkBag {R : Rgn} {H : Hp} {a : Addr} {b : List Int} (ra : R a) (e : H a = some (.tup (b.map V.int))) : Dat R H (.ref a) (bagD b) := .tup ra e (Dats.ints b)
theorem rep0 : ∀ g : Nat, (List.replicate g [V.int 0]).flatten = (List.replicate g (0 : Int)).map V.int
  | 0 => rfl
  | k + 1 => by
    rw [List.replicate_succ, List.flatten_cons, rep0 k, List.replicate_succ]
    rfl
theorem sum_rep0 : ∀ k : Nat, (List.replicate k (0 : Int)).sum = 0
  | 0 => rfl
  | k + 1 => by
    rw [List.replicate_succ, List.sum_cons, sum_rep0 k]
    rfl
def rLenQ (K : PySem.W.Frag) : List V → Hp → VK → Prop := fun xs H Q => ∃ p ys, xs = [.ref p] ∧ (SqL K H p ys ∨ SqT K H p ys) ∧ Q (.int ys.length) H
def rTupQ (K : PySem.W.Frag) : List V → Hp → VK → Prop := fun xs H Q => ∃ p ys, xs = [.ref p] ∧ ((SqL K H p ys ∧ ∀ l, H l = none → Q (.ref l) (upd H l (.tup ys))) ∨ (SqT K H p ys ∧ Q (.ref p) H))
def rListQ (K : PySem.W.Frag) : List V → Hp → VK → Prop := fun xs H Q => ∃ p ys, xs = [.ref p] ∧ (SqL K H p ys ∨ SqT K H p ys) ∧ ∀ l, H l = none → Q (.ref l) (upd H l (.lst ys))
end Lb
set_option Elab.async false
set_option linter.all false
set_option maxRecDepth 100000
set_option maxHeartbeats 4000000
namespace Lb
open PySem PySem.Spec PyProof.Rows L2 RZ
/-! ### how long data is when shown -/
mutual
def wt : PyData → Nat
  | .none => 4
  | .bool _ => 5
  | .int i => (PyData.int i).shown.length
  | .str x => (reprText x).length
  | .list xs => 4 + wts xs
  | .tuple xs => 4 + wts xs
  | .dict _ => 2
def wts : List PyData → Nat
  | [] => 0
  | x :: xs => wt x + 2 + wts xs
end
mutual
def fine : PyData → Bool
  | .none => true
  | .bool _ => true
  | .int i => decide (i.natAbs.log2 < 1920)
  | .str _ => true
  | .list xs => fines xs
  | .tuple xs => fines xs
  | .dict kvs => kvs.isEmpty
def fines : List PyData → Bool
  | [] => true
  | x :: xs => fine x && fines xs
end
mutual
theorem fine_show : ∀ d : PyData, fine d = true → d.showable = true
  | .none, _ => by rw [PyData.showable]
  | .bool _, _ => by rw [PyData.showable]
  | .int i, h => by
    rw [PyData.showable]
    exact h
  | .str _, _ => by rw [PyData.showable]
  | .list xs, h => by
    rw [PyData.showable]
    exact fines_show xs h
  | .tuple xs, h => by
    rw [PyData.showable]
    exact fines_show xs h
  | .dict [], _ => by rw [PyData.showable, PyData.showableKv]
  | .dict (_ :: _), h => by
    simp [fine] at h
theorem fines_show : ∀ ds : List PyData, fines ds = true → PyData.showableAll ds = true
  | [], _ => by rw [PyData.showableAll]
  | d :: ds, h => by
    rw [fines, Bool.and_eq_true] at h
    rw [PyData.showableAll, fine_show d h.1, fines_show ds h.2]
    rfl
end
theorem tupleText_len (ts : List Str) : (tupleText ts).length ≤ piled ts + 4 := by
  unfold tupleText
  rw [strLen_append, strLen_append]
  have e1 : (("(" : String) : Str).length = 1 := rfl
  have e3 : ((if ts.length == 1 then ",)" else ")" : String) : Str).length ≤ 2 := by split <;> decide
  by_cases h : ts = []
  · subst h
    decide
  · have := join_length_add ts h
    rw [e1]
    omega
theorem textFrom_le : ∀ (ts : List Str) (k : Nat) (acc : Str), (textFrom k acc ts).length ≤ acc.length + piled ts
  | [], k, acc => by
    show acc.length ≤ _
    omega
  | t :: r, k, acc => by
    have ih := textFrom_le r (k + 1) (acc ++ (if k > 0 then ", " else "" : String) ++ t)
    have e : (acc ++ (if k > 0 then ", " else "" : String) ++ t).length ≤ acc.length + 2 + t.length := by
      rw [strLen_append, strLen_append]
      have : ((if k > 0 then ", " else "" : String) : Str).length ≤ 2 := by split <;> decide
      omega
    rw [piled_cons]
    show (textFrom (k + 1) (acc ++ (if k > 0 then ", " else "" : String) ++ t) r).length ≤ _
    omega
theorem listText_len (ts : List Str) : (listText ts).length ≤ piled ts + 4 := by
  unfold listText
  rw [strLen_append]
  have := textFrom_le ts 0 "["
  have e1 : (("[" : String) : Str).length = 1 := rfl
  have e2 : (("]" : String) : Str).length = 1 := rfl
  rw [e1] at this
  rw [e2]
  omega
mutual
theorem shown_le : ∀ d : PyData, fine d = true → d.shown.length ≤ wt d
  | .none, _ => by
    rw [PyData.shown]
    decide
  | .bool b, _ => by
    rw [PyData.shown]
    cases b <;> decide
  | .int i, _ => Nat.le_refl _
  | .str x, _ => by
    rw [PyData.shown]
    exact Nat.le_refl _
  | .list xs, h => by
    rw [PyData.shown, wt]
    have := listText_len (PyData.shownAll xs)
    have := piled_le xs h
    omega
  | .tuple xs, h => by
    rw [PyData.shown, wt]
    have := tupleText_len (PyData.shownAll xs)
    have := piled_le xs h
    omega
  | .dict [], _ => by
    rw [PyData.shown, PyData.shownKv]
    decide
  | .dict (_ :: _), h => by
    simp [fine] at h
theorem piled_le : ∀ ds : List PyData, fines ds = true → piled (PyData.shownAll ds) ≤ wts ds
  | [], _ => by
    rw [PyData.shownAll]
    exact Nat.le_refl _
  | d :: ds, h => by
    rw [fines, Bool.and_eq_true] at h
    rw [PyData.shownAll, piled_cons, wts]
    have := shown_le d h.1
    have := piled_le ds h.2
    omega
end
theorem fines_iff : ∀ ds : List PyData, fines ds = true ↔ ∀ d ∈ ds, fine d = true
  | [] => ⟨fun _ _ z => (List.not_mem_nil z).elim, fun _ => rfl⟩
  | d :: ds => by
    rw [fines, Bool.and_eq_true, fines_iff ds]
    exact ⟨fun h x hx => (List.mem_cons.mp hx).elim (fun e => e ▸ h.1) (h.2 x), fun h => ⟨h d List.mem_cons_self, fun x hx => h x (List.mem_cons_of_mem _ hx)⟩⟩
theorem depths_iff {k : Nat} : ∀ ds : List PyData, PyData.depthAll ds ≤ k ↔ ∀ d ∈ ds, d.depth ≤ k
  | [] => ⟨fun _ _ z => (List.not_mem_nil z).elim, fun _ => by rw [PyData.depthAll]; exact Nat.zero_le _⟩
  | d :: ds => by
    rw [PyData.depthAll, Nat.max_le, depths_iff ds]
    exact ⟨fun h x hx => (List.mem_cons.mp hx).elim (fun e => e ▸ h.1) (h.2 x), fun h => ⟨h d List.mem_cons_self, fun x hx => h x (List.mem_cons_of_mem _ hx)⟩⟩
theorem wts_append : ∀ a b : List PyData, wts (a ++ b) = wts a + wts b
  | [], b => by simp [wts]
  | x :: a, b => by
    rw [List.cons_append, wts, wts, wts_append a b]
    omega
theorem wts_mem : ∀ {ds : List PyData} {d : PyData}, d ∈ ds → wt d + 2 ≤ wts ds
  | x :: ds, d, h => by
    rw [wts]
    rcases List.mem_cons.mp h with rfl | h
    · omega
    · have := wts_mem h
      omega
theorem wts_take (ds : List PyData) (n : Nat) : wts (ds.take n) + wts (ds.drop n) = wts ds := by
  rw [← wts_append, List.take_append_drop]
theorem wts_len : ∀ ds : List PyData, 2 * ds.length ≤ wts ds
  | [] => Nat.le_refl _
  | d :: ds => by
    rw [wts, List.length_cons]
    have := wts_len ds
    omega
theorem wts_rev : ∀ ds : List PyData, wts ds.reverse = wts ds
  | [] => rfl
  | d :: ds => by
    rw [List.reverse_cons, wts_append, wts_rev ds, wts, wts, wts]
    omega
/-- data of a weight up to S and a depth up to k -/
structure Ok (S k : Nat) (d : PyData) : Prop where
  fi : fine d = true
  wt : wt d ≤ S
  dp : d.depth ≤ k
structure Oks (S k : Nat) (ds : List PyData) : Prop where
  fi : ∀ d ∈ ds, fine d = true
  wt : wts ds ≤ S
  dp : ∀ d ∈ ds, d.depth ≤ k
theorem Ok.mono {S k S' k' : Nat} {d : PyData} (h : Ok S k d) (a : S ≤ S') (b : k ≤ k') : Ok S' k' d := ⟨h.fi, Nat.le_trans h.wt a, Nat.le_trans h.dp b⟩
theorem Oks.mono {S k S' k' : Nat} {d : List PyData} (h : Oks S k d) (a : S ≤ S') (b : k ≤ k') : Oks S' k' d := ⟨h.fi, Nat.le_trans h.wt a, fun x hx => Nat.le_trans (h.dp x hx) b⟩
theorem Oks.tuple {S k : Nat} {ds : List PyData} (h : Oks S k ds) : Ok (S + 4) (k + 1) (.tuple ds) :=
  ⟨(fines_iff ds).mpr h.fi, by show 4 + wts ds ≤ S + 4; have := h.wt; omega, by rw [PyData.depth]; exact Nat.succ_le_succ ((depths_iff ds).mpr h.dp)⟩
theorem Oks.list {S k : Nat} {ds : List PyData} (h : Oks S k ds) : Ok (S + 4) (k + 1) (.list ds) :=
  ⟨(fines_iff ds).mpr h.fi, by show 4 + wts ds ≤ S + 4; have := h.wt; omega, by rw [PyData.depth]; exact Nat.succ_le_succ ((depths_iff ds).mpr h.dp)⟩
theorem Ok.items {S k : Nat} {ds : List PyData} (h : Ok S k (.tuple ds)) : Oks (S - 4) (k - 1) ds := by
  obtain ⟨h1, h2, h3⟩ := h
  rw [PyData.depth] at h3
  rw [Lb.wt] at h2
  exact ⟨(fines_iff ds).mp h1, by omega, (depths_iff ds).mp (by omega)⟩
theorem Oks.append {S T k : Nat} {a b : List PyData} (h : Oks S k a) (g : Oks T k b) : Oks (S + T) k (a ++ b) :=
  ⟨fun d hd => (List.mem_append.mp hd).elim (h.fi d) (g.fi d), by rw [wts_append]; have := h.wt; have := g.wt; omega, fun d hd => (List.mem_append.mp hd).elim (h.dp d) (g.dp d)⟩
theorem Oks.take {S k : Nat} {a : List PyData} (h : Oks S k a) (n : Nat) : Oks S k (a.take n) :=
  ⟨fun d hd => h.fi d (List.mem_of_mem_take hd), by have := wts_take a n; have := h.wt; omega, fun d hd => h.dp d (List.mem_of_mem_take hd)⟩
theorem Oks.drop {S k : Nat} {a : List PyData} (h : Oks S k a) (n : Nat) : Oks S k (a.drop n) :=
  ⟨fun d hd => h.fi d (List.mem_of_mem_drop hd), by have := wts_take a n; have := h.wt; omega, fun d hd => h.dp d (List.mem_of_mem_drop hd)⟩
theorem Oks.reverse {S k : Nat} {a : List PyData} (h : Oks S k a) : Oks S k a.reverse :=
  ⟨fun d hd => h.fi d (List.mem_reverse.mp hd), by rw [wts_rev]; exact h.wt, fun d hd => h.dp d (List.mem_reverse.mp hd)⟩
theorem Oks.one {S k : Nat} {d : PyData} (h : Ok S k d) : Oks (S + 2) k [d] :=
  ⟨fun x hx => by rw [List.mem_singleton.mp hx]; exact h.fi, by rw [wts, wts]; have := h.wt; omega, fun x hx => by rw [List.mem_singleton.mp hx]; exact h.dp⟩
theorem Oks.mem {S k : Nat} {a : List PyData} (h : Oks S k a) {d : PyData} (m : d ∈ a) : Ok S k d := ⟨h.fi d m, by have := wts_mem m; have := h.wt; omega, h.dp d m⟩
theorem Ok.shown {S k : Nat} {d : PyData} (h : Ok S k d) (hS : S ≤ 1000000) : d.shown.length ≤ sizeLine := by
  have h1 := shown_le d h.fi
  have h2 := h.wt
  rw [sizeLine_eq]
  omega
/-! ### xs == [] -/
def rEqE : R2 := fun x y H Q => ∃ (a b : Addr) (xs : List V), x = .ref a ∧ y = .ref b ∧ H a = some (.lst xs) ∧ H b = some (.lst []) ∧ Q (.bl xs.isEmpty) H
theorem op_eqE {X : Cx} (hu : X.A.units < cLine) : OpR X (compareOp .Eq) rEqE := by
  intro pins s σ H x y v u Q I rx ry h
  obtain ⟨a, b, xs, rfl, rfl, ea, eb, q⟩ := h
  cases rx
  cases ry
  obtain ⟨its, r, p, _⟩ := I.list (.inl (.inl ea))
  obtain ⟨its2, r2, p2, _⟩ := I.list (.inl (.inl eb))
  cases r2
  cases r with
  | nil => exact SeqAt.eq_listAt (e := fun _ => true) p.isList p2.isList rfl hu (fun j h1 _ => absurd h1 (Nat.not_lt_zero j)) ⟨.bl true, H, I, rfl, q⟩
  | cons r1 rr => exact SeqAt.eq_list_lengthsAt p.isList p2.isList rfl hu ⟨.bl false, H, I, rfl, q⟩
def rNeE : R2 := fun x y H Q => ∃ (a b : Addr) (ns : List Int), x = .ref a ∧ y = .ref b ∧ H a = some (.lst (ns.map V.int)) ∧ H b = some (.lst []) ∧ Q (.bl (!ns.isEmpty)) H
theorem dp_ints {K : PySem.W.Frag} {H : Hp} : ∀ ns : List Int, DpAll K H (ns.map V.int) (ns.map PyData.int)
  | [] => .nil
  | n :: ns => .cons (.int n) (dp_ints ns)
theorem lay_ints : ∀ ns : List Int, PyData.canLayAll0 (ns.map PyData.int) = true
  | [] => by
    rw [List.map_nil, PyData.canLayAll0]
  | n :: ns => by
    rw [List.map_cons, PyData.canLayAll0, lay_ints ns, PyData.canLay0]
    rfl
theorem shaped_ints (ns : List Int) : SeqAt.shaped (.list (ns.map PyData.int)) = true := by
  unfold SeqAt.shaped
  rw [PyData.canLay0, lay_ints, PyData.depth, depth_ints]
  rfl
theorem op_neE {X : Cx} (hu : X.A.units + 64 < cLine) : OpR X (compareOp .NotEq) rNeE := by
  intro pins s σ H x y v u Q I rx ry h
  obtain ⟨a, b, ns, rfl, rfl, ea, eb, q⟩ := h
  refine op_neD hu pins s σ H _ _ v u Q I rx ry ⟨.list (ns.map PyData.int), .list [], .lst (SqL.of ea) (dp_ints ns), .lst (SqL.of eb) .nil, shaped_ints ns, shaped_ints [], ?_⟩
  cases ns with
  | nil =>
    rw [List.map_nil, PyData.eqv, PyData.eqvAll]
    exact q
  | cons n ns =>
    rw [List.map_cons, PyData.eqv, PyData.eqvAll]
    exact q
theorem drop_at2 {α : Type} {l : List α} {i : Nat} {x : α} (h : l[i]? = some x) : l.drop i = x :: l.drop (i + 1) := by
  obtain ⟨hi, e⟩ := List.getElem?_eq_some_iff.mp h
  rw [List.drop_eq_getElem_cons hi, e]
end Lb
set_option Elab.async false
set_option linter.all false
set_option maxRecDepth 100000
set_option maxHeartbeats 4000000
namespace Lb
open PySem PySem.Spec PyProof.Rows L2 RZ
/-! ### zip of three tuples -/
/-- three tuples, their items in new tuples -/
def ItzU (K : PySem.W.Frag) (a b c : Addr) : It :=
  ⟨fun i H => ∃ (xs ys zs : List V) (x y z : V), SqT K H a xs ∧ SqT K H b ys ∧ SqT K H c zs ∧ xs[i]? = some x ∧ ys[i]? = some y ∧ zs[i]? = some z,
    fun i H v H' => ∃ T x y z, v = .ref T ∧ H T = none ∧ H' = upd H T (.tup [x, y, z]) ∧ (∀ xs, SqT K H a xs → xs[i]? = some x) ∧ (∀ ys, SqT K H b ys → ys[i]? = some y) ∧ ∀ zs, SqT K H c zs → zs[i]? = some z,
    fun i H => ∃ xs ys zs : List V, SqT K H a xs ∧ SqT K H b ys ∧ SqT K H c zs ∧ i ≤ xs.length ∧ i ≤ ys.length ∧ i ≤ zs.length ∧ (i = xs.length ∨ i = ys.length ∨ i = zs.length)⟩
structure Apart3 (q TI TO i1 i2 i3 a b c : Addr) : Prop where
  sep : ZipSep3 q TI TO i1 i2 i3 [i1, a] [i2, b] [i3, c]
  n1 : a ≠ i1
  n2 : b ≠ i2
  n3 : c ≠ i3
theorem apart3 (n a b c : Nat) (ha : a < n) (hb : b < n) (hc : c < n) : Apart3 (n + 5) (n + 3) (n + 4) n (n + 1) (n + 2) a b c := by
  have t : ∀ {x y z : Nat}, x ≠ y → x ≠ z → x ∉ [y, z] := fun {x y z} h1 h2 h => by
    rcases List.mem_cons.mp h with h | h
    · exact h1 h
    · exact h2 (List.mem_singleton.mp h)
  have d : ∀ {x y : Nat}, (x < y ∨ y < x) → x ≠ y := fun {x y} h z => by omega
  exact ⟨{ TIz := d (by omega), TOz := d (by omega), TITO := d (by omega), TIi1 := d (by omega), mem1 := List.mem_cons_self, zf1 := t (d (by omega)) (d (by omega)), Tf1 := t (d (by omega)) (d (by omega)), TIi2 := d (by omega), mem2 := List.mem_cons_self, zf2 := t (d (by omega)) (d (by omega)), Tf2 := t (d (by omega)) (d (by omega)), TIi3 := d (by omega), mem3 := List.mem_cons_self, zf3 := t (d (by omega)) (d (by omega)), Tf3 := t (d (by omega)) (d (by omega)), sep1_2 := t (d (by omega)) (d (by omega)), sep1_3 := t (d (by omega)) (d (by omega)), sep2_1 := t (d (by omega)) (d (by omega)), sep2_3 := t (d (by omega)) (d (by omega)), sep3_1 := t (d (by omega)) (d (by omega)), sep3_2 := t (d (by omega)) (d (by omega)) }, d (by omega), d (by omega), d (by omega)⟩
theorem turn_zipU {P : Program} {w : World} {K : PySem.W.Frag} {elts : List Expr} {kk : Nat} {tpos : Pos} {a b c q TI TO i1 i2 i3 : Addr} (D : Apart3 q TI TO i1 i2 i3 a b c) :
    Turn P w K (.Tuple elts kk tpos) (ItzU K a b c) [q, TI, TO, i1, i2, i3] q (fun i h => IsZip h q TI TO .none ∧ IsTupOf3 h TI (.ref i1) (.ref i2) (.ref i3) ∧ (∃ x y z, IsTupOf3 h TO x y z) ∧ h.IsTupleIter i1 a i ∧ h.IsTupleIter i2 b i ∧ h.IsTupleIter i3 c i) where
  mem := by simp
  obj := fun i h st c hc => by
    obtain ⟨hz, hTI, ⟨x, y, z, hTO⟩, ⟨o1, e1, _, d1⟩, ⟨o2, e2, _, d2⟩, ⟨o3, e3, _, d3⟩⟩ := st
    have e' : c = q ∨ c = TI ∨ c = TO ∨ c = i1 ∨ c = i2 ∨ c = i3 := by simpa using hc
    rcases e' with k | k | k | k | k | k
    · rw [k]; exact ⟨_, hz, fun v u => nomatch u⟩
    · rw [k]; exact ⟨_, hTI, fun v u => nomatch u⟩
    · rw [k]; exact ⟨_, hTO, fun v u => nomatch u⟩
    · rw [k]; exact ⟨o1, e1, fun v u => by rw [d1] at u; cases u⟩
    · rw [k]; exact ⟨o2, e2, fun v u => by rw [d2] at u; cases u⟩
    · rw [k]; exact ⟨o3, e3, fun v u => by rw [d3] at u; cases u⟩
  keep := fun i h h' st k => by
    obtain ⟨hz, hTI, ⟨x, y, z, hTO⟩, h1, h2, h3⟩ := st
    exact ⟨k q (by simp) _ hz, k TI (by simp) _ hTI, ⟨x, y, z, k TO (by simp) _ hTO⟩, h1.at fun o u => k i1 (by simp) o u, h2.at fun o u => k i2 (by simp) o u, h3.at fun o u => k i3 (by simp) o u⟩
  item := by
    intro X hP hw hK hc i pins s σ H E I hf st hg
    subst hP hw hK
    obtain ⟨hz, hTI, ⟨x0, y0, z0, hTO⟩, h1, h2, h3⟩ := st
    obtain ⟨xs, ys, zs, x, y, z, hqx, hqy, hqz, hx, hy, hv⟩ := hg
    obtain ⟨its, rv, p, _⟩ := I.tuple hqx
    obtain ⟨its2, rv2, p2, _⟩ := I.tuple hqy
    obtain ⟨its3, rv3, p3, _⟩ := I.tuple hqz
    obtain ⟨u, hu, ru⟩ := rv.get hx
    obtain ⟨u2, hu2, ru2⟩ := rv2.get hy
    obtain ⟨u3, hu3, ru3⟩ := rv3.get hv
    have hzl : q < s.heap.objs.size := Heap.lt_size hz
    have l1 : i < its.toArray.size := by simpa using (List.getElem?_eq_some_iff.mp hu).1
    have l2 : i < its2.toArray.size := by simpa using (List.getElem?_eq_some_iff.mp hu2).1
    have l3 : i < its3.toArray.size := by simpa using (List.getElem?_eq_some_iff.mp hu3).1
    refine wpAny_pyNext_zipD3_item D.sep (Draws.tuple (A := X.A.in1) (I.ok.hd hc) i1 a D.n1 its.toArray) (Draws.tuple (A := X.A.in1) (I.ok.hd hc) i2 b D.n2 its2.toArray) (Draws.tuple (A := X.A.in1) (I.ok.hd hc) i3 c D.n3 its3.toArray)
      hz hTI hTO ⟨h1, p⟩ ⟨h2, p2⟩ ⟨h3, p3⟩ l1 l2 l3 fun x1 x2 x3 h' tk y1 y2 y3 z' TO' s1' s2' s3' hT hsz hk => ?_
    have g1 : x1 = u := Option.some.inj (y1.symm.trans (by simpa using hu))
    have g2 : x2 = u2 := Option.some.inj (y2.symm.trans (by simpa using hu2))
    have g3 : x3 = u3 := Option.some.inj (y3.symm.trans (by simpa using hu3))
    subst g1 g2 g3
    refine ⟨_, rfl, wpAny_letOwnedTupleGo_zip (s := { s with heap := h', toks := tk }) z' fun h'' z'' sb => ?_⟩
    have hT2 : h''.get? s.heap.objs.size = some { cls := .type "tuple", data := .seq #[x1, x2, x3] } := (sb.2 _ (Nat.ne_of_gt hzl)).trans hT
    have new : ObjOk X.prog X.w (upd H s.heap.objs.size (.tup [x, y, z])) h'' s.heap.objs.size (.tup [x, y, z]) :=
      ⟨by show 3 ≤ sizeLine; decide, [x1, x2, x3], .cons ru (.cons ru2 (.cons ru3 .nil)), ⟨_, hT2, rfl, _, rfl⟩⟩
    have I1 : Inv X pins σ (upd H s.heap.objs.size (.tup [x, y, z])) { s with heap := h'', toks := tk } :=
      I.turnedNew (t' := tk) (ch := [q, TI, TO, i1, i2, i3]) (fun c o hb u => (sb.2 c (fun q' => hb (by simp [q']))).trans (hk c o (fun q' => hb (by simp [q'])) (fun q' => hb (by simp [q'])) (fun q' => hb (by simp [q'])) (fun q' => hb (by simp [q'])) (fun q' => hb (by simp [q'])) u)) hf (Nat.le_refl _) new
    refine ⟨.ref s.heap.objs.size, _, I1, rfl, ⟨_, x, y, z, rfl, I.hok.fresh (Nat.le_refl _), rfl, fun l hl => by rw [I.tuple_inj hl hqx]; exact hx, fun l hl => by rw [I.tuple_inj hl hqy]; exact hy, fun l hl => by rw [I.tuple_inj hl hqz]; exact hv⟩, ⟨z'', ?_, ⟨x1, x2, x3, ?_⟩, ?_, ?_, ?_⟩, fun c hcm => ?_⟩
    · exact (sb.2 _ D.sep.TIz).trans (hk _ _ D.sep.TIz D.sep.TITO D.sep.TIi1 D.sep.TIi2 D.sep.TIi3 hTI)
    · exact (sb.2 _ D.sep.TOz).trans TO'
    · exact s1'.1.at fun o u => (sb.2 _ D.sep.zi1.symm).trans u
    · exact s2'.1.at fun o u => (sb.2 _ D.sep.zi2.symm).trans u
    · exact s3'.1.at fun o u => (sb.2 _ D.sep.zi3.symm).trans u
    · have hlt : c < s.heap.objs.size := by
        have e' : c = q ∨ c = TI ∨ c = TO ∨ c = i1 ∨ c = i2 ∨ c = i3 := by simpa using hcm
        rcases e' with k | k | k | k | k | k
        · rw [k]; exact hzl
        · rw [k]; exact Heap.lt_size hTI
        · rw [k]; exact Heap.lt_size hTO
        · rw [k]; obtain ⟨_, e1, _⟩ := h1; exact Heap.lt_size e1
        · rw [k]; obtain ⟨_, e2, _⟩ := h2; exact Heap.lt_size e2
        · rw [k]; obtain ⟨_, e3, _⟩ := h3; exact Heap.lt_size e3
      rw [upd_ne (Nat.ne_of_lt hlt)]
      exact (hf c hcm).1
  done := by
    intro X hP hw hK hc i pins s σ H E I hf st hg
    subst hP hw hK
    obtain ⟨hz, hTI, ⟨x0, y0, z0, hTO⟩, h1, h2, h3⟩ := st
    obtain ⟨xs, ys, zs, hqx, hqy, hqz, b1, b2, b3, hend⟩ := hg
    obtain ⟨its, rv, p, _⟩ := I.tuple hqx
    obtain ⟨its2, rv2, p2, _⟩ := I.tuple hqy
    obtain ⟨its3, rv3, p3, _⟩ := I.tuple hqz
    have l1 : its.toArray.size = xs.length := by simpa using rv.length.symm
    have l2 : its2.toArray.size = ys.length := by simpa using rv2.length.symm
    have l3 : its3.toArray.size = zs.length := by simpa using rv3.length.symm
    exact wpAny_pyNext_zipD3_end D.sep (Draws.tuple (A := X.A.in1) (I.ok.hd hc) i1 a D.n1 its.toArray) (Draws.tuple (A := X.A.in1) (I.ok.hd hc) i2 b D.n2 its2.toArray) (Draws.tuple (A := X.A.in1) (I.ok.hd hc) i3 c D.n3 its3.toArray)
      hz hTI hTO ⟨h1, p⟩ ⟨h2, p2⟩ ⟨h3, p3⟩ (by omega) (by omega) (by omega) (by omega) fun h' tk hk => ⟨rfl, I.turnedL (t' := tk) (ch := [q, TI, TO, i1, i2, i3]) (fun c o hb u =>
      hk c o (fun q' => hb (by simp [q'])) (fun q' => hb (by simp [q'])) (fun q' => hb (by simp [q'])) (fun q' => hb (by simp [q'])) (fun q' => hb (by simp [q'])) u) hf⟩
  self := fun A i s Q E st h => wpAny_pyIter_zip st.1 h
def iZipU (K : PySem.W.Frag) (ta : TA) : TI := fun σ H R => ta σ H fun vs H1 => ∃ a b c xs ys zs, vs = [.ref a, .ref b, .ref c] ∧ SqT K H1 a xs ∧ SqT K H1 b ys ∧ SqT K H1 c zs ∧ R (ItzU K a b c) H1
theorem iter_at {h : Heap} {i a : Addr} (e : h.get? i = some { cls := .type "tuple_iterator", data := .fields #[.ref a, .int 0 0] }) : h.IsTupleIter i a 0 := ⟨_, e, rfl, rfl⟩
theorem pi_zip3 {X : Cx} {e e2 e3 : Expr} {ta : TA} {p pos tpos : Pos} {elts : List Expr} {kk : Nat} (hg : Gl X "zip") (hm : X.mg "zip" = none) (ha : PA X [e, e2, e3] ta)
    (hs : starEach [e, e2, e3] X.env = (false, eval e X.env) :: starEach [e2, e3] X.env := by rfl) (hpl : (backTo pos (starEach [e2, e3] X.env)).any (·.1) = false := by rfl) :
    PI X (.Tuple elts kk tpos) (.Call (.Name "zip" p) [e, e2, e3] [] pos) (iZipU X.K ta) := by
  refine ⟨fun pins s σ H R I h => ?_⟩
  refine Call_ (ld_blt I hg hm PyProof.Rows.boot_zip (PyProof.Rows.callWith_type1 (thn (ha.run pos pins s σ H _ I h) fun us s1 ⟨vs, H1, I1, r1, q1⟩ => ?_) hs hpl))
  obtain ⟨a, b, c, xs, ys, zs, ex, hqx, hqy, hqz, q⟩ := q1
  subst ex
  cases r1 with
  | cons r rr =>
    cases rr with
    | cons r' rr =>
      cases rr with
      | cons r'' rr =>
        cases rr
        cases r
        cases r'
        cases r''
        have fresh6 : ∀ c, c ∈ [s1.heap.objs.size + 5, s1.heap.objs.size + 3, s1.heap.objs.size + 4, s1.heap.objs.size, s1.heap.objs.size + 1, s1.heap.objs.size + 2] → FpOk X pins H1 c := fun c hcm => by
          have e' : c = s1.heap.objs.size + 5 ∨ c = s1.heap.objs.size + 3 ∨ c = s1.heap.objs.size + 4 ∨ c = s1.heap.objs.size ∨ c = s1.heap.objs.size + 1 ∨ c = s1.heap.objs.size + 2 := by simpa using hcm
          have hle : s1.heap.objs.size ≤ c := by
            rcases e' with z | z | z | z | z | z
            · rw [z]; exact Nat.le_add_right _ _
            · rw [z]; exact Nat.le_add_right _ _
            · rw [z]; exact Nat.le_add_right _ _
            · rw [z]; exact Nat.le_refl _
            · rw [z]; exact Nat.le_add_right _ _
            · rw [z]; exact Nat.le_add_right _ _
          exact I1.fpOk hle (I1.hok.fresh hle)
        obtain ⟨its, rv, p1, _⟩ := I1.tuple hqx
        obtain ⟨its2, rv2, p2, _⟩ := I1.tuple hqy
        obtain ⟨its3, rv3, p3, _⟩ := I1.tuple hqz
        obtain ⟨o1, ho1, _⟩ := id p1
        obtain ⟨o2, ho2, _⟩ := id p2
        obtain ⟨o3, ho3, _⟩ := id p3
        refine zip_begins3 (begins_tuple a its.toArray) (begins_tuple b its2.toArray) (begins_tuple c its3.toArray) p1 p2 p3 fun h' hz hTI hTO h1 h2 h3 hsz hk => wpAny_pyIter_zip hz ?_
        have I2 : Inv X pins σ H1 { s1 with heap := h' } := I1.kept (t' := s1.toks) hk
        exact ⟨s1.heap.objs.size + 5, [s1.heap.objs.size + 5, s1.heap.objs.size + 3, s1.heap.objs.size + 4, s1.heap.objs.size, s1.heap.objs.size + 1, s1.heap.objs.size + 2], _, _, H1, rfl, I2, turn_zipU (apart3 s1.heap.objs.size a b c (Heap.lt_size ho1) (Heap.lt_size ho2) (Heap.lt_size ho3)), ⟨hz, hTI, ⟨_, _, _, hTO⟩, iter_at h1, iter_at h2, iter_at h3⟩, fresh6, q⟩
theorem lc_zipU {K : PySem.W.Frag} {a b c : Addr} {xs ys zs : List V} {g : TG} {tt : TT} {te : TE} {vs : List Nat} {σ : L2.St} {H1 : Hp} {D : Addr} {Qd : Hp → Prop} (hl : xs.length = ys.length) (hl2 : xs.length = zs.length) (Pv : Nat → Hp → Prop) (h0 : Pv 0 (upd H1 D (.lst [])))
    (hq : ∀ i H, Pv i H → SqT K H a xs ∧ SqT K H b ys ∧ SqT K H c zs)
    (hs : ∀ (i : Nat) (x y z : V) (T : Addr) (H : Hp), xs[i]? = some x → ys[i]? = some y → zs[i]? = some z → Pv i H → H T = none → g (.ref T) (wipe σ vs) (upd H T (.tup [x, y, z])) fun σ2 H2 => wipe σ2 vs = wipe σ vs ∧ tt σ2 H2 fun b H3 =>
      if b = true then te σ2 H3 fun y H4 => ∃ acc, H4 D = some (.lst acc) ∧ acc.length < sizeLine ∧ Pv (i + 1) (upd H4 D (.lst (acc ++ [y]))) else Pv (i + 1) H3) (hd : ∀ H, Pv xs.length H → Qd H) : LcW (ItzU K a b c) g tt te vs σ H1 D Qd := by
  refine ⟨fun i m H => m = xs.length - i ∧ i ≤ xs.length ∧ Pv i H, ⟨xs.length, rfl, Nat.zero_le _, h0⟩, ?_⟩
  rintro i m H ⟨rfl, hi, p⟩
  obtain ⟨qx, qy, qz⟩ := hq i H p
  by_cases hlt : i < xs.length
  · refine .inr ⟨⟨xs, ys, zs, _, _, _, qx, qy, qz, List.getElem?_eq_getElem hlt, List.getElem?_eq_getElem (by omega), List.getElem?_eq_getElem (by omega)⟩, Pv (i + 1), fun H' p' => ⟨xs.length - (i + 1), by omega, rfl, hlt, p'⟩, ?_⟩
    rintro v H' ⟨T, x', y', z', rfl, hT, rfl, f1, f2, f3⟩
    exact hs i x' y' z' T H (f1 xs qx) (f2 ys qy) (f3 zs qz) p hT
  · obtain rfl : i = xs.length := by omega
    exact .inl ⟨⟨xs, ys, zs, qx, qy, qz, Nat.le_refl _, by omega, by omega, .inl rfl⟩, hd H p⟩
end Lb
set_option Elab.async false
set_option linter.all false
set_option maxRecDepth 100000
set_option maxHeartbeats 4000000
namespace Lb
open PySem PySem.Spec PyProof.Rows L2 RZ
section
variable {P : Program} {w : World} {K : PySem.W.Frag} {mg : Str → Option Value} {base : Heap}
def spDraw : Sp := fun vs H Q _ => ∃ (d c r : Addr) (n m : Nat), vs = [.ref d, .int (m : Int)] ∧ Dk H d c r n ∧ n < 2 ^ 40 ∧ 0 < m ∧ m < 1000000 ∧ ∀ (H' : Hp) (v : Nat), v < m → Dk H' d c r (n + 1) → Kp d r H H' → Q (.int (v : Int)) H'
def spDeck (K : PySem.W.Frag) : Sp := fun vs H Q _ => ∃ (a : Addr) (ns : List Int), vs = [.ref a] ∧ SqL K H a (ns.map V.int) ∧ ns.length ≤ 63 ∧ ∀ (H' : Hp) (d c r : Addr), Same H H' → H d = none → H c = none → H r = none → Dk H' d c r 0 → Q (.ref d) H'
theorem cut63 (ns : List Int) (h : ns.length ≤ 63) : cutV (ns.map V.int) none (some 63) = ns.map V.int := by
  unfold cutV
  rw [HT.sIx_none, show HT.sIx (ns.map V.int).length (ns.map V.int).length (some 63) = min 63 (ns.map V.int).length from HT.sIx_nat _ _ 63]
  rw [List.drop_zero]
  refine List.take_of_length_le ?_
  rw [List.length_map]
  omega
def spOne : Sp := fun vs H Q _ => ∃ (d c r l : Addr) (n : Nat) (xs : List V), vs = [.ref d, .ref l] ∧ Dk H d c r n ∧ n < 2 ^ 40 ∧ H l = some (.lst xs) ∧ l ≠ d ∧ l ≠ r ∧ 0 < xs.length ∧ xs.length ≤ 1000 ∧
  ∀ (H' : Hp) (v : Nat) (x : V), xs[v]? = some x → Dk H' d c r (n + 1) → Kp d r H H' → Q x H'
def spPlus (K : PySem.W.Frag) : Sp := fun vs H Q _ => ∃ (a b : Addr) (x y : List Int), vs = [.ref a, .ref b] ∧ SqT K H a (x.map V.int) ∧ SqT K H b (y.map V.int) ∧ x.length = y.length ∧ x.length ≤ 1000 ∧
  ∀ (H' : Hp) (p : Addr), Same H H' → H p = none → H' p = some (.tup ((List.zipWith (· + ·) x y).map V.int)) → Q (.ref p) H'
theorem same_tup {K : PySem.W.Frag} {H H' : Hp} {a : Addr} {xs : List V} (e : Same H H') (h : SqT K H a xs) : SqT K H' a xs := by
  rcases h with (h | ⟨o, h⟩) | h
  · exact .inl (.inl (e _ _ h))
  · exact .inl (.inr ⟨o, e _ _ h⟩)
  · exact .inr h
def spSide : Sp := fun vs H Q _ => ∃ (d c r : Addr) (n g m : Nat), vs = [.ref d, .int (g : Int), .int (m : Int)] ∧ Dk H d c r n ∧ n < 2 ^ 39 ∧ 0 < g ∧ g ≤ 1000 ∧ m ≤ 1000 ∧
  ∀ (H' : Hp) (p : Addr) (b : List Int), Side g m b → H p = none → H' p = some (.tup (b.map V.int)) → Dk H' d c r (n + 1 + m) → Kp d r H H' → Q (.ref p) H'
theorem kp_free {H H' : Hp} {d c r : Addr} {n : Nat} (k : Kp d r H H') (dk : Dk H' d c r n) {p : Addr} (e : H' p = none) : H p = none := by
  cases q : H p with
  | none => rfl
  | some o =>
    have := dk.nd e
    rw [k _ _ this.1 this.2.1 q] at e
    cases e
def spTrade : Sp := fun vs H Q _ => ∃ (R : Rgn) (d c r : Addr) (n g m : Nat), vs = [.ref d, .int (g : Int), .int (m : Int)] ∧ Dk H d c r n ∧ n < 2 ^ 38 ∧ 0 < g ∧ g ≤ 100 ∧ m ≤ 4 ∧ Rg R H d r ∧
  ∀ (H' : Hp) (v : V) (t : Trd), TrdOk g m t → Dat R H' v (trdD t) → Dk H' d c r (n + 20) → Kp d r H H' → Q v H'
theorem two_sides {D : Ends} {σ : L2.St} {H : Hp} {d c r : Addr} {n g m : Nat} {R : Rgn} (h0 : σ[0]? = some (some (.ref d))) (h1 : σ[1]? = some (some (.int (g : Int)))) (h2 : σ[2]? = some (some (.int (m : Int))))
    (dk : Dk H d c r n) (hn : n < 2 ^ 38 + 1) (hg : 0 < g) (hg2 : g ≤ 100) (hm : m ≤ 4) (rg : Rg R H d r)
    (q : ∀ (H' : Hp) (v : V) (t : Trd), TrdOk g m t → Dat R H' v (trdD t) → Dk H' d c r (n + 10) → Kp d r H H' → D.rt v H') :
    tRet (tTup (tCons (tCall spSide [] E0 (tCons (tVar 0) (tCons (tVar 1) (tCons (tVar 2) tNil)))) (tCons (tCall spSide [] E0 (tCons (tVar 0) (tCons (tVar 1) (tCons (tVar 2) tNil)))) tNil))) D σ H := by
  refine ⟨_, h0, _, h1, _, h2, d, c, r, n, g, m, rfl, dk, by omega, hg, by omega, by omega, fun H1 p1 b1 sd1 f1 e1 dk1 k1 => ?_⟩
  refine ⟨_, h0, _, h1, _, h2, d, c, r, n + 1 + m, g, m, rfl, dk1, by omega, hg, by omega, by omega, fun H2 p2 b2 sd2 f2 e2 dk2 k2 => ?_⟩
  have nd := dk.nd f1
  have e1' := k2 _ _ nd.1 nd.2.1 e1
  refine ⟨(by show 2 ≤ sizeLine; decide), fun p3 z3 => ?_⟩
  have rg2 := (rg.kp k1 dk1).kp k2 dk2
  have sm := same_upd (o := .tup [V.ref p1, V.ref p2]) z3
  refine q _ _ (b1, b2) ⟨sd1, sd2⟩ (.tup (rg2.new _ z3) upd_same (.cons (Dat.mkBag (rg.new _ f1) (sm _ _ e1')) (.cons (Dat.mkBag ((rg.kp k1 dk1).new _ f2) (sm _ _ e2)) .nil))) ((dk2.same sm).mono (by omega)) ((k1.trans k2).trans (Kp.of sm))
def besideL (g : Nat) (at_ : Nat) (many : Int) : List Int := (List.range g).map fun (k : Nat) => many * (if decide (V.int ((0 : Int) + (k : Int)) = V.int (at_ : Int)) = true then 1 else 0)
theorem beside_mem {g a : Nat} {m : Int} (hm : 0 ≤ m) : ∀ x ∈ besideL g a m, 0 ≤ x ∧ x ≤ m := by
  intro x hx
  obtain ⟨k, _, rfl⟩ := List.mem_map.mp hx
  by_cases h : V.int ((0 : Int) + (k : Int)) = V.int (a : Int)
  · rw [decide_eq_true h, if_pos rfl]
    omega
  · rw [decide_eq_false h, if_neg Bool.false_ne_true]
    omega
theorem beside_sum {a : Nat} {m : Int} (hm : 0 ≤ m) : ∀ g : Nat, (besideL g a m).sum = if a < g then m else 0
  | 0 => by
    rw [if_neg (Nat.not_lt_zero _)]
    rfl
  | g + 1 => by
    unfold besideL
    rw [List.range_succ, List.map_append, List.sum_append]
    have ih := beside_sum hm g (a := a)
    unfold besideL at ih
    rw [ih, List.map_singleton, List.sum_cons, List.sum_nil]
    by_cases h : a = g
    · subst h
      rw [if_neg (Nat.lt_irrefl _), if_pos (Nat.lt_succ_self _), decide_eq_true (by simp), if_pos rfl]
      omega
    · rw [decide_eq_false (fun z => h (by have := V.int.inj z; omega)), if_neg Bool.false_ne_true]
      by_cases h2 : a < g
      · rw [if_pos h2, if_pos (by omega)]
        omega
      · rw [if_neg h2, if_neg (by omega)]
        omega
theorem beside_len (g a : Nat) (m : Int) : (besideL g a m).length = g := by
  unfold besideL
  rw [List.length_map, List.length_range]
theorem side_plus {g k a : Nat} {m : Int} {b : List Int} (s : Side g k b) (h1 : 0 ≤ m) (h2 : (k : Int) + m ≤ 3) : Side g 3 (List.zipWith (· + ·) b (besideL g a m)) := by
  have nn : ∀ x ∈ b, 0 ≤ x := fun x hx => (s.amt x hx).1
  refine ⟨?_, fun z hz => ?_, ?_⟩
  · rw [List.length_zipWith, s.len, beside_len, Nat.min_self]
  · obtain ⟨x, hx, y, hy, rfl⟩ := mem_zip hz
    have a1 := le_sum nn x hx
    have a2 := s.tot
    have a3 := beside_mem h1 y hy
    have a4 := nn x hx
    omega
  · rw [sum_zip (by rw [s.len, beside_len]), beside_sum h1]
    have a2 := s.tot
    split <;> omega
theorem side_beside {g a : Nat} {m : Int} (h1 : 0 ≤ m) (h2 : m ≤ 3) : Side g 3 (besideL g a m) := by
  refine ⟨beside_len _ _ _, fun x hx => ?_, ?_⟩
  · have := beside_mem h1 x hx
    omega
  · rw [beside_sum h1]
    split <;> omega
def wo (R : Rgn) (D : Addr) : Rgn := fun b => R b ∧ b ≠ D
theorem wo_on {R : Rgn} {D : Addr} {H : Hp} {o : HO} : On (wo R D) H (upd H D o) := fun b u hb e => by
  rw [upd_ne hb.2]
  exact e
theorem wo_rg {R : Rgn} {H : Hp} {d r D : Addr} {o : HO} (g : Rg R H d r) (e : H D = some o) : Rg (wo R D) H d r := ⟨fun z => g.nd z.1, fun z => g.nr z.1, fun p hp => ⟨g.new p hp, (ne_of_none e hp).symm⟩⟩
def spMarket : Sp := fun vs H Q _ => ∃ (R : Rgn) (d c r : Addr) (n g tr m : Nat), vs = [.ref d, .int (g : Int), .int (tr : Int), .int (m : Int)] ∧ Dk H d c r n ∧ n < 2 ^ 37 ∧ 0 < g ∧ g ≤ 100 ∧ tr ≤ 4 ∧ m ≤ 4 ∧ Rg R H d r ∧
  ∀ (H' : Hp) (v : V) (ts : List Trd), ts.length ≤ tr → (∀ t ∈ ts, TrdOk g m t) → Dat R H' v (mktD g ts) → Dk H' d c r (n + 100) → Kp d r H H' → Q v H'
def spAny : Sp := fun vs H Q _ => ∃ (R : Rgn) (d c r : Addr) (n : Nat), vs = [.ref d] ∧ Dk H d c r n ∧ n < 2 ^ 36 ∧ Rg R H d r ∧
  ∀ (H' : Hp) (v : V) (g : Nat) (ts : List Trd), MktOk g ts → Dat R H' v (mktD g ts) → Dk H' d c r (n + 101) → Kp d r H H' → Q v H'
def tyOf : PyData → String
  | .none => "NoneType"
  | .bool _ => "bool"
  | .int _ => "int"
  | .str _ => "str"
  | .list _ => "list"
  | .tuple _ => "tuple"
  | .dict _ => "dict"
def isTup : PyData → Bool
  | .tuple _ => true
  | _ => false
def isInt : PyData → Bool
  | .int _ => true
  | .bool _ => true
  | _ => false
def isBool : PyData → Bool
  | .bool _ => true
  | _ => false
theorem dat_ty {K : PySem.W.Frag} {R : Rgn} {H : Hp} {v : V} {d : PyData} (h : Dat R H v d) : TyX K H v (.type (tyOf d)) := by
  cases h with
  | non => exact .base .non
  | bl b => exact .base (.bl b)
  | int i => exact .base (.int i)
  | str x => exact .base (.str x)
  | tup ra e t => exact .base (.tup e)
  | lst ra e t => exact .base (.lst e)
  | emp ra e => exact .base (.dK e)
theorem kit_tup : ∀ d : PyData, kitB (tyOf d) "tuple" = some (isTup d)
  | .none => (by decide +kernel : kitB "NoneType" "tuple" = some false)
  | .bool _ => (by decide +kernel : kitB "bool" "tuple" = some false)
  | .int _ => (by decide +kernel : kitB "int" "tuple" = some false)
  | .str _ => (by decide +kernel : kitB "str" "tuple" = some false)
  | .list _ => (by decide +kernel : kitB "list" "tuple" = some false)
  | .tuple _ => (by decide +kernel : kitB "tuple" "tuple" = some true)
  | .dict _ => (by decide +kernel : kitB "dict" "tuple" = some false)
theorem kit_int : ∀ d : PyData, kitB (tyOf d) "int" = some (isInt d)
  | .none => (by decide +kernel : kitB "NoneType" "int" = some false)
  | .bool _ => (by decide +kernel : kitB "bool" "int" = some true)
  | .int _ => (by decide +kernel : kitB "int" "int" = some true)
  | .str _ => (by decide +kernel : kitB "str" "int" = some false)
  | .list _ => (by decide +kernel : kitB "list" "int" = some false)
  | .tuple _ => (by decide +kernel : kitB "tuple" "int" = some false)
  | .dict _ => (by decide +kernel : kitB "dict" "int" = some false)
theorem kit_bool : ∀ d : PyData, kitB (tyOf d) "bool" = some (isBool d)
  | .none => (by decide +kernel : kitB "NoneType" "bool" = some false)
  | .bool _ => (by decide +kernel : kitB "bool" "bool" = some true)
  | .int _ => (by decide +kernel : kitB "int" "bool" = some false)
  | .str _ => (by decide +kernel : kitB "str" "bool" = some false)
  | .list _ => (by decide +kernel : kitB "list" "bool" = some false)
  | .tuple _ => (by decide +kernel : kitB "tuple" "bool" = some false)
  | .dict _ => (by decide +kernel : kitB "dict" "bool" = some false)
theorem rd_isi {K : PySem.W.Frag} {R : Rgn} {H : Hp} {v : V} {d : PyData} {T : String} {b : Bool} {Q : VK} (h : Dat R H v d) (e : kitB (tyOf d) T = some b) (q : Q (.bl b) H) : rIsi K [v, .ty T] H Q :=
  ⟨v, .ty T, _, _, b, rfl, .ty T, dat_ty h, kit_ty e, q⟩
def whole : PyData → Bool
  | .int _ => true
  | _ => false
theorem whole_eq (d : PyData) : whole d = (isInt d && !isBool d) := by cases d <;> rfl
def nn : PyData → Bool
  | .int i => decide (0 ≤ i)
  | _ => false
def bagB (g : Int) : PyData → Bool
  | .tuple ds => decide ((ds.length : Int) = g) && ds.all nn
  | _ => false
theorem bagB_tup (g : Int) (ds : List PyData) : bagB g (.tuple ds) = (decide ((ds.length : Int) = g) && ds.all nn) := rfl
def pairB : PyData → Bool
  | .tuple ds => decide (ds.length = 2)
  | _ => false
def intsOf : PyData → List Int
  | .tuple ds => ds.map fun | .int i => i | _ => 0
  | _ => []
def tw (g : Int) : PyData → Option Str
  | .tuple [x, y] =>
    if (bagB g x && bagB g y) = true then
      (if ((intsOf x).any (fun i => decide (3 < i)) || (intsOf y).any (fun i => decide (3 < i))) = true then some ("amount" : Str) else if (decide (4 < (intsOf x).sum) || decide (4 < (intsOf y).sum)) = true then some ("total" : Str) else none)
    else some ("trade" : Str)
  | _ => some ("trade" : Str)
def wordV : Option Str → V
  | some w => .str w
  | none => .non
def scan (g : Int) : List PyData → Nat → PyData
  | [], _ => .none
  | t :: ts, k => match tw g t with
    | some w => .tuple [.int (k : Int), .str w]
    | none => scan g ts (k + 1)
def errD (w : Str) : PyData := .tuple [.none, .str w]
def mErr : PyData → PyData
  | .tuple [.int g, .tuple ts] => if 1 ≤ g ∧ g ≤ 4 then (if ts.length ≤ 4 then scan g ts 0 else errD "many") else errD "goods"
  | .tuple [.int g, _] => if 1 ≤ g ∧ g ≤ 4 then errD "trades" else errD "goods"
  | .tuple [_, _] => errD "goods"
  | _ => errD "market"
theorem bag_ints {g : Int} {d : PyData} (h : bagB g d = true) : ∃ ns : List Int, d = bagD ns ∧ (ns.length : Int) = g ∧ (∀ n ∈ ns, 0 ≤ n) ∧ intsOf d = ns := by
  cases d with
  | tuple ds =>
    unfold bagB at h
    rw [Bool.and_eq_true] at h
    have hl : (ds.length : Int) = g := of_decide_eq_true h.1
    have key : ∀ ds : List PyData, ds.all nn = true → ∃ ns : List Int, ds = ns.map PyData.int ∧ (∀ n ∈ ns, 0 ≤ n) := by
      intro ds
      induction ds with
      | nil => exact fun _ => ⟨[], rfl, fun _ z => (List.not_mem_nil z).elim⟩
      | cons d ds ih =>
        intro h
        rw [List.all_cons, Bool.and_eq_true] at h
        obtain ⟨ns, rfl, hn⟩ := ih h.2
        cases d with
        | int i =>
          refine ⟨i :: ns, rfl, fun n hn' => ?_⟩
          rcases List.mem_cons.mp hn' with rfl | hn'
          · exact of_decide_eq_true h.1
          · exact hn n hn'
        | _ => exact absurd h.1 Bool.false_ne_true
    obtain ⟨ns, rfl, hn⟩ := key ds h.2
    refine ⟨ns, rfl, by rw [List.length_map] at hl; exact hl, hn, ?_⟩
    show (ns.map PyData.int).map _ = ns
    rw [List.map_map]
    exact List.map_id _
  | _ => exact absurd h Bool.false_ne_true
def spWhole : Sp := fun vs H Q _ => ∃ (R : Rgn) (v : V) (d : PyData), vs = [v] ∧ Dat R H v d ∧ Q (.bl (whole d)) H
def spPair : Sp := fun vs H Q _ => ∃ (R : Rgn) (v : V) (d : PyData), vs = [v] ∧ Dat R H v d ∧ Q (.bl (pairB d)) H
def spIsBag : Sp := fun vs H Q _ => ∃ (R : Rgn) (v : V) (g : Int) (d : PyData), vs = [.int g, v] ∧ Dat R H v d ∧ wt d ≤ 1000000 ∧ ∀ H', Same H H' → Q (.bl (bagB g d)) H'
theorem take_map {α β : Type} {f : α → β} {l : List α} {i : Nat} {x : α} (h : l[i]? = some x) : (l.take (i + 1)).map f = (l.take i).map f ++ [f x] := by
  rw [List.take_add_one, h, List.map_append]
  rfl
def spFault : Sp := fun vs H Q _ => ∃ (R : Rgn) (v : V) (g : Int) (d : PyData), vs = [.int g, v] ∧ 1 ≤ g ∧ Dat R H v d ∧ wt d ≤ 1000000 ∧ ∀ H', Same H H' → Q (wordV (tw g d)) H'
theorem pair_shape {d : PyData} (h : pairB d = true) : ∃ x y, d = .tuple [x, y] := by
  cases d with
  | tuple ds =>
    have : ds.length = 2 := of_decide_eq_true h
    match ds, this with
    | [x, y], _ => exact ⟨x, y, rfl⟩
  | _ => exact absurd h Bool.false_ne_true
theorem not_pair {d : PyData} (h : pairB d = false) {x y : PyData} : d ≠ .tuple [x, y] := by
  rintro rfl
  exact absurd (show pairB (.tuple [x, y]) = true from rfl) (by rw [h]; exact Bool.false_ne_true)
theorem tw_not {g : Int} {d : PyData} (h : pairB d = false) : tw g d = some ("trade" : Str) := by
  unfold tw
  split
  · exact absurd rfl (not_pair h)
  · rfl
theorem tw_pair (g : Int) (x y : PyData) : tw g (.tuple [x, y]) = if (bagB g x && bagB g y) = true then
      (if ((intsOf x).any (fun i => decide (3 < i)) || (intsOf y).any (fun i => decide (3 < i))) = true then some ("amount" : Str) else if (decide (4 < (intsOf x).sum) || decide (4 < (intsOf y).sum)) = true then some ("total" : Str) else none)
    else some ("trade" : Str) := rfl
theorem max_any {ns : List Int} {m : Int} (h1 : m ∈ ns) (h2 : ∀ y ∈ ns, y ≤ m) : decide (3 < m) = ns.any (fun i => decide (3 < i)) := by
  by_cases h : 3 < m
  · rw [decide_eq_true h]
    exact (List.any_eq_true.mpr ⟨m, h1, decide_eq_true h⟩).symm
  · rw [decide_eq_false h]
    refine (List.any_eq_false.mpr fun y hy z => ?_).symm
    have := of_decide_eq_true z
    have := h2 y hy
    omega
def spErr : Sp := fun vs H Q _ => ∃ (R : Rgn) (v : V) (d : PyData), vs = [v] ∧ Dat R H v d ∧ wt d ≤ 1000000 ∧ (∀ p, H p = none → R p) ∧ ∀ (H' : Hp) (u : V), Same H H' → Dat R H' u (mErr d) → Q u H'
theorem err_not {d : PyData} (h : pairB d = false) : mErr d = errD "market" := by
  unfold mErr
  split
  · exact absurd rfl (not_pair h)
  · exact absurd rfl (not_pair h)
  · exact absurd rfl (not_pair h)
  · rfl
theorem err_goods {x y : PyData} (h : whole x = false) : mErr (.tuple [x, y]) = errD "goods" := by
  cases x with
  | int g => exact absurd (show true = false from h) (by decide)
  | _ => rfl
theorem err_range {g : Int} {y : PyData} (h : ¬ (1 ≤ g ∧ g ≤ 4)) : mErr (.tuple [.int g, y]) = errD "goods" := by
  cases y with
  | tuple ts => exact if_neg h
  | _ => exact if_neg h
theorem err_trades {g : Int} {y : PyData} (h : 1 ≤ g ∧ g ≤ 4) (hy : isTup y = false) : mErr (.tuple [.int g, y]) = errD "trades" := by
  cases y with
  | tuple ts => exact absurd (show true = false from hy) (by decide)
  | _ => exact if_pos h
theorem err_many {g : Int} {ts : List PyData} (h : 1 ≤ g ∧ g ≤ 4) (hl : ¬ ts.length ≤ 4) : mErr (.tuple [.int g, .tuple ts]) = errD "many" := by
  show (if 1 ≤ g ∧ g ≤ 4 then (if ts.length ≤ 4 then scan g ts 0 else errD "many") else errD "goods") = _
  rw [if_pos h, if_neg hl]
theorem err_scan {g : Int} {ts : List PyData} (h : 1 ≤ g ∧ g ≤ 4) (hl : ts.length ≤ 4) : mErr (.tuple [.int g, .tuple ts]) = scan g ts 0 := by
  show (if 1 ≤ g ∧ g ≤ 4 then (if ts.length ≤ 4 then scan g ts 0 else errD "many") else errD "goods") = _
  rw [if_pos h, if_pos hl]
theorem scan_cons (g : Int) (t : PyData) (ts : List PyData) (k : Nat) : scan g (t :: ts) k = match tw g t with
    | some w => .tuple [.int (k : Int), .str w]
    | none => scan g ts (k + 1) := rfl
theorem drop_at {α : Type} {l : List α} {i : Nat} {x : α} (h : l[i]? = some x) : l.drop i = x :: l.drop (i + 1) := by
  obtain ⟨hi, e⟩ := List.getElem?_eq_some_iff.mp h
  rw [List.drop_eq_getElem_cons hi, e]
theorem new_err {R : Rgn} {H : Hp} {p : Addr} (w : Str) (hp : H p = none) (r : R p) : Dat R (upd H p (.tup [.non, .str w])) (.ref p) (errD w) := .tup r upd_same (.cons .non (.cons (.str w) .nil))
def spIsBag2 : Sp := fun vs H Q _ => ∃ (R : Rgn) (v : V) (g : Int) (d : PyData), vs = [v, .int g] ∧ Dat R H v d ∧ wt d ≤ 1000000 ∧ ∀ H', Same H H' → Q (.bl (bagB g d)) H'
theorem all_take {ds : List PyData} {i : Nat} {x : PyData} (h : ds[i]? = some x) : (ds.take (i + 1)).all nn = ((ds.take i).all nn && nn x) := by
  rw [List.take_add_one, h, List.all_append]
  show (_ && (nn x && true)) = _
  rw [Bool.and_true]
def spFault2 : Sp := fun vs H Q _ => ∃ (R : Rgn) (v : V) (g : Int) (d : PyData), vs = [v, .int g] ∧ 1 ≤ g ∧ Dat R H v d ∧ wt d ≤ 1000000 ∧ ∀ H', Same H H' → Q (wordV (tw g d)) H'
theorem any_take {ns : List Int} {i : Nat} {x : Int} (h : ns[i]? = some x) : (ns.take (i + 1)).any (fun i => decide (3 < i)) = ((ns.take i).any (fun i => decide (3 < i)) || decide (3 < x)) := by
  rw [List.take_add_one, h, List.any_append]
  show (_ || (decide (3 < x) || false)) = _
  rw [Bool.or_false]
theorem tup_at0 {H : Hp} {a : Addr} {x y : V} {K : PySem.W.Frag} (e : H a = some (.tup [x, y])) : SqT K H a [x, y] := .inl (.inl e)
def oddD : List PyData := [.none, .bool true, .bool false, .int 0, .int 1, .int (-1), .int 2, .int 5, .str "", .str "a", .str "chain", .str "parting", .tuple [], .list [], .tuple [.int 0], .tuple [.int 0, .int 0], .tuple [.int 0, .bool true], .dict []]
theorem odd_ok : ∀ d ∈ oddD, Ok 100 1 d := by
  have key : oddD.all (fun d => fine d && decide (wt d ≤ 100) && decide (d.depth ≤ 1)) = true := by decide +kernel
  intro d hd
  have := List.all_eq_true.mp key d hd
  rw [Bool.and_eq_true, Bool.and_eq_true] at this
  exact ⟨this.1.1, of_decide_eq_true this.1.2, of_decide_eq_true this.2⟩
def spSpoil : Nat → Sp
  | 0 => fun _ _ _ _ => False
  | n + 1 => fun vs H Q _ => ∃ (R : Rgn) (d c r : Addr) (k : Nat) (v : V) (x : PyData) (S D : Nat), vs = [.ref d, v] ∧ Dk H d c r k ∧ k + 10 * n < 2 ^ 35 ∧ Rg R H d r ∧ Dat R H v x ∧ Ok S D x ∧ x.depth ≤ n ∧ S ≤ 100000 ∧
    ∀ (H' : Hp) (u : V) (y : PyData), Ok (2 * S + 100) (D + 1) y → Dat R H' u y → Dk H' d c r (k + 10 * (n + 1)) → Kp d r H H' → Q u H'
theorem own_false {x : Str} {st : Stmt} {ps : List Str} {k : Nat} (D : Df K mg x st)
    (hb : ∀ (kV doc pm : Value) (an : Option Addr) (cdv ct : Value) (us : List Value), us.length = ps.length → bindArgs (PySem.W.fnOf x x (defArgs st) (defBody st) (defScope st) .none kV doc pm an cdv ct) ⟨us, []⟩ = pure (ps.zip us)) :
    Own P w K mg base x k ps (fun _ _ _ _ => False) := by
  obtain ⟨f, fd, F, m⟩ := D.ex
  exact ⟨f, fd, ⟨fun _ _ _ _ h => h.elim, fun _ _ _ _ _ _ _ _ _ _ _ _ _ h => h.elim⟩, m, F.kp, F.binds hb⟩
theorem new_ne {H : Hp} {d c r p : Addr} {n : Nat} (dk : Dk H d c r n) (e : H p = none) : p ≠ d ∧ p ≠ r := ⟨(dk.nd e).1, (dk.nd e).2.1⟩
theorem spoil_odd {D : Ends} {σ : L2.St} {H : Hp} {R : Rgn} {d c r lo : Addr} {k S Dp : Nat} {v : V} {x : PyData} {os : List V} (h0 : σ[0]? = some (some (.ref d))) (h1 : σ[1]? = some (some v)) (h2 : σ[2]? = some (some (.ref lo)))
    (dk : Dk H d c r k) (hk : k < 2 ^ 36) (rg : Rg R H d r) (dt : Dat R H v x) (ok : Ok S Dp x) (elo : H lo = some (.lst os)) (dos : Dats R H os oddD)
    (q : ∀ (H' : Hp) (u : V) (y : PyData), Ok (2 * S + 100) (Dp + 1) y → Dat R H' u y → Dk H' d c r (k + 1) → Kp d r H H' → D.rt u H') :
    tRet (tCall spOne [] E0 (tCons (tVar 0) (tCons (tOp rCat (tVar 2) (tLst (tCons (tLst (tCons (tVar 1) tNil)) (tCons (tTup (tCons (tVar 1) tNil)) (tCons (tVar 1) tNil))))) tNil))) D σ H := by
  refine ⟨_, h0, _, h2, _, h1, (by show 1 ≤ sizeLine; decide), fun p1 z1 => ?_⟩
  have s1 := same_upd (o := .lst [v]) z1
  refine ⟨_, h1, (by show 1 ≤ sizeLine; decide), fun p2 z2 => ?_⟩
  have s2 := same_upd (o := .tup [v]) z2
  refine ⟨_, h1, (by show 3 ≤ sizeLine; decide), fun p3 z3 => ?_⟩
  have s3 := same_upd (o := .lst [V.ref p1, V.ref p2, v]) z3
  have s13 := (s1.trans s2).trans s3
  have los := dos.length
  refine ⟨lo, p3, _, _, rfl, rfl, s13 _ _ elo, upd_same, by rw [los]; show 18 + 3 ≤ sizeLine; decide, fun p4 z4 => ?_⟩
  have s4 := same_upd (o := .lst (os ++ [V.ref p1, V.ref p2, v])) z4
  have s14 := s13.trans s4
  have d1 : Dat R (upd (upd (upd (upd H p1 (.lst [v])) p2 (.tup [v])) p3 (.lst [V.ref p1, V.ref p2, v])) p4 (.lst (os ++ [V.ref p1, V.ref p2, v]))) (.ref p1) (.list [x]) :=
    (Dat.newL z1 (rg.new _ z1) (.cons dt .nil)).same ((s2.trans s3).trans s4)
  have d2 : Dat R (upd (upd (upd (upd H p1 (.lst [v])) p2 (.tup [v])) p3 (.lst [V.ref p1, V.ref p2, v])) p4 (.lst (os ++ [V.ref p1, V.ref p2, v]))) (.ref p2) (.tuple [x]) :=
    (Dat.newT z2 ((rg.same s1).new _ z2) (.cons (dt.same s1) .nil)).same (s3.trans s4)
  have all := (dos.same s14).append (.cons d1 (.cons d2 (.cons (dt.same s14) .nil)))
  have f4 := s13.free z4
  have n4 := new_ne dk f4
  have rg4 := rg.same s14
  have dk4 := dk.same s14
  have e4 : upd (upd (upd (upd H p1 (.lst [v])) p2 (.tup [v])) p3 (.lst [V.ref p1, V.ref p2, v])) p4 (.lst (os ++ [V.ref p1, V.ref p2, v])) p4 = some (.lst (os ++ [V.ref p1, V.ref p2, v])) := upd_same
  generalize upd (upd (upd (upd H p1 (.lst [v])) p2 (.tup [v])) p3 (.lst [V.ref p1, V.ref p2, v])) p4 (.lst (os ++ [V.ref p1, V.ref p2, v])) = H4 at *
  have hlen : (os ++ [V.ref p1, V.ref p2, v]).length = 21 := by rw [List.length_append, los]; rfl
  refine ⟨d, c, r, p4, k, _, rfl, dk4, by omega, e4, n4.1, n4.2, by omega, by omega, fun H5 j u hj dk5 k5 => ?_⟩
  obtain ⟨y, hy, dty⟩ := all.get' hj
  refine q H5 u y ?_ (dty.on (rg4.on k5)) dk5 ((Kp.of s14).trans k5)
  have hm := List.mem_of_getElem? hy
  rcases List.mem_append.mp hm with hm | hm
  · exact (odd_ok y hm).mono (by omega) (by omega)
  · have o1 : Oks (S + 2) Dp [x] := Oks.one ok
    rcases List.mem_cons.mp hm with rfl | hm
    · exact o1.list.mono (by omega) (by omega)
    · rcases List.mem_cons.mp hm with rfl | hm
      · exact o1.tuple.mono (by omega) (by omega)
      · rw [List.mem_singleton.mp hm]
        exact ok.mono (by omega) (by omega)
theorem sIx_lo (n j : Nat) (h : j ≤ n) : HT.sIx n 0 (some (j : Int)) = j := by
  rw [show HT.sIx n 0 (some (j : Int)) = min j n from HT.sIx_nat n 0 j]
  omega
theorem sIx_hi (n j : Nat) (h : j ≤ n) : HT.sIx n n (some (j : Int)) = j := by
  rw [show HT.sIx n n (some (j : Int)) = min j n from HT.sIx_nat n n j]
  omega
theorem cut_to (xs : List V) (j : Nat) (h : j ≤ xs.length) : cutV xs none (some (j : Int)) = xs.take j := by
  unfold cutV
  rw [HT.sIx_none, sIx_hi _ _ h, List.drop_zero, Nat.sub_zero]
theorem cut_from (xs : List V) (j : Nat) (h : j ≤ xs.length) : cutV xs (some (j : Int)) none = xs.drop j := by
  unfold cutV
  rw [HT.sIx_none, sIx_lo _ _ h]
  refine List.take_of_length_le ?_
  rw [List.length_drop]
  exact Nat.le_refl _
theorem rd_to {K : PySem.W.Frag} {R : Rgn} {H : Hp} {a : Addr} {xs : List V} {ds : List PyData} {j : Nat} {Q : VK} (ra : R a) (e : H a = some (.tup xs)) (t : Dats R H xs ds) (hj : j ≤ xs.length) (new : ∀ p, H p = none → R p)
    (q : ∀ (H' : Hp) (p : Addr), Same H H' → R p → H' p = some (.tup (xs.take j)) → Q (.ref p) H') : rSlA K (.ref a) none (some (j : Int)) H Q := by
  refine ⟨a, xs, rfl, .inl (.inl e), fun h => ?_, fun h p hp => ?_⟩
  · have : j = xs.length := by
      have := h.2
      rw [sIx_hi _ _ hj] at this
      exact this
    refine q H a (Same.refl H) ra ?_
    rw [e, this, List.take_length]
  · rw [cut_to xs j hj]
    exact q _ p (same_upd hp) (new p hp) upd_same
theorem rd_from {K : PySem.W.Frag} {R : Rgn} {H : Hp} {a : Addr} {xs : List V} {ds : List PyData} {j : Nat} {Q : VK} (ra : R a) (e : H a = some (.tup xs)) (t : Dats R H xs ds) (hj : j ≤ xs.length) (new : ∀ p, H p = none → R p)
    (q : ∀ (H' : Hp) (p : Addr), Same H H' → R p → H' p = some (.tup (xs.drop j)) → Q (.ref p) H') : rSlA K (.ref a) (some (j : Int)) none H Q := by
  refine ⟨a, xs, rfl, .inl (.inl e), fun h => ?_, fun h p hp => ?_⟩
  · have : j = 0 := by
      have := h.1
      rw [sIx_lo _ _ hj] at this
      exact this
    refine q H a (Same.refl H) ra ?_
    rw [e, this, List.drop_zero]
  · rw [cut_from xs j hj]
    exact q _ p (same_upd hp) (new p hp) upd_same
theorem rd_cat {K : PySem.W.Frag} {R : Rgn} {H : Hp} {a b : Addr} {xs ys : List V} {Q : VK} (ra : R a) (rb : R b) (ea : H a = some (.tup xs)) (eb : H b = some (.tup ys)) (hz : xs.length + ys.length ≤ 1000000) (new : ∀ p, H p = none → R p)
    (q : ∀ (H' : Hp) (p : Addr), Same H H' → R p → H' p = some (.tup (xs ++ ys)) → Q (.ref p) H') : rCatA K (.ref a) (.ref b) H Q := by
  refine ⟨a, b, xs, ys, rfl, rfl, .inl (.inl ea), .inl (.inl eb), by rw [sizeLine_eq]; omega, fun h => ?_, fun h h2 => ?_, fun h h2 p hp => ?_⟩
  · exact q H b (Same.refl H) rb (by rw [eb, h]; rfl)
  · exact q H a (Same.refl H) ra (by rw [ea, h2, List.append_nil])
  · exact q _ p (same_upd hp) (new p hp) upd_same
theorem np {σ : L2.St} {H : Hp} {Q : Option Int → Hp → Prop} (h : Q none H) : tNoPart σ H Q := h
theorem spoil_mid {ds : List PyData} {j : Nat} {y x : PyData} {S D : Nat} (ok : Ok S D (.tuple ds)) (hj : ds[j]? = some x) (oky : Ok (2 * wt x + 100) (D - 1 + 1) y) (hD : 1 ≤ D) : Ok (2 * S + 100) (D + 1) (.tuple (ds.take j ++ [y] ++ ds.drop (j + 1))) := by
  have h1 := ok.items
  have hw : 4 + wts ds ≤ S := ok.wt
  have hx : wt x + 2 ≤ wts ds := wts_mem (List.mem_of_getElem? hj)
  have hs := wts_take ds j
  rw [drop_at2 hj, wts] at hs
  have oks : Oks (2 * S + 96) D (ds.take j ++ [y] ++ ds.drop (j + 1)) := by
    refine ⟨fun d hd => ?_, ?_, fun d hd => ?_⟩
    · rcases List.mem_append.mp hd with hd | hd
      · rcases List.mem_append.mp hd with hd | hd
        · exact h1.fi d (List.mem_of_mem_take hd)
        · rw [List.mem_singleton.mp hd]
          exact oky.fi
      · exact h1.fi d (List.mem_of_mem_drop hd)
    · rw [wts_append, wts_append, wts, wts]
      have := oky.wt
      omega
    · rcases List.mem_append.mp hd with hd | hd
      · rcases List.mem_append.mp hd with hd | hd
        · have := h1.dp d (List.mem_of_mem_take hd)
          omega
        · rw [List.mem_singleton.mp hd]
          have := oky.dp
          omega
      · have := h1.dp d (List.mem_of_mem_drop hd)
        omega
  exact oks.tuple.mono (by omega) (by omega)
end
end Lb
set_option Elab.async false
set_option linter.all false
set_option maxRecDepth 100000
set_option maxHeartbeats 4000000
namespace Lb
open PySem PySem.Spec PyProof.Rows L2 RZ
/-! ### values of which only the size is known -/
def Vd (R : Rgn) (H : Hp) (S D : Nat) (v : V) : Prop := ∃ x, Dat R H v x ∧ Ok S D x
def Pk (R : Rgn) (H : Hp) (S D : Nat) (vs : List V) : Prop := ∃ ds, Dats R H vs ds ∧ Oks S D ds
structure Tp (R : Rgn) (H : Hp) (S D : Nat) (a : Addr) (xs : List V) : Prop where
  ra : R a
  at_ : H a = some (.tup xs)
  pk : Pk R H S D xs
section
variable {R : Rgn} {H H' : Hp} {S T D : Nat} {v : V} {a b p : Addr} {xs ys vs : List V} {K : PySem.W.Frag} {Q : VK}
theorem Vd.on (h : Vd R H S D v) (k : On R H H') : Vd R H' S D v := let ⟨x, d, o⟩ := h; ⟨x, d.on k, o⟩
theorem Vd.same (h : Vd R H S D v) (k : Same H H') : Vd R H' S D v := h.on (On.of k)
theorem Vd.mono {S' D' : Nat} (h : Vd R H S D v) (a : S ≤ S') (b : D ≤ D') : Vd R H S' D' v := let ⟨x, d, o⟩ := h; ⟨x, d, o.mono a b⟩
theorem Pk.on (h : Pk R H S D vs) (k : On R H H') : Pk R H' S D vs := let ⟨x, d, o⟩ := h; ⟨x, d.on k, o⟩
theorem Pk.same (h : Pk R H S D vs) (k : Same H H') : Pk R H' S D vs := h.on (On.of k)
theorem Pk.mono {S' D' : Nat} (h : Pk R H S D vs) (a : S ≤ S') (b : D ≤ D') : Pk R H S' D' vs := let ⟨x, d, o⟩ := h; ⟨x, d, o.mono a b⟩
theorem Pk.nil : Pk R H 0 D [] := ⟨[], .nil, (fun _ z => (List.not_mem_nil z).elim), Nat.le_refl _, (fun _ z => (List.not_mem_nil z).elim)⟩
theorem Pk.cons (h : Vd R H S D v) (t : Pk R H T D vs) : Pk R H (S + 2 + T) D (v :: vs) := by
  obtain ⟨x, d, o⟩ := h
  obtain ⟨ds, ts, os⟩ := t
  refine ⟨x :: ds, .cons d ts, ?_⟩
  have := (Oks.one o).append os
  exact this
theorem Pk.append (h : Pk R H S D xs) (t : Pk R H T D ys) : Pk R H (S + T) D (xs ++ ys) := by
  obtain ⟨ds, d, o⟩ := h
  obtain ⟨es, e, o2⟩ := t
  exact ⟨ds ++ es, d.append e, o.append o2⟩
theorem Pk.take (h : Pk R H S D xs) (n : Nat) : Pk R H S D (xs.take n) := let ⟨ds, d, o⟩ := h; ⟨ds.take n, d.take n, o.take n⟩
theorem Pk.drop (h : Pk R H S D xs) (n : Nat) : Pk R H S D (xs.drop n) := let ⟨ds, d, o⟩ := h; ⟨ds.drop n, d.drop n, o.drop n⟩
theorem Pk.len (h : Pk R H S D xs) : 2 * xs.length ≤ S := by
  obtain ⟨ds, d, o⟩ := h
  rw [d.length]
  exact Nat.le_trans (wts_len ds) o.wt
theorem Pk.rep (h : Pk R H S D xs) : ∀ n : Nat, Pk R H (n * S) D (List.replicate n xs).flatten
  | 0 => by
    rw [Nat.zero_mul]
    exact Pk.nil
  | n + 1 => by
    rw [List.replicate_succ, List.flatten_cons, Nat.succ_mul, Nat.add_comm]
    exact h.append (Pk.rep h n)
theorem Pk.get (h : Pk R H S D xs) {i : Nat} (e : xs[i]? = some v) : Vd R H S D v := by
  obtain ⟨ds, d, o⟩ := h
  obtain ⟨x, hx, dx⟩ := d.get' e
  exact ⟨x, dx, o.mem (List.mem_of_getElem? hx)⟩
theorem Vd.int (i : Int) (h : decide ((PyData.int i).shown.length ≤ 12) = true) (h2 : decide (i.natAbs.log2 < 1920) = true) : Vd R H 12 D (.int i) := ⟨.int i, .int i, h2, of_decide_eq_true h, by rw [PyData.depth]; exact Nat.zero_le _⟩
theorem Vd.bl (b : Bool) : Vd R H 12 D (.bl b) := ⟨.bool b, .bl b, rfl, by show 5 ≤ 12; decide, by rw [PyData.depth]; exact Nat.zero_le _⟩
theorem Vd.non : Vd R H 12 D .non := ⟨.none, .non, rfl, by show 4 ≤ 12; decide, by rw [PyData.depth]; exact Nat.zero_le _⟩
theorem Vd.str (x : Str) (h : decide ((reprText x).length ≤ 12) = true) : Vd R H 12 D (.str x) := ⟨.str x, .str x, rfl, of_decide_eq_true h, by rw [PyData.depth]; exact Nat.zero_le _⟩
theorem Vd.nat {g : Nat} (h : g ≤ 9) : Vd R H 12 D (.int (g : Int)) := by
  match g, h with
  | 0, _ | 1, _ | 2, _ | 3, _ | 4, _ | 5, _ | 6, _ | 7, _ | 8, _ | 9, _ => exact Vd.int _ (by decide +kernel) (by decide +kernel)
theorem Tp.val (t : Tp R H S D a xs) : Vd R H (S + 4) (D + 1) (.ref a) := by
  obtain ⟨ds, d, o⟩ := t.pk
  exact ⟨.tuple ds, .tup t.ra t.at_ d, o.tuple⟩
theorem Tp.on (t : Tp R H S D a xs) (k : On R H H') : Tp R H' S D a xs := ⟨t.ra, k _ _ t.ra t.at_, t.pk.on k⟩
theorem Tp.same (t : Tp R H S D a xs) (k : Same H H') : Tp R H' S D a xs := t.on (On.of k)
theorem Tp.new (h : Pk R H S D xs) (n : H p = none) (r : R p) : Tp R (upd H p (.tup xs)) S D p xs := ⟨r, upd_same, h.same (same_upd n)⟩
theorem rdT_cat (ta : Tp R H S D a xs) (tb : Tp R H T D b ys) (hz : S + T ≤ 1000000) (new : ∀ p, H p = none → R p) (q : ∀ (H' : Hp) (p : Addr), Same H H' → Tp R H' (S + T) D p (xs ++ ys) → Q (.ref p) H') : rCatA K (.ref a) (.ref b) H Q := by
  have l1 := ta.pk.len
  have l2 := tb.pk.len
  exact rd_cat ta.ra tb.ra ta.at_ tb.at_ (by omega) new fun H' p s r e => q H' p s ⟨r, e, (ta.pk.append tb.pk).same s⟩
theorem rdT_rep {k : Nat} (ta : Tp R H S D a xs) (hne : xs ≠ []) (hk : k ≤ 100) (hz : S ≤ 1000) (new : ∀ p, H p = none → R p) (q : ∀ (H' : Hp) (p : Addr), Same H H' → Tp R H' (k * S) D p (List.replicate k xs).flatten → Q (.ref p) H') : rRepA K (.ref a) (.int (k : Int)) H Q := by
  have l1 := ta.pk.len
  refine ⟨a, (k : Int), xs, rfl, rfl, .inl (.inl ta.at_), by omega, by omega, by omega, hne, fun h => ?_, fun h p hp => ?_⟩
  · have hk1 : k = 1 := by omega
    subst hk1
    have e1 : (List.replicate 1 xs).flatten = xs := by simp
    refine q H a (Same.refl H) ⟨ta.ra, by rw [e1]; exact ta.at_, ta.pk.rep 1⟩
  · rw [Int.toNat_natCast]
    exact q _ p (same_upd hp) (Tp.new (ta.pk.rep k) hp (new p hp))
theorem rdT_to {j : Nat} (ta : Tp R H S D a xs) (hj : j ≤ xs.length) (new : ∀ p, H p = none → R p) (q : ∀ (H' : Hp) (p : Addr), Same H H' → Tp R H' S D p (xs.take j) → Q (.ref p) H') : rSlA K (.ref a) none (some (j : Int)) H Q := by
  obtain ⟨ds, d, o⟩ := id ta.pk
  exact rd_to ta.ra ta.at_ d hj new fun H' p s r e => q H' p s ⟨r, e, (ta.pk.take j).same s⟩
theorem rdT_from {j : Nat} (ta : Tp R H S D a xs) (hj : j ≤ xs.length) (new : ∀ p, H p = none → R p) (q : ∀ (H' : Hp) (p : Addr), Same H H' → Tp R H' S D p (xs.drop j) → Q (.ref p) H') : rSlA K (.ref a) (some (j : Int)) none H Q := by
  obtain ⟨ds, d, o⟩ := id ta.pk
  exact rd_from ta.ra ta.at_ d hj new fun H' p s r e => q H' p s ⟨r, e, (ta.pk.drop j).same s⟩
theorem rdT_disp (pk : Pk R H S D xs) (hl : S ≤ 1000000) (new : ∀ p, H p = none → R p) (q : ∀ (H' : Hp) (p : Addr), Same H H' → Tp R H' S D p xs → Q (.ref p) H') : xs.length ≤ sizeLine ∧ ∀ p, H p = none → Q (.ref p) (upd H p (.tup xs)) := by
  have := pk.len
  exact ⟨by rw [sizeLine_eq]; omega, fun p hp => q _ p (same_upd hp) (Tp.new pk hp (new p hp))⟩
theorem rdL_disp (pk : Pk R H S D xs) (hl : S ≤ 1000000) (q : ∀ (H' : Hp) (p : Addr), Same H H' → H p = none → H' p = some (.lst xs) → Pk R H' S D xs → Q (.ref p) H') : xs.length ≤ sizeLine ∧ ∀ p, H p = none → Q (.ref p) (upd H p (.lst xs)) := by
  have := pk.len
  exact ⟨by rw [sizeLine_eq]; omega, fun p hp => q _ p (same_upd hp) hp upd_same (pk.same (same_upd hp))⟩
end
/-! ### sizes of markets and of what is told -/
theorem wt_amt {x : Int} (h : 0 ≤ x ∧ x ≤ 3) : fine (.int x) = true ∧ wt (.int x) = 1 := by
  obtain ⟨n, rfl⟩ : ∃ n : Nat, x = (n : Int) := ⟨x.toNat, by omega⟩
  have : n ≤ 3 := by omega
  match n, this with
  | 0, _ | 1, _ | 2, _ | 3, _ => exact ⟨by decide +kernel, by decide +kernel⟩
theorem wts_bag : ∀ {b : List Int}, (∀ x ∈ b, 0 ≤ x ∧ x ≤ 3) → wts (b.map PyData.int) = 3 * b.length
  | [], _ => rfl
  | x :: b, h => by
    rw [List.map_cons, wts, (wt_amt (h x List.mem_cons_self)).2, wts_bag fun y hy => h y (List.mem_cons_of_mem _ hy), List.length_cons]
    omega
theorem bag_ok {g m : Nat} {b : List Int} (s : Side g m b) (hg : g ≤ 4) : Ok 16 1 (bagD b) := by
  refine ⟨(fines_iff _).mpr fun d hd => ?_, ?_, ?_⟩
  · obtain ⟨x, hx, rfl⟩ := List.mem_map.mp hd
    exact (wt_amt (s.amt x hx)).1
  · show 4 + wts (b.map PyData.int) ≤ 16
    rw [wts_bag s.amt, s.len]
    omega
  · rw [PyData.depth, depth_ints]
    exact Nat.le_refl _
theorem trd_ok {g m : Nat} {t : Trd} (h : TrdOk g m t) (hg : g ≤ 4) : Ok 40 2 (trdD t) :=
  ((Oks.one (bag_ok h.1 hg)).append (Oks.one (bag_ok h.2 hg))).tuple.mono (by omega) (by omega)
theorem trds_ok {g m : Nat} (hg : g ≤ 4) : ∀ {ts : List Trd}, (∀ t ∈ ts, TrdOk g m t) → Oks (42 * ts.length) 2 (ts.map trdD)
  | [], _ => ⟨(fun _ z => (List.not_mem_nil z).elim), Nat.le_refl _, (fun _ z => (List.not_mem_nil z).elim)⟩
  | t :: ts, h => by
    have h1 := trd_ok (h t List.mem_cons_self) hg
    have h2 := trds_ok hg (ts := ts) fun x hx => h x (List.mem_cons_of_mem _ hx)
    have := (Oks.one h1).append h2
    exact this.mono (by rw [List.length_cons]; omega) (Nat.le_refl _)
theorem word_ok (w : Str) (h : decide ((reprText w).length ≤ 20) = true) (i : PyData) (hi : Ok 12 0 i) : Ok 100 2 (.tuple [i, .str w]) := by
  have h2 : Ok 20 0 (.str w) := ⟨rfl, of_decide_eq_true h, by rw [PyData.depth]; exact Nat.le_refl _⟩
  exact ((Oks.one hi).append (Oks.one h2)).tuple.mono (by omega) (by omega)
theorem non_ok : Ok 12 0 .none := ⟨rfl, by show 4 ≤ 12; decide, by rw [PyData.depth]; exact Nat.le_refl _⟩
theorem nat_ok {g : Nat} (h : g ≤ 9) : Ok 12 0 (.int (g : Int)) := by
  refine ⟨?_, ?_, by rw [PyData.depth]; exact Nat.le_refl _⟩
  · match g, h with
    | 0, _ | 1, _ | 2, _ | 3, _ | 4, _ | 5, _ | 6, _ | 7, _ | 8, _ | 9, _ => decide +kernel
  · match g, h with
    | 0, _ | 1, _ | 2, _ | 3, _ | 4, _ | 5, _ | 6, _ | 7, _ | 8, _ | 9, _ => decide +kernel
theorem tw_ok {g : Int} {t : PyData} {w : Str} (h : tw g t = some w) : decide ((reprText w).length ≤ 20) = true := by
  unfold tw at h
  split at h
  · split at h
    · split at h
      · cases h
        decide +kernel
      · split at h
        · cases h
          decide +kernel
        · cases h
    · cases h
      decide +kernel
  · cases h
    decide +kernel
theorem scan_ok {g : Int} : ∀ {ts : List PyData} {k : Nat}, k + ts.length ≤ 9 → Ok 100 2 (scan g ts k)
  | [], k, _ => non_ok.mono (by omega) (by omega)
  | t :: ts, k, h => by
    rw [List.length_cons] at h
    rw [scan_cons]
    cases e : tw g t with
    | none => exact scan_ok (ts := ts) (by omega)
    | some w => exact word_ok w (tw_ok e) _ (nat_ok (by omega))
theorem err_ok (d : PyData) : Ok 100 2 (mErr d) := by
  have e : ∀ w : Str, decide ((reprText w).length ≤ 20) = true → Ok 100 2 (errD w) := fun w h => word_ok w h _ non_ok
  unfold mErr
  split
  · split
    · split
      · exact scan_ok (by omega)
      · exact e _ (by decide +kernel)
    · exact e _ (by decide +kernel)
  · split
    · exact e _ (by decide +kernel)
    · exact e _ (by decide +kernel)
  · exact e _ (by decide +kernel)
  · exact e _ (by decide +kernel)
end Lb
set_option Elab.async false
set_option linter.all false
set_option maxRecDepth 100000
set_option maxHeartbeats 4000000
namespace Lb
open PySem PySem.Spec PyProof.Rows L2 RZ
section
variable {P : Program} {w : World} {K : PySem.W.Frag} {mg : Str → Option Value} {base : Heap}
theorem upd_dk {H : Hp} {d c r L : Addr} {n : Nat} {o : HO} (dk : Dk H d c r n) (h1 : L ≠ d) (h2 : L ≠ r) (h3 : L ≠ c) : Dk (upd H L o) d c r n := by
  obtain ⟨t, cs, rs, g1, g2, g3, g4, g5, g6, g7, w1, w2, w3⟩ := dk
  exact ⟨t, cs, rs, g1, g2, g3, g4, g5, g6, g7, by rw [upd_ne h1.symm]; exact w1, by rw [upd_ne h3.symm]; exact w2, by rw [upd_ne h2.symm]; exact w3⟩
theorem upd_rg {R : Rgn} {H : Hp} {d r L : Addr} {u o : HO} (g : Rg R H d r) (e : H L = some u) : Rg R (upd H L o) d r := by
  refine ⟨g.nd, g.nr, fun p hp => g.new p ?_⟩
  by_cases h : p = L
  · rw [h, upd_same] at hp
    cases hp
  · rw [upd_ne h] at hp
    exact hp
theorem tcI {v : V} {σ : L2.St} {H : Hp} {Q : VK} (h : Q v H) : tC v σ H Q := h
def Sz : Nat → Nat
  | 0 => 3000
  | n + 1 => 2 * Sz n + 100
theorem Sz_le {m : Nat} (h : m ≤ 5) : Sz m ≤ 100000 := by
  match m, h with
  | 0, _ | 1, _ | 2, _ | 3, _ | 4, _ | 5, _ => decide
theorem spoil21 {H : Hp} {Q : VK} {E : XK} {vs : List V} {R : Rgn} {d c r : Addr} {k : Nat} {v : V} {x : PyData} {S D : Nat} (e : vs = [.ref d, v]) (dk : Dk H d c r k) (hk : k + 200 < 2 ^ 35) (rg : Rg R H d r) (dx : Dat R H v x) (ox : Ok S D x) (hd : D ≤ 20) (hS : S ≤ 100000)
    (q : ∀ (H' : Hp) (u : V) (y : PyData), Ok (2 * S + 100) (D + 1) y → Dat R H' u y → Dk H' d c r (k + 210) → Kp d r H H' → Q u H') : spSpoil 21 vs H Q E :=
  ⟨R, d, c, r, k, v, x, S, D, e, dk, hk, rg, dx, ox, Nat.le_trans ox.dp hd, hS, q⟩
theorem ne_same {u : Str} {H : Hp} {Q : Bool → Hp → Prop} (h : Q false H) : rNe (.str u) (.str u) H fun x H' => ∃ k, x = .bl k ∧ Q k H' := ⟨rfl, false, by simp, h⟩
theorem iteF' {A B : Prop} (h : B) : if false = true then A else B := h
def R0 (d r : Addr) : Rgn := fun b => b ≠ d ∧ b ≠ r
theorem rg0 {H : Hp} {d c r : Addr} {n : Nat} (dk : Dk H d c r n) : Rg (R0 d r) H d r := ⟨fun z => z.1 rfl, fun z => z.2 rfl, fun p e => ⟨(dk.nd e).1, (dk.nd e).2.1⟩⟩
def spLaw (K : PySem.W.Frag) : Sp := fun vs H Q _ => ∃ (a : Addr) (ns : List Int), vs = [.ref a] ∧ SqL K H a (ns.map V.int) ∧ ns.length ≤ 63 ∧ ∀ H', Q (.bl true) H'
end
end Lb
set_option Elab.async false
set_option linter.all false
set_option maxRecDepth 100000
set_option maxHeartbeats 4000000
namespace Lb
open PySem PySem.Spec PyProof.Rows L2 RZ
/-! ### what a step leaves -/
def geB (x y : List Int) : Bool := (List.zipWith (fun a b => decide (a ≥ b)) x y).all id
abbrev minusL (x y : List Int) : List Int := List.zipWith (· - ·) x y
abbrev plusL (x y : List Int) : List Int := List.zipWith (· + ·) x y
def exch (x t p : List Int) : Option (List Int) := if geB x t = true then some (plusL (minusL x t) p) else none
def behind (ts : List Trd) (x : List Int) (k : Nat) (b : Bool) : Option (List Int) :=
  match ts[k]? with
  | none => none
  | some t => if b = true then exch x t.2 t.1 else exch x t.1 t.2
def optD : Option (List Int) → PyData
  | none => .none
  | some b => bagD b
theorem zipW_take {α : Type} {f : Int → Int → α} : ∀ {a b : List Int} {i : Nat} {x y : Int}, a[i]? = some x → b[i]? = some y → (List.zipWith f a b).take (i + 1) = (List.zipWith f a b).take i ++ [f x y]
  | x' :: a, y' :: b, 0, x, y, h1, h2 => by
    have e1 : x' = x := Option.some.inj h1
    have e2 : y' = y := Option.some.inj h2
    rw [e1, e2]
    rfl
  | x' :: a, y' :: b, i + 1, x, y, h1, h2 => by
    rw [List.zipWith_cons_cons, List.take_succ_cons, List.take_succ_cons, zipW_take (i := i) (x := x) (y := y) h1 h2]
    rfl
theorem zipW_at {f : Int → Int → Int} {a b : List Int} {i : Nat} {x y : Int} (h1 : a[i]? = some x) (h2 : b[i]? = some y) : (List.zipWith f a b)[i]? = some (f x y) := by
  rw [List.getElem?_zipWith, h1, h2]
theorem geB_cons (a b : Int) (x y : List Int) : geB (a :: x) (b :: y) = (decide (a ≥ b) && geB x y) := rfl
theorem geB_take : ∀ {x y : List Int} {i : Nat} {u v : Int}, x[i]? = some u → y[i]? = some v → geB (x.take (i + 1)) (y.take (i + 1)) = (geB (x.take i) (y.take i) && decide (u ≥ v))
  | a :: x, b :: y, 0, u, v, h1, h2 => by
    have e1 : a = u := Option.some.inj h1
    have e2 : b = v := Option.some.inj h2
    subst e1 e2
    show (decide (a ≥ b) && true) = (true && decide (a ≥ b))
    rw [Bool.and_true, Bool.true_and]
  | a :: x, b :: y, i + 1, u, v, h1, h2 => by
    rw [List.take_succ_cons, List.take_succ_cons, geB_cons, geB_take (i := i) (u := u) (v := v) h1 h2, List.take_succ_cons, List.take_succ_cons, geB_cons, Bool.and_assoc]
/-! ### the promises of the steps' defs -/
def spHolds (K : PySem.W.Frag) : Sp := fun vs H Q _ => ∃ (a b : Addr) (x y : List Int), vs = [.ref a, .ref b] ∧ SqT K H a (x.map V.int) ∧ SqT K H b (y.map V.int) ∧ x.length = y.length ∧ x.length ≤ 1000 ∧ ∀ H', Same H H' → Q (.bl (geB x y)) H'
/-- a new bag, or None -/
def OptAt (H H' : Hp) (v : V) : Option (List Int) → Prop
  | none => v = .non
  | some b => ∃ p, v = .ref p ∧ H p = none ∧ H' p = some (.tup (b.map V.int))
def spExch (K : PySem.W.Frag) : Sp := fun vs H Q _ => ∃ (a b c : Addr) (x y z : List Int), vs = [.ref a, .ref b, .ref c] ∧ SqT K H a (x.map V.int) ∧ SqT K H b (y.map V.int) ∧ SqT K H c (z.map V.int) ∧ x.length = y.length ∧ x.length = z.length ∧ x.length ≤ 1000 ∧
  ∀ (H' : Hp) (v : V), Same H H' → OptAt H H' v (exch x y z) → Q v H'
def spMinus (K : PySem.W.Frag) : Sp := fun vs H Q _ => ∃ (a b : Addr) (x y : List Int), vs = [.ref a, .ref b] ∧ SqT K H a (x.map V.int) ∧ SqT K H b (y.map V.int) ∧ x.length = y.length ∧ x.length ≤ 1000 ∧
  ∀ (H' : Hp) (p : Addr), Same H H' → H p = none → H' p = some (.tup ((minusL x y).map V.int)) → Q (.ref p) H'
/-- trades of so many goods -/
def Even (g : Nat) (ts : List Trd) : Prop := ∀ t ∈ ts, t.1.length = g ∧ t.2.length = g
theorem MktOk.even {g : Nat} {ts : List Trd} (m : MktOk g ts) : Even g ts := fun t ht => ⟨(m.all t ht).1.len, (m.all t ht).2.len⟩
theorem exch_len {x t p b : List Int} (h1 : x.length = t.length) (h2 : x.length = p.length) (e : exch x t p = some b) : b.length = x.length := by
  unfold exch at e
  split at e
  · cases e
    rw [List.length_zipWith, List.length_zipWith]
    omega
  · cases e
theorem behind_len {g : Nat} {ts : List Trd} {x b : List Int} {k : Nat} {c : Bool} (hE : Even g ts) (hx : x.length = g) (e : behind ts x k c = some b) : b.length = g := by
  unfold behind at e
  split at e
  · cases e
  · rename_i t ht
    obtain ⟨h1, h2⟩ := hE t (List.mem_of_getElem? ht)
    split at e
    · rw [exch_len (by omega) (by omega) e, hx]
    · rw [exch_len (by omega) (by omega) e, hx]
def stepD (k : Nat) (b : Bool) : PyData := .tuple [.int (k : Int), .bool b]
/-- the market, the stock, the step: all plain data -/
def spAfter : Sp := fun vs H Q _ => ∃ (R : Rgn) (m s t : V) (g : Nat) (ts : List Trd) (x : List Int) (k : Nat) (b : Bool), vs = [m, s, t] ∧ Dat R H m (mktD g ts) ∧ Dat R H s (bagD x) ∧ Dat R H t (stepD k b) ∧ Even g ts ∧ g ≤ 1000 ∧ x.length = g ∧ k < ts.length ∧ (∀ p, H p = none → R p) ∧
  ∀ (H' : Hp) (v : V), Same H H' → Dat R H' v (optD (behind ts x k b)) → Q v H'
/-- the law's own: the trades, the stock, the index, whether back -/
def spBehind : Sp := fun vs H Q _ => ∃ (R : Rgn) (m s : V) (g : Nat) (ts : List Trd) (x : List Int) (k : Nat) (b : Bool), vs = [m, s, .int (k : Int), .bl b] ∧ Dat R H m (.tuple (ts.map trdD)) ∧ Dat R H s (bagD x) ∧ Even g ts ∧ g ≤ 1000 ∧ x.length = g ∧ k < ts.length ∧ (∀ p, H p = none → R p) ∧
  ∀ (H' : Hp) (v : V), Same H H' → Dat R H' v (optD (behind ts x k b)) → Q v H'
theorem optAt_dat {R : Rgn} {H H' : Hp} {v : V} {o : Option (List Int)} (h : OptAt H H' v o) (new : ∀ p, H p = none → R p) : Dat R H' v (optD o) := by
  cases o with
  | none =>
    obtain rfl : v = .non := h
    exact .non
  | some b =>
    obtain ⟨p, rfl, n, e⟩ := h
    exact Dat.mkBag (new p n) e
/-- the parts of a pair that is plain data -/
theorem Dat.pair {R : Rgn} {H : Hp} {v : V} {x y : PyData} (h : Dat R H v (.tuple [x, y])) : ∃ a u w, v = .ref a ∧ R a ∧ H a = some (.tup [u, w]) ∧ Dat R H u x ∧ Dat R H w y := by
  cases h with
  | tup ra e t =>
    cases t with
    | cons h1 t =>
      cases t with
      | cons h2 t =>
        cases t
        exact ⟨_, _, _, rfl, ra, e, h1, h2⟩
theorem Dat.tupI {R : Rgn} {H : Hp} {v : V} {ds : List PyData} (h : Dat R H v (.tuple ds)) : ∃ a xs, v = .ref a ∧ R a ∧ H a = some (.tup xs) ∧ Dats R H xs ds := by
  cases h with
  | tup ra e t => exact ⟨_, _, rfl, ra, e, t⟩
theorem Dat.intI {R : Rgn} {H : Hp} {v : V} {i : Int} (h : Dat R H v (.int i)) : v = .int i := by
  cases h
  rfl
theorem Dat.blI {R : Rgn} {H : Hp} {v : V} {b : Bool} (h : Dat R H v (.bool b)) : v = .bl b := by
  cases h
  rfl
theorem Dat.nonI {R : Rgn} {H : Hp} {v : V} (h : Dat R H v .none) : v = .non := by
  cases h
  rfl
/-- a bag drawn -/
def spBag : Sp := fun vs H Q _ => ∃ (d c r : Addr) (n g m : Nat), vs = [.ref d, .int (g : Int), .int (m : Int)] ∧ Dk H d c r n ∧ n < 2 ^ 38 ∧ g ≤ 1000 ∧ m ≤ 1000 ∧
  ∀ (H' : Hp) (p : Addr) (b : List Int), b.length = g → (∀ x ∈ b, 0 ≤ x ∧ x ≤ (m : Int)) → H p = none → H' p = some (.tup (b.map V.int)) → Dk H' d c r (n + g) → Kp d r H H' → Q (.ref p) H'
end Lb
set_option Elab.async false
set_option linter.all false
set_option maxRecDepth 100000
set_option maxHeartbeats 4000000
namespace Lb
open PySem PySem.Spec PyProof.Rows L2 RZ
/-! ### defs that may raise -/
structure OwnX (P : Program) (w : World) (K : PySem.W.Frag) (mg : Str → Option Value) (base : Heap) (x : Str) (k : Nat) (ps : List Str) (sp : Sp) : Prop where
  ex : ∃ (f : Addr) (fd : FuncData), FnOk P w K mg base (L2.CX P w) k f fd ps sp ∧ mg x = some (.ref f) ∧ PySem.W.keepIn K (.ref f) = true ∧ Binds K fd ps []
section
variable {P : Program} {w : World} {K : PySem.W.Frag} {mg : Str → Option Value} {base : Heap}
theorem ownX_of {x : Str} {st : Stmt} {N ps : List Str} {k : Nat} {sp : Sp} (D : Df K mg x st) (S : FnScope N ps (defScope st))
    (hb : ∀ (kV doc pm : Value) (an : Option Addr) (cdv ct : Value) (us : List Value), us.length = ps.length → bindArgs (PySem.W.fnOf x x (defArgs st) (defBody st) (defScope st) .none kV doc pm an cdv ct) ⟨us, []⟩ = pure (ps.zip us))
    (len : ∀ vs H Q E, sp vs H Q E → vs.length = ps.length)
    (hbody : ∀ (f : Addr) (cdv : Value) (A : Around) (outer : List Env) (s : Shared) (H : Hp) (vs : List V) (Q : VK) (E : XK), Room k (A.deeper (envOfC x (defScope st) s.heap.objs.size f cdv)) → sp vs H Q E →
      ∃ t, PSs (cxOf (L2.CX P w) P w K mg base N x (defScope st) f cdv A outer s H E) (defBody st) t ∧ t { nx := fun _ H' => Q .non H', rt := Q } (start N vs) H) : OwnX P w K mg base x (k + 1) ps sp := by
  obtain ⟨f, fd, F, m⟩ := D.ex
  exact ⟨f, fd, F.okX S len (hbody f), m, F.kp, F.binds hb⟩
/-! ### an error class of one field -/
/-- what __init__ leaves of a new error -/
def spIni (C : Addr) (fld : Str) : Sp := fun vs H Q _ => ∃ (a : Addr) (v : V), vs = [.ref a, v] ∧ H a = some (exo a C none) ∧ ∀ dx, H dx = none → dx ≠ a → Q .non (upd (upd H dx (exd dx [(fld, v)])) a (exo a C (some dx)))
structure Err1 (P : Program) (w : World) (K : PySem.W.Frag) (mg : Str → Option Value) (base : Heap) (x fld : Str) (C : Addr) : Prop where
  gC : mg x = some (.ref C)
  ox : OexC K C
  xf : XfC K C
  no : PySem.W.findIn K (.ref C) fld = some none
  te : PySem.W.exmOne K (.ref C) (.ref C) = some true
  ini : ∃ (fI : Addr) (fd : FuncData), PySem.W.findIn K (.ref C) "__init__" = some (some (.ref fI)) ∧ PySem.W.typeIn K (.ref fI) = some (.type "function") ∧ FnOk P w K mg base CX0 1 fI fd ["self", fld] (spIni C fld) ∧ Binds K fd ["self", fld] []
end
theorem pmk_err {X : Cx} {x fld : Str} {C : Addr} {e : Expr} {ta : TA} {p pos : Pos} (T : Err1 X.prog X.w X.K X.mg X.base x fld C) (hr : Room 2 X.A) (hg : Gl X x) (ha : PA X [e] ta)
    (hdb : (x == ("__debug__" : Str)) = false := by decide) (he : starEach [e] X.env = (false, eval e X.env) :: starEach [] X.env := by rfl) (hpl : (backTo pos (starEach [] X.env)).any (·.1) = false := by rfl) :
    PMk X (.Call (.Name x p) [e] [] pos) (tMkO C (spIni C fld) [] ta) := by
  obtain ⟨fI, fd, iC, tI, F1, hb⟩ := T.ini
  exact pmk_oex T.ox iC tI F1 hr hb .nil pass0 hg T.gC ha hdb he hpl
/-- what the raising of such an error asks -/
theorem err_in {C : Addr} {fld : Str} {v : V} {H1 : Hp} {Q : XK} (h : ∀ d, H1 d = none → Q (.ref C) (some d) (upd H1 d (.xd [(fld, v)]))) :
    [v].length ≤ 1000 ∧ ∀ a, H1 a = none → spIni C fld (.ref a :: ([v] ++ [])) (upd H1 a (exo a C none)) (fun u H2 => u = .non ∧ ∃ (d : Addr) (fs : List (Str × V)), H2 a = some (exo a C (some d)) ∧ H2 d = some (exd d fs) ∧ H1 d = none ∧ Q (.ref C) (some d) (upd (del H2 a) d (.xd fs))) (fun _ _ _ => False) := by
  refine ⟨by show 1 ≤ 1000; omega, fun a ha => ⟨a, v, rfl, upd_same, fun dx hd ne => ⟨rfl, dx, [(fld, v)], upd_same, ?_, ?_, ?_⟩⟩⟩
  · rw [upd_ne ne, upd_same]
  · rw [upd_ne ne] at hd
    exact hd
  · have e : upd (del (upd (upd (upd H1 a (exo a C none)) dx (exd dx [(fld, v)])) a (exo a C (some dx))) a) dx (.xd [(fld, v)]) = upd H1 dx (.xd [(fld, v)]) := by
      funext b
      by_cases h1 : b = dx
      · rw [h1, upd_same, upd_same]
      · rw [upd_ne h1, upd_ne h1]
        by_cases h2 : b = a
        · rw [h2, del_same, ha]
        · rw [del_ne h2, upd_ne h2, upd_ne h1, upd_ne h2]
    rw [e]
    rw [upd_ne ne] at hd
    exact h dx hd
/-! ### lambdas -/
theorem takes_len {X : Cx} {W : WX} (t : Takes X W) : Takes X (fun c d σ H => σ.length = X.N.length → W c d σ H) := fun u s' ⟨a, B, sI, pins, σ, H, cls, d, e, I, nb, up, sky, na, os, ag, w⟩ =>
  t u s' ⟨a, B, sI, pins, σ, H, cls, d, e, I, nb, up, sky, na, os, ag, w I.len⟩
mutual
theorem Dat.extN {R : Rgn} {H H' : Hp} (k : LamX.ExtN H H') : ∀ {v : V} {d : PyData}, Dat R H v d → Dat R H' v d
  | _, _, .non => .non
  | _, _, .bl b => .bl b
  | _, _, .int i => .int i
  | _, _, .str x => .str x
  | _, _, .tup ra e h => .tup ra (k _ _ e fun _ z => nomatch z) (Dats.extN k h)
  | _, _, .lst ra e h => .lst ra (k _ _ e fun _ z => nomatch z) (Dats.extN k h)
  | _, _, .emp ra e => .emp ra (k _ _ e fun _ z => nomatch z)
theorem Dats.extN {R : Rgn} {H H' : Hp} (k : LamX.ExtN H H') : ∀ {v : List V} {d : List PyData}, Dats R H v d → Dats R H' v d
  | _, _, .nil => .nil
  | _, _, .cons h t => .cons (Dat.extN k h) (Dats.extN k t)
end
theorem Dk.extN {H H' : Hp} {d c r : Addr} {n : Nat} (h : Dk H d c r n) (k : LamX.ExtN H H') : Dk H' d c r n := by
  obtain ⟨t, cs, rs, g1, g2, g3, g4, g5, g6, g7, w1, w2, w3⟩ := h
  exact ⟨t, cs, rs, g1, g2, g3, g4, g5, g6, g7, k _ _ w1 (fun _ z => nomatch z), k _ _ w2 (fun _ z => nomatch z), k _ _ w3 (fun _ z => nomatch z)⟩
theorem extN_free {H H' : Hp} (k : LamX.ExtN H H') (T : ∀ b ps, H b = some (.tbl ps) → ∃ ps', H' b = some (.tbl ps')) {p : Addr} (e : H' p = none) : H p = none := by
  cases h : H p with
  | none => rfl
  | some o =>
    by_cases ht : ∃ ps, o = .tbl ps
    · obtain ⟨ps, rfl⟩ := ht
      obtain ⟨ps', e'⟩ := T _ _ h
      rw [e'] at e
      cases e
    · rw [k _ _ h fun ps z => ht ⟨ps, z⟩] at e
      cases e
theorem tabs_kp {T : List (Addr × Str)} {H H' : Hp} {d c r : Addr} {n : Nat} (t : LamX.Tabs T H) (dk : Dk H d c r n) (k : Kp d r H H') : LamX.Tabs T H' := by
  obtain ⟨_, _, _, _, _, _, _, _, _, _, w1, _, w3⟩ := dk
  have nd : ∀ {b : Addr} {o : HO}, H b = some o → (∀ xs, o ≠ .lst xs) → H' b = some o := fun {b o} e ne => by
    refine k b o (fun z => ?_) (fun z => ?_) e
    · rw [z, w1] at e
      exact ne _ (Option.some.inj e).symm
    · rw [z, w3] at e
      exact ne _ (Option.some.inj e).symm
  intro p hp
  obtain ⟨ps, h1, h2, h3⟩ := t p hp
  refine ⟨ps, nd h1 (fun _ z => nomatch z), h2, fun pos cv hc => ?_⟩
  obtain ⟨cc, e1, e2⟩ := h3 pos cv hc
  refine ⟨cc, e1, nd e2 fun xs z => ?_⟩
  unfold LamX.CodeO at z
  cases z
/-- what the catching def makes of the lambda -/
def TFound (C : Addr) (fld : Str) : (XK → Hp → VK → Prop) → Hp → VK → Prop := fun tl H Q =>
  tl (fun cls d H' => cls = .ref C ∧ ∃ (dd : Addr) (v : V), d = some dd ∧ H' dd = some (.xd [(fld, v)]) ∧ ∀ p, H' p = none → Q (.ref p) (upd H' p (.lst [.str "bad", v]))) H
    (fun v H' => [V.str "ok", v].length ≤ sizeLine ∧ ∀ p, H' p = none → Q (.ref p) (upd H' p (.lst [.str "ok", v])))
/-! ### walks -/
inductive Walk where
  | ok (l : List (List Int))
  | bad (i : Int)
def stepOf (n : Nat) : PyData → Option (Nat × Bool)
  | .tuple [.int k, .bool b] => if 0 ≤ k ∧ k < (n : Int) then some (k.toNat, b) else none
  | _ => none
def nxt (ts : List Trd) (cur : List Int) (d : PyData) : Option (List Int) :=
  match stepOf ts.length d with
  | none => none
  | some (k, b) => behind ts cur k b
def goW (ts : List Trd) : List PyData → List (List Int) → List Int → Nat → Walk
  | [], way, cur, _ => .ok (way ++ [cur])
  | d :: ds, way, cur, i => match nxt ts cur d with
    | none => .bad (i : Int)
    | some c => goW ts ds (way ++ [cur]) c (i + 1)
def walkM (ts : List Trd) (x : List Int) : PyData → Walk
  | .tuple ds => goW ts ds [] x 0
  | _ => .bad (-1)
def walkD : Walk → PyData
  | .ok l => .list [.str "ok", .tuple (l.map bagD)]
  | .bad i => .list [.str "bad", .int i]
theorem nxt_len {g : Nat} {ts : List Trd} {cur c : List Int} {d : PyData} (hE : Even g ts) (hc : cur.length = g) (e : nxt ts cur d = some c) : c.length = g := by
  unfold nxt at e
  split at e
  · cases e
  · exact behind_len hE hc e
def spIsStep : Sp := fun vs H Q _ => ∃ (R : Rgn) (m v : V) (g : Nat) (ts : List Trd) (d : PyData), vs = [m, v] ∧ Dat R H m (mktD g ts) ∧ Dat R H v d ∧ Q (.bl (stepOf ts.length d).isSome) H
def spIsStep2 : Sp := fun vs H Q _ => ∃ (R : Rgn) (v : V) (n : Nat) (d : PyData), vs = [v, .int (n : Int)] ∧ Dat R H v d ∧ Q (.bl (stepOf n d).isSome) H
theorem stepOf_some {n : Nat} {d : PyData} {k : Nat} {b : Bool} (h : stepOf n d = some (k, b)) : d = stepD k b ∧ k < n := by
  unfold stepOf at h
  split at h
  · rename_i k' b'
    split at h
    · rename_i hk
      cases h
      refine ⟨?_, by omega⟩
      show PyData.tuple [.int k', .bool b] = .tuple [.int ((k'.toNat : Nat) : Int), .bool b]
      rw [Int.toNat_of_nonneg hk.1]
    · cases h
  · cases h
/-- what the walk promises: the stocks, or the error with its index -/
def spWalk (C : Addr) : Sp := fun vs H Q E => ∃ (R : Rgn) (m s t : V) (g : Nat) (ts : List Trd) (x : List Int) (d : PyData), vs = [m, s, t] ∧ Dat R H m (mktD g ts) ∧ Dat R H s (bagD x) ∧ Dat R H t d ∧ wt d ≤ 1000000 ∧ Even g ts ∧ g ≤ 1000 ∧ x.length = g ∧ (∀ p, H p = none → R p) ∧
  (∀ (l : List (List Int)) (H' : Hp) (v : V), walkM ts x d = .ok l → Same H H' → Dat R H' v (.tuple (l.map bagD)) → Q v H') ∧
  ∀ (i : Int) (H' : Hp) (dd : Addr), walkM ts x d = .bad i → Same H H' → H dd = none → H' dd = some (.xd [("index", .int i)]) → E (.ref C) (some dd) H'
def spDue : Sp := fun vs H Q _ => ∃ (R : Rgn) (m s t : V) (g : Nat) (ts : List Trd) (x : List Int) (d : PyData), vs = [m, s, t] ∧ Dat R H m (mktD g ts) ∧ Dat R H s (bagD x) ∧ Dat R H t d ∧ wt d ≤ 1000000 ∧ Even g ts ∧ g ≤ 1000 ∧ x.length = g ∧ (∀ p, H p = none → R p) ∧
  ∀ (H' : Hp) (v : V), Same H H' → Dat R H' v (walkD (walkM ts x d)) → Q v H'
end Lb
set_option Elab.async false
set_option linter.all false
set_option maxRecDepth 100000
set_option maxHeartbeats 4000000
namespace Lb
open PySem PySem.Spec PyProof.Rows L2 RZ
/-! ### the law's own def, its code object told -/
theorem fnG_ofC {P : Program} {w : World} {K : PySem.W.Frag} {mg : Str → Option Value} {base : Heap} {k : Nat} {f c : Addr} {x : Str} {st : Stmt} {N ps : List Str} {sp : Sp} {oc : Value} {od an : Option Addr} {osl : Array (Option Value)} {kV doc pm ct : Value}
    (lk : K.lookup f = some ⟨oc, od, .func (PySem.W.fnOf x x (defArgs st) (defBody st) (defScope st) .none kV doc pm an (.ref c) ct), osl⟩) (hcd : PySem.W.codeIn K (.ref c) x = true) (S : FnScope N ps (defScope st)) (len : ∀ vs H Q E, sp vs H Q E → vs.length = ps.length)
    (hbody : ∀ (A : Around) (outer : List Env) (s : Shared) (H : Hp) (vs : List V) (Q : VK) (E : XK), (cxOf CX0 P w K mg base N x (defScope st) f (.ref c) A outer s H E).nox.A.guards = some [] → Room k (A.deeper (envOfC x (defScope st) s.heap.objs.size f (.ref c))) → sp vs H Q E →
      ∃ t, PSs (cxOf CX0 P w K mg base N x (defScope st) f (.ref c) A outer s H E).nox (defBody st) t ∧ t { nx := fun _ H' => Q .non H', rt := Q } (start N vs) H) :
    FnG P w K mg base CX0 (k + 1) f (PySem.W.fnOf x x (defArgs st) (defBody st) (defScope st) .none kV doc pm an (.ref c) ct) ps sp := by
  refine ⟨len, fun A outer s H args us vs Q E hg hr e0 hb r hsp => ?_⟩
  have hl := len _ _ _ _ hsp
  have kin : K.In s.heap := e0.mod.kin.keeps fun b o z => (e0.bs b o z).1
  have lim : s.heap.NoLimit := e0.mod.nolimit.keeps fun b o z => (e0.bs b o z).1
  have kinds : ∀ y ∈ ps.zip us, (defScope st).names.lookup y.1 = some .local ∨ ((defScope st).names.lookup y.1 = some .cell ∧ ((cellsFrom (s.heap.objs.size + 1) (defScope st).names []).lookup y.1).isSome = true) := by
    rintro ⟨n, v⟩ hy
    rcases S.par n (List.of_mem_zip hy).1 with z | z
    · exact .inl z
    · exact .inr ⟨z, PySem.W.cellsFrom_some _ _ _ (.inl z)⟩
  refine codeAny_call_function hr.depth (kin _ _ lk) rfl S.co S.gen rfl (PySem.W.codeRec_of kin hcd) (hb _ _ _ _ ?_)
  refine wpAny_newFunctionEnv_cells S.kind kinds fun env he s1 inc => ?_
  subst he
  refine ⟨lim.keeps inc.toInCall.keep, codeAny_func ?_⟩
  obtain ⟨t, ht, hq⟩ := hbody A outer s H vs Q E hg (hr.deeper _) hsp
  have I : Inv (cxOf CX0 P w K mg base N x (defScope st) f (.ref c) A outer s H E) [] (start N vs) H s1 := inv_start S hr.hd e0 hl r inc
  refine wpAny_mono (ht.nox.run [] s1 (start N vs) H _ I hq) (fun fl s' hs => ?_) fun e s' hs => hs
  cases fl with
  | ret u =>
    obtain ⟨v, σ', H', J, rv, q⟩ := hs
    exact ⟨v, H', J.os, J.bare, J.base, J.hok, rv, q⟩
  | next =>
    obtain ⟨σ', H', J, q⟩ := hs
    exact ⟨.non, H', J.os, J.bare, J.base, J.hok, rfl, q⟩
  | brk =>
    obtain ⟨_, _, _, q⟩ := hs
    exact q.elim
  | cont =>
    obtain ⟨_, _, _, q⟩ := hs
    exact q.elim
/-- the law's promise, its table of code objects empty as yet -/
def spLawT (K : PySem.W.Frag) (Pt : Addr) : Sp := fun vs H Q _ => ∃ (a : Addr) (ns : List Int), vs = [.ref a] ∧ SqL K H a (ns.map V.int) ∧ ns.length ≤ 63 ∧ H Pt = some (.tbl #[]) ∧ ∀ H', Q (.bl true) H'
/-! ### amounts on the way -/
def Amts (B : Int) (b : List Int) : Prop := ∀ x ∈ b, 0 ≤ x ∧ x ≤ B
theorem Amts.mono {B B' : Int} {b : List Int} (h : Amts B b) (l : B ≤ B') : Amts B' b := fun x hx => ⟨(h x hx).1, Int.le_trans (h x hx).2 l⟩
theorem minus_amts {B : Int} : ∀ {x t : List Int}, geB x t = true → Amts B x → (∀ y ∈ t, 0 ≤ y) → Amts B (minusL x t)
  | [], [], _, _, _ => fun z hz => absurd hz List.not_mem_nil
  | [], _ :: _, _, _, _ => fun z hz => absurd hz List.not_mem_nil
  | _ :: _, [], _, _, _ => fun z hz => absurd hz List.not_mem_nil
  | a :: x, b :: t, h, hx, ht => by
    rw [geB_cons, Bool.and_eq_true] at h
    have h1 := of_decide_eq_true h.1
    have h2 := hx a List.mem_cons_self
    have h3 := ht b List.mem_cons_self
    intro z hz
    rcases List.mem_cons.mp hz with rfl | hz
    · show 0 ≤ a - b ∧ a - b ≤ B
      omega
    · exact minus_amts h.2 (fun y hy => hx y (List.mem_cons_of_mem _ hy)) (fun y hy => ht y (List.mem_cons_of_mem _ hy)) z hz
theorem exch_amts {B : Int} {x t p b : List Int} (hx : Amts B x) (ht : ∀ y ∈ t, 0 ≤ y) (hp : Amts 3 p) (e : exch x t p = some b) : Amts (B + 3) b := by
  unfold exch at e
  split at e
  · rename_i hg
    cases e
    intro z hz
    obtain ⟨u, hu, v, hv, rfl⟩ := mem_zip hz
    have h1 := minus_amts hg hx ht u hu
    have h2 := hp v hv
    omega
  · cases e
theorem behind_amts {g m : Nat} {B : Int} {ts : List Trd} {x c : List Int} {k : Nat} {b : Bool} (hE : ∀ t ∈ ts, TrdOk g m t) (hx : Amts B x) (e : behind ts x k b = some c) : Amts (B + 3) c := by
  unfold behind at e
  split at e
  · cases e
  · rename_i t ht
    have h := hE t (List.mem_of_getElem? ht)
    split at e
    · exact exch_amts hx (fun y hy => (h.2.amt y hy).1) h.1.amt e
    · exact exch_amts hx (fun y hy => (h.1.amt y hy).1) h.2.amt e
theorem nxt_amts {g m : Nat} {B : Int} {ts : List Trd} {x c : List Int} {d : PyData} (hE : ∀ t ∈ ts, TrdOk g m t) (hx : Amts B x) (e : nxt ts x d = some c) : Amts (B + 3) c := by
  unfold nxt at e
  split at e
  · cases e
  · exact behind_amts hE hx e
theorem goW_ok {g m : Nat} {M : Int} {ts : List Trd} (hE : ∀ t ∈ ts, TrdOk g m t) : ∀ (ds : List PyData) (way : List (List Int)) (cur : List Int) (i : Nat) (B : Int), (∀ b ∈ way, Amts M b ∧ b.length = g) → Amts B cur → cur.length = g → B + 3 * (ds.length : Int) ≤ M →
    (∀ l, goW ts ds way cur i = .ok l → (∀ b ∈ l, Amts M b ∧ b.length = g) ∧ l.length ≤ way.length + 1 + ds.length) ∧ ∀ j, goW ts ds way cur i = .bad j → 0 ≤ j ∧ j ≤ (i : Int) + ds.length
  | [], way, cur, i, B, hw, hc, hl, hM => by
    refine ⟨fun l e => ?_, fun j e => by rw [goW] at e; cases e⟩
    rw [goW] at e
    cases e
    refine ⟨fun b hb => ?_, by rw [List.length_append, List.length_singleton]; exact Nat.le_refl _⟩
    rcases List.mem_append.mp hb with h | h
    · exact hw b h
    · rw [List.mem_singleton.mp h]
      exact ⟨hc.mono (by simpa using hM), hl⟩
  | d :: ds, way, cur, i, B, hw, hc, hl, hM => by
    have hEv : Even g ts := fun t ht => ⟨(hE t ht).1.len, (hE t ht).2.len⟩
    rw [List.length_cons] at hM
    have hM' : B + 3 * ((ds.length : Int) + 1) ≤ M := by
      have : ((ds.length + 1 : Nat) : Int) = (ds.length : Int) + 1 := by omega
      rw [this] at hM
      exact hM
    cases hn : nxt ts cur d with
    | none =>
      refine ⟨fun l e => ?_, fun j e => ?_⟩
      · rw [goW, hn] at e
        cases e
      · rw [goW, hn] at e
        cases e
        omega
    | some c =>
      have ih := goW_ok hE ds (way ++ [cur]) c (i + 1) (B + 3) (fun b hb => by
        rcases List.mem_append.mp hb with h | h
        · exact hw b h
        · rw [List.mem_singleton.mp h]
          exact ⟨hc.mono (by omega), hl⟩) (nxt_amts hE hc hn) (nxt_len hEv hl hn) (by omega)
      refine ⟨fun l e => ?_, fun j e => ?_⟩
      · rw [goW, hn] at e
        obtain ⟨h1, h2⟩ := ih.1 l e
        refine ⟨h1, ?_⟩
        rw [List.length_append, List.length_singleton] at h2
        rw [List.length_cons]
        omega
      · rw [goW, hn] at e
        have h2 := ih.2 j e
        rw [List.length_cons]
        omega
theorem small_shown : ∀ n : Fin 2100, (PyData.int ((n : Nat) : Int)).shown.length ≤ 12 ∧ fine (.int ((n : Nat) : Int)) = true := by decide +kernel
theorem amt_ok {x : Int} (h0 : 0 ≤ x) (h1 : x ≤ 2000) : Ok 12 0 (.int x) := by
  obtain ⟨n, rfl⟩ : ∃ n : Nat, x = (n : Int) := ⟨x.toNat, by omega⟩
  have := small_shown ⟨n, by omega⟩
  exact ⟨this.2, this.1, by rw [PyData.depth]; exact Nat.le_refl _⟩
theorem ints_ok : ∀ {b : List Int}, (∀ x ∈ b, 0 ≤ x ∧ x ≤ 2000) → Oks (14 * b.length) 0 (b.map PyData.int)
  | [], _ => ⟨(fun _ z => (List.not_mem_nil z).elim), Nat.le_refl _, (fun _ z => (List.not_mem_nil z).elim)⟩
  | x :: b, h => by
    have h1 := h x List.mem_cons_self
    have := (Oks.one (amt_ok h1.1 h1.2)).append (ints_ok (b := b) fun y hy => h y (List.mem_cons_of_mem _ hy))
    exact this.mono (by rw [List.length_cons]; omega) (Nat.le_refl _)
theorem bag_ok2 {g : Nat} {b : List Int} (hb : Amts 2000 b) (hl : b.length = g) (hg : g ≤ 4) : Ok 60 1 (bagD b) := (ints_ok hb).tuple.mono (by omega) (by omega)
theorem bags_ok {g : Nat} (hg : g ≤ 4) : ∀ {l : List (List Int)}, (∀ b ∈ l, Amts 2000 b ∧ b.length = g) → Oks (62 * l.length) 1 (l.map bagD)
  | [], _ => ⟨(fun _ z => (List.not_mem_nil z).elim), Nat.le_refl _, (fun _ z => (List.not_mem_nil z).elim)⟩
  | x :: b, h => by
    have h1 := h x List.mem_cons_self
    have := (Oks.one (bag_ok2 h1.1 h1.2 hg)).append (bags_ok hg (l := b) fun y hy => h y (List.mem_cons_of_mem _ hy))
    exact this.mono (by rw [List.length_cons]; omega) (Nat.le_refl _)
theorem word0 (w : Str) (h : decide ((reprText w).length ≤ 20) = true) : Ok 20 0 (.str w) := ⟨rfl, of_decide_eq_true h, by rw [PyData.depth]; exact Nat.le_refl _⟩
theorem neg_ok : Ok 12 0 (.int (-1)) := ⟨by decide +kernel, by decide +kernel, by rw [PyData.depth]; exact Nat.le_refl _⟩
theorem walkD_ok {g : Nat} {ts : List Trd} {x : List Int} {d : PyData} (mk : MktOk g ts) (hx : Amts 8 x) (hl : x.length = g) (hd : wt d ≤ 1200) : Ok 50000 3 (walkD (walkM ts x d)) := by
  cases ht : isTup d with
  | false =>
    have e : walkM ts x d = .bad (-1) := by
      cases d with
      | tuple ds => cases ht
      | _ => rfl
    rw [e]
    exact ((Oks.one (word0 "bad" (by decide +kernel))).append (Oks.one (neg_ok.mono (Nat.le_refl _) (Nat.le_refl _)))).list.mono (by omega) (by omega)
  | true =>
    obtain ⟨zs, rfl⟩ : ∃ zs, d = .tuple zs := by
      cases d with
      | tuple zs => exact ⟨zs, rfl⟩
      | _ => cases ht
    have hlen := wts_len zs
    have hw' : 4 + wts zs ≤ 1200 := hd
    have h := goW_ok (M := 2000) mk.all zs [] x 0 8 (fun b hb => absurd hb List.not_mem_nil) hx hl (by omega)
    cases e : walkM ts x (.tuple zs) with
    | ok l =>
      obtain ⟨h1, h2⟩ := h.1 l e
      have h3 := (bags_ok mk.four h1).tuple
      have h2' : l.length ≤ 1 + zs.length := by simpa using h2
      exact ((Oks.one ((word0 "ok" (by decide +kernel)).mono (Nat.le_refl _) (Nat.zero_le 2))).append (Oks.one (h3.mono (Nat.le_refl _) (by omega)))).list.mono (by omega) (by omega)
    | bad j =>
      have h2 := h.2 j e
      exact ((Oks.one (word0 "bad" (by decide +kernel))).append (Oks.one (amt_ok h2.1 (by omega)))).list.mono (by omega) (by omega)
/-! ### steps drawn -/
def Sv (R : Rgn) (H : Hp) (n : Nat) (v : V) : Prop := ∃ (k : Nat) (b : Bool), k < n ∧ Dat R H v (stepD k b)
theorem Sv.on {R : Rgn} {H H' : Hp} {n : Nat} {v : V} (h : Sv R H n v) (k : On R H H') : Sv R H' n v := let ⟨a, b, c, d⟩ := h; ⟨a, b, c, d.on k⟩
theorem Sv.same {R : Rgn} {H H' : Hp} {n : Nat} {v : V} (h : Sv R H n v) (k : Same H H') : Sv R H' n v := h.on (On.of k)
theorem Sv.out {R : Rgn} {H : Hp} {n : Nat} {v : V} {D : Addr} (h : Sv (wo R D) H n v) : Sv R H n v := let ⟨a, b, c, d⟩ := h; ⟨a, b, c, d.sub fun _ _ z _ => z.1⟩
theorem Sv.into {R : Rgn} {H : Hp} {n : Nat} {v : V} {D : Addr} (h : Sv R H n v) (z : H D = none) : Sv (wo R D) H n v := let ⟨a, b, c, d⟩ := h; ⟨a, b, c, d.sub fun _ _ hb e => ⟨hb, ne_of_none e z⟩⟩
theorem sv_add {R : Rgn} {H0 H' : Hp} {D p : Addr} {acc : List V} {n m : Nat} {b : Bool} (sm : Same H0 H') (zD : H0 D = none) (eD : H' D = some (.lst acc)) (hv : ∀ v ∈ acc, Sv (wo R D) H' n v) (hm : m < n) (new : ∀ p, H' p = none → R p) (zp : H' p = none) :
    upd H' p (.tup [V.int (0 + (m : Int)), V.bl b]) D = some (.lst acc) ∧ Same H0 (upd (upd H' p (.tup [V.int (0 + (m : Int)), V.bl b])) D (.lst (acc ++ [V.ref p]))) ∧ ∀ v ∈ acc ++ [V.ref p], Sv (wo R D) (upd (upd H' p (.tup [V.int (0 + (m : Int)), V.bl b])) D (.lst (acc ++ [V.ref p]))) n v := by
  have sp := same_upd (o := .tup [V.int (0 + (m : Int)), V.bl b]) zp
  have np : p ≠ D := fun z => by
    rw [z, eD] at zp
    cases zp
  refine ⟨sp _ _ eD, fun c o e => ?_, fun v h => ?_⟩
  · rw [upd_ne (ne_of_none e zD)]
    exact sp _ _ (sm _ _ e)
  · rcases List.mem_append.mp h with h | h
    · exact ((hv v h).same sp).on wo_on
    · rw [List.mem_singleton.mp h]
      refine Sv.on (H := upd H' p (.tup [V.int (0 + (m : Int)), V.bl b])) ⟨m, b, hm, .tup ⟨new p zp, np⟩ upd_same ?_⟩ wo_on
      have e : V.int (0 + (m : Int)) = V.int (m : Int) := by
        congr 1
        omega
      rw [e]
      exact .cons (.int _) (.cons (.bl _) .nil)
theorem sv_keep {R : Rgn} {H0 H' : Hp} {D : Addr} {acc : List V} {n : Nat} {x : V} (sm : Same H0 H') (zD : H0 D = none) (hv : ∀ v ∈ acc, Sv (wo R D) H' n v) (hx : Sv (wo R D) H' n x) :
    Same H0 (upd H' D (.lst (acc ++ [x]))) ∧ ∀ v ∈ acc ++ [x], Sv (wo R D) (upd H' D (.lst (acc ++ [x]))) n v := by
  refine ⟨fun c o e => ?_, fun v h => ?_⟩
  · rw [upd_ne (ne_of_none e zD)]
    exact sm _ _ e
  · rcases List.mem_append.mp h with h | h
    · exact (hv v h).on wo_on
    · rw [List.mem_singleton.mp h]
      exact hx.on wo_on
theorem step_ok {k : Nat} (b : Bool) (h : k < 5) : Ok 40 1 (stepD k b) := by
  have h1 := nat_ok (g := k) (by omega)
  have h2 : Ok 12 0 (.bool b) := ⟨rfl, by cases b <;> decide +kernel, by rw [PyData.depth]; exact Nat.le_refl _⟩
  exact ((Oks.one h1).append (Oks.one h2)).tuple.mono (by omega) (by omega)
theorem Vd.newL {R : Rgn} {H : Hp} {S D : Nat} {p : Addr} {xs : List V} (h : Pk R H S D xs) (n : H p = none) (r : R p) : Vd R (upd H p (.lst xs)) (S + 4) (D + 1) (.ref p) := by
  obtain ⟨ds, d, o⟩ := h
  exact ⟨.list ds, Dat.newL n r d, o.list⟩
theorem Vd.extN {R : Rgn} {H H' : Hp} {S D : Nat} {v : V} (h : Vd R H S D v) (k : LamX.ExtN H H') : Vd R H' S D v := let ⟨x, d, o⟩ := h; ⟨x, d.extN k, o⟩
theorem all_cons {α : Type} {p : α → Prop} {x : α} {xs : List α} (h : p x) (t : ∀ v ∈ xs, p v) : ∀ v ∈ x :: xs, p v := fun v hv => by
  rcases List.mem_cons.mp hv with rfl | hv
  · exact h
  · exact t v hv
theorem all_nil {α : Type} {p : α → Prop} : ∀ v ∈ ([] : List α), p v := fun v hv => absurd hv List.not_mem_nil
end Lb
set_option Elab.async false
set_option linter.all false
set_option maxRecDepth 100000
set_option maxHeartbeats 4000000
namespace Lb
open PySem PySem.Spec PyProof.Rows L2
/-! ### the law's end where it makes a lambda -/
section
variable {P : Program} {w : World} {K : PySem.W.Frag} {mg mb : Str → Option Value} {CX : CXT} {k : Nat} {fa a c Pt : Addr} {fd : FuncData} {x : Str} {sp : Sp} {s1 : Shared} {vs : List Value} {ns : List Int}
theorem go_tab {H : Hp} (kin : K.In s1.heap) (hns : s1.heap.Ns mainGlobals mg) (hb : s1.heap.Ns builtinsNs mb) (hbb : ∀ x : Str, x ≠ "__name__" → mb x = bootBuiltins x) (hlim : s1.heap.NoLimit) (hg : s1.gens = #[])
    (hT : s1.heap.get? Pt = some { cls := .none, data := .fields #[] }) (nT : K.lookup Pt = none) (C : PySem.W.CodeHd s1.heap c Pt)
    (hbm : ∃ (bm : Addr) (ob : Obj), mg "__builtins__" = some (.ref bm) ∧ bm ≠ builtinsNs ∧ s1.heap.get? bm = some ob ∧ ob.cls = .type "module" ∧ ob.dict = some builtinsNs ∧ ob.data = .plain)
    (ha : s1.heap.get? a = some { cls := .type "list", data := .seq vs.toArray }) (hr : Room k callerA)
    (F : ∀ base : Heap, K.In base → base.Ns mainGlobals mg → LamX.TabB base mg c Pt → FnG P w K mg base CX k fa fd [x] sp) (hbind : ∀ (s : Shared) (u : Value), BindsTo s fd ⟨[u], []⟩ [(x, u)])
    (hP : H Pt = some (.tbl #[])) (only : ∀ b, H b = none ∨ b = Pt ∨ ∃ o xs, H b = some (.frz o (.lst xs))) (hok : HOk P w H s1.heap) (hA : ∀ b, H b ≠ none → b = a ∨ b = Pt) (hK : H a ≠ none → K.lookup a = none)
    (hsp : sp [.ref a] H (fun v _ => v = .bl true) fun _ _ _ => False) (hCX : ∀ e s', CX [] H s1 (fun _ _ _ => False) e s' → False) :
    codeAny (model P w) callerA (.call (.ref fa) ⟨[.ref a], []⟩) (LawEnd s1) s1 := by
  have nP : a ≠ Pt := fun z => by
    rw [z, hT] at ha
    exact nomatch (show Data.fields #[] = Data.seq vs.toArray _ from congrArg Obj.data (Option.some.inj ha))
  have isA : ∀ {b : Addr} {u : HO}, H b = some u → b = a ∨ b = Pt := fun {b u} e => hA b (by rw [e]; exact fun z => nomatch z)
  -- what is neither the script nor the table is hidden from nobody
  have free : ∀ {b : Addr} {o : Obj}, s1.heap.get? b = some o → (∀ us n, o.data ≠ .seq us n) → o.data ≠ .fields #[] → H b = none := by
    intro b o e d1 d2
    cases q : H b with
    | none => rfl
    | some u =>
      rcases isA q with eb | eb
      · subst eb
        rw [ha] at e
        cases e
        exact absurd rfl (d1 _ _)
      · subst eb
        rw [hT] at e
        cases e
        exact absurd rfl d2
  have ns : ∀ {b : Addr} {m : Str → Option Value}, s1.heap.Ns b m → (hidT s1.heap H).Ns b m := by
    rintro b m ⟨o, es, ep, e, d, r⟩
    exact ⟨o, es, ep, hidT_get e (free e (fun us n z => by rw [d] at z; cases z) (fun z => by rw [d] at z; cases z)), d, r⟩
  have kb : K.In (hidT s1.heap H) := by
    intro b o e
    refine hidT_get (kin b o e) ?_
    cases q : H b with
    | none => rfl
    | some u =>
      rcases isA q with eb | eb
      · subst eb
        rw [hK (by rw [q]; exact fun z => nomatch z)] at e
        cases e
      · rw [eb, nT] at e
        cases e
  have tb : LamX.TabB (hidT s1.heap H) mg c Pt := by
    refine ⟨?_, ?_, fun z => ?_⟩
    · obtain ⟨o, us, file, tf, flags, tg, inF, text, tt, e1, r1, r2, r3, rest⟩ := C
      refine ⟨o, us, file, tf, flags, tg, inF, text, tt, hidT_get e1 (free e1 (fun us n z => by rw [r2] at z; cases z) fun z => ?_), r1, r2, r3, rest⟩
      rw [r2] at z
      cases z
      simp at r3
    · obtain ⟨bm, ob, b1, b2, b3, b4, b5, b6⟩ := hbm
      refine ⟨bm, ob, b1, b2, fun z => ?_, fun z => ?_, hidT_get b3 (free b3 (fun us n z => by rw [b6] at z; cases z) (fun z => by rw [b6] at z; cases z)), b4, b5, b6⟩
      · obtain ⟨o, es, ep, e, d, _⟩ := hns
        rw [z, e] at b3
        cases b3
        rw [d] at b6
        cases b6
      · rw [z, hT] at b3
        cases b3
        cases b6
    · obtain ⟨o, es, ep, e, d, _⟩ := hns
      rw [z, hT] at e
      cases e
      cases d
  obtain ⟨mc, n1, n2⟩ := hlim
  have md : Mod K mg (hidT s1.heap H) := ⟨kb, ns hns, ⟨mb, ns hb, hbb⟩, ⟨mc, ns n1, n2⟩⟩
  have e0 : Env0 P w K mg (hidT s1.heap H) callerA [] s1 H :=
    ⟨rfl, md, fun b o e => of_hidT e, Nat.le_of_eq (hidT_size _ _), trivial, fun b hb => absurd (show b ∈ ([] : List Addr) from hb) (by simp), hok, .of_eq hg⟩
  refine codeAny_mono ((F _ kb (ns hns) tb).run callerA [] s1 H ⟨[.ref a], []⟩ [.ref a] [.ref a] _ _ rfl hr e0 (hbind s1 (.ref a)) (.cons rfl .nil) hsp) fun r s' h => ?_
  cases r with
  | error e => exact (hCX e s' h).elim
  | ok fl =>
    cases fl with
    | next => exact h.elim
    | brk => exact h.elim
    | cont => exact h.elim
    | ret u =>
      obtain ⟨v, H', os, bare, un, hok', ru, q⟩ := h
      have ev : v = .bl true := q
      subst ev
      obtain rfl : u = Value.bool true := ru
      have key : ∀ b o, b ≠ Pt → s1.heap.get? b = some o → s'.heap.get? b = some o := by
        intro b o nb e
        rcases only b with z | z | ⟨ob, xs, z⟩
        · exact un.keep b o e z (fun m => absurd (show b ∈ ([] : List Addr) from m) (by simp)) (by simp)
        · exact absurd z nb
        · obtain ⟨g1, _⟩ := hok b _ z
          obtain ⟨g2, _⟩ := hok' b _ (un.frzs b ob _ z)
          rw [e] at g1
          cases g1
          exact g2
      obtain ⟨more, hm⟩ : ∃ more : Array Value, s'.heap.get? Pt = some { cls := .none, data := .fields more } := by
        obtain ⟨more, z⟩ := un.tbls Pt #[] hP
        exact ⟨_, hok' Pt _ z⟩
      refine ⟨rfl, ⟨fun b o e => ?_, fun b o e => ?_⟩, os, bare⟩
      · by_cases hbp : b = Pt
        · subst hbp
          rw [hT] at e
          cases e
          exact .inr (.inl ⟨(C.tab hT).isCodeTable, rfl, #[], more, rfl, by rw [Array.empty_append]; exact hm⟩)
        · exact .inl (key b o hbp e)
      · by_cases hbp : b = Pt
        · rw [hbp]
          exact ⟨_, hm⟩
        · exact ⟨o, key b o hbp e⟩
theorem law_tab (kin : K.In s1.heap) (hns : s1.heap.Ns mainGlobals mg) (hb : s1.heap.Ns builtinsNs mb) (hbb : ∀ x : Str, x ≠ "__name__" → mb x = bootBuiltins x) (hlim : s1.heap.NoLimit) (hg : s1.gens = #[])
    (hT : s1.heap.get? Pt = some { cls := .none, data := .fields #[] }) (nT : K.lookup Pt = none) (C : PySem.W.CodeHd s1.heap c Pt)
    (hbm : ∃ (bm : Addr) (ob : Obj), mg "__builtins__" = some (.ref bm) ∧ bm ≠ builtinsNs ∧ s1.heap.get? bm = some ob ∧ ob.cls = .type "module" ∧ ob.dict = some builtinsNs ∧ ob.data = .plain)
    (ha : s1.heap.get? a = some { cls := .type "list", data := .seq vs.toArray }) (hi : IntsAre vs ns) (hl : ns.length ≤ sizeLine) (hr : Room k callerA)
    (F : ∀ base : Heap, K.In base → base.Ns mainGlobals mg → LamX.TabB base mg c Pt → FnG P w K mg base CX k fa fd [x] sp) (hbind : ∀ (s : Shared) (u : Value), BindsTo s fd ⟨[u], []⟩ [(x, u)])
    (hsp : ∀ H : Hp, H Pt = some (.tbl #[]) → SqL K H a (ns.map V.int) → sp [.ref a] H (fun v _ => v = .bl true) fun _ _ _ => False)
    (hCX : ∀ H e s', CX [] H s1 (fun _ _ _ => False) e s' → False) : codeAny (model P w) callerA (.call (.ref fa) ⟨[.ref a], []⟩) (LawEnd s1) s1 := by
  have rv := vals_ints hi
  have nP : a ≠ Pt := fun z => by
    rw [z, hT] at ha
    exact nomatch (show Data.fields #[] = Data.seq vs.toArray _ from congrArg Obj.data (Option.some.inj ha))
  cases hk : K.lookup a with
  | some o =>
    have e := kin a o hk
    rw [ha] at e
    cases e
    let H0 : Hp := fun b => if b = Pt then some (.tbl #[]) else none
    have atP : H0 Pt = some (.tbl #[]) := if_pos rfl
    have off : ∀ {b : Addr}, b ≠ Pt → H0 b = none := fun h => if_neg h
    refine go_tab (H := H0) kin hns hb hbb hlim hg hT nT C hbm ha hr F hbind atP (fun b => ?_) (fun b u z => ?_) (fun b z => ?_) (fun z => absurd (off nP) z) (hsp _ atP (.inr ⟨_, vs.toArray, _, hk, rfl, rfl, rfl, ?_, by simpa using rv⟩)) fun e s' => hCX _ e s'
    · by_cases h : b = Pt
      · exact .inr (.inl h)
      · exact .inl (off h)
    · by_cases h : b = Pt
      · subst h
        rw [atP] at z
        cases z
        exact hT
      · rw [off h] at z
        cases z
    · exact .inr (Classical.byContradiction fun h => z (off h))
    · rw [List.size_toArray, hi.length]
      exact hl
  | none =>
    let H1 : Hp := fun b => if b = a then some (.frz { cls := .type "list", data := .seq vs.toArray } (.lst (ns.map V.int))) else if b = Pt then some (.tbl #[]) else none
    have at_a : H1 a = some (.frz { cls := .type "list", data := .seq vs.toArray } (.lst (ns.map V.int))) := if_pos rfl
    have atP : H1 Pt = some (.tbl #[]) := (if_neg nP.symm).trans (if_pos rfl)
    have off : ∀ {b : Addr}, b ≠ a → b ≠ Pt → H1 b = none := fun h1 h2 => (if_neg h1).trans (if_neg h2)
    refine go_tab (H := H1) kin hns hb hbb hlim hg hT nT C hbm ha hr F hbind atP (fun b => ?_) (fun b u z => ?_) (fun b z => ?_) (fun _ => hk) (hsp _ atP (.inl (.inr ⟨_, at_a⟩))) fun e s' => hCX _ e s'
    · by_cases h : b = a
      · rw [h]
        exact .inr (.inr ⟨_, _, at_a⟩)
      · by_cases h2 : b = Pt
        · exact .inr (.inl h2)
        · exact .inl (off h h2)
    · by_cases h : b = a
      · subst h
        rw [at_a] at z
        cases z
        exact ⟨ha, by rw [List.length_map]; exact hl, vs, _, rv, ha⟩
      · by_cases h2 : b = Pt
        · subst h2
          rw [atP] at z
          cases z
          exact hT
        · rw [off h h2] at z
          cases z
    · by_cases h : b = a
      · exact .inl h
      · exact .inr (Classical.byContradiction fun h2 => z (off h h2))
end
/-- what is known of a law that makes a lambda, at the head's heap -/
def LawT (l : PySem.W.OpenLaw) (w : World) (K : PySem.W.Frag) (k : Nat) (x : Str) (mg : Str → Option Value) (fa : Addr) (h : Heap) : Prop :=
  ∃ (fd : FuncData) (c Pt : Addr), h.get? Pt = some { cls := .none, data := .fields #[] } ∧ K.lookup Pt = none ∧ PySem.W.CodeHd h c Pt ∧ (∀ (s : Shared) (u : Value), BindsTo s fd ⟨[u], []⟩ [(x, u)]) ∧
    ∀ base : Heap, K.In base → base.Ns mainGlobals mg → LamX.TabB base mg c Pt → FnG l.prog w K mg base CX0 k fa fd [x] (spLawT K Pt)
theorem walk_gT {l : PySem.W.OpenLaw} {k : Nat} {q : Program} {loose : List Str} {XP : (Str → Option Value) → Heap → Prop} {YP : World → Heap → Prop} {d : DefRec} {K : Params → PySem.W.Frag} {x : Str}
    (hn : l.most = some 63) (hdf : d.params.defaults = []) (hr : Room k callerA) (hrec : ((recsOf q).any fun e => e.name == d.name) = true) (hY : ∀ (w : World) (h : Heap), YP w h → (K w.params).In h)
    (F : ∀ (w : World) (mg : Str → Option Value) (fa : Addr) (h : Heap), (K w.params).In h → h.Ns mainGlobals mg → mg d.name = some (.ref fa) → LamX.OwnTab (K w.params) fa h → LawT l w (K w.params) k x mg fa h) :
    PySem.W.WalkO q loose XP YP l.row.toRowW d [] (fun f vs => PySem.call f vs) := by
  refine Att.attach_call hn hdf fun w s0 s1 mg mb fa o pm cd doc a vs ns G Y ho hd hcd hmg hobj hints hlen hg => ?_
  have kin := hY w _ Y
  have own : LamX.OwnTab (K w.params) fa s1.heap := by
    intro c P o1 fd1 e dd vs1 sl k1 k2 k3 k4 k5
    obtain ⟨dL, hm, hnm⟩ := List.any_eq_true.mp hrec
    obtain ⟨a', o', fd', c', P', h1, h2, h3, h4, h5, ⟨oc, vc, e1, _, e3, e4⟩, hP⟩ := G.T.tab dL hm
    rw [beq_iff_eq.mp hnm, hmg] at h1
    cases h1
    rw [kin _ _ k1] at h2
    cases h2
    rw [k2] at h3
    cases h3
    rw [k3] at h4
    cases h4
    rw [kin _ _ k4] at e1
    cases e1
    cases e3
    rw [k5] at e4
    cases e4
    exact hP
  obtain ⟨fd, c, Pt, hT, nT, C, hb, hF⟩ := F w mg fa _ kin G.T.g hmg own
  exact law_tab kin G.T.g G.T.b G.T.builtins G.T.nolimit hg hT nT C G.T.bmain hobj hints (Nat.le_trans hlen (by decide)) hr hF hb (fun H hP hS => ⟨a, ns, rfl, hS, hlen, hP, fun _ => rfl⟩) fun H e s' h => h
end Lb
set_option Elab.async false
set_option linter.all false
set_option maxRecDepth 100000
set_option maxHeartbeats 4000000
namespace Lb
open PySem PySem.Spec PyProof.Rows L2
/-! ### d < e of plain data that is alike -/
def rLtD : R2 := fun x y H Q => ∃ (R : Rgn) (d e : PyData), Dat R H x d ∧ Dat R H y e ∧ PySem.W.alike d e = true ∧ d ≠ .none ∧ d.depth ≤ 60 ∧ Q (.bl (PySem.W.dataLt d e)) H
theorem op_ltD {X : Cx} (hu : X.A.units + 64 < cLine) : OpR X (compareOp .Lt) rLtD := by
  intro pins s σ H x y v u Q I rx ry h
  obtain ⟨R, d, e, hd, he, ha, hn, hdp, q⟩ := h
  obtain ⟨as, r1⟩ := dat_reads I hd rx
  obtain ⟨bs, r2⟩ := dat_reads I he ry
  have z : wpAny (model X.prog X.w) X.A (compareOp .Lt v u) (EP X pins σ Q) X.xe s :=
    PySem.W.rcLt_alike d e X.A s v u as bs r1 r2 ha hn (by have := Nat.min_le_left d.depth e.depth; omega) X.prog X.w X.xe (EP X pins σ Q) ⟨.bl _, H, I, rfl, q⟩
  exact z
/-! ### sum of a list of bools -/
theorem walksS_of {prog : Program} {w : World} {A : Around} {I : Addr} {fp wr : List Addr} {n : Nat} {P : Nat → Value → Prop} {St : Nat → Heap → Prop} (W : Walks prog w A I fp wr n P St) : WalksS prog w A I fp wr Eq n P (fun i s => St i s.heap) where
  sub := W.sub
  grefl := fun _ => rfl
  gtrans := fun _ _ _ => Eq.trans
  frame := fun i s h' tk st _ k => W.frame i _ _ st k
  item := fun i s Q E hi st hQ => wpAny_with_toks (Nat.le_refl _) (W.item i s _ _ hi st fun v h' tk hp st' k le => hQ v _ hp st' ⟨k, rfl, rfl, rfl, le⟩)
  done := fun s Q E st hQ => wpAny_with_toks (Nat.le_refl _) (W.done s _ _ st fun h' tk k le => hQ _ ⟨k, rfl, rfl, rfl, le⟩)
  self := fun i s Q E st hQ => W.self i s Q E st hQ
theorem vals_bools : ∀ {bs : List Bool} {us : List Value}, Vals (bs.map V.bl) us → LSm.BoolsAre us bs
  | [], [], _ => .nil
  | b :: bs, u :: us, r => by
    cases r with
    | cons r1 r2 =>
      cases (show u = Value.bool b from r1)
      exact .cons b (vals_bools r2)
  | [], _ :: _, r => nomatch r
  | _ :: _, [], r => nomatch r
def b01 (b : Bool) : Int := if b = true then 1 else 0
def rSumB (K : PySem.W.Frag) : List V → Hp → VK → Prop := fun vs H Q => ∃ (a : Addr) (bs : List Bool), vs = [V.ref a] ∧ SqL K H a (bs.map V.bl) ∧ Q (.int (bs.map b01).sum) H
theorem cr_sumB {X : Cx} (hc : X.calm = true) : CallR X (.builtin "sum") (rSumB X.K) := by
  intro pins s σ H vs us Q I r h
  obtain ⟨a, bs, rfl, hs, q⟩ := h
  obtain ⟨its, rv, hl, _⟩ := I.list hs
  rw [Vals.ref1 r]
  have hl' : s.heap.IsList a its.toArray := by
    obtain ⟨o, n, ho, hc, _, hd⟩ := hl
    exact ⟨o, ho, hc, n, hd⟩
  have hb := vals_bools rv
  have hlt : a < s.heap.objs.size := by obtain ⟨_, e, _⟩ := hl'; exact Heap.lt_size e
  refine call_sum_walkAnyB (wpAny_pyIter_list hl' ?_)
  refine ⟨s.heap.objs.size, [s.heap.objs.size, a], [s.heap.objs.size], Eq, its.toArray.size, _, _, fun i => (bs.map b01).getD i 0, rfl, walksS_of (Walks.list (A := X.A.in1) (I.ok.hd hc) _ a (Nat.ne_of_lt hlt) its.toArray),
    ⟨⟨_, Heap.get?_push_size _ rfl, rfl, rfl⟩, hl'.push _⟩, fun b hm => ?_, fun i v hP => ?_, fun s' t' hm => ?_⟩
  · rcases List.mem_cons.mp hm with rfl | hm
    · show _ < (s.heap.push _).objs.size
      rw [Heap.size_push]
      omega
    · have := List.mem_singleton.mp hm
      rw [this]
      show _ < (s.heap.push _).objs.size
      rw [Heap.size_push]
      exact Nat.lt_succ_of_lt hlt
  · obtain ⟨b, e, rfl⟩ := hb.get i v (by simpa using hP)
    refine .inr ⟨b, rfl, ?_⟩
    show (bs.map b01).getD i 0 = _
    rw [List.getD_eq_getElem?_getD, List.getElem?_map, e]
    rfl
  · have e := preSum_getD (bs.map b01) its.toArray.size
    rw [List.take_of_length_le (by rw [List.length_map, List.size_toArray, hb.length]; exact Nat.le_refl _)] at e
    rw [e]
    obtain ⟨h', g', d', tk, os'⟩ := s'
    have e1 : g' = s.gens := hm.gens.symm
    have e2 : d' = s.drawn := hm.drawn
    have e3 : os' = s.os := hm.os
    subst e1 e2 e3
    exact ⟨.int _, H, I.kept (LSm.kept_iter hm.heap), ⟨_, rfl⟩, q⟩
/-! ### defs that use repr -/
structure OwnG (P : Program) (w : World) (K : PySem.W.Frag) (mg : Str → Option Value) (base : Heap) (x : Str) (k : Nat) (ps : List Str) (sp : Sp) : Prop where
  ex : ∃ (f : Addr) (fd : FuncData), FnG P w K mg base CX0 k f fd ps sp ∧ mg x = some (.ref f) ∧ PySem.W.keepIn K (.ref f) = true ∧ Binds K fd ps []
section
variable {P : Program} {w : World} {K : PySem.W.Frag} {mg : Str → Option Value} {base : Heap}
theorem ownG_of {x : Str} {st : Stmt} {N ps : List Str} {k : Nat} {sp : Sp} (D : Df K mg x st) (S : FnScope N ps (defScope st))
    (hb : ∀ (kV doc pm : Value) (an : Option Addr) (cdv ct : Value) (us : List Value), us.length = ps.length → bindArgs (PySem.W.fnOf x x (defArgs st) (defBody st) (defScope st) .none kV doc pm an cdv ct) ⟨us, []⟩ = pure (ps.zip us))
    (len : ∀ vs H Q E, sp vs H Q E → vs.length = ps.length)
    (hbody : ∀ (f : Addr) (cdv : Value) (A : Around) (outer : List Env) (s : Shared) (H : Hp) (vs : List V) (Q : VK) (E : XK), (cxOf CX0 P w K mg base N x (defScope st) f cdv A outer s H E).nox.A.guards = some [] → Room k (A.deeper (envOfC x (defScope st) s.heap.objs.size f cdv)) → sp vs H Q E →
      ∃ t, PSs (cxOf CX0 P w K mg base N x (defScope st) f cdv A outer s H E).nox (defBody st) t ∧ t { nx := fun _ H' => Q .non H', rt := Q } (start N vs) H) : OwnG P w K mg base x (k + 1) ps sp := by
  obtain ⟨f, fd, F, m⟩ := D.ex
  exact ⟨f, fd, lawG_of F S len (hbody f), m, F.kp, F.binds hb⟩
end
section
variable {X : Cx} {k : Nat} {ps : List Str} {sp : Sp} {x : Str} {p pos : Pos} {e : Expr} {es : List Expr} {t : TA}
theorem run_fnG {CX : CXT} {f : Addr} {fd : FuncData} {dvs : List V} {ds : List Value} {E : XK} {pins : List (Addr × Obj)} {σ : L2.St} {H : Hp} {s : Shared} {Q : VK} {us : List Value} {vs : List V} (F : FnG X.prog X.w X.K X.mg X.base CX k f fd ps sp) (hg : X.A.guards = some []) (hr : Room k X.A) (hb : Binds X.K fd ps ds) (hd : Vals dvs ds) (hx : Passes CX X E)
    (I : Inv X pins σ H s) (r : Vals vs us) (h : sp (vs ++ dvs) H Q E) : wpAny (model X.prog X.w) X.A (call (.ref f) us) (EP X pins σ Q) X.xe s := by
  have r2 : Vals (vs ++ dvs) (us ++ ds) := r.append hd
  have hl : (us ++ ds).length = ps.length := by rw [← r2.length]; exact F.len _ _ _ _ h
  refine wpAny_call (codeAny_mono (F.run X.A X.stack s H ⟨us, []⟩ (us ++ ds) (vs ++ dvs) Q E hg hr I.env0 (hb s us I.kIn hl) r2 h) fun r s' hq => ?_)
  cases r with
  | error e => exact hx pins σ H s e s' I hq
  | ok fl =>
    cases fl with
    | ret u => exact I.after hq
    | next => exact False.elim hq
    | brk => exact False.elim hq
    | cont => exact False.elim hq
theorem pe_ownG (O : OwnG X.prog X.w X.K X.mg X.base x k ps sp) (hgd : X.A.guards = some []) (hr : Room k X.A) (hg : Gl X x) (ha : PA X (e :: es) t) (hdb : (x == ("__debug__" : Str)) = false := by decide)
    (he : starEach (e :: es) X.env = (false, eval e X.env) :: starEach es X.env := by rfl) (hpl : (backTo pos (starEach es X.env)).any (·.1) = false := by rfl) : PE X (.Call (.Name x p) (e :: es) [] pos) (tCall sp [] E0 t) := by
  obtain ⟨f, fd, F, m, kp, b⟩ := O.ex
  refine ⟨fun pins s σ H Q I h => ?_⟩
  refine wpAny_Call_Name_kw (ld_glob I hg m ?_ hdb)
  refine PySem.W.callWith_K (h₀ := X.base) I.ok.mod.kin kp (thn (ha.run pos pins s σ H _ I h) fun us s1 ⟨vs, H1, I1, r, q⟩ => ⟨I1.kIn, ?_⟩) he hpl
  exact run_fnG F hgd hr b .nil pass0 I1 r q
end
/-! ### plainness -/
/-- the order of rows of ints -/
def ltL : List Int → List Int → Bool
  | [], [] => false
  | [], _ :: _ => true
  | _ :: _, [] => false
  | x :: a, y :: b => if x = y then ltL a b else decide (x < y)
theorem lex_bag : ∀ a b : List Int, PyProof.Rows.lexLt PyProof.Rows.itemOrd (PySem.W.keyToksAll (a.map PyData.int)) (PySem.W.keyToksAll (b.map PyData.int)) = ltL a b
  | [], [] => by
    rw [List.map_nil, PySem.W.keyToksAll]
    rfl
  | [], y :: b => by
    rw [List.map_nil, List.map_cons, PySem.W.toks_all_cons, PySem.W.keyToksAll, PyProof.Rows.lex_diff (O := PyProof.Rows.itemOrd) (by simp)]
    rfl
  | x :: a, [] => by
    rw [List.map_nil, List.map_cons, PySem.W.toks_all_cons, PySem.W.keyToksAll, PyProof.Rows.lex_diff (O := PyProof.Rows.itemOrd) (by simp)]
    rfl
  | x :: a, y :: b => by
    rw [List.map_cons, List.map_cons, PySem.W.toks_all_cons, PySem.W.toks_all_cons, PyProof.Rows.lex_self (O := PyProof.Rows.itemOrd), PySem.W.keyToks, PySem.W.keyToks, List.singleton_append, List.singleton_append, ltL]
    by_cases h : x = y
    · rw [if_pos h, h, PyProof.Rows.lex_self (O := PyProof.Rows.itemOrd)]
      exact lex_bag a b
    · rw [if_neg h, PyProof.Rows.lex_diff (O := PyProof.Rows.itemOrd) (fun z => h (Sum.inl.inj z))]
      rfl
/-- what bags are compared by -/
abbrev keyD (b : List Int) : PyData := .tuple [.int (b.getD (b.length - 1) 0), .int b.sum, bagD b]
def lastI (b : List Int) : Int := b.getD (b.length - 1) 0
/-- x is plainer than y -/
def plB (x y : List Int) : Bool := if lastI x = lastI y then (if x.sum = y.sum then ltL x y else decide (x.sum < y.sum)) else decide (lastI x < lastI y)
theorem key_lt (x y : List Int) : PySem.W.dataLt (keyD x) (keyD y) = plB x y := by
  have cons : ∀ (a b : Int) (r s : List PyData), PyProof.Rows.lexLt PyProof.Rows.itemOrd (PySem.W.keyToksAll (.int a :: r)) (PySem.W.keyToksAll (.int b :: s)) =
      if a = b then PyProof.Rows.lexLt PyProof.Rows.itemOrd (PySem.W.keyToksAll r) (PySem.W.keyToksAll s) else decide (a < b) := by
    intro a b r s
    rw [PySem.W.toks_all_cons, PySem.W.toks_all_cons, PyProof.Rows.lex_self (O := PyProof.Rows.itemOrd), PySem.W.keyToks, PySem.W.keyToks, List.singleton_append, List.singleton_append]
    by_cases h : a = b
    · rw [if_pos h, h, PyProof.Rows.lex_self (O := PyProof.Rows.itemOrd)]
    · rw [if_neg h, PyProof.Rows.lex_diff (O := PyProof.Rows.itemOrd) (fun z => h (Sum.inl.inj z))]
      rfl
  rw [PySem.W.dataLt_tuple, cons, cons]
  unfold plB lastI
  have e : PyProof.Rows.lexLt PyProof.Rows.itemOrd (PySem.W.keyToksAll [bagD x]) (PySem.W.keyToksAll [bagD y]) = ltL x y := by
    rw [PySem.W.toks_all_cons, PySem.W.toks_all_cons, PyProof.Rows.lex_self (O := PyProof.Rows.itemOrd), PySem.W.keyToks, PySem.W.keyToks]
    rw [← lex_bag x y]
    have al : PySem.W.alikeAll (x.map PyData.int) (y.map PyData.int) = true := by
      generalize x = a
      generalize y = b
      induction a generalizing b with
      | nil => rw [List.map_nil, PySem.W.alikeAll]
      | cons n a ih =>
        cases b with
        | nil => rw [List.map_nil, List.map_cons, PySem.W.alikeAll]
        | cons m b => rw [List.map_cons, List.map_cons, PySem.W.alikeAll, PySem.W.alike, ih b]; rfl
    obtain ⟨t1, t2⟩ := PySem.W.toksAll_eqv _ _ al
    cases h : PyData.eqvAll (x.map PyData.int) (y.map PyData.int) with
    | true => rw [t1 h, PySem.W.lex_pre]
              have ir : ∀ l, PyProof.Rows.lexLt PyProof.Rows.itemOrd l l = false := fun l => by
                induction l with
                | nil => rfl
                | cons p l ih => rw [PyProof.Rows.lex_self (O := PyProof.Rows.itemOrd)]; exact ih
              rw [ir, ir]
    | false => exact t2 h _ _
  rw [e]
end Lb
namespace Lb
open PySem PySem.Spec PyProof.Rows L2
theorem atI_lastI {x : List Int} (h : 0 < x.length) : atI (x.map V.int) (-1) = some (.int (lastI x)) := by
  have e : x.map V.int = (x.take (x.length - 1)).map V.int ++ [V.int (lastI x)] := by
    have h1 : x = x.take (x.length - 1) ++ [lastI x] := by
      have h2 := (List.take_append_drop (x.length - 1) x).symm
      have h3 : x.drop (x.length - 1) = [lastI x] := by
        rw [List.drop_eq_getElem_cons (by omega), List.drop_of_length_le (by omega)]
        unfold lastI
        rw [List.getD_eq_getElem?_getD, List.getElem?_eq_getElem (by omega)]
        rfl
      rw [h3] at h2
      exact h2
    conv => lhs; rw [h1]
    rw [List.map_append]
    rfl
  rw [e]
  exact atI_last _ _
theorem alike_bag (x y : List Int) : PySem.W.alikeAll (x.map PyData.int) (y.map PyData.int) = true := by
  induction x generalizing y with
  | nil => rw [List.map_nil, PySem.W.alikeAll]
  | cons n a ih =>
    cases y with
    | nil => rw [List.map_nil, List.map_cons, PySem.W.alikeAll]
    | cons m b => rw [List.map_cons, List.map_cons, PySem.W.alikeAll, PySem.W.alike, ih b]; rfl
theorem alike_key (x y : List Int) : PySem.W.alike (keyD x) (keyD y) = true := by
  rw [PySem.W.alike, PySem.W.alikeAll, PySem.W.alikeAll, PySem.W.alikeAll, PySem.W.alike, PySem.W.alike, PySem.W.alike, alike_bag, PySem.W.alikeAll]
  rfl
theorem depth_bag (x : List Int) : (bagD x).depth = 1 := by
  rw [PyData.depth, depth_ints]
theorem depth_key (x : List Int) : (keyD x).depth ≤ 60 := by
  rw [PyData.depth, PyData.depthAll, PyData.depthAll, PyData.depthAll, PyData.depthAll, depth_bag, PyData.depth, PyData.depth]
  decide
def spKey : Sp := fun vs H Q _ => ∃ (R : Rgn) (v : V) (x : List Int), vs = [v] ∧ Dat R H v (bagD x) ∧ 0 < x.length ∧ (∀ p, H p = none → R p) ∧ ∀ (H' : Hp) (u : V), Same H H' → Dat R H' u (keyD x) → Q u H'
def spPlainer : Sp := fun vs H Q _ => ∃ (R : Rgn) (v u : V) (x y : List Int), vs = [v, u] ∧ Dat R H v (bagD x) ∧ Dat R H u (bagD y) ∧ 0 < x.length ∧ 0 < y.length ∧ (∀ p, H p = none → R p) ∧ ∀ (H' : Hp), Same H H' → Q (.bl (plB x y)) H'
def spDiffer : Sp := fun vs H Q _ => ∃ (R S : Rgn) (v u : V) (d : PyData), vs = [v, u] ∧ Dat R H v d ∧ Dat S H u d ∧ Ok 100000 60 d ∧ Q (.bl false) H
/-! the mathematics of plainness -/
theorem ltL_irr : ∀ x : List Int, ltL x x = false
  | [] => rfl
  | a :: x => by
    rw [ltL, if_pos rfl]
    exact ltL_irr x
theorem ltL_tri : ∀ {x y : List Int}, x.length = y.length → x ≠ y → b01 (ltL x y) + b01 (ltL y x) = 1
  | [], [], _, h => absurd rfl h
  | a :: x, b :: y, hl, h => by
    rw [ltL, ltL]
    by_cases e : a = b
    · rw [if_pos e, if_pos e.symm]
      exact ltL_tri (by simpa using hl) fun z => h (by rw [e, z])
    · rw [if_neg e, if_neg (fun z => e z.symm)]
      unfold b01
      by_cases l : a < b
      · rw [decide_eq_true l, decide_eq_false (show ¬ b < a by omega)]
        rfl
      · rw [decide_eq_false l, decide_eq_true (show b < a by omega)]
        rfl
theorem ltL_plus : ∀ {x y m : List Int}, x.length = y.length → x.length = m.length → ltL (List.zipWith (· + ·) x m) (List.zipWith (· + ·) y m) = ltL x y
  | [], [], [], _, _ => rfl
  | a :: x, b :: y, n :: m, h1, h2 => by
    rw [List.zipWith_cons_cons, List.zipWith_cons_cons, ltL, ltL, ltL_plus (x := x) (y := y) (m := m) (by simpa using h1) (by simpa using h2)]
    by_cases e : a = b
    · rw [if_pos e, if_pos (by rw [e])]
    · rw [if_neg e, if_neg (by omega)]
      by_cases l : a < b
      · rw [decide_eq_true l, decide_eq_true (by omega)]
      · rw [decide_eq_false l, decide_eq_false (by omega)]
theorem plB_irr (x : List Int) : plB x x = false := by
  unfold plB
  rw [if_pos rfl, if_pos rfl, ltL_irr]
theorem plB_tri {x y : List Int} (hl : x.length = y.length) (h : x ≠ y) : b01 (plB x y) + b01 (plB y x) = 1 := by
  have two : ∀ a b : Int, a ≠ b → b01 (decide (a < b)) + b01 (decide (b < a)) = 1 := by
    intro a b e
    unfold b01
    by_cases l : a < b
    · rw [decide_eq_true l, decide_eq_false (show ¬ b < a by omega)]
      rfl
    · rw [decide_eq_false l, decide_eq_true (show b < a by omega)]
      rfl
  unfold plB
  by_cases e : lastI x = lastI y
  · rw [if_pos e, if_pos e.symm]
    by_cases g : x.sum = y.sum
    · rw [if_pos g, if_pos g.symm]
      exact ltL_tri hl h
    · rw [if_neg g, if_neg (fun z => g z.symm)]
      exact two _ _ g
  · rw [if_neg e, if_neg (fun z => e z.symm)]
    exact two _ _ e
theorem lastI_plus {x m : List Int} (h : 0 < x.length) (hl : x.length = m.length) : lastI (List.zipWith (· + ·) x m) = lastI x + lastI m := by
  unfold lastI
  rw [List.length_zipWith, ← hl, Nat.min_self]
  rw [List.getD_eq_getElem?_getD, List.getD_eq_getElem?_getD, List.getD_eq_getElem?_getD]
  rw [List.getElem?_eq_getElem (l := x) (by omega), List.getElem?_eq_getElem (l := m) (by omega), List.getElem?_zipWith, List.getElem?_eq_getElem (l := x) (by omega), List.getElem?_eq_getElem (l := m) (by omega)]
  rfl
theorem plB_plus {x y m : List Int} (h : 0 < x.length) (h1 : x.length = y.length) (h2 : x.length = m.length) : plB (List.zipWith (· + ·) x m) (List.zipWith (· + ·) y m) = plB x y := by
  unfold plB
  rw [lastI_plus h h2, lastI_plus (by omega) (by omega), ltL_plus h1 h2, sum_zip h2, sum_zip (by omega)]
  by_cases e : lastI x = lastI y
  · rw [if_pos e, if_pos (by rw [e])]
    by_cases g : x.sum = y.sum
    · rw [if_pos g, if_pos (by rw [g])]
    · rw [if_neg g, if_neg (by omega)]
      by_cases l : x.sum < y.sum
      · rw [decide_eq_true l, decide_eq_true (by omega)]
      · rw [decide_eq_false l, decide_eq_false (by omega)]
  · rw [if_neg e, if_neg (by omega)]
    by_cases l : lastI x < lastI y
    · rw [decide_eq_true l, decide_eq_true (by omega)]
    · rw [decide_eq_false l, decide_eq_false (by omega)]
end Lb
namespace Lb
open PySem PySem.Spec PyProof.Rows L2
theorem lc_enumT {K : PySem.W.Frag} {a : Addr} {xs : List V} {g : TG} {tt : TT} {te : TE} {vs : List Nat} {σ : L2.St} {H1 : Hp} {D : Addr} {Qd : Hp → Prop} (Pv : Nat → Hp → Prop) (h0 : Pv 0 (upd H1 D (.lst [])))
    (hq : ∀ i H, Pv i H → SqT K H a xs)
    (hs : ∀ (i : Nat) (x : V) (T : Addr) (H : Hp), xs[i]? = some x → Pv i H → H T = none → g (.ref T) (wipe σ vs) (upd H T (.tup [.int (i : Nat), x])) fun σ2 H2 => wipe σ2 vs = wipe σ vs ∧ tt σ2 H2 fun b H3 =>
      if b = true then te σ2 H3 fun y H4 => ∃ acc, H4 D = some (.lst acc) ∧ acc.length < sizeLine ∧ Pv (i + 1) (upd H4 D (.lst (acc ++ [y]))) else Pv (i + 1) H3) (hd : ∀ H, Pv xs.length H → Qd H) : LcW (IteT K a) g tt te vs σ H1 D Qd := by
  refine ⟨fun i m H => m = xs.length - i ∧ i ≤ xs.length ∧ Pv i H, ⟨xs.length, rfl, Nat.zero_le _, h0⟩, ?_⟩
  rintro i m H ⟨rfl, hi, p⟩
  have qx := hq i H p
  by_cases hlt : i < xs.length
  · refine .inr ⟨⟨xs, _, qx, List.getElem?_eq_getElem hlt⟩, Pv (i + 1), fun H' p' => ⟨xs.length - (i + 1), by omega, rfl, hlt, p'⟩, ?_⟩
    rintro v H' ⟨T, x', rfl, hT, rfl, f1⟩
    exact hs i x' T H (f1 xs qx) p hT
  · obtain rfl : i = xs.length := by omega
    exact .inl ⟨⟨xs, qx, Nat.le_refl _⟩, hd H p⟩
theorem eqv_ints : ∀ x y : List Int, PyData.eqvAll (x.map PyData.int) (y.map PyData.int) = decide (x = y)
  | [], [] => by rw [List.map_nil, PyData.eqvAll]; rfl
  | [], b :: y => by rw [List.map_nil, List.map_cons, PyData.eqvAll]; rfl
  | a :: x, [] => by rw [List.map_nil, List.map_cons, PyData.eqvAll]; rfl
  | a :: x, b :: y => by
    rw [List.map_cons, List.map_cons, PyData.eqvAll, eqv_ints x y, PyData.eqv]
    by_cases h : a = b
    · rw [h]
      by_cases g : x = y
      · rw [g]
        simp
      · rw [decide_eq_false g, decide_eq_false (fun z => g (List.cons.inj z).2), Bool.and_false]
    · rw [decide_eq_false (fun z => h (List.cons.inj z).1), beq_eq_false_iff_ne.mpr h, Bool.false_and]
theorem eqv_bag (x y : List Int) : PyData.eqv (bagD x) (bagD y) = decide (x = y) := by
  rw [PyData.eqv]
  exact eqv_ints x y
theorem shaped_bag (ns : List Int) : SeqAt.shaped (bagD ns) = true := by
  have h := shaped_ints ns
  first | exact h | (unfold SeqAt.shaped at *; simpa [PyData.canLay0, PyData.depth] using h)
theorem dp_bag {K : PySem.W.Frag} {H : Hp} {a : Addr} {x : List Int} (e : H a = some (.tup (x.map V.int))) : Dp K H (.ref a) (bagD x) := .tup (.inl (.inl e)) (dp_ints x)
theorem ne_int {a b : Int} {H : Hp} {Q : Bool → Hp → Prop} (e : a = b) (h : Q false H) : rNe (.int a) (.int b) H fun x H' => ∃ k, x = .bl k ∧ Q k H' := by
  subst e
  exact ⟨rfl, false, by simp, h⟩
theorem bool_ok (b : Bool) : Ok 20 0 (.bool b) := by
  cases b
  · exact ⟨by decide +kernel, by decide +kernel, by rw [PyData.depth]; exact Nat.le_refl _⟩
  · exact ⟨by decide +kernel, by decide +kernel, by rw [PyData.depth]; exact Nat.le_refl _⟩
theorem bools_ok (a b : Bool) : Ok 100 1 (.list [.bool a, .bool b]) := ((Oks.one (bool_ok a)).append (Oks.one (bool_ok b))).list.mono (by omega) (by omega)
end Lb
set_option Elab.async false
set_option linter.all false
set_option maxRecDepth 100000
set_option maxHeartbeats 4000000
namespace Lb
open PySem PySem.Spec PyProof.Rows L2 RZ
theorem for_zipT {K : PySem.W.Frag} {a b : Addr} {xs ys : List V} {g : TG} {tb : TS} {D : Ends} {σ : L2.St} {H : Hp} (hl : xs.length = ys.length) (Pv : Nat → L2.St → Hp → Prop) (h0 : Pv 0 σ H) (hq : ∀ i σ H, Pv i σ H → SqT K H a xs ∧ SqT K H b ys)
    (hs : ∀ (i : Nat) (x y : V) (T : Addr) (σ : L2.St) (H : Hp), xs[i]? = some x → ys[i]? = some y → Pv i σ H → H T = none → g (.ref T) σ (upd H T (.tup [x, y])) fun σ2 H2 => tb { D with nx := Pv (i + 1), ct := Pv (i + 1), bk := D.nx } σ2 H2) (hd : ∀ σ H, Pv xs.length σ H → D.nx σ H) :
    ∃ W : Nat → Nat → L2.St → Hp → Prop, (∃ m, W 0 m σ H) ∧ ∀ i m σ H, W i m σ H →
      ((ItzT K a b).stop i H ∧ D.nx σ H) ∨ ((ItzT K a b).go i H ∧ ∃ N : L2.St → Hp → Prop, (∀ σ' H', N σ' H' → ∃ m', m' < m ∧ W (i + 1) m' σ' H') ∧ ∀ v H', (ItzT K a b).yld i H v H' → g v σ H' fun σ2 H2 => tb { D with nx := N, ct := N, bk := D.nx } σ2 H2) := by
  refine ⟨fun i m σ H => m = xs.length - i ∧ i ≤ xs.length ∧ Pv i σ H, ⟨xs.length, rfl, Nat.zero_le _, h0⟩, ?_⟩
  rintro i m σ H ⟨rfl, hi, p⟩
  obtain ⟨qx, qy⟩ := hq i σ H p
  by_cases hlt : i < xs.length
  · refine .inr ⟨⟨xs, ys, _, _, qx, qy, List.getElem?_eq_getElem hlt, List.getElem?_eq_getElem (by omega)⟩, Pv (i + 1), fun σ' H' p' => ⟨xs.length - (i + 1), by omega, rfl, hlt, p'⟩, ?_⟩
    rintro v H' ⟨T, x', y', rfl, hT, rfl, f1, f2⟩
    exact hs i x' y' T σ H (f1 xs qx) (f2 ys qy) p hT
  · obtain rfl : i = xs.length := by omega
    exact .inl ⟨⟨xs, ys, qx, qy, .inl (Nat.le_refl _)⟩, hd σ H p⟩
theorem geB_false {x y : List Int} {i : Nat} {u v : Int} (h1 : x[i]? = some u) (h2 : y[i]? = some v) (h : u < v) : geB x y = false := by
  induction x generalizing y i with
  | nil => cases h1
  | cons a x ih =>
    cases y with
    | nil => cases h2
    | cons b y =>
      rw [geB_cons]
      cases i with
      | zero =>
        have e1 : a = u := Option.some.inj h1
        have e2 : b = v := Option.some.inj h2
        rw [decide_eq_false (by omega), Bool.false_and]
      | succ i => rw [ih (i := i) h1 h2, Bool.and_false]
end Lb
set_option Elab.async false
set_option linter.all false
set_option maxRecDepth 100000
set_option maxHeartbeats 4000000
namespace Lb
open PySem PySem.Spec PyProof.Rows L2 RZ
/-! ### x, *ys = a list -/
def gStar (K : PySem.W.Frag) (t : TGs) : TG := fun v σ H Q => ∃ a x xs, v = .ref a ∧ SqL K H a (x :: xs) ∧ ∀ p, H p = none → t [x, .ref p] σ (upd H p (.lst xs)) Q
theorem pg_star {X : Cx} {e1 e2 : Expr} {k : Nat} {t : TGs} {p2 pos : Pos} (hc : X.calm = true) (h : PGs X [e1, e2] t)
    (hm : (assignEach [e1, .Starred e2 p2] X.env).map (·.2) = (assignEach [e1, e2] X.env).map (·.2) := by rfl)
    (hn : (assignEach [e1, .Starred e2 p2] X.env).length = 2 := by rfl) (hst : (assignEach [e1, .Starred e2 p2] X.env).findIdx? (·.1) = some 1 := by rfl) : PG X (.Tuple [e1, .Starred e2 p2] k pos) (gStar X.K t) := by
  refine ⟨fun pins s σ H v u Q I r hw => ?_⟩
  obtain ⟨a, x, xs, e1', hq, hw⟩ := hw
  subst e1'
  cases r
  obtain ⟨its, rv, pl, hz⟩ := I.list hq
  have hl : s.heap.IsList a its.toArray := by
    obtain ⟨o, m, e, c, d, q⟩ := pl
    exact ⟨o, e, c, m, q⟩
  have hlt : a ≠ s.heap.objs.size := by obtain ⟨o, ho, _⟩ := hl; exact Nat.ne_of_lt (Heap.lt_size ho)
  have hll : a < s.heap.objs.size := by obtain ⟨o, ho, _⟩ := hl; exact Heap.lt_size ho
  cases rv with
  | @cons _ u1 _ us r1 r2 =>
    rw [PyProof.Rows.assign_Tuple]
    refine wpAny_bind (wpAny_standAt ?_)
    unfold unpack
    rw [hn, hst]
    refine wpAny_bind (wpAny_holding ?_)
    unfold unpackItems
    refine wpAny_bind ?_
    unfold notIterableAtAll
    refine wpAny_bind (wpAny_specialOf hl.typeIs slot_list_iter.lookup ?_)
    refine wpAny_pure ?_
    simp only [Bool.false_eq_true, if_false]
    refine wpAny_bind (wpAny_holding (wpAny_pyIter_list hl ?_))
    refine wpAny_bind (wpAny_holding (PySem.W.kun_draw hlt 1 0 _ _ ⟨_, Heap.get?_push_size _ rfl, rfl, rfl⟩ (hl.push _) (by simp) fun h₁ hit₁ hs₁ => ?_))
    have hl₁ : h₁.IsList a (u1 :: us).toArray := (hl.push _).extBut hs₁.extBut hlt
    rw [Nat.zero_add] at hit₁
    have hit₁' := hit₁
    obtain ⟨oi, hoi, _⟩ := hit₁'
    have hl₁' := hl₁
    obtain ⟨ol, hol, _⟩ := hl₁'
    rw [List.drop_zero]
    show wpAny _ _ (if (List.take 1 (u1 :: us)).length < 1 then _ else _) _ _ _
    rw [if_neg (by simp)]
    have hsz : (u1 :: us).toArray.size ≤ sizeLine := by
      have := r2.length
      rw [List.size_toArray, List.length_cons, ← this]
      exact hz
    refine wpAny_bind (wpAny_holding (PySem.W.kun_collect (s := { s with heap := h₁ }) (T := "list_iterator") (.inr (.inr (.inl rfl))) (Walks.list (A := X.A.in1) (I.ok.hd hc) s.heap.objs.size a hlt (u1 :: us).toArray) (fun j u st => st.1.typeIs) (k := 1) (by simp) ⟨hit₁, hl₁⟩ (Heap.lt_size hoi) (Heap.lt_size hol) (fun h₂ tk hk => ?_) hsz))
    show wpAny _ _ (if us.length < 0 then _ else _) _ _ _
    rw [if_neg (Nat.not_lt_zero _)]
    show wpAny _ _ (newList (us.take (us.length - 0)) >>= fun d => pure ([u1] ++ [d] ++ us.drop (us.length - 0))) _ _ _
    rw [Nat.sub_zero, List.take_length, List.drop_length]
    have kept : ∀ b o, s.heap.get? b = some o → h₂.get? b = some o := fun b o e => hk b o (Nat.ne_of_lt (Heap.lt_size e)) (hs₁.extBut b o (Nat.ne_of_lt (Heap.lt_size e)) (Heap.get?_push_of_some _ e))
    have I2 : Inv X pins σ H { s with heap := h₂, toks := tk } := I.kept kept
    have hzx : xs.length ≤ sizeLine := Nat.le_trans (Nat.le_succ _) hz
    refine wpAny_bind (wpAny_newList (s := { s with heap := h₂, toks := tk }) (wpAny_pure ?_) (by show us.length ≤ sizeLine; rw [← r2.length]; exact hzx))
    have I3 : Inv X pins σ (upd H h₂.objs.size (.lst xs)) { s with heap := h₂.push { cls := .type "list", data := .seq us.toArray }, toks := tk } := by
      refine I2.laid (t' := tk) (o := .lst xs) (fun b ob z => Heap.get?_push_of_some _ z) (Nat.le_refl _) ?_
      exact ⟨hzx, us, 0, r2, Heap.get?_push_size _ rfl⟩
    rw [hm]
    exact h.run pins _ σ _ [x, .ref h₂.objs.size] [u1, .ref h₂.objs.size] Q I3 (.cons r1 (.cons rfl .nil)) (hw _ (I2.hok.fresh (Nat.le_refl _)))
/-! ### enumerate(xs, start=1) -/
section
variable {M : Model} {A : Around} {E : Value → Shared → Prop} {s : Shared} {env : Env}
theorem callWith_type_kwB {pos : Pos} {T : String} {first : List Value} {args : List (Bool × Sem Value)} {keywords : List (Option Str × Sem Value)} {Q : Value → Shared → Prop}
    (hplain : args.any (·.1) = false) (hkw : keywords.any (·.1.isNone) = false)
    (h : wpAny M A (evalArgs (.type T) true args keywords) (fun a s₁ => wpAny M A (call (.type T) (first ++ a.pos) a.kw) Q E s₁) E s) :
    wpAny M A (callWith pos (.type T) first args keywords) Q E s := by
  unfold callWith
  refine wpAny_bind (wpAny_holding (wpAny_mono h (fun a s₁ h₁ => wpAny_bind (wpAny_standAt ?_)) fun _ _ x => x))
  simp only [hplain, hkw, Bool.or_false]
  refine wpAny_bind (wpAny_pure ?_)
  exact wpAny_bind (wpAny_mono h₁ (fun r s₂ hr => wpAny_bind (wpAny_holding (wpAny_point (wpAny_pure hr)))) fun _ _ x => x)
theorem callWith_kwT {pos : Pos} {T : String} {e : Expr} {rest : List Expr} {kws : List Keyword} {Q : Value → Shared → Prop}
    (h : wpAny M A (spliced (backTo pos (starEach (e :: rest) env))) (fun vs s₁ => wpAny M A (evalAll ((backToKw pos (keywordEach kws env)).map (·.2)))
      (fun kvs s₂ => wpAny M A (call (.type T) vs (((backToKw pos (keywordEach kws env)).filterMap (·.1)).zip kvs)) Q E s₂) E s₁) E s)
    (he : backTo pos (starEach (e :: rest) env) = (false, eval e env) :: backTo pos (starEach rest env) := by rfl)
    (hplain : (backTo pos (starEach (e :: rest) env)).any (·.1) = false := by rfl)
    (hall : (backToKw pos (keywordEach kws env)).all (·.1.isSome) = true := by rfl)
    (hkw : (backToKw pos (keywordEach kws env)).any (·.1.isNone) = false := by rfl) :
    wpAny M A (callWith pos (.type T) [] (backTo pos (starEach (e :: rest) env)) (backToKw pos (keywordEach kws env))) Q E s := by
  refine callWith_type_kwB hplain hkw ?_
  rw [he] at h ⊢
  exact evalArgs_kwB hall h
end
/-- the list at a as it stands at each turn, each item in a new pair with its index, from 1 on -/
def Ite1 (K : PySem.W.Frag) (a : Addr) : It :=
  ⟨fun i H => ∃ (xs : List V) (x : V), SqL K H a xs ∧ xs[i]? = some x, fun i H v H' => ∃ T x, v = .ref T ∧ H T = none ∧ H' = upd H T (.tup [.int ((i + 1 : Nat) : Int), x]) ∧ ∀ xs, SqL K H a xs → xs[i]? = some x,
    fun i H => ∃ xs : List V, SqL K H a xs ∧ xs.length ≤ i⟩
theorem turn_enum1 {P : Program} {w : World} {K : PySem.W.Frag} {elts : List Expr} {kk : Nat} {tpos : Pos} (a e it : Addr) :
    Turn P w K (.Tuple elts kk tpos) (Ite1 K a) [e, it] e (fun i h => (∃ old, IsEnum h e it ((i + 1 : Nat) : Int) old) ∧ h.IsListIter it a i ∧ e ≠ it) where
  mem := by simp
  obj := fun i h st b hb => by
    obtain ⟨⟨old, he⟩, ⟨o, ho, hc, hd⟩, _⟩ := st
    have e' : b = e ∨ b = it := by simpa using hb
    rcases e' with z | z
    · rw [z]
      exact ⟨_, he, fun v q => nomatch q⟩
    · rw [z]
      exact ⟨o, ho, fun v q => by rw [hd] at q; cases q⟩
  keep := fun i h h' st k => let ⟨⟨old, he⟩, hi, hne⟩ := st; ⟨⟨old, k e (by simp) _ he⟩, hi.at fun o q => k it (by simp) o q, hne⟩
  item := by
    intro X hP hw hK hc i pins s σ H E I hf st hg
    subst hP hw hK
    obtain ⟨⟨old, he⟩, hit, hne⟩ := st
    obtain ⟨xs, x, hq, hx⟩ := hg
    obtain ⟨its, rv, p, hz⟩ := I.list hq
    obtain ⟨u, hu, ru⟩ := rv.get hx
    have hel : e < s.heap.objs.size := Heap.lt_size he
    have hil : it < s.heap.objs.size := by
      obtain ⟨_, q, _⟩ := hit
      exact Heap.lt_size q
    have hai : ∀ c, c ∈ [e, it] → a ≠ c := fun c hc q => by
      obtain ⟨o, n, ho, ho2, _, ho3⟩ := p
      have cls : ∀ o', s.heap.get? a = some o' → o' = o := fun o' q' => by rw [ho] at q'; exact (Option.some.inj q').symm
      have e' : c = e ∨ c = it := by simpa using hc
      rcases e' with z | z
      · rw [q, z] at cls
        have := cls _ he
        rw [← this] at ho2
        injection ho2 with z2
        exact absurd z2 (by decide)
      · obtain ⟨oi, hoi, hci, _⟩ := hit
        rw [q, z] at cls
        have := cls _ hoi
        rw [← this, hci] at ho2
        injection ho2 with z2
        exact absurd z2 (by decide)
    have D := Draws.list (prog := X.prog) (w := X.w) (A := X.A.in1) (I.ok.hd hc) it a (hai it (by simp)) its.toArray
    have hlt : i < its.toArray.size := by
      rw [List.size_toArray]
      exact (List.getElem?_eq_some_iff.mp hu).1
    refine wpAny_pyNext_enum_itemC (c := ((i + 1 : Nat) : Int)) D he ⟨hit, p.isList⟩ hlt hne (fun z => ?_) fun y h' tk hy ho st' hT hsz hk => ?_
    · have z' : e = it ∨ e = a := by simpa using z
      rcases z' with z | z
      · exact hne z
      · exact hai e (by simp) z.symm
    have ey : y = u := by
      have : its.toArray[i]? = some u := by simpa using hu
      rw [this] at hy
      exact (Option.some.inj hy).symm
    subst ey
    refine ⟨_, rfl, wpAny_letOwnedTupleGo_enum (s := { s with heap := h', toks := tk + 1 }) ho fun h'' he' sb => ?_⟩
    have hT2 : h''.get? s.heap.objs.size = some { cls := .type "tuple", data := .seq #[.int ((i + 1 : Nat) : Int) tk, y] } := (sb.2 _ (Nat.ne_of_gt hel)).trans hT
    have new : ObjOk X.prog X.w (upd H s.heap.objs.size (.tup [.int ((i + 1 : Nat) : Int), x])) h'' s.heap.objs.size (.tup [.int ((i + 1 : Nat) : Int), x]) :=
      ⟨by show 2 ≤ sizeLine; decide, [.int ((i + 1 : Nat) : Int) tk, y], .cons ⟨_, rfl⟩ (.cons ru .nil), ⟨_, hT2, rfl, _, rfl⟩⟩
    have I1 : Inv X pins σ (upd H s.heap.objs.size (.tup [.int ((i + 1 : Nat) : Int), x])) { s with heap := h'', toks := tk + 1 } :=
      I.turnedNew (ch := [e, it]) (fun b ob hb q => (sb.2 b (fun z => hb (by simp [z]))).trans (hk b ob (fun z => hb (by simp [z])) (fun z => hb (by simp [z])) q)) hf (Nat.le_refl _) new
    refine ⟨.ref s.heap.objs.size, _, I1, rfl, ⟨_, x, rfl, I.hok.fresh (Nat.le_refl _), rfl, fun ys hy => by rw [I.list_inj hy hq]; exact hx⟩, ⟨⟨y, ?_⟩, st'.1.at fun o q => (sb.2 it (Ne.symm hne)).trans q, hne⟩, fun b hb => ?_⟩
    · have e1 : ((i + 1 + 1 : Nat) : Int) = ((i + 1 : Nat) : Int) + 1 := by omega
      rw [e1]
      exact he'
    · have hb' : b < s.heap.objs.size := by
        have e' : b = e ∨ b = it := by simpa using hb
        rcases e' with z | z
        · rw [z]
          exact hel
        · rw [z]
          exact hil
      rw [upd_ne (Nat.ne_of_lt hb')]
      exact (hf b hb).1
  done := by
    intro X hP hw hK hc i pins s σ H E I hf st hg
    subst hP hw hK
    obtain ⟨⟨old, he⟩, hit, hne⟩ := st
    obtain ⟨xs, hq, hx⟩ := hg
    obtain ⟨its, rv, p, hz⟩ := I.list hq
    obtain ⟨f0, f1, f2, f3, f4, f5⟩ := hf it (by simp)
    have hl := rv.length
    have D : Draws X.prog X.w X.A.in1 it [it, a] i (fun _ _ => False) (fun j h => j = i ∧ h.IsListIter it a i ∧ h.IsList a its.toArray) :=
      { live := fun _ _ st => let ⟨_, ⟨o, ho, _⟩, _⟩ := st; ⟨o, ho⟩
        frame := fun _ _ _ st hk => ⟨st.1, st.2.1.at fun o q => hk it (by simp) o q, st.2.2.at fun o q => hk a (by simp) o q⟩
        item := fun j s Q E hj st _ => absurd st.1 (Nat.ne_of_lt hj)
        done := fun s Q E st hE => wpAny_nextOf_list_end (I.ok.hd hc) st.2.1 st.2.2 (by simp; omega) hE }
    exact wpAny_pyNext_enum_endD D he ⟨rfl, hit, p.isList⟩ fun h' eb => ⟨rfl, I.turned (t' := s.toks) (fun b o hb q => eb b o hb q) f0 f1 f3 f4 f5⟩
  self := fun A i s Q E st h => let ⟨⟨_, he⟩, _⟩ := st; wpAny_pyIter_enum he h
def iEnum1 (K : PySem.W.Frag) (ta : TA) : TI := fun σ H R => ta σ H fun vs H1 => ∃ a xs, vs = [.ref a] ∧ SqL K H1 a xs ∧ R (Ite1 K a) H1
theorem pi_enum1 {X : Cx} {e : Expr} {ta : TA} {p pos tpos kp k1 : Pos} {k : Nat} {elts : List Expr} {kk : Nat} (hg : Gl X "enumerate") (hm : X.mg "enumerate" = none) (ha : PA X [e] ta)
    (he : backTo pos (starEach [e] X.env) = (false, eval e X.env) :: backTo pos (starEach [] X.env) := by rfl) (hpl : (backTo pos (starEach [e] X.env)).any (·.1) = false := by rfl) :
    PI X (.Tuple elts kk tpos) (.Call (.Name "enumerate" p) [e] [⟨some "start", .Constant (.int 1) k k1, kp⟩] pos) (iEnum1 X.K ta) := by
  refine ⟨fun pins s σ H R I h => ?_⟩
  have hk : PK X [⟨some "start", .Constant (.int 1) k k1, kp⟩] (tCons (tC (.int 1)) tNil) := pk_cons pe_int pk_nil
  refine wpAny_Call_Name_kw (ld_blt I hg hm boot_enumerate ?_)
  refine callWith_kwT (thn (ha.run pos pins s σ H _ I h) fun us s1 ⟨vs, H1, I1, r1, q1⟩ => thn (hk.run pos pins s1 σ H1 (fun zs H2 => zs = [.int 1] ∧ H2 = H1) I1 ⟨rfl, rfl⟩) fun ws s2 ⟨zs, H2, I2, r2, ez, e2⟩ => ?_) he hpl
  subst ez e2
  obtain ⟨a, xs, ex, hq, q⟩ := q1
  subst ex
  obtain ⟨u2, rfl, t, rfl⟩ := Vals.one r2
  rw [Vals.ref1 r1]
  obtain ⟨its, rv, p', hz⟩ := I2.list hq
  show wpAny _ _ (call (.type "enumerate") [.ref a] [(Str.ofString "start", .int 1 t)]) _ _ _
  refine enum_begins_start (begins_list a its.toArray) p'.isList (by decide) (by decide) fun h' he ho hsz hk => wpAny_pyIter_enum he ?_
  refine ⟨s2.heap.objs.size + 1, [s2.heap.objs.size + 1, s2.heap.objs.size], _, _, H2, rfl, I2.kept (t' := s2.toks) hk, turn_enum1 a (s2.heap.objs.size + 1) s2.heap.objs.size, ⟨⟨.none, he⟩, ⟨_, ho, rfl, rfl⟩, Nat.succ_ne_self _⟩, fun b hb => ?_, q⟩
  have hle : s2.heap.objs.size ≤ b := by
    have e' : b = s2.heap.objs.size + 1 ∨ b = s2.heap.objs.size := by simpa using hb
    rcases e' with z | z
    · rw [z]
      exact Nat.le_add_right _ _
    · rw [z]
      exact Nat.le_refl _
  exact I2.fpOk hle (I2.hok.fresh hle)
theorem for_enum1 {K : PySem.W.Frag} {a : Addr} {xs : List V} {g : TG} {tb : TS} {D : Ends} {σ : L2.St} {H : Hp} (Pv : Nat → L2.St → Hp → Prop) (h0 : Pv 0 σ H) (hq : ∀ i σ H, Pv i σ H → SqL K H a xs)
    (hs : ∀ (i : Nat) (x : V) (T : Addr) (σ : L2.St) (H : Hp), xs[i]? = some x → Pv i σ H → H T = none → g (.ref T) σ (upd H T (.tup [.int ((i + 1 : Nat) : Int), x])) fun σ2 H2 => tb { D with nx := Pv (i + 1), ct := Pv (i + 1), bk := D.nx } σ2 H2) (hd : ∀ σ H, Pv xs.length σ H → D.nx σ H) :
    ∃ W : Nat → Nat → L2.St → Hp → Prop, (∃ m, W 0 m σ H) ∧ ∀ i m σ H, W i m σ H →
      ((Ite1 K a).stop i H ∧ D.nx σ H) ∨ ((Ite1 K a).go i H ∧ ∃ N : L2.St → Hp → Prop, (∀ σ' H', N σ' H' → ∃ m', m' < m ∧ W (i + 1) m' σ' H') ∧ ∀ v H', (Ite1 K a).yld i H v H' → g v σ H' fun σ2 H2 => tb { D with nx := N, ct := N, bk := D.nx } σ2 H2) := by
  refine ⟨fun i m σ H => m = xs.length - i ∧ i ≤ xs.length ∧ Pv i σ H, ⟨xs.length, rfl, Nat.zero_le _, h0⟩, ?_⟩
  rintro i m σ H ⟨rfl, hi, p⟩
  have qx := hq i σ H p
  by_cases hlt : i < xs.length
  · refine .inr ⟨⟨xs, _, qx, List.getElem?_eq_getElem hlt⟩, Pv (i + 1), fun σ' H' p' => ⟨xs.length - (i + 1), by omega, rfl, hlt, p'⟩, ?_⟩
    rintro v H' ⟨T, x', rfl, hT, rfl, f1⟩
    exact hs i x' T σ H (f1 xs qx) p hT
  · obtain rfl : i = xs.length := by omega
    exact .inl ⟨⟨xs, qx, Nat.le_refl _⟩, hd σ H p⟩
end Lb
set_option Elab.async false
set_option linter.all false
set_option maxRecDepth 100000
set_option maxHeartbeats 4000000
namespace Lb
open PySem PySem.Spec PyProof.Rows L2 RZ TL
/-! ### texts of markets -/
abbrev numS (n : Int) : Str := Str.ofString (toString n)
def wordsB (b : List Int) : List Str := b.map numS
def lineS (t : Trd) : Str := Txt.join " " (wordsB t.1 ++ [("=" : Str)] ++ wordsB t.2)
def headS (g : Nat) : Str := ("goods " : Str) ++ numS (g : Int)
def linesS (g : Nat) (ts : List Trd) : List Str := headS g :: ts.map lineS
def textS (g : Nat) (ts : List Trd) : Str := Txt.join "\n" (linesS g ts)
/-! reading -/
def digV (w : Str) : Option Int := if w = "0" then some 0 else if w = "1" then some 1 else if w = "2" then some 2 else if w = "3" then some 3 else none
def bagW : List Str → Option (List Int)
  | [] => some []
  | w :: ws => match digV w, bagW ws with
    | some n, some b => some (n :: b)
    | _, _ => none
def bagR (ws : List Str) : Option (List Int) := match bagW ws with
  | none => none
  | some b => if b.sum ≤ 4 then some b else none
def tradeR (g : Nat) (line : Str) : Option Trd :=
  if (Txt.split line " ").length = 2 * g + 1 ∧ (Txt.split line " ").getD g Str.empty = "=" then
    match bagR ((Txt.split line " ").take g), bagR ((Txt.split line " ").drop (g + 1)) with
    | some a, some b => some (a, b)
    | _, _ => none
  else none
def goodsR (line : Str) : Option Nat := if line = "goods 1" then some 1 else if line = "goods 2" then some 2 else if line = "goods 3" then some 3 else if line = "goods 4" then some 4 else none
inductive Rd where
  | ok (g : Nat) (ts : List Trd)
  | bad (i : Nat)
def goR (g : Nat) : List Str → Nat → List Trd → Rd
  | [], _, ts => .ok g ts
  | l :: ls, i, ts => if i ≤ 4 then (match tradeR g l with
    | none => .bad i
    | some t => goR g ls (i + 1) (ts ++ [t])) else .bad i
def readL : List Str → Rd
  | [] => .bad 0
  | l :: ls => match goodsR l with
    | none => .bad 0
    | some g => goR g ls 1 []
def readR (s : Str) : Rd := readL (Txt.split s "\n")
/-! small numbers and their texts -/
theorem amt4 {n : Int} (h0 : 0 ≤ n) (h1 : n ≤ 4) : n = 0 ∨ n = 1 ∨ n = 2 ∨ n = 3 ∨ n = 4 := by omega
theorem num_tl {n : Int} (h0 : 0 ≤ n) (h1 : n ≤ 4) : tl (numS n) = [48 + n.toNat] := by
  rcases amt4 h0 h1 with rfl | rfl | rfl | rfl | rfl <;> decide +kernel
theorem num_len {n : Int} (h0 : 0 ≤ n) (h1 : n ≤ 4) : (numS n).length = 1 := by
  rw [len_tl, num_tl h0 h1]
  rfl
theorem num_dig {n : Int} (h0 : 0 ≤ n) (h1 : n ≤ 3) : digV (numS n) = some n := by
  rcases amt4 h0 (by omega) with rfl | rfl | rfl | rfl | rfl
  · decide +kernel
  · decide +kernel
  · decide +kernel
  · decide +kernel
  · omega
theorem num_log {n : Int} (h0 : 0 ≤ n) (h1 : n ≤ 4) : n.natAbs.log2 < 1920 := by
  rcases amt4 h0 h1 with rfl | rfl | rfl | rfl | rfl <;> decide +kernel
theorem dig_int {w : Str} {n : Int} (h : digV w = some n) : intText? w = some n ∧ w.length ≤ 640 ∧ 0 ≤ n ∧ n ≤ 3 := by
  unfold digV at h
  split at h
  · rename_i e
    cases h
    subst e
    exact ⟨by decide +kernel, by decide +kernel, by decide, by decide⟩
  · split at h
    · rename_i e
      cases h
      subst e
      exact ⟨by decide +kernel, by decide +kernel, by decide, by decide⟩
    · split at h
      · rename_i e
        cases h
        subst e
        exact ⟨by decide +kernel, by decide +kernel, by decide, by decide⟩
      · split at h
        · rename_i e
          cases h
          subst e
          exact ⟨by decide +kernel, by decide +kernel, by decide, by decide⟩
        · cases h
def digits4 : List V := [.str (numS 0), .str (numS 1), .str (numS 2), .str (numS 3)]
theorem inV_dig (w : Str) : inV (.str w) digits4 = (digV w).isSome := by
  have e0 : numS 0 = "0" := by decide +kernel
  have e1 : numS 1 = "1" := by decide +kernel
  have e2 : numS 2 = "2" := by decide +kernel
  have e3 : numS 3 = "3" := by decide +kernel
  unfold digits4
  rw [e0, e1, e2, e3]
  show ((("0" : Str) == w) || ((("1" : Str) == w) || ((("2" : Str) == w) || ((("3" : Str) == w) || false)))) = _
  unfold digV
  by_cases h0 : w = "0"
  · rw [if_pos h0, h0]
    rfl
  · rw [if_neg h0, beq_eq_false_iff_ne.mpr (Ne.symm h0), Bool.false_or]
    by_cases h1 : w = "1"
    · rw [if_pos h1, h1]
      rfl
    · rw [if_neg h1, beq_eq_false_iff_ne.mpr (Ne.symm h1), Bool.false_or]
      by_cases h2 : w = "2"
      · rw [if_pos h2, h2]
        rfl
      · rw [if_neg h2, beq_eq_false_iff_ne.mpr (Ne.symm h2), Bool.false_or]
        by_cases h3 : w = "3"
        · rw [if_pos h3, h3]
          rfl
        · rw [if_neg h3, beq_eq_false_iff_ne.mpr (Ne.symm h3), Bool.false_or]
          rfl
theorem bagW_some {ws : List Str} : (bagW ws).isSome = ws.all fun w => (digV w).isSome := by
  induction ws with
  | nil => rfl
  | cons w ws ih =>
    rw [bagW, List.all_cons, ← ih]
    cases digV w <;> cases bagW ws <;> rfl
theorem bagW_at : ∀ {ws : List Str} {b : List Int} {i : Nat} {w : Str}, bagW ws = some b → ws[i]? = some w → ∃ n, digV w = some n ∧ b[i]? = some n
  | [], _, _, _, _, h => nomatch h
  | v :: ws, b, i, w, h, hi => by
    rw [bagW] at h
    cases e1 : digV v with
    | none =>
      rw [e1] at h
      cases h
    | some n =>
      cases e2 : bagW ws with
      | none =>
        rw [e1, e2] at h
        cases h
      | some c =>
        rw [e1, e2] at h
        cases h
        cases i with
        | zero =>
          cases hi
          exact ⟨n, e1, rfl⟩
        | succ i =>
          obtain ⟨m, h1, h2⟩ := bagW_at (i := i) e2 hi
          exact ⟨m, h1, h2⟩
theorem bagW_len : ∀ {ws : List Str} {b : List Int}, bagW ws = some b → b.length = ws.length
  | [], _, h => by
    cases h
    rfl
  | v :: ws, b, h => by
    rw [bagW] at h
    cases e1 : digV v with
    | none =>
      rw [e1] at h
      cases h
    | some n =>
      cases e2 : bagW ws with
      | none =>
        rw [e1, e2] at h
        cases h
      | some c =>
        rw [e1, e2] at h
        cases h
        rw [List.length_cons, List.length_cons, bagW_len e2]
theorem bagW_words : ∀ {b : List Int}, (∀ x ∈ b, 0 ≤ x ∧ x ≤ 3) → bagW (wordsB b) = some b
  | [], _ => rfl
  | x :: b, h => by
    have e : wordsB (x :: b) = numS x :: wordsB b := rfl
    have hx := h x List.mem_cons_self
    rw [e, bagW, num_dig hx.1 hx.2, bagW_words fun y hy => h y (List.mem_cons_of_mem _ hy)]
theorem bagR_words {b : List Int} (h : ∀ x ∈ b, 0 ≤ x ∧ x ≤ 3) (hs : b.sum ≤ 4) : bagR (wordsB b) = some b := by
  unfold bagR
  rw [bagW_words h]
  exact if_pos hs
/-! joined lists -/
theorem joinL_app (S : List Nat) : ∀ {a b : List (List Nat)}, a ≠ [] → b ≠ [] → joinL S (a ++ b) = joinL S a ++ (S ++ joinL S b)
  | [], _, h, _ => absurd rfl h
  | [p], q :: r, _, _ => rfl
  | [p], [], _, h => absurd rfl h
  | p :: q :: r, b, _, hb => by
    show p ++ (S ++ joinL S ((q :: r) ++ b)) = (p ++ (S ++ joinL S (q :: r))) ++ (S ++ joinL S b)
    rw [joinL_app S (a := q :: r) (by simp) hb]
    simp [List.append_assoc]
theorem mem_joinL {S : List Nat} {c : Nat} : ∀ {ps : List (List Nat)}, c ∈ joinL S ps → c ∈ S ∨ ∃ p ∈ ps, c ∈ p
  | [], h => nomatch h
  | [p], h => .inr ⟨p, List.mem_singleton.mpr rfl, h⟩
  | p :: q :: r, h => by
    rcases List.mem_append.mp (show c ∈ p ++ (S ++ joinL S (q :: r)) from h) with h | h
    · exact .inr ⟨p, List.mem_cons_self, h⟩
    · rcases List.mem_append.mp h with h | h
      · exact .inl h
      · rcases mem_joinL (ps := q :: r) h with h | ⟨x, hx, hc⟩
        · exact .inl h
        · exact .inr ⟨x, List.mem_cons_of_mem _ hx, hc⟩
theorem words_ne {b : List Int} (h : 0 < b.length) : wordsB b ≠ [] := by
  cases b with
  | nil => cases h
  | cons x b => exact fun z => nomatch z
/-- the program's way of writing a line -/
theorem line_eq {t : Trd} (h1 : 0 < t.1.length) (h2 : 0 < t.2.length) : Str.empty ++ Txt.join " " (wordsB t.1) ++ (" = " : Str) ++ Txt.join " " (wordsB t.2) = lineS t := by
  refine ext_tl ?_
  unfold lineS
  rw [join_eq, join_eq, join_eq, tl_append, tl_append, tl_append, tl_join, tl_join, tl_join, List.map_append, List.map_append]
  rw [joinL_app _ (by simp) (by simpa using words_ne h2), joinL_app _ (by simpa using words_ne h1) (by simp)]
  have e1 : tl (" = " : Str) = [32, 61, 32] := by decide +kernel
  have e2 : tl (" " : Str) = [32] := by decide +kernel
  have e3 : joinL [32] (List.map tl [("=" : Str)]) = [61] := by decide +kernel
  have e4 : tl Str.empty = [] := rfl
  rw [e1, e2, e3, e4]
  simp
theorem word_free {b : List Int} (h : ∀ x ∈ b, 0 ≤ x ∧ x ≤ 3) {w : Str} (hw : w ∈ wordsB b) : ∃ c, tl w = [c] ∧ 48 ≤ c ∧ c ≤ 51 := by
  obtain ⟨x, hx, rfl⟩ := List.mem_map.mp hw
  have := h x hx
  exact ⟨_, num_tl this.1 (by omega), by omega, by omega⟩
theorem parts_free {t : Trd} (h1 : ∀ x ∈ t.1, 0 ≤ x ∧ x ≤ 3) (h2 : ∀ x ∈ t.2, 0 ≤ x ∧ x ≤ 3) : ∀ p ∈ wordsB t.1 ++ [("=" : Str)] ++ wordsB t.2, ∃ c, tl p = [c] ∧ 48 ≤ c ∧ c ≤ 61 := by
  intro p hp
  rcases List.mem_append.mp hp with hp | hp
  · rcases List.mem_append.mp hp with hp | hp
    · obtain ⟨c, e, h3, h4⟩ := word_free h1 hp
      exact ⟨c, e, h3, by omega⟩
    · rw [List.mem_singleton.mp hp]
      exact ⟨61, by decide +kernel, by decide, by decide⟩
  · obtain ⟨c, e, h3, h4⟩ := word_free h2 hp
    exact ⟨c, e, h3, by omega⟩
theorem line_split {t : Trd} (h1 : ∀ x ∈ t.1, 0 ≤ x ∧ x ≤ 3) (h2 : ∀ x ∈ t.2, 0 ≤ x ∧ x ≤ 3) : Txt.split (lineS t) " " = wordsB t.1 ++ [("=" : Str)] ++ wordsB t.2 := by
  unfold lineS
  refine split_join (s := 32) (S := []) (by decide +kernel) (by decide +kernel) (by simp) fun p hp => ?_
  obtain ⟨c, e, h3, _⟩ := parts_free h1 h2 p hp
  rw [e]
  intro z
  have := List.mem_singleton.mp z
  omega
theorem line_free {t : Trd} (h1 : ∀ x ∈ t.1, 0 ≤ x ∧ x ≤ 3) (h2 : ∀ x ∈ t.2, 0 ≤ x ∧ x ≤ 3) : 10 ∉ tl (lineS t) := by
  unfold lineS
  rw [join_eq, tl_join]
  intro z
  rcases mem_joinL z with z | ⟨p, hp, hc⟩
  · have e2 : tl (" " : Str) = [32] := by decide +kernel
    rw [e2] at z
    exact absurd (List.mem_singleton.mp z) (by decide)
  · obtain ⟨w, hw, rfl⟩ := List.mem_map.mp hp
    obtain ⟨c, e, h3, _⟩ := parts_free h1 h2 w hw
    rw [e] at hc
    have := List.mem_singleton.mp hc
    omega
theorem trade_back {g m : Nat} {t : Trd} (h : TrdOk g m t) (hm : m ≤ 4) (hg : 1 ≤ g) : tradeR g (lineS t) = some t := by
  obtain ⟨a, b⟩ := h
  have w1 : (wordsB t.1).length = g := by
    unfold wordsB
    rw [List.length_map]
    exact a.len
  have w2 : (wordsB t.2).length = g := by
    unfold wordsB
    rw [List.length_map]
    exact b.len
  unfold tradeR
  rw [line_split a.amt b.amt]
  have t1 := a.tot
  have t2 := b.tot
  rw [if_pos]
  · have e1 : (wordsB t.1 ++ [("=" : Str)] ++ wordsB t.2).take g = wordsB t.1 := by
      rw [List.append_assoc, List.take_append_of_le_length (by omega), List.take_of_length_le (by omega)]
    have e2 : (wordsB t.1 ++ [("=" : Str)] ++ wordsB t.2).drop (g + 1) = wordsB t.2 := by
      have : (wordsB t.1 ++ [("=" : Str)]).length = g + 1 := by rw [List.length_append, w1]; rfl
      rw [← this, List.drop_left]
    rw [e1, e2, bagR_words a.amt (by omega), bagR_words b.amt (by omega)]
  · refine ⟨?_, ?_⟩
    · rw [List.length_append, List.length_append, w1, w2]
      show g + 1 + g = _
      omega
    · rw [List.getD_eq_getElem?_getD, List.append_assoc, List.getElem?_append_right (by omega), w1, Nat.sub_self]
      rfl
theorem goods_back {g : Nat} (h1 : 1 ≤ g) (h4 : g ≤ 4) : goodsR (headS g) = some g := by
  rcases (show g = 1 ∨ g = 2 ∨ g = 3 ∨ g = 4 by omega) with rfl | rfl | rfl | rfl <;> decide +kernel
theorem head_free {g : Nat} (h1 : 1 ≤ g) (h4 : g ≤ 4) : 10 ∉ tl (headS g) := by
  rcases (show g = 1 ∨ g = 2 ∨ g = 3 ∨ g = 4 by omega) with rfl | rfl | rfl | rfl <;> decide +kernel
theorem go_back {g : Nat} (hg : 1 ≤ g) : ∀ (ts acc : List Trd) (i : Nat) (more : List Str), (∀ t ∈ ts, TrdOk g 4 t) → i + ts.length ≤ 5 → goR g (ts.map lineS ++ more) i acc = goR g more (i + ts.length) (acc ++ ts)
  | [], acc, i, more, _, _ => by rw [List.map_nil, List.nil_append, List.append_nil]; rfl
  | t :: ts, acc, i, more, h, hl => by
    have hl' : i + (ts.length + 1) ≤ 5 := hl
    rw [List.map_cons, List.cons_append, goR, if_pos (by omega), trade_back (h t List.mem_cons_self) (Nat.le_refl _) hg]
    show goR g (ts.map lineS ++ more) (i + 1) (acc ++ [t]) = _
    rw [go_back hg ts (acc ++ [t]) (i + 1) more (fun u hu => h u (List.mem_cons_of_mem _ hu)) (by omega), List.append_assoc, List.length_cons, List.singleton_append]
    congr 1
    omega
theorem lines_free {g : Nat} {ts : List Trd} (m : MktOk g ts) : ∀ p ∈ linesS g ts, 10 ∉ tl p := by
  intro p hp
  rcases List.mem_cons.mp hp with rfl | hp
  · exact head_free m.one m.four
  · obtain ⟨t, ht, rfl⟩ := List.mem_map.mp hp
    exact line_free (m.all t ht).1.amt (m.all t ht).2.amt
theorem text_split {g : Nat} {ts : List Trd} (m : MktOk g ts) : Txt.split (textS g ts) "\n" = linesS g ts :=
  split_join (s := 10) (S := []) (by decide +kernel) (by decide +kernel) (fun z => nomatch z) (lines_free m)
/-- THE READ-BACK -/
theorem read_back {g : Nat} {ts : List Trd} (m : MktOk g ts) : readR (textS g ts) = .ok g ts := by
  unfold readR
  rw [text_split m]
  unfold linesS
  rw [readL, goods_back m.one m.four]
  show goR g (ts.map lineS) 1 [] = _
  have := go_back m.one ts [] 1 [] m.all (by have := m.many; omega)
  rw [List.append_nil, List.nil_append] at this
  rw [this]
  rfl
end Lb
namespace Lb
open PySem PySem.Spec PyProof.Rows L2 RZ TL
def rJoin (K : PySem.W.Frag) : V → List V → Hp → VK → Prop := fun x xs H Q => ∃ a p, ∃ ys : List Str, x = .str a ∧ xs = [.ref p] ∧ (SqL K H p (ys.map V.str) ∨ SqT K H p (ys.map V.str)) ∧
      (ys.map (·.length)).sum + ys.length * a.length ≤ 16777216 ∧ Q (.str (Txt.join a ys)) H
theorem pe_joinK {X : Cx} {o e : Expr} {to te : TE} {apos pos : Pos} (ho : PE X o to) (he : PE X e te) (hs : starEach [e] X.env = [(false, eval e X.env)] := by rfl) (hbase : attributeBase o "join" X.env (eval o X.env) = eval o X.env := by rfl) (hline : (apos.endLine == pos.line) = true := by rfl) :
    PE X (.Call (.Attribute o "join" apos) [e] [] pos) (tM1 (rJoin X.K) to te) := pe_join ho he hs hbase hline
def numV (n : Nat) : V := .int (n : Int)
def optN : Option Nat → V
  | none => .non
  | some g => .int (g : Int)
def optT : Option Trd → PyData
  | none => .none
  | some t => trdD t
/-- what read_market makes of a value -/
inductive RdV where
  | ok (g : Nat) (ts : List Trd)
  | bad (v : V)
def readD : PyData → RdV
  | .str s => match readR s with
    | .ok g ts => .ok g ts
    | .bad i => .bad (.int (i : Int))
  | _ => .bad .non
def isStrD : PyData → Bool
  | .str _ => true
  | _ => false
theorem kit_str : ∀ d : PyData, kitB (tyOf d) "str" = some (isStrD d)
  | .none => (by decide +kernel : kitB "NoneType" "str" = some false)
  | .bool _ => (by decide +kernel : kitB "bool" "str" = some false)
  | .int _ => (by decide +kernel : kitB "int" "str" = some false)
  | .str _ => (by decide +kernel : kitB "str" "str" = some true)
  | .list _ => (by decide +kernel : kitB "list" "str" = some false)
  | .tuple _ => (by decide +kernel : kitB "tuple" "str" = some false)
  | .dict _ => (by decide +kernel : kitB "dict" "str" = some false)
def spLine : Sp := fun vs H Q _ => ∃ (R : Rgn) (v : V) (t : Trd), vs = [v] ∧ Dat R H v (trdD t) ∧ 0 < t.1.length ∧ t.1.length ≤ 100 ∧ 0 < t.2.length ∧ t.2.length ≤ 100 ∧ (∀ x ∈ t.1, 0 ≤ x ∧ x ≤ 3) ∧ (∀ x ∈ t.2, 0 ≤ x ∧ x ≤ 3) ∧ ∀ H', Same H H' → Q (.str (lineS t)) H'
def spText : Sp := fun vs H Q _ => ∃ (R : Rgn) (v : V) (g : Nat) (ts : List Trd), vs = [v] ∧ Dat R H v (mktD g ts) ∧ MktOk g ts ∧ ∀ H', Same H H' → Q (.str (textS g ts)) H'
def spRGoods : Sp := fun vs H Q _ => ∃ l : Str, vs = [.str l] ∧ ∀ H', Same H H' → Q (optN (goodsR l)) H'
def spRBag (K : PySem.W.Frag) : Sp := fun vs H Q _ => ∃ (a : Addr) (ws : List Str), vs = [.ref a] ∧ SqL K H a (ws.map V.str) ∧ ws.length ≤ 1000 ∧ ∀ (H' : Hp) (v : V), Same H H' → OptAt H H' v (bagR ws) → Q v H'
def spRTrade : Sp := fun vs H Q _ => ∃ (R : Rgn) (g : Nat) (l : Str), vs = [.int (g : Int), .str l] ∧ 1 ≤ g ∧ g ≤ 4 ∧ l.length ≤ 100000 ∧ (∀ p, H p = none → R p) ∧ ∀ (H' : Hp) (v : V), Same H H' → Dat R H' v (optT (tradeR g l)) → Q v H'
def spRead (K : PySem.W.Frag) (C : Addr) : Sp := fun vs H Q E => ∃ (R : Rgn) (v : V) (d : PyData) (T : String), vs = [v] ∧ TyX K H v (.type T) ∧ kitB T "str" = some (isStrD d) ∧ (∀ s, d = .str s → v = .str s ∧ s.length ≤ 100000) ∧ (∀ p, H p = none → R p) ∧
  (∀ (g : Nat) (ts : List Trd) (H' : Hp) (u : V), readD d = .ok g ts → Same H H' → Dat R H' u (mktD g ts) → Q u H') ∧
  ∀ (e : V) (H' : Hp) (dd : Addr), readD d = .bad e → Same H H' → H dd = none → H' dd = some (.xd [("line", e)]) → E (.ref C) (some dd) H'
theorem split_len (x y : Str) (hy : 1 ≤ y.length) : (Txt.split x y).length ≤ x.length + 1 := by
  have := PyProof.Rows.split_weight x y hy
  omega
theorem split_mem {x y : Str} (hy : 1 ≤ y.length) {p : Str} (h : p ∈ Txt.split x y) : p.length ≤ x.length := by
  have h1 := PyProof.Rows.split_weight x y hy
  have h2 : p.length ≤ ((Txt.split x y).map (·.length)).sum := by
    have : ∀ (l : List Nat) (a : Nat), a ∈ l → a ≤ l.sum := by
      intro l
      induction l with
      | nil => intro a h; cases h
      | cons b l ih =>
        intro a h
        rw [List.sum_cons]
        rcases List.mem_cons.mp h with rfl | h
        · omega
        · have := ih a h
          omega
    exact this _ _ (List.mem_map.mpr ⟨p, h, rfl⟩)
  have h3 : 1 ≤ (Txt.split x y).length := by
    cases e : Txt.split x y with
    | nil => rw [e] at h; cases h
    | cons a l => simp
  omega
theorem str_get {ys : List Str} {i : Nat} {x : V} (h : (ys.map V.str)[i]? = some x) : ∃ w, x = .str w ∧ ys[i]? = some w := by
  rw [List.getElem?_map] at h
  cases e : ys[i]? with
  | none =>
    rw [e] at h
    cases h
  | some u =>
    rw [e] at h
    exact ⟨u, (Option.some.inj h).symm, rfl⟩
theorem words_sum : ∀ {b : List Int}, (∀ x ∈ b, 0 ≤ x ∧ x ≤ 3) → ((wordsB b).map (·.length)).sum = b.length
  | [], _ => rfl
  | x :: b, h => by
    have hx := h x List.mem_cons_self
    have e : wordsB (x :: b) = numS x :: wordsB b := rfl
    rw [e, List.map_cons, List.sum_cons, words_sum fun y hy => h y (List.mem_cons_of_mem _ hy), num_len hx.1 (by omega), List.length_cons]
    omega
theorem join_len (a : Str) (ys : List Str) : (Txt.join a ys).length ≤ (ys.map (·.length)).sum + ys.length * a.length := by
  rw [join_eq]
  exact StrLaws.join_length_le a ys
theorem line_len {t : Trd} (h1 : ∀ x ∈ t.1, 0 ≤ x ∧ x ≤ 3) (h2 : ∀ x ∈ t.2, 0 ≤ x ∧ x ≤ 3) : (lineS t).length ≤ 2 * t.1.length + 2 * t.2.length + 2 := by
  have h := join_len " " (wordsB t.1 ++ [("=" : Str)] ++ wordsB t.2)
  have e : (" " : Str).length = 1 := by decide +kernel
  have e2 : ("=" : Str).length = 1 := by decide +kernel
  have w1 : (wordsB t.1).length = t.1.length := by unfold wordsB; rw [List.length_map]
  have w2 : (wordsB t.2).length = t.2.length := by unfold wordsB; rw [List.length_map]
  rw [List.map_append, List.map_append, List.sum_append, List.sum_append, words_sum h1, words_sum h2, List.length_append, List.length_append, w1, w2, e] at h
  have e3 : (List.map (fun x => x.length) [("=" : Str)]).sum = 1 := by
    show ("=" : Str).length + 0 = 1
    rw [e2]
  rw [e3] at h
  unfold lineS
  have e4 : [("=" : Str)].length = 1 := rfl
  omega
theorem head_len {g : Nat} (h1 : 1 ≤ g) (h4 : g ≤ 4) : (headS g).length = 7 := by
  rcases (show g = 1 ∨ g = 2 ∨ g = 3 ∨ g = 4 by omega) with rfl | rfl | rfl | rfl <;> decide +kernel
theorem lines_sum {g : Nat} {ts : List Trd} (m : MktOk g ts) : ((linesS g ts).map (·.length)).sum + (linesS g ts).length * 1 ≤ 200 := by
  have hl : ∀ us : List Trd, (∀ t ∈ us, TrdOk g 4 t) → ((us.map lineS).map (·.length)).sum ≤ 18 * us.length := by
    intro us
    induction us with
    | nil => intro _; exact Nat.le_refl _
    | cons t us ih =>
      intro h
      have ht := h t List.mem_cons_self
      have := line_len ht.1.amt ht.2.amt
      rw [ht.1.len, ht.2.len] at this
      have := m.four
      have := ih fun u hu => h u (List.mem_cons_of_mem _ hu)
      rw [List.map_cons, List.map_cons, List.sum_cons, List.length_cons]
      omega
  have h1 := hl ts m.all
  have h2 := m.many
  have h3 := head_len m.one m.four
  unfold linesS
  rw [List.map_cons, List.sum_cons, List.length_cons, List.length_map, h3]
  omega
theorem text_len {g : Nat} {ts : List Trd} (m : MktOk g ts) : (textS g ts).length ≤ 200 := by
  have h := join_len "\n" (linesS g ts)
  have e : ("\n" : Str).length = 1 := by decide +kernel
  rw [e] at h
  have := lines_sum m
  unfold textS
  omega
end Lb
namespace Lb
open PySem PySem.Spec PyProof.Rows L2 RZ TL
/-- a block in a block, without free names -/
theorem blkOk_in {N : List Str} {sc scope : Scope} {own : List (Str × Nat)} (h : blkC N { kind := .function, names := [], isGenerator := false, isCoroutine := false } scope own = true) : BlkOk N sc scope own := by
  have b := blkOk_by h
  refine ⟨b.kind, b.uniq, b.ix, fun y hy e => ?_, b.own⟩
  rcases b.free y hy e with z | z <;> cases z
end Lb
namespace Lb
open PySem PySem.Spec PyProof.Rows L2 RZ TL
theorem Dat.strI {R : Rgn} {H : Hp} {v : V} {s : Str} (h : Dat R H v (.str s)) : v = .str s := by
  cases h
  rfl
theorem split_cons (x : Str) (y : Str) (hy : 1 ≤ y.length) : ∃ l ls, Txt.split x y = l :: ls := by
  cases e : Txt.split x y with
  | nil =>
    have := PyProof.Rows.split_weight x y hy
    have h2 := StrLaws.join_split x y
    rw [e] at h2
    have h3 : x = Str.empty := h2.symm
    subst h3
    have e0 : Str.empty.length = 0 := rfl
    unfold Txt.split at e
    rw [if_pos (by rw [Bool.or_eq_true]; exact .inl (decide_eq_true (by omega)))] at e
    cases e
  | cons l ls => exact ⟨l, ls, rfl⟩
theorem cutS_to (ws : List Str) (j : Nat) (h : j ≤ ws.length) : cutV (ws.map V.str) none (some (j : Int)) = (ws.take j).map V.str := by
  rw [cut_to _ j (by rw [List.length_map]; exact h), List.map_take]
theorem cutS_from (ws : List Str) (j : Nat) (h : j ≤ ws.length) : cutV (ws.map V.str) (some (j : Int)) none = (ws.drop j).map V.str := by
  rw [cut_from _ j (by rw [List.length_map]; exact h), List.map_drop]
end Lb
namespace Lb
open PySem PySem.Spec PyProof.Rows L2 RZ TL
theorem passX0 {X : Cx} : Passes (L2.CX X.prog X.w) X L2.E0 := by
  intro pins σ H s e s' I h
  exfalso
  unfold L2.CX at h
  obtain ⟨_, _, _, h⟩ := h
  simp [L2.E0] at h
/-- the call of a def that may raise, where it does not -/
theorem pe_ownX {X : Cx} {k : Nat} {ps : List Str} {sp : Sp} {x : Str} {p pos : Pos} {e : Expr} {es : List Expr} {t : TA} (O : OwnX X.prog X.w X.K X.mg X.base x k ps sp) (hr : Room k X.A) (hg : Gl X x) (ha : PA X (e :: es) t) (hdb : (x == ("__debug__" : Str)) = false := by decide)
    (he : starEach (e :: es) X.env = (false, eval e X.env) :: starEach es X.env := by rfl) (hpl : (backTo pos (starEach es X.env)).any (·.1) = false := by rfl) : PE X (.Call (.Name x p) (e :: es) [] pos) (tCall sp [] L2.E0 t) := by
  obtain ⟨f, fd, F, m, kp, b⟩ := O.ex
  exact pe_call F hr hg m kp b .nil passX0 ha hdb he hpl
end Lb
namespace Lb
open PySem PySem.Spec PyProof.Rows L2 RZ TL
theorem text_chars {g : Nat} {ts : List Trd} (m : MktOk g ts) : ∀ c ∈ tl (textS g ts), c < 200 := by
  intro c hc
  unfold textS at hc
  rw [join_eq, tl_join] at hc
  rcases mem_joinL hc with z | ⟨p, hp, hc⟩
  · have e2 : tl ("\n" : Str) = [10] := by decide +kernel
    rw [e2] at z
    rw [List.mem_singleton.mp z]
    decide
  · obtain ⟨w, hw, rfl⟩ := List.mem_map.mp hp
    rcases List.mem_cons.mp hw with rfl | hw
    · have hh : ∀ k : Nat, 1 ≤ k → k ≤ 4 → (tl (headS k)).all (fun c => decide (c < 200)) = true := by
        intro k h1 h4
        rcases (show k = 1 ∨ k = 2 ∨ k = 3 ∨ k = 4 by omega) with rfl | rfl | rfl | rfl <;> decide +kernel
      exact of_decide_eq_true (List.all_eq_true.mp (hh g m.one m.four) c hc)
    · obtain ⟨t, ht, rfl⟩ := List.mem_map.mp hw
      unfold lineS at hc
      rw [join_eq, tl_join] at hc
      rcases mem_joinL hc with z | ⟨p, hp, hc⟩
      · have e2 : tl (" " : Str) = [32] := by decide +kernel
        rw [e2] at z
        rw [List.mem_singleton.mp z]
        decide
      · obtain ⟨u, hu, rfl⟩ := List.mem_map.mp hp
        obtain ⟨k, e, h3, h4⟩ := parts_free (m.all t ht).1.amt (m.all t ht).2.amt u hu
        rw [e] at hc
        rw [List.mem_singleton.mp hc]
        omega
theorem text_ok {g : Nat} {ts : List Trd} (m : MktOk g ts) : Ok 2100 0 (.str (textS g ts)) := by
  refine ⟨rfl, ?_, by rw [PyData.depth]; exact Nat.le_refl _⟩
  have h := StrLaws.reprText_len (textS g ts) (fun c hc => by have := text_chars m c hc; omega)
  have := text_len m
  show (reprText (textS g ts)).length ≤ _
  omega
theorem mkt_ok {g : Nat} {ts : List Trd} (mok : MktOk g ts) : Ok 200 4 (mktD g ts) := by
  have h1 := trds_ok mok.four mok.all
  have h2 := h1.tuple
  have h3 := (Oks.one ((nat_ok (g := g) (by have := mok.four; omega)).mono (Nat.le_refl _) (Nat.zero_le 3))).append (Oks.one h2)
  exact h3.tuple.mono (by have := mok.many; omega) (Nat.le_refl _)
end Lb
set_option Elab.async false
set_option linter.all false
set_option maxRecDepth 100000
set_option maxHeartbeats 4000000
namespace Lb
open PySem PySem.Spec PyProof.Rows L2 RZ TL
/-! ### readings that the law does itself -/
def foundD : Rd → PyData
  | .ok g ts => .list [.str "ok", mktD g ts]
  | .bad i => .list [.str "bad", .int (i : Int)]
def foundV : PyData → PyData
  | .str x => foundD (readR x)
  | _ => .list [.str "bad", .none]
def inG (g : Nat) (ws : List Str) : Option (List Int) := if ws.length = g then bagR ws else none
theorem trade_in {g : Nat} (hg : 1 ≤ g) (l : Str) : tradeR g l = match inG g ((Txt.split l " ").take g), inG g ((Txt.split l " ").drop (g + 1)) with
    | some a, some b => if (Txt.split l " ").getD g Str.empty = "=" then some (a, b) else none
    | _, _ => none := by
  unfold tradeR inG
  generalize Txt.split l " " = ws
  by_cases hl : ws.length = 2 * g + 1
  · rw [if_pos (show (ws.take g).length = g by rw [List.length_take]; omega), if_pos (show (ws.drop (g + 1)).length = g by rw [List.length_drop]; omega)]
    by_cases he : ws.getD g Str.empty = "="
    · rw [if_pos ⟨hl, he⟩, he]
      cases bagR (ws.take g) <;> cases bagR (ws.drop (g + 1)) <;> rfl
    · rw [if_neg (fun z => he z.2)]
      cases bagR (ws.take g) <;> cases bagR (ws.drop (g + 1)) <;> first
        | rfl
        | exact (if_neg he).symm
  · rw [if_neg (fun z => hl z.1)]
    by_cases h1 : (ws.drop (g + 1)).length = g
    · rw [List.length_drop] at h1
      omega
    · rw [if_neg h1]
      generalize (if (ws.take g).length = g then bagR (ws.take g) else none) = o
      cases o <;> rfl
theorem bagW_amt : ∀ {ws : List Str} {b : List Int}, bagW ws = some b → ∀ x ∈ b, 0 ≤ x ∧ x ≤ 3 := by
  intro ws b h x hx
  obtain ⟨i, hi, e⟩ := List.getElem_of_mem hx
  have hl := bagW_len h
  obtain ⟨n, h1, h2⟩ := bagW_at (i := i) (w := ws[i]) h (List.getElem?_eq_getElem (by omega))
  rw [List.getElem?_eq_getElem hi, e] at h2
  have := Option.some.inj h2
  subst this
  exact (dig_int h1).2.2
theorem bagR_side {ws : List Str} {b : List Int} (h : bagR ws = some b) : Side ws.length 4 b := by
  unfold bagR at h
  cases e : bagW ws with
  | none =>
    rw [e] at h
    cases h
  | some c =>
    rw [e] at h
    have h : (if c.sum ≤ 4 then some c else none) = some b := h
    by_cases hs : c.sum ≤ 4
    · rw [if_pos hs] at h
      cases h
      exact ⟨bagW_len e, bagW_amt e, hs⟩
    · rw [if_neg hs] at h
      cases h
theorem trade_ok {g : Nat} {l : Str} {t : Trd} (h : tradeR g l = some t) : TrdOk g 4 t := by
  unfold tradeR at h
  split at h
  · rename_i hc
    cases e1 : bagR ((Txt.split l " ").take g) with
    | none =>
      rw [e1] at h
      cases h
    | some a =>
      cases e2 : bagR ((Txt.split l " ").drop (g + 1)) with
      | none =>
        rw [e1, e2] at h
        cases h
      | some b =>
        rw [e1, e2] at h
        cases h
        have s1 := bagR_side e1
        have s2 := bagR_side e2
        rw [List.length_take, Nat.min_eq_left (by omega)] at s1
        rw [List.length_drop] at s2
        have : (Txt.split l " ").length - (g + 1) = g := by omega
        rw [this] at s2
        exact ⟨s1, s2⟩
  · cases h
theorem go_ok {g : Nat} : ∀ (ls : List Str) (i : Nat) (acc : List Trd) {g' : Nat} {ts : List Trd}, (∀ t ∈ acc, TrdOk g 4 t) → acc.length + 1 = i → i ≤ 5 → goR g ls i acc = .ok g' ts → g' = g ∧ ts.length ≤ 4 ∧ ∀ t ∈ ts, TrdOk g 4 t
  | [], i, acc, g', ts, ha, hi, h5, h => by
    rw [goR] at h
    cases h
    exact ⟨rfl, by omega, ha⟩
  | l :: ls, i, acc, g', ts, ha, hi, h5, h => by
    rw [goR] at h
    by_cases h4 : i ≤ 4
    · rw [if_pos h4] at h
      cases e : tradeR g l with
      | none =>
        rw [e] at h
        cases h
      | some t =>
        rw [e] at h
        refine go_ok ls (i + 1) (acc ++ [t]) (fun u hu => ?_) (by rw [List.length_append]; show acc.length + 1 + 1 = _; omega) (by omega) h
        rcases List.mem_append.mp hu with hu | hu
        · exact ha u hu
        · rw [List.mem_singleton.mp hu]
          exact trade_ok e
    · rw [if_neg h4] at h
      cases h
theorem go_bad {g : Nat} : ∀ (ls : List Str) (i : Nat) (acc : List Trd) {k : Nat}, goR g ls i acc = .bad k → k ≤ i + ls.length
  | [], i, acc, k, h => by
    rw [goR] at h
    cases h
  | l :: ls, i, acc, k, h => by
    rw [goR] at h
    by_cases h4 : i ≤ 4
    · rw [if_pos h4] at h
      cases e : tradeR g l with
      | none =>
        rw [e] at h
        cases h
        omega
      | some t =>
        rw [e] at h
        have := go_bad ls (i + 1) (acc ++ [t]) h
        rw [List.length_cons]
        omega
    · rw [if_neg h4] at h
      cases h
      omega
theorem goods_14 {l : Str} {g : Nat} (hg : goodsR l = some g) : 1 ≤ g ∧ g ≤ 4 := by
  unfold goodsR at hg
  split at hg
  · cases hg; decide
  · split at hg
    · cases hg; decide
    · split at hg
      · cases hg; decide
      · split at hg
        · cases hg; decide
        · cases hg
theorem readL_ok {ls : List Str} {g : Nat} {ts : List Trd} (h : readL ls = .ok g ts) : MktOk g ts := by
  cases ls with
  | nil => cases h
  | cons l ls =>
    rw [readL] at h
    cases e : goodsR l with
    | none =>
      rw [e] at h
      cases h
    | some k =>
      rw [e] at h
      have hg := goods_14 e
      obtain ⟨rfl, h1, h2⟩ := go_ok ls 1 [] (fun t ht => absurd ht List.not_mem_nil) rfl (by decide) h
      exact ⟨hg.1, hg.2, h1, h2⟩
theorem readL_bad {ls : List Str} {k : Nat} (h : readL ls = .bad k) : k ≤ ls.length := by
  cases ls with
  | nil =>
    cases h
    exact Nat.le_refl _
  | cons l ls =>
    rw [readL] at h
    cases e : goodsR l with
    | none =>
      rw [e] at h
      cases h
      exact Nat.zero_le _
    | some g =>
      rw [e] at h
      have := go_bad ls 1 [] h
      rw [List.length_cons]
      omega
theorem found_ok {x : Str} (hx : x.length ≤ 1990) : Ok 300 5 (foundD (readR x)) := by
  have e1 : ("\n" : Str).length = 1 := by decide +kernel
  have hl := split_len x "\n" (by rw [e1]; exact Nat.le_refl _)
  cases e : readR x with
  | ok g ts =>
    have m := mkt_ok (readL_ok e)
    exact ((Oks.one ((word0 "ok" (by decide +kernel)).mono (Nat.le_refl _) (Nat.zero_le 4))).append (Oks.one m)).list.mono (by omega) (Nat.le_refl _)
  | bad k =>
    have := readL_bad e
    exact ((Oks.one ((word0 "bad" (by decide +kernel)))).append (Oks.one (amt_ok (x := (k : Int)) (by omega) (by omega)))).list.mono (by omega) (by omega)
/-- the reading of a text with an empty line behind it -/
theorem read_more {g : Nat} {ts : List Trd} (m : MktOk g ts) : readR (textS g ts ++ "\n") = .bad (linesS g ts).length := by
  have e : textS g ts ++ ("\n" : Str) = Txt.join "\n" (linesS g ts ++ [Str.empty]) := by
    refine ext_tl ?_
    unfold textS
    rw [tl_append, join_eq, join_eq, tl_join, tl_join, List.map_append, joinL_app _ (a := List.map tl (linesS g ts)) (by unfold linesS; simp) (by simp)]
    have e1 : joinL (tl ("\n" : Str)) (List.map tl [Str.empty]) = [] := by decide +kernel
    rw [e1, List.append_nil]
  have hs : Txt.split (textS g ts ++ ("\n" : Str)) "\n" = linesS g ts ++ [Str.empty] := by
    rw [e]
    refine split_join (s := 10) (S := []) (by decide +kernel) (by decide +kernel) (by simp) fun p hp => ?_
    rcases List.mem_append.mp hp with hp | hp
    · exact lines_free m p hp
    · rw [List.mem_singleton.mp hp]
      exact fun z => nomatch z
  unfold readR
  rw [hs]
  unfold linesS
  rw [List.cons_append, readL, goods_back m.one m.four]
  show goR g (ts.map lineS ++ [Str.empty]) 1 [] = _
  have h4 := m.many
  rw [go_back m.one ts [] 1 [Str.empty] m.all (by omega), goR]
  have hn : tradeR g Str.empty = none := by
    have : ∀ k : Nat, 1 ≤ k → k ≤ 4 → tradeR k Str.empty = none := by
      intro k h1 h4
      rcases (show k = 1 ∨ k = 2 ∨ k = 3 ∨ k = 4 by omega) with rfl | rfl | rfl | rfl <;> decide +kernel
    exact this g m.one m.four
  rw [hn, List.length_cons, List.length_map]
  by_cases h : 1 + ts.length ≤ 4
  · rw [if_pos h, Nat.add_comm]
  · rw [if_neg h, Nat.add_comm]
theorem read_empty : readR "" = .bad 0 := by
  have e1 : Txt.split "" "\n" = [("" : Str)] := by decide +kernel
  have e2 : goodsR "" = none := by decide +kernel
  unfold readR
  rw [e1, readL, e2]
/-! promises -/
def spFound (K : PySem.W.Frag) : Sp := fun vs H Q _ => ∃ (R : Rgn) (v : V) (d : PyData) (T : String), vs = [v] ∧ TyX K H v (.type T) ∧ kitB T "str" = some (isStrD d) ∧ (∀ s, d = .str s → v = .str s ∧ s.length ≤ 100000) ∧ (∀ p, H p = none → R p) ∧
  ∀ (H' : Hp) (u : V), Same H H' → Dat R H' u (foundV d) → Q u H'
def spBagIn (K : PySem.W.Frag) : Sp := fun vs H Q _ => ∃ (a : Addr) (ws : List Str) (g : Nat), vs = [.ref a, .int (g : Int)] ∧ SqL K H a (ws.map V.str) ∧ ws.length ≤ 2000 ∧ g ≤ 100 ∧ ∀ (H' : Hp) (v : V), Same H H' → OptAt H H' v (inG g ws) → Q v H'
def spDueT : Sp := fun vs H Q _ => ∃ (R : Rgn) (x : Str), vs = [.str x] ∧ x.length ≤ 1990 ∧ (∀ p, H p = none → R p) ∧ ∀ (H' : Hp) (u : V), Same H H' → Dat R H' u (foundD (readR x)) → Q u H'
def spOther : Sp := fun vs H Q _ => ∃ (d c r : Addr) (n N : Nat) (x : Str), vs = [.ref d, .str x] ∧ Dk H d c r n ∧ n < 2 ^ 38 ∧ x.length ≤ N ∧ N ≤ 900 ∧ ∀ (H' : Hp) (y : Str), y.length ≤ 2 * N + 20 → Dk H' d c r (n + 10) → Kp d r H H' → Q (.str y) H'
theorem cutL_to (ws : List Str) (j : Nat) : cutV (ws.map V.str) none (some (j : Int)) = (ws.take j).map V.str := by
  by_cases h : j ≤ ws.length
  · exact cutS_to ws j h
  · have e : ∀ n : Nat, n < j → HT.sIx n n (some (j : Int)) = n := fun n hn => by
      rw [HT.sIx_nat]
      omega
    unfold cutV
    rw [e _ (by rw [List.length_map]; omega), List.take_of_length_le (by omega : ws.length ≤ j)]
    have e0 : ∀ n, HT.sIx n 0 none = 0 := fun n => rfl
    rw [e0, List.drop_zero, Nat.sub_zero, List.take_length]
theorem cutL_from (ws : List Str) (j : Nat) : cutV (ws.map V.str) (some (j : Int)) none = (ws.drop j).map V.str := by
  by_cases h : j ≤ ws.length
  · exact cutS_from ws j h
  · have e : ∀ n : Nat, n < j → HT.sIx n 0 (some (j : Int)) = n := fun n hn => by
      rw [HT.sIx_nat]
      omega
    unfold cutV
    rw [e _ (by rw [List.length_map]; omega), List.drop_of_length_le (by omega : ws.length ≤ j), List.drop_length, List.take_nil]
    rfl
theorem find_dig {w : Str} {n : Int} (h : digV w = some n) : Txt.find "0123" w = n := by
  unfold digV at h
  split at h
  · rename_i e
    cases h
    subst e
    decide +kernel
  · split at h
    · rename_i e
      cases h
      subst e
      decide +kernel
    · split at h
      · rename_i e
        cases h
        subst e
        decide +kernel
      · split at h
        · rename_i e
          cases h
          subst e
          decide +kernel
        · cases h
theorem cutS_to_len (z : Str) (j : Nat) : (cutS z none (some (j : Int))).length = min j z.length := by
  rw [len_tl]
  show ((z.cps.toList.drop (HT.sIx z.length 0 none)).take (HT.sIx z.length z.length (some (j : Int)) - HT.sIx z.length 0 none)).length = _
  have hz := len_tl z
  rw [HT.sIx_none, HT.sIx_nat, List.drop_zero, List.length_take]
  show min _ (tl z).length = _
  omega
theorem cutS_from_len (z : Str) (j : Nat) : (cutS z (some (j : Int)) none).length = z.length - min j z.length := by
  rw [len_tl]
  show ((z.cps.toList.drop (HT.sIx z.length 0 (some (j : Int)))).take (HT.sIx z.length z.length none - HT.sIx z.length 0 (some (j : Int)))).length = _
  have hz := len_tl z
  rw [HT.sIx_none, HT.sIx_nat, List.length_take, List.length_drop]
  show min _ ((tl z).length - _) = _
  omega
theorem app_len (x y : Str) : (x ++ y).length = x.length + y.length := by
  rw [len_tl, len_tl x, len_tl y, tl_append, List.length_append]
theorem sum_take (l : List Nat) (k : Nat) : (l.take k).sum ≤ l.sum := by
  have := congrArg List.sum (List.take_append_drop k l)
  rw [List.sum_append] at this
  omega
theorem sum_cut (l : List Nat) {k j : Nat} (h : k ≤ j) : (l.take k).sum + (l.drop j).sum ≤ l.sum := by
  have h1 := congrArg List.sum (List.take_append_drop k l)
  rw [List.sum_append] at h1
  have h2 : (l.drop j).sum ≤ (l.drop k).sum := by
    have h3 := congrArg List.sum (List.take_append_drop (j - k) (l.drop k))
    rw [List.sum_append, List.drop_drop, show k + (j - k) = j by omega] at h3
    omega
  omega
/-- lines of a text, some left out, one put in -/
theorem lines_cut {x : Str} {k j : Nat} (h : k ≤ j) (mid : List Str) : let ls := Txt.split x "\n"
    let ys := ls.take k ++ mid ++ ls.drop j
    (ys.map (·.length)).sum + ys.length * ("\n" : Str).length ≤ x.length + 1 + ((mid.map (·.length)).sum + mid.length) ∧ ys.length ≤ x.length + 1 + mid.length := by
  have e1 : ("\n" : Str).length = 1 := by decide +kernel
  have h0 := PyProof.Rows.split_weight x "\n" (by rw [e1]; exact Nat.le_refl _)
  have h1 := sum_cut ((Txt.split x "\n").map (·.length)) h
  show ((((Txt.split x "\n").take k ++ mid ++ (Txt.split x "\n").drop j).map (·.length)).sum + _ ≤ _) ∧ _
  rw [← List.map_take, ← List.map_drop] at h1
  rw [List.map_append, List.map_append, List.sum_append, List.sum_append, e1]
  show _ + (((Txt.split x "\n").take k ++ mid ++ (Txt.split x "\n").drop j).length) * 1 ≤ _ ∧ ((Txt.split x "\n").take k ++ mid ++ (Txt.split x "\n").drop j).length ≤ _
  rw [List.length_append, List.length_append, List.length_take, List.length_drop]
  omega
end Lb
namespace Lb
open PySem PySem.Spec PyProof.Rows L2 RZ TL
/-! ### xs != [] -/
def rNeA : R2 := fun x y H Q => ∃ (a b : Addr) (xs : List V), x = .ref a ∧ y = .ref b ∧ H a = some (.lst xs) ∧ H b = some (.lst []) ∧ Q (.bl (!xs.isEmpty)) H
theorem op_neA {X : Cx} (hu : X.A.units < cLine) : OpR X (compareOp .NotEq) rNeA := by
  intro pins s σ H x y v u Q I rx ry h
  obtain ⟨a, b, xs, rfl, rfl, ea, eb, q⟩ := h
  cases rx
  cases ry
  obtain ⟨its, r, p, _⟩ := I.list (.inl (.inl ea))
  obtain ⟨its2, r2, p2, _⟩ := I.list (.inl (.inl eb))
  cases r2
  cases r with
  | nil =>
    have z := SeqAt.RcNeAt.lists (A := X.A) (s := s) (e := fun _ => true) p.isList p2.isList rfl hu (fun j h1 _ => absurd h1 (Nat.not_lt_zero j))
    exact z X.prog X.w X.xe (EP X pins σ Q) ⟨.bl false, H, I, rfl, q⟩
  | cons r1 rr =>
    have z := SeqAt.RcNeAt.lists_lengths (A := X.A) (s := s) p.isList p2.isList rfl hu
    exact z X.prog X.w X.xe (EP X pins σ Q) ⟨.bl true, H, I, rfl, q⟩
end Lb
set_option Elab.async false
set_option linter.all false
set_option maxRecDepth 100000
set_option maxHeartbeats 4000000
namespace Lb
open PySem PySem.Spec PyProof.Rows L2 RZ
/-! ### sorted(xs), xs plain data that is alike -/
/-- not after -/
def leD (a b : V × PyData) : Bool := !PySem.W.dataLt b.2 a.2
def srtA (xs : List V) (ds : List PyData) : List (V × PyData) := (xs.zip ds).mergeSort leD
def rSortA (K : PySem.W.Frag) : List V → Hp → VK → Prop := fun vs H Q => ∃ (R : Rgn) (a : Addr) (xs : List V) (ds : List PyData), vs = [.ref a] ∧ H a = some (.lst xs) ∧ Dats R H xs ds ∧ PySem.W.AllAlike ds ∧ PySem.W.Sortable ds ∧ (∀ d ∈ ds, d.depth ≤ 60) ∧
  ∀ p, H p = none → Q (.ref p) (upd H p (.lst ((srtA xs ds).map Prod.fst)))
theorem each_of {X : Cx} {pins : List (Addr × Obj)} {σ : L2.St} {H : Hp} {s : Shared} {R : Rgn} {h' : Heap} (I : L2.Inv X pins σ H s) (k : ∀ b o, s.heap.get? b = some o → h'.get? b = some o) : ∀ {xs : List V} {ds : List PyData} {us : List Value}, Dats R H xs ds → Vals xs us →
    PySem.W.EachIs (fun u (z : V × PyData) => RelV z.1 u ∧ ∃ as, Reads h' u z.2 as) us (xs.zip ds)
  | _, _, _, .nil, .nil => .nil
  | _, _, _, .cons h t, .cons r rr => by
    obtain ⟨as, q⟩ := dat_reads I h r
    exact .cons ⟨r, as, PyProof.Rows.Reads.keeps k q⟩ (each_of I k t rr)
theorem each_vals : ∀ {us : List Value} {zs : List (V × PyData)} {h' : Heap}, PySem.W.EachIs (fun u (z : V × PyData) => RelV z.1 u ∧ ∃ as, Reads h' u z.2 as) us zs → Vals (zs.map Prod.fst) us
  | _, _, _, .nil => .nil
  | _, _, _, .cons h t => .cons h.1 (each_vals t)
theorem each_data : ∀ {us : List Value} {zs : List (V × PyData)} {h' : Heap}, PySem.W.EachIs (fun u (z : V × PyData) => RelV z.1 u ∧ ∃ as, Reads h' u z.2 as) us zs → PySem.W.EachIs (fun u d => ∃ as, Reads h' u d as) us (zs.map Prod.snd)
  | _, _, _, .nil => .nil
  | _, _, _, .cons h t => .cons h.2 (each_data t)
theorem cr_sortA {X : Cx} (hu : X.A.units + 64 < cLine) : CallR X (.builtin "sorted") (rSortA X.K) := by
  intro pins s σ H vs us Q I r h
  obtain ⟨R, a, xs, ds, rfl, ea, hd, hal, hs, hdp, q⟩ := h
  obtain ⟨its, rv, hl, hz⟩ := I.list (.inl (.inl ea))
  rw [Vals.ref1 r]
  have hl' : s.heap.IsList a its.toArray := by
    obtain ⟨o, n, ho, hc, _, hd⟩ := hl
    exact ⟨o, ho, hc, n, hd⟩
  have hlen := rv.length
  have e1 := each_of (h' := PySem.W.sortingHeap (PySem.W.copyHeap s.heap its) (s.heap.objs.size + 1) its) I (fun b o e => PySem.W.sorting_copy_old e) hd rv
  have hmap : (xs.zip ds).map Prod.snd = ds := List.map_snd_zip (by rw [hd.length]; exact Nat.le_refl _)
  have e2 := each_data e1
  rw [hmap] at e2
  have S := PySem.W.SortsAt.data (prog := X.prog) (w := X.w) (A := X.A.in1.in1) (s := { s with heap := PySem.W.sortingHeap (PySem.W.copyHeap s.heap its) (s.heap.objs.size + 1) its }) e2 hal hs (fun d hdd => by
    have := hdp d hdd
    show X.A.units + 1 + 1 + d.depth < cLine
    omega)
  refine PySem.W.sorted_vals hl' S (by rw [← hlen]; exact hz) ?_
  have e3 : PySem.W.EachIs (fun u (z : V × PyData) => (PySem.W.dataKind (PySem.W.sortingHeap (PySem.W.copyHeap s.heap its) (s.heap.objs.size + 1) its) ds).keyOf u = some (PySem.W.keyToks z.2)) its (xs.zip ds) := by
    refine PySem.W.EachIs.of_zip e1.length fun p hp => ?_
    obtain ⟨_, as, rd⟩ := e1.zip p hp
    refine PySem.W.dataKind_some hal ?_ rd
    have : p.2 ∈ xs.zip ds := (List.of_mem_zip hp).2
    exact (List.of_mem_zip this).2
  have e4 := PySem.W.sortVals_each (κ := PySem.W.dataKind (PySem.W.sortingHeap (PySem.W.copyHeap s.heap its) (s.heap.objs.size + 1) its) ds) (rev := false) (fun z : V × PyData => PySem.W.keyToks z.2) e1 e3
  obtain ⟨ee, hat⟩ := sortedAll_at s.heap its (PySem.W.sortVals (PySem.W.dataKind (PySem.W.sortingHeap (PySem.W.copyHeap s.heap its) (s.heap.objs.size + 1) its) ds) false its its).toArray
  have hvals := each_vals e4
  have hle : (fun a b : V × PyData => PySem.W.sortLe (listOrd itemOrd) false (fun z : V × PyData => PySem.W.keyToks z.2) a b) = leD := rfl
  have hz2 : ((srtA xs ds).map Prod.fst).length ≤ sizeLine := by
    unfold srtA
    rw [List.length_map, List.length_mergeSort, List.length_zip]
    exact Nat.le_trans (Nat.min_le_left _ _) hz
  have fr : H (s.heap.objs.size + 1) = none := I.hok.fresh (Nat.le_succ _)
  refine ⟨.ref (s.heap.objs.size + 1), _, I.laid (t' := s.toks) (o := .lst ((srtA xs ds).map Prod.fst)) (fun b ob z => sortedAll_old z) (Nat.le_succ _) ?_, rfl, q _ fr⟩
  exact ⟨hz2, _, ee, hvals, hat⟩
end Lb
set_option Elab.async false
set_option linter.all false
set_option maxRecDepth 100000
set_option maxHeartbeats 4000000
namespace Lb
open PySem PySem.Spec PyProof.Rows L2 RZ
/-! ### zip over any number of tuples of one length -/
section
variable {prog : Program} {w : World} {A : Around} {E : Value → Shared → Prop}
/-- the cells of a zip over n tuples lie apart -/
structure Far (n : Nat) (z TI TO : Addr) (it t : Nat → Addr) : Prop where
  tz : TI ≠ z
  oz : TO ≠ z
  to : TI ≠ TO
  iz : ∀ k, k < n → it k ≠ z
  iT : ∀ k, k < n → it k ≠ TO
  iI : ∀ k, k < n → it k ≠ TI
  ii : ∀ k j, k < n → j < n → it k = it j → k = j
  ti : ∀ k j, k < n → j < n → t k ≠ it j
  tZ : ∀ k, k < n → t k ≠ z
  tO : ∀ k, k < n → t k ≠ TO
/-- the zip stands before item i -/
structure ZAt (n : Nat) (z TI TO : Addr) (it t : Nat → Addr) (xs : Nat → Array Value) (i : Nat) (h : Heap) : Prop where
  hz : IsZip h z TI TO .none
  hI : h.get? TI = some { cls := .type "tuple", data := .seq ((List.range n).map fun k => Value.ref (it k)).toArray }
  hO : ∃ arr : Array Value, arr.size = n ∧ h.get? TO = some { cls := .type "tuple", data := .seq arr }
  its : ∀ k, k < n → h.IsTupleIter (it k) (t k) i ∧ h.IsTuple (t k) (xs k)
/-- in the midst of an item: j are drawn -/
structure Mid (n : Nat) (z TI TO : Addr) (it t : Nat → Addr) (xs : Nat → Array Value) (i : Nat) (hp : Heap) (j : Nat) (p : Heap) : Prop where
  hz : IsZip p z TI TO .ellipsis
  hO : ∃ arr : Array Value, arr.size = n ∧ p.get? TO = some { cls := .type "tuple", data := .seq arr } ∧ ∀ k, k < j → arr[k]? = (xs k)[i]?
  old : ∀ k, j ≤ k → k < n → p.IsTupleIter (it k) (t k) i
  new : ∀ k, k < j → p.IsTupleIter (it k) (t k) (i + 1)
  tup : ∀ k, k < n → p.IsTuple (t k) (xs k)
  sz : p.objs.size = hp.objs.size
  keep : ∀ c o, c ≠ z → c ≠ TO → (∀ k, k < n → c ≠ it k) → hp.get? c = some o → p.get? c = some o
theorem zipN_item {n : Nat} {z TI TO : Addr} {it t : Nat → Addr} {xs : Nat → Array Value} {i : Nat} {s : Shared} {Q : Value → Shared → Prop} (F : Far n z TI TO it t) (hn : 0 < n) (hh : A.handled = none) (Z : ZAt n z TI TO it t xs i s.heap) (hlt : ∀ k, k < n → i < (xs k).size)
    (hQ : ∀ (arr : Array Value) h' tk, arr.size = n → (∀ k, k < n → arr[k]? = (xs k)[i]?) → IsZip h' z TI TO (rawInt s.heap.objs.size) → (∃ arr : Array Value, arr.size = n ∧ h'.get? TO = some { cls := .type "tuple", data := .seq arr }) →
      (∀ k, k < n → h'.IsTupleIter (it k) (t k) (i + 1)) → h'.get? s.heap.objs.size = some { cls := .type "tuple", data := .seq arr } → h'.objs.size = s.heap.objs.size + 1 →
      (∀ c o, c ≠ z → c ≠ TO → (∀ k, k < n → c ≠ it k) → s.heap.get? c = some o → h'.get? c = some o) → Q (.ref s.heap.objs.size) { s with heap := h', toks := tk }) (hz8 : n ≤ 8) :
    wpAny (model prog w) A (Builtin.«zip.__next__» ⟨[.ref z], []⟩) (fun fin s' => ∃ v, fin = .done (.ret v) ∧ Q v s') E s := by
  obtain ⟨hp, g, d, tk0, os⟩ := s
  obtain ⟨hz, hI, ⟨arr0, ha0, hO⟩, hits⟩ := Z
  have ne0 : (((List.range n).map fun k => Value.ref (it k)).toArray.isEmpty) = false := by
    rw [List.isEmpty_toArray]
    cases n with
    | zero => omega
    | succ m => rw [List.range_succ_eq_map]; rfl
  show wpAny _ _ (field (.ref z) 2 >>= _) _ _ _
  refine wpAny_bind (wpAny_field hz rfl (x := .bool false) rfl ?_)
  show wpAny _ _ (field (.ref z) 3 >>= _) _ _ _
  refine wpAny_bind (wpAny_field hz rfl (x := .ref TI) rfl ?_)
  refine wpAny_bind (wpAny_seqItems hI rfl ?_)
  show wpAny _ _ (if (((List.range n).map fun k => Value.ref (it k)).toArray.isEmpty) = true then _ else _) _ _ _
  rw [ne0, if_neg Bool.false_ne_true]
  refine wpAny_bind ?_
  unfold Builtin.SmallTypes.ownedTupleIsFree
  refine wpAny_bind (wpAny_field hz rfl (x := .none) rfl (wpAny_pure ?_))
  simp only [if_true]
  refine wpAny_bind (wpAny_rule ?_)
  refine wpAny_bind (wpAny_field hz rfl (x := .ref TO) rfl ?_)
  refine wpAny_bind (wpAny_setField_rec hz (by simp) fun g0 gz0 gs0 => ?_)
  have m0 : Mid n z TI TO it t xs i hp 0 g0 := by
    have gs0 : Heap.SameBut z hp g0 := gs0
    refine ⟨gz0, ⟨arr0, ha0, gs0.extBut _ _ F.oz hO, fun k hk => absurd hk (Nat.not_lt_zero _)⟩, fun k _ hk => ?_, fun k hk => absurd hk (Nat.not_lt_zero _), fun k hk => ?_, gs0.1, fun c o cz _ _ e => gs0.extBut _ _ cz e⟩
    · exact (hits k hk).1.at fun o e => gs0.extBut _ _ (F.iz k hk) e
    · exact (hits k hk).2.at fun o e => gs0.extBut _ _ (F.tZ k hk) e
  have hlist : ((List.range n).map fun k => Value.ref (it k)).toArray.toList.zipIdx = (List.range n).map fun k => (Value.ref (it k), k) := by
    show ((List.range n).map fun k => Value.ref (it k)).zipIdx = _
    refine List.ext_getElem? fun k => ?_
    rw [List.getElem?_zipIdx, List.getElem?_map, List.getElem?_map]
    by_cases hk : k < n
    · rw [List.getElem?_range hk]
      simp
    · rw [List.getElem?_eq_none (by rw [List.length_range]; omega)]
      rfl
  rw [hlist]
  refine wpAny_bind (wpAny_forIn_list _ (fun rest b s' => b.1 = none ∧ ∃ j p tk, rest = ((List.range n).map fun k => (Value.ref (it k), k)).drop j ∧ j ≤ n ∧ s' = ⟨p, g, d, tk, os⟩ ∧ Mid n z TI TO it t xs i hp j p) _ ?turn ?fin _ _ ⟨rfl, 0, g0, tk0, rfl, Nat.zero_le _, rfl, m0⟩)
  case turn =>
    rintro ⟨x, k⟩ rest b s' ⟨hb, j, p, tk, hrest, hj, rfl, M⟩
    have hjn : j < n := by
      rcases Nat.lt_or_ge j n with h | h
      · exact h
      · rw [List.drop_of_length_le (by rw [List.length_map, List.length_range]; exact h)] at hrest
        cases hrest
    have hcons : ((List.range n).map fun k => (Value.ref (it k), k)).drop j = (Value.ref (it j), j) :: ((List.range n).map fun k => (Value.ref (it k), k)).drop (j + 1) := by
      rw [List.drop_eq_getElem_cons (by rw [List.length_map, List.length_range]; exact hjn)]
      simp
    rw [hcons] at hrest
    injection hrest with h1 h2
    have hx : x = .ref (it j) := congrArg Prod.fst h1
    have hk : k = j := congrArg Prod.snd h1
    subst hx hk h2
    obtain ⟨arr, has, hT, harr⟩ := M.hO
    have D := Draws.tuple (prog := prog) (w := w) (A := A) hh (it k) (t k) (F.ti k k hjn hjn) (xs k)
    refine wpAny_bind (wpAny_onRaise ?_)
    show wpAny _ _ (Builtin.SmallTypes.nextOf (.ref (it k)) >>= _) _ _ ⟨p, g, d, tk, os⟩
    refine wpAny_bind (D.item i ⟨p, g, d, tk, os⟩ _ _ (hlt k hjn) ⟨M.old k (Nat.le_refl _) hjn, M.tup k hjn⟩ fun v p1 tk1 hv st1 hs1 => wpAny_pure ?_)
    have hs1 : Heap.SameBut (it k) p p1 := hs1
    have hT1 : p1.get? TO = some { cls := .type "tuple", data := .seq arr } := hs1.extBut _ _ (F.iT k hjn).symm hT
    refine wpAny_bind (wpAny_seqItems (s := ⟨p1, g, d, tk1, os⟩) hT1 rfl ?_)
    refine wpAny_bind (wpAny_updateSeq (s := ⟨p1, g, d, tk1, os⟩) hT1 rfl ?_)
    refine wpAny_bind (wpAny_letGo (wpAny_pure ?_))
    have hs2 : Heap.SameBut TO p1 (p1.update TO (Obj.mapSeq (·.setIfInBounds k v))) := Heap.SameBut.update ..
    have hT2 : (p1.update TO (Obj.mapSeq (·.setIfInBounds k v))).get? TO = some { cls := .type "tuple", data := .seq (arr.setIfInBounds k v) } := by
      rw [Heap.get?_update_self _ hT1 rfl]
      simp [Obj.mapSeq]
    have both : ∀ c o, c ≠ it k → c ≠ TO → p.get? c = some o → (p1.update TO (Obj.mapSeq (·.setIfInBounds k v))).get? c = some o := fun c o n1 n2 e => hs2.extBut _ _ n2 (hs1.extBut _ _ n1 e)
    generalize p1.update TO (Obj.mapSeq (·.setIfInBounds k v)) = p2 at hs2 hT2 both ⊢
    refine ⟨rfl, k + 1, p2, tk1, rfl, hjn, rfl, ?_⟩
    refine ⟨both _ _ (F.iz k hjn).symm F.oz.symm M.hz, ⟨arr.setIfInBounds k v, by rw [Array.size_setIfInBounds]; exact has, hT2, fun a ha => ?_⟩, fun a ha hb' => ?_, fun a ha => ?_, fun a ha => ?_, by rw [hs2.1, hs1.1]; exact M.sz, fun c o cz cT cI e => both _ _ (cI k hjn) cT (M.keep c o cz cT cI e)⟩
    · by_cases hak : a = k
      · subst hak
        rw [Array.getElem?_setIfInBounds_self_of_lt (by rw [has]; exact hjn)]
        exact hv.symm
      · rw [Array.getElem?_setIfInBounds_ne (fun q => hak q.symm)]
        exact harr a (by omega)
    · exact (M.old a (by omega) hb').at fun o e => both _ _ (fun q => by have := F.ii a k hb' hjn q; omega) (F.iT a hb') e
    · by_cases hak : a = k
      · subst hak
        exact st1.1.at fun o e => hs2.extBut _ _ (F.iT a hjn) e
      · exact (M.new a (by omega)).at fun o e => both _ _ (fun q => hak (F.ii a k (by omega) hjn q)) (F.iT a (by omega)) e
    · exact (M.tup a ha).at fun o e => both _ _ (F.ti a k ha hjn) (F.tO a ha) e
  case fin =>
    rintro ⟨b1, b2⟩ s' ⟨hb, j, p, tk, hrest, hj, rfl, M⟩
    simp only at hb
    subst hb
    have hjn : j = n := by
      rcases Nat.lt_or_ge j n with h | h
      · have : ((List.range n).map fun k => (Value.ref (it k), k)).drop j ≠ [] := by
          intro q
          have := congrArg List.length q
          rw [List.length_drop, List.length_map, List.length_range] at this
          have h0 : ([] : List (Value × Nat)).length = 0 := rfl
          omega
        exact absurd hrest.symm this
      · omega
    subst hjn
    obtain ⟨arr, has, hT, harr⟩ := M.hO
    refine wpAny_bind (wpAny_seqItems (s := ⟨p, g, d, tk, os⟩) hT rfl ?_)
    refine wpAny_bind (wpAny_newTuple ?_ (by rw [Array.length_toList, has]; exact Nat.le_trans hz8 (by decide)))
    have hzlt : z < p.objs.size := Heap.lt_size M.hz
    refine wpAny_bind ?_
    unfold Builtin.SmallTypes.ownedTupleHandOut
    have hz6 : IsZip (p.push { cls := .type "tuple", data := .seq arr.toList.toArray }) z TI TO .ellipsis := Heap.get?_push_of_some _ M.hz
    refine wpAny_bind (wpAny_setField_rec hz6 (by simp) fun h7 gz7 gs7 => ?_)
    refine wpAny_setField_rec gz7 (by simp) fun h8 gz8 gs8 => ?_
    have gs7 : Heap.SameBut z (p.push { cls := .type "tuple", data := .seq arr.toList.toArray }) h7 := gs7
    have gs8 : Heap.SameBut z h7 h8 := gs8
    have up : ∀ c o, c ≠ z → p.get? c = some o → h8.get? c = some o := fun c o cz e => gs8.extBut _ _ cz (gs7.extBut _ _ cz (Heap.get?_push_of_some _ e))
    have hT8 : h8.get? p.objs.size = some { cls := .type "tuple", data := .seq arr } := by
      refine gs8.extBut _ _ (Nat.ne_of_gt hzlt) (gs7.extBut _ _ (Nat.ne_of_gt hzlt) ?_)
      have := Heap.get?_push_size p (o := { cls := .type "tuple", data := .seq arr.toList.toArray }) rfl
      rw [Array.toArray_toList] at this
      exact this
    have hz8' : h8.objs.size = p.objs.size + 1 := by rw [gs8.1, gs7.1, Heap.size_push]
    have gz8 : IsZip h8 z TI TO (rawInt p.objs.size) := gz8
    rw [M.sz] at gz8 hT8 hz8'
    refine wpAny_pure ⟨_, rfl, ?_⟩
    show Q (.ref p.objs.size) ⟨h8, g, d, tk, os⟩
    rw [M.sz]
    exact hQ arr h8 tk has harr gz8 ⟨arr, has, up _ _ F.oz hT⟩ (fun k hk => (M.new k hk).at fun o e => up _ _ (F.iz k hk) e) hT8 hz8' fun c o cz cT cI e => up _ _ cz (M.keep c o cz cT cI e)
theorem zipN_stop {n : Nat} {z TI TO : Addr} {it t : Nat → Addr} {xs : Nat → Array Value} {i : Nat} {s : Shared} {Q : PySem.Fin → Shared → Prop} (F : Far n z TI TO it t) (hn : 0 < n) (hh : A.handled = none) (Z : ZAt n z TI TO it t xs i s.heap) (he0 : i = (xs 0).size)
    (hE : ∀ h' tk e, (∀ c o, c ≠ z → c ≠ TO → (∀ k, k < n → c ≠ it k) → s.heap.get? c = some o → h'.get? c = some o) → (∃ o, h'.get? e = some o ∧ o.cls = .type "StopIteration") → E (.ref e) { s with heap := h', toks := tk }) :
    wpAny (model prog w) A (Builtin.«zip.__next__» ⟨[.ref z], []⟩) Q E s := by
  obtain ⟨hp, g, d, tk0, os⟩ := s
  obtain ⟨hz, hI, ⟨arr0, ha0, hO⟩, hits⟩ := Z
  obtain ⟨m, rfl⟩ : ∃ m, n = m + 1 := ⟨n - 1, by omega⟩
  have hhead : ((List.range (m + 1)).map fun k => Value.ref (it k)) = Value.ref (it 0) :: ((List.range m).map fun k => Value.ref (it (k + 1))) := by
    rw [List.range_succ_eq_map, List.map_cons, List.map_map]
    rfl
  rw [hhead] at hI
  show wpAny _ _ (field (.ref z) 2 >>= _) _ _ _
  refine wpAny_bind (wpAny_field hz rfl (x := .bool false) rfl ?_)
  show wpAny _ _ (field (.ref z) 3 >>= _) _ _ _
  refine wpAny_bind (wpAny_field hz rfl (x := .ref TI) rfl ?_)
  refine wpAny_bind (wpAny_seqItems hI rfl ?_)
  show wpAny _ _ (Builtin.SmallTypes.ownedTupleIsFree (.ref z) >>= _) _ _ _
  refine wpAny_bind ?_
  unfold Builtin.SmallTypes.ownedTupleIsFree
  refine wpAny_bind (wpAny_field hz rfl (x := .none) rfl (wpAny_pure ?_))
  simp only [if_true]
  refine wpAny_bind (wpAny_rule ?_)
  refine wpAny_bind (wpAny_field hz rfl (x := .ref TO) rfl ?_)
  refine wpAny_bind (wpAny_setField_rec hz (by simp) fun g0 gz0 gs0 => ?_)
  have gs0 : Heap.SameBut z hp g0 := gs0
  have gz0 : IsZip g0 z TI TO .ellipsis := gz0
  refine wpAny_bind ?_
  rw [List.zipIdx_cons, List.forIn_cons]
  refine wpAny_bind (wpAny_bind (wpAny_onRaise ?_))
  have D := Draws.tuple (prog := prog) (w := w) (A := A) hh (it 0) (t 0) (F.ti 0 0 hn hn) (xs 0)
  show wpAny _ _ (Builtin.SmallTypes.nextOf (.ref (it 0)) >>= _) _ _ ⟨g0, g, d, tk0, os⟩
  have st0 : g0.IsTupleIter (it 0) (t 0) (xs 0).size ∧ g0.IsTuple (t 0) (xs 0) := by
    rw [← he0]
    exact ⟨(hits 0 hn).1.at fun o e => gs0.extBut _ _ (F.iz 0 hn) e, (hits 0 hn).2.at fun o e => gs0.extBut _ _ (F.tZ 0 hn) e⟩
  refine wpAny_bind (D.done ⟨g0, g, d, tk0, os⟩ _ _ st0 fun q e hq he => ?_)
  have hq : Heap.ExtBut (it 0) g0 q := hq
  obtain ⟨oe, hoe, hce⟩ := he
  have hoe : q.get? e = some oe := hoe
  have hzq : IsZip q z TI TO .ellipsis := hq _ _ (F.iz 0 hn).symm gz0
  have hez : e ≠ z := fun x => by
    rw [x, hzq] at hoe
    cases hoe
    simp at hce
  refine wpAny_setField_rec (s := ⟨q, g, d, tk0, os⟩) hzq (by simp) fun q' _ hq' => ?_
  have hq' : Heap.SameBut z q q' := hq'
  exact hE q' tk0 e (fun c o cz cT cI x => hq'.extBut _ _ cz (hq _ _ (cI 0 hn) (gs0.extBut _ _ cz x))) ⟨oe, hq'.extBut _ _ hez hoe, hce⟩
theorem next_zipN {n : Nat} {z TI TO : Addr} {it t : Nat → Addr} {xs : Nat → Array Value} {i : Nat} {s : Shared} {Q : Option Value → Shared → Prop} (F : Far n z TI TO it t) (hn : 0 < n) (hn8 : n ≤ 8) (hh : A.handled = none) (Z : ZAt n z TI TO it t xs i s.heap) (hlt : ∀ k, k < n → i < (xs k).size)
    (hQ : ∀ (arr : Array Value) h' tk, arr.size = n → (∀ k, k < n → arr[k]? = (xs k)[i]?) → IsZip h' z TI TO (rawInt s.heap.objs.size) → (∃ arr : Array Value, arr.size = n ∧ h'.get? TO = some { cls := .type "tuple", data := .seq arr }) →
      (∀ k, k < n → h'.IsTupleIter (it k) (t k) (i + 1)) → h'.get? s.heap.objs.size = some { cls := .type "tuple", data := .seq arr } → h'.objs.size = s.heap.objs.size + 1 →
      (∀ c o, c ≠ z → c ≠ TO → (∀ k, k < n → c ≠ it k) → s.heap.get? c = some o → h'.get? c = some o) → Q (some (.ref s.heap.objs.size)) { s with heap := h', toks := tk }) : wpAny (model prog w) A (pyNext (.ref z)) Q E s := by
  have ty : s.TypeIs (.ref z) "zip" := ⟨_, Z.hz, rfl⟩
  unfold pyNext
  refine wpAny_bind (wpAny_attempt (wpAny_callSpecial?_slot (name := Str.ofString "__next__") ty PySem.F.slot_zip_next (wpAny_call_entry PySem.F.slot_zip_next ty PySem.F.entry_zip_next ?_ (PySem.F.args_zip_next_1 _))))
  exact zipN_item (A := A.in1) F hn hh Z hlt (fun arr h' tk b1 b2 b3 b4 b5 b6 b7 b8 => wpAny_pure (hQ arr h' tk b1 b2 b3 b4 b5 b6 b7 b8)) hn8
theorem stop_zipN {n : Nat} {z TI TO : Addr} {it t : Nat → Addr} {xs : Nat → Array Value} {i : Nat} {s : Shared} {Q : Option Value → Shared → Prop} (F : Far n z TI TO it t) (hn : 0 < n) (hh : A.handled = none) (Z : ZAt n z TI TO it t xs i s.heap) (he0 : i = (xs 0).size)
    (hQ : ∀ h' tk, (∀ c o, c ≠ z → c ≠ TO → (∀ k, k < n → c ≠ it k) → s.heap.get? c = some o → h'.get? c = some o) → Q none { s with heap := h', toks := tk }) : wpAny (model prog w) A (pyNext (.ref z)) Q E s := by
  have ty : s.TypeIs (.ref z) "zip" := ⟨_, Z.hz, rfl⟩
  unfold pyNext
  refine wpAny_bind (wpAny_attempt (wpAny_callSpecial?_slot (name := Str.ofString "__next__") ty PySem.F.slot_zip_next (wpAny_call_entry PySem.F.slot_zip_next ty PySem.F.entry_zip_next (zipN_stop (A := A.in1) F hn hh Z he0 fun h' tk e hk he => ?_) (PySem.F.args_zip_next_1 _))))
  obtain ⟨o, ho, hc⟩ := he
  exact wpAny_bind (wpAny_isInstance (T := "StopIteration") (b := true) ⟨o, ho, hc⟩ isSubtype_stop (wpAny_pure (hQ _ _ hk)))
end
/-! ### zip of four tuples -/
theorem new_zip4 {v1 v2 v3 v4 : Value} {o1 o2 o3 o4 : Obj} {G1 G2 G3 G4 : Heap → Prop} (B1 : Begins v1 o1 G1) (B2 : Begins v2 o2 G2) (B3 : Begins v3 o3 G3) (B4 : Begins v4 o4 G4) :
    Meets (Builtin.«zip.__new__» ⟨[.type "zip", v1, v2, v3, v4], []⟩) (fun _ R s => (G1 s.heap ∧ G2 s.heap ∧ G3 s.heap ∧ G4 s.heap) ∧ ∀ (h4 hT hO : Heap), h4 = (((s.heap.push o1).push o2).push o3).push o4 →
      hT = h4.push { cls := .type "tuple", data := .seq #[.ref s.heap.objs.size, .ref (s.heap.push o1).objs.size, .ref ((s.heap.push o1).push o2).objs.size, .ref (((s.heap.push o1).push o2).push o3).objs.size] } →
      hO = hT.push { cls := .type "tuple", data := .seq #[.none, .none, .none, .none] } →
      R (.ok (.ret (.ref hO.objs.size))) { s with heap := hO.push { cls := .type "zip", data := .fields #[.none, .bool false, .bool false, .ref h4.objs.size, .ref hT.objs.size] } }) :=
  .of_wp fun prog w A R s h => by
    obtain ⟨hp, g, d, tk, os⟩ := s
    obtain ⟨⟨g1, g2, g3, g4⟩, h⟩ := h
    have sb := sub_zip
    have j1 : ∀ {A' : Around} {E : Value → Shared → Prop} {Q : Value → Shared → Prop}, Q (.ref hp.objs.size) ⟨hp.push o1, g, d, tk, os⟩ → wpAny (model prog w) A' (pyIter v1) Q E ⟨hp, g, d, tk, os⟩ :=
      fun q => B1.iter prog w _ _ ⟨hp, g, d, tk, os⟩ _ g1 q
    have j2 : ∀ {A' : Around} {E : Value → Shared → Prop} {Q : Value → Shared → Prop}, Q (.ref (hp.push o1).objs.size) ⟨(hp.push o1).push o2, g, d, tk, os⟩ → wpAny (model prog w) A' (pyIter v2) Q E ⟨hp.push o1, g, d, tk, os⟩ :=
      fun q => B2.iter prog w _ _ ⟨hp.push o1, g, d, tk, os⟩ _ (B2.keeps _ _ g2 fun b o' e => Heap.get?_push_of_some _ e) q
    have j3 : ∀ {A' : Around} {E : Value → Shared → Prop} {Q : Value → Shared → Prop}, Q (.ref ((hp.push o1).push o2).objs.size) ⟨((hp.push o1).push o2).push o3, g, d, tk, os⟩ → wpAny (model prog w) A' (pyIter v3) Q E ⟨(hp.push o1).push o2, g, d, tk, os⟩ :=
      fun q => B3.iter prog w _ _ ⟨(hp.push o1).push o2, g, d, tk, os⟩ _ (B3.keeps _ _ g3 fun b o' e => Heap.get?_push_of_some _ (Heap.get?_push_of_some _ e)) q
    have j4 : ∀ {A' : Around} {E : Value → Shared → Prop} {Q : Value → Shared → Prop}, Q (.ref (((hp.push o1).push o2).push o3).objs.size) ⟨(((hp.push o1).push o2).push o3).push o4, g, d, tk, os⟩ → wpAny (model prog w) A' (pyIter v4) Q E ⟨((hp.push o1).push o2).push o3, g, d, tk, os⟩ :=
      fun q => B4.iter prog w _ _ ⟨((hp.push o1).push o2).push o3, g, d, tk, os⟩ _ (B4.keeps _ _ g4 fun b o' e => Heap.get?_push_of_some _ (Heap.get?_push_of_some _ (Heap.get?_push_of_some _ e))) q
    wp_walk using j1, j2, j3, j4
    exact ⟨_, rfl, h _ _ _ rfl rfl rfl⟩
theorem tc_zip4 (a b c e : Value) : checkTypeCall "zip" ⟨[a, b, c, e], []⟩ = pure () := by kernel_rfl
theorem nc_zip4 (a b c e : Value) : checkBuiltinCall "zip.__new__" ⟨[.type "zip", a, b, c, e], []⟩ = pure () := by kernel_rfl
theorem oi_zip4 (x a b c e : Value) : argsOk "object.__init__" ⟨[x, a, b, c, e], []⟩ := by unfold argsOk; kernel_rfl
/-- zip(t1, t2, t3, t4): seven new cells -/
theorem call_zip4 {prog : Program} {w : World} {A : Around} {E : Value → Shared → Prop} {s : Shared} {t : Nat → Addr} {xs : Nat → Array Value} {Q : Value → Shared → Prop} (ht : ∀ k, k < 4 → s.heap.IsTuple (t k) (xs k))
    (h : ∀ h', ZAt 4 (s.heap.objs.size + 6) (s.heap.objs.size + 4) (s.heap.objs.size + 5) (fun k => s.heap.objs.size + k) t xs 0 h' → (∀ c o, s.heap.get? c = some o → h'.get? c = some o) → Q (.ref (s.heap.objs.size + 6)) { s with heap := h' }) :
    wpAny (model prog w) A (call (.type "zip") [.ref (t 0), .ref (t 1), .ref (t 2), .ref (t 3)]) Q E s := by
  refine callType_new PySem.F.called_zip (by decide) (tc_zip4 _ _ _ _) (nc_zip4 _ _ _ _) (fun x => oi_zip4 x _ _ _ _) PySem.F.entry_zip_new
    (new_zip4 (begins_tuple (t 0) (xs 0)) (begins_tuple (t 1) (xs 1)) (begins_tuple (t 2) (xs 2)) (begins_tuple (t 3) (xs 3))) ⟨⟨ht 0 (by decide), ht 1 (by decide), ht 2 (by decide), ht 3 (by decide)⟩, fun h4 hT hO e4 eT eO => ?_⟩
  have n1 : (s.heap.push { cls := .type "tuple_iterator", data := .fields #[.ref (t 0), .int 0 0] }).objs.size = s.heap.objs.size + 1 := Heap.size_push ..
  have n2 : ((s.heap.push { cls := .type "tuple_iterator", data := .fields #[.ref (t 0), .int 0 0] }).push { cls := .type "tuple_iterator", data := .fields #[.ref (t 1), .int 0 0] }).objs.size = s.heap.objs.size + 2 := by rw [Heap.size_push, n1]
  have n3 : (((s.heap.push { cls := .type "tuple_iterator", data := .fields #[.ref (t 0), .int 0 0] }).push { cls := .type "tuple_iterator", data := .fields #[.ref (t 1), .int 0 0] }).push { cls := .type "tuple_iterator", data := .fields #[.ref (t 2), .int 0 0] }).objs.size = s.heap.objs.size + 3 := by rw [Heap.size_push, n2]
  rw [n1, n2, n3] at eT
  have s4 : h4.objs.size = s.heap.objs.size + 4 := by rw [e4, Heap.size_push, n3]
  have sT : hT.objs.size = s.heap.objs.size + 5 := by rw [eT, Heap.size_push, s4]
  have sO : hO.objs.size = s.heap.objs.size + 6 := by rw [eO, Heap.size_push, sT]
  have p1 : ∀ c o, h4.get? c = some o → (hO.push { cls := .type "zip", data := .fields #[.none, .bool false, .bool false, .ref h4.objs.size, .ref hT.objs.size] }).get? c = some o := fun c o e => by
    refine Heap.get?_push_of_some _ ?_
    rw [eO]
    refine Heap.get?_push_of_some _ ?_
    rw [eT]
    exact Heap.get?_push_of_some _ e
  have i0 : h4.get? s.heap.objs.size = some { cls := .type "tuple_iterator", data := .fields #[.ref (t 0), .int 0 0] } := by
    rw [e4]
    exact Heap.get?_push_of_some _ (Heap.get?_push_of_some _ (Heap.get?_push_of_some _ (Heap.get?_push_size _ rfl)))
  have i1 : h4.get? (s.heap.objs.size + 1) = some { cls := .type "tuple_iterator", data := .fields #[.ref (t 1), .int 0 0] } := by
    rw [e4, ← n1]
    exact Heap.get?_push_of_some _ (Heap.get?_push_of_some _ (Heap.get?_push_size _ rfl))
  have i2 : h4.get? (s.heap.objs.size + 2) = some { cls := .type "tuple_iterator", data := .fields #[.ref (t 2), .int 0 0] } := by
    rw [e4, ← n2]
    exact Heap.get?_push_of_some _ (Heap.get?_push_size _ rfl)
  have i3 : h4.get? (s.heap.objs.size + 3) = some { cls := .type "tuple_iterator", data := .fields #[.ref (t 3), .int 0 0] } := by
    rw [e4, ← n3]
    exact Heap.get?_push_size _ rfl
  have old : ∀ c o, s.heap.get? c = some o → h4.get? c = some o := fun c o e => by
    rw [e4]
    exact Heap.get?_push_of_some _ (Heap.get?_push_of_some _ (Heap.get?_push_of_some _ (Heap.get?_push_of_some _ e)))
  have gZ : (hO.push { cls := .type "zip", data := .fields #[.none, .bool false, .bool false, .ref h4.objs.size, .ref hT.objs.size] }).get? (s.heap.objs.size + 6) = some { cls := .type "zip", data := .fields #[.none, .bool false, .bool false, .ref (s.heap.objs.size + 4), .ref (s.heap.objs.size + 5)] } := by
    rw [← sO, s4, sT]
    exact Heap.get?_push_size _ rfl
  show _ ∧ _
  rw [sO]
  refine ⟨⟨_, gZ, rfl⟩, h _ ⟨gZ, ?_, ⟨#[.none, .none, .none, .none], rfl, ?_⟩, fun k hk => ⟨?_, (ht k hk).at fun o e => p1 _ _ (old _ _ e)⟩⟩ fun c o e => p1 _ _ (old _ _ e)⟩
  · refine Heap.get?_push_of_some _ ?_
    rw [eO]
    refine Heap.get?_push_of_some _ ?_
    rw [eT, ← s4]
    exact Heap.get?_push_size _ rfl
  · refine Heap.get?_push_of_some _ ?_
    rw [eO, ← sT]
    exact Heap.get?_push_size _ rfl
  · match k, hk with
    | 0, _ => exact ⟨_, p1 _ _ i0, rfl, rfl⟩
    | 1, _ => exact ⟨_, p1 _ _ i1, rfl, rfl⟩
    | 2, _ => exact ⟨_, p1 _ _ i2, rfl, rfl⟩
    | 3, _ => exact ⟨_, p1 _ _ i3, rfl, rfl⟩
/-- four tuples, their items in new tuples -/
def It4 (K : PySem.W.Frag) (t : Nat → Addr) : It :=
  ⟨fun i H => ∃ (xs : Nat → List V) (x : Nat → V), ∀ k, k < 4 → SqT K H (t k) (xs k) ∧ (xs k)[i]? = some (x k),
    fun i H v H' => ∃ (T : Addr) (x : Nat → V), v = .ref T ∧ H T = none ∧ H' = upd H T (.tup [x 0, x 1, x 2, x 3]) ∧ ∀ k, k < 4 → ∀ l, SqT K H (t k) l → l[i]? = some (x k),
    fun i H => ∃ xs : Nat → List V, (∀ k, k < 4 → SqT K H (t k) (xs k)) ∧ i = (xs 0).length⟩
theorem turn_zip4 {P : Program} {w : World} {K : PySem.W.Frag} {elts : List Expr} {kk : Nat} {tpos : Pos} {t : Nat → Addr} {n : Nat} (hn : ∀ k, k < 4 → @LT.lt Nat _ (t k) n) :
    Turn P w K (.Tuple elts kk tpos) (It4 K t) [n + 6, n + 4, n + 5, n, n + 1, n + 2, n + 3] (n + 6) (fun i h => IsZip h (n + 6) (n + 4) (n + 5) .none ∧ h.get? (n + 4) = some { cls := .type "tuple", data := .seq ((List.range 4).map fun k => Value.ref (n + k)).toArray } ∧
      (∃ arr : Array Value, arr.size = 4 ∧ h.get? (n + 5) = some { cls := .type "tuple", data := .seq arr }) ∧ ∀ k, k < 4 → h.IsTupleIter (n + k) (t k) i) where
  mem := by simp
  obj := fun i h st c hc => by
    obtain ⟨hz, hI, ⟨arr, _, hO⟩, hits⟩ := st
    have e' : c = n + 6 ∨ c = n + 4 ∨ c = n + 5 ∨ c = n ∨ c = n + 1 ∨ c = n + 2 ∨ c = n + 3 := by simpa using hc
    have itk : ∀ k, k < 4 → ∃ o, h.get? (n + k) = some o ∧ ∀ v, o.data ≠ .cell v := fun k hk => by
      obtain ⟨o, e1, _, d1⟩ := hits k hk
      exact ⟨o, e1, fun v u => by rw [d1] at u; cases u⟩
    rcases e' with k | k | k | k | k | k | k
    · rw [k]; exact ⟨_, hz, fun v u => nomatch u⟩
    · rw [k]; exact ⟨_, hI, fun v u => nomatch u⟩
    · rw [k]; exact ⟨_, hO, fun v u => nomatch u⟩
    · rw [k]; exact itk 0 (by decide)
    · rw [k]; exact itk 1 (by decide)
    · rw [k]; exact itk 2 (by decide)
    · rw [k]; exact itk 3 (by decide)
  keep := fun i h h' st kp => by
    obtain ⟨hz, hI, ⟨arr, ha, hO⟩, hits⟩ := st
    refine ⟨kp _ (by simp) _ hz, kp _ (by simp) _ hI, ⟨arr, ha, kp _ (by simp) _ hO⟩, fun k hk => (hits k hk).at fun o u => kp _ ?_ o u⟩
    match k, hk with
    | 0, _ => simp
    | 1, _ => simp
    | 2, _ => simp
    | 3, _ => simp
  item := by
    intro X hP hw hK hc i pins s σ H E I hf st hg
    subst hP hw hK
    obtain ⟨hz, hI, hO, hits⟩ := st
    obtain ⟨xs, x, hq⟩ := hg
    have far : Far 4 (n + 6) (n + 4) (n + 5) (fun k => n + k) t := by
      have d : ∀ {a b : Nat}, (a < b ∨ b < a) → a ≠ b := fun {a b} h z => by omega
      exact ⟨d (by omega), d (by omega), d (by omega), fun k hk => d (by omega), fun k hk => d (by omega), fun k hk => d (by omega), fun k j hk hj e => by have : n + k = n + j := e; omega,
        fun k j hk hj => d (.inl (Nat.lt_of_lt_of_le (hn k hk) (Nat.le_add_right _ _))), fun k hk => d (.inl (Nat.lt_of_lt_of_le (hn k hk) (Nat.le_add_right _ _))), fun k hk => d (.inl (Nat.lt_of_lt_of_le (hn k hk) (Nat.le_add_right _ _)))⟩
    have ex : ∀ k, ∃ its : List Value, k < 4 → Vals (xs k) its ∧ s.heap.IsTuple (t k) its.toArray := fun k => by
      by_cases hk : k < 4
      · obtain ⟨its, rv, p, _⟩ := I.tuple (hq k hk).1
        exact ⟨its, fun _ => ⟨rv, p⟩⟩
      · exact ⟨[], fun z => absurd z hk⟩
    have ⟨its, hits2⟩ := Classical.skolem.mp ex
    have uex : ∀ k, ∃ u : Value, k < 4 → (its k)[i]? = some u ∧ RelV (x k) u := fun k => by
      by_cases hk : k < 4
      · obtain ⟨u, hu, ru⟩ := (hits2 k hk).1.get (hq k hk).2
        exact ⟨u, fun _ => ⟨hu, ru⟩⟩
      · exact ⟨.none, fun z => absurd z hk⟩
    have ⟨u, hu⟩ := Classical.skolem.mp uex
    have hzl : n + 6 < s.heap.objs.size := Heap.lt_size hz
    refine next_zipN (xs := fun k => (its k).toArray) far (by decide) (by decide) (I.ok.hd hc) ⟨hz, hI, hO, fun k hk => ⟨hits k hk, (hits2 k hk).2⟩⟩ (fun k hk => by
      show i < (its k).toArray.size
      rw [List.size_toArray]
      exact (List.getElem?_eq_some_iff.mp (hu k hk).1).1) fun arr h' tk has harr z' O' its' hT hsz hk' => ?_
    have harr4 : arr = #[u 0, u 1, u 2, u 3] := by
      refine Array.ext_getElem? fun k => ?_
      by_cases hk4 : k < 4
      · rw [harr k hk4]
        show (its k).toArray[i]? = _
        have : (its k).toArray[i]? = some (u k) := by simpa using (hu k hk4).1
        rw [this]
        match k, hk4 with
        | 0, _ => rfl
        | 1, _ => rfl
        | 2, _ => rfl
        | 3, _ => rfl
      · rw [Array.getElem?_eq_none (by omega), Array.getElem?_eq_none (by show 4 ≤ k; omega)]
    subst harr4
    refine ⟨_, rfl, wpAny_letOwnedTupleGo_zip (s := { s with heap := h', toks := tk }) z' fun h'' z'' sb => ?_⟩
    have hT2 : h''.get? s.heap.objs.size = some { cls := .type "tuple", data := .seq #[u 0, u 1, u 2, u 3] } := (sb.2 _ (Nat.ne_of_gt hzl)).trans hT
    have new : ObjOk X.prog X.w (upd H s.heap.objs.size (.tup [x 0, x 1, x 2, x 3])) h'' s.heap.objs.size (.tup [x 0, x 1, x 2, x 3]) :=
      ⟨by show 4 ≤ sizeLine; decide, [u 0, u 1, u 2, u 3], .cons (hu 0 (by decide)).2 (.cons (hu 1 (by decide)).2 (.cons (hu 2 (by decide)).2 (.cons (hu 3 (by decide)).2 .nil))), ⟨_, hT2, rfl, _, rfl⟩⟩
    have apart : ∀ c : Addr, c ∉ [n + 6, n + 4, n + 5, n, n + 1, n + 2, n + 3] → c ≠ n + 6 ∧ c ≠ n + 5 ∧ ∀ k, k < 4 → c ≠ n + k := fun c hb => by
      refine ⟨fun q => hb (by simp [q]), fun q => hb (by simp [q]), fun k hk q => hb ?_⟩
      rw [q]
      match k, hk with
      | 0, _ => simp
      | 1, _ => simp
      | 2, _ => simp
      | 3, _ => simp
    have I1 : L2.Inv X pins σ (upd H s.heap.objs.size (.tup [x 0, x 1, x 2, x 3])) { s with heap := h'', toks := tk } :=
      I.turnedNew (t' := tk) (ch := [n + 6, n + 4, n + 5, n, n + 1, n + 2, n + 3]) (fun c o hb e => (sb.2 c (apart c hb).1).trans (hk' c o (apart c hb).1 (apart c hb).2.1 (apart c hb).2.2 e)) hf (Nat.le_refl _) new
    obtain ⟨arrO, haO, hOO⟩ := O'
    have d : ∀ {a b : Nat}, (a < b ∨ b < a) → a ≠ b := fun {a b} h z => by omega
    refine ⟨.ref s.heap.objs.size, _, I1, rfl, ⟨_, x, rfl, I.hok.fresh (Nat.le_refl _), rfl, fun k hk l hl => by rw [I.tuple_inj hl (hq k hk).1]; exact (hq k hk).2⟩, ⟨z'', ?_, ⟨arrO, haO, (sb.2 (n + 5) (show (n + 5 : Nat) ≠ n + 6 by omega)).trans hOO⟩, fun (k : Nat) (hk : k < 4) => (its' k hk).at fun o e => (sb.2 (n + k) (show (n + k : Nat) ≠ n + 6 by omega)).trans e⟩, fun c hcm => ?_⟩
    · exact (sb.2 (n + 4) (show (n + 4 : Nat) ≠ n + 6 by omega)).trans (hk' (n + 4) _ (show (n + 4 : Nat) ≠ n + 6 by omega) (show (n + 4 : Nat) ≠ n + 5 by omega) (fun k hk => show (n + 4 : Nat) ≠ n + k by omega) hI)
    · have hlt : c < s.heap.objs.size := by
        have e' : c = n + 6 ∨ c = n + 4 ∨ c = n + 5 ∨ c = n ∨ c = n + 1 ∨ c = n + 2 ∨ c = n + 3 := by simpa using hcm
        have : @LE.le Nat _ c (n + 6) := by
          rcases e' with z | z | z | z | z | z | z
          · rw [z]; exact Nat.le_refl _
          · rw [z]; exact Nat.add_le_add_left (by decide) _
          · rw [z]; exact Nat.add_le_add_left (by decide) _
          · rw [z]; exact Nat.le_add_right _ _
          · rw [z]; exact Nat.add_le_add_left (by decide) _
          · rw [z]; exact Nat.add_le_add_left (by decide) _
          · rw [z]; exact Nat.add_le_add_left (by decide) _
        exact Nat.lt_of_le_of_lt this hzl
      rw [upd_ne (Nat.ne_of_lt hlt)]
      exact (hf c hcm).1
  done := by
    intro X hP hw hK hc i pins s σ H E I hf st hg
    subst hP hw hK
    obtain ⟨hz, hI, hO, hits⟩ := st
    obtain ⟨xs, hq, hi⟩ := hg
    have far : Far 4 (n + 6) (n + 4) (n + 5) (fun k => n + k) t := by
      have d : ∀ {a b : Nat}, (a < b ∨ b < a) → a ≠ b := fun {a b} h z => by omega
      exact ⟨d (by omega), d (by omega), d (by omega), fun k hk => d (by omega), fun k hk => d (by omega), fun k hk => d (by omega), fun k j hk hj e => by have : n + k = n + j := e; omega,
        fun k j hk hj => d (.inl (Nat.lt_of_lt_of_le (hn k hk) (Nat.le_add_right _ _))), fun k hk => d (.inl (Nat.lt_of_lt_of_le (hn k hk) (Nat.le_add_right _ _))), fun k hk => d (.inl (Nat.lt_of_lt_of_le (hn k hk) (Nat.le_add_right _ _)))⟩
    have ex : ∀ k, ∃ its : List Value, k < 4 → Vals (xs k) its ∧ s.heap.IsTuple (t k) its.toArray := fun k => by
      by_cases hk : k < 4
      · obtain ⟨its, rv, p, _⟩ := I.tuple (hq k hk)
        exact ⟨its, fun _ => ⟨rv, p⟩⟩
      · exact ⟨[], fun z => absurd z hk⟩
    have ⟨its, hits2⟩ := Classical.skolem.mp ex
    refine stop_zipN (xs := fun k => (its k).toArray) far (by decide) (I.ok.hd hc) ⟨hz, hI, hO, fun k hk => ⟨hits k hk, (hits2 k hk).2⟩⟩ (by
      show i = (its 0).toArray.size
      rw [List.size_toArray, ← (hits2 0 (by decide)).1.length]
      exact hi) fun h' tk hk' => ?_
    have apart : ∀ c : Addr, c ∉ [n + 6, n + 4, n + 5, n, n + 1, n + 2, n + 3] → c ≠ n + 6 ∧ c ≠ n + 5 ∧ ∀ k, k < 4 → c ≠ n + k := fun c hb => by
      refine ⟨fun q => hb (by simp [q]), fun q => hb (by simp [q]), fun k hk q => hb ?_⟩
      rw [q]
      match k, hk with
      | 0, _ => simp
      | 1, _ => simp
      | 2, _ => simp
      | 3, _ => simp
    exact ⟨rfl, I.turnedL (t' := tk) (ch := [n + 6, n + 4, n + 5, n, n + 1, n + 2, n + 3]) (fun c o hb e => hk' c o (apart c hb).1 (apart c hb).2.1 (apart c hb).2.2 e) hf⟩
  self := fun A i s Q E st h => wpAny_pyIter_zip st.1 h
def tof (a b c e : Addr) : Nat → Addr
  | 0 => a
  | 1 => b
  | 2 => c
  | _ => e
def iZip4 (K : PySem.W.Frag) (ta : TA) : TI := fun σ H R => ta σ H fun vs H1 => ∃ (t : Nat → Addr) (xs : Nat → List V), vs = [.ref (t 0), .ref (t 1), .ref (t 2), .ref (t 3)] ∧ (∀ k, k < 4 → SqT K H1 (t k) (xs k)) ∧ R (It4 K t) H1
theorem pi_zip4 {X : Cx} {e e2 e3 e4 : Expr} {ta : TA} {p pos tpos : Pos} {elts : List Expr} {kk : Nat} (hg : Gl X "zip") (hm : X.mg "zip" = none) (ha : PA X [e, e2, e3, e4] ta)
    (hs : starEach [e, e2, e3, e4] X.env = (false, eval e X.env) :: starEach [e2, e3, e4] X.env := by rfl) (hpl : (backTo pos (starEach [e2, e3, e4] X.env)).any (·.1) = false := by rfl) :
    PI X (.Tuple elts kk tpos) (.Call (.Name "zip" p) [e, e2, e3, e4] [] pos) (iZip4 X.K ta) := by
  refine ⟨fun pins s σ H R I h => ?_⟩
  refine Call_ (ld_blt I hg hm PyProof.Rows.boot_zip (PyProof.Rows.callWith_type1 (thn (ha.run pos pins s σ H _ I h) fun us s1 ⟨vs, H1, I1, r1, q1⟩ => ?_) hs hpl))
  obtain ⟨t, xs, ex, hq, q⟩ := q1
  subst ex
  obtain ⟨rfl⟩ : us = [.ref (t 0), .ref (t 1), .ref (t 2), .ref (t 3)] := by
    cases r1 with
    | cons ra rr =>
      cases rr with
      | cons rb rr =>
        cases rr with
        | cons rc rr =>
          cases rr with
          | cons rd rr =>
            cases rr
            cases ra
            cases rb
            cases rc
            cases rd
            rfl
  have ex2 : ∀ k, ∃ its : List Value, k < 4 → s1.heap.IsTuple (t k) its.toArray := fun k => by
    by_cases hk : k < 4
    · obtain ⟨its, rv, p, _⟩ := I1.tuple (hq k hk)
      exact ⟨its, fun _ => p⟩
    · exact ⟨[], fun z => absurd z hk⟩
  have ⟨its, hits⟩ := Classical.skolem.mp ex2
  refine call_zip4 (xs := fun k => (its k).toArray) hits fun h' Z hk => wpAny_pyIter_zip Z.hz ?_
  have I2 : L2.Inv X pins σ H1 { s1 with heap := h' } := I1.kept (t' := s1.toks) hk
  refine ⟨s1.heap.objs.size + 6, [s1.heap.objs.size + 6, s1.heap.objs.size + 4, s1.heap.objs.size + 5, s1.heap.objs.size, s1.heap.objs.size + 1, s1.heap.objs.size + 2, s1.heap.objs.size + 3], _, _, H1, rfl, I2, turn_zip4 (fun k hk => ?_), ⟨Z.hz, Z.hI, Z.hO, fun k hk => (Z.its k hk).1⟩, fun c hcm => ?_, q⟩
  · obtain ⟨o, ho, _⟩ := hits k hk
    exact Heap.lt_size ho
  · have e' : c = s1.heap.objs.size + 6 ∨ c = s1.heap.objs.size + 4 ∨ c = s1.heap.objs.size + 5 ∨ c = s1.heap.objs.size ∨ c = s1.heap.objs.size + 1 ∨ c = s1.heap.objs.size + 2 ∨ c = s1.heap.objs.size + 3 := by simpa using hcm
    have hle : s1.heap.objs.size ≤ c := by
      rcases e' with z | z | z | z | z | z | z
      · rw [z]; exact Nat.le_add_right _ _
      · rw [z]; exact Nat.le_add_right _ _
      · rw [z]; exact Nat.le_add_right _ _
      · rw [z]; exact Nat.le_refl _
      · rw [z]; exact Nat.le_add_right _ _
      · rw [z]; exact Nat.le_add_right _ _
      · rw [z]; exact Nat.le_add_right _ _
    exact I1.fpOk hle (I1.hok.fresh hle)
theorem for_zip4 {K : PySem.W.Frag} {t : Nat → Addr} {xs : Nat → List V} {n : Nat} {g : TG} {tb : TS} {D : Ends} {σ : L2.St} {H : Hp} (hl : ∀ k, k < 4 → (xs k).length = n) (Pv : Nat → L2.St → Hp → Prop) (h0 : Pv 0 σ H) (hq : ∀ i σ H, Pv i σ H → ∀ k, k < 4 → SqT K H (t k) (xs k))
    (hs : ∀ (i : Nat) (x : Nat → V) (T : Addr) (σ : L2.St) (H : Hp), i < n → (∀ k, k < 4 → (xs k)[i]? = some (x k)) → Pv i σ H → H T = none → g (.ref T) σ (upd H T (.tup [x 0, x 1, x 2, x 3])) fun σ2 H2 => tb { D with nx := Pv (i + 1), ct := Pv (i + 1), bk := D.nx } σ2 H2) (hd : ∀ σ H, Pv n σ H → D.nx σ H) :
    ∃ W : Nat → Nat → L2.St → Hp → Prop, (∃ m, W 0 m σ H) ∧ ∀ i m σ H, W i m σ H →
      ((It4 K t).stop i H ∧ D.nx σ H) ∨ ((It4 K t).go i H ∧ ∃ N : L2.St → Hp → Prop, (∀ σ' H', N σ' H' → ∃ m', m' < m ∧ W (i + 1) m' σ' H') ∧ ∀ v H', (It4 K t).yld i H v H' → g v σ H' fun σ2 H2 => tb { D with nx := N, ct := N, bk := D.nx } σ2 H2) := by
  refine ⟨fun i m σ H => m = n - i ∧ i ≤ n ∧ Pv i σ H, ⟨n, rfl, Nat.zero_le _, h0⟩, ?_⟩
  rintro i m σ H ⟨rfl, hi, p⟩
  have qx := hq i σ H p
  by_cases hlt : i < n
  · refine .inr ⟨⟨xs, fun k => (xs k).getD i .non, fun k hk => ⟨qx k hk, ?_⟩⟩, Pv (i + 1), fun σ' H' p' => ⟨n - (i + 1), by omega, rfl, hlt, p'⟩, ?_⟩
    · show (xs k)[i]? = some ((xs k).getD i .non)
      rw [List.getD_eq_getElem?_getD, List.getElem?_eq_getElem (by rw [hl k hk]; exact hlt)]
      rfl
    · rintro v H' ⟨T, x, rfl, hT, rfl, f⟩
      exact hs i x T σ H hlt (fun k hk => f k hk (xs k) (qx k hk)) p hT
  · obtain rfl : i = n := by omega
    exact .inl ⟨⟨xs, qx, (hl 0 (by decide)).symm⟩, hd σ H p⟩
end Lb
set_option Elab.async false
set_option linter.all false
set_option maxRecDepth 100000
set_option maxHeartbeats 4000000
namespace Lb
open PySem PySem.Spec PyProof.Rows L2 RZ TL
/-! ### falling: the mathematics -/
def firstFrom : List Trd → Nat → List Int → Option Nat
  | [], _, _ => none
  | r :: rs, k, x => if geB x r.1 = true then some k else firstFrom rs (k + 1) x
def firstU (rs : List Trd) (x : List Int) : Option Nat := firstFrom rs 0 x
def stepU (r : Trd) (x : List Int) : List Int := plusL (minusL x r.1) r.2
def fallN (rs : List Trd) : Nat → List Int → Option (List Int)
  | 0, _ => none
  | n + 1, x => match firstU rs x with
    | none => some x
    | some k => fallN rs n (stepU (rs.getD k ([], [])) x)
/-- the stock behind t uses -/
def aft (t : Int) : List Int → List Int → List Int → List Int
  | a :: x, l :: L, m :: M => (a + t * (m - l)) :: aft t x L M
  | _, _, _ => []
theorem aft_len {t : Int} : ∀ {x L M : List Int}, x.length = L.length → x.length = M.length → (aft t x L M).length = x.length
  | [], [], [], _, _ => rfl
  | a :: x, l :: L, m :: M, h1, h2 => by
    rw [aft, List.length_cons, List.length_cons, aft_len (by simpa using h1) (by simpa using h2)]
theorem aft_zero : ∀ {x L M : List Int}, x.length = L.length → x.length = M.length → aft 0 x L M = x
  | [], [], [], _, _ => rfl
  | a :: x, l :: L, m :: M, h1, h2 => by
    rw [aft, aft_zero (by simpa using h1) (by simpa using h2), Int.zero_mul, Int.add_zero]
theorem aft_one : ∀ {x L M : List Int}, x.length = L.length → x.length = M.length → plusL (minusL x L) M = aft 1 x L M
  | [], [], [], _, _ => rfl
  | a :: x, l :: L, m :: M, h1, h2 => by
    have ih := aft_one (x := x) (L := L) (M := M) (by simpa using h1) (by simpa using h2)
    have e : plusL (minusL (a :: x) (l :: L)) (m :: M) = (a - l + m) :: plusL (minusL x L) M := rfl
    rw [e, ih, aft, Int.one_mul]
    congr 1
    omega
theorem aft_add {s t : Int} : ∀ {x L M : List Int}, x.length = L.length → x.length = M.length → aft t (aft s x L M) L M = aft (s + t) x L M
  | [], [], [], _, _ => rfl
  | a :: x, l :: L, m :: M, h1, h2 => by
    rw [aft, aft, aft, aft_add (x := x) (L := L) (M := M) (by simpa using h1) (by simpa using h2), Int.add_mul, Int.add_assoc]
/-- how often each good lets the rule be used -/
def alnL : List Int → List Int → List Int → List Int
  | a :: x, l :: L, m :: M => if l > m then ((a - l) / (l - m) + 1) :: alnL x L M else alnL x L M
  | _, _, _ => []
theorem aln_pos : ∀ {x L M : List Int}, geB x L = true → ∀ y ∈ alnL x L M, 1 ≤ y
  | [], _, _, _, y, hy => by cases hy
  | _ :: _, [], _, _, y, hy => by cases hy
  | _ :: _, _ :: _, [], _, y, hy => by cases hy
  | a :: x, l :: L, m :: M, hg, y, hy => by
    rw [geB_cons, Bool.and_eq_true] at hg
    have h1 : a ≥ l := of_decide_eq_true hg.1
    rw [alnL] at hy
    split at hy
    · rename_i hlm
      rcases List.mem_cons.mp hy with rfl | hy
      · have := Int.ediv_nonneg (a := a - l) (b := l - m) (by omega) (by omega)
        omega
      · exact aln_pos hg.2 y hy
    · exact aln_pos hg.2 y hy
theorem aln_holds {j mm : Int} (hj0 : 0 ≤ j) (hj : j < mm) : ∀ {x L M : List Int}, x.length = L.length → x.length = M.length → geB x L = true → (∀ y ∈ alnL x L M, mm ≤ y) → geB (aft j x L M) L = true
  | [], [], [], _, _, _, _ => rfl
  | a :: x, l :: L, m :: M, h1, h2, hg, hm => by
    rw [geB_cons, Bool.and_eq_true] at hg
    have ha : a ≥ l := of_decide_eq_true hg.1
    rw [alnL] at hm
    rw [aft, geB_cons, Bool.and_eq_true]
    by_cases hlm : l > m
    · rw [if_pos hlm] at hm
      have h3 := hm _ List.mem_cons_self
      refine ⟨decide_eq_true ?_, aln_holds hj0 hj (by simpa using h1) (by simpa using h2) hg.2 fun y hy => hm y (List.mem_cons_of_mem _ hy)⟩
      have h4 : j ≤ (a - l) / (l - m) := by omega
      have h5 : j * (l - m) ≤ (a - l) / (l - m) * (l - m) := Int.mul_le_mul_of_nonneg_right h4 (by omega)
      have h6 : (a - l) / (l - m) * (l - m) ≤ a - l := Int.ediv_mul_le _ (by omega)
      have h7 : j * (m - l) = -(j * (l - m)) := by rw [← Int.mul_neg]; congr 1; omega
      show a + j * (m - l) ≥ l
      omega
    · rw [if_neg hlm] at hm
      refine ⟨decide_eq_true ?_, aln_holds hj0 hj (by simpa using h1) (by simpa using h2) hg.2 hm⟩
      have h5 : 0 ≤ j * (m - l) := Int.mul_nonneg hj0 (by omega)
      show a + j * (m - l) ≥ l
      omega
/-- after how many uses the stock holds another bag -/
def untL (most : Int) : List Int → List Int → List Int → List Int → Int → Int → Int
  | a :: x, l :: L, m :: M, w :: W, low, high =>
    if m > l then untL most x L M W (if (w - a + m - l - 1) / (m - l) > low then (w - a + m - l - 1) / (m - l) else low) high
    else if l > m then untL most x L M W low (if (a - w) / (l - m) < high then (a - w) / (l - m) else high)
    else if a < w then most else untL most x L M W low high
  | _, _, _, _, low, high => if low ≤ high then low else most
theorem unt_le {most : Int} : ∀ {x L M W : List Int} {low high : Int}, high ≤ most - 1 → untL most x L M W low high ≤ most
  | a :: x, l :: L, m :: M, w :: W, low, high, h => by
    rw [untL]
    split
    · exact unt_le h
    · split
      · refine unt_le ?_
        split <;> omega
      · split
        · exact Int.le_refl _
        · exact unt_le h
  | [], _, _, _, low, high, h => by
    rw [untL]
    · split <;> omega
    · simp
  | _ :: _, [], _, _, low, high, h => by
    rw [untL]
    · split <;> omega
    · simp
  | _ :: _, _ :: _, [], _, low, high, h => by
    rw [untL]
    · split <;> omega
    · simp
  | _ :: _, _ :: _, _ :: _, [], low, high, h => by
    rw [untL]
    · split <;> omega
    · simp
theorem unt_hit {most j : Int} (hj0 : 0 ≤ j) : ∀ {x L M W : List Int} {low high : Int}, x.length = L.length → x.length = M.length → x.length = W.length → geB (aft j x L M) W = true → low ≤ j → j ≤ high → untL most x L M W low high ≤ j
  | [], [], [], [], low, high, _, _, _, _, h1, h2 => by
    rw [untL]
    · rw [if_pos (by omega)]
      exact h1
    · simp
  | a :: x, l :: L, m :: M, w :: W, low, high, e1, e2, e3, hg, h1, h2 => by
    rw [aft, geB_cons, Bool.and_eq_true] at hg
    have hw : a + j * (m - l) ≥ w := of_decide_eq_true hg.1
    rw [untL]
    by_cases hml : m > l
    · rw [if_pos hml]
      refine unt_hit hj0 (by simpa using e1) (by simpa using e2) (by simpa using e3) hg.2 ?_ h2
      have h3 : (w - a + m - l - 1) / (m - l) < j + 1 := by
        refine Int.ediv_lt_of_lt_mul (by omega) ?_
        rw [Int.add_mul, Int.one_mul]
        omega
      split <;> omega
    · rw [if_neg hml]
      by_cases hlm : l > m
      · rw [if_pos hlm]
        refine unt_hit hj0 (by simpa using e1) (by simpa using e2) (by simpa using e3) hg.2 h1 ?_
        have h7 : j * (m - l) = -(j * (l - m)) := by rw [← Int.mul_neg]; congr 1; omega
        have h3 : j ≤ (a - w) / (l - m) := Int.le_ediv_of_mul_le (by omega) (by omega)
        split <;> omega
      · rw [if_neg hlm]
        have h0 : j * (m - l) = 0 := by
          rw [show m - l = 0 by omega, Int.mul_zero]
        rw [if_neg (by omega)]
        exact unt_hit hj0 (by simpa using e1) (by simpa using e2) (by simpa using e3) hg.2 h1 h2
theorem unt_one {most : Int} (hm : 1 ≤ most) : ∀ {x L M W : List Int} {low high : Int}, x.length = L.length → x.length = M.length → x.length = W.length → 0 ≤ low → untL most x L M W low high < 1 → low ≤ 0 ∧ 0 ≤ high ∧ geB x W = true
  | [], [], [], [], low, high, _, _, _, h0, h => by
    rw [untL] at h
    · split at h
      · exact ⟨by omega, by omega, rfl⟩
      · omega
    · simp
  | a :: x, l :: L, m :: M, w :: W, low, high, e1, e2, e3, h0, h => by
    rw [untL] at h
    rw [geB_cons, Bool.and_eq_true]
    by_cases hml : m > l
    · rw [if_pos hml] at h
      obtain ⟨k1, k2, k3⟩ := unt_one hm (by simpa using e1) (by simpa using e2) (by simpa using e3) (by split <;> omega) h
      have h4 : (w - a + m - l - 1) / (m - l) ≤ 0 := by
        split at k1 <;> omega
      have h5 : low ≤ 0 := by
        split at k1 <;> omega
      have h6 : w - a + m - l - 1 < (0 + 1) * (m - l) := Int.lt_mul_of_ediv_lt (by omega) (by omega)
      rw [Int.zero_add, Int.one_mul] at h6
      exact ⟨h5, k2, decide_eq_true (by omega), k3⟩
    · rw [if_neg hml] at h
      by_cases hlm : l > m
      · rw [if_pos hlm] at h
        obtain ⟨k1, k2, k3⟩ := unt_one hm (by simpa using e1) (by simpa using e2) (by simpa using e3) h0 h
        have h4 : 0 ≤ (a - w) / (l - m) := by
          split at k2 <;> omega
        have h5 : 0 ≤ high := by
          split at k2 <;> omega
        have h6 : 0 ≤ a - w := (Int.ediv_nonneg_iff_of_pos (by omega)).mp h4
        exact ⟨k1, h5, decide_eq_true (by omega), k3⟩
      · rw [if_neg hlm] at h
        by_cases haw : a < w
        · rw [if_pos haw] at h
          omega
        · rw [if_neg haw] at h
          obtain ⟨k1, k2, k3⟩ := unt_one hm (by simpa using e1) (by simpa using e2) (by simpa using e3) h0 h
          exact ⟨k1, k2, decide_eq_true (by omega), k3⟩
/-- how often before an earlier rule comes -/
def rowG (r : Trd) (x : List Int) : List Trd → Int → Int
  | [], most => most
  | q :: qs, most => rowG r x qs (if most > 1 then untL most x r.1 r.2 q.1 0 (most - 1) else most)
structure RulesOk (g : Nat) (rs : List Trd) : Prop where
  l1 : ∀ r ∈ rs, r.1.length = g
  l2 : ∀ r ∈ rs, r.2.length = g
theorem row_ok {g : Nat} {r : Trd} {x : List Int} (hx : x.length = g) (h1 : r.1.length = g) (h2 : r.2.length = g) : ∀ {qs : List Trd} {most : Int}, (∀ q ∈ qs, q.1.length = g) → (∀ q ∈ qs, geB x q.1 = false) → 1 ≤ most →
    1 ≤ rowG r x qs most ∧ rowG r x qs most ≤ most ∧ ∀ q ∈ qs, ∀ j : Nat, (j : Int) < rowG r x qs most → geB (aft j x r.1 r.2) q.1 = false
  | [], most, _, _, hm => ⟨hm, Int.le_refl _, fun q hq => absurd hq List.not_mem_nil⟩
  | q :: qs, most, hl, hn, hm => by
    rw [rowG]
    have hql := hl q List.mem_cons_self
    have hqn := hn q List.mem_cons_self
    by_cases h : most > 1
    · rw [if_pos h]
      have u1 : 1 ≤ untL most x r.1 r.2 q.1 0 (most - 1) := by
        rcases Int.lt_or_le (untL most x r.1 r.2 q.1 0 (most - 1)) 1 with k | k
        · have := (unt_one hm (by omega) (by omega) (by omega) (Int.le_refl _) k).2.2
          rw [hqn] at this
          cases this
        · exact k
      have u2 : untL most x r.1 r.2 q.1 0 (most - 1) ≤ most := unt_le (Int.le_refl _)
      obtain ⟨r1, r2, r3⟩ := row_ok hx h1 h2 (qs := qs) (fun q hq => hl q (List.mem_cons_of_mem _ hq)) (fun q hq => hn q (List.mem_cons_of_mem _ hq)) u1
      refine ⟨r1, by omega, fun p hp j hj => ?_⟩
      rcases List.mem_cons.mp hp with rfl | hp
      · cases e : geB (aft j x r.1 r.2) p.1 with
        | false => rfl
        | true =>
          have := unt_hit (most := most) (j := (j : Int)) (low := 0) (high := most - 1) (by omega) (by omega) (by omega) (by omega) e (by omega) (by omega)
          omega
      · exact r3 p hp j hj
    · rw [if_neg h]
      obtain ⟨r1, r2, r3⟩ := row_ok hx h1 h2 (qs := qs) (fun q hq => hl q (List.mem_cons_of_mem _ hq)) (fun q hq => hn q (List.mem_cons_of_mem _ hq)) hm
      refine ⟨r1, r2, fun p hp j hj => ?_⟩
      rcases List.mem_cons.mp hp with rfl | hp
      · have : j = 0 := by omega
        subst this
        show geB (aft 0 x r.1 r.2) p.1 = false
        rw [aft_zero (by omega) (by omega)]
        exact hqn
      · exact r3 p hp j hj
theorem first_iff : ∀ {rs : List Trd} {k0 k : Nat} {x : List Int}, firstFrom rs k0 x = some k → ∃ i r, k = k0 + i ∧ rs[i]? = some r ∧ geB x r.1 = true ∧ ∀ q ∈ rs.take i, geB x q.1 = false
  | [], _, _, _, h => nomatch h
  | r :: rs, k0, k, x, h => by
    rw [firstFrom] at h
    cases e : geB x r.1 with
    | true =>
      rw [e, if_pos rfl] at h
      cases h
      exact ⟨0, r, rfl, rfl, e, fun q hq => absurd hq List.not_mem_nil⟩
    | false =>
      rw [e, if_neg Bool.false_ne_true] at h
      obtain ⟨i, q, h1, h2, h3, h4⟩ := first_iff h
      refine ⟨i + 1, q, by omega, h2, h3, fun p hp => ?_⟩
      rw [List.take_succ_cons] at hp
      rcases List.mem_cons.mp hp with rfl | hp
      · exact e
      · exact h4 p hp
theorem first_of : ∀ {rs : List Trd} {k0 i : Nat} {x : List Int} {r : Trd}, rs[i]? = some r → geB x r.1 = true → (∀ q ∈ rs.take i, geB x q.1 = false) → firstFrom rs k0 x = some (k0 + i)
  | [], _, _, _, _, h, _, _ => nomatch h
  | p :: rs, k0, 0, x, r, h, hg, _ => by
    cases h
    rw [firstFrom, hg, if_pos rfl]
    rfl
  | p :: rs, k0, i + 1, x, r, h, hg, hn => by
    rw [firstFrom, hn p (by rw [List.take_succ_cons]; exact List.mem_cons_self), if_neg Bool.false_ne_true, first_of (k0 := k0 + 1) (i := i) h hg fun q hq => hn q (by rw [List.take_succ_cons]; exact List.mem_cons_of_mem _ hq)]
    congr 1
    omega
/-- a row of uses at once -/
theorem fall_row {g : Nat} {rs : List Trd} {k : Nat} {r : Trd} {z : List Int} (hr : rs[k]? = some r) (h1 : r.1.length = g) (h2 : r.2.length = g) : ∀ (T n : Nat) {x : List Int}, x.length = g → (∀ j : Nat, j < T → firstU rs (aft j x r.1 r.2) = some k) → fallN rs n x = some z →
    T ≤ n ∧ fallN rs (n - T) (aft T x r.1 r.2) = some z
  | 0, n, x, hx, _, h => by
    refine ⟨Nat.zero_le _, ?_⟩
    show fallN rs n (aft 0 x r.1 r.2) = some z
    rw [aft_zero (by omega) (by omega)]
    exact h
  | T + 1, n, x, hx, hf, h => by
    cases n with
    | zero => cases h
    | succ n =>
      have h0 := hf 0 (Nat.succ_pos _)
      have h0 : firstU rs (aft 0 x r.1 r.2) = some k := h0
      rw [aft_zero (by omega) (by omega)] at h0
      rw [fallN, h0] at h
      have h : fallN rs n (stepU (rs.getD k ([], [])) x) = some z := h
      have hg : rs.getD k ([], []) = r := by
        rw [List.getD_eq_getElem?_getD, hr]
        rfl
      rw [hg] at h
      unfold stepU at h
      rw [aft_one (by omega) (by omega)] at h
      have hl := aft_len (t := 1) (x := x) (L := r.1) (M := r.2) (by omega) (by omega)
      obtain ⟨k1, k2⟩ := fall_row hr h1 h2 T n (x := aft 1 x r.1 r.2) (by omega) (fun j hj => by
        rw [aft_add (by omega) (by omega), show (1 : Int) + (j : Int) = ((j + 1 : Nat) : Int) by omega]
        exact hf (j + 1) (by omega)) h
      refine ⟨by omega, ?_⟩
      rw [aft_add (by omega) (by omega), show (1 : Int) + (T : Int) = ((T + 1 : Nat) : Int) by omega] at k2
      rw [show n + 1 - (T + 1) = n - T by omega]
      exact k2
theorem first_len {rs : List Trd} {k : Nat} {x : List Int} (h : firstU rs x = some k) : k < rs.length := by
  obtain ⟨i, r, h1, h2, _⟩ := first_iff h
  have := (List.getElem?_eq_some_iff.mp h2).1
  omega
/-- what the program's row of uses is good for -/
theorem row_first {g : Nat} {rs : List Trd} {k : Nat} {r : Trd} {x : List Int} {mm : Int} (ok : RulesOk g rs) (hx : x.length = g) (hf : firstU rs x = some k) (hr : rs[k]? = some r) (hin : mm ∈ alnL x r.1 r.2) (hmin : ∀ y ∈ alnL x r.1 r.2, mm ≤ y) :
    1 ≤ rowG r x (rs.take k) mm ∧ ∀ j : Nat, (j : Int) < rowG r x (rs.take k) mm → firstU rs (aft j x r.1 r.2) = some k := by
  obtain ⟨i, r', h1, h2, h3, h4⟩ := first_iff hf
  have hik : i = k := by omega
  subst hik
  rw [hr] at h2
  cases h2
  have m1 := ok.l1 r (List.mem_of_getElem? hr)
  have m2 := ok.l2 r (List.mem_of_getElem? hr)
  have hm := aln_pos h3 mm hin
  obtain ⟨r1, r2, r3⟩ := row_ok hx m1 m2 (qs := rs.take i) (fun q hq => ok.l1 q (List.mem_of_mem_take hq)) h4 hm
  refine ⟨r1, fun j hj => ?_⟩
  have := first_of (k0 := 0) (i := i) (x := aft j x r.1 r.2) hr (aln_holds (mm := mm) (by omega) (by omega) (by omega) (by omega) h3 hmin) fun q hq => r3 q hq j hj
  rw [Nat.zero_add] at this
  exact this
/-- a rule takes more of some good than it gives -/
theorem aln_some : ∀ {L M x : List Int}, x.length = L.length → x.length = M.length → alnL x L M = [] → ∀ i : Nat, (hi : i < L.length) → L.getD i 0 ≤ M.getD i 0
  | [], _, _, _, _, _, i, hi => absurd hi (Nat.not_lt_zero _)
  | l :: L, [], x, h1, h2, _, i, hi => by
    rw [h1] at h2
    cases h2
  | l :: L, m :: M, [], h1, _, _, i, hi => by cases h1
  | l :: L, m :: M, a :: x, h1, h2, h, i, hi => by
    rw [alnL] at h
    split at h
    · cases h
    · rename_i hlm
      cases i with
      | zero =>
        show l ≤ m
        omega
      | succ i => exact aln_some (x := x) (by simpa using h1) (by simpa using h2) h i (by simpa using hi)
theorem le_sums : ∀ {L M : List Int}, L.length = M.length → (∀ i : Nat, i < L.length → L.getD i 0 ≤ M.getD i 0) → L.sum ≤ M.sum ∧ (L.sum = M.sum → L = M)
  | [], [], _, _ => ⟨Int.le_refl _, fun _ => rfl⟩
  | l :: L, m :: M, hl, h => by
    have h0 : l ≤ m := h 0 (Nat.succ_pos _)
    obtain ⟨k1, k2⟩ := le_sums (L := L) (M := M) (by simpa using hl) fun i hi => h (i + 1) (by simpa using hi)
    rw [List.sum_cons, List.sum_cons]
    refine ⟨by omega, fun e => ?_⟩
    have e1 : l = m := by omega
    have e2 := k2 (by omega)
    rw [e1, e2]
theorem aln_ne {g : Nat} {r : Trd} {x : List Int} (hx : x.length = g) (h1 : r.1.length = g) (h2 : r.2.length = g) (hg : 0 < g) (hp : plB r.2 r.1 = true) : alnL x r.1 r.2 ≠ [] := by
  intro e
  have hle := aln_some (by omega) (by omega) e
  have hl : lastI r.1 ≤ lastI r.2 := by
    unfold lastI
    rw [h1, h2]
    exact hle (g - 1) (by omega)
  obtain ⟨hs, hq⟩ := le_sums (by omega) fun i hi => hle i hi
  unfold plB at hp
  split at hp
  · split at hp
    · rename_i e1 e2
      have := hq e2.symm
      rw [this, ltL_irr] at hp
      cases hp
    · have := of_decide_eq_true hp
      omega
  · have := of_decide_eq_true hp
    omega
end Lb
namespace Lb
open PySem PySem.Spec PyProof.Rows L2 RZ TL
structure RuleFit (g : Nat) (r : Trd) : Prop where
  l1 : r.1.length = g
  l2 : r.2.length = g
  a1 : Amts 1000 r.1
  a2 : Amts 1000 r.2
structure RsOk (g : Nat) (rs : List Trd) : Prop where
  fit : ∀ r ∈ rs, RuleFit g r
  pl : ∀ r ∈ rs, plB r.2 r.1 = true
  len : rs.length ≤ 1000
  g0 : 0 < g
  g1 : g ≤ 1000
theorem RsOk.ok {g : Nat} {rs : List Trd} (h : RsOk g rs) : RulesOk g rs := ⟨fun r hr => (h.fit r hr).l1, fun r hr => (h.fit r hr).l2⟩
abbrev rulesD (rs : List Trd) : PyData := .tuple (rs.map trdD)
def spFirst : Sp := fun vs H Q _ => ∃ (R : Rgn) (v u : V) (g : Nat) (rs : List Trd) (x : List Int), vs = [v, u] ∧ Dat R H v (rulesD rs) ∧ Dat R H u (bagD x) ∧ RulesOk g rs ∧ x.length = g ∧ g ≤ 1000 ∧ ∀ H', Same H H' → Q (optN (firstU rs x)) H'
def spAlone : Sp := fun vs H Q _ => ∃ (R : Rgn) (v u : V) (g : Nat) (r : Trd) (x : List Int), vs = [v, u] ∧ Dat R H v (trdD r) ∧ Dat R H u (bagD x) ∧ RuleFit g r ∧ x.length = g ∧ g ≤ 1000 ∧ alnL x r.1 r.2 ≠ [] ∧ ∀ (H' : Hp) (m : Int), Same H H' → m ∈ alnL x r.1 r.2 → (∀ y ∈ alnL x r.1 r.2, m ≤ y) → Q (.int m) H'
def spUntil : Sp := fun vs H Q _ => ∃ (R : Rgn) (v u c : V) (g : Nat) (r : Trd) (x b : List Int) (most : Int), vs = [v, u, c, .int most] ∧ Dat R H v (trdD r) ∧ Dat R H u (bagD x) ∧ Dat R H c (bagD b) ∧ RuleFit g r ∧ x.length = g ∧ b.length = g ∧ g ≤ 1000 ∧ ∀ H', Same H H' → Q (.int (untL most x r.1 r.2 b 0 (most - 1))) H'
def spRow : Sp := fun vs H Q _ => ∃ (R : Rgn) (v u : V) (g k : Nat) (rs : List Trd) (r : Trd) (x : List Int), vs = [v, .int (k : Int), u] ∧ Dat R H v (rulesD rs) ∧ Dat R H u (bagD x) ∧ (∀ q ∈ rs, RuleFit g q) ∧ rs[k]? = some r ∧ x.length = g ∧ g ≤ 1000 ∧ alnL x r.1 r.2 ≠ [] ∧ (∀ p, H p = none → R p) ∧
  ∀ (H' : Hp) (m : Int), Same H H' → m ∈ alnL x r.1 r.2 → (∀ y ∈ alnL x r.1 r.2, m ≤ y) → Q (.int (rowG r x (rs.take k) m)) H'
def spAftU : Sp := fun vs H Q _ => ∃ (R : Rgn) (v u : V) (g : Nat) (r : Trd) (x : List Int) (T : Int), vs = [v, u, .int T] ∧ Dat R H v (trdD r) ∧ Dat R H u (bagD x) ∧ RuleFit g r ∧ x.length = g ∧ g ≤ 1000 ∧ ∀ (H' : Hp) (p : Addr), Same H H' → H p = none → H' p = some (.tup ((aft T x r.1 r.2).map V.int)) → Q (.ref p) H'
def spDesc : Sp := fun vs H Q _ => ∃ (R : Rgn) (v u : V) (g n : Nat) (rs : List Trd) (x z : List Int), vs = [v, u] ∧ Dat R H v (rulesD rs) ∧ Dat R H u (bagD x) ∧ RsOk g rs ∧ x.length = g ∧ fallN rs n x = some z ∧ n ≤ 20000 ∧ (∀ p, H p = none → R p) ∧
  ∀ (H' : Hp) (p : Addr) (s w : V), Same H H' → R p → H' p = some (.tup [s, w]) → Dat R H' s (bagD z) → Q (.ref p) H'
def spFall : Sp := fun vs H Q _ => ∃ (R : Rgn) (v u : V) (g n : Nat) (rs : List Trd) (x z : List Int), vs = [v, u] ∧ Dat R H v (rulesD rs) ∧ Dat R H u (bagD x) ∧ RsOk g rs ∧ x.length = g ∧ fallN rs n x = some z ∧ n ≤ 20000 ∧ (∀ p, H p = none → R p) ∧
  ∀ (H' : Hp) (s : V), Same H H' → Dat R H' s (bagD z) → Q s H'
def spLFall : Sp := fun vs H Q _ => ∃ (R : Rgn) (v u : V) (g : Nat) (rs : List Trd) (x : List Int), vs = [v, u] ∧ Dat R H v (rulesD rs) ∧ Dat R H u (bagD x) ∧ RulesOk g rs ∧ rs.length ≤ 1000 ∧ x.length = g ∧ g ≤ 1000 ∧ (∀ p, H p = none → R p) ∧
  ∀ (H' : Hp) (s : V), Same H H' → Dat R H' s (optD (fallN rs 12000 x)) → Q s H'
theorem aln_take : ∀ {x L M : List Int} {i : Nat} {a l m : Int}, x[i]? = some a → L[i]? = some l → M[i]? = some m → alnL (x.take (i + 1)) (L.take (i + 1)) (M.take (i + 1)) = alnL (x.take i) (L.take i) (M.take i) ++ (if l > m then [(a - l) / (l - m) + 1] else [])
  | a' :: x, l' :: L, m' :: M, 0, a, l, m, h1, h2, h3 => by
    cases h1
    cases h2
    cases h3
    show alnL [a'] [l'] [m'] = _
    rw [alnL]
    rfl
  | a' :: x, l' :: L, m' :: M, i + 1, a, l, m, h1, h2, h3 => by
    rw [List.take_succ_cons, List.take_succ_cons, List.take_succ_cons, alnL, aln_take (i := i) h1 h2 h3, List.take_succ_cons, List.take_succ_cons, List.take_succ_cons, alnL]
    split
    · rfl
    · rfl
  | [], _, _, _, _, _, _, h, _, _ => nomatch h
  | _ :: _, [], _, _, _, _, _, _, h, _ => nomatch h
  | _ :: _, _ :: _, [], _, _, _, _, _, _, h => nomatch h
theorem aft_take {t : Int} : ∀ {x L M : List Int} {i : Nat} {a l m : Int}, x[i]? = some a → L[i]? = some l → M[i]? = some m → aft t (x.take (i + 1)) (L.take (i + 1)) (M.take (i + 1)) = aft t (x.take i) (L.take i) (M.take i) ++ [a + t * (m - l)]
  | a' :: x, l' :: L, m' :: M, 0, a, l, m, h1, h2, h3 => by
    cases h1
    cases h2
    cases h3
    rfl
  | a' :: x, l' :: L, m' :: M, i + 1, a, l, m, h1, h2, h3 => by
    rw [List.take_succ_cons, List.take_succ_cons, List.take_succ_cons, aft, aft_take (i := i) h1 h2 h3, List.take_succ_cons, List.take_succ_cons, List.take_succ_cons, aft]
    rfl
  | [], _, _, _, _, _, _, h, _, _ => nomatch h
  | _ :: _, [], _, _, _, _, _, _, h, _ => nomatch h
  | _ :: _, _ :: _, [], _, _, _, _, _, _, h => nomatch h
theorem trd_at {R : Rgn} {H : Hp} {vs : List V} {rs : List Trd} {i : Nat} {v : V} (h : Dats R H vs (rs.map trdD)) (e : vs[i]? = some v) : ∃ r, rs[i]? = some r ∧ Dat R H v (trdD r) := by
  obtain ⟨d, h1, h2⟩ := h.get' e
  rw [List.getElem?_map] at h1
  cases hr : rs[i]? with
  | none =>
    rw [hr] at h1
    cases h1
  | some r =>
    rw [hr] at h1
    have := Option.some.inj h1
    subst this
    exact ⟨r, rfl, h2⟩
end Lb
namespace Lb
open PySem PySem.Spec PyProof.Rows L2 RZ TL
def tofL (x l m w : List Int) : Nat → List Int
  | 0 => x
  | 1 => l
  | 2 => m
  | _ => w
end Lb
set_option Elab.async false
set_option linter.all false
set_option maxRecDepth 100000
set_option maxHeartbeats 4000000
namespace Lb
open PySem PySem.Spec PyProof.Rows L2 RZ TL
/-! ### amounts of any size: how long they are when shown -/
theorem numL_short : ∀ (k n : Nat), n < 10 ^ (k + 1) → (numL n).length ≤ k + 1
  | 0, n, h => by
    rw [numL_lt (by simpa using h)]
    exact Nat.le_refl _
  | k + 1, n, h => by
    by_cases h10 : n < 10
    · rw [numL_lt h10]
      exact Nat.succ_le_succ (Nat.zero_le _)
    · rw [numL_step (by omega), List.length_append, List.length_singleton]
      have : n / 10 < 10 ^ (k + 1) := by
        refine Nat.div_lt_of_lt_mul ?_
        rw [Nat.pow_succ] at h
        omega
      have := numL_short k (n / 10) this
      omega
theorem num_short {n : Nat} (h : n < 1000000) : (Str.ofString (toString ((n : Nat) : Int))).length ≤ 6 := by
  have h1 := numL_short 5 n (by simpa using h)
  rw [← tl_num] at h1
  exact h1
theorem amt_ok6 {x : Int} (h0 : 0 ≤ x) (h1 : x < 1000000) : Ok 12 0 (.int x) := by
  obtain ⟨n, rfl⟩ : ∃ n : Nat, x = (n : Int) := ⟨x.toNat, by omega⟩
  have := num_short (n := n) (by omega)
  refine ⟨?_, ?_, by rw [PyData.depth]; exact Nat.le_refl _⟩
  · rw [fine]
    refine decide_eq_true ?_
    show n.log2 < 1920
    by_cases h : n = 0
    · subst h
      decide
    · exact Nat.lt_trans ((Nat.log2_lt (k := 20) h).mpr (show n < 2 ^ 20 by omega)) (by decide)
  · rw [wt, PyData.shown]
    omega
/-! ### a pair of a key and its bag -/
abbrev pairD (x : List Int) : PyData := .tuple [keyD x, bagD x]
theorem lex_irr : ∀ l, PyProof.Rows.lexLt PyProof.Rows.itemOrd l l = false
  | [] => rfl
  | p :: l => by rw [PyProof.Rows.lex_self (O := PyProof.Rows.itemOrd)]; exact lex_irr l
theorem eqv_key {x y : List Int} (h : PyData.eqv (keyD x) (keyD y) = true) : x = y := by
  rw [PyData.eqv, PyData.eqvAll, PyData.eqvAll, PyData.eqvAll, eqv_bag] at h
  simp only [Bool.and_eq_true, decide_eq_true_eq] at h
  exact h.2.2.1
theorem pair_lt (x y : List Int) : PySem.W.dataLt (pairD x) (pairD y) = plB x y := by
  rw [PySem.W.dataLt_tuple, PySem.W.toks_all_cons (keyD x), PySem.W.toks_all_cons (keyD y), PyProof.Rows.lex_self (O := PyProof.Rows.itemOrd)]
  obtain ⟨t1, t2⟩ := PySem.W.toks_eqv _ _ (alike_key x y)
  cases h : PyData.eqv (keyD x) (keyD y) with
  | true =>
    have := eqv_key h
    subst this
    rw [lex_irr, plB_irr]
  | false =>
    rw [t2 h, ← key_lt]
    rfl
theorem eqv_pair (x y : List Int) : PyData.eqv (pairD x) (pairD y) = decide (x = y) := by
  by_cases h : x = y
  · subst h
    rw [decide_eq_true rfl, PyData.eqv, PyData.eqvAll, PyData.eqvAll, PyData.eqvAll, eqv_bag, decide_eq_true rfl, PyData.eqv, PyData.eqvAll, PyData.eqvAll, PyData.eqvAll, PyData.eqvAll, eqv_bag, decide_eq_true rfl]
    simp [PyData.eqv]
  · rw [decide_eq_false h, PyData.eqv, PyData.eqvAll]
    cases e : PyData.eqv (keyD x) (keyD y) with
    | true => exact absurd (eqv_key e) h
    | false => rfl
theorem alike_pair (x y : List Int) : PySem.W.alike (pairD x) (pairD y) = true := by
  rw [PySem.W.alike, PySem.W.alikeAll, PySem.W.alikeAll, alike_key, PySem.W.alike, alike_bag, PySem.W.alikeAll]
  rfl
theorem depth_pair (x : List Int) : (pairD x).depth ≤ 60 := by
  rw [PyData.depth, PyData.depthAll, PyData.depthAll, PyData.depthAll, PyData.depth, PyData.depthAll, PyData.depthAll, PyData.depthAll, PyData.depthAll, depth_bag, PyData.depth, PyData.depth]
  decide
theorem srt2 {u v : V} {x y : List Int} : srtA [u, v] [pairD x, pairD y] = if plB y x = true then [(v, pairD y), (u, pairD x)] else [(u, pairD x), (v, pairD y)] := by
  unfold srtA
  show List.mergeSort [(u, pairD x), (v, pairD y)] leD = _
  have e : leD (u, pairD x) (v, pairD y) = !plB y x := by
    unfold leD
    rw [pair_lt]
  cases h : plB y x with
  | true =>
    rw [h] at e
    simp [List.mergeSort, List.MergeSort.Internal.splitInTwo, List.merge, e]
  | false =>
    rw [h] at e
    simp [List.mergeSort, List.MergeSort.Internal.splitInTwo, List.merge, e]
/-! ### amounts on the way down -/
theorem step_amts {B M : Int} : ∀ {x L R : List Int}, Amts B x → Amts M R → Amts M L → geB x L = true → x.length = L.length → x.length = R.length → Amts (B + M) (plusL (minusL x L) R)
  | [], _, _, _, _, _, _, _, _ => fun z hz => absurd hz (by simp [plusL, minusL])
  | a :: x, [], _, _, _, _, _, h, _ => nomatch h
  | a :: x, l :: L, [], _, _, _, _, _, h => nomatch h
  | a :: x, l :: L, r :: R, h1, h2, h4, hg, e1, e2 => by
    rw [geB_cons, Bool.and_eq_true] at hg
    have ha := h1 a List.mem_cons_self
    have hr := h2 r List.mem_cons_self
    have hl := h4 l List.mem_cons_self
    have hge : a ≥ l := of_decide_eq_true hg.1
    have ih := step_amts (x := x) (L := L) (R := R) (fun z hz => h1 z (List.mem_cons_of_mem _ hz)) (fun z hz => h2 z (List.mem_cons_of_mem _ hz)) (fun z hz => h4 z (List.mem_cons_of_mem _ hz)) hg.2 (by simpa using e1) (by simpa using e2)
    have e : plusL (minusL (a :: x) (l :: L)) (r :: R) = (a - l + r) :: plusL (minusL x L) R := rfl
    rw [e]
    intro z hz
    rcases List.mem_cons.mp hz with rfl | hz
    · omega
    · exact ih z hz
theorem fall_amts {g : Nat} {M : Int} (hM : 0 ≤ M) {rs : List Trd} (ok : RulesOk g rs) (am : ∀ r ∈ rs, Amts M r.1 ∧ Amts M r.2) : ∀ (n : Nat) {x z : List Int} {B : Int}, Amts B x → x.length = g → fallN rs n x = some z → Amts (B + M * n) z ∧ z.length = g
  | 0, _, _, _, _, _, h => nomatch h
  | n + 1, x, z, B, hx, hl, h => by
    rw [fallN] at h
    have en : M * ((n + 1 : Nat) : Int) = M * (n : Int) + M := by
      rw [Int.natCast_add, Int.mul_add]
      simp
    have hn : 0 ≤ M * (n : Int) := Int.mul_nonneg hM (by omega)
    cases hf : firstU rs x with
    | none =>
      rw [hf] at h
      have h : some x = some z := h
      cases h
      exact ⟨hx.mono (by omega), hl⟩
    | some k =>
      rw [hf] at h
      have h : fallN rs n (stepU (rs.getD k ([], [])) x) = some z := h
      obtain ⟨i, r, h1, h2, h3, _⟩ := first_iff hf
      have hik : i = k := by omega
      subst hik
      have hgd : rs.getD i ([], []) = r := by
        rw [List.getD_eq_getElem?_getD, h2]
        rfl
      rw [hgd] at h
      have hm := List.mem_of_getElem? h2
      have a1 := ok.l1 r hm
      have a2 := ok.l2 r hm
      have := fall_amts hM ok am n (B := B + M) (step_amts hx (am r hm).2 (am r hm).1 h3 (by omega) (by omega)) (by
        unfold plusL minusL
        rw [List.length_zipWith, List.length_zipWith]
        omega) h
      exact ⟨this.1.mono (by omega), this.2⟩
theorem ints_ok6 : ∀ {b : List Int}, (∀ x ∈ b, 0 ≤ x ∧ x ≤ 999999) → Oks (14 * b.length) 0 (b.map PyData.int)
  | [], _ => ⟨(fun _ z => (List.not_mem_nil z).elim), Nat.le_refl _, (fun _ z => (List.not_mem_nil z).elim)⟩
  | x :: b, h => by
    have h1 := h x List.mem_cons_self
    have := (Oks.one (amt_ok6 h1.1 (by omega))).append (ints_ok6 (b := b) fun y hy => h y (List.mem_cons_of_mem _ hy))
    exact this.mono (by rw [List.length_cons]; omega) (Nat.le_refl _)
theorem bag_ok6 {g : Nat} {b : List Int} (hb : Amts 999999 b) (hl : b.length = g) (hg : g ≤ 4) : Ok 60 1 (bagD b) := (ints_ok6 hb).tuple.mono (by omega) (by omega)
theorem rule_ok6 {g : Nat} {r : Trd} (h1 : Amts 999999 r.1) (h2 : Amts 999999 r.2) (l1 : r.1.length = g) (l2 : r.2.length = g) (hg : g ≤ 4) : Ok 130 2 (trdD r) :=
  ((Oks.one (bag_ok6 h1 l1 hg)).append (Oks.one (bag_ok6 h2 l2 hg))).tuple.mono (by omega) (by omega)
theorem rules_ok6 {g : Nat} (hg : g ≤ 4) : ∀ {rs : List Trd}, (∀ r ∈ rs, RuleFit g r) → Oks (132 * rs.length) 2 (rs.map trdD)
  | [], _ => ⟨(fun _ z => (List.not_mem_nil z).elim), Nat.le_refl _, (fun _ z => (List.not_mem_nil z).elim)⟩
  | r :: rs, h => by
    have h1 := h r List.mem_cons_self
    have := (Oks.one (rule_ok6 (h1.a1.mono (by decide)) (h1.a2.mono (by decide)) h1.l1 h1.l2 hg)).append (rules_ok6 hg (rs := rs) fun y hy => h y (List.mem_cons_of_mem _ hy))
    exact this.mono (by rw [List.length_cons]; omega) (Nat.le_refl _)
end Lb
namespace Lb
open PySem PySem.Spec PyProof.Rows L2 RZ TL
theorem Dat.dpB {K : PySem.W.Frag} {R : Rgn} {H : Hp} {v : V} {x : List Int} (h : Dat R H v (bagD x)) : Dp K H v (bagD x) := by
  obtain ⟨a, rfl, _, e⟩ := h.bag
  exact dp_bag e
theorem Dat.dpP {K : PySem.W.Frag} {R : Rgn} {H : Hp} {v : V} {x : List Int} (h : Dat R H v (pairD x)) : Dp K H v (pairD x) := by
  obtain ⟨a, u, w, rfl, ra, e, du, dw⟩ := h.pair
  obtain ⟨k, ks, rfl, rk, ek, tk⟩ := du.tupI
  refine .tup (.inl (.inl e)) (.cons (.tup (.inl (.inl ek)) ?_) (.cons dw.dpB .nil))
  cases tk with
  | cons h1 t1 =>
    cases t1 with
    | cons h2 t2 =>
      cases t2 with
      | cons h3 t3 =>
        cases t3
        obtain rfl := h1.intI
        obtain rfl := h2.intI
        exact .cons (.int _) (.cons (.int _) (.cons h3.dpB .nil))
theorem shaped_pair (x : List Int) : SeqAt.shaped (pairD x) = true := by
  unfold SeqAt.shaped
  have h := depth_pair x
  rw [decide_eq_true (by omega), Bool.and_true, PyData.canLay0, PyData.canLayAll0, PyData.canLayAll0, PyData.canLayAll0, PyData.canLay0, PyData.canLayAll0, PyData.canLayAll0, PyData.canLayAll0, PyData.canLayAll0, PyData.canLay0, PyData.canLay0, PyData.canLay0, lay_ints]
  rfl
/-- a rule of the law's -/
structure RuleG (g : Nat) (q : Trd) : Prop where
  l1 : q.1.length = g
  l2 : q.2.length = g
  a1 : Amts 3 q.1
  a2 : Amts 3 q.2
  pl : plB q.2 q.1 = true
theorem RuleG.fit {g : Nat} {q : Trd} (h : RuleG g q) : RuleFit g q := ⟨h.l1, h.l2, h.a1.mono (by decide), h.a2.mono (by decide)⟩
theorem rep0_in {K : PySem.W.Frag} {R : Rgn} {H : Hp} {a : Addr} {g : Nat} {Q : VK} (e : H a = some (.tup [V.int 0])) (ra : R a) (hg : 0 < g) (hg2 : g ≤ 100) (new : ∀ p, H p = none → R p) (q : ∀ (H' : Hp) (p : Addr), Same H H' → R p → H' p = some (.tup ((List.replicate g (0 : Int)).map V.int)) → Q (.ref p) H') : rRepA K (.ref a) (.int (g : Int)) H Q := by
  refine ⟨a, (g : Int), [V.int 0], rfl, rfl, .inl (.inl e), by omega, by omega, (by show 1 ≤ 1000; decide), by simp, fun h1 => ?_, fun h1 p hp => ?_⟩
  · have : g = 1 := by omega
    subst this
    exact q H a (Same.refl _) ra e
  · rw [Int.toNat_natCast, rep0]
    exact q _ p (same_upd hp) (new p hp) upd_same
theorem both_ok {g : Nat} {rs : List Trd} {x : List Int} (hg : g ≤ 4) (hf : ∀ r ∈ rs, RuleFit g r) (hl : rs.length ≤ 4) (hx : Amts 999999 x) (lx : x.length = g) : Ok 1000 4 (.tuple [rulesD rs, bagD x]) := by
  have h1 := (rules_ok6 hg hf).tuple
  have h2 := (bag_ok6 hx lx hg).mono (Nat.le_refl _) (show 1 ≤ 3 by omega)
  exact ((Oks.one h1).append (Oks.one h2)).tuple.mono (by omega) (by omega)
theorem two_ok {g : Nat} {x y : List Int} (hg : g ≤ 4) (hx : Amts 999999 x) (lx : x.length = g) (hy : Amts 999999 y) (ly : y.length = g) : Ok 1000 4 (.list [bagD x, bagD y]) :=
  ((Oks.one (bag_ok6 hx lx hg)).append (Oks.one (bag_ok6 hy ly hg))).list.mono (by omega) (by omega)
end Lb
set_option Elab.async false
set_option linter.all false
set_option maxRecDepth 100000
set_option maxHeartbeats 4000000
namespace Lb
open PySem PySem.Spec PyProof.Rows L2 RZ
/-! ### markets with a note -/
def noteN (lent : List Int) (k : Nat) : Int := if inV (V.int ((0 : Int) + (k : Int))) (lent.map V.int) = true then 1 else 0
def noteL (g : Nat) (lent : List Int) : List Int := (List.range g).map (noteN lent)
def padT (t : Trd) : Trd := (t.1 ++ [0], t.2 ++ [0])
def noteM (g : Nat) (ts : List Trd) (lent : List Int) : List Trd := ts.map padT ++ [(noteL g lent ++ [1], List.replicate (g + 1) 0)]
theorem noteN_01 (lent : List Int) (k : Nat) : 0 ≤ noteN lent k ∧ noteN lent k ≤ 1 := by
  unfold noteN
  split <;> decide
theorem noteL_succ (i : Nat) (lent : List Int) : noteL (i + 1) lent = noteL i lent ++ [noteN lent i] := by
  unfold noteL
  rw [List.range_succ, List.map_append]
  rfl
theorem noteL_len (g : Nat) (lent : List Int) : (noteL g lent).length = g := by
  unfold noteL
  rw [List.length_map, List.length_range]
theorem noteL_sum (lent : List Int) : ∀ g : Nat, (noteL g lent).sum ≤ (g : Int)
  | 0 => Int.le_refl 0
  | g + 1 => by
    rw [noteL_succ, List.sum_append]
    have h1 := noteL_sum lent g
    have h2 := noteN_01 lent g
    have h3 : [noteN lent g].sum = noteN lent g := by rw [List.sum_cons, List.sum_nil, Int.add_zero]
    rw [h3]
    omega
theorem noteL_mem {g : Nat} {lent : List Int} : ∀ x ∈ noteL g lent, 0 ≤ x ∧ x ≤ 1 := by
  intro x hx
  unfold noteL at hx
  obtain ⟨k, _, rfl⟩ := List.mem_map.mp hx
  exact noteN_01 lent k
theorem side_pad {g m : Nat} {b : List Int} (h : Side g m b) : Side (g + 1) m (b ++ [0]) := by
  refine ⟨by rw [List.length_append, h.len]; rfl, fun x hx => ?_, ?_⟩
  · rcases List.mem_append.mp hx with z | z
    · exact h.amt x z
    · rw [List.mem_singleton.mp z]
      decide
  · rw [List.sum_append]
    have := h.tot
    have e : [(0 : Int)].sum = 0 := rfl
    rw [e]
    omega
theorem side_note {g : Nat} {lent : List Int} (h : g ≤ 3) : Side (g + 1) 4 (noteL g lent ++ [1]) := by
  refine ⟨by rw [List.length_append, noteL_len]; rfl, fun x hx => ?_, ?_⟩
  · rcases List.mem_append.mp hx with z | z
    · have := noteL_mem x z
      omega
    · rw [List.mem_singleton.mp z]
      decide
  · rw [List.sum_append]
    have := noteL_sum lent g
    have e : [(1 : Int)].sum = 1 := rfl
    rw [e]
    omega
theorem side_rep0 (g m : Nat) : Side g m (List.replicate g 0) := by
  refine ⟨List.length_replicate, fun x hx => ?_, ?_⟩
  · rw [(List.mem_replicate.mp hx).2]
    decide
  · rw [sum_rep0]
    omega
theorem note_ok {g : Nat} {ts : List Trd} {lent : List Int} (m : MktOk g ts) (h3 : g ≤ 3) (h4 : ts.length ≤ 3) : MktOk (g + 1) (noteM g ts lent) := by
  refine ⟨by omega, by omega, ?_, fun t ht => ?_⟩
  · unfold noteM
    rw [List.length_append, List.length_map]
    show ts.length + 1 ≤ 4
    omega
  · rcases List.mem_append.mp ht with z | z
    · obtain ⟨t', ht', rfl⟩ := List.mem_map.mp z
      exact ⟨side_pad (m.all t' ht').1, side_pad (m.all t' ht').2⟩
    · rw [List.mem_singleton.mp z]
      exact ⟨side_note h3, side_rep0 _ _⟩
theorem side_bag {g m : Nat} {b : List Int} (s : Side g m b) : bagB (g : Int) (bagD b) = true := by
  rw [bagB_tup, Bool.and_eq_true]
  refine ⟨decide_eq_true (by rw [List.length_map, s.len]), List.all_eq_true.mpr fun d hd => ?_⟩
  obtain ⟨x, hx, rfl⟩ := List.mem_map.mp hd
  exact decide_eq_true (s.amt x hx).1
theorem ints_bag (b : List Int) : intsOf (bagD b) = b := by
  show (b.map PyData.int).map _ = b
  rw [List.map_map]
  exact List.map_id _
theorem side_any {g m : Nat} {b : List Int} (s : Side g m b) : b.any (fun i => decide (3 < i)) = false :=
  List.any_eq_false.mpr fun x hx z => by
    have h1 : 3 < x := of_decide_eq_true z
    have h2 := (s.amt x hx).2
    omega
theorem tw_ok0 {g : Nat} {t : Trd} (h : TrdOk g 4 t) : tw (g : Int) (trdD t) = none := by
  have h1 := h.1.tot
  have h2 := h.2.tot
  rw [tw_pair, side_bag h.1, side_bag h.2, ints_bag, ints_bag, side_any h.1, side_any h.2, decide_eq_false (by omega : ¬ (4 < t.1.sum)), decide_eq_false (by omega : ¬ (4 < t.2.sum))]
  rfl
theorem scan_ok0 {g : Nat} : ∀ {ts : List Trd} (k : Nat), (∀ t ∈ ts, TrdOk g 4 t) → scan (g : Int) (ts.map trdD) k = .none
  | [], _, _ => rfl
  | t :: ts, k, h => by
    rw [List.map_cons, scan_cons, tw_ok0 (h t List.mem_cons_self)]
    exact scan_ok0 (k + 1) fun x hx => h x (List.mem_cons_of_mem _ hx)
theorem err_ok0 {g : Nat} {ts : List Trd} (m : MktOk g ts) : mErr (mktD g ts) = .none := by
  have h1 := m.one
  have h2 := m.four
  rw [err_scan ⟨by omega, by omega⟩ (by rw [List.length_map]; exact m.many)]
  exact scan_ok0 0 m.all
/-! ### the promises -/
def spSmall : Sp := fun vs H Q _ => ∃ (R : Rgn) (d c r : Addr) (n : Nat), vs = [.ref d] ∧ Dk H d c r n ∧ n < 2 ^ 36 ∧ Rg R H d r ∧
  ∀ (H' : Hp) (v : V) (g : Nat) (ts : List Trd), MktOk g ts → g ≤ 3 → ts.length ≤ 3 → Dat R H' v (mktD g ts) → Dk H' d c r (n + 102) → Kp d r H H' → Q v H'
def spNote : Sp := fun vs H Q _ => ∃ (R : Rgn) (m l : V) (g : Nat) (ts : List Trd) (lent : List Int), vs = [m, l] ∧ Dat R H m (mktD g ts) ∧ Dat R H l (bagD lent) ∧ g ≤ 100 ∧ ts.length ≤ 100 ∧
  (∀ t ∈ ts, t.1.length ≤ 100 ∧ t.2.length ≤ 100) ∧ (∀ p, H p = none → R p) ∧ ∀ (H' : Hp) (u : V), Same H H' → Dat R H' u (mktD (g + 1) (noteM g ts lent)) → Q u H'
def spTuples : Sp := fun vs H Q _ => ∃ (R : Rgn) (g : Nat), vs = [.int (g : Int)] ∧ g ≤ 4 ∧ (∀ p, H p = none → R p) ∧
  ∀ (H' : Hp) (p : Addr) (vs : List V) (ls : List (List Int)), Same H H' → H p = none → H' p = some (.lst vs) → Dats R H' vs (ls.map bagD) → vs.length ≤ 1000 → Q (.ref p) H'
theorem Dat.trd {R : Rgn} {H : Hp} {v : V} {t : Trd} (h : Dat R H v (trdD t)) : ∃ a b c, v = .ref a ∧ R a ∧ H a = some (.tup [.ref b, .ref c]) ∧ R b ∧ H b = some (.tup (t.1.map V.int)) ∧ R c ∧ H c = some (.tup (t.2.map V.int)) := by
  cases h with
  | tup ra e t =>
    cases t with
    | cons h1 t =>
      cases t with
      | cons h2 t =>
        cases t
        obtain ⟨b, rfl, rb, eb⟩ := h1.bag
        obtain ⟨c, rfl, rc, ec⟩ := h2.bag
        exact ⟨_, _, _, rfl, ra, e, rb, eb, rc, ec⟩
theorem Dat.mkt {R : Rgn} {H : Hp} {v : V} {g : Nat} {ts : List Trd} (h : Dat R H v (mktD g ts)) : ∃ am tv ys, v = .ref am ∧ R am ∧ H am = some (.tup [.int (g : Int), .ref tv]) ∧ R tv ∧ H tv = some (.tup ys) ∧ Dats R H ys (ts.map trdD) := by
  cases h with
  | tup ra e t =>
    cases t with
    | cons h1 t =>
      cases h1
      cases t with
      | cons h2 t =>
        cases t
        cases h2 with
        | tup rb eb tb => exact ⟨_, _, _, rfl, ra, e, rb, eb, tb⟩
theorem Dat.mkTrd {R : Rgn} {H : Hp} {a b c : Addr} {x y : List Int} (ra : R a) (e : H a = some (.tup [.ref b, .ref c])) (rb : R b) (eb : H b = some (.tup (x.map V.int))) (rc : R c) (ec : H c = some (.tup (y.map V.int))) : Dat R H (.ref a) (trdD (x, y)) :=
  .tup ra e (.cons (Dat.mkBag rb eb) (.cons (Dat.mkBag rc ec) .nil))
end Lb
namespace Lb
open PySem PySem.Spec PyProof.Rows L2 RZ
theorem alike_bag2 (a b : List Int) : PySem.W.alike (bagD a) (bagD b) = true := by
  have := alike_bag a b
  first | exact this | (unfold PySem.W.alike; exact this) | (simp only [PySem.W.alike]; exact this)
theorem Dats.zipMem {R : Rgn} {H : Hp} : ∀ {vs : List V} {ds : List PyData}, Dats R H vs ds → ∀ z ∈ vs.zip ds, Dat R H z.1 z.2 ∧ z.2 ∈ ds
  | _, _, .nil => fun z hz => absurd hz List.not_mem_nil
  | _, _, .cons h t => fun z hz => by
    rw [List.zip_cons_cons] at hz
    rcases List.mem_cons.mp hz with rfl | hz
    · exact ⟨h, List.mem_cons_self⟩
    · exact ⟨(Dats.zipMem t z hz).1, List.mem_cons_of_mem _ (Dats.zipMem t z hz).2⟩
theorem dats_of_all {R : Rgn} {H : Hp} : ∀ {zs : List (V × PyData)}, (∀ z ∈ zs, Dat R H z.1 z.2) → Dats R H (zs.map Prod.fst) (zs.map Prod.snd)
  | [], _ => .nil
  | z :: zs, h => .cons (h z List.mem_cons_self) (dats_of_all fun y hy => h y (List.mem_cons_of_mem _ hy))
theorem bags_of_all : ∀ {ds : List PyData}, (∀ d ∈ ds, ∃ l, d = bagD l) → ∃ ls : List (List Int), ds = ls.map bagD
  | [], _ => ⟨[], rfl⟩
  | d :: ds, h => by
    obtain ⟨l, rfl⟩ := h d List.mem_cons_self
    obtain ⟨ls, rfl⟩ := bags_of_all fun y hy => h y (List.mem_cons_of_mem _ hy)
    exact ⟨l :: ls, rfl⟩
theorem dats_sorted {R : Rgn} {H : Hp} {vs : List V} {ls : List (List Int)} (d : Dats R H vs (ls.map bagD)) : ∃ ls' : List (List Int), Dats R H ((srtA vs (ls.map bagD)).map Prod.fst) (ls'.map bagD) := by
  have hm : ∀ z ∈ srtA vs (ls.map bagD), z ∈ vs.zip (ls.map bagD) := fun z hz => List.mem_mergeSort.mp hz
  have h1 := dats_of_all (zs := srtA vs (ls.map bagD)) fun z hz => (d.zipMem z (hm z hz)).1
  obtain ⟨ls', e⟩ := bags_of_all (ds := (srtA vs (ls.map bagD)).map Prod.snd) fun x hx => by
    obtain ⟨z, hz, rfl⟩ := List.mem_map.mp hx
    obtain ⟨l, _, e⟩ := List.mem_map.mp (d.zipMem z (hm z hz)).2
    exact ⟨l, e.symm⟩
  rw [e] at h1
  exact ⟨ls', h1⟩
theorem srt_len {R : Rgn} {H : Hp} {vs : List V} {ds : List PyData} (d : Dats R H vs ds) : (srtA vs ds).length = vs.length := by
  unfold srtA
  rw [List.length_mergeSort, List.length_zip, d.length]
  omega
end Lb
set_option Elab.async false
set_option linter.all false
set_option maxRecDepth 100000
set_option maxHeartbeats 4000000
namespace Lb
open PySem PySem.Spec PyProof.Rows L2 RZ
/-! ### an error class without fields, raised without arguments -/
structure Err0 (K : PySem.W.Frag) (mg : Str → Option Value) (x : Str) (C : Addr) : Prop where
  gC : mg x = some (.ref C)
  xP : PySem.W.excIn K C [.type "ValueError", .type "Exception", .type "BaseException", .type "object"] "ValueError.__new__" = true
  kP : PySem.W.keepIn K (.ref C) = true
  bP : PySem.W.subIn K (.ref C) (.type "BaseException") = some true
  tP : PySem.W.typeIn K (.ref C) = some (.type "type")
  te : PySem.W.exmOne K (.ref C) (.ref C) = some true
theorem pmk_err0 {X : Cx} {x : Str} {C : Addr} {p pos : Pos} (T : Err0 X.K X.mg x C) (hg : Gl X x) (hdb : (x == ("__debug__" : Str)) = false := by decide) :
    PMk X (.Call (.Name x p) [] [] pos) (fun _ H Q => Q (.ref C) none H) := by
  intro pins s σ H Q I h
  refine wpAny_Call_Name_kw (ld_glob I hg T.gC ?_ hdb)
  refine PySem.W.callWith_K0 I.kIn T.kP ?_
  obtain ⟨bm, N, nm, qn, bs, hdct, sn, sub, ab, col, dd, k0, k1, k2, k3, k5, mN, hC, hN, hni, TT⟩ := exc_obj I.kIn T.xP
  refine wpAny_call_exc_subT PySem.F.excBase_ValueError TT hC hN hni (fun h' e hm => ?_) (Nat.zero_le _)
  exact mk_of I hm (raises_own T.bP T.tP) h (I.hok.gone hm.new)
/-! ### operators of an own class -/
section
variable {X : Cx} {CX : CXT} {C g : Addr} {n : Nat} {sp : Sp} {E : XK}
theorem ins_inst {pins : List (Addr × Obj)} {σ : L2.St} {H : Hp} {s : Shared} {a dx : Addr} {fs : List (Str × V)} (I : Inv X pins σ H s) (e : H a = some (.ins C dx fs)) : ∃ od, PySem.W.InstAt s.heap a (PySem.W.instObj C dx) C (some od) :=
  let ⟨_, O, _⟩ := ins_get I.hok e
  let ⟨od, J, _⟩ := O.look
  ⟨od, J⟩
/-- x op y, both of the class at C -/
def rBinO (C : Addr) (sp : Sp) (E : XK) : R2 := fun x y H Q => ∃ a dx fs b dy gs, x = .ref a ∧ y = .ref b ∧ H a = some (.ins C dx fs) ∧ H b = some (.ins C dy gs) ∧ sp [x, y] H Q E
theorem op_binO {op : Operator} (hc : PySem.W.selfFirst X.K C = true) (hs : PySem.W.findIn X.K (.ref C) (PySem.dunder op.info.2) = some (some (.ref g))) (hf : PySem.W.isFn X.K (.ref g) = true) (F : FnR X.prog X.w X.K X.mg X.base CX n g sp)
    (hr : Room n X.A) (hx : Passes CX X E) : OpR X (binaryOp op) (rBinO C sp E) := by
  intro pins s σ H x y v u Q I rx ry h
  obtain ⟨a, dx, fs, b, dy, gs, rfl, rfl, ha, hb, q⟩ := h
  cases (show v = Value.ref a from rx)
  cases (show u = Value.ref b from ry)
  obtain ⟨od, J⟩ := ins_inst I ha
  obtain ⟨od', J'⟩ := ins_inst I hb
  obtain ⟨m, hF⟩ := I.fr
  refine PySem.W.binop_K hF I.ok.mod.kin J J'.type hc hs hf ?_
  refine wpAny_mono (wpAny_call (run_fnR (us := [.ref a, .ref b]) (vs := [.ref a, .ref b]) F hr hx I (.cons rfl (.cons rfl .nil)) q)) (fun w s' z => ?_) fun _ _ x => x
  obtain ⟨z', H', I', rz, qz⟩ := z
  exact SlX.cmpback rz ⟨z', H', I', rz, qz⟩
/-- x == y, both of the class at C -/
theorem op_cmpO {op : CmpOp} (hop : ∀ a b, compareOp op a b = richCompare op a b) (hs : PySem.W.findIn X.K (.ref C) (cmpInfo op).2.1 = some (some (.ref g))) (hf : PySem.W.isFn X.K (.ref g) = true) (F : FnR X.prog X.w X.K X.mg X.base CX n g sp)
    (hr : Room n X.A) (hx : Passes CX X E) : OpR X (compareOp op) (rBinO C sp E) := by
  intro pins s σ H x y v u Q I rx ry h
  obtain ⟨a, dx, fs, b, dy, gs, rfl, rfl, ha, hb, q⟩ := h
  cases (show v = Value.ref a from rx)
  cases (show u = Value.ref b from ry)
  obtain ⟨od, J⟩ := ins_inst I ha
  obtain ⟨od', J'⟩ := ins_inst I hb
  obtain ⟨m, hF⟩ := I.fr
  rw [hop]
  refine PySem.W.cmp_K (op := op) (tb := .ref C) hr.units0 hF I.ok.mod.kin J J'.type (by unfold PySem.W.notFirst; rw [beq_self_eq_true]; rfl) hs hf ?_
  refine wpAny_mono (wpAny_call (run_fnR (us := [.ref a, .ref b]) (vs := [.ref a, .ref b]) F hr hx I (.cons rfl (.cons rfl .nil)) q)) (fun w s' z => ?_) fun _ _ x => x
  obtain ⟨z', H', I', rz, qz⟩ := z
  exact SlX.cmpback rz ⟨z', H', I', rz, qz⟩
/-- y in x, x of the class at C; the answer is a bool -/
def rInO (C : Addr) (sp : Sp) (E : XK) : R2 := fun y x H Q => ∃ a dx fs, x = .ref a ∧ H a = some (.ins C dx fs) ∧ sp [x, y] H (fun z H' => ∃ b, z = .bl b ∧ Q (.bl b) H') E
theorem op_inO (hs : PySem.W.findIn X.K (.ref C) "__contains__" = some (some (.ref g))) (hf : PySem.W.isFn X.K (.ref g) = true) (F : FnR X.prog X.w X.K X.mg X.base CX n g sp)
    (hr : Room n X.A) (hx : Passes CX X E) : OpR X (compareOp .In) (rInO C sp E) := by
  intro pins s σ H y x v u Q I ry rx h
  obtain ⟨a, dx, fs, rfl, ha, q⟩ := h
  cases (show u = Value.ref a from rx)
  obtain ⟨od, J⟩ := ins_inst I ha
  obtain ⟨m, hF⟩ := I.fr
  refine PySem.W.in_K hF I.ok.mod.kin J hs hf ?_
  refine wpAny_mono (wpAny_call (run_fnR (us := [.ref a, v]) (vs := [.ref a, y]) F hr hx I (.cons rfl (.cons ry .nil)) q)) (fun w s' z => ?_) fun _ _ x => x
  obtain ⟨z', H', I', rz, b, ez, qz⟩ := z
  subst ez
  cases (show w = Value.bool b from rz)
  exact wpAny_truthy_bool ⟨.bl b, H', I', rfl, qz⟩
/-- x op i, x of the class at C, i an int -/
def rBinI (C : Addr) (sp : Sp) (E : XK) : R2 := fun x y H Q => ∃ a dx fs i, x = .ref a ∧ y = .int i ∧ H a = some (.ins C dx fs) ∧ sp [x, y] H Q E
theorem op_binI {op : Operator} {fo ro rc : Option Value} (hc : PySem.W.selfFirst X.K C = true) (hs : PySem.W.findIn X.K (.ref C) (PySem.dunder op.info.2) = some (some (.ref g))) (hf : PySem.W.isFn X.K (.ref g) = true)
    (hr' : PySem.W.findIn X.K (.ref C) (PySem.dunderR op.info.2) = some rc) (hp : rc = none ∨ ∃ g : Addr, rc = some (.ref g))
    (h1 : PySem.W.findIn X.K (.type "int") (PySem.dunder op.info.2) = some fo) (h2 : PySem.W.findIn X.K (.type "int") (PySem.dunderR op.info.2) = some ro) (hsub : PySem.W.subIn X.K (.type "int") (.ref C) = some false)
    (F : FnR X.prog X.w X.K X.mg X.base CX n g sp) (hr : Room n X.A) (hx : Passes CX X E) : OpR X (binaryOp op) (rBinI C sp E) := by
  intro pins s σ H x y v u Q I rx ry h
  obtain ⟨a, dx, fs, i, rfl, rfl, ha, q⟩ := h
  cases (show v = Value.ref a from rx)
  obtain ⟨t, rfl⟩ := (show ∃ t, u = Value.int i t from ry)
  obtain ⟨od, J⟩ := ins_inst I ha
  obtain ⟨m, hF⟩ := I.fr
  refine PySem.W.ksp_binT (T := "int") hF I.ok.mod.kin J rfl hc hs hf hr' hp h1 h2 hsub ?_
  refine wpAny_mono (wpAny_call (run_fnR (us := [.ref a, .int i t]) (vs := [.ref a, .int i]) F hr hx I (.cons rfl (.cons ⟨t, rfl⟩ .nil)) q)) (fun w s' z => ?_) fun _ _ x => x
  obtain ⟨z', H', I', rz, qz⟩ := z
  exact SlX.cmpback rz ⟨z', H', I', rz, qz⟩
end
end Lb
set_option Elab.async false
set_option linter.all false
set_option maxRecDepth 100000
set_option maxHeartbeats 4000000
namespace Lb
open PySem PySem.Spec PyProof.Rows L2 RZ PySem.SeqAt
/-! ### sorted(xs), xs tuples that are alike, the first of them empty -/
section
variable {prog : Program} {w : World} {A : Around} {E : Value → Shared → Prop} {s : Shared}
theorem call_tuple_lt {Q : Value → Shared → Prop} {l b : Addr} {items items2 : Array Value} {e r : Nat → Bool} (hl : s.heap.IsTuple l items) (hb : s.heap.IsTuple b items2)
    (he : ∀ j (h1 : j < items.size) (h2 : j < items2.size), EqAt A.in1 s items[j] items2[j] (e j)) (hr : ∀ j (h1 : j < items.size) (h2 : j < items2.size), e j = false → RcLt A.in1 s items[j] items2[j] (r j))
    (h : Q (.bool (firstLt e r (decide (items.size < items2.size)) (List.range (min items.size items2.size)))) s) : wpAny (model prog w) A (call (.builtin "tuple.__lt__") [.ref l, .ref b]) Q E s := by
  obtain ⟨⟨cls, dd, data, sl⟩, ho, hc, n, hd⟩ := id hl
  obtain ⟨⟨cls2, dd2, data2, sl2⟩, ho2, hc2, n2, hd2⟩ := id hb
  simp only at hc hd hc2 hd2
  subst hc hd hc2 hd2
  exact call_meets F.slot_tuple_lt ⟨_, ho, rfl⟩ F.entry_tuple_lt (F.args_tuple_lt_2 _ _) (tuple_ltAt l b items items2 n n2 dd dd2 sl sl2 e r) ⟨ho, ho2, he, hr, h⟩
theorem oneLt_tup {xs ys : List PyData} {a b : Value} {as bs : List Addr} {Q : Bool → Shared → Prop} (ra : Reads s.heap a (.tuple xs) as) (rb : Reads s.heap b (.tuple ys) bs) (h : PySem.W.alike (.tuple xs) (.tuple ys) = true)
    (hu : A.units + min (PyData.tuple xs).depth (PyData.tuple ys).depth < cLine) (hq : Q (PySem.W.dataLt (.tuple xs) (.tuple ys)) s) : wpAny (model prog w) A (oneLt' true a b) Q E s := by
  have hal : PySem.W.alikeAll xs ys = true := by simpa [PySem.W.alike] using h
  cases ra with
  | @tuple l o vs n _ as₁ h1 h2 h3 h4 =>
    cases rb with
    | @tuple l' o' vs' n' _ bs₁ k1 k2 k3 k4 =>
      have n1 : vs.size = xs.length := by simpa using ReadsAll.length _ _ _ h4
      have n2 : vs'.size = ys.length := by simpa using ReadsAll.length _ _ _ k4
      rw [PySem.W.dataLt_tuple, ← PySem.W.firstLt_toks xs ys hal, ← n1, ← n2] at hq
      rw [oneLt'_eq]
      simp only [if_true]
      refine wpAny_bind (wpAny_cRoomFor (room_here hu) ?_)
      refine wpAny_bind (wpAny_callSpecialIfBound?_slot (T := "tuple") ⟨_, h1, h2⟩ F.slot_tuple_lt (call_tuple_lt (e := pairEq xs ys) (r := fun j => PySem.W.dataLt (xs.getD j .none) (ys.getD j .none)) ⟨_, h1, h2, _, h3⟩ ⟨_, k1, k2, _, k3⟩ (fun j j1 j2 => ?_) (fun j j1 j2 hj => ?_) ?_))
      · have := PySem.W.eqAt_alikeAll xs ys A.in1 s vs.toList vs'.toList _ _ h4 k4 hal (room_in hu) j (by simpa using j1) (by simpa using j2)
        simpa using this
      · have := PySem.W.rcLt_alikeAll xs ys A.in1 s vs.toList vs'.toList _ _ h4 k4 hal (room_in hu) j (by simpa using j1) (by simpa using j2) hj
        simpa using this
      · exact wpAny_truthy_bool hq
theorem mapM_keep {M : Model} {α β : Type} {f : α → Sem β} : ∀ (l : List α) {Q : List β → Shared → Prop}, (∀ v ∈ l, ∃ r : β, ∀ (Q' : β → Shared → Prop), Q' r s → wpAny M A (f v) Q' E s) → (∀ rs, rs.length = l.length → Q rs s) → wpAny M A (l.mapM f) Q E s
  | [], _, _, h => by rw [List.mapM_nil]; exact wpAny_pure (h [] rfl)
  | x :: l, Q, hf, h => by
    rw [List.mapM_cons]
    obtain ⟨r, hr⟩ := hf x (.head _)
    exact wpAny_bind (hr _ (wpAny_bind (mapM_keep l (Q := fun bs s' => wpAny M A (pure (r :: bs)) Q E s') (fun v hv => hf v (.tail _ hv)) (fun rs hl => wpAny_pure (h _ (by rw [List.length_cons, List.length_cons, hl]))))))
theorem first_tup {M : Model} {a : Addr} {o : Obj} {xs : Array Value} {n : Nat} {Q : Option Value → Shared → Prop} (ho : s.heap.get? a = some o) (hc : o.cls = .type "tuple") (hd : o.data = .seq xs n) (h : Q xs[0]? s) : wpAny M A (firstOfTuple' (.ref a)) Q E s := by
  rw [PySem.W.kas_first_eq]
  refine wpAny_bind (PySem.W.Looks.here (show PySem.W.Looks M s.heap (typeOf (.ref a)) o.cls from (PySem.W.Looks.ld ho).andThen .now) ?_)
  rw [hc, if_neg (by first | decide | simp)]
  exact wpAny_bind (listItems_at ho hd (wpAny_pure h))
theorem kind_tup0 {M : Model} {v₁ v₂ : Value} {rest : List Value} {ds : List PyData} {Q : SortKind → Shared → Prop} (e : PySem.W.EachIs (fun v d => ∃ as, Reads s.heap v d as) (v₁ :: v₂ :: rest) (.tuple [] :: ds)) (ht : ∀ d ∈ ds, ∃ r, d = PyData.tuple r) (h : Q oneType' s) :
    wpAny M A (keyKind' (v₁ :: v₂ :: rest).toArray) Q E s := by
  have tup : ∀ v ∈ v₁ :: v₂ :: rest, ∃ a o xs n, v = Value.ref a ∧ s.heap.get? a = some o ∧ o.cls = .type "tuple" ∧ o.data = .seq xs n := by
    intro v hv
    obtain ⟨d, hd, as, r⟩ := e.left v hv
    obtain ⟨t, rfl⟩ : ∃ t, d = PyData.tuple t := by
      rcases List.mem_cons.mp hd with rfl | hd
      · exact ⟨_, rfl⟩
      · exact ht d hd
    cases r with
    | @tuple a o xs n _ _ ho hc hd hr => exact ⟨a, o, xs, n, rfl, ho, hc, hd⟩
  have hT : ∀ v ∈ v₁ :: v₂ :: rest, PySem.W.Looks M s.heap (typeOf v) (.type "tuple") := by
    intro v hv
    obtain ⟨a, o, xs, n, rfl, ho, hc, hd⟩ := tup v hv
    rw [← hc]
    exact (PySem.W.Looks.ld ho).andThen .now
  rw [keyKind'_eq, List.mapM_toArray, map_eq_pure_bind, List.mapM_cons]
  have h0 : ∀ Q' : Option Value → Shared → Prop, Q' none s → wpAny M A (firstOfTuple' v₁) Q' E s := by
    intro Q' hq
    cases e with
    | cons r t =>
      obtain ⟨as, r⟩ := r
      cases r with
      | @tuple a o xs n _ _ ho hc hd hr =>
        refine first_tup ho hc hd ?_
        have : xs.toList = [] := by
          cases q : xs.toList with
          | nil => rfl
          | cons x r =>
            rw [q] at hr
            cases hr
        have e0 : xs[0]? = none := by rw [← Array.getElem?_toList, this]; rfl
        rw [e0]
        exact hq
  refine wpAny_bind (wpAny_bind (wpAny_bind (h0 _ (wpAny_bind (mapM_keep (v₂ :: rest) (fun v hv => ?_) (fun rs hl => wpAny_pure (wpAny_pure ?_)))))))
  · obtain ⟨a, o, xs, n, rfl, ho, hc, hd⟩ := tup v (List.mem_cons_of_mem _ hv)
    exact ⟨xs[0]?, fun Q' hq => first_tup ho hc hd hq⟩
  · rw [if_neg (by simp), if_neg (by simp)]
    rw [oneTypeOnly'_eq, List.mapM_toArray, map_eq_pure_bind]
    refine wpAny_bind (wpAny_bind (wpAny_bind (PySem.W.kas_mapM (r := Value.type "tuple") _ (fun v hv Q' hq => (hT v hv).here hq) (wpAny_pure ?_))))
    have hall : ((List.map (fun _ => Value.type "tuple") (v₁ :: v₂ :: rest)).toArray.all fun x => x == Value.type "tuple") = true := by
      simp only [List.all_toArray, List.all_map, List.all_eq_true]
      intro _ _
      exact beq_self_eq_true _
    have h0 : (List.map (fun _ => Value.type "tuple") (v₁ :: v₂ :: rest)).toArray[0]? = some (Value.type "tuple") := by simp
    rw [h0]
    simp only [hall, if_true]
    exact wpAny_pure (wpAny_pure h)
theorem sortsAt_tup0 {vs : List Value} {ds : List PyData} (e : PySem.W.EachIs (fun v d => ∃ as, Reads s.heap v d as) vs (.tuple [] :: ds)) (ht : ∀ d ∈ ds, ∃ r, d = PyData.tuple r) (hal : PySem.W.AllAlike (.tuple [] :: ds)) (hu : ∀ d, d ∈ PyData.tuple [] :: ds → A.units + d.depth < cLine) :
    PySem.W.SortsAt prog w A s (PySem.W.dataKind s.heap (.tuple [] :: ds)) vs := by
  have tup : ∀ d ∈ PyData.tuple [] :: ds, ∃ r, d = PyData.tuple r := fun d hd => by
    rcases List.mem_cons.mp hd with rfl | hd
    · exact ⟨_, rfl⟩
    · exact ht d hd
  have room : ∀ {d d' : PyData}, d ∈ PyData.tuple [] :: ds → A.units + min d.depth d'.depth < cLine := fun {d d'} hd => Nat.lt_of_le_of_lt (Nat.add_le_add_left (Nat.min_le_left _ _) _) (hu d hd)
  refine ⟨fun v hv => ?_, ⟨oneType', ?_, fun h2 E Q hq => ?_⟩⟩
  · obtain ⟨d, hd, as, r⟩ := e.left v hv
    exact ⟨_, PySem.W.dataKind_some hal hd r⟩
  · intro E x y a b Q ha hb hq
    obtain ⟨d, as, hd, ra, rfl⟩ := PySem.W.dataKind_inv ha
    obtain ⟨d', as', hd', rb, rfl⟩ := PySem.W.dataKind_inv hb
    rw [keyLt'_oneType]
    have hdd := hal d hd d' hd'
    have hrm := room (d' := d') hd
    obtain ⟨r1, rfl⟩ := tup d hd
    obtain ⟨r2, rfl⟩ := tup d' hd'
    exact oneLt_tup ra rb hdd hrm hq
  · match vs, e, h2 with
    | v₁ :: v₂ :: rest, e, _ => exact kind_tup0 e ht hq
end
def rSort0 (K : PySem.W.Frag) : List V → Hp → VK → Prop := fun vs H Q => ∃ (R : Rgn) (a : Addr) (xs : List V) (ds : List PyData), vs = [.ref a] ∧ H a = some (.lst xs) ∧ Dats R H xs (.tuple [] :: ds) ∧ PySem.W.AllAlike (.tuple [] :: ds) ∧ (∀ d ∈ ds, ∃ r, d = PyData.tuple r) ∧ (∀ d ∈ ds, d.depth ≤ 60) ∧
  ∀ p, H p = none → Q (.ref p) (upd H p (.lst ((srtA xs (.tuple [] :: ds)).map Prod.fst)))
theorem cr_sort0 {X : Cx} (hu : X.A.units + 64 < cLine) : CallR X (.builtin "sorted") (rSort0 X.K) := by
  intro pins s σ H vs us Q I r h
  obtain ⟨R, a, xs, ds0, rfl, ea, hd, hal, hs, hdp0, q⟩ := h
  obtain ⟨its, rv, hl, hz⟩ := I.list (.inl (.inl ea))
  rw [Vals.ref1 r]
  have hdp : ∀ d ∈ PyData.tuple [] :: ds0, d.depth ≤ 60 := fun d hd => by
    rcases List.mem_cons.mp hd with rfl | hd
    · decide
    · exact hdp0 d hd
  have hl' : s.heap.IsList a its.toArray := by
    obtain ⟨o, n, ho, hc, _, hd⟩ := hl
    exact ⟨o, ho, hc, n, hd⟩
  have hlen := rv.length
  have e1 := each_of (h' := PySem.W.sortingHeap (PySem.W.copyHeap s.heap its) (s.heap.objs.size + 1) its) I (fun b o e => PySem.W.sorting_copy_old e) hd rv
  have hmap : (xs.zip (PyData.tuple [] :: ds0)).map Prod.snd = PyData.tuple [] :: ds0 := List.map_snd_zip (by rw [hd.length]; exact Nat.le_refl _)
  have e2 := each_data e1
  rw [hmap] at e2
  have S := sortsAt_tup0 (prog := X.prog) (w := X.w) (A := X.A.in1.in1) (s := { s with heap := PySem.W.sortingHeap (PySem.W.copyHeap s.heap its) (s.heap.objs.size + 1) its }) e2 hs hal (fun d hdd => by
    have := hdp d hdd
    show X.A.units + 1 + 1 + d.depth < cLine
    omega)
  generalize hds : PyData.tuple [] :: ds0 = ds at *
  refine PySem.W.sorted_vals hl' S (by rw [← hlen]; exact hz) ?_
  have e3 : PySem.W.EachIs (fun u (z : V × PyData) => (PySem.W.dataKind (PySem.W.sortingHeap (PySem.W.copyHeap s.heap its) (s.heap.objs.size + 1) its) ds).keyOf u = some (PySem.W.keyToks z.2)) its (xs.zip ds) := by
    refine PySem.W.EachIs.of_zip e1.length fun p hp => ?_
    obtain ⟨_, as, rd⟩ := e1.zip p hp
    refine PySem.W.dataKind_some hal ?_ rd
    have : p.2 ∈ xs.zip ds := (List.of_mem_zip hp).2
    exact (List.of_mem_zip this).2
  have e4 := PySem.W.sortVals_each (κ := PySem.W.dataKind (PySem.W.sortingHeap (PySem.W.copyHeap s.heap its) (s.heap.objs.size + 1) its) ds) (rev := false) (fun z : V × PyData => PySem.W.keyToks z.2) e1 e3
  obtain ⟨ee, hat⟩ := sortedAll_at s.heap its (PySem.W.sortVals (PySem.W.dataKind (PySem.W.sortingHeap (PySem.W.copyHeap s.heap its) (s.heap.objs.size + 1) its) ds) false its its).toArray
  have hvals := each_vals e4
  have hle : (fun a b : V × PyData => PySem.W.sortLe (listOrd itemOrd) false (fun z : V × PyData => PySem.W.keyToks z.2) a b) = leD := rfl
  have hz2 : ((srtA xs ds).map Prod.fst).length ≤ sizeLine := by
    unfold srtA
    rw [List.length_map, List.length_mergeSort, List.length_zip]
    exact Nat.le_trans (Nat.min_le_left _ _) hz
  have fr : H (s.heap.objs.size + 1) = none := I.hok.fresh (Nat.le_succ _)
  refine ⟨.ref (s.heap.objs.size + 1), _, I.laid (t' := s.toks) (o := .lst ((srtA xs ds).map Prod.fst)) (fun b ob z => sortedAll_old z) (Nat.le_succ _) ?_, rfl, q _ fr⟩
  exact ⟨hz2, _, ee, hvals, hat⟩
end Lb
namespace Lb
open PySem PySem.Spec PyProof.Rows L2 RZ
theorem rd_rep0 {K : PySem.W.Frag} {R : Rgn} {H : Hp} {z : Addr} {k : Nat} {Q : VK} (ez : H z = some (.tup [.int 0])) (rz : R z) (new : ∀ p, H p = none → R p) (hk : k ≤ 1000)
    (q : ∀ (H' : Hp) (p : Addr), Same H H' → R p → H' p = some (.tup ((List.replicate k (0 : Int)).map V.int)) → Q (.ref p) H') : rRepA K (.ref z) (.int (k : Int)) H Q := by
  refine ⟨z, k, [.int 0], rfl, rfl, .inl (.inl ez), by omega, by omega, by decide, by simp, fun h => ?_, fun h p hp => ?_⟩
  · have : k = 1 := by omega
    subst this
    exact q H z (Same.refl H) rz ez
  · rw [Int.toNat_natCast, rep0]
    exact q _ p (same_upd hp) (new p hp) upd_same
theorem flat_ints : ∀ l : List Int, (l.map V.int).all flatV = true
  | [] => rfl
  | _ :: l => by rw [List.map_cons, List.all_cons, flat_ints l]; rfl
theorem take_trd {f : Trd → Trd} {ts : List Trd} {i : Nat} {t : Trd} (h : ts[i]? = some t) : ((ts.take (i + 1)).map f).map trdD = ((ts.take i).map f).map trdD ++ [trdD (f t)] := by
  rw [take_map h, List.map_append]
  rfl
end Lb
set_option Elab.async false
set_option linter.all false
set_option maxRecDepth 100000
set_option maxHeartbeats 4000000
namespace Lb
open PySem PySem.Spec PyProof.Rows L2 RZ
/-! ### enumerate(zip(t, u)), t and u tuples -/
abbrev ZipF (h : Heap) (z TI TO : Addr) (f0 : Value) (f : Bool) : Prop := h.get? z = some { cls := .type "zip", dict := none, data := .fields #[f0, .bool f, .bool false, .ref TI, .ref TO], slots := #[] }
/-- a zip between two turns: its own tuple is free, or was handed out -/
def ZipA (h : Heap) (z TI TO : Addr) : Prop := ∃ f0 f, ZipF h z TI TO f0 f ∧ (f0 = .none ∨ ∃ T : Nat, f0 = rawInt T)
section
variable {prog : Program} {w : World} {A : Around} {E : Value → Shared → Prop} {s : Shared} {z TI TO i1 i2 a b : Addr} {i : Nat}
theorem owned_any {Q : Bool → Shared → Prop} (hz : ZipA s.heap z TI TO) (h : ∀ k h' f0 f, ZipF h' z TI TO f0 f → (f0 = .none ∨ ∃ T : Nat, f0 = rawInt T) → Heap.SameBut z s.heap h' → Q k { s with heap := h' }) : wpAny (model prog w) A (Builtin.SmallTypes.ownedTupleIsFree (.ref z)) Q E s := by
  obtain ⟨f0, f, hz, hf⟩ := hz
  rcases hf with rfl | ⟨T, rfl⟩
  · unfold Builtin.SmallTypes.ownedTupleIsFree
    exact wpAny_bind (wpAny_field hz rfl (x := .none) rfl (wpAny_pure (h true s.heap _ _ hz (.inl rfl) (Heap.SameBut.refl _ _))))
  · cases hT : s.heap.get? T with
    | some oT => exact wpAny_tupleHeld_zip hz hT fun h' hz' sb => h false h' _ _ hz' (.inr ⟨T, rfl⟩) sb
    | none =>
      unfold Builtin.SmallTypes.ownedTupleIsFree
      refine wpAny_bind (wpAny_field hz rfl (x := rawInt T) rfl ?_)
      show wpAny _ _ (loadIfAlive ((T : Int).toNat) >>= _) _ _ _
      rw [Int.toNat_natCast]
      have al : ∀ {Q' : Option Obj → Shared → Prop}, Q' none s → wpAny (model prog w) A (loadIfAlive T) Q' E s := fun {Q'} q => by
        have q' : Q' (s.heap.get? T) s := by rw [hT]; exact q
        exact fun _ _ _ => q'
      refine wpAny_bind (al ?_)
      exact wpAny_pure (h true s.heap _ _ hz (.inr ⟨T, rfl⟩) (Heap.SameBut.refl _ _))
/-- what a turn of zip leaves -/
structure ZipTurn (h h' : Heap) (z TI TO i1 i2 a b : Addr) (i : Nat) (x y : Value) : Prop where
  zz : ZipA h' z TI TO
  oo : ∃ y1 y2, IsTupOf2 h' TO y1 y2
  t1 : h'.IsTupleIter i1 a (i + 1)
  t2 : h'.IsTupleIter i2 b (i + 1)
  new : IsTupOf2 h' h.objs.size x y
  size : h'.objs.size = h.objs.size + 1
  keep : ∀ c o, c ≠ z → c ≠ TO → c ≠ i1 → c ≠ i2 → h.get? c = some o → h'.get? c = some o
theorem zipA_item {xs ys : Array Value} {x y : Value} {Q : Value → Shared → Prop} (S : ZipSep2 z TI TO i1 i2 [i1, a] [i2, b]) (hz : ZipA s.heap z TI TO) (hTI : IsTupOf2 s.heap TI (.ref i1) (.ref i2)) (hTO : ∃ y1 y2, IsTupOf2 s.heap TO y1 y2)
    (h1 : s.heap.IsTupleIter i1 a i) (h2 : s.heap.IsTupleIter i2 b i) (p1 : s.heap.IsTuple a xs) (p2 : s.heap.IsTuple b ys) (hx : xs[i]? = some x) (hy : ys[i]? = some y)
    (hQ : ∀ h', ZipTurn s.heap h' z TI TO i1 i2 a b i x y → Q (.ref s.heap.objs.size) { s with heap := h' }) : wpAny (model prog w) A (Builtin.SmallTypes.nextOf (.ref z)) Q E s := by
  obtain ⟨y1, y2, hTO⟩ := hTO
  obtain ⟨f0, f, hz0, hf0⟩ := id hz
  have hT : s.TypeIs (.ref z) "zip" := ⟨_, hz0, rfl⟩
  have naz : a ≠ z := fun q => S.zf1 (by rw [q]; simp)
  have nbz : b ≠ z := fun q => S.zf2 (by rw [q]; simp)
  have naT : a ≠ TO := fun q => S.Tf1 (by rw [q]; simp)
  have nbT : b ≠ TO := fun q => S.Tf2 (by rw [q]; simp)
  have n12 : i1 ≠ i2 := fun q => S.sep1_2 (by rw [q]; simp)
  have nb1 : b ≠ i1 := fun q => S.sep1_2 (by rw [q]; simp)
  have na2 : a ≠ i2 := fun q => S.sep2_1 (by rw [q]; simp)
  unfold Builtin.SmallTypes.nextOf
  refine wpAny_bind (wpAny_callSpecial?_slot (name := Str.ofString "__next__") hT F.slot_zip_next (wpAny_call_entry F.slot_zip_next hT F.entry_zip_next ?_ (F.args_zip_next_1 _)))
  show wpAny _ _ (field (.ref z) 2 >>= _) _ _ _
  refine wpAny_bind (wpAny_field hz0 rfl (x := .bool false) rfl ?_)
  show wpAny _ _ (field (.ref z) 3 >>= _) _ _ _
  refine wpAny_bind (wpAny_field hz0 rfl (x := .ref TI) rfl (wpAny_bind (wpAny_seqItems hTI rfl ?_)))
  show wpAny _ _ (Builtin.SmallTypes.ownedTupleIsFree (.ref z) >>= _) _ _ _
  refine wpAny_bind (owned_any hz fun k g0 f0 f hz1 hf1 sb0 => ?_)
  have t1 : g0.IsTupleIter i1 a i := h1.at fun o u => sb0.extBut _ _ S.zi1.symm u
  have t2 : g0.IsTupleIter i2 b i := h2.at fun o u => sb0.extBut _ _ S.zi2.symm u
  have q1 : g0.IsTuple a xs := p1.at fun o u => sb0.extBut _ _ naz u
  have q2 : g0.IsTuple b ys := p2.at fun o u => sb0.extBut _ _ nbz u
  have sz0 : g0.objs.size = s.heap.objs.size := sb0.1
  have hO0 : IsTupOf2 g0 TO y1 y2 := sb0.extBut _ _ S.TOz hTO
  have k0 : ∀ c o, c ≠ z → s.heap.get? c = some o → g0.get? c = some o := fun c o n e => sb0.extBut _ _ n e
  obtain ⟨hp, gg, dd, tk, os⟩ := s
  dsimp only at *
  cases k with
  | false =>
    simp only [Bool.false_eq_true, if_false]
    refine wpAny_bind ?_
    rw [← Array.forIn_toList]
    simp only [List.forIn_cons, List.forIn_nil]
    refine wpAny_bind (wpAny_bind (wpAny_holding ?_))
    show wpAny _ _ (Builtin.SmallTypes.nextOf (.ref i1) >>= _) _ _ ⟨g0, gg, dd, tk, os⟩
    refine wpAny_bind (wpAny_nextOf_tuple_item (s := ⟨g0, gg, dd, tk, os⟩) t1 q1 hx fun g1 t1' sb1 => wpAny_pure (wpAny_pure ?_))
    refine wpAny_bind (wpAny_bind (wpAny_holding ?_))
    show wpAny _ _ (Builtin.SmallTypes.nextOf (.ref i2) >>= _) _ _ ⟨g1, gg, dd, tk, os⟩
    refine wpAny_bind (wpAny_nextOf_tuple_item (s := ⟨g1, gg, dd, tk, os⟩) (t2.at fun o u => sb1.extBut _ _ n12.symm u) (q2.at fun o u => sb1.extBut _ _ nb1 u) hy fun g2 t2' sb2 => wpAny_pure (wpAny_pure (wpAny_pure ?_)))
    show wpAny _ _ (newTuple [x, y] >>= _) _ _ ⟨g2, gg, dd, tk, os⟩
    refine wpAny_bind (wpAny_newTuple (wpAny_pure ⟨_, rfl, ?_⟩))
    have sz2 : g2.objs.size = hp.objs.size := sb2.1.trans (sb1.1.trans sz0)
    have k2 : ∀ c o, c ≠ z → c ≠ i1 → c ≠ i2 → hp.get? c = some o → (g2.push { cls := .type "tuple", data := .seq #[x, y] }).get? c = some o := fun c o n1 n2 n3 e => Heap.get?_push_of_some _ (sb2.extBut _ _ n3 (sb1.extBut _ _ n2 (k0 c o n1 e)))
    have fin := hQ (g2.push { cls := .type "tuple", data := .seq #[x, y] }) ⟨⟨f0, f, Heap.get?_push_of_some _ (sb2.extBut _ _ S.zi2 (sb1.extBut _ _ S.zi1 hz1)), hf1⟩, ⟨y1, y2, Heap.get?_push_of_some _ (sb2.extBut _ _ S.Ti2 (sb1.extBut _ _ S.Ti1 hO0))⟩,
      t1'.at fun o u => Heap.get?_push_of_some _ (sb2.extBut _ _ n12 u), t2'.at fun o u => Heap.get?_push_of_some _ u, by rw [← sz2]; exact Heap.get?_push_size _ rfl, by rw [Heap.size_push, sz2], fun c o n1 _ n3 n4 e => k2 c o n1 n3 n4 e⟩
    show wpAny _ _ (pure (Value.ref g2.objs.size)) _ _ _
    rw [sz2]
    exact wpAny_pure fin
  | true =>
    simp only [if_true]
    refine wpAny_bind (wpAny_rule (wpAny_bind (wpAny_field (s := ⟨g0, gg, dd, tk, os⟩) hz1 rfl (x := .ref TO) rfl ?_)))
    refine wpAny_bind (wpAny_setField_rec (s := ⟨g0, gg, dd, tk, os⟩) hz1 (by simp) fun g1 hzE sb1 => wpAny_bind ?_)
    have hzE : ZipF g1 z TI TO .ellipsis f := hzE
    have sb1 : Heap.SameBut z g0 g1 := sb1
    simp only [List.zipIdx_cons, List.zipIdx_nil, List.forIn_cons, List.forIn_nil]
    refine wpAny_bind (wpAny_bind (wpAny_onRaise ?_))
    show wpAny _ _ (Builtin.SmallTypes.nextOf (.ref i1) >>= _) _ _ ⟨g1, gg, dd, tk, os⟩
    refine wpAny_bind (wpAny_nextOf_tuple_item (s := ⟨g1, gg, dd, tk, os⟩) (t1.at fun o u => sb1.extBut _ _ S.zi1.symm u) (q1.at fun o u => sb1.extBut _ _ naz u) hx fun g2 t1' sb2 => wpAny_pure ?_)
    have sb2 : Heap.SameBut i1 g1 g2 := sb2
    have hO2 : IsTupOf2 g2 TO y1 y2 := sb2.extBut _ _ S.Ti1 (sb1.extBut _ _ S.TOz hO0)
    refine wpAny_bind (wpAny_seqItems (s := ⟨g2, gg, dd, tk, os⟩) hO2 rfl (wpAny_bind (updateSeq_IsTupOf2 (s := ⟨g2, gg, dd, tk, os⟩) hO2 fun g3 hO3 sb3 => wpAny_bind (wpAny_letGo (wpAny_pure ?_)))))
    have hO3 : IsTupOf2 g3 TO x y2 := hO3
    have sb3 : Heap.SameBut TO g2 g3 := sb3
    refine wpAny_bind (wpAny_bind (wpAny_onRaise ?_))
    show wpAny _ _ (Builtin.SmallTypes.nextOf (.ref i2) >>= _) _ _ ⟨g3, gg, dd, tk, os⟩
    have t2b : g3.IsTupleIter i2 b i := t2.at fun o u => sb3.extBut _ _ S.Ti2.symm (sb2.extBut _ _ n12.symm (sb1.extBut _ _ S.zi2.symm u))
    have q2b : g3.IsTuple b ys := q2.at fun o u => sb3.extBut _ _ nbT (sb2.extBut _ _ nb1 (sb1.extBut _ _ nbz u))
    refine wpAny_bind (wpAny_nextOf_tuple_item (s := ⟨g3, gg, dd, tk, os⟩) t2b q2b hy fun g4 t2' sb4 => wpAny_pure ?_)
    have sb4 : Heap.SameBut i2 g3 g4 := sb4
    have hO4 : IsTupOf2 g4 TO x y2 := sb4.extBut _ _ S.Ti2 hO3
    refine wpAny_bind (wpAny_seqItems (s := ⟨g4, gg, dd, tk, os⟩) hO4 rfl (wpAny_bind (updateSeq_IsTupOf2 (s := ⟨g4, gg, dd, tk, os⟩) hO4 fun g5 hO5 sb5 => wpAny_bind (wpAny_letGo (wpAny_pure (wpAny_pure ?_))))))
    have hO5 : IsTupOf2 g5 TO x y := hO5
    have sb5 : Heap.SameBut TO g4 g5 := sb5
    refine wpAny_bind (wpAny_seqItems (s := ⟨g5, gg, dd, tk, os⟩) hO5 rfl (wpAny_bind (wpAny_newTuple ?_)))
    have sz5 : g5.objs.size = hp.objs.size := by rw [sb5.1, sb4.1, sb3.1, sb2.1, sb1.1, sz0]
    have hz5 : ZipF g5 z TI TO .ellipsis f := sb5.extBut _ _ S.TOz.symm (sb4.extBut _ _ S.zi2 (sb3.extBut _ _ S.TOz.symm (sb2.extBut _ _ S.zi1 hzE)))
    have zlt : z < g5.objs.size := Heap.lt_size hz5
    have k5 : ∀ c o, c ≠ z → c ≠ TO → c ≠ i1 → c ≠ i2 → hp.get? c = some o → g5.get? c = some o := fun c o n1 n2 n3 n4 e => sb5.extBut _ _ n2 (sb4.extBut _ _ n4 (sb3.extBut _ _ n2 (sb2.extBut _ _ n3 (sb1.extBut _ _ n1 (k0 c o n1 e)))))
    have t1e : g5.IsTupleIter i1 a (i + 1) := t1'.at fun o u => sb5.extBut _ _ S.Ti1.symm (sb4.extBut _ _ n12 (sb3.extBut _ _ S.Ti1.symm u))
    have t2e : g5.IsTupleIter i2 b (i + 1) := t2'.at fun o u => sb5.extBut _ _ S.Ti2.symm u
    show wpAny _ _ (Builtin.SmallTypes.ownedTupleHandOut (.ref z) (.ref g5.objs.size) >>= _) _ _ ⟨g5.push { cls := .type "tuple", data := .seq #[x, y] }, gg, dd, tk, os⟩
    unfold Builtin.SmallTypes.ownedTupleHandOut
    have hz6 : ZipF (g5.push { cls := .type "tuple", data := .seq #[x, y] }) z TI TO .ellipsis f := Heap.get?_push_of_some _ hz5
    refine wpAny_bind (wpAny_bind (wpAny_setField_rec (s := ⟨g5.push { cls := .type "tuple", data := .seq #[x, y] }, gg, dd, tk, os⟩) hz6 (by simp) fun g7 hz7 sb7 => ?_))
    have hz7 : ZipF g7 z TI TO (rawInt g5.objs.size) f := hz7
    have sb7 : Heap.SameBut z (g5.push { cls := .type "tuple", data := .seq #[x, y] }) g7 := sb7
    refine wpAny_setField_rec (s := ⟨g7, gg, dd, tk, os⟩) hz7 (by simp) fun g8 hz8 sb8 => wpAny_pure ⟨_, rfl, ?_⟩
    have hz8 : ZipF g8 z TI TO (rawInt g5.objs.size) false := hz8
    have sb8 : Heap.SameBut z g7 g8 := sb8
    have up : ∀ c o, c ≠ z → g5.get? c = some o → g8.get? c = some o := fun c o n e => sb8.extBut _ _ n (sb7.extBut _ _ n (Heap.get?_push_of_some _ e))
    have fin := hQ g8 ⟨⟨_, _, hz8, .inr ⟨_, rfl⟩⟩, ⟨x, y, up _ _ S.TOz hO5⟩, t1e.at fun o u => up _ _ S.zi1.symm u, t2e.at fun o u => up _ _ S.zi2.symm u,
      by rw [← sz5]; exact sb8.extBut _ _ (Nat.ne_of_gt zlt) (sb7.extBut _ _ (Nat.ne_of_gt zlt) (Heap.get?_push_size _ rfl)), by rw [sb8.1, sb7.1, Heap.size_push, sz5], fun c o n1 n2 n3 n4 e => up c o n1 (k5 c o n1 n2 n3 n4 e)⟩
    show wpAny _ _ (pure (Value.ref g5.objs.size)) _ _ _
    rw [sz5]
    exact wpAny_pure fin
/-- a zip at its end raises StopIteration -/
theorem zipA_end {xs ys : Array Value} {Q : Value → Shared → Prop} (hh : A.handled = none) (S : ZipSep2 z TI TO i1 i2 [i1, a] [i2, b]) (hz : ZipA s.heap z TI TO) (hTI : IsTupOf2 s.heap TI (.ref i1) (.ref i2)) (hTO : ∃ y1 y2, IsTupOf2 s.heap TO y1 y2)
    (h1 : s.heap.IsTupleIter i1 a i) (h2 : s.heap.IsTupleIter i2 b i) (p1 : s.heap.IsTuple a xs) (p2 : s.heap.IsTuple b ys) (hend : xs[i]? = none ∨ ys[i]? = none)
    (hE : ∀ h' e, (∀ c o, c ≠ z → c ≠ TO → c ≠ i1 → c ≠ i2 → s.heap.get? c = some o → h'.get? c = some o) → (∃ o, h'.get? e = some o ∧ o.cls = .type "StopIteration") → E (.ref e) { s with heap := h' }) :
    wpAny (model prog w) A (Builtin.SmallTypes.nextOf (.ref z)) Q E s := by
  obtain ⟨y1, y2, hTO⟩ := hTO
  obtain ⟨f0, f, hz0, hf0⟩ := id hz
  have hT : s.TypeIs (.ref z) "zip" := ⟨_, hz0, rfl⟩
  have naz : a ≠ z := fun q => S.zf1 (by rw [q]; simp)
  have nbz : b ≠ z := fun q => S.zf2 (by rw [q]; simp)
  have nbT : b ≠ TO := fun q => S.Tf2 (by rw [q]; simp)
  have n12 : i1 ≠ i2 := fun q => S.sep1_2 (by rw [q]; simp)
  have nb1 : b ≠ i1 := fun q => S.sep1_2 (by rw [q]; simp)
  unfold Builtin.SmallTypes.nextOf
  refine wpAny_bind (wpAny_callSpecial?_slot (name := Str.ofString "__next__") hT F.slot_zip_next (wpAny_call_entry F.slot_zip_next hT F.entry_zip_next ?_ (F.args_zip_next_1 _)))
  show wpAny _ _ (field (.ref z) 2 >>= _) _ _ _
  refine wpAny_bind (wpAny_field hz0 rfl (x := .bool false) rfl ?_)
  show wpAny _ _ (field (.ref z) 3 >>= _) _ _ _
  refine wpAny_bind (wpAny_field hz0 rfl (x := .ref TI) rfl (wpAny_bind (wpAny_seqItems hTI rfl ?_)))
  show wpAny _ _ (Builtin.SmallTypes.ownedTupleIsFree (.ref z) >>= _) _ _ _
  refine wpAny_bind (owned_any hz fun k g0 f0 f hz1 hf1 sb0 => ?_)
  have t1 : g0.IsTupleIter i1 a i := h1.at fun o u => sb0.extBut _ _ S.zi1.symm u
  have t2 : g0.IsTupleIter i2 b i := h2.at fun o u => sb0.extBut _ _ S.zi2.symm u
  have q1 : g0.IsTuple a xs := p1.at fun o u => sb0.extBut _ _ naz u
  have q2 : g0.IsTuple b ys := p2.at fun o u => sb0.extBut _ _ nbz u
  have hO0 : IsTupOf2 g0 TO y1 y2 := sb0.extBut _ _ S.TOz hTO
  have k0 : ∀ c o, c ≠ z → s.heap.get? c = some o → g0.get? c = some o := fun c o n e => sb0.extBut _ _ n e
  obtain ⟨hp, gg, dd, tk, os⟩ := s
  dsimp only at *
  cases k with
  | false =>
    simp only [Bool.false_eq_true, if_false]
    refine wpAny_bind ?_
    rw [← Array.forIn_toList]
    simp only [List.forIn_cons, List.forIn_nil]
    refine wpAny_bind (wpAny_bind (wpAny_holding ?_))
    show wpAny _ _ (Builtin.SmallTypes.nextOf (.ref i1) >>= _) _ _ ⟨g0, gg, dd, tk, os⟩
    cases hx : xs[i]? with
    | none => exact wpAny_bind (wpAny_nextOf_tuple_end (s := ⟨g0, gg, dd, tk, os⟩) hh t1 q1 hx fun g1 e sb1 he => hE g1 e (fun c o n1 _ n3 _ u => sb1 _ _ n3 (k0 c o n1 u)) he)
    | some x =>
      have hy : ys[i]? = none := hend.resolve_left fun q => by rw [hx] at q; cases q
      refine wpAny_bind (wpAny_nextOf_tuple_item (s := ⟨g0, gg, dd, tk, os⟩) t1 q1 hx fun g1 t1' sb1 => wpAny_pure (wpAny_pure ?_))
      refine wpAny_bind (wpAny_bind (wpAny_holding ?_))
      show wpAny _ _ (Builtin.SmallTypes.nextOf (.ref i2) >>= _) _ _ ⟨g1, gg, dd, tk, os⟩
      exact wpAny_bind (wpAny_nextOf_tuple_end (s := ⟨g1, gg, dd, tk, os⟩) hh (t2.at fun o u => sb1.extBut _ _ n12.symm u) (q2.at fun o u => sb1.extBut _ _ nb1 u) hy fun g2 e sb2 he => hE g2 e (fun c o n1 _ n3 n4 u => sb2 _ _ n4 (sb1.extBut _ _ n3 (k0 c o n1 u))) he)
  | true =>
    simp only [if_true]
    refine wpAny_bind (wpAny_rule (wpAny_bind (wpAny_field (s := ⟨g0, gg, dd, tk, os⟩) hz1 rfl (x := .ref TO) rfl ?_)))
    refine wpAny_bind (wpAny_setField_rec (s := ⟨g0, gg, dd, tk, os⟩) hz1 (by simp) fun g1 hzE sb1 => wpAny_bind ?_)
    have hzE : ZipF g1 z TI TO .ellipsis f := hzE
    have sb1 : Heap.SameBut z g0 g1 := sb1
    simp only [List.zipIdx_cons, List.zipIdx_nil, List.forIn_cons, List.forIn_nil]
    refine wpAny_bind (wpAny_bind (wpAny_onRaise ?_))
    show wpAny _ _ (Builtin.SmallTypes.nextOf (.ref i1) >>= _) _ _ ⟨g1, gg, dd, tk, os⟩
    have t1b : g1.IsTupleIter i1 a i := t1.at fun o u => sb1.extBut _ _ S.zi1.symm u
    have q1b : g1.IsTuple a xs := q1.at fun o u => sb1.extBut _ _ naz u
    have back : ∀ (g2 : Heap) (e : Addr), ZipF g2 z TI TO .ellipsis f → (∀ c o, c ≠ z → c ≠ TO → c ≠ i1 → c ≠ i2 → hp.get? c = some o → g2.get? c = some o) → (∃ o, g2.get? e = some o ∧ o.cls = .type "StopIteration") →
        ∀ {A' : Around}, wpAny (model prog w) A' (setField (.ref z) 0 .none) (fun _ s'' => E (.ref e) s'') E ⟨g2, gg, dd, tk, os⟩ := by
      intro g2 e hz2 k2 he A'
      obtain ⟨oe, hoe, hce⟩ := he
      refine wpAny_setField_rec (s := ⟨g2, gg, dd, tk, os⟩) hz2 (by simp) fun g3 _ sb3 => hE g3 e (fun c o n1 n2 n3 n4 u => sb3.extBut _ _ n1 (k2 c o n1 n2 n3 n4 u)) ⟨oe, sb3.extBut _ _ (fun q => ?_) hoe, hce⟩
      rw [q] at hoe
      rw [show g2.get? z = some _ from hz2] at hoe
      cases hoe
      injection hce with q2
      exact absurd q2 (by decide)
    cases hx : xs[i]? with
    | none => exact wpAny_bind (wpAny_nextOf_tuple_end (s := ⟨g1, gg, dd, tk, os⟩) hh t1b q1b hx fun g2 e sb2 he => back g2 e (sb2 _ _ S.zi1 hzE) (fun c o n1 _ n3 _ u => sb2 _ _ n3 (sb1.extBut _ _ n1 (k0 c o n1 u))) he)
    | some x =>
      have hy : ys[i]? = none := hend.resolve_left fun q => by rw [hx] at q; cases q
      refine wpAny_bind (wpAny_nextOf_tuple_item (s := ⟨g1, gg, dd, tk, os⟩) t1b q1b hx fun g2 t1' sb2 => wpAny_pure ?_)
      have sb2 : Heap.SameBut i1 g1 g2 := sb2
      have hO2 : IsTupOf2 g2 TO y1 y2 := sb2.extBut _ _ S.Ti1 (sb1.extBut _ _ S.TOz hO0)
      refine wpAny_bind (wpAny_seqItems (s := ⟨g2, gg, dd, tk, os⟩) hO2 rfl (wpAny_bind (updateSeq_IsTupOf2 (s := ⟨g2, gg, dd, tk, os⟩) hO2 fun g3 hO3 sb3 => wpAny_bind (wpAny_letGo (wpAny_pure ?_)))))
      have sb3 : Heap.SameBut TO g2 g3 := sb3
      refine wpAny_bind (wpAny_bind (wpAny_onRaise ?_))
      show wpAny _ _ (Builtin.SmallTypes.nextOf (.ref i2) >>= _) _ _ ⟨g3, gg, dd, tk, os⟩
      have t2b : g3.IsTupleIter i2 b i := t2.at fun o u => sb3.extBut _ _ S.Ti2.symm (sb2.extBut _ _ n12.symm (sb1.extBut _ _ S.zi2.symm u))
      have q2b : g3.IsTuple b ys := q2.at fun o u => sb3.extBut _ _ nbT (sb2.extBut _ _ nb1 (sb1.extBut _ _ nbz u))
      have hz3 : ZipF g3 z TI TO .ellipsis f := sb3.extBut _ _ S.TOz.symm (sb2.extBut _ _ S.zi1 hzE)
      exact wpAny_bind (wpAny_nextOf_tuple_end (s := ⟨g3, gg, dd, tk, os⟩) hh t2b q2b hy fun g4 e sb4 he => back g4 e (sb4 _ _ S.zi2 hz3) (fun c o n1 n2 n3 n4 u => sb4 _ _ n4 (sb3.extBut _ _ n2 (sb2.extBut _ _ n3 (sb1.extBut _ _ n1 (k0 c o n1 u))))) he)
/-- what a turn of enumerate leaves of the heap that its source's turn left -/
structure EnumTurn (h h' : Heap) (e it : Addr) (c : Int) (t : Tok) (x : Value) : Prop where
  out : IsEnumOut h' e it (c + 1) x h.objs.size
  new : h'.get? h.objs.size = some { cls := .type "tuple", data := .seq #[.int c t, x] }
  keep : ∀ b o, b ≠ e → h.get? b = some o → h'.get? b = some o
theorem enumA_item {e it : Addr} {c : Int} {old : Value} {Q : Option Value → Shared → Prop} (he : IsEnum s.heap e it c old)
    (h : wpAny (model prog w) A.in1 (Builtin.SmallTypes.nextOf (.ref it)) (fun x s1 => IsEnum s1.heap e it c old ∧ ∀ h', EnumTurn s1.heap h' e it c s1.toks x → Q (some (.ref s1.heap.objs.size)) { s1 with heap := h', toks := s1.toks + 1 }) (fun _ _ => False) s) :
    wpAny (model prog w) A (pyNext (.ref e)) Q E s := by
  have hT : s.TypeIs (.ref e) "enumerate" := ⟨_, he, rfl⟩
  unfold pyNext
  refine wpAny_bind (wpAny_attempt (wpAny_callSpecial?_slot (name := Str.ofString "__next__") hT F.slot_enumerate_next (wpAny_call_entry F.slot_enumerate_next hT F.entry_enumerate_next ?_ (F.args_enumerate_next_1 _))))
  show wpAny _ _ (field (.ref e) 2 >>= _) _ _ _
  refine wpAny_bind (wpAny_field he rfl (x := .ref it) rfl (wpAny_bind (wpAny_mono h (fun x s1 hs1 => ?_) fun _ _ z => z.elim)))
  obtain ⟨g1, gg, dd, tk, os⟩ := s1
  obtain ⟨he1, fin⟩ := hs1
  dsimp only at he1 fin
  show wpAny _ _ (field (.ref e) 3 >>= _) _ _ ⟨g1, gg, dd, tk, os⟩
  refine wpAny_bind (wpAny_field (s := ⟨g1, gg, dd, tk, os⟩) he1 rfl (x := rawInt c) rfl ?_)
  show wpAny _ _ (field (.ref e) 4 >>= _) _ _ ⟨g1, gg, dd, tk, os⟩
  refine wpAny_bind (wpAny_field (s := ⟨g1, gg, dd, tk, os⟩) he1 rfl (x := .none) rfl ?_)
  show wpAny _ _ (mkInt c >>= _) _ _ ⟨g1, gg, dd, tk, os⟩
  refine wpAny_bind (wpAny_mkInt ?_)
  show wpAny _ _ (setField (.ref e) 3 (rawInt (c + 1)) >>= _) _ _ ⟨g1, gg, dd, tk + 1, os⟩
  refine wpAny_bind (wpAny_setField_rec (s := ⟨g1, gg, dd, tk + 1, os⟩) he1 (by simp) fun g2 he2 sb2 => ?_)
  have he2 : IsEnum g2 e it (c + 1) old := he2
  have sb2 : Heap.SameBut e g1 g2 := sb2
  show wpAny _ _ (setField (.ref e) 4 .none >>= _) _ _ ⟨g2, gg, dd, tk + 1, os⟩
  refine wpAny_bind (wpAny_setField_rec (s := ⟨g2, gg, dd, tk + 1, os⟩) he2 (by simp) fun g3 he3 sb3 => ?_)
  have he3 : IsEnum g3 e it (c + 1) old := he3
  have sb3 : Heap.SameBut e g2 g3 := sb3
  have sz3 : g3.objs.size = g1.objs.size := sb3.1.trans sb2.1
  show wpAny _ _ (newTuple [.int c tk, x] >>= _) _ _ ⟨g3, gg, dd, tk + 1, os⟩
  refine wpAny_bind (wpAny_newTuple ?_)
  have he4 : IsEnum (g3.push { cls := .type "tuple", data := .seq #[.int c tk, x] }) e it (c + 1) old := Heap.get?_push_of_some _ he3
  have elt : e < g3.objs.size := Heap.lt_size he3
  show wpAny _ _ (Builtin.SmallTypes.ownedTupleIsFree (.ref e) >>= _) _ _ ⟨g3.push { cls := .type "tuple", data := .seq #[.int c tk, x] }, gg, dd, tk + 1, os⟩
  unfold Builtin.SmallTypes.ownedTupleIsFree
  refine wpAny_bind (wpAny_bind (wpAny_field (s := ⟨g3.push { cls := .type "tuple", data := .seq #[.int c tk, x] }, gg, dd, tk + 1, os⟩) he4 rfl (x := .none) rfl (wpAny_pure ?_)))
  simp only [if_true]
  refine wpAny_bind (wpAny_rule (wpAny_bind (wpAny_field (s := ⟨g3.push { cls := .type "tuple", data := .seq #[.int c tk, x] }, gg, dd, tk + 1, os⟩) he4 rfl (x := old) rfl ?_)))
  refine wpAny_bind (wpAny_setField_rec (s := ⟨g3.push { cls := .type "tuple", data := .seq #[.int c tk, x] }, gg, dd, tk + 1, os⟩) he4 (by simp) fun g5 he5 sb5 => ?_)
  have he5 : IsEnum g5 e it (c + 1) x := he5
  have sb5 : Heap.SameBut e (g3.push { cls := .type "tuple", data := .seq #[.int c tk, x] }) g5 := sb5
  show wpAny _ _ (Builtin.SmallTypes.ownedTupleHandOut (.ref e) (.ref g3.objs.size) >>= _) _ _ ⟨g5, gg, dd, tk + 1, os⟩
  unfold Builtin.SmallTypes.ownedTupleHandOut
  refine wpAny_bind (wpAny_bind (wpAny_setField_rec (s := ⟨g5, gg, dd, tk + 1, os⟩) he5 (by simp) fun g6 he6 sb6 => ?_))
  have he6 : IsEnumOut g6 e it (c + 1) x g3.objs.size := he6
  have sb6 : Heap.SameBut e g5 g6 := sb6
  refine wpAny_setField_rec (s := ⟨g6, gg, dd, tk + 1, os⟩) he6 (by simp) fun g7 he7 sb7 => wpAny_bind (wpAny_letGo (wpAny_pure ⟨_, rfl, ?_⟩))
  have he7 : IsEnumOut g7 e it (c + 1) x g3.objs.size := he7
  have sb7 : Heap.SameBut e g6 g7 := sb7
  have up : ∀ b o, b ≠ e → (g3.push { cls := .type "tuple", data := .seq #[.int c tk, x] }).get? b = some o → g7.get? b = some o := fun b o n u => sb7.extBut _ _ n (sb6.extBut _ _ n (sb5.extBut _ _ n u))
  have hn : g7.get? g3.objs.size = some { cls := .type "tuple", data := .seq #[.int c tk, x] } := up _ _ (Nat.ne_of_gt elt) (Heap.get?_push_size _ rfl)
  rw [sz3] at he7 hn ⊢
  exact wpAny_pure (fin g7 ⟨he7, hn, fun b o n u => up b o n (Heap.get?_push_of_some _ (sb3.extBut _ _ n (sb2.extBut _ _ n u)))⟩)
theorem enumA_end {e it : Addr} {c : Int} {old : Value} {Q : Option Value → Shared → Prop} (he : IsEnum s.heap e it c old)
    (h : wpAny (model prog w) A.in1 (Builtin.SmallTypes.nextOf (.ref it)) (fun _ _ => False) (fun v s1 => ∃ a, v = .ref a ∧ (∃ o, s1.heap.get? a = some o ∧ o.cls = .type "StopIteration") ∧ Q none s1) s) :
    wpAny (model prog w) A (pyNext (.ref e)) Q E s := by
  have hT : s.TypeIs (.ref e) "enumerate" := ⟨_, he, rfl⟩
  unfold pyNext
  refine wpAny_bind (wpAny_attempt (wpAny_callSpecial?_slot (name := Str.ofString "__next__") hT F.slot_enumerate_next (wpAny_call_entry F.slot_enumerate_next hT F.entry_enumerate_next ?_ (F.args_enumerate_next_1 _))))
  show wpAny _ _ (field (.ref e) 2 >>= _) _ _ _
  refine wpAny_bind (wpAny_field he rfl (x := .ref it) rfl (wpAny_bind (wpAny_mono h (fun x s1 z => z.elim) fun v s1 hs1 => ?_)))
  obtain ⟨x, rfl, ⟨o, ho, hc⟩, q⟩ := hs1
  exact wpAny_bind (wpAny_isInstance (T := "StopIteration") (b := true) ⟨o, ho, hc⟩ isSubtype_stop (wpAny_pure q))
theorem meets_enumZ {z TI TO : Addr} :
    Meets (Builtin.«enumerate.__new__» ⟨[.type "enumerate", .ref z], []⟩) (fun _ R s => IsZip s.heap z TI TO .none ∧
      R (.ok (.ret (.ref s.heap.objs.size))) { s with heap := s.heap.push { cls := .type "enumerate", data := .fields #[.none, .bool false, .ref z, rawInt 0, .none, .none] } }) :=
  .of_wp fun prog w A R s h => by
    obtain ⟨hp, g, d, tk, os⟩ := s
    obtain ⟨g1, h⟩ := h
    have hsub := sub_enumerate
    have qi : ∀ {A' : Around} {E : Value → Shared → Prop} {Q : Value → Shared → Prop}, Q (.ref z) ⟨hp, g, d, tk, os⟩ → wpAny (model prog w) A' (pyIter (.ref z)) Q E ⟨hp, g, d, tk, os⟩ := fun q => wpAny_pyIter_zip (s := ⟨hp, g, d, tk, os⟩) g1 q
    wp_walk using qi
    refine wpAny_stack_any fun st => wpAny_pure ?_
    split
    · rename_i c _ _ _ _ _
      cases (c == Value.type "enumerate")
      · wp_walk using qi
        exact ⟨_, rfl, h⟩
      · wp_walk using qi
        exact ⟨_, rfl, h⟩
    · wp_walk using qi
      exact ⟨_, rfl, h⟩
theorem enumZ {z TI TO : Addr} {Q : Value → Shared → Prop} (g : IsZip s.heap z TI TO .none)
    (h : ∀ h', IsEnum h' s.heap.objs.size z 0 .none → (∀ b o, s.heap.get? b = some o → h'.get? b = some o) → Q (.ref s.heap.objs.size) { s with heap := h' }) :
    wpAny (model prog w) A (call (.type "enumerate") [.ref z]) Q E s := by
  refine callType_new F.called_enumerate (by decide) (F.typeCall_enumerate_1 _) (F.newCall_enumerate_1 _) (fun obj => F.args_object_init_2 obj _) F.entry_enumerate_new meets_enumZ ⟨g, ?_⟩
  have he : IsEnum (s.heap.push { cls := .type "enumerate", data := .fields #[.none, .bool false, .ref z, rawInt 0, .none, .none] }) s.heap.objs.size z 0 .none := Heap.get?_push_size _ rfl
  exact ⟨⟨_, he, rfl⟩, h _ he fun b ob q => Heap.get?_push_of_some _ q⟩
end
/-- two tuples, their items in new pairs, each in a new pair with its index -/
def ItzE (K : PySem.W.Frag) (a b : Addr) : It :=
  ⟨fun i H => ∃ (xs ys : List V) (x y : V), SqT K H a xs ∧ SqT K H b ys ∧ xs[i]? = some x ∧ ys[i]? = some y,
    fun i H v H' => ∃ T U x y, v = .ref U ∧ H T = none ∧ H U = none ∧ T ≠ U ∧ H' = upd (upd H T (.tup [x, y])) U (.tup [.int (i : Nat), .ref T]) ∧ (∀ xs, SqT K H a xs → xs[i]? = some x) ∧ ∀ ys, SqT K H b ys → ys[i]? = some y,
    fun i H => ∃ xs ys : List V, SqT K H a xs ∧ SqT K H b ys ∧ (xs.length ≤ i ∨ ys.length ≤ i)⟩
theorem turn_enumZ {P : Program} {w : World} {K : PySem.W.Frag} {elts : List Expr} {kk : Nat} {tpos : Pos} {a b e z TI TO i1 i2 : Addr} (S : ZipSep2 z TI TO i1 i2 [i1, a] [i2, b]) (ez : e ≠ z) (eI : e ≠ TI) (eO : e ≠ TO) (e1 : e ≠ i1) (e2 : e ≠ i2) (ea : e ≠ a) (eb : e ≠ b) :
    Turn P w K (.Tuple elts kk tpos) (ItzE K a b) [e, z, TI, TO, i1, i2] e (fun i h => (∃ old, IsEnum h e z ((i : Nat) : Int) old) ∧ ZipA h z TI TO ∧ IsTupOf2 h TI (.ref i1) (.ref i2) ∧ (∃ y1 y2, IsTupOf2 h TO y1 y2) ∧ h.IsTupleIter i1 a i ∧ h.IsTupleIter i2 b i) where
  mem := by simp
  obj := fun i h st c hc => by
    obtain ⟨⟨old, he⟩, ⟨f0, f, hz, _⟩, hTI, ⟨y1, y2, hTO⟩, ⟨o1, g1, _, d1⟩, ⟨o2, g2, _, d2⟩⟩ := st
    have q : c = e ∨ c = z ∨ c = TI ∨ c = TO ∨ c = i1 ∨ c = i2 := by simpa using hc
    rcases q with k | k | k | k | k | k
    · rw [k]; exact ⟨_, he, fun v u => nomatch u⟩
    · rw [k]; exact ⟨_, hz, fun v u => nomatch u⟩
    · rw [k]; exact ⟨_, hTI, fun v u => nomatch u⟩
    · rw [k]; exact ⟨_, hTO, fun v u => nomatch u⟩
    · rw [k]; exact ⟨o1, g1, fun v u => by rw [d1] at u; cases u⟩
    · rw [k]; exact ⟨o2, g2, fun v u => by rw [d2] at u; cases u⟩
  keep := fun i h h' st k => by
    obtain ⟨⟨old, he⟩, ⟨f0, f, hz, hf⟩, hTI, ⟨y1, y2, hTO⟩, h1, h2⟩ := st
    exact ⟨⟨old, k e (by simp) _ he⟩, ⟨f0, f, k z (by simp) _ hz, hf⟩, k TI (by simp) _ hTI, ⟨y1, y2, k TO (by simp) _ hTO⟩, h1.at fun o u => k i1 (by simp) o u, h2.at fun o u => k i2 (by simp) o u⟩
  item := by
    intro X hP hw hK hc i pins s σ H E I hf st hg
    subst hP hw hK
    obtain ⟨⟨old, he⟩, hz, hTI, hTO, h1, h2⟩ := st
    obtain ⟨xs, ys, x, y, hqx, hqy, hx, hy⟩ := hg
    obtain ⟨its, rv, p, _⟩ := I.tuple hqx
    obtain ⟨its2, rv2, p2, _⟩ := I.tuple hqy
    obtain ⟨u, hu, ru⟩ := rv.get hx
    obtain ⟨u2, hu2, ru2⟩ := rv2.get hy
    have lts : ∀ c, c ∈ [e, z, TI, TO, i1, i2] → c < s.heap.objs.size := fun c hcm => by
      obtain ⟨f0, f, hz', _⟩ := hz
      obtain ⟨y1, y2, hTO'⟩ := hTO
      obtain ⟨_, g1, _⟩ := h1
      obtain ⟨_, g2, _⟩ := h2
      have q : c = e ∨ c = z ∨ c = TI ∨ c = TO ∨ c = i1 ∨ c = i2 := by simpa using hcm
      rcases q with k | k | k | k | k | k
      · rw [k]; exact Heap.lt_size he
      · rw [k]; exact Heap.lt_size hz'
      · rw [k]; exact Heap.lt_size hTI
      · rw [k]; exact Heap.lt_size hTO'
      · rw [k]; exact Heap.lt_size g1
      · rw [k]; exact Heap.lt_size g2
    refine enumA_item he (zipA_item S hz hTI hTO h1 h2 p p2 (by simpa using hu) (by simpa using hu2) fun h' ZT => ⟨ZT.keep _ _ ez eO e1 e2 he, fun h'' ET => ⟨_, rfl, ?_⟩⟩)
    refine wpAny_letOwnedTupleGo_enum (s := { s with heap := h'', toks := s.toks + 1 }) ET.out fun h3 he3 sb3 => ?_
    have sb3 : Heap.SameBut e h'' h3 := sb3
    have szT : h'.objs.size = s.heap.objs.size + 1 := ZT.size
    have ETn : h''.get? h'.objs.size = some { cls := .type "tuple", data := .seq #[.int i s.toks, .ref s.heap.objs.size] } := ET.new
    have up : ∀ c o, c ≠ e → h'.get? c = some o → h3.get? c = some o := fun c o n q => sb3.extBut _ _ n (ET.keep c o n q)
    have elt := lts e (by simp)
    -- the inner pair
    have new1 : ObjOk X.prog X.w (upd H s.heap.objs.size (.tup [x, y])) h' s.heap.objs.size (.tup [x, y]) := ⟨by show 2 ≤ sizeLine; decide, [u, u2], .cons ru (.cons ru2 .nil), ⟨_, ZT.new, rfl, _, rfl⟩⟩
    have I1 : Inv X pins σ (upd H s.heap.objs.size (.tup [x, y])) { s with heap := h', toks := s.toks } :=
      I.turnedNew (t' := s.toks) (ch := [e, z, TI, TO, i1, i2]) (fun c o hb q => ZT.keep c o (fun k => hb (by simp [k])) (fun k => hb (by simp [k])) (fun k => hb (by simp [k])) (fun k => hb (by simp [k])) q) hf (Nat.le_refl _) new1
    have hf1 : ∀ c ∈ [e, z, TI, TO, i1, i2], FpOk X pins (upd H s.heap.objs.size (.tup [x, y])) c := fun c hcm => by
      obtain ⟨f1, f2⟩ := hf c hcm
      exact ⟨by rw [upd_ne (Nat.ne_of_lt (lts c hcm))]; exact f1, f2⟩
    -- the pair with the index
    have new2 : ObjOk X.prog X.w (upd (upd H s.heap.objs.size (.tup [x, y])) h'.objs.size (.tup [.int (i : Nat), .ref s.heap.objs.size])) h3 h'.objs.size (.tup [.int (i : Nat), .ref s.heap.objs.size]) :=
      ⟨by show 2 ≤ sizeLine; decide, [.int i s.toks, .ref s.heap.objs.size], .cons ⟨_, rfl⟩ (.cons rfl .nil), ⟨_, sb3.extBut _ _ (by rw [szT]; exact Nat.ne_of_gt (Nat.lt_succ_of_lt elt)) ETn, rfl, _, rfl⟩⟩
    have I2 : Inv X pins σ (upd (upd H s.heap.objs.size (.tup [x, y])) h'.objs.size (.tup [.int (i : Nat), .ref s.heap.objs.size])) { s with heap := h3, toks := s.toks + 1 } :=
      I1.turnedNew (t' := s.toks + 1) (ch := [e, z, TI, TO, i1, i2]) (fun c o hb q => up c o (fun k => hb (by simp [k])) q) hf1 (Nat.le_refl _) new2
    refine ⟨.ref h'.objs.size, _, I2, rfl, ⟨s.heap.objs.size, h'.objs.size, x, y, rfl, I.hok.fresh (Nat.le_refl _), I.hok.fresh (by rw [szT]; exact Nat.le_succ _), by rw [szT]; exact Nat.ne_of_lt (Nat.lt_succ_self _), rfl, fun l hl => by rw [I.tuple_inj hl hqx]; exact hx, fun l hl => by rw [I.tuple_inj hl hqy]; exact hy⟩, ⟨⟨.ref s.heap.objs.size, ?_⟩, ?_, ?_, ?_, ?_, ?_⟩, fun c hcm => ?_⟩
    · have q1 : ((i + 1 : Nat) : Int) = (i : Int) + 1 := by omega
      rw [q1]
      exact he3
    · obtain ⟨f0, f, hz', hf'⟩ := ZT.zz
      exact ⟨f0, f, up _ _ ez.symm hz', hf'⟩
    · exact up _ _ eI.symm (ZT.keep _ _ S.TIz S.TITO S.TIi1 S.TIi2 hTI)
    · obtain ⟨y1, y2, q⟩ := ZT.oo
      exact ⟨y1, y2, up _ _ eO.symm q⟩
    · exact ZT.t1.at fun o q => up _ _ e1.symm q
    · exact ZT.t2.at fun o q => up _ _ e2.symm q
    · rw [upd_ne (by rw [szT]; exact Nat.ne_of_lt (Nat.lt_succ_of_lt (lts c hcm)))]
      exact (hf1 c hcm).1
  done := by
    intro X hP hw hK hc i pins s σ H E I hf st hg
    subst hP hw hK
    obtain ⟨⟨old, he⟩, hz, hTI, hTO, h1, h2⟩ := st
    obtain ⟨xs, ys, hqx, hqy, hend⟩ := hg
    obtain ⟨its, rv, p, _⟩ := I.tuple hqx
    obtain ⟨its2, rv2, p2, _⟩ := I.tuple hqy
    have l1 := rv.length
    have l2 := rv2.length
    refine enumA_end he (zipA_end (I.ok.hd hc) S hz hTI hTO h1 h2 p p2 ?_ fun h' x hk hx => ⟨x, rfl, hx, rfl, I.turnedL (t' := s.toks) (ch := [e, z, TI, TO, i1, i2]) (fun c o hb q => hk c o (fun k => hb (by simp [k])) (fun k => hb (by simp [k])) (fun k => hb (by simp [k])) (fun k => hb (by simp [k])) q) hf⟩)
    rcases hend with q | q
    · exact .inl (by simp; omega)
    · exact .inr (by simp; omega)
  self := fun A i s Q E st h => let ⟨⟨_, he⟩, _⟩ := st; wpAny_pyIter_enum he h
def iEnumZ (K : PySem.W.Frag) (ta : TA) : TI := fun σ H R => ta σ H fun vs H1 => ∃ a b xs ys, vs = [.ref a, .ref b] ∧ SqT K H1 a xs ∧ SqT K H1 b ys ∧ R (ItzE K a b) H1
theorem sep_new (n a b : Nat) (ha : a < n) (hb : b < n) : ZipSep2 (n + 4) (n + 2) (n + 3) n (n + 1) [n, a] [n + 1, b] := zip_sep2 (N := n) (fp1 := [a]) (fp2 := [b]) (fun c hc => by rw [List.mem_singleton.mp hc]; exact ha) (fun c hc => by rw [List.mem_singleton.mp hc]; exact hb)
theorem pi_enumZ {X : Cx} {e e2 : Expr} {ta : TA} {p p2 pos pos2 tpos : Pos} {elts : List Expr} {kk : Nat} (hg : Gl X "enumerate") (hm : X.mg "enumerate" = none) (hg2 : Gl X "zip") (hm2 : X.mg "zip" = none) (ha : PA X [e, e2] ta)
    (hs : starEach [e, e2] X.env = (false, eval e X.env) :: starEach [e2] X.env := by rfl) (hpl : (backTo pos2 (starEach [e2] X.env)).any (·.1) = false := by rfl)
    (hs2 : starEach [.Call (.Name "zip" p2) [e, e2] [] pos2] X.env = [(false, eval (.Call (.Name "zip" p2) [e, e2] [] pos2) X.env)] := by rfl) :
    PI X (.Tuple elts kk tpos) (.Call (.Name "enumerate" p) [.Call (.Name "zip" p2) [e, e2] [] pos2] [] pos) (iEnumZ X.K ta) := by
  refine ⟨fun pins s σ H R I h => ?_⟩
  refine Call_ (ld_blt I hg hm boot_enumerate (PyProof.Rows.callWith_type1 ?_ hs2 rfl))
  rw [hs2]
  show wpAny _ _ (spliced ((false, eval (.Call (.Name "zip" p2) [e, e2] [] pos2) X.env) :: [])) _ _ s
  refine Calls.spliced_cons (wpAny_mono (Q := fun v s2 => ∃ (a b : Addr) (H1 : Hp) (s1 : Shared) (h' : Heap), v = .ref (s1.heap.objs.size + 4) ∧ s2 = { s1 with heap := h' } ∧ Inv X pins σ H1 { s1 with heap := h' } ∧ a < s1.heap.objs.size ∧ b < s1.heap.objs.size ∧ h'.objs.size = s1.heap.objs.size + 5 ∧
      IsZip h' (s1.heap.objs.size + 4) (s1.heap.objs.size + 2) (s1.heap.objs.size + 3) .none ∧ IsTupOf2 h' (s1.heap.objs.size + 2) (.ref s1.heap.objs.size) (.ref (s1.heap.objs.size + 1)) ∧ IsTupOf2 h' (s1.heap.objs.size + 3) .none .none ∧ h'.IsTupleIter s1.heap.objs.size a 0 ∧ h'.IsTupleIter (s1.heap.objs.size + 1) b 0 ∧
      (∀ c, s1.heap.objs.size ≤ c → FpOk X pins H1 c) ∧ R (ItzE X.K a b) H1) ?_ (fun v s2 hv => ?_) fun _ _ q => q)
  · refine Call_ (ld_blt I hg2 hm2 PyProof.Rows.boot_zip (PyProof.Rows.callWith_type1 (thn (ha.run pos2 pins s σ H _ I h) fun us s1 ⟨vs, H1, I1, r1, q1⟩ => ?_) hs hpl))
    obtain ⟨a, b, xs, ys, ex, hqx, hqy, q⟩ := q1
    subst ex
    cases r1 with
    | cons r rr =>
      cases rr with
      | cons r' rr =>
        cases rr
        cases r
        cases r'
        obtain ⟨its, rv, p1, _⟩ := I1.tuple hqx
        obtain ⟨its2, rv2, p2, _⟩ := I1.tuple hqy
        obtain ⟨o1, ho1, _⟩ := id p1
        obtain ⟨o2, ho2, _⟩ := id p2
        refine call_zipT (show s1.heap.IsTuple a its.toArray from p1) (show s1.heap.IsTuple b its2.toArray from p2) fun h' hz hTI hTO h1 h2 hsz hk => ?_
        exact ⟨a, b, H1, s1, h', rfl, rfl, I1.kept (t' := s1.toks) hk, Heap.lt_size ho1, Heap.lt_size ho2, hsz, hz, hTI, hTO, h1, h2, fun c hle => I1.fpOk hle (I1.hok.fresh hle), q⟩
  · obtain ⟨a, b, H1, s1, h', rfl, rfl, I2, la, lb, hsz, hz, hTI, hTO, h1, h2, fr, q⟩ := hv
    refine Calls.spliced_nil ?_
    refine enumZ (s := { s1 with heap := h' }) hz fun h2' he hk => wpAny_pyIter_enum he ?_
    have he : IsEnum h2' h'.objs.size (s1.heap.objs.size + 4) 0 .none := he
    rw [hsz] at he
    have nn : ∀ k, k < 5 → s1.heap.objs.size + 5 ≠ s1.heap.objs.size + k := fun k hk => by omega
    refine ⟨h'.objs.size, [h'.objs.size, s1.heap.objs.size + 4, s1.heap.objs.size + 2, s1.heap.objs.size + 3, s1.heap.objs.size, s1.heap.objs.size + 1], (fun i h => (∃ old, IsEnum h h'.objs.size (s1.heap.objs.size + 4) ((i : Nat) : Int) old) ∧ ZipA h (s1.heap.objs.size + 4) (s1.heap.objs.size + 2) (s1.heap.objs.size + 3) ∧ IsTupOf2 h (s1.heap.objs.size + 2) (.ref s1.heap.objs.size) (.ref (s1.heap.objs.size + 1)) ∧ (∃ y1 y2, IsTupOf2 h (s1.heap.objs.size + 3) y1 y2) ∧ h.IsTupleIter s1.heap.objs.size a i ∧ h.IsTupleIter (s1.heap.objs.size + 1) b i), ItzE X.K a b, H1, rfl, I2.kept (t' := s1.toks) hk, ?_, ?_, fun c hcm => ?_, q⟩
    · rw [hsz]
      exact turn_enumZ (sep_new s1.heap.objs.size a b la lb) (nn 4 (by omega)) (nn 2 (by omega)) (nn 3 (by omega)) (nn 0 (by omega)) (nn 1 (by omega)) (Nat.ne_of_gt (Nat.lt_of_lt_of_le la (Nat.le_add_right _ _))) (Nat.ne_of_gt (Nat.lt_of_lt_of_le lb (Nat.le_add_right _ _)))
    · rw [hsz]
      exact ⟨⟨_, he⟩, ⟨_, _, hk _ _ hz, .inl rfl⟩, hk _ _ hTI, ⟨_, _, hk _ _ hTO⟩, h1.at fun o u => hk _ _ u, h2.at fun o u => hk _ _ u⟩
    · refine fr c ?_
      have q : c = h'.objs.size ∨ c = s1.heap.objs.size + 4 ∨ c = s1.heap.objs.size + 2 ∨ c = s1.heap.objs.size + 3 ∨ c = s1.heap.objs.size ∨ c = s1.heap.objs.size + 1 := by simpa using hcm
      rw [hsz] at q
      rcases q with k | k | k | k | k | k
      · rw [k]; exact Nat.le_add_right _ _
      · rw [k]; exact Nat.le_add_right _ _
      · rw [k]; exact Nat.le_add_right _ _
      · rw [k]; exact Nat.le_add_right _ _
      · rw [k]; exact Nat.le_refl _
      · rw [k]; exact Nat.le_add_right _ _
/-- a loop over enumerate(zip(t, u)) -/
theorem for_enumZ {K : PySem.W.Frag} {a b : Addr} {xs ys : List V} {g : TG} {tb : TS} {D : Ends} {σ : L2.St} {H : Hp} (hl : xs.length = ys.length) (Pv : Nat → L2.St → Hp → Prop) (h0 : Pv 0 σ H) (hq : ∀ i σ H, Pv i σ H → SqT K H a xs ∧ SqT K H b ys)
    (hs : ∀ (i : Nat) (x y : V) (T U : Addr) (σ : L2.St) (H : Hp), xs[i]? = some x → ys[i]? = some y → Pv i σ H → H T = none → H U = none → T ≠ U → g (.ref U) σ (upd (upd H T (.tup [x, y])) U (.tup [.int (i : Nat), .ref T])) fun σ2 H2 => tb { D with nx := Pv (i + 1), ct := Pv (i + 1), bk := D.nx } σ2 H2) (hd : ∀ σ H, Pv xs.length σ H → D.nx σ H) :
    ∃ W : Nat → Nat → L2.St → Hp → Prop, (∃ m, W 0 m σ H) ∧ ∀ i m σ H, W i m σ H →
      ((ItzE K a b).stop i H ∧ D.nx σ H) ∨ ((ItzE K a b).go i H ∧ ∃ N : L2.St → Hp → Prop, (∀ σ' H', N σ' H' → ∃ m', m' < m ∧ W (i + 1) m' σ' H') ∧ ∀ v H', (ItzE K a b).yld i H v H' → g v σ H' fun σ2 H2 => tb { D with nx := N, ct := N, bk := D.nx } σ2 H2) := by
  refine ⟨fun i m σ H => m = xs.length - i ∧ i ≤ xs.length ∧ Pv i σ H, ⟨xs.length, rfl, Nat.zero_le _, h0⟩, ?_⟩
  rintro i m σ H ⟨rfl, hi, p⟩
  obtain ⟨qx, qy⟩ := hq i σ H p
  by_cases hlt : i < xs.length
  · refine .inr ⟨⟨xs, ys, _, _, qx, qy, List.getElem?_eq_getElem hlt, List.getElem?_eq_getElem (by omega)⟩, Pv (i + 1), fun σ' H' p' => ⟨xs.length - (i + 1), by omega, rfl, hlt, p'⟩, ?_⟩
    rintro v H' ⟨T, U, x', y', rfl, hT, hU, ne, rfl, f1, f2⟩
    exact hs i x' y' T U σ H (f1 xs qx) (f2 ys qy) p hT hU ne
  · obtain rfl : i = xs.length := by omega
    exact .inl ⟨⟨xs, ys, qx, qy, .inl (Nat.le_refl _)⟩, hd σ H p⟩
end Lb
set_option Elab.async false
set_option linter.all false
set_option maxRecDepth 100000
set_option maxHeartbeats 4000000
namespace Lb
open PySem PySem.Spec PyProof.Rows L2 RZ TL
section
variable {P : Program} {w : World} {K : PySem.W.Frag} {mg : Str → Option Value} {base : Heap}
theorem FnOk.imp2 {CX : CXT} {k : Nat} {f : Addr} {fd : FuncData} {ps : List Str} {sp sp' : Sp} (F : FnOk P w K mg base CX k f fd ps sp) (h : ∀ vs H Q E, sp' vs H Q E → sp vs H Q E) : FnOk P w K mg base CX k f fd ps sp' :=
  ⟨fun vs H Q E q => F.len vs H Q E (h _ _ _ _ q), fun A outer s H args us vs Q E hr e0 hb r q => F.run A outer s H args us vs Q E hr e0 hb r (h _ _ _ _ q)⟩
theorem Own.imp {x : Str} {k : Nat} {ps : List Str} {sp sp' : Sp} (O : Own P w K mg base x k ps sp) (h : ∀ vs H Q E, sp' vs H Q E → sp vs H Q E) : Own P w K mg base x k ps sp' := by
  obtain ⟨f, fd, F, r⟩ := O.ex
  exact ⟨f, fd, FnOk.imp2 F h, r⟩
/-! ### methods of an own class -/
structure OwnM (P : Program) (w : World) (K : PySem.W.Frag) (mg : Str → Option Value) (base : Heap) (C : Addr) (m : Str) (k : Nat) (ps : List Str) (sp : Sp) : Prop where
  ex : ∃ (f : Addr) (fd : FuncData), Meth K C m f ∧ FnOk P w K mg base (L2.CX P w) k f fd ps sp ∧ Binds K fd ps []
/-- a method's def, as the text has it -/
structure DfM (K : PySem.W.Frag) (C : Addr) (m qual : Str) (st : Stmt) : Prop where
  ex : ∃ (f : Addr) (fd : FuncData), Fun K m qual st f fd ∧ Meth K C m f
theorem ownM_of {C : Addr} {m qual : Str} {st : Stmt} {N ps : List Str} {k : Nat} {sp : Sp} (D : DfM K C m qual st) (S : FnScope N ps (defScope st))
    (hb : ∀ (kV doc pm : Value) (an : Option Addr) (cdv ct : Value) (us : List Value), us.length = ps.length → bindArgs (PySem.W.fnOf m qual (defArgs st) (defBody st) (defScope st) .none kV doc pm an cdv ct) ⟨us, []⟩ = pure (ps.zip us))
    (len : ∀ vs H Q E, sp vs H Q E → vs.length = ps.length)
    (hbody : ∀ (f : Addr) (cdv : Value) (A : Around) (outer : List Env) (s : Shared) (H : Hp) (vs : List V) (Q : VK) (E : XK), Room k (A.deeper (envOfC qual (defScope st) s.heap.objs.size f cdv)) → sp vs H Q E →
      ∃ t, PSs (cxOf (L2.CX P w) P w K mg base N qual (defScope st) f cdv A outer s H E) (defBody st) t ∧ t { nx := fun _ H' => Q .non H', rt := Q } (start N vs) H) : OwnM P w K mg base C m (k + 1) ps sp := by
  obtain ⟨f, fd, F, M⟩ := D.ex
  exact ⟨f, fd, M, F.okX S len (hbody f), F.binds hb⟩
theorem dfM_mk {C : Addr} {m qual : Str} {st : Stmt} {f : Addr} {oc : Value} {od an : Option Addr} {osl : Array (Option Value)} {kV doc pm cdv ct : Value} (a : PySem.W.findIn K (.ref C) m = some (some (.ref f))) (j : PySem.W.typeIn K (.ref f) = some (.type "function"))
    (l : K.lookup f = some ⟨oc, od, .func (PySem.W.fnOf m qual (defArgs st) (defBody st) (defScope st) .none kV doc pm an cdv ct), osl⟩) (c : PySem.W.codeIn K cdv qual = true) (k : PySem.W.keepIn K (.ref f) = true) : DfM K C m qual st :=
  ⟨f, _, fun_mk l c k, ⟨a, by unfold PySem.W.isFn; rw [j]; exact beq_self_eq_true _, k⟩⟩
end
/-- what is raised in a callee is what the def raises -/
theorem passE {X : Cx} {W : WX} {E : XK} (tk : Takes X W) (h : ∀ cls d σ H, E cls d H → W cls d σ H) : Passes (L2.CX X.prog X.w) X E := passes_call tk h
section
variable {X : Cx} {C : Addr} {m : Str} {k : Nat} {ps : List Str} {sp : Sp} {E : XK}
theorem OwnM.fnR (O : OwnM X.prog X.w X.K X.mg X.base C m k ps sp) : ∃ g, Meth X.K C m g ∧ FnR X.prog X.w X.K X.mg X.base (L2.CX X.prog X.w) k g sp := by
  obtain ⟨f, fd, M, F, b⟩ := O.ex
  exact ⟨f, M, (FnOk.raw F b .nil).imp fun vs H Q E h => by rw [List.append_nil]; exact h⟩
theorem pe_methX {o e : Expr} {es : List Expr} {ta : TE} {t : TA} {apos pos : Pos} {pl : Sem Bool} (he : PE X o ta) (c : Cls X.K C) (O : OwnM X.prog X.w X.K X.mg X.base C m k ps sp) (hr : Room k X.A) (hx : Passes (L2.CX X.prog X.w) X E) (ha : PA X (e :: es) t)
    (h1 : starEach (e :: es) X.env = (false, eval e X.env) :: starEach es X.env := by rfl) (h2 : (backTo pos (starEach es X.env)).any (·.1) = false := by rfl)
    (h3 : eval (.Call (.Attribute o m apos) (e :: es) [] pos) X.env = (do
      let ov ← eval o X.env
      standAt apos.atName
      let (f, first) ← holding [ov] (getMethod ov m pl)
      callWith pos f first (backTo pos (starEach (e :: es) X.env)) (backToKw pos (keywordEach [] X.env))) := by rfl) : PE X (.Call (.Attribute o m apos) (e :: es) [] pos) (tMeth C m sp [] E ta t) := by
  obtain ⟨f, fd, M, F, b⟩ := O.ex
  exact pe_meth he c M F hr b .nil hx ha h1 h2 h3
theorem op_binM {op : Operator} (O : OwnM X.prog X.w X.K X.mg X.base C (PySem.dunder op.info.2) k ps sp) (hc : PySem.W.selfFirst X.K C = true) (hr : Room k X.A) (hx : Passes (L2.CX X.prog X.w) X E) : OpR X (binaryOp op) (rBinO C sp E) := by
  obtain ⟨g, M, F⟩ := O.fnR
  exact op_binO hc M.at_ M.fn F hr hx
theorem op_eqM (O : OwnM X.prog X.w X.K X.mg X.base C "__eq__" k ps sp) (hr : Room k X.A) (hx : Passes (L2.CX X.prog X.w) X E) : OpR X (compareOp .Eq) (rBinO C sp E) := by
  obtain ⟨g, M, F⟩ := O.fnR
  exact op_cmpO (op := .Eq) (fun _ _ => rfl) M.at_ M.fn F hr hx
theorem op_inM (O : OwnM X.prog X.w X.K X.mg X.base C "__contains__" k ps sp) (hr : Room k X.A) (hx : Passes (L2.CX X.prog X.w) X E) : OpR X (compareOp .In) (rInO C sp E) := by
  obtain ⟨g, M, F⟩ := O.fnR
  exact op_inO M.at_ M.fn F hr hx
end
/-! ### types stay -/
theorem TyX.same {K : PySem.W.Frag} {H H' : Hp} {v : V} {t : Value} (h : TyX K H v t) (s : Same H H') : TyX K H' v t := by
  cases h with
  | base b =>
    refine .base ?_
    cases b with
    | non => exact .non
    | bl x => exact .bl x
    | int i => exact .int i
    | str x => exact .str x
    | flt x => exact .flt x
    | lst e => exact .lst (s _ _ e)
    | frz e => exact .frz (s _ _ e)
    | tup e => exact .tup (s _ _ e)
    | dK e => exact .dK (s _ _ e)
    | dT e => exact .dT (s _ _ e)
    | ins e cl ha hn htk hm => exact .ins (s _ _ e) cl ha hn htk hm
  | byt b => exact .byt b
  | set e => exact .set (s _ _ e)
  | kList e c => exact .kList e c
  | kTuple e c => exact .kTuple e c
  | kDict e c => exact .kDict e c
  | fTuple e => exact .fTuple (s _ _ e)
  | fDict e => exact .fDict (s _ _ e)
/-! ### tuple([f(u, v) for u, v in zip(x, y)]) -/
theorem lc_zw {K : PySem.W.Frag} {f : Int → Int → Int} {a b : Addr} {x y : List Int} {g : TG} {te : TE} {vs : List Nat} {σ : L2.St} {H : Hp} {D : Addr} {Qd : Hp → Prop} (hD : H D = none) (hA : SqT K H a (x.map V.int)) (hB : SqT K H b (y.map V.int)) (hl : x.length = y.length) (h1 : x.length ≤ 1000)
    (hel : ∀ (u v : Int) (T : Addr) (H' : Hp) (Q : VK), Same H H' → u ∈ x → v ∈ y → H' T = some (.tup [.int u, .int v]) → Q (.int (f u v)) H' → g (.ref T) (wipe σ vs) H' fun σ2 H2 => wipe σ2 vs = wipe σ vs ∧ te σ2 H2 Q)
    (q : ∀ H', Same H H' → H' D = some (.lst ((List.zipWith f x y).map V.int)) → Qd H') (mono : ∀ (T : Addr) (σ : L2.St) (H' : Hp) (A B : L2.St → Hp → Prop), (∀ σ H, A σ H → B σ H) → g (.ref T) σ H' A → g (.ref T) σ H' B) : LcW (ItzT K a b) g tYes te vs σ H D Qd := by
  refine lc_zipT (K := K) (xs := x.map V.int) (ys := y.map V.int) (by rw [List.length_map, List.length_map]; exact hl) (fun i H' => Same H H' ∧ H' D = some (.lst (((List.zipWith f x y).take i).map V.int)))
      ⟨same_upd hD, upd_same⟩ (fun i H' hP => ⟨same_tup hP.1 hA, same_tup hP.1 hB⟩) ?_ ?_
  · rintro i u v T H' hu hv ⟨sm, eD⟩ hT
    obtain ⟨u, rfl, hu'⟩ := int_at hu
    obtain ⟨v, rfl, hv'⟩ := int_at hv
    have sT := same_upd (o := .tup [V.int u, V.int v]) hT
    refine mono _ _ _ _ _ (fun σ2 H2 h => ⟨h.1, all_in h.2⟩) (hel u v T _ (fun z H4 => ∃ acc, H4 D = some (.lst acc) ∧ acc.length < sizeLine ∧ Same H (upd H4 D (.lst (acc ++ [z]))) ∧ upd H4 D (.lst (acc ++ [z])) D = some (.lst (((List.zipWith f x y).take (i + 1)).map V.int))) (sm.trans sT) (List.mem_of_getElem? hu') (List.mem_of_getElem? hv') upd_same ?_)
    refine ⟨_, sT _ _ eD, ?_, ?_, ?_⟩
    · rw [List.length_map, List.length_take]
      refine small1000 (Nat.le_trans (Nat.min_le_right _ _) ?_)
      rw [List.length_zipWith]
      omega
    · intro b o e
      rw [upd_ne (ne_of_none e hD)]
      exact sT _ _ (sm _ _ e)
    · rw [upd_same, zip_take hu' hv', List.map_append]
      rfl
  · rintro H' ⟨sm, eD⟩
    have el : (List.zipWith f x y).take (x.map V.int).length = List.zipWith f x y := List.take_of_length_le (by rw [List.length_zipWith, List.length_map]; omega)
    rw [el] at eD
    exact q H' sm eD
theorem gTup2_mono {K : PySem.W.Frag} {n i j : Nat} (T : Addr) (σ : L2.St) (H' : Hp) (A B : L2.St → Hp → Prop) (h : ∀ σ H, A σ H → B σ H) (hg : gTup K n (gCons (gName i) (gCons (gName j) gNil)) (.ref T) σ H' A) : gTup K n (gCons (gName i) (gCons (gName j) gNil)) (.ref T) σ H' B := by
  obtain ⟨a, xs, e, hq, hl, x, r, er, y, r2, er2, e3, q⟩ := hg
  exact ⟨a, xs, e, hq, hl, x, r, er, y, r2, er2, e3, h _ _ q⟩
/-! ### Bags -/
def mkB : PyData → Bool
  | .tuple ds => decide (1 ≤ ds.length) && decide (ds.length ≤ 4) && ds.all nn
  | _ => false
/-- a Bag at a with its tuple at t -/
structure Bg (C : Addr) (H : Hp) (a t : Addr) (b : List Int) : Prop where
  ins : ∃ dx, H a = some (.ins C dx [("held", .ref t)])
  tup : H t = some (.tup (b.map V.int))
theorem Bg.same {C : Addr} {H H' : Hp} {a t : Addr} {b : List Int} (h : Bg C H a t b) (s : Same H H') : Bg C H' a t b := ⟨let ⟨dx, e⟩ := h.ins; ⟨dx, s _ _ e⟩, s _ _ h.tup⟩
structure BgOk (b : List Int) : Prop where
  one : 1 ≤ b.length
  four : b.length ≤ 4
  nn : ∀ x ∈ b, 0 ≤ x
theorem mkB_ok {b : List Int} (h : BgOk b) : mkB (bagD b) = true := by
  show (decide (1 ≤ (b.map PyData.int).length) && decide ((b.map PyData.int).length ≤ 4) && (b.map PyData.int).all Lb.nn) = true
  rw [List.length_map, decide_eq_true h.one, decide_eq_true h.four, Bool.true_and, Bool.true_and]
  refine List.all_eq_true.mpr fun d hd => ?_
  obtain ⟨x, hx, rfl⟩ := List.mem_map.mp hd
  exact decide_eq_true (h.nn x hx)
/-- what the text has of the class -/
structure BagC (K : PySem.W.Frag) (mg : Str → Option Value) (C : Addr) : Prop where
  cl : Cls K C
  no : NoAttr K C "held"
  fst : PySem.W.selfFirst K C = true
  gB : mg "Bag" = some (.ref C)
  ca : PySem.W.findIn K (.ref C) "__class__" = some (some (.builtin "object.__class__"))
  cn : PySem.W.specialIn K (.builtin "object.__class__") "__get__" = some (some (.builtin "getset_descriptor.__get__"))
  ct : PySem.W.takesIn K (.builtin "object.__class__") = some true
  cm : PySem.W.mroIn K C (.type "object") = some true
  ks : PySem.W.kitOne K (.ref C) (.ref C) = some true
  lim : ∃ mc u, ClX.CRead K C mc ∧ ClX.CVal K C mc "LIMIT" (.int 4) u
  mkI : PySem.W.makesIn K C = true
  kp : PySem.W.keepIn K (.ref C) = true
theorem BagC.ty {K : PySem.W.Frag} {mg : Str → Option Value} {C : Addr} (c : BagC K mg C) {H : Hp} {a dx : Addr} {fs : List (Str × V)} (e : H a = some (.ins C dx fs)) : TyX K H (.ref a) (.ref C) := .base (.ins e c.cl c.ca c.cn c.ct c.cm)
/-- a value that is not of the class -/
def NotC (K : PySem.W.Frag) (C : Addr) (H : Hp) (v : V) : Prop := ∃ ty, TyX K H v ty ∧ PySem.W.kitOne K ty (.ref C) = some false
def NotT (K : PySem.W.Frag) (H : Hp) (v : V) : Prop := ∃ ty, TyX K H v ty ∧ PySem.W.kitOne K ty (.type "tuple") = some false
theorem NotC.same {K : PySem.W.Frag} {C : Addr} {H H' : Hp} {v : V} (h : NotC K C H v) (s : Same H H') : NotC K C H' v := let ⟨t, a, b⟩ := h; ⟨t, Lb.TyX.same a s, b⟩
theorem NotT.same {K : PySem.W.Frag} {H H' : Hp} {v : V} (h : NotT K H v) (s : Same H H') : NotT K H' v := let ⟨t, a, b⟩ := h; ⟨t, Lb.TyX.same a s, b⟩
/-- what a Bag may be made of -/
def spMk (K : PySem.W.Frag) (C CB : Addr) : Sp := fun vs H Q E => ∃ v, vs = [v] ∧
  ((∃ (R : Rgn) (ds : List PyData), Dat R H v (.tuple ds) ∧ ds.length ≤ 1000 ∧ (mkB (.tuple ds) = true → ∀ (H' : Hp) (x dx : Addr), Same H H' → H x = none → H' x = some (.ins C dx [("held", v)]) → Q (.ref x) H') ∧ (mkB (.tuple ds) = false → ∀ H', Same H H' → E (.ref CB) none H')) ∨
    (NotT K H v ∧ ∀ H', Same H H' → E (.ref CB) none H'))
def spInit (K : PySem.W.Frag) (C CB : Addr) : Sp := fun vs H Q E => ∃ (x dx : Addr) (v : V), vs = [.ref x, v] ∧ H x = some (.ins C dx []) ∧
  ((∃ (R : Rgn) (ds : List PyData), Dat R H v (.tuple ds) ∧ ds.length ≤ 1000 ∧ (mkB (.tuple ds) = true → ∀ (H' : Hp), Same H H' → Q .non (upd H' x (.ins C dx [("held", v)]))) ∧ (mkB (.tuple ds) = false → ∀ H', Same H H' → E (.ref CB) none H')) ∨
    (NotT K H v ∧ ∀ H', Same H H' → E (.ref CB) none H'))
/-- Bag(e) -/
def tBag (K : PySem.W.Frag) (C CB : Addr) (E : XK) (t : TA) : TE := fun σ H Q => t σ H fun vs H1 => spMk K C CB vs H1 Q E
theorem pe_bagX {X : Cx} {C CB : Addr} {k : Nat} {E : XK} {e : Expr} {ta : TA} {p pos : Pos} (c : BagC X.K X.mg C) (O : OwnM X.prog X.w X.K X.mg X.base C "__init__" k ["self", "amounts"] (spInit X.K C CB)) (hr : Room (k + 1) X.A) (hx : Passes (L2.CX X.prog X.w) X E) (hg : Gl X "Bag") (ha : PA X [e] ta)
    (he : starEach [e] X.env = (false, eval e X.env) :: starEach [] X.env := by rfl) (hpl : (backTo pos (starEach [] X.env)).any (·.1) = false := by rfl) : PE X (.Call (.Name "Bag" p) [e] [] pos) (tBag X.K C CB E ta) := by
  obtain ⟨f, fd, M, F, b⟩ := O.ex
  refine ⟨fun pins s σ H Q I h => ?_⟩
  refine wpAny_Call_Name_kw (ld_glob I hg c.gB ?_ (by decide))
  refine PySem.W.callWith_K (h₀ := X.base) I.ok.mod.kin c.kp (thn (ha.run pos pins s σ H _ I h) fun us s1 ⟨vs, H1, I1, r1, q1⟩ => ⟨I1.kIn, ?_⟩) he hpl
  refine run_make (E := E) (dvs := []) ⟨c.mkI, M.at_, M.fn, c.kp⟩ F hr b .nil hx I1 r1 fun x dx nx ndx ne => ?_
  obtain ⟨v, rfl, q⟩ := q1
  have s2 : Same H1 (upd (upd H1 dx (.own x)) x (.ins C dx [])) := fun b o e => by
    rw [upd_ne (ne_of_none e nx), upd_ne (ne_of_none e ndx)]
    exact e
  have keep : ∀ {H' : Hp}, Same (upd (upd H1 dx (.own x)) x (.ins C dx [])) H' → Same H1 (upd H' x (.ins C dx [("held", v)])) := fun {H'} sm b o e => by
    rw [upd_ne (ne_of_none e nx)]
    exact sm _ _ (s2 _ _ e)
  refine ⟨x, dx, v, rfl, upd_same, ?_⟩
  rcases q with ⟨R, ds, hd, hl, q1, q2⟩ | ⟨hn, q2⟩
  · exact .inl ⟨R, ds, hd.same s2, hl, fun hm H' sm => ⟨rfl, q1 hm _ x dx (keep sm) nx upd_same⟩, fun hm H' sm => q2 hm H' (s2.trans sm)⟩
  · exact .inr ⟨hn.same s2, fun H' sm => q2 H' (s2.trans sm)⟩
end Lb
set_option Elab.async false
set_option linter.all false
set_option maxRecDepth 100000
set_option maxHeartbeats 4000000
namespace Lb
open PySem PySem.Spec PyProof.Rows L2 RZ TL
def lackN : List Int → List Int → Nat → Option Nat
  | x :: xs, y :: ys, k => if x < y then some k else lackN xs ys (k + 1)
  | _, _, _ => none
abbrev maxI (a b : Int) : Int := if b > a then b else a
abbrev minI (a b : Int) : Int := if b < a then b else a
theorem lackN_cons (x y : Int) (xs ys : List Int) (k : Nat) : lackN (x :: xs) (y :: ys) k = if x < y then some k else lackN xs ys (k + 1) := rfl
theorem lackN_none : ∀ {x y : List Int} {k : Nat}, x.length = y.length → lackN x y k = none → ∀ z ∈ List.zipWith (· - ·) x y, 0 ≤ z
  | [], [], _, _, _ => fun z hz => absurd hz List.not_mem_nil
  | x :: xs, y :: ys, k, hl, h => fun z hz => by
    rw [lackN_cons] at h
    by_cases hlt : x < y
    · rw [if_pos hlt] at h
      cases h
    · rw [if_neg hlt] at h
      rw [List.zipWith_cons_cons] at hz
      rcases List.mem_cons.mp hz with rfl | hz
      · show 0 ≤ x - y
        omega
      · exact lackN_none (by simpa using hl) h z hz
def spLack (K : PySem.W.Frag) : Sp := fun vs H Q _ => ∃ (a b : Addr) (x y : List Int), vs = [.ref a, .ref b] ∧ SqT K H a (x.map V.int) ∧ SqT K H b (y.map V.int) ∧ x.length = y.length ∧ x.length ≤ 1000 ∧ ∀ H', Same H H' → Q (optN (lackN x y 0)) H'
def spZw (f : Int → Int → Int) (K : PySem.W.Frag) : Sp := fun vs H Q _ => ∃ (a b : Addr) (x y : List Int), vs = [.ref a, .ref b] ∧ SqT K H a (x.map V.int) ∧ SqT K H b (y.map V.int) ∧ x.length = y.length ∧ x.length ≤ 1000 ∧
  ∀ (H' : Hp) (p : Addr), Same H H' → H p = none → H' p = some (.tup ((List.zipWith f x y).map V.int)) → Q (.ref p) H'
/-- is_whole of any value -/
def spWholeX (K : PySem.W.Frag) : Sp := fun vs H Q _ => ∃ (v : V) (ty : Value) (b1 b2 : Bool), vs = [v] ∧ TyX K H v ty ∧ PySem.W.kitOne K ty (.type "int") = some b1 ∧ PySem.W.kitOne K ty (.type "bool") = some b2 ∧ Q (.bl (b1 && !b2)) H
theorem whole_imp {K : PySem.W.Frag} : ∀ (vs : List V) (H : Hp) (Q : VK) (E : XK), spWhole vs H Q E → spWholeX K vs H Q E := by
  rintro vs H Q E ⟨R, v, d, rfl, dt, q⟩
  rw [whole_eq] at q
  exact ⟨v, _, _, _, rfl, dat_ty dt, kit_ty (kit_int d), kit_ty (kit_bool d), q⟩
/-- is_bag of tuples, by their length -/
def spIsBagL : Sp := fun vs H Q _ => ∃ (R : Rgn) (v : V) (g : Int) (ds : List PyData), vs = [.int g, v] ∧ Dat R H v (.tuple ds) ∧ ds.length ≤ 1000 ∧ ∀ H', Same H H' → Q (.bl (bagB g (.tuple ds))) H'
/-- the other operand: a Bag, or not of the class -/
def Opd (K : PySem.W.Frag) (C : Addr) (H : Hp) (y : V) (yes : Addr → Addr → List Int → Prop) (no : Prop) : Prop := (∃ b s z, y = .ref b ∧ Bg C H b s z ∧ BgOk z ∧ yes b s z) ∨ (NotC K C H y ∧ no)
def spIsLike (K : PySem.W.Frag) (C : Addr) : Sp := fun vs H Q _ => ∃ (a t : Addr) (x : List Int) (y : V), vs = [.ref a, y] ∧ Bg C H a t x ∧ Opd K C H y (fun b s z => Q (.bl (decide (z.length = x.length))) H) (Q (.bl false) H)
def spAmtsOf (K : PySem.W.Frag) (C CB : Addr) : Sp := fun vs H Q E => ∃ (a t : Addr) (x : List Int) (y : V), vs = [.ref a, y] ∧ Bg C H a t x ∧
  Opd K C H y (fun b s z => (z.length = x.length → Q (.ref s) H) ∧ (z.length ≠ x.length → E (.ref CB) none H)) (E (.ref CB) none H)
def spAmt (C : Addr) : Sp := fun vs H Q _ => ∃ (a t : Addr) (x : List Int), vs = [.ref a] ∧ Bg C H a t x ∧ Q (.ref t) H
/-- a new Bag with these amounts is handed out -/
def Out (C : Addr) (H : Hp) (Q : VK) (b : List Int) : Prop := ∀ (H' : Hp) (p u : Addr), Same H H' → H p = none → Bg C H' p u b → Q (.ref p) H'
def spBin (f : Int → Int → Int) (K : PySem.W.Frag) (C CB : Addr) : Sp := fun vs H Q E => ∃ (a t : Addr) (x : List Int) (y : V), vs = [.ref a, y] ∧ Bg C H a t x ∧ BgOk x ∧
  Opd K C H y (fun b s z => (z.length = x.length → Out C H Q (List.zipWith f x z)) ∧ (z.length ≠ x.length → ∀ H', Same H H' → E (.ref CB) none H')) (∀ H', Same H H' → E (.ref CB) none H')
def spSub (K : PySem.W.Frag) (C CB CL : Addr) : Sp := fun vs H Q E => ∃ (a t : Addr) (x : List Int) (y : V), vs = [.ref a, y] ∧ Bg C H a t x ∧ BgOk x ∧
  Opd K C H y (fun b s z => (z.length = x.length → (lackN x z 0 = none → Out C H Q (List.zipWith (· - ·) x z)) ∧ (∀ k : Nat, lackN x z 0 = some k → ∀ (H' : Hp) (dd : Addr), Same H H' → H dd = none → H' dd = some (.xd [("good", .int (k : Int))]) → E (.ref CL) (some dd) H')) ∧
    (z.length ≠ x.length → ∀ H', Same H H' → E (.ref CB) none H')) (∀ H', Same H H' → E (.ref CB) none H')
def spMul (K : PySem.W.Frag) (C CT : Addr) : Sp := fun vs H Q E => ∃ (a t : Addr) (x : List Int) (v : V) (ty : Value) (b1 b2 : Bool), vs = [.ref a, v] ∧ Bg C H a t x ∧ BgOk x ∧ TyX K H v ty ∧ PySem.W.kitOne K ty (.type "int") = some b1 ∧ PySem.W.kitOne K ty (.type "bool") = some b2 ∧
  (((b1 && !b2) = true ∧ ∃ n : Int, v = .int n ∧ n ≤ 1000 ∧ (0 ≤ n → Out C H Q (x.map (· * n))) ∧ (n < 0 → ∀ (H' : Hp) (dd : Addr), Same H H' → H dd = none → H' dd = some (.xd [("value", v)]) → E (.ref CT) (some dd) H')) ∨
    ((b1 && !b2) = false ∧ ∀ (H' : Hp) (dd : Addr), Same H H' → H dd = none → H' dd = some (.xd [("value", v)]) → E (.ref CT) (some dd) H'))
def spCont (K : PySem.W.Frag) (C : Addr) : Sp := fun vs H Q _ => ∃ (a t : Addr) (x : List Int) (y : V), vs = [.ref a, y] ∧ Bg C H a t x ∧ BgOk x ∧ Opd K C H y (fun b s z => ∀ H', Same H H' → Q (.bl (decide (z.length = x.length) && geB x z)) H') (∀ H', Same H H' → Q (.bl false) H')
def spEq (K : PySem.W.Frag) (C : Addr) : Sp := fun vs H Q _ => ∃ (a t : Addr) (x : List Int) (y : V), vs = [.ref a, y] ∧ Bg C H a t x ∧ BgOk x ∧ Opd K C H y (fun b s z => Q (.bl (decide (x = z))) H) (Q (.bl false) H)
/-- e.amounts -/
structure PropM (P : Program) (w : World) (K : PySem.W.Frag) (mg : Str → Option Value) (base : Heap) (C : Addr) (f : Str) (k : Nat) (sp : Sp) : Prop where
  ex : ∃ (p g : Addr) (fd : FuncData), PropOf K C f p g ∧ FnOk P w K mg base (L2.CX P w) k g fd ["self"] sp ∧ Binds K fd ["self"] []
theorem passN0 {X : Cx} : Passes (L2.CX X.prog X.w) X.nox L2.E0 := passX0 (X := X.nox)
theorem pe_amt {X : Cx} {C : Addr} {k : Nat} {e : Expr} {ta : TE} {pos : Pos} (c : BagC X.K X.mg C) (O : PropM X.prog X.w X.K X.mg X.base C "amounts" k (spAmt C)) (hr : Room (k + 1) X.A) (he : PE X e ta) (hab : attributeBase e "amounts" X.env (eval e X.env) = eval e X.env := by rfl) :
    PE X (.Attribute e "amounts" pos) (tProp C (spAmt C) [] L2.E0 ta) := by
  obtain ⟨p, g, fd, hp, F, b⟩ := O.ex
  exact pe_prop he c.cl hp F hr b .nil passN0 hab
end Lb
namespace Lb
open PySem PySem.Spec PyProof.Rows L2 RZ TL
/-! ### draws below great numbers -/
def spDrawW : Sp := fun vs H Q _ => ∃ (d c r : Addr) (n m : Nat), vs = [.ref d, .int (m : Int)] ∧ Dk H d c r n ∧ n < 2 ^ 40 ∧ 0 < m ∧ m < 2 ^ 100 ∧ ∀ (H' : Hp) (v : Nat), v < m → Dk H' d c r (n + 1) → Kp d r H H' → Q (.int (v : Int)) H'
theorem drawW_imp : ∀ (vs : List V) (H : Hp) (Q : VK) (E : XK), spDraw vs H Q E → spDrawW vs H Q E := by
  rintro vs H Q E ⟨d, c, r, n, m, e, dk, h1, h2, h3, q⟩
  exact ⟨d, c, r, n, m, e, dk, h1, h2, Nat.lt_trans h3 (by decide), q⟩
def spBagW : Sp := fun vs H Q _ => ∃ (d c r : Addr) (n g m : Nat), vs = [.ref d, .int (g : Int), .int (m : Int)] ∧ Dk H d c r n ∧ n < 2 ^ 38 ∧ g ≤ 1000 ∧ m < 2 ^ 99 ∧
  ∀ (H' : Hp) (p : Addr) (b : List Int), b.length = g → (∀ x ∈ b, 0 ≤ x ∧ x ≤ (m : Int)) → H p = none → H' p = some (.tup (b.map V.int)) → Dk H' d c r (n + g) → Kp d r H H' → Q (.ref p) H'
end Lb
set_option Elab.async false
set_option linter.all false
set_option maxRecDepth 100000
set_option maxHeartbeats 4000000
namespace Lb
open PySem PySem.Spec PyProof.Rows L2 RZ TL
theorem amt_okW {x : Int} (h0 : 0 ≤ x) (h1 : x < 10 ^ 30) : Ok 32 0 (.int x) := by
  obtain ⟨n, rfl⟩ : ∃ n : Nat, x = (n : Int) := ⟨x.toNat, by omega⟩
  have hn : n < 10 ^ 30 := by omega
  have h2 := numL_short 29 n hn
  rw [← tl_num] at h2
  have h3 : (Str.ofString (toString ((n : Nat) : Int))).length ≤ 30 := h2
  refine ⟨?_, ?_, by rw [PyData.depth]; exact Nat.le_refl _⟩
  · rw [fine]
    refine decide_eq_true ?_
    show n.log2 < 1920
    by_cases h : n = 0
    · subst h
      decide
    · exact Nat.lt_trans ((Nat.log2_lt (k := 100) h).mpr (show n < 2 ^ 100 by omega)) (by decide)
  · rw [wt, PyData.shown]
    omega
def AmtsW (b : List Int) : Prop := ∀ x ∈ b, 0 ≤ x ∧ x < 10 ^ 30
theorem ints_okW : ∀ {b : List Int}, AmtsW b → Oks (34 * b.length) 0 (b.map PyData.int)
  | [], _ => ⟨fun _ z => absurd z List.not_mem_nil, Nat.le_refl _, fun _ z => absurd z List.not_mem_nil⟩
  | x :: b, h => by
    have h1 := (Oks.one (amt_okW (h x List.mem_cons_self).1 (h x List.mem_cons_self).2)).append (ints_okW (b := b) fun y hy => h y (List.mem_cons_of_mem _ hy))
    exact h1.mono (by rw [List.length_cons]; omega) (Nat.le_refl _)
theorem bag_okW {b : List Int} (h : AmtsW b) (hl : b.length ≤ 4) : Ok 140 1 (bagD b) := (ints_okW h).tuple.mono (by omega) (Nat.le_refl _)
/-! ### what is lacking, what is left -/
theorem lackN_get : ∀ {x y : List Int} {k n : Nat}, x.length = y.length → lackN x y k = some n → k ≤ n ∧ ∃ u v, x[n - k]? = some u ∧ y[n - k]? = some v ∧ u < v ∧ ∀ j u' v', j < n - k → x[j]? = some u' → y[j]? = some v' → ¬ u' < v'
  | [], _, k, n, _, h => by cases h
  | _ :: _, [], k, n, hl, h => by cases h
  | x :: xs, y :: ys, k, n, hl, h => by
    rw [lackN_cons] at h
    by_cases hlt : x < y
    · rw [if_pos hlt] at h
      obtain rfl := Option.some.inj h
      refine ⟨Nat.le_refl _, x, y, by rw [Nat.sub_self]; rfl, by rw [Nat.sub_self]; rfl, hlt, fun j u' v' hj => ?_⟩
      omega
    · rw [if_neg hlt] at h
      obtain ⟨h1, u, v, e1, e2, h3, h4⟩ := lackN_get (by simpa using hl) h
      have e : n - k = (n - (k + 1)) + 1 := by omega
      refine ⟨by omega, u, v, by rw [e]; exact e1, by rw [e]; exact e2, h3, fun j u' v' hj g1 g2 => ?_⟩
      cases j with
      | zero =>
        cases g1
        cases g2
        exact hlt
      | succ j => exact h4 j u' v' (by omega) g1 g2
theorem lackN_ge : ∀ {x y : List Int} (k : Nat), x.length = y.length → (∀ z ∈ List.zipWith (· - ·) x y, 0 ≤ z) → lackN x y k = none
  | [], [], _, _, _ => rfl
  | x :: xs, y :: ys, k, hl, h => by
    rw [lackN_cons, if_neg]
    · exact lackN_ge (k + 1) (by simpa using hl) fun z hz => h z (by rw [List.zipWith_cons_cons]; exact List.mem_cons_of_mem _ hz)
    · have := h (x - y) (by rw [List.zipWith_cons_cons]; exact List.mem_cons_self)
      omega
/-- a third list of sums by places -/
theorem zw_eq {f g : Int → Int → Int} : ∀ {x y : List Int}, (∀ u ∈ x, ∀ v ∈ y, f u v = g u v) → List.zipWith f x y = List.zipWith g x y
  | [], _, _ => by rw [List.zipWith_nil_left, List.zipWith_nil_left]
  | _ :: _, [], _ => by rw [List.zipWith_nil_right, List.zipWith_nil_right]
  | x :: xs, y :: ys, h => by
    rw [List.zipWith_cons_cons, List.zipWith_cons_cons, h x List.mem_cons_self y List.mem_cons_self, zw_eq (x := xs) (y := ys) fun u hu v hv => h u (List.mem_cons_of_mem _ hu) v (List.mem_cons_of_mem _ hv)]
theorem zw_comp {f g h : Int → Int → Int} : ∀ {x y : List Int}, x.length = y.length → List.zipWith h (List.zipWith f x y) (List.zipWith g x y) = List.zipWith (fun u v => h (f u v) (g u v)) x y
  | [], [], _ => rfl
  | x :: xs, y :: ys, hl => by
    rw [List.zipWith_cons_cons, List.zipWith_cons_cons, List.zipWith_cons_cons, List.zipWith_cons_cons, zw_comp (by simpa using hl)]
theorem zw_left : ∀ {x y : List Int}, x.length = y.length → List.zipWith (fun u _ => u) x y = x
  | [], [], _ => rfl
  | x :: xs, y :: ys, hl => by rw [List.zipWith_cons_cons, zw_left (by simpa using hl)]
theorem zw_right : ∀ {x y : List Int}, x.length = y.length → List.zipWith (fun _ v => v) x y = y
  | [], [], _ => rfl
  | x :: xs, y :: ys, hl => by rw [List.zipWith_cons_cons, zw_right (by simpa using hl)]
theorem plus_less {x y : List Int} (hl : x.length = y.length) : List.zipWith (· - ·) (List.zipWith (· + ·) x y) y = x := by
  have h1 := zw_comp (f := (· + ·)) (g := fun _ v => v) (h := (· - ·)) hl
  rw [zw_right hl] at h1
  rw [h1, zw_eq (g := fun u _ => u) (fun u _ v _ => by show u + v - v = u; omega), zw_left hl]
theorem max_less {x y : List Int} (hl : x.length = y.length) : ∀ z ∈ List.zipWith (· - ·) (List.zipWith maxI x y) (List.zipWith minI x y), 0 ≤ z := by
  rw [zw_comp hl]
  intro z hz
  obtain ⟨u, _, v, _, rfl⟩ := mem_zip hz
  show 0 ≤ (if v > u then v else u) - (if v < u then v else u)
  split <;> split <;> omega
theorem max_back {x y : List Int} (hl : x.length = y.length) : List.zipWith (· + ·) (List.zipWith (· - ·) (List.zipWith maxI x y) (List.zipWith minI x y)) (List.zipWith minI x y) = List.zipWith maxI x y := by
  rw [zw_comp hl, zw_comp hl]
  exact zw_eq fun u _ v _ => by show maxI u v - minI u v + minI u v = maxI u v; omega
/-! ### (x - y).amounts, or what is lacking -/
def spRest (C : Addr) : Sp := fun vs H Q _ => ∃ (a t b s : Addr) (x y : List Int), vs = [.ref a, .ref b] ∧ Bg C H a t x ∧ Bg C H b s y ∧ BgOk x ∧ BgOk y ∧ y.length = x.length ∧
  (lackN x y 0 = none → ∀ (H' : Hp) (p : Addr), Same H H' → H' p = some (.tup ((List.zipWith (· - ·) x y).map V.int)) → Q (.ref p) H') ∧
  (∀ k : Nat, lackN x y 0 = some k → ∀ (H' : Hp) (p : Addr), Same H H' → H p = none → H' p = some (.lst [.str "lacking", .int (k : Int)]) → Q (.ref p) H')
/-- what x * i asks of the text, besides __mul__ -/
structure MulI (K : PySem.W.Frag) (C : Addr) : Prop where
  r : PySem.W.findIn K (.ref C) "__rmul__" = some none
  f : ∃ fo, PySem.W.findIn K (.type "int") "__mul__" = some fo
  g : ∃ ro, PySem.W.findIn K (.type "int") "__rmul__" = some ro
  s : PySem.W.subIn K (.type "int") (.ref C) = some false
theorem op_mulM {X : Cx} {C : Addr} {k : Nat} {ps : List Str} {sp : Sp} {E : XK} (O : OwnM X.prog X.w X.K X.mg X.base C "__mul__" k ps sp) (hc : PySem.W.selfFirst X.K C = true) (I : MulI X.K C) (hr : Room k X.A) (hx : Passes (L2.CX X.prog X.w) X E) : OpR X (binaryOp .Mult) (rBinI C sp E) := by
  obtain ⟨g, M, F⟩ := O.fnR
  obtain ⟨fo, h1⟩ := I.f
  obtain ⟨ro, h2⟩ := I.g
  exact op_binI (op := .Mult) hc M.at_ M.fn I.r (.inl rfl) h1 h2 I.s F hr hx
end Lb
set_option Elab.async false
set_option linter.all false
set_option maxRecDepth 100000
set_option maxHeartbeats 4000000
namespace Lb
open PySem PySem.Spec PyProof.Rows L2 RZ TL
theorem kp_obj {H H' : Hp} {d c r p : Addr} {n : Nat} {o : HO} (k : Kp d r H H') (dk : Dk H d c r n) (e : H p = some o) (ne : ∀ xs, o ≠ .lst xs) : H' p = some o := by
  obtain ⟨_, _, _, _, _, _, _, _, _, _, w1, _, w3⟩ := dk
  refine k p o (fun z => ?_) (fun z => ?_) e
  · rw [z, w1] at e
    exact ne _ (Option.some.inj e).symm
  · rw [z, w3] at e
    exact ne _ (Option.some.inj e).symm
theorem nd_obj {H : Hp} {d c r p : Addr} {n : Nat} {o : HO} (dk : Dk H d c r n) (e : H p = some o) (ne : ∀ xs, o ≠ .lst xs) : p ≠ d ∧ p ≠ r := by
  obtain ⟨_, _, _, _, _, _, _, _, _, _, w1, _, w3⟩ := dk
  refine ⟨fun z => ?_, fun z => ?_⟩
  · rw [z, w1] at e
    exact ne _ (Option.some.inj e).symm
  · rw [z, w3] at e
    exact ne _ (Option.some.inj e).symm
theorem Bg.kp {C : Addr} {H H' : Hp} {d c r : Addr} {n : Nat} {a t : Addr} {b : List Int} (h : Bg C H a t b) (k : Kp d r H H') (dk : Dk H d c r n) : Bg C H' a t b :=
  ⟨let ⟨dx, e⟩ := h.ins; ⟨dx, kp_obj k dk e fun _ z => nomatch z⟩, kp_obj k dk h.tup fun _ z => nomatch z⟩
section
variable {K : PySem.W.Frag} {C CB CL CT : Addr} {H : Hp} {a t b s : Addr} {x z : List Int} {Q : VK} {E : XK}
theorem rd_bin {f : Int → Int → Int} (ha : Bg C H a t x) (hb : Bg C H b s z) (xok : BgOk x) (zok : BgOk z) (hl : z.length = x.length) (q : Out C H Q (List.zipWith f x z)) : rBinO C (spBin f K C CB) E (.ref a) (.ref b) H Q := by
  obtain ⟨dx, ea⟩ := ha.ins
  obtain ⟨dy, eb⟩ := hb.ins
  exact ⟨a, dx, _, b, dy, _, rfl, rfl, ea, eb, a, t, x, _, rfl, ha, xok, .inl ⟨b, s, z, rfl, hb, zok, fun _ => q, fun hne => absurd hl hne⟩⟩
theorem rd_sub (ha : Bg C H a t x) (hb : Bg C H b s z) (xok : BgOk x) (zok : BgOk z) (hl : z.length = x.length) (hk : lackN x z 0 = none) (q : Out C H Q (List.zipWith (· - ·) x z)) : rBinO C (spSub K C CB CL) E (.ref a) (.ref b) H Q := by
  obtain ⟨dx, ea⟩ := ha.ins
  obtain ⟨dy, eb⟩ := hb.ins
  exact ⟨a, dx, _, b, dy, _, rfl, rfl, ea, eb, a, t, x, _, rfl, ha, xok, .inl ⟨b, s, z, rfl, hb, zok, fun _ => ⟨fun _ => q, fun k h => by rw [hk] at h; cases h⟩, fun hne => absurd hl hne⟩⟩
theorem rd_eq (ha : Bg C H a t x) (hb : Bg C H b s z) (xok : BgOk x) (zok : BgOk z) (q : Q (.bl (decide (x = z))) H) : rBinO C (spEq K C) E (.ref a) (.ref b) H Q := by
  obtain ⟨dx, ea⟩ := ha.ins
  obtain ⟨dy, eb⟩ := hb.ins
  exact ⟨a, dx, _, b, dy, _, rfl, rfl, ea, eb, a, t, x, _, rfl, ha, xok, .inl ⟨b, s, z, rfl, hb, zok, q⟩⟩
theorem rd_in (ha : Bg C H a t x) (hb : Bg C H b s z) (xok : BgOk x) (zok : BgOk z) (hl : z.length = x.length) (q : ∀ H', Same H H' → Q (.bl (geB x z)) H') : rInO C (spCont K C) E (.ref b) (.ref a) H Q := by
  obtain ⟨dx, ea⟩ := ha.ins
  refine ⟨a, dx, _, rfl, ea, a, t, x, _, rfl, ha, xok, .inl ⟨b, s, z, rfl, hb, zok, fun H' sm => ⟨_, rfl, ?_⟩⟩⟩
  rw [decide_eq_true hl, Bool.true_and]
  exact q H' sm
theorem rd_mul {n : Nat} (ha : Bg C H a t x) (xok : BgOk x) (hn : n ≤ 1000) (q : Out C H Q (x.map (· * (n : Int)))) : rBinI C (spMul K C CT) E (.ref a) (.int (n : Int)) H Q := by
  obtain ⟨dx, ea⟩ := ha.ins
  have k1 : PySem.W.kitOne K (.type "int") (.type "int") = some true := kit_ty (by decide +kernel)
  have k2 : PySem.W.kitOne K (.type "int") (.type "bool") = some false := kit_ty (by decide +kernel)
  exact ⟨a, dx, _, _, rfl, rfl, ea, a, t, x, _, _, true, false, rfl, ha, xok, .base (.int _), k1, k2, .inl ⟨rfl, _, rfl, by omega, fun _ => q, fun h => by omega⟩⟩
theorem rd_amt {p u : Addr} {y : List Int} (h : Bg C H p u y) (q : Q (.ref u) H) : ∃ a dx fs, V.ref p = .ref a ∧ H a = some (.ins C dx fs) ∧ spAmt C [.ref a] H Q E := by
  obtain ⟨dn, en⟩ := h.ins
  exact ⟨p, dn, _, rfl, en, p, u, y, rfl, h, q⟩
theorem rd_mk (hd : H t = some (.tup (x.map V.int))) (ok : BgOk x) (q : ∀ (H' : Hp) (p : Addr), Same H H' → H p = none → Bg C H' p t x → Q (.ref p) H') :
    (∃ (R : Rgn) (ds : List PyData), Dat R H (.ref t) (.tuple ds) ∧ ds.length ≤ 1000 ∧ (mkB (.tuple ds) = true → ∀ (H' : Hp) (x dx : Addr), Same H H' → H x = none → H' x = some (.ins C dx [("held", .ref t)]) → Q (.ref x) H') ∧ (mkB (.tuple ds) = false → ∀ H', Same H H' → E (.ref CB) none H')) ∨
      (NotT K H (.ref t) ∧ ∀ H', Same H H' → E (.ref CB) none H') := by
  refine .inl ⟨fun _ => True, _, Dat.mkBag trivial hd, by rw [List.length_map]; have := ok.four; omega, fun _ H3 n dn s3 hn3 e3 => q H3 n s3 hn3 ⟨⟨dn, e3⟩, s3 _ _ hd⟩, fun hm => ?_⟩
  rw [mkB_ok ok] at hm
  cases hm
end
theorem ok_zw {f : Int → Int → Int} {x z : List Int} (xok : BgOk x) (zok : BgOk z) (hl : z.length = x.length) (hf : ∀ u v, 0 ≤ u → 0 ≤ v → 0 ≤ f u v) : BgOk (List.zipWith f x z) := by
  refine ⟨by rw [List.length_zipWith, hl, Nat.min_self]; exact xok.one, by rw [List.length_zipWith, hl, Nat.min_self]; exact xok.four, fun w hw => ?_⟩
  obtain ⟨u, hu, v, hv, rfl⟩ := mem_zip hw
  exact hf u v (xok.nn u hu) (zok.nn v hv)
theorem len_zw {f : Int → Int → Int} {x z : List Int} (hl : z.length = x.length) : (List.zipWith f x z).length = x.length := by rw [List.length_zipWith, hl, Nat.min_self]
theorem amts_zw {f : Int → Int → Int} {x z : List Int} {B D : Int} (hx : ∀ u ∈ x, 0 ≤ u ∧ u ≤ B) (hz : ∀ u ∈ z, 0 ≤ u ∧ u ≤ B) (hf : ∀ u v, 0 ≤ u → u ≤ B → 0 ≤ v → v ≤ B → 0 ≤ f u v ∧ f u v < 10 ^ 30) : AmtsW (List.zipWith f x z) := by
  intro w hw
  obtain ⟨u, hu, v, hv, rfl⟩ := mem_zip hw
  exact hf u v (hx u hu).1 (hx u hu).2 (hz v hv).1 (hz v hv).2
/-! ### the list of what is lacking -/
def lackL (x y : List Int) (i : Nat) : List Int := ((List.range i).filter fun k => decide (x.getD k 0 < y.getD k 0)).map fun (k : Nat) => ((k : Nat) : Int)
theorem lackL_succ (x y : List Int) (i : Nat) : lackL x y (i + 1) = if x.getD i 0 < y.getD i 0 then lackL x y i ++ [((i : Nat) : Int)] else lackL x y i := by
  unfold lackL
  rw [List.range_succ, List.filter_append, List.map_append]
  by_cases h : x.getD i 0 < y.getD i 0
  · rw [if_pos h, List.filter_cons_of_pos (p := fun k => decide (x.getD k 0 < y.getD k 0)) (show decide (x.getD i 0 < y.getD i 0) = true from decide_eq_true h)]
    rfl
  · rw [if_neg h, List.filter_cons_of_neg (by simpa using h)]
    simp
theorem lackL_nil {x y : List Int} : ∀ (i : Nat), (∀ j, j < i → ¬ x.getD j 0 < y.getD j 0) → lackL x y i = []
  | 0, _ => rfl
  | i + 1, h => by
    rw [lackL_succ, if_neg (h i (Nat.lt_succ_self i)), lackL_nil i fun j hj => h j (by omega)]
theorem lackL_head {x y : List Int} {k : Nat} (hk : x.getD k 0 < y.getD k 0) (hb : ∀ j, j < k → ¬ x.getD j 0 < y.getD j 0) : ∀ (i : Nat), k < i → ∃ r, lackL x y i = ((k : Nat) : Int) :: r
  | 0, h => absurd h (Nat.not_lt_zero _)
  | i + 1, h => by
    rw [lackL_succ]
    by_cases e : k = i
    · subst e
      rw [if_pos hk, lackL_nil k hb]
      exact ⟨[], rfl⟩
    · obtain ⟨r, er⟩ := lackL_head hk hb i (by omega)
      rw [er]
      split
      · exact ⟨r ++ [((i : Nat) : Int)], rfl⟩
      · exact ⟨r, rfl⟩
theorem getD_of {x : List Int} {j : Nat} {u : Int} (h : x[j]? = some u) : x.getD j 0 = u := by rw [List.getD_eq_getElem?_getD, h]; rfl
theorem lack_some {x y : List Int} {k : Nat} (hl : x.length = y.length) (h : lackN x y 0 = some k) : ∃ r, lackL x y x.length = ((k : Nat) : Int) :: r := by
  obtain ⟨_, u, v, e1, e2, h3, h4⟩ := lackN_get hl h
  rw [Nat.sub_zero] at e1 e2 h4
  have hlt : k < x.length := (List.getElem?_eq_some_iff.mp e1).1
  refine lackL_head (by rw [getD_of e1, getD_of e2]; exact h3) (fun j hj => ?_) x.length hlt
  rw [getD_of (List.getElem?_eq_getElem (show j < x.length by omega)), getD_of (List.getElem?_eq_getElem (show j < y.length by omega))]
  exact h4 j _ _ hj (List.getElem?_eq_getElem (by omega)) (List.getElem?_eq_getElem (by omega))
theorem lack_none : ∀ {x y : List Int}, x.length = y.length → lackN x y 0 = none → lackL x y x.length = [] := by
  intro x y hl h
  refine lackL_nil _ fun j hj hlt => ?_
  have e1 := List.getElem?_eq_getElem (show j < x.length by omega)
  have e2 := List.getElem?_eq_getElem (show j < y.length by omega)
  rw [getD_of e1, getD_of e2] at hlt
  have hz : (List.zipWith (· - ·) x y)[j]? = some (x[j] - y[j]'(by omega)) := by
    rw [List.getElem?_zipWith, e1, e2]
  have := lackN_none hl h _ (List.mem_of_getElem? hz)
  omega
end Lb
set_option Elab.async false
set_option linter.all false
set_option maxRecDepth 100000
set_option maxHeartbeats 4000000
namespace Lb
open PySem PySem.Spec PyProof.Rows L2 RZ TL
/-! ### values of the plain built-in types -/
def Std : List String := ["tuple", "NoneType", "int", "bool", "str", "list", "dict"]
/-- a value whose type is one of these -/
def TyS (K : PySem.W.Frag) (H : Hp) (y : V) : Prop := ∃ T, T ∈ Std ∧ TyX K H y (.type T)
theorem TyS.same {K : PySem.W.Frag} {H H' : Hp} {v : V} (h : TyS K H v) (s : Same H H') : TyS K H' v := let ⟨t, a, b⟩ := h; ⟨t, a, Lb.TyX.same b s⟩
theorem std_cases {P : String → Prop} {T : String} (h : T ∈ Std) (a : P "tuple") (b : P "NoneType") (c : P "int") (d : P "bool") (e : P "str") (f : P "list") (g : P "dict") : P T := by
  simp only [Std, List.mem_cons, List.not_mem_nil, or_false] at h
  rcases h with rfl | rfl | rfl | rfl | rfl | rfl | rfl <;> assumption
/-- none of them is of the class at C -/
def StdC (K : PySem.W.Frag) (C : Addr) : Prop := ∀ T ∈ Std, PySem.W.kitOne K (.type T) (.ref C) = some false
theorem TyS.notC {K : PySem.W.Frag} {C : Addr} {H : Hp} {y : V} (h : TyS K H y) (c : StdC K C) : NotC K C H y := by
  obtain ⟨T, hT, ty⟩ := h
  exact ⟨_, ty, c T hT⟩
theorem std_sub {K : PySem.W.Frag} {C : Addr} {T : String} (h : T ∈ Std) : PySem.W.subIn K (.type T) (.ref C) = some false :=
  std_cases (P := fun T => PySem.W.subIn K (.type T) (.ref C) = some false) h rfl rfl rfl rfl rfl rfl rfl
theorem std_find {K : PySem.W.Frag} {T : String} (h : T ∈ Std) (op : Operator) (ho : op ∈ [Operator.Add, .Sub, .BitOr, .BitAnd, .Mult]) :
    (∃ fo, PySem.W.findIn K (.type T) (PySem.dunder op.info.2) = some fo) ∧ ∃ ro, PySem.W.findIn K (.type T) (PySem.dunderR op.info.2) = some ro := by
  simp only [List.mem_cons, List.not_mem_nil, or_false] at ho
  rcases ho with rfl | rfl | rfl | rfl | rfl <;> exact std_cases (P := fun T => (∃ fo, PySem.W.findIn K (.type T) _ = some fo) ∧ ∃ ro, PySem.W.findIn K (.type T) _ = some ro) h ⟨⟨_, rfl⟩, ⟨_, rfl⟩⟩ ⟨⟨_, rfl⟩, ⟨_, rfl⟩⟩ ⟨⟨_, rfl⟩, ⟨_, rfl⟩⟩ ⟨⟨_, rfl⟩, ⟨_, rfl⟩⟩ ⟨⟨_, rfl⟩, ⟨_, rfl⟩⟩ ⟨⟨_, rfl⟩, ⟨_, rfl⟩⟩ ⟨⟨_, rfl⟩, ⟨_, rfl⟩⟩
theorem Dat.tyS {K : PySem.W.Frag} {R : Rgn} {H : Hp} {v : V} {d : PyData} (h : Dat R H v d) : TyS K H v := by
  refine ⟨_, ?_, dat_ty h⟩
  cases d <;> simp [tyOf, Std]
theorem tyx_looks {X : Cx} {pins : List (Addr × Obj)} {σ : L2.St} {H : Hp} {s : Shared} {x : V} {u t : Value} (I : Inv X pins σ H s) (rx : RelV x u) (ty : TyX X.K H x t) : PySem.W.Looks (model X.prog X.w) s.heap (typeOf u) t := by
  obtain ⟨P, Z, hP, _⟩ := kit_of I rx ty
  exact Z.ty _ _ I.kIn hP
/-! ### x op y, y of such a type -/
section
open PySem.W
variable {prog : Program} {w : World} {A : Around} {E : Value → Shared → Prop} {s : Shared} {K : Frag} {x C L f : Addr} {h₀ : Heap} {m : Str → Option Value} {ox : Obj} {od : Option Obj} {T : String}
theorem bin_other {op : Operator} {b : Value} {fo ro : Option Value} {Q : Value → Shared → Prop} (F : Fr h₀ L s.heap m) (X₀ : K.In h₀) (I : InstAt s.heap x ox C od) (hb : Looks (model prog w) s.heap (typeOf b) (.type T)) (hc : selfFirst K C = true)
    (hs : findIn K (.ref C) (PySem.dunder op.info.2) = some (some (.ref f))) (hf : isFn K (.ref f) = true) (hr : findIn K (.ref C) (dunderR op.info.2) = some none)
    (h1 : findIn K (.type T) (PySem.dunder op.info.2) = some fo) (h2 : findIn K (.type T) (dunderR op.info.2) = some ro) (hsub : subIn K (.type T) (.ref C) = some false)
    (h : wpAny (model prog w) A (call (.ref f) [.ref x, b]) (PySem.W.CmpBack Q) E s) : wpAny (model prog w) A (binaryOp op (.ref x) b) Q E s := by
  have KX : K.In s.heap := X₀.keeps F.keep
  obtain ⟨cd, rest, hcd, hm⟩ := ksp_first hc
  rcases hi : op.info with ⟨sym, nm⟩
  rw [hi] at hs hr h1 h2
  dsimp only at hs hr h1 h2
  have call1 := ksp_try KX I hs hf h
  obtain ⟨hh, gg, dd, tk, os⟩ := s
  have tyX : Looks (model prog w) hh (typeOf (.ref x)) (.ref C) := I.type
  have fillX : Looks (model prog w) hh (fillsNumberSlot (.ref C) nm) true := fills_K KX hcd hm hs
  have fillY : Looks (model prog w) hh (fillsNumberSlot (.type T) nm) ((fo.isSome && !isSeqSlot fo) || (ro.isSome && !isSeqSlot ro)) := ksp_fillsT KX h1 h2
  have subY : Looks (model prog w) hh (isSubtype (.type T) (.ref C)) false := looks_subIn KX hsub
  have pyX : Looks (model prog w) hh (numberSlotInPython (.ref C) nm) true := ksp_inPy KX hs hr (.inl rfl)
  have pyY : Looks (model prog w) hh (numberSlotInPython (.type T) nm) false := Looks.of_pure rfl
  have lookY : Looks (model prog w) hh (typeLookup (.type T) (dunderR nm)) ro := looks_findIn KX h2
  generalize ((fo.isSome && !isSeqSlot fo) || (ro.isSome && !isSeqSlot ro)) = right at fillY
  have hne : (Value.ref C == Value.type T) = false := Bool.eq_false_iff.mpr fun q => by cases beq_iff_eq.mp q
  simp only [binaryOp, hi]
  refine wpAny_holding (wpAny_bind ?_)
  unfold binaryOp1
  refine wpAny_bind (tyX.at (wpAny_bind (hb.at (wpAny_bind (fillX.at ?_)))))
  simp only [hne, Bool.false_eq_true, if_false]
  cases right <;>
  · ksp_lk
    refine wpAny_mono call1 (fun r s' z => ?_) fun _ _ e => e
    obtain ⟨v, rfl, hq⟩ := z
    ksp_lk
    exact hq
end
def rBinU (K : PySem.W.Frag) (C : Addr) (sp : Sp) (E : XK) : R2 := fun x y H Q => ∃ a dx fs, x = .ref a ∧ H a = some (.ins C dx fs) ∧ ((∃ b dy gs, y = .ref b ∧ H b = some (.ins C dy gs)) ∨ TyS K H y) ∧ sp [x, y] H Q E
section
variable {X : Cx} {C : Addr} {m : Str} {k : Nat} {ps : List Str} {sp : Sp} {E : XK}
theorem op_binU {op : Operator} (O : OwnM X.prog X.w X.K X.mg X.base C (PySem.dunder op.info.2) k ps sp) (ho : op ∈ [Operator.Add, .Sub, .BitOr, .BitAnd, .Mult]) (hc : PySem.W.selfFirst X.K C = true) (hrn : PySem.W.findIn X.K (.ref C) (PySem.dunderR op.info.2) = some none)
    (hr : Room k X.A) (hx : Passes (L2.CX X.prog X.w) X E) : OpR X (binaryOp op) (rBinU X.K C sp E) := by
  intro pins s σ H x y v u Q I rx ry h
  obtain ⟨a, dx, fs, rfl, ha, hy, q⟩ := h
  rcases hy with ⟨b, dy, gs, rfl, hb⟩ | ⟨T, hT, ty⟩
  · exact op_binM O hc hr hx pins s σ H _ _ v u Q I rx ry ⟨a, dx, fs, b, dy, gs, rfl, rfl, ha, hb, q⟩
  · obtain ⟨g, M, F⟩ := O.fnR
    cases (show v = Value.ref a from rx)
    obtain ⟨od, J⟩ := ins_inst I ha
    obtain ⟨m, hF⟩ := I.fr
    obtain ⟨⟨fo, h1⟩, ⟨ro, h2⟩⟩ := std_find (K := X.K) hT op ho
    refine bin_other hF I.ok.mod.kin J (tyx_looks I ry ty) hc M.at_ M.fn hrn h1 h2 (std_sub hT) ?_
    refine wpAny_mono (wpAny_call (run_fnR (us := [.ref a, u]) (vs := [.ref a, y]) F hr hx I (.cons rfl (.cons ry .nil)) q)) (fun w s' z => ?_) fun _ _ x => x
    obtain ⟨z', H', I', rz, qz⟩ := z
    exact SlX.cmpback rz ⟨z', H', I', rz, qz⟩
theorem op_eqU (O : OwnM X.prog X.w X.K X.mg X.base C "__eq__" k ps sp) (hr : Room k X.A) (hx : Passes (L2.CX X.prog X.w) X E) : OpR X (compareOp .Eq) (rBinU X.K C sp E) := by
  intro pins s σ H x y v u Q I rx ry h
  obtain ⟨a, dx, fs, rfl, ha, hy, q⟩ := h
  rcases hy with ⟨b, dy, gs, rfl, hb⟩ | ⟨T, hT, ty⟩
  · exact op_eqM O hr hx pins s σ H _ _ v u Q I rx ry ⟨a, dx, fs, b, dy, gs, rfl, rfl, ha, hb, q⟩
  · obtain ⟨g, M, F⟩ := O.fnR
    cases (show v = Value.ref a from rx)
    obtain ⟨od, J⟩ := ins_inst I ha
    obtain ⟨m, hF⟩ := I.fr
    refine PySem.W.cmp_K (op := .Eq) (tb := .type T) hr.units0 hF I.ok.mod.kin J (tyx_looks I ry ty) (by unfold PySem.W.notFirst; rw [std_sub hT]; simp) M.at_ M.fn ?_
    refine wpAny_mono (wpAny_call (run_fnR (us := [.ref a, u]) (vs := [.ref a, y]) F hr hx I (.cons rfl (.cons ry .nil)) q)) (fun w s' z => ?_) fun _ _ x => x
    obtain ⟨z', H', I', rz, qz⟩ := z
    exact SlX.cmpback rz ⟨z', H', I', rz, qz⟩
/-! ### len(x), bool(x), str(x), x[i] -/
/-- a def of one argument, the object -/
def rOne (C : Addr) (sp : Sp) (E : XK) (W : V → Hp → VK → Prop) : List V → Hp → VK → Prop := fun xs H Q => ∃ a dx fs, xs = [.ref a] ∧ H a = some (.ins C dx fs) ∧ sp xs H (fun z H' => W z H' Q) E
theorem run_one {g a : Addr} {A : Around} {n : Nat} {pins : List (Addr × Obj)} {σ : L2.St} {H : Hp} {s : Shared} {Q : VK} (F : FnR X.prog X.w X.K X.mg X.base (L2.CX X.prog X.w) k g sp) (hr : Room k A) (e0 : Env0 X.prog X.w X.K X.mg X.base A X.stack s H) (hx : Passes (L2.CX X.prog X.w) X E) (I : Inv X pins σ H s) (h : sp [.ref a] H Q E) :
    wpAny (model X.prog X.w) A (call (.ref g) [.ref a]) (EP X pins σ Q) X.xe s := wpAny_call (SlX.run_at (us := [.ref a]) (ws := [.ref a]) F hr e0 hx I (.cons rfl .nil) h)
theorem call_lenM (O : OwnM X.prog X.w X.K X.mg X.base C "__len__" k ps sp) (hr : Room (k + 1) X.A) (hx : Passes (L2.CX X.prog X.w) X E) : CallR X (.builtin "len") (rOne C sp E fun z H Q => ∃ n : Nat, n < 2 ^ 62 ∧ z = .int (n : Int) ∧ Q (.int (n : Int)) H) := by
  intro pins s σ H xs us Q I r h
  obtain ⟨a, dx, fs, rfl, ha, q⟩ := h
  rw [Vals.ref1 r]
  obtain ⟨g, M, F⟩ := O.fnR
  obtain ⟨od, J⟩ := ins_inst I ha
  obtain ⟨m, hF⟩ := I.fr
  refine PySem.W.len_K hF I.ok.mod.kin J M.at_ M.fn ?_
  refine wpAny_mono (run_one (n := 0) F hr.in1 I.env0.in1 hx I q) (fun v s' z => ?_) fun _ _ x => x
  obtain ⟨z', H', I', rz, n, hn, ez, qz⟩ := z
  subst ez
  obtain ⟨t, e⟩ := (show ∃ t, v = Value.int (n : Int) t from rz)
  subst e
  exact ⟨⟨by omega, by omega⟩, .int (n : Int), H', I'.tok _, ⟨_, rfl⟩, qz⟩
theorem call_strM (O : OwnM X.prog X.w X.K X.mg X.base C "__str__" k ps sp) (hr : Room (k + 2) X.A) (hx : Passes (L2.CX X.prog X.w) X E) : CallR X (.type "str") (rOne C sp E fun z H Q => ∃ t : Str, z = .str t ∧ Q (.str t) H) := by
  intro pins s σ H xs us Q I r h
  obtain ⟨a, dx, fs, rfl, ha, q⟩ := h
  rw [Vals.ref1 r]
  obtain ⟨g, M, F⟩ := O.fnR
  obtain ⟨od, J⟩ := ins_inst I ha
  have hr2 : Room k X.A.in1.in1 := (show Room (k + 1) X.A.in1 from Room.in1 hr).in1
  refine PySem.W.kso_call hr2.units0 I.kIn J M.at_ M.fn ?_
  refine wpAny_mono (run_one (n := 0) F hr2 I.env0.in1.in1 hx I q) (fun v s' z => ?_) fun _ _ x => x
  obtain ⟨z', H', I', rz, t, ez, qz⟩ := z
  subst ez
  obtain ⟨u, e⟩ := (show ∃ u, v = Value.str t u from rz)
  subst e
  exact ⟨.str t, H', I', ⟨_, rfl⟩, qz⟩
end
/-- what str makes of plain data -/
def strD : PyData → Str
  | .str x => x
  | d => d.shown
def rStrD : List V → Hp → VK → Prop := fun xs H Q => ∃ (R : Rgn) (v : V) (d : PyData), xs = [v] ∧ Dat R H v d ∧ fine d = true ∧ (∀ kvs, d ≠ .dict kvs) ∧ d.hasDict = false ∧ d.shown.length ≤ sizeLine ∧ d.depth ≤ 100 ∧ Q (.str (strD d)) H
theorem call_strD {X : Cx} (hg : X.A.guards = some []) (hu : X.A.units + 110 < cLine) : CallR X (.type "str") rStrD := by
  intro pins s σ H xs us Q I r h
  obtain ⟨R, v, d, rfl, hd, hw, hnd, hdd, hz, hdp, q⟩ := h
  obtain ⟨u, rfl, ru⟩ := Vals.one r
  have fin : ∀ (h' : Heap) (t : Tok) (tk : Nat), (∀ b o, s.heap.get? b = some o → h'.get? b = some o) → EP X pins σ Q (.str (strD d) t) { s with heap := h', toks := tk } := fun h' t tk hk =>
    ⟨.str (strD d), H, I.kept hk, ⟨_, rfl⟩, q⟩
  have fin0 : ∀ (t : Tok) (tk : Nat), EP X pins σ Q (.str (strD d) t) { s with toks := tk } := fun t tk => fin s.heap t tk fun _ _ e => e
  have ref : ∀ (a : Addr), u = .ref a → strD d = d.shown → wpAny (model X.prog X.w) X.A (call (.type "str") [u]) (EP X pins σ Q) X.xe s := by
    rintro a rfl es
    obtain ⟨as, rd⟩ := dat_reads I hd ru
    refine str_of_reads rd (fine_show d hw) (fun z => by rw [hdd] at z; cases z) hg (by omega) (fun _ _ e => e) (fun h' t tk hk => ?_) hz
    rw [← es]
    exact fin h' t tk hk
  cases hd with
  | non =>
    cases (show u = Value.none from ru)
    have := fin0 s.toks (s.toks + 1)
    rw [strD, PyData.shown] at this
    · exact PySem.P.str_of_none this
    · intro x z; cases z
  | bl b =>
    cases (show u = Value.bool b from ru)
    have := fin0 s.toks (s.toks + 1)
    rw [strD, PyData.shown] at this
    · exact PySem.P.str_of_bool this
    · intro x z; cases z
  | int i =>
    obtain ⟨t, e⟩ := (show ∃ t, u = Value.int i t from ru)
    cases e
    have := fin0 s.toks (s.toks + 1)
    rw [strD, PyData.shown] at this
    · exact PySem.P.str_of_int (of_decide_eq_true hw) this
    · intro x z; cases z
  | str x =>
    obtain ⟨t, e⟩ := (show ∃ t, u = Value.str x t from ru)
    cases e
    exact PySem.P.str_of_str (fin0 t s.toks)
  | tup ra e t => exact ref _ ru rfl
  | lst ra e t => exact ref _ ru rfl
  | emp ra e => exact absurd rfl (hnd _)
end Lb
set_option Elab.async false
set_option linter.all false
set_option maxRecDepth 100000
set_option maxHeartbeats 4000000
namespace Lb
open PySem PySem.Spec PyProof.Rows L2 RZ TL
theorem num_lenW {x : Int} (h0 : 0 ≤ x) (h1 : x < 10 ^ 30) : (numS x).length ≤ 30 := by
  obtain ⟨n, rfl⟩ : ∃ n : Nat, x = (n : Int) := ⟨x.toNat, by omega⟩
  have h2 := numL_short 29 n (by omega)
  rw [← tl_num] at h2
  exact h2
theorem num_logW {x : Int} (h0 : 0 ≤ x) (h1 : x < 10 ^ 30) : x.natAbs.log2 < 1920 := by
  have h := (amt_okW h0 h1).fi
  exact of_decide_eq_true h
theorem words_sumW : ∀ {b : List Int}, AmtsW b → ((wordsB b).map (·.length)).sum ≤ 30 * b.length
  | [], _ => Nat.le_refl _
  | x :: b, h => by
    have h1 := num_lenW (h x List.mem_cons_self).1 (h x List.mem_cons_self).2
    have h2 := words_sumW (b := b) fun y hy => h y (List.mem_cons_of_mem _ hy)
    show ((numS x :: wordsB b).map (·.length)).sum ≤ _
    rw [List.map_cons, List.sum_cons, List.length_cons]
    omega
def bagS (b : List Int) : Str := Txt.join " " (wordsB b)
/-- str(x) -/
def spStr (C : Addr) : Sp := fun vs H Q _ => ∃ (a t : Addr) (x : List Int), vs = [.ref a] ∧ Bg C H a t x ∧ x.length ≤ 4 ∧ AmtsW x ∧ ∀ H', Same H H' → Q (.str (bagS x)) H'
/-- what the text has of the class besides -/
structure BagR (K : PySem.W.Frag) (C : Addr) : Prop where
  ra : PySem.W.findIn K (.ref C) "__radd__" = some none
  rs : PySem.W.findIn K (.ref C) "__rsub__" = some none
  ro : PySem.W.findIn K (.ref C) "__ror__" = some none
  rn : PySem.W.findIn K (.ref C) "__rand__" = some none
  rm : PySem.W.findIn K (.ref C) "__rmul__" = some none
  ki : PySem.W.kitOne K (.ref C) (.type "int") = some false
  kb : PySem.W.kitOne K (.ref C) (.type "bool") = some false
  kt : PySem.W.kitOne K (.ref C) (.type "tuple") = some false
  kl : PySem.W.kitOne K (.ref C) (.type "list") = some false
  sc : StdC K C
/-- an operand that is refused by a Bag with the amounts x -/
def Refd (K : PySem.W.Frag) (C : Addr) (H : Hp) (x : List Int) (y : V) : Prop := (∃ b s z, y = .ref b ∧ Bg C H b s z ∧ BgOk z ∧ z.length ≠ x.length) ∨ TyS K H y
theorem Refd.same {K : PySem.W.Frag} {C : Addr} {H H' : Hp} {x : List Int} {y : V} (h : Refd K C H x y) (s : Same H H') : Refd K C H' x y := by
  rcases h with ⟨b, s', z, rfl, hb, ok, ne⟩ | h
  · exact .inl ⟨b, s', z, rfl, hb.same s, ok, ne⟩
  · exact .inr (h.same s)
def spPut (K : PySem.W.Frag) (C CB : Addr) : Sp := fun vs H Q E => ∃ (a t : Addr) (x : List Int) (y : V) (k : Int), vs = [.ref a, y, .int k] ∧ Bg C H a t x ∧ BgOk x ∧ Refd K C H x y ∧ ∀ H', Same H H' → E (.ref CB) none H'
theorem rd_refB {K : PySem.W.Frag} {C CB : Addr} {H : Hp} {a t : Addr} {x : List Int} {y : V} {Q : VK} {E : XK} {f : Int → Int → Int} (S : StdC K C) (ha : Bg C H a t x) (xok : BgOk x) (hy : Refd K C H x y) (q : ∀ H', Same H H' → E (.ref CB) none H') : rBinU K C (spBin f K C CB) E (.ref a) y H Q := by
  obtain ⟨dx, ea⟩ := ha.ins
  rcases hy with ⟨b, s', z, rfl, hb, ok, ne⟩ | h
  · obtain ⟨dy, eb⟩ := hb.ins
    exact ⟨a, dx, _, rfl, ea, .inl ⟨b, dy, _, rfl, eb⟩, a, t, x, _, rfl, ha, xok, .inl ⟨b, s', z, rfl, hb, ok, fun e => absurd e ne, fun _ => q⟩⟩
  · exact ⟨a, dx, _, rfl, ea, .inr h, a, t, x, _, rfl, ha, xok, .inr ⟨h.notC S, q⟩⟩
theorem rd_refS {K : PySem.W.Frag} {C CB CL : Addr} {H : Hp} {a t : Addr} {x : List Int} {y : V} {Q : VK} {E : XK} (S : StdC K C) (ha : Bg C H a t x) (xok : BgOk x) (hy : Refd K C H x y) (q : ∀ H', Same H H' → E (.ref CB) none H') : rBinU K C (spSub K C CB CL) E (.ref a) y H Q := by
  obtain ⟨dx, ea⟩ := ha.ins
  rcases hy with ⟨b, s', z, rfl, hb, ok, ne⟩ | h
  · obtain ⟨dy, eb⟩ := hb.ins
    exact ⟨a, dx, _, rfl, ea, .inl ⟨b, dy, _, rfl, eb⟩, a, t, x, _, rfl, ha, xok, .inl ⟨b, s', z, rfl, hb, ok, fun e => absurd e ne, fun _ => q⟩⟩
  · exact ⟨a, dx, _, rfl, ea, .inr h, a, t, x, _, rfl, ha, xok, .inr ⟨h.notC S, q⟩⟩
/-- what is made of a call that must be refused -/
def TRef (CB : Addr) : (XK → Hp → VK → Prop) → Hp → VK → Prop := fun tl H Q => tl (fun cls _ H' => cls = .ref CB ∧ Q (.bl true) H') H (fun _ H' => Q (.bl false) H')
theorem Bg.extN {C : Addr} {H H' : Hp} {a t : Addr} {b : List Int} (h : Bg C H a t b) (k : LamX.ExtN H H') : Bg C H' a t b := ⟨let ⟨dx, e⟩ := h.ins; ⟨dx, k _ _ e fun _ z => nomatch z⟩, k _ _ h.tup fun _ z => nomatch z⟩
theorem TyX.extN {K : PySem.W.Frag} {H H' : Hp} {v : V} {t : Value} (h : TyX K H v t) (k : LamX.ExtN H H') : TyX K H' v t := by
  cases h with
  | base b =>
    refine .base ?_
    cases b with
    | non => exact .non
    | bl x => exact .bl x
    | int i => exact .int i
    | str x => exact .str x
    | flt x => exact .flt x
    | lst e => exact .lst (k _ _ e fun _ z => nomatch z)
    | frz e => exact .frz (k _ _ e fun _ z => nomatch z)
    | tup e => exact .tup (k _ _ e fun _ z => nomatch z)
    | dK e => exact .dK (k _ _ e fun _ z => nomatch z)
    | dT e => exact .dT (k _ _ e fun _ z => nomatch z)
    | ins e cl ha hn htk hm => exact .ins (k _ _ e fun _ z => nomatch z) cl ha hn htk hm
  | byt b => exact .byt b
  | set e => exact .set (k _ _ e fun _ z => nomatch z)
  | kList e c => exact .kList e c
  | kTuple e c => exact .kTuple e c
  | kDict e c => exact .kDict e c
  | fTuple e => exact .fTuple (k _ _ e fun _ z => nomatch z)
  | fDict e => exact .fDict (k _ _ e fun _ z => nomatch z)
theorem Refd.extN {K : PySem.W.Frag} {C : Addr} {H H' : Hp} {x : List Int} {y : V} (h : Refd K C H x y) (k : LamX.ExtN H H') : Refd K C H' x y := by
  rcases h with ⟨b, s', z, rfl, hb, ok, ne⟩ | ⟨T, hT, ty⟩
  · exact .inl ⟨b, s', z, rfl, hb.extN k, ok, ne⟩
  · exact .inr ⟨T, hT, Lb.TyX.extN ty k⟩
/-- (x * v).amounts, or what BadTimes has -/
def spTimes (K : PySem.W.Frag) (C : Addr) : Sp := fun vs H Q _ => ∃ (a t : Addr) (x : List Int) (v : V), vs = [.ref a, v] ∧ Bg C H a t x ∧ BgOk x ∧
  ((v = .int 0 ∧ ∀ (H' : Hp) (p : Addr), Same H H' → H' p = some (.tup ((x.map (· * (0 : Int))).map V.int)) → Q (.ref p) H') ∨
    (((∃ b s z, v = .ref b ∧ Bg C H b s z) ∨ (TyS K H v ∧ ∃ ty b1 b2, TyX K H v ty ∧ PySem.W.kitOne K ty (.type "int") = some b1 ∧ PySem.W.kitOne K ty (.type "bool") = some b2 ∧ ((b1 && !b2) = false ∨ ((b1 && !b2) = true ∧ ∃ n : Int, v = .int n ∧ n < 0)))) ∧
      ∀ (H' : Hp) (p : Addr), Same H H' → H p = none → H' p = some (.lst [.str "times", v]) → Q (.ref p) H'))
theorem call_strU {X : Cx} {C : Addr} {k : Nat} {ps : List Str} {sp : Sp} {E : XK} (O : OwnM X.prog X.w X.K X.mg X.base C "__str__" k ps sp) (hr : Room (k + 2) X.A) (hx : Passes (L2.CX X.prog X.w) X E) (hg : X.A.guards = some []) (hu : X.A.units + 110 < cLine) :
    CallR X (.type "str") (fun xs H Q => rOne C sp E (fun z H Q => ∃ t : Str, z = .str t ∧ Q (.str t) H) xs H Q ∨ rStrD xs H Q) := by
  intro pins s σ H xs us Q I r h
  rcases h with h | h
  · exact call_strM O hr hx pins s σ H xs us Q I r h
  · exact call_strD hg hu pins s σ H xs us Q I r h
end Lb
set_option Elab.async false
set_option linter.all false
set_option maxRecDepth 100000
set_option maxHeartbeats 4000000
namespace Lb
open PySem PySem.Spec PyProof.Rows L2 RZ TL
theorem bag_chars {b : List Int} (h : ∀ x ∈ b, 0 ≤ x ∧ x ≤ 4) : ∀ c ∈ tl (bagS b), c < 200 := by
  intro c hc
  unfold bagS at hc
  rw [join_eq, tl_join] at hc
  rcases mem_joinL hc with z | ⟨p, hp, hc⟩
  · have e2 : tl (" " : Str) = [32] := by decide +kernel
    rw [e2] at z
    rw [List.mem_singleton.mp z]
    decide
  · obtain ⟨w, hw, rfl⟩ := List.mem_map.mp hp
    obtain ⟨x, hx, rfl⟩ := List.mem_map.mp hw
    have hx' := h x hx
    rw [num_tl hx'.1 hx'.2] at hc
    rw [List.mem_singleton.mp hc]
    omega
theorem bagS_ok {b : List Int} (h : ∀ x ∈ b, 0 ≤ x ∧ x ≤ 4) (h4 : b.length ≤ 4) : Ok 2100 0 (.str (bagS b)) := by
  refine ⟨rfl, ?_, by rw [PyData.depth]; exact Nat.le_refl _⟩
  have h1 := StrLaws.reprText_len (bagS b) (fun c hc => by have := bag_chars h c hc; omega)
  have h2 := join_len " " (wordsB b)
  have h3 := words_sumW (b := b) fun x hx => by have := h x hx; omega
  have h5 : (wordsB b).length = b.length := by unfold wordsB; rw [List.length_map]
  have h6 : (" " : Str).length = 1 := by decide +kernel
  rw [h5, h6] at h2
  show (reprText (bagS b)).length ≤ _
  have h7 : (bagS b).length ≤ 30 * b.length + b.length * 1 := by
    unfold bagS
    omega
  omega
/-- a value that str makes the text T of -/
def StrV (C : Addr) (H : Hp) (v : V) (T : Str) : Prop := (∃ a t x, v = .ref a ∧ Bg C H a t x ∧ x.length ≤ 4 ∧ AmtsW x ∧ T = bagS x) ∨
  ∃ (R : Rgn) (d : PyData), Dat R H v d ∧ fine d = true ∧ (∀ kvs, d ≠ .dict kvs) ∧ d.hasDict = false ∧ d.shown.length ≤ sizeLine ∧ d.depth ≤ 100 ∧ T = strD d
theorem StrV.same {C : Addr} {H H' : Hp} {v : V} {T : Str} (h : StrV C H v T) (s : Same H H') : StrV C H' v T := by
  rcases h with ⟨a, t, x, e, hb, h⟩ | ⟨R, d, hd, h⟩
  · exact .inl ⟨a, t, x, e, hb.same s, h⟩
  · exact .inr ⟨R, d, hd.same s, h⟩
theorem rd_strV {C : Addr} {H : Hp} {v : V} {T : Str} {E : XK} {Q : VK} (h : StrV C H v T) (q : ∀ H', Same H H' → Q (.str T) H') : (rOne C (spStr C) E (fun z H Q => ∃ t : Str, z = .str t ∧ Q (.str t) H) [v] H Q ∨ rStrD [v] H Q) := by
  rcases h with ⟨a, t, x, rfl, hb, h4, hw, rfl⟩ | ⟨R, d, hd, h1, h2, h3, h5, h6, rfl⟩
  · obtain ⟨dx, ea⟩ := hb.ins
    exact .inl ⟨a, dx, _, rfl, ea, a, t, x, rfl, hb, h4, hw, fun H' s => ⟨_, rfl, q H' s⟩⟩
  · exact .inr ⟨R, v, d, rfl, hd, h1, h2, h3, h5, h6, q H (Same.refl H)⟩
/-- `Bag(row + (0,)) if goods < 4 else Bag(row[:3])` -/
theorem rd_more {K : PySem.W.Frag} {C CB : Addr} {E : XK} {σ : L2.St} {H : Hp} {Q : VK} {p : Addr} {b : List Int} {g : Nat} (h3 : σ[3]? = some (some (.int (g : Int)))) (h4 : σ[4]? = some (some (.ref p))) (e : H p = some (.tup (b.map V.int))) (hg : b.length = g) (ok : BgOk b)
    (q : ∀ (H' : Hp) (a t : Addr) (z : List Int), Same H H' → Bg C H' a t z → BgOk z → z.length ≠ g → Q (.ref a) H') :
    tIf (tTest (tOp (rI0 fun i j => V.bl (decide (i < j))) (tVar 3) (tC (V.int 4)))) (tBag K C CB E (tCons (tOp (rCatA K) (tVar 4) (tTup (tCons (tC (V.int 0)) tNil))) tNil))
      (tBag K C CB E (tCons (tSl (rSlA K) (tVar 4) tNoPart (tPart (tC (V.int 3)))) tNil)) σ H Q := by
  have ok1 := ok.one
  have ok4 := ok.four
  have mk : ∀ {H1 : Hp} {u : Addr} {z : List Int}, Same H H1 → H1 u = some (.tup (z.map V.int)) → BgOk z → z.length ≠ g → spMk K C CB [.ref u] H1 Q E := by
    intro H1 u z s1 eu zok hz
    have no : ¬ mkB (bagD z) = false := by rw [mkB_ok zok]; exact fun h => nomatch h
    refine ⟨_, rfl, .inl ⟨fun _ => True, _, Dat.mkBag trivial eu, by rw [List.length_map]; have := zok.four; omega, fun _ H' x dx s2 f2 ex => ?_, fun hm => absurd hm no⟩⟩
    exact q H' x u z (s1.trans s2) ⟨⟨dx, ex⟩, s2 _ _ eu⟩ zok hz
  refine ⟨_, h3, _, _, rfl, rfl, _, rfl, ite2 (fun hc => ?_) (fun hc => ?_)⟩
  · have hc' : (g : Int) < 4 := of_decide_eq_true hc
    refine ⟨_, h4, (by show 1 ≤ sizeLine; decide), fun p1 z1 => ?_⟩
    have s1 := same_upd (o := .tup [V.int 0]) z1
    refine rd_cat (R := fun _ => True) trivial trivial (s1 _ _ e) upd_same (by rw [List.length_map]; show b.length + 1 ≤ 1000000; omega) (fun _ _ => trivial) fun H2 p2 s2 _ e2 => ?_
    refine mk (z := b ++ [0]) (s1.trans s2) (by rw [List.map_append]; exact e2) ⟨by rw [List.length_append]; omega, by rw [List.length_append, List.length_singleton]; omega, fun x hx => ?_⟩ (by rw [List.length_append, List.length_singleton]; omega)
    rcases List.mem_append.mp hx with hx | hx
    · exact ok.nn x hx
    · rw [List.mem_singleton.mp hx]
      omega
  · have hc' : ¬ (g : Int) < 4 := fun z => hc (decide_eq_true z)
    refine ⟨_, h4, _, rfl, ?_⟩
    refine rd_to (R := fun _ => True) (j := 3) (ds := b.map PyData.int) trivial e ?_ (by rw [List.length_map]; omega) (fun _ _ => trivial) fun H2 p2 s2 _ e2 => ?_
    · exact (Dat.mkBag (R := fun _ => True) trivial e).tupI.elim fun a h => by
        obtain ⟨xs, ea, _, exs, dxs⟩ := h
        cases ea
        rw [e] at exs
        cases exs
        exact dxs
    · refine mk (z := b.take 3) s2 (by rw [List.map_take]; exact e2) ⟨by rw [List.length_take]; omega, by rw [List.length_take]; omega, fun x hx => ok.nn x (List.mem_of_mem_take hx)⟩ (by rw [List.length_take]; omega)
/-- what is not like a Bag is not in it and not equal -/
theorem Refd.opd {K : PySem.W.Frag} {C : Addr} {H : Hp} {x : List Int} {y : V} (h : Refd K C H x y) (S : StdC K C) {yes : Addr → Addr → List Int → Prop} {no : Prop} (h1 : ∀ b s z, z.length ≠ x.length → yes b s z) (h2 : no) : Opd K C H y yes no := by
  rcases h with ⟨b, s', z, rfl, hb, ok, ne⟩ | h
  · exact .inl ⟨b, s', z, rfl, hb, ok, h1 b s' z ne⟩
  · exact .inr ⟨h.notC S, h2⟩
theorem rd_refIn {K : PySem.W.Frag} {C : Addr} {H : Hp} {a t : Addr} {x : List Int} {y : V} {Q : VK} {E : XK} (S : StdC K C) (ha : Bg C H a t x) (xok : BgOk x) (hy : Refd K C H x y) (q : ∀ H', Same H H' → Q (.bl false) H') : rInO C (spCont K C) E y (.ref a) H Q := by
  obtain ⟨dx, ea⟩ := ha.ins
  refine ⟨a, dx, _, rfl, ea, a, t, x, y, rfl, ha, xok, hy.opd S (fun b s z hz H' sm => ⟨_, rfl, ?_⟩) (fun H' sm => ⟨_, rfl, q H' sm⟩)⟩
  rw [decide_eq_false hz, Bool.false_and]
  exact q H' sm
theorem rd_refEq {K : PySem.W.Frag} {C : Addr} {H : Hp} {a t : Addr} {x : List Int} {y : V} {Q : VK} {E : XK} (S : StdC K C) (ha : Bg C H a t x) (xok : BgOk x) (hy : Refd K C H x y) (q : Q (.bl false) H) : rBinU K C (spEq K C) E (.ref a) y H Q := by
  obtain ⟨dx, ea⟩ := ha.ins
  have hu : (∃ b dy gs, y = .ref b ∧ H b = some (.ins C dy gs)) ∨ TyS K H y := by
    rcases hy with ⟨b, s', z, rfl, hb, ok, ne⟩ | h
    · obtain ⟨dy, eb⟩ := hb.ins
      exact .inl ⟨b, dy, _, rfl, eb⟩
    · exact .inr h
  refine ⟨a, dx, _, rfl, ea, hu, a, t, x, y, rfl, ha, xok, hy.opd S (fun b s z hz => ?_) q⟩
  rw [decide_eq_false fun e => hz (by rw [e])]
  exact q
theorem dp_same {K : PySem.W.Frag} {H : Hp} {p : Addr} {b : List Int} {Q : VK} (e : H p = some (.tup (b.map V.int))) (q : Q (.bl false) H) : rNeD K (.ref p) (.ref p) H Q := by
  have hd : Dp K H (.ref p) (bagD b) := .tup (.inl (.inl e)) (dp_ints b)
  refine ⟨_, _, hd, hd, shaped_bag b, shaped_bag b, ?_⟩
  rw [eqv_bag, decide_eq_true rfl]
  exact q
end Lb
namespace Lb
open PySem PySem.Spec PyProof.Rows L2 RZ TL
theorem refd_tup {K : PySem.W.Frag} {C : Addr} {H : Hp} {x : List Int} {p : Addr} {xs : List V} (e : H p = some (.tup xs)) : Refd K C H x (.ref p) := .inr ⟨"tuple", by simp [Std], .base (.tup e)⟩
theorem refd_lst {K : PySem.W.Frag} {C : Addr} {H : Hp} {x : List Int} {p : Addr} {xs : List V} (e : H p = some (.lst xs)) : Refd K C H x (.ref p) := .inr ⟨"list", by simp [Std], .base (.lst e)⟩
theorem refd_dK {K : PySem.W.Frag} {C : Addr} {H : Hp} {x : List Int} {p : Addr} {kv : List (Key × V)} (e : H p = some (.dK kv)) : Refd K C H x (.ref p) := .inr ⟨"dict", by simp [Std], .base (.dK e)⟩
theorem refd_non {K : PySem.W.Frag} {C : Addr} {H : Hp} {x : List Int} : Refd K C H x .non := .inr ⟨"NoneType", by simp [Std], .base .non⟩
theorem refd_int {K : PySem.W.Frag} {C : Addr} {H : Hp} {x : List Int} (i : Int) : Refd K C H x (.int i) := .inr ⟨"int", by simp [Std], .base (.int i)⟩
theorem refd_bl {K : PySem.W.Frag} {C : Addr} {H : Hp} {x : List Int} (i : Bool) : Refd K C H x (.bl i) := .inr ⟨"bool", by simp [Std], .base (.bl i)⟩
theorem refd_str {K : PySem.W.Frag} {C : Addr} {H : Hp} {x : List Int} (i : Str) : Refd K C H x (.str i) := .inr ⟨"str", by simp [Std], .base (.str i)⟩
/-- a number of times that is refused -/
structure ManyV (K : PySem.W.Frag) (C : Addr) (H : Hp) (v : V) (T : Str) : Prop where
  no : (∃ b s z, v = .ref b ∧ Bg C H b s z) ∨ (TyS K H v ∧ ∃ ty b1 b2, TyX K H v ty ∧ PySem.W.kitOne K ty (.type "int") = some b1 ∧ PySem.W.kitOne K ty (.type "bool") = some b2 ∧ ((b1 && !b2) = false ∨ ((b1 && !b2) = true ∧ ∃ n : Int, v = .int n ∧ n < 0)))
  str : StrV C H v T
  ok : Ok 2100 0 (.str T)
theorem many_dat {K : PySem.W.Frag} {C : Addr} {R : Rgn} {H : Hp} {v : V} {d : PyData} {b1 b2 : Bool} (hd : Dat R H v d) (okd : Ok 100 1 d) (ht : Ok 2100 0 (.str (strD d))) (h1 : d.hasDict = false) (hn : ∀ kvs, d ≠ .dict kvs) (k1 : kitB (tyOf d) "int" = some b1) (k2 : kitB (tyOf d) "bool" = some b2)
    (hc : (b1 && !b2) = false ∨ ((b1 && !b2) = true ∧ ∃ n : Int, v = .int n ∧ n < 0)) : ManyV K C H v (strD d) :=
  ⟨.inr ⟨hd.tyS, _, _, _, dat_ty hd, kit_ty k1, kit_ty k2, hc⟩, .inr ⟨R, d, hd, okd.fi, hn, h1, okd.shown (by omega), Nat.le_trans okd.dp (by omega), rfl⟩, ht⟩
theorem many_int {K : PySem.W.Frag} {C : Addr} {H : Hp} (n : Int) (hn : n < 0) (o : Ok 100 1 (.int n)) (t : Ok 2100 0 (.str (strD (.int n)))) : ManyV K C H (.int n) (strD (.int n)) :=
  many_dat (R := fun _ => True) (d := .int n) (.int n) o t rfl (fun _ z => nomatch z) (by decide +kernel : kitB "int" "int" = some true) (by decide +kernel : kitB "int" "bool" = some false) (.inr ⟨rfl, n, rfl, hn⟩)
theorem many_true {K : PySem.W.Frag} {C : Addr} {H : Hp} : ManyV K C H (.bl true) (strD (.bool true)) :=
  many_dat (R := fun _ => True) (d := .bool true) (.bl true) ⟨by decide +kernel, by decide +kernel, by decide +kernel⟩ ⟨by decide +kernel, by decide +kernel, by decide +kernel⟩ rfl (fun _ z => nomatch z) (by decide +kernel : kitB "bool" "int" = some true) (by decide +kernel : kitB "bool" "bool" = some true) (.inl rfl)
theorem many_non {K : PySem.W.Frag} {C : Addr} {H : Hp} : ManyV K C H .non (strD .none) :=
  many_dat (R := fun _ => True) (d := .none) .non ⟨by decide +kernel, by decide +kernel, by decide +kernel⟩ ⟨by decide +kernel, by decide +kernel, by decide +kernel⟩ rfl (fun _ z => nomatch z) (by decide +kernel : kitB "NoneType" "int" = some false) (by decide +kernel : kitB "NoneType" "bool" = some false) (.inl rfl)
theorem many_str {K : PySem.W.Frag} {C : Addr} {H : Hp} : ManyV K C H (.str "2") (strD (.str "2")) :=
  many_dat (R := fun _ => True) (d := .str "2") (.str "2") ⟨by decide +kernel, by decide +kernel, by decide +kernel⟩ ⟨by decide +kernel, by decide +kernel, by decide +kernel⟩ rfl (fun _ z => nomatch z) (by decide +kernel : kitB "str" "int" = some false) (by decide +kernel : kitB "str" "bool" = some false) (.inl rfl)
theorem many_tup {K : PySem.W.Frag} {C : Addr} {H : Hp} {p : Addr} (e : H p = some (.tup [V.int 1])) : ManyV K C H (.ref p) (strD (.tuple [.int 1])) :=
  many_dat (R := fun _ => True) (d := .tuple [.int 1]) (.tup trivial e (.cons (.int 1) .nil)) ⟨by decide +kernel, by decide +kernel, by decide +kernel⟩ ⟨by decide +kernel, by decide +kernel, by decide +kernel⟩ rfl (fun _ z => nomatch z) (by decide +kernel : kitB "tuple" "int" = some false) (by decide +kernel : kitB "tuple" "bool" = some false) (.inl rfl)
theorem many_bag {K : PySem.W.Frag} {C : Addr} {H : Hp} {a t : Addr} {x : List Int} (hb : Bg C H a t x) (h4 : x.length ≤ 4) (h : ∀ y ∈ x, 0 ≤ y ∧ y ≤ 4) : ManyV K C H (.ref a) (bagS x) :=
  ⟨.inl ⟨a, t, x, rfl, hb⟩, .inl ⟨a, t, x, rfl, hb, h4, fun y hy => by have := h y hy; omega, rfl⟩, bagS_ok h h4⟩
theorem many_m1 {K : PySem.W.Frag} {C : Addr} {H : Hp} : ManyV K C H (.int (-1)) (strD (.int (-1))) := many_int _ (by decide) ⟨by decide +kernel, by decide +kernel, by decide +kernel⟩ ⟨by decide +kernel, by decide +kernel, by decide +kernel⟩
theorem many_big {K : PySem.W.Frag} {C : Addr} {H : Hp} : ManyV K C H (.int (0 - 10 ^ 20)) (strD (.int (0 - 10 ^ 20))) := many_int _ (by decide) ⟨by decide +kernel, by decide +kernel, by decide +kernel⟩ ⟨by decide +kernel, by decide +kernel, by decide +kernel⟩
theorem ne_sameC {σ : L2.St} {u : Str} {H : Hp} {Q : Bool → Hp → Prop} (h : Q false H) : tC (.str u) σ H (fun y H2 => rNe (.str u) y H2 fun x H' => ∃ k, x = .bl k ∧ Q k H') := ne_same h
theorem zero_map : ∀ x : List Int, x.map (· * (0 : Int)) = List.replicate x.length 0
  | [] => rfl
  | a :: x => by
    rw [List.map_cons, zero_map x, List.length_cons, List.replicate_succ, Int.mul_zero]
end Lb
set_option Elab.async false
set_option linter.all false
set_option maxRecDepth 100000
set_option maxHeartbeats 4000000
namespace Lb
open PySem PySem.Spec PyProof.Rows L2 RZ TL
/-! ### iter(t), t a tuple -/
def tiObj (t : Addr) : Obj := { cls := .type "tuple_iterator", data := .fields #[.ref t, .int 0 0] }
def TiO (t it : Addr) : HO := .ext fun h => h.get? it = some (tiObj t)
theorem tiO_ok {P : Program} {w : World} {H : Hp} {h : Heap} {t it : Addr} (e : h.get? it = some (tiObj t)) : ObjOk P w H h it (TiO t it) := ⟨e, ⟨_, e⟩, fun h1 h2 q k => k _ q⟩
def rIterT (K : PySem.W.Frag) : List V → Hp → VK → Prop := fun xs H Q => ∃ (l : Addr) (zs : List V), xs = [.ref l] ∧ SqT K H l zs ∧ ∀ it, H it = none → (∀ L o, H L = some o → L < it) → Q (.ref it) (upd H it (TiO l it))
theorem raw_iterT {prog : Program} {w : World} {A : Around} {E : Value → Shared → Prop} {s : Shared} {l : Addr} {items : Array Value} {Q : Value → Shared → Prop} (hl : s.heap.IsTuple l items) (h : Q (.ref s.heap.objs.size) { s with heap := s.heap.push (tiObj l) }) : wpAny (model prog w) A (call (.builtin "iter") [.ref l]) Q E s := by
  refine Calls.call_function_entry (by decide +kernel) (by decide +kernel) PySem.W.kdk_entry_iter (PySem.W.kdk_args_iter _) ?_
  unfold Builtin.«iter»
  refine wpAny_bind (m := someArgs "iter" 1 2 _) (wpAny_of_eq (a := [Value.ref l]) (by first | rfl | kernel_rfl!) ?_)
  show wpAny _ _ (pyIter (.ref l) >>= _) _ _ _
  refine wpAny_bind (wpAny_pyIter_tuple hl ?_)
  exact wpAny_pure ⟨_, rfl, h⟩
theorem call_iterT {X : Cx} : CallR X (.builtin "iter") (rIterT X.K) := by
  intro pins s σ H xs us Q I r h
  obtain ⟨l, zs, rfl, hq, q⟩ := h
  obtain rfl := Vals.ref1 r
  obtain ⟨its, rv, pl, hz⟩ := I.tuple hq
  refine raw_iterT pl ?_
  exact ⟨.ref s.heap.objs.size, _, I.laid (t' := s.toks) (fun b u e => Heap.get?_push_of_some _ e) (Nat.le_refl _) (tiO_ok (Heap.get?_push_size _ rfl)), rfl, q _ (I.hok.fresh (Nat.le_refl _)) fun L o e => Nat.lt_of_not_le fun z => by
    rw [I.hok.fresh z] at e
    cases e⟩
/-! ### list(x) by such an __iter__ -/
section
variable {X : Cx} {pins : List (Addr × Obj)} {σ : L2.St} {H : Hp}
theorem ti_loop {A1 : Around} {L it t : Addr} {ys : List V} {Rs : Result → Shared → Prop} (hh : A1.in1.handled = none) (et : H t = some (.tup ys)) (nL : H L = none) (hz : ys.length ≤ 1000) (hne : it ≠ L) (fp : ∀ o, FpOk X pins (upd H L o) it)
    (hdone : ∀ s, Inv X pins σ (upd H L (.lst ys)) s → Rs (.ok (.ret .none)) s) :
    ∀ (k i : Nat) (s : Shared), ys.length - i = k → i ≤ ys.length → Inv X pins σ (upd H L (.lst (ys.take i))) s → s.heap.IsTupleIter it t i → codeAny (model X.prog X.w) A1 (.builtin "list.extend.loop" ⟨[.ref L, .ref it, .none], []⟩) Rs s := by
  have ht : t ≠ L := ne_of_none et nL
  have tI : t ≠ it := fun z => by
    have q := (fp (.lst [])).1
    rw [← z, upd_ne ht, et] at q
    cases q
  intro k
  induction k with
  | zero =>
    intro i s hk hi I ti
    have e : i = ys.length := by omega
    subst e
    obtain ⟨its, r, tp, _⟩ := I.tuple (show SqT X.K _ t ys from .inl (.inl (by rw [upd_ne ht]; exact et)))
    have hl := r.length
    refine codeAny_builtin PySem.F.entry_extend_loop ?_
    rw [Around.under_plainId PySem.F.plain_extend_loop _]
    show wpAny _ A1.in1 (pyNext (.ref it) >>= _) _ _ s
    refine wpAny_bind (wpAny_pyNext_tuple_end hh ti tp (by simp [hl]) fun h' he => ?_)
    rw [List.take_length] at I
    refine wpAny_pure (hdone _ (I.turnedL (t' := s.toks) (ch := [it]) (fun b o hb e => he b o (fun z => hb (by rw [z]; exact List.mem_singleton.mpr rfl)) e) fun b hb => ?_))
    rw [List.mem_singleton.mp hb]
    exact fp _
  | succ k ih =>
    intro i s hk hi I ti
    have hlt : i < ys.length := by omega
    obtain ⟨its, r, tp, _⟩ := I.tuple (show SqT X.K _ t ys from .inl (.inl (by rw [upd_ne ht]; exact et)))
    have hl := r.length
    obtain ⟨u, hu, ru⟩ := r.get (List.getElem?_eq_getElem hlt)
    refine codeAny_builtin PySem.F.entry_extend_loop ?_
    rw [Around.under_plainId PySem.F.plain_extend_loop _]
    show wpAny _ A1.in1 (pyNext (.ref it) >>= _) _ _ s
    refine wpAny_bind (wpAny_pyNext_tuple_item ti tp (x := u) (by simpa using hu) fun h' hit' hs' => ?_)
    have I1 := I.turnedL (h' := h') (t' := s.toks) (ch := [it]) (fun b o hb e => hs'.extBut b o (fun z => hb (by rw [z]; exact List.mem_singleton.mpr rfl)) e) fun b hb => by
      rw [List.mem_singleton.mp hb]
      exact fp _
    show wpAny _ A1.in1 (updateSeq L (·.push u) >>= _) _ _ _
    obtain ⟨z, its2, k2, r2, hl2, e2⟩ := I1.lstM upd_same
    have htk : (ys.take i).length ≤ 1000 := by rw [List.length_take]; omega
    refine wpAny_bind (wpAny_updateSeq e2 rfl (wpAny_pure ⟨plainId_quiet PySem.F.plain_extend_loop _, ?_⟩) (by rw [List.size_toArray, sizeLine_eq]; omega) (by show (its2.toArray.push u).size ≤ sizeLine + 1; rw [Array.size_push, List.size_toArray, sizeLine_eq]; omega))
    refine ih (i + 1) _ (by omega) (by omega) ?_ ?_
    · have I2 := I1.lset (f := (·.push u)) (its' := its2 ++ [u]) (t' := s.toks) upd_same e2 (by simp) (r2.append (.cons ru .nil)) (by rw [List.length_append, List.length_singleton, sizeLine_eq]; omega)
      rw [upd_upd, List.take_append_getElem hlt] at I2
      exact I2
    · exact hit'.at fun o e => (Heap.get?_update_other _ _ (Ne.symm hne)).trans e
/-- what __iter__ and __len__ of a Bag promise -/
def spIter (C : Addr) : Sp := fun vs H Q _ => ∃ (a t : Addr) (x : List Int), vs = [.ref a] ∧ Bg C H a t x ∧ ∀ it, H it = none → (∀ L o, H L = some o → L < it) → Q (.ref it) (upd H it (TiO t it))
def spLen (C : Addr) : Sp := fun vs H Q _ => ∃ (a t : Addr) (x : List Int), vs = [.ref a] ∧ Bg C H a t x ∧ Q (.int (x.length : Int)) H
def rListB (C : Addr) : List V → Hp → VK → Prop := fun xs H Q => ∃ (a t : Addr) (x : List Int), xs = [.ref a] ∧ Bg C H a t x ∧ x.length ≤ 1000 ∧ ∀ L, H L = none → Q (.ref L) (upd H L (.lst (x.map V.int)))
theorem call_listB {C : Addr} {kI kL : Nat} {psI psL : List Str} (hc : X.calm = true) (hx0 : ∀ e s, ¬ X.xe e s) (OI : OwnM X.prog X.w X.K X.mg X.base C "__iter__" kI psI (spIter C)) (OL : OwnM X.prog X.w X.K X.mg X.base C "__len__" kL psL (spLen C)) (hrI : Room (kI + 2) X.A) (hrL : Room (kL + 3) X.A) : CallR X (.type "list") (rListB C) := by
  intro pins s σ H xs us Q I rv h
  obtain ⟨a, t, x, rfl, bg, hz, q⟩ := h
  rw [Vals.ref1 rv]
  obtain ⟨gI, MI, FI⟩ := OI.fnR
  obtain ⟨gL, ML, FL⟩ := OL.fnR
  have hI2 : Room kI X.A.in1.in1 := (show Room (kI + 1) X.A.in1 from Room.in1 hrI).in1
  have hL3 : Room kL X.A.in1.in1.in1 := (show Room (kL + 1) X.A.in1.in1 from (show Room (kL + 2) X.A.in1 from Room.in1 hrL).in1).in1
  refine callType_codes (Q₁ := fun obj s₁ => obj = .ref s.heap.objs.size ∧ s₁ = { s with heap := s.heap.push { cls := .type "list", data := .seq #[] } }) PySem.F.called_list (PySem.F.typeCall_list_1 _) PySem.F.entry_list_init
    (code_list_new _ ⟨rfl, rfl⟩) fun obj s₁ h₁ => ?_
  obtain ⟨rfl, rfl⟩ := h₁
  have hS : (s.heap.push { cls := .type "list", data := .seq #[] }).get? s.heap.objs.size = some { cls := .type "list", data := .seq #[] } := Heap.get?_push_size _ rfl
  refine ⟨⟨_, hS, rfl⟩, PySem.F.args_list_init_2 _ _, ?_⟩
  have fr : H s.heap.objs.size = none := I.hok.fresh (Nat.le_refl _)
  have hN : X.s_0.heap.objs.size ≤ s.heap.objs.size := I.sz
  have hq := q _ fr
  have I1 : Inv X pins σ (upd H s.heap.objs.size (.lst [])) { s with heap := s.heap.push { cls := .type "list", data := .seq #[] } } := I.lnew (its := []) (t' := s.toks) .nil (Nat.zero_le _)
  show wpAny _ _ (do let old ← Builtin.List.listItems (.ref s.heap.objs.size); Builtin.List.listUpdate (.ref s.heap.objs.size) (fun _ => #[]); letGo old.toList.reverse; Builtin.List.listExtendWith (.ref s.heap.objs.size) (.ref a) .none) _ _ _
  refine wpAny_bind ?_
  unfold Builtin.List.listItems
  refine wpAny_bind (wpAny_seqItems hS rfl (wpAny_pure ?_))
  show wpAny _ _ (updateSeq s.heap.objs.size (fun _ => #[]) >>= fun _ => letGo (#[] : Array Value).toList.reverse >>= fun _ => Builtin.List.listExtendWith (.ref s.heap.objs.size) (.ref a) .none) _ _ _
  refine wpAny_bind (wpAny_updateSeq hS rfl ?_)
  have I2 := I1.lset (f := fun _ => #[]) (its := []) (its' := []) (ys := []) (t' := s.toks) upd_same hS rfl .nil (Nat.zero_le _)
  rw [upd_upd] at I2
  refine wpAny_bind (wpAny_letGo ?_)
  generalize s.heap.objs.size = L at fr hN hq I2 ⊢
  obtain ⟨dx, ea⟩ := bg.ins
  have sL := same_upd (o := .lst []) fr
  have bg2 : Bg C (upd H L (.lst [])) a t x := bg.same sL
  have ea2 := sL _ _ ea
  have hne : L ≠ a := fun z => by rw [← z, fr] at ea; cases ea
  revert I2
  generalize ({ s with heap := (s.heap.push { cls := .type "list", data := .seq #[] }).update L (Obj.mapSeq fun _ => #[]), toks := s.toks } : Shared) = s2
  intro I2
  obtain ⟨od, J⟩ := ins_inst I2 ea2
  obtain ⟨m0, hF⟩ := I2.fr
  unfold Builtin.List.listExtendWith
  refine wpAny_bind (J.type.here ?_)
  have h1 : Builtin.List.listSameRef (.ref L) (.ref a) = false := by simp [Builtin.List.listSameRef, hne]
  have h2 : (Value.ref C == Value.type "list") = false := rfl
  have h3 : (Value.ref C == Value.type "tuple") = false := rfl
  simp only [h1, h2, h3, Bool.or_false, Bool.false_eq_true, if_false]
  refine wpAny_bind (PySem.W.owit_iter hF I2.ok.mod.kin J MI.at_ MI.fn ?_)
  refine wpAny_mono (run_one (n := 0) (Q := fun v H' => ∃ it, v = .ref it ∧ (upd H L (.lst [])) it = none ∧ L < it ∧ H' = upd (upd H L (.lst [])) it (TiO t it)) FI hI2 I2.env0.in1.in1 passX0 I2 ⟨a, t, x, rfl, bg2, fun it hn hlt => ⟨it, rfl, hn, hlt L _ upd_same, rfl⟩⟩) (fun u s3 z => ?_) (fun e s' z => absurd z (hx0 e s'))
  obtain ⟨v, H3, I3, rv3, it, rfl, hn, hlt, rfl⟩ := z
  obtain rfl : u = .ref it := rv3
  have git : s3.heap.get? it = some (tiObj t) := (I3.hok it _ upd_same).1
  have hT : s3.TypeIs (.ref it) "tuple_iterator" := ⟨_, git, rfl⟩
  unfold PySem.W.OwitIt
  refine wpAny_specialOf (name := Str.ofString "__next__") hT PySem.F.slot_tuple_iterator_next.lookup ?_
  have s3' := same_upd (o := TiO t it) hn
  have ea3 := s3' _ _ ea2
  refine wpAny_bind (wpAny_holding ?_)
  obtain ⟨od4, J4⟩ := ins_inst I3 ea3
  obtain ⟨m4, hF4⟩ := I3.fr
  unfold Builtin.List.listLengthHint
  refine wpAny_bind (wpAny_bind (J4.type.here ((PySem.W.looks_findIn I3.kIn ML.at_).here ?_)))
  refine PySem.W.KFB.if_not rfl ?_
  refine wpAny_ite_split (fun _ => ?_) (fun hab => absurd rfl hab)
  refine wpAny_bind (wpAny_rule ?_)
  refine wpAny_bind (wpAny_attempt (PySem.W.len_K hF4 I3.ok.mod.kin J4 ML.at_ ML.fn ?_))
  refine wpAny_mono (run_one (n := 0) (Q := fun v H' => v = .int (x.length : Int) ∧ H' = upd (upd H L (.lst [])) it (TiO t it)) FL hL3 I3.env0.in1.in1.in1 passX0 I3 ⟨a, t, x, rfl, bg2.same s3', rfl, rfl⟩) (fun u s5 z => ?_) (fun e s' z => absurd z (hx0 e s'))
  obtain ⟨v5, H5, I5, rv5, rfl, rfl⟩ := z
  obtain ⟨tk, rfl⟩ : ∃ tk, u = Value.int (x.length : Int) tk := rv5
  refine ⟨⟨by omega, by omega⟩, ?_⟩
  have htl : Builtin.List.listTooLong ((x.length : Int).toNat) = false := notLongL (by rw [Int.toNat_natCast, sizeLine_eq]; omega)
  refine wpAny_bind (m := asInt? _) (wpAny_pure ?_)
  refine wpAny_ite_split (fun hab => absurd hab (by rw [htl]; decide)) (fun _ => wpAny_pure ?_)
  have I5' := I5.tok (s5.toks + 1)
  have git5 : s5.heap.get? it = some (tiObj t) := (I5.hok it _ upd_same).1
  have fp3 := ItX.inv_fp I5' upd_same (Nat.le_of_lt (Nat.lt_of_le_of_lt hN hlt))
  have I6 := ItX.inv_drop I5' upd_same
  rw [ItX.dropH_upd hn] at fp3 I6
  have hneI : it ≠ L := Nat.ne_of_gt hlt
  have hnH : H it = none := by rw [← hn, upd_ne hneI]
  have fp : ∀ o, FpOk X pins (upd H L o) it := fun o => ⟨by rw [upd_ne hneI]; exact hnH, fp3.2⟩
  have hh : X.A.in1.in1.handled = none := I.ok.hd hc
  have done : ∀ s', Inv X pins σ (upd H L (.lst (x.map V.int))) s' → wants (fun r s₂ => r = Value.none ∧ EP X pins σ Q (Value.ref L) s₂) X.xe (.ok (.ret .none)) s' := fun s' I' => ⟨rfl, .ref L, _, I', rfl, hq⟩
  have loop := fun s' I' ti => ti_loop (A1 := X.A.in1) (σ := σ) hh bg.tup fr (by rw [List.length_map]; exact hz) hneI fp done (x.map V.int).length 0 s' rfl (Nat.zero_le _) I' ti
  obtain ⟨z6, its6, k6, r6, hl6, e6⟩ := I6.lstM upd_same
  cases r6
  refine wpAny_ite_split (fun _ => ?_) (fun _ => wpAny_pure ⟨plainId_quiet PySem.F.plain_extend_loop _, loop _ I6 ⟨_, git5, rfl, rfl⟩⟩)
  refine wpAny_bind (wpAny_rule ?_)
  refine wpAny_bind ?_
  show wpAny _ _ (updateSeq L (·.push .none) >>= fun _ => updateSeq L (·.pop)) _ _ _
  refine wpAny_bind (wpAny_updateSeq e6 rfl ?_)
  have I7 := I6.lset (f := (·.push Value.none)) (its' := [Value.none]) (ys := [.non]) (t' := s5.toks + 1) upd_same e6 (by simp) (.cons rfl .nil) (by rw [List.length_singleton, sizeLine_eq]; decide)
  obtain ⟨z4, its4, k4, r4, hl4, e4⟩ := I7.lstM upd_same
  obtain ⟨u4, rfl, ru4⟩ := r4.one
  refine wpAny_updateSeq e4 rfl ?_ (by show 1 ≤ sizeLine; rw [sizeLine_eq]; decide) (by show 0 ≤ sizeLine + 1; exact Nat.zero_le _)
  refine wpAny_pure ⟨plainId_quiet PySem.F.plain_extend_loop _, loop _ ?_ ?_⟩
  · have I8 := I7.lset (f := (·.pop)) (its := [u4]) (its' := []) (ys := []) (t' := s5.toks + 1) upd_same e4 (by rfl) .nil (Nat.zero_le _)
    rw [upd_upd, upd_upd] at I8
    exact I8
  · exact ⟨tiObj t, (Heap.get?_update_other _ _ (Ne.symm hneI)).trans ((Heap.get?_update_other _ _ (Ne.symm hneI)).trans git5), rfl, rfl⟩
end
end Lb
set_option Elab.async false
set_option linter.all false
set_option maxRecDepth 100000
set_option maxHeartbeats 4000000
namespace Lb
open PySem PySem.Spec PyProof.Rows L2 RZ TL
section
variable {X : Cx} {C : Addr} {k : Nat} {ps : List Str} {sp : Sp} {E : XK}
/-! ### bool(x) -/
theorem raw_boolO {prog : Program} {w : World} {A : Around} {E : Value → Shared → Prop} {s : Shared} {x : Addr} {Q : Value → Shared → Prop} (h : wpAny (model prog w) A.in1.in1 (truthy (.ref x)) (fun b s' => Q (.bool b) s') E s) : wpAny (model prog w) A (call (.type "bool") [.ref x]) Q E s := by
  refine callType_codes (Q₁ := fun obj s₁ => ∃ b, obj = .bool b ∧ Q (.bool b) s₁) PySem.F.called_bool (PySem.F.typeCall_bool_1 _) PySem.F.entry_object_init ?_ ?_
  · refine codeAny_call_builtin PySem.F.called_bool.plain PySem.F.entry_bool_new (wpAny_of_eq (PySem.F.newCall_bool_1 _) ?_)
    unfold Builtin.«bool.__new__»
    have f1 := PySem.F.conv_sub_bool
    obtain ⟨hp, g, d, tk, os⟩ := s
    repeat (any_goals (first | assumption | (refine wpAny_bind (m := truthy (.ref x)) (wpAny_mono h (fun b s' hq => ?_) fun e s' he => ?_)) | wp_step))
    all_goals first | exact ⟨_, rfl, hq⟩ | exact he | skip
  · rintro obj s₁ ⟨b, rfl, hq⟩
    refine ⟨rfl, PySem.F.args_object_init_2 _ _, ?_⟩
    exact (object_init_meets PySem.F.called_bool.init.lookup PySem.F.called_bool.made PySem.F.newNe_bool).inModel prog w A.in1 _ s₁ ⟨rfl, rfl, hq⟩
theorem call_boolM (O : OwnM X.prog X.w X.K X.mg X.base C "__bool__" k ps sp) (hr : Room (k + 2) X.A) (hx : Passes (L2.CX X.prog X.w) X E) : CallR X (.type "bool") (rOne C sp E fun z H Q => ∃ b : Bool, z = .bl b ∧ Q (.bl b) H) := by
  intro pins s σ H xs us Q I r h
  obtain ⟨a, dx, fs, rfl, ha, q⟩ := h
  rw [Vals.ref1 r]
  obtain ⟨g, M, F⟩ := O.fnR
  obtain ⟨od, J⟩ := ins_inst I ha
  obtain ⟨m, hF⟩ := I.fr
  have hr2 : Room k X.A.in1.in1 := (show Room (k + 1) X.A.in1 from Room.in1 hr).in1
  refine raw_boolO (PySem.W.truthy_K hF I.ok.mod.kin J M.at_ M.fn ?_)
  refine wpAny_mono (run_one (n := 0) F hr2 I.env0.in1.in1 hx I q) (fun v s' z => ?_) fun _ _ x => x
  obtain ⟨z', H', I', rz, b, ez, qz⟩ := z
  subst ez
  cases (show v = Value.bool b from rz)
  exact ⟨.bl b, H', I', rfl, qz⟩
/-! ### x[i] -/
def rIxO (C : Addr) (sp : Sp) (E : XK) : R2 := fun x y H Q => ∃ a dx fs i, x = .ref a ∧ y = .int i ∧ H a = some (.ins C dx fs) ∧ sp [x, y] H Q E
theorem DfM.fnIn {K : PySem.W.Frag} {m qual : Str} {st : Stmt} (D : DfM K C m qual st) : ∀ g, PySem.W.findIn K (.ref C) m = some (some (.ref g)) → PySem.W.fnIn K g = true := by
  intro g hg
  obtain ⟨f, fd, F, M⟩ := D.ex
  have e := M.at_
  rw [hg] at e
  cases e
  obtain ⟨oc, od, kV, doc, pm, an, cdv, ct, osl, rfl, lk, hcd⟩ := F.ex
  unfold PySem.W.fnIn
  rw [lk]
theorem pe_ixO {a b : Expr} {ta tb : TE} {pos : Pos} (O : OwnM X.prog X.w X.K X.mg X.base C "__getitem__" k ps sp) (hfi : ∀ g, PySem.W.findIn X.K (.ref C) "__getitem__" = some (some (.ref g)) → PySem.W.fnIn X.K g = true) (hr : Room (k + 1) X.A) (hx : Passes (L2.CX X.prog X.w) X E)
    (ha : PE X a ta) (hb : PE X b tb) (hsl : ∀ o i, subscripted b true o i = runValue (.builtin "lifetime.subscript" ⟨[o, i], []⟩)) : PE X (.Subscript a b pos) (tOp (rIxO C sp E) ta tb) := by
  refine ⟨fun pins s σ H Q I h => ?_⟩
  refine Subscript_ (binT ha hb I h fun v u s2 x y H2 I2 rx ry q => ?_)
  obtain ⟨c, dx, fs, i, rfl, rfl, hc, q⟩ := q
  cases (show v = Value.ref c from rx)
  obtain ⟨g, M, F⟩ := O.fnR
  obtain ⟨od, J⟩ := ins_inst I2 hc
  obtain ⟨m, hF⟩ := I2.fr
  refine PySem.W.sub_K hF I2.ok.mod.kin J M.at_ (hfi g M.at_) M.fn ?_ (hsl _ _)
  exact wpAny_call (SlX.run_at (us := [.ref c, u]) (ws := [.ref c, .int i]) F hr.in1 I2.env0.in1 hx I2 (.cons rfl (.cons ry .nil)) q)
/-! ### x != y -/
theorem raw_neO {prog : Program} {w : World} {A : Around} {E : Value → Shared → Prop} {s : Shared} {K : PySem.W.Frag} {x y C f : Addr} {ox oy : Obj} {od od2 : Option Obj} {Q : Value → Shared → Prop} (hu : A.units + 1 < cLine) (X : K.In s.heap) (I : PySem.W.InstAt s.heap x ox C od) (I2 : PySem.W.InstAt s.heap y oy C od2)
    (hm : PySem.W.mroIn K C (.type "object") = some true) (hn : PySem.W.findIn K (.ref C) "__ne__" = some (some (.builtin "object.__ne__"))) (hs : PySem.W.findIn K (.ref C) "__eq__" = some (some (.ref f))) (hf : PySem.W.isFn K (.ref f) = true)
    (h : wpAny (model prog w) A.in1 (call (.ref f) [.ref x, .ref y]) (fun v s' => ∃ b, v = .bool b ∧ Q (.bool (!b)) s') E s) : wpAny (model prog w) A (compareOp .NotEq (.ref x) (.ref y)) Q E s := by
  have entry : ∀ {R : Fin → Shared → Prop}, (∀ b s', Q (.bool (!b)) s' → R (.done (.ret (.bool (!b)))) s') → wpAny (model prog w) A.in1 (Builtin.«object.__ne__» ⟨[.ref x, .ref y], []⟩) R E s := by
    intro R hR
    unfold Builtin.«object.__ne__»
    obtain ⟨hp, g, d, tk, os⟩ := s
    repeat (first
      | with_reducible refine wpAny_cRoomFor hu ?_
      | (refine wpAny_bind (m := callSpecialIfBound? (.ref x) (Str.ofString "__eq__") [.ref y])
          (PySem.W.ifBound_K X I hs hf (wpAny_mono h (fun r s' hr => by
            obtain ⟨b, rfl, hq⟩ := hr
            have hq' := hR b s' hq
            repeat (first | exact hq' | exact wpAny_pure hq' | exact wpAny_truthy_bool hq' | (refine wpAny_bind (m := truthy (.bool _)) (wpAny_truthy_bool ?_)) | wp_step)) fun _ _ e => e)))
      | wp_step)
  have one : wpAny (model prog w) A (tryCompare (.ref x) "__ne__" (.ref y)) (fun r s' => ∃ b, r = some (.bool (!b)) ∧ Q (.bool (!b)) s') E s := by
    simp only [tryCompare, callSpecialIfBound?, bindSpecialIfBound?]
    refine wpAny_bind (wpAny_holding (wpAny_bind (wpAny_bind (wpAny_bind (I.type.here ((PySem.W.looks_findIn X hn).here ?_))))))
    refine wpAny_bind (wpAny_askSetting (wpAny_ite ?_))
    have call1 : wpAny (model prog w) A (call (.builtin "object.__ne__") [.ref x, .ref y]) (fun v s' => ∃ b, v = .bool (!b) ∧ Q (.bool (!b)) s') E s :=
      wpAny_call (codeAny_call_builtin PySem.F.cmp_object.ne.plain PySem.F.cmpEntry_ne (PySem.W.check_slot PySem.F.cmpKind_ne PySem.F.cmpSplit_ne (I.type.andThen (PySem.W.looks_mroIn X hm)) (PySem.F.cmpArgs_ne _ _) (entry fun b s' hq => ⟨b, rfl, hq⟩)))
    have fin : wpAny (model prog w) A (call (.builtin "object.__ne__") ([.ref x] ++ [.ref y]) >>= fun v => pure (some v)) (fun a s' => wpAny (model prog w) A (match a with | some Value.notImplemented => pure none | none => pure none | some v => pure (some v)) (fun r s' => ∃ b, r = some (Value.bool !b) ∧ Q (Value.bool !b) s') E s') E s :=
      wpAny_bind (wpAny_mono call1 (fun v s' z => by
        obtain ⟨b, rfl, hq⟩ := z
        exact wpAny_pure (wpAny_pure ⟨b, rfl, hq⟩)) fun _ _ e => e)
    split
    · exact wpAny_bind (wpAny_of_eq (PySem.F.cmp_object.ne.bind _) (wpAny_pure (by exact fin)))
    · exact wpAny_tryCatch (wpAny_bind (wpAny_of_eq (PySem.F.cmp_object.ne.bind _) (wpAny_pure (by exact fin))))
  unfold compareOp
  unfold richCompare
  simp only [oneThing_ref]
  refine wpAny_holding (wpAny_bind (wpAny_cRoomFor (Nat.lt_of_succ_lt hu) ?_))
  rw [cmpInfo_NotEq]
  dsimp only
  refine wpAny_bind (I.type.here (wpAny_bind (I2.type.here ?_)))
  rw [show (Value.ref C != Value.ref C) = false from by simp]
  simp only [Bool.false_eq_true, if_false]
  refine wpAny_bind (wpAny_pure ?_)
  simp only [Bool.false_eq_true, if_false]
  refine wpAny_bind (wpAny_mono one (fun r s' z => ?_) fun _ _ e => e)
  obtain ⟨b, rfl, hq⟩ := z
  exact wpAny_pure hq
theorem op_neM (O : OwnM X.prog X.w X.K X.mg X.base C "__eq__" k ps sp) (hm : PySem.W.mroIn X.K C (.type "object") = some true) (hn : PySem.W.findIn X.K (.ref C) "__ne__" = some (some (.builtin "object.__ne__"))) (hr : Room (k + 1) X.A) (hx : Passes (L2.CX X.prog X.w) X E) :
    OpR X (compareOp .NotEq) (fun x y H Q => ∃ a dx fs b dy gs, x = .ref a ∧ y = .ref b ∧ H a = some (.ins C dx fs) ∧ H b = some (.ins C dy gs) ∧ sp [x, y] H (fun z H' => ∃ c : Bool, z = .bl c ∧ Q (.bl (!c)) H') E) := by
  intro pins s σ H x y v u Q I rx ry h
  obtain ⟨a, dx, fs, b, dy, gs, rfl, rfl, ha, hb, q⟩ := h
  cases (show v = Value.ref a from rx)
  cases (show u = Value.ref b from ry)
  obtain ⟨g, M, F⟩ := O.fnR
  obtain ⟨od, J⟩ := ins_inst I ha
  obtain ⟨od2, J2⟩ := ins_inst I hb
  have hu : X.A.units + 1 < cLine := hr.in1.units0
  refine raw_neO hu I.kIn J J2 hm hn M.at_ M.fn ?_
  refine wpAny_mono (wpAny_call (SlX.run_at (us := [.ref a, .ref b]) (ws := [.ref a, .ref b]) F hr.in1 I.env0.in1 hx I (.cons rfl (.cons rfl .nil)) q)) (fun w s' z => ?_) fun _ _ x => x
  obtain ⟨z', H', I', rz, c, ez, qz⟩ := z
  subst ez
  cases (show w = Value.bool c from rz)
  exact ⟨c, rfl, .bl (!c), H', I', rfl, qz⟩
end
end Lb
namespace Lb
open PySem PySem.Spec PyProof.Rows L2 RZ TL
def spGet (C : Addr) : Sp := fun vs H Q _ => ∃ (a t : Addr) (x : List Int) (i : Nat) (n : Int), vs = [.ref a, .int (i : Int)] ∧ Bg C H a t x ∧ x[i]? = some n ∧ Q (.int n) H
def spBool (C : Addr) : Sp := fun vs H Q _ => ∃ (a t : Addr) (x : List Int), vs = [.ref a] ∧ Bg C H a t x ∧ x.length ≤ 4 ∧ ∀ H', Same H H' → Q (.bl (x.any fun n => decide (0 < n))) H'
end Lb
namespace Lb
open PySem PySem.Spec PyProof.Rows L2 RZ TL
/-- cls(e), cls a local name that holds the class Bag -/
def tBagV (i : Nat) (K : PySem.W.Frag) (C CB : Addr) (E : XK) (t : TA) : TE := fun σ H Q => σ[i]? = some (some (.ref C)) ∧ tBag K C CB E t σ H Q
theorem pe_bagV {X : Cx} {C CB : Addr} {k i : Nat} {E : XK} {e : Expr} {ta : TA} {x : Str} {p pos : Pos} (c : BagC X.K X.mg C) (O : OwnM X.prog X.w X.K X.mg X.base C "__init__" k ["self", "amounts"] (spInit X.K C CB)) (hr : Room (k + 1) X.A) (hx : Passes (L2.CX X.prog X.w) X E) (hN : X.N[i]? = some x) (hv : Vis X.env.scope x) (ha : PA X [e] ta)
    (hd : (x == ("__debug__" : Str)) = false := by decide) (hcd : (x == ("__classdict__" : Str)) = false := by decide)
    (he : starEach [e] X.env = (false, eval e X.env) :: starEach [] X.env := by rfl) (hpl : (backTo pos (starEach [] X.env)).any (·.1) = false := by rfl) : PE X (.Call (.Name x p) [e] [] pos) (tBagV i X.K C CB E ta) := by
  obtain ⟨f, fd, M, F, b⟩ := O.ex
  refine ⟨fun pins s σ H Q I h => ?_⟩
  obtain ⟨hs, h⟩ := h
  refine wpAny_Call_Name_kw (thn ((pe_var (pos := p) (i := i) hN hv hd hcd).run pins s σ H (fun v H1 => v = .ref C ∧ H1 = H) I ⟨.ref C, hs, rfl, rfl⟩) fun u s1 ⟨v, H1, I1, r1, ev, eH⟩ => ?_)
  subst ev
  rw [eH] at I1
  cases r1
  refine PySem.W.callWith_K (h₀ := X.base) I.ok.mod.kin c.kp (thn (ha.run pos pins s1 σ H _ I1 h) fun us s2 ⟨vs, H2, I2, r2, q2⟩ => ⟨I2.kIn, ?_⟩) he hpl
  refine run_make (E := E) (dvs := []) ⟨c.mkI, M.at_, M.fn, c.kp⟩ F hr b .nil hx I2 r2 fun x dx nx ndx ne => ?_
  obtain ⟨v, rfl, q⟩ := q2
  have s3 : Same H2 (upd (upd H2 dx (.own x)) x (.ins C dx [])) := fun b o e => by
    rw [upd_ne (ne_of_none e nx), upd_ne (ne_of_none e ndx)]
    exact e
  have keep : ∀ {H' : Hp}, Same (upd (upd H2 dx (.own x)) x (.ins C dx [])) H' → Same H2 (upd H' x (.ins C dx [("held", v)])) := fun {H'} sm b o e => by
    rw [upd_ne (ne_of_none e nx)]
    exact sm _ _ (s3 _ _ e)
  refine ⟨x, dx, v, rfl, upd_same, ?_⟩
  rcases q with ⟨R, ds, hd, hl, q1, q2⟩ | ⟨hn, q2⟩
  · exact .inl ⟨R, ds, hd.same s3, hl, fun hm H' sm => ⟨rfl, q1 hm _ x dx (keep sm) nx upd_same⟩, fun hm H' sm => q2 hm H' (s3.trans sm)⟩
  · exact .inr ⟨hn.same s3, fun H' sm => q2 H' (s3.trans sm)⟩
/-- m of the good at i, nothing of the others -/
def ofL (g : Nat) (i m : Int) : List Int := (List.range g).map fun k => if ((k : Nat) : Int) = i then m else 0
def spOf (C : Addr) : Sp := fun vs H Q _ => ∃ (g : Nat) (i m : Int), vs = [.ref C, .int (g : Int), .int i, .int m] ∧ 1 ≤ g ∧ g ≤ 4 ∧ 0 ≤ m ∧ ∀ (H' : Hp) (p t : Addr), Same H H' → Bg C H' p t (ofL g i m) → Q (.ref p) H'
theorem ofL_ok {g : Nat} {i m : Int} (h1 : 1 ≤ g) (h4 : g ≤ 4) (hm : 0 ≤ m) : BgOk (ofL g i m) := by
  refine ⟨by unfold ofL; rw [List.length_map, List.length_range]; exact h1, by unfold ofL; rw [List.length_map, List.length_range]; exact h4, fun x hx => ?_⟩
  obtain ⟨k, _, rfl⟩ := List.mem_map.mp hx
  split <;> omega
theorem ofL_len {g : Nat} {i m : Int} : (ofL g i m).length = g := by unfold ofL; rw [List.length_map, List.length_range]
theorem ofL_take {g : Nat} {i m : Int} {k : Nat} (hk : k < g) : (ofL g i m).take (k + 1) = (ofL g i m).take k ++ [if ((k : Nat) : Int) = i then m else 0] := by
  have h : (ofL g i m)[k]? = some (if ((k : Nat) : Int) = i then m else 0) := by
    unfold ofL
    rw [List.getElem?_map, List.getElem?_range hk]
    rfl
  rw [List.take_add_one, h]
  rfl
/-- a classmethod with one default -/
structure OwnC (P : Program) (w : World) (K : PySem.W.Frag) (mg : Str → Option Value) (base : Heap) (C : Addr) (m : Str) (k : Nat) (dv : V) (sp : Sp) : Prop where
  ex : ∃ (mc : Value) (p g : Addr), ClX.CRead K C mc ∧ ClX.CMet K C mc m p g ∧ FnR P w K mg base (L2.CX P w) k g sp ∧ FnR P w K mg base (L2.CX P w) k g (fun vs H Q E => sp (vs ++ [dv]) H Q E)
section
variable {X : Cx} {C : Addr} {k : Nat} {dv : V} {sp : Sp} {E : XK} {m : Str} {o e : Expr} {es : List Expr} {pos apos : Pos} {ta : TE} {t : TA} {pl : Sem Bool}
theorem pe_clsM (O : OwnC X.prog X.w X.K X.mg X.base C m k dv sp) (hr : Room k X.A) (hx : Passes (L2.CX X.prog X.w) X E) (he : PE X o ta) (ha : PA X (e :: es) t)
    (hst : starEach (e :: es) X.env = (false, eval e X.env) :: starEach es X.env := by rfl) (hpl : (backTo pos (starEach es X.env)).any (·.1) = false := by rfl)
    (ht : eval (.Call (.Attribute o m apos) (e :: es) [] pos) X.env = (do
      let ov ← eval o X.env
      standAt apos.atName
      let (f, first) ← holding [ov] (getMethod ov m pl)
      callWith pos f first (backTo pos (starEach (e :: es) X.env)) (backToKw pos (keywordEach [] X.env))) := by rfl) :
    PE X (.Call (.Attribute o m apos) (e :: es) [] pos) (ClX.tCMeth C sp E ta t) := by
  obtain ⟨mc, p, g, r, c, F, _⟩ := O.ex
  exact ClX.pe_cmeth he r c F hr hx ha hst hpl ht
theorem pe_clsD (O : OwnC X.prog X.w X.K X.mg X.base C m k dv sp) (hr : Room k X.A) (hx : Passes (L2.CX X.prog X.w) X E) (he : PE X o ta) (ha : PA X (e :: es) t)
    (hst : starEach (e :: es) X.env = (false, eval e X.env) :: starEach es X.env := by rfl) (hpl : (backTo pos (starEach es X.env)).any (·.1) = false := by rfl)
    (ht : eval (.Call (.Attribute o m apos) (e :: es) [] pos) X.env = (do
      let ov ← eval o X.env
      standAt apos.atName
      let (f, first) ← holding [ov] (getMethod ov m pl)
      callWith pos f first (backTo pos (starEach (e :: es) X.env)) (backToKw pos (keywordEach [] X.env))) := by rfl) :
    PE X (.Call (.Attribute o m apos) (e :: es) [] pos) (ClX.tCMeth C (fun vs H Q E => sp (vs ++ [dv]) H Q E) E ta t) := by
  obtain ⟨mc, p, g, r, c, _, F⟩ := O.ex
  exact ClX.pe_cmeth he r c F hr hx ha hst hpl ht
end
end Lb
namespace Lb
open PySem PySem.Spec PyProof.Rows L2 RZ TL
/-- whether a Bag can be made of it -/
def spMade (K : PySem.W.Frag) : Sp := fun vs H Q _ => ∃ v, vs = [v] ∧
  ((∃ (p : Addr) (b : List Int), v = .ref p ∧ H p = some (.tup (b.map V.int)) ∧ BgOk b ∧ ∀ H', Same H H' → Q (.bl true) H') ∨
    (((∃ (R : Rgn) (ds : List PyData), Dat R H v (.tuple ds) ∧ ds.length ≤ 1000 ∧ mkB (.tuple ds) = false) ∨ NotT K H v) ∧ ∀ H', Same H H' → Q (.bl false) H'))
end Lb
namespace Lb
open PySem PySem.Spec PyProof.Rows L2 RZ TL
/-- a block in a block with two free names, one of them a cell of the outer block -/
theorem blkOk_two {N : List Str} {sc scope : Scope} {own : List (Str × Nat)} {a b : Str} (h : blkC N { kind := .function, names := [(a, .cell), (b, .cell)], isGenerator := false, isCoroutine := false } scope own = true) (ha : sc.names.lookup a = some .cell) (hb : sc.names.lookup b = some .cell) : BlkOk N sc scope own := by
  have k := blkOk_by h
  refine ⟨k.kind, k.uniq, k.ix, fun y hy e => ?_, k.own⟩
  have one : ∀ {z : NameKind}, List.lookup y.1 [(a, NameKind.cell), (b, NameKind.cell)] = some z → sc.names.lookup y.1 = some .cell ∨ sc.names.lookup y.1 = some .free := by
    intro z hz
    by_cases h1 : y.1 = a
    · rw [h1]
      exact .inl ha
    · by_cases h2 : y.1 = b
      · rw [h2]
        exact .inl hb
      · rw [List.lookup_cons, beq_eq_false_iff_ne.mpr h1, List.lookup_cons, beq_eq_false_iff_ne.mpr h2] at hz
        cases hz
  rcases k.free y hy e with z | z
  · exact one z
  · exact one z
end Lb
set_option Elab.async false
set_option linter.all false
set_option maxRecDepth 100000
set_option maxHeartbeats 4000000
namespace Lb
open PySem PySem.Spec PyProof.Rows L2 RZ TL
theorem numL_chars : ∀ (n : Nat), ∀ c ∈ numL n, c < 200 := by
  intro n
  induction n using Nat.strongRecOn with
  | _ n ih =>
    intro c hc
    by_cases h : n < 10
    · rw [numL_lt h] at hc
      rw [List.mem_singleton.mp hc]
      omega
    · rw [numL_step (by omega)] at hc
      rcases List.mem_append.mp hc with hc | hc
      · exact ih (n / 10) (by omega) c hc
      · rw [List.mem_singleton.mp hc]
        omega
theorem num_charsW {x : Int} (h0 : 0 ≤ x) : ∀ c ∈ tl (numS x), c < 200 := by
  obtain ⟨n, rfl⟩ : ∃ n : Nat, x = (n : Int) := ⟨x.toNat, by omega⟩
  intro c hc
  have e : tl (numS ((n : Nat) : Int)) = numL n := tl_num n
  rw [e] at hc
  exact numL_chars n c hc
theorem bag_charsW {b : List Int} (h : AmtsW b) : ∀ c ∈ tl (bagS b), c < 200 := by
  intro c hc
  unfold bagS at hc
  rw [join_eq, tl_join] at hc
  rcases mem_joinL hc with z | ⟨p, hp, hc⟩
  · have e2 : tl (" " : Str) = [32] := by decide +kernel
    rw [e2] at z
    rw [List.mem_singleton.mp z]
    decide
  · obtain ⟨w, hw, rfl⟩ := List.mem_map.mp hp
    obtain ⟨x, hx, rfl⟩ := List.mem_map.mp hw
    exact num_charsW (h x hx).1 c hc
theorem bagS_okW {b : List Int} (h : AmtsW b) (h4 : b.length ≤ 4) : Ok 2100 0 (.str (bagS b)) := by
  refine ⟨rfl, ?_, by rw [PyData.depth]; exact Nat.le_refl _⟩
  have h1 := StrLaws.reprText_len (bagS b) (fun c hc => by have := bag_charsW h c hc; omega)
  have h2 := join_len " " (wordsB b)
  have h3 := words_sumW h
  have h5 : (wordsB b).length = b.length := by unfold wordsB; rw [List.length_map]
  have h6 : (" " : Str).length = 1 := by decide +kernel
  rw [h5, h6] at h2
  show (reprText (bagS b)).length ≤ _
  have h7 : (bagS b).length ≤ 30 * b.length + b.length * 1 := by
    unfold bagS
    omega
  omega
theorem sum_any : ∀ {b : List Int}, (∀ x ∈ b, 0 ≤ x) → 0 ≤ b.sum ∧ decide (0 < b.sum) = b.any fun n => decide (0 < n)
  | [], _ => ⟨Int.le_refl _, rfl⟩
  | x :: b, h => by
    obtain ⟨h1, h2⟩ := sum_any (b := b) fun y hy => h y (List.mem_cons_of_mem _ hy)
    have hx := h x List.mem_cons_self
    rw [List.sum_cons, List.any_cons, ← h2]
    refine ⟨by omega, ?_⟩
    by_cases h3 : 0 < x
    · rw [decide_eq_true h3, Bool.true_or]
      exact decide_eq_true (by omega)
    · rw [decide_eq_false h3, Bool.false_or]
      have e : x = 0 := by omega
      rw [e, Int.zero_add]
theorem sIx_m1 (n : Nat) (h : 1 ≤ n) : HT.sIx n n (some (-1)) = n - 1 := by
  show (if (-1 : Int) < 0 then ((-1 : Int) + (n : Int)).toNat else min (-1 : Int).toNat n) = n - 1
  rw [if_pos (by decide)]
  omega
theorem rd_m1 {K : PySem.W.Frag} {R : Rgn} {H : Hp} {a : Addr} {xs : List V} {Q : VK} (e : H a = some (.tup xs)) (h1 : 1 ≤ xs.length) (new : ∀ p, H p = none → R p)
    (q : ∀ (H' : Hp) (p : Addr), Same H H' → R p → H' p = some (.tup (xs.take (xs.length - 1))) → Q (.ref p) H') : rSlA K (.ref a) none (some (-1)) H Q := by
  refine ⟨a, xs, rfl, .inl (.inl e), fun h => ?_, fun h p hp => ?_⟩
  · exfalso
    have := h.2
    rw [sIx_m1 _ h1] at this
    omega
  · have ec : cutV xs none (some (-1)) = xs.take (xs.length - 1) := by
      unfold cutV
      rw [HT.sIx_none, sIx_m1 _ h1, List.drop_zero, Nat.sub_zero]
    rw [ec]
    exact q _ p (same_upd hp) (new p hp) upd_same
/-- tuples that no Bag is made of -/
theorem notT_non {K : PySem.W.Frag} {H : Hp} : NotT K H .non := ⟨.type "NoneType", .base .non, kit_ty (by decide +kernel)⟩
theorem notT_lst {K : PySem.W.Frag} {H : Hp} {p : Addr} {xs : List V} (e : H p = some (.lst xs)) : NotT K H (.ref p) := ⟨.type "list", .base (.lst e), kit_ty (by decide +kernel)⟩
theorem mkB_bad {ds : List PyData} {d : PyData} (h : nn d = false) : mkB (.tuple (ds ++ [d])) = false := by
  show (decide (1 ≤ (ds ++ [d]).length) && decide ((ds ++ [d]).length ≤ 4) && (ds ++ [d]).all nn) = false
  rw [List.all_append, List.all_cons, h, Bool.false_and, Bool.and_false, Bool.and_false]
theorem dats_ints {R : Rgn} {H : Hp} : ∀ b : List Int, Dats R H (b.map V.int) (b.map PyData.int)
  | [] => .nil
  | x :: b => .cons (.int x) (dats_ints b)
theorem dat_last {H : Hp} {p : Addr} {b : List Int} {v : V} {d : PyData} (e : H p = some (.tup ((b.map V.int).take ((b.map V.int).length - 1) ++ [v]))) (hv : Dat (fun _ => True) H v d) : Dat (fun _ => True) H (.ref p) (.tuple ((b.take (b.length - 1)).map PyData.int ++ [d])) := by
  refine .tup trivial e ?_
  rw [List.length_map, ← List.map_take]
  exact (dats_ints _).append (.cons hv .nil)
theorem mul_of {g : Nat} {i m : Int} {k : Nat} : m * (if (decide (V.int (0 + ((k : Nat) : Int)) = V.int i)) = true then (1 : Int) else 0) = if ((k : Nat) : Int) = i then m else 0 := by
  by_cases h : ((k : Nat) : Int) = i
  · rw [if_pos h, decide_eq_true (show V.int (0 + ((k : Nat) : Int)) = V.int i by rw [← h]; congr 1; omega), if_pos rfl, Int.mul_one]
  · rw [if_neg h, decide_eq_false (show ¬ V.int (0 + ((k : Nat) : Int)) = V.int i from fun z => h (by have := V.int.inj z; omega)), if_neg (by decide), Int.mul_zero]
end Lb
namespace Lb
open PySem PySem.Spec PyProof.Rows L2 RZ TL
/-- `goods < 4 and bag == Bag(row + (0,))` -/
theorem rd_longer {K : PySem.W.Frag} {C CB : Addr} {E E' : XK} {σ : L2.St} {H : Hp} {Qb : Bool → Hp → Prop} {px pr : Addr} {b : List Int} {g : Nat} (h3 : σ[3]? = some (some (.int (g : Int)))) (h4 : σ[4]? = some (some (.ref pr))) (h6 : σ[6]? = some (some (.ref px))) (X : Bg C H px pr b) (hg : b.length = g) (ok : BgOk b)
    (q : ∀ H', Same H H' → Qb false H') :
    tAnd (tTest (tOp (rI0 fun i j => V.bl (decide (i < j))) (tVar 3) (tC (V.int 4)))) (tTest (tOp (rBinO C (spEq K C) E) (tVar 6) (tBag K C CB E' (tCons (tOp (rCatA K) (tVar 4) (tTup (tCons (tC (V.int 0)) tNil))) tNil)))) σ H Qb := by
  have ok4 := ok.four
  refine ⟨_, h3, _, _, rfl, rfl, _, rfl, ite2 (fun hc => ?_) (fun hc => ?_)⟩
  · have hc' : (g : Int) < 4 := of_decide_eq_true hc
    refine ⟨_, h6, _, h4, (by show 1 ≤ sizeLine; decide), fun p1 z1 => ?_⟩
    have s1 := same_upd (o := .tup [V.int 0]) z1
    refine rd_cat (R := fun _ => True) trivial trivial (s1 _ _ X.tup) upd_same (by rw [List.length_map]; show b.length + 1 ≤ 1000000; omega) (fun _ _ => trivial) fun H2 p2 s2 _ e2 => ?_
    have zok : BgOk (b ++ [0]) := ⟨by rw [List.length_append, List.length_singleton]; omega, by rw [List.length_append, List.length_singleton]; omega, fun x hx => by
      rcases List.mem_append.mp hx with hx | hx
      · exact ok.nn x hx
      · rw [List.mem_singleton.mp hx]
        omega⟩
    have no : ¬ mkB (bagD (b ++ [0])) = false := by rw [mkB_ok zok]; exact fun h => nomatch h
    have e3 : H2 p2 = some (.tup ((b ++ [0]).map V.int)) := by rw [List.map_append]; exact e2
    refine ⟨_, rfl, .inl ⟨fun _ => True, _, Dat.mkBag trivial e3, by rw [List.length_map, List.length_append, List.length_singleton]; omega, fun _ H3 pz dz s3 f3 ez => ?_, fun hm => absurd hm no⟩⟩
    have Z : Bg C H3 pz p2 (b ++ [0]) := ⟨⟨dz, ez⟩, s3 _ _ e3⟩
    have S3 := (s1.trans s2).trans s3
    refine rd_eq (X.same S3) Z ok zok ⟨_, rfl, ?_⟩
    rw [decide_eq_false fun e => by have := congrArg List.length e; rw [List.length_append, List.length_singleton] at this; omega]
    exact q H3 S3
  · exact q H (Same.refl H)
end Lb
namespace Lb
open PySem PySem.Spec PyProof.Rows L2 RZ TL
theorem rd_rep5 {K : PySem.W.Frag} {R : Rgn} {σ : L2.St} {H : Hp} {z : Addr} {Q : VK} (ez : H z = some (.tup [.int 0])) (rz : R z) (new : ∀ p, H p = none → R p)
    (q : ∀ (H' : Hp) (p : Addr), Same H H' → R p → H' p = some (.tup ((List.replicate 5 (0 : Int)).map V.int)) → Q (.ref p) H') : tC (V.int 5) σ H (fun y H2 => rRepA K (.ref z) y H2 Q) := by
  show rRepA K (.ref z) (.int ((5 : Nat) : Int)) H Q
  exact rd_rep0 ez rz new (by omega) q
end Lb
set_option Elab.async false
set_option linter.all false
set_option maxRecDepth 100000
set_option maxHeartbeats 4000000
namespace Lb
open PySem PySem.Spec PyProof.Rows L2 RZ TL
/-! ### desks: what is wrong with a market at a desk -/
/-- what desk_error answers -/
def dErr (d : PyData) : PyData := match mErr d with
  | .none => (match d with
    | .tuple [.int g, .tuple ts] => if 3 < g ∨ 3 < ts.length then errD "room" else .none
    | _ => .none)
  | e => e
def spDErr : Sp := fun vs H Q _ => ∃ (R : Rgn) (v : V) (d : PyData), vs = [v] ∧ Dat R H v d ∧ wt d ≤ 1000000 ∧ (∀ p, H p = none → R p) ∧ ∀ (H' : Hp) (u : V), Same H H' → Dat R H' u (dErr d) → Q u H'
theorem mErr_none {d : PyData} (h : mErr d = .none) : ∃ (g : Int) (ts : List PyData), d = .tuple [.int g, .tuple ts] ∧ 1 ≤ g ∧ g ≤ 4 ∧ ts.length ≤ 4 := by
  unfold mErr at h
  split at h
  · rename_i g ts
    split at h
    · rename_i h1
      split at h
      · rename_i h2
        exact ⟨g, ts, rfl, h1.1, h1.2, h2⟩
      · cases h
    · cases h
  · split at h <;> cases h
  · cases h
  · cases h
def isNV : V → Bool
  | .non => true
  | _ => false
/-- check_kind(bag, value) -/
def spCKind (K : PySem.W.Frag) (C CB : Addr) : Sp := fun vs H Q E => ∃ (a t : Addr) (x : List Int) (y : V), vs = [.ref a, y] ∧ Bg C H a t x ∧
  Opd K C H y (fun b s z => (z.length = x.length → Q .non H) ∧ (z.length ≠ x.length → ∀ H', Same H H' → E (.ref CB) none H')) (∀ H', Same H H' → E (.ref CB) none H')
end Lb
namespace Lb
open PySem PySem.Spec PyProof.Rows L2 RZ TL
theorem repI (v : Int) : ∀ k : Nat, (List.replicate k [V.int v]).flatten = (List.replicate k v).map V.int
  | 0 => rfl
  | k + 1 => by
    rw [List.replicate_succ, List.flatten_cons, repI v k, List.replicate_succ, List.map_cons]
    rfl
theorem rd_repI {K : PySem.W.Frag} {R : Rgn} {H : Hp} {z : Addr} {v : Int} {k : Nat} {Q : VK} (ez : H z = some (.tup [.int v])) (rz : R z) (new : ∀ p, H p = none → R p) (hk : k ≤ 1000)
    (q : ∀ (H' : Hp) (p : Addr), Same H H' → R p → H' p = some (.tup ((List.replicate k v).map V.int)) → Q (.ref p) H') : rRepA K (.ref z) (.int (k : Int)) H Q := by
  refine ⟨z, k, [.int v], rfl, rfl, .inl (.inl ez), by omega, by omega, (by show 1 ≤ 1000; decide), by simp, fun h => ?_, fun h p hp => ?_⟩
  · have : k = 1 := by omega
    subst this
    exact q H z (Same.refl H) rz ez
  · rw [Int.toNat_natCast, repI]
    exact q _ p (same_upd hp) (new p hp) upd_same
/-- check_room(bag): the first good of which there is too much -/
def muchN (x : List Int) : Option Nat := lackN (List.replicate x.length 6) x 0
def spCRoom (C CT : Addr) : Sp := fun vs H Q E => ∃ (a t : Addr) (x : List Int), vs = [.ref a] ∧ Bg C H a t x ∧ x.length ≤ 4 ∧ (muchN x = none → ∀ H', Same H H' → Q .non H') ∧
  (∀ k : Nat, muchN x = some k → ∀ (H' : Hp) (dd : Addr), Same H H' → H dd = none → H' dd = some (.xd [("good", .int (k : Int))]) → E (.ref CT) (some dd) H')
end Lb
namespace Lb
open PySem PySem.Spec PyProof.Rows L2 RZ TL
/-- the call of a def that may raise, its errors handed on -/
theorem pe_ownE {X : Cx} {k : Nat} {ps : List Str} {sp : Sp} {x : Str} {p pos : Pos} {e : Expr} {es : List Expr} {t : TA} {E : XK} (O : OwnX X.prog X.w X.K X.mg X.base x k ps sp) (hr : Room k X.A) (hx : Passes (L2.CX X.prog X.w) X E) (hg : Gl X x) (ha : PA X (e :: es) t) (hdb : (x == ("__debug__" : Str)) = false := by decide)
    (he : starEach (e :: es) X.env = (false, eval e X.env) :: starEach es X.env := by rfl) (hpl : (backTo pos (starEach es X.env)).any (·.1) = false := by rfl) : PE X (.Call (.Name x p) (e :: es) [] pos) (tCall sp [] E t) := by
  obtain ⟨f, fd, F, m, kp, b⟩ := O.ex
  exact pe_call F hr hg m kp b .nil hx ha hdb he hpl
end Lb
namespace Lb
open PySem PySem.Spec PyProof.Rows L2 RZ TL
/-- the fields of a desk -/
def dskF (mv sv ow : V) (pl : Addr) : List (Str × V) := [("place", mv), ("present", sv), ("owed", ow), ("past", .ref pl)]
/-- what the text has of a class of desks -/
structure DskC (K : PySem.W.Frag) (C : Addr) : Prop where
  cl : Cls K C
  n1 : NoAttr K C "place"
  n2 : NoAttr K C "present"
  n3 : NoAttr K C "owed"
  n4 : NoAttr K C "past"
/-- what a desk is made of, by market and stock -/
def spDInit (K : PySem.W.Frag) (C CB CM CT : Addr) : Sp := fun vs H Q E => ∃ (x dx : Addr) (mv sv : V) (R : Rgn) (d : PyData) (CX : Addr), vs = [.ref x, mv, sv] ∧ DskC K CX ∧ H x = some (.ins CX dx []) ∧ Dat R H mv d ∧ wt d ≤ 1000000 ∧ (∀ p, H p = none → R p) ∧
  (dErr d ≠ .none → ∀ (H' : Hp) (dd : Addr) (u : V), Same H H' → H dd = none → H' dd = some (.xd [("error", u)]) → Dat R H' u (dErr d) → E (.ref CM) (some dd) H') ∧
  (dErr d = .none → ∃ (g : Nat) (ts : List PyData), d = .tuple [.int (g : Int), .tuple ts] ∧ 1 ≤ g ∧ g ≤ 3 ∧
    Opd K C H sv (fun b s z => (z.length ≠ g → ∀ H', Same H H' → E (.ref CB) none H') ∧
      (z.length = g → (∀ k : Nat, muchN z = some k → ∀ (H' : Hp) (dd : Addr), Same H H' → H dd = none → H' dd = some (.xd [("good", .int (k : Int))]) → E (.ref CT) (some dd) H') ∧
        (muchN z = none → ∀ (H' : Hp) (ow to pl : Addr), Same H H' → H pl = none → Bg C H' ow to (List.replicate g (0 : Int)) → H' pl = some (.lst []) → Q .non (upd H' x (.ins CX dx (dskF mv sv (.ref ow) pl)))))) (∀ H', Same H H' → E (.ref CB) none H'))
theorem isNV_dat {R : Rgn} {H : Hp} {u : V} {d : PyData} (h : Dat R H u d) (hd : d ≠ .none) : u ≠ .non := by
  intro e
  subst e
  cases h
  exact hd rfl
theorem upd_past {H : Hp} {x pl : Addr} {A B C D L : HO} (hne : pl ≠ x) : upd (upd (upd (upd (upd H x A) x B) x C) pl L) x D = upd (upd H pl L) x D := by
  funext b
  by_cases h1 : b = x
  · rw [h1, upd_same, upd_same]
  · rw [upd_ne h1, upd_ne h1]
    by_cases h2 : b = pl
    · rw [h2, upd_same, upd_same]
    · rw [upd_ne h2, upd_ne h1, upd_ne h1, upd_ne h1, upd_ne h2]
end Lb
set_option Elab.async false
set_option linter.all false
set_option maxRecDepth 100000
set_option maxHeartbeats 4000000
namespace Lb
open PySem PySem.Spec PyProof.Rows L2 RZ TL
/-! ### C.f(..), f a plain def of the class -/
def tCFun (C : Addr) (sp : Sp) (E : XK) (ta : TE) (t : TA) : TE := fun σ H Q => ta σ H fun x H1 => x = .ref C ∧ t σ H1 fun vs H2 => sp vs H2 Q E
/-- a def read off its class -/
structure CFunO (P : Program) (w : World) (K : PySem.W.Frag) (mg : Str → Option Value) (base : Heap) (C : Addr) (m : Str) (k : Nat) (sp : Sp) : Prop where
  ex : ∃ (mc : Value) (f : Addr), ClX.CRead K C mc ∧ ClX.CVal K C mc m (.ref f) (.ref f) ∧ PySem.W.keepIn K (.ref f) = true ∧ FnR P w K mg base (L2.CX P w) k f sp
section
variable {X : Cx} {C : Addr} {k : Nat} {sp : Sp} {E : XK} {m : Str} {o e : Expr} {es : List Expr} {pos apos : Pos} {ta : TE} {t : TA} {pl : Sem Bool}
theorem pe_cfun (O : CFunO X.prog X.w X.K X.mg X.base C m k sp) (hr : Room k X.A) (hx : Passes (L2.CX X.prog X.w) X E) (he : PE X o ta) (ha : PA X (e :: es) t)
    (hst : starEach (e :: es) X.env = (false, eval e X.env) :: starEach es X.env := by rfl) (hpl : (backTo pos (starEach es X.env)).any (·.1) = false := by rfl)
    (ht : eval (.Call (.Attribute o m apos) (e :: es) [] pos) X.env = (do
      let ov ← eval o X.env
      standAt apos.atName
      let (f, first) ← holding [ov] (getMethod ov m pl)
      callWith pos f first (backTo pos (starEach (e :: es) X.env)) (backToKw pos (keywordEach [] X.env))) := by rfl) :
    PE X (.Call (.Attribute o m apos) (e :: es) [] pos) (tCFun C sp E ta t) := by
  obtain ⟨mc, f, r, c, kp, F⟩ := O.ex
  refine ⟨fun pins s σ H Q I h => ?_⟩
  refine PySem.W.methodCall_KW (pl := pl) (thn (he.run pins s σ H _ I h) fun u s1 ⟨x, H1, I1, rx, ex, q⟩ => ?_) ht
  subst ex
  obtain rfl : u = Value.ref C := rx
  refine PySem.W.method_cls I1.kIn r.ga (ClX.getcval_ok I1 r c fun s2 I2 => ?_)
  refine PySem.W.callWith_K (h₀ := X.base) I.ok.mod.kin kp (thn (ha.run pos pins s2 σ H1 _ I2 q) fun us s3 ⟨vs, H2, I3, r3, q3⟩ => ⟨I3.kIn, ?_⟩) hst hpl
  exact wpAny_call (run_fnR F hr hx I3 r3 q3)
end
/-- all but the object at x is kept -/
def SameX (x : Addr) (H H' : Hp) : Prop := ∀ b o, b ≠ x → H b = some o → H' b = some o
theorem SameX.of {x : Addr} {H H' : Hp} (s : Same H H') : SameX x H H' := fun b o _ e => s b o e
theorem SameX.upd {x : Addr} {H H' : Hp} {o : HO} (s : SameX x H H') : SameX x H (upd H' x o) := fun b u hb e => by
  rw [upd_ne hb]
  exact s b u hb e
/-- what is wrong with a cap, or not -/
def capB (K : PySem.W.Frag) (H : Hp) (v : V) (ok : Bool) : Prop := ∃ (ty : Value) (b1 b2 : Bool), TyX K H v ty ∧ PySem.W.kitOne K ty (.type "int") = some b1 ∧ PySem.W.kitOne K ty (.type "bool") = some b2 ∧ ((ok = false ∧ (b1 && !b2) = false) ∨ ((b1 && !b2) = true ∧ ∃ n : Int, v = .int n ∧ ok = decide (0 ≤ n)))
def spCInit (K : PySem.W.Frag) (C CB CM CT CV : Addr) : Sp := fun vs H Q E => ∃ (x dx : Addr) (mv sv cv : V) (R : Rgn) (d : PyData) (CX : Addr) (ok : Bool), vs = [.ref x, mv, sv, cv] ∧ DskC K CX ∧ NoAttr K CX "most" ∧ H x = some (.ins CX dx []) ∧ Dat R H mv d ∧ wt d ≤ 1000000 ∧ (∀ p, H p = none → R p) ∧ (∀ H', SameX x H H' → capB K H' cv ok) ∧
  (dErr d ≠ .none → ∀ (H' : Hp) (dd : Addr) (u : V), Same H H' → H dd = none → H' dd = some (.xd [("error", u)]) → Dat R H' u (dErr d) → E (.ref CM) (some dd) H') ∧
  (dErr d = .none → ∃ (g : Nat) (ts : List PyData), d = .tuple [.int (g : Int), .tuple ts] ∧ 1 ≤ g ∧ g ≤ 3 ∧
    Opd K C H sv (fun b s z => (z.length ≠ g → ∀ H', Same H H' → E (.ref CB) none H') ∧
      (z.length = g → (∀ k : Nat, muchN z = some k → ∀ (H' : Hp) (dd : Addr), Same H H' → H dd = none → H' dd = some (.xd [("good", .int (k : Int))]) → E (.ref CT) (some dd) H') ∧
        (muchN z = none → (ok = false → ∀ (H' : Hp) (dd : Addr), SameX x H H' → H dd = none → H' dd = some (.xd [("value", cv)]) → E (.ref CV) (some dd) H') ∧
          (ok = true → ∀ (H' : Hp) (ow to pl : Addr), Same H H' → H pl = none → Bg C H' ow to (List.replicate g (0 : Int)) → H' pl = some (.lst []) → Q .non (upd H' x (.ins CX dx (dskF mv sv (.ref ow) pl ++ [(("most" : Str), cv)]))))))) (∀ H', Same H H' → E (.ref CB) none H'))
end Lb
namespace Lb
open PySem PySem.Spec PyProof.Rows L2 RZ TL
/-- len(desk), desk.version -/
def spDLen (K : PySem.W.Frag) : Sp := fun vs H Q _ => ∃ (a C dx : Addr) (fs : List (Str × V)) (l : Addr), vs = [.ref a] ∧ H a = some (.ins C dx fs) ∧ DskC K C ∧ fs.lookup ("past" : Str) = some (.ref l) ∧ ∃ xs, H l = some (.lst xs) ∧ Q (.int (xs.length : Int)) H
end Lb
namespace Lb
open PySem PySem.Spec PyProof.Rows L2 RZ TL
/-- a property that gives a field -/
def spFldV (K : PySem.W.Frag) (f : Str) : Sp := fun vs H Q _ => ∃ (a C dx : Addr) (fs : List (Str × V)) (v : V), vs = [.ref a] ∧ H a = some (.ins C dx fs) ∧ Cls K C ∧ NoAttr K C f ∧ fs.lookup f = some v ∧ Q v H
theorem pe_propM {X : Cx} {C : Addr} {k : Nat} {f : Str} {sp : Sp} {e : Expr} {ta : TE} {pos : Pos} (c : Cls X.K C) (O : PropM X.prog X.w X.K X.mg X.base C f k sp) (hr : Room (k + 1) X.A) (he : PE X e ta) (hab : attributeBase e f X.env (eval e X.env) = eval e X.env := by rfl) :
    PE X (.Attribute e f pos) (tProp C sp [] L2.E0 ta) := by
  obtain ⟨p, g, fd, hp, F, b⟩ := O.ex
  exact pe_prop he c hp F hr b .nil passN0 hab
/-- desk.settled -/
def spSettled (K : PySem.W.Frag) (CB : Addr) : Sp := fun vs H Q _ => ∃ (a C dx : Addr) (fs : List (Str × V)) (b t : Addr) (x : List Int), vs = [.ref a] ∧ H a = some (.ins C dx fs) ∧ DskC K C ∧ fs.lookup ("owed" : Str) = some (.ref b) ∧ Bg CB H b t x ∧ Q (.bl (decide (x.sum = 0))) H
end Lb
set_option Elab.async false
set_option linter.all false
set_option maxRecDepth 100000
set_option maxHeartbeats 4000000
namespace Lb
open PySem PySem.Spec PyProof.Rows L2 RZ TL
/-- what the text has of a class of desks besides; CD is the class Desk -/
structure DskT (K : PySem.W.Frag) (CD C : Addr) : Prop where
  dc : DskC K C
  ca : PySem.W.findIn K (.ref C) "__class__" = some (some (.builtin "object.__class__"))
  cn : PySem.W.specialIn K (.builtin "object.__class__") "__get__" = some (some (.builtin "getset_descriptor.__get__"))
  ct : PySem.W.takesIn K (.builtin "object.__class__") = some true
  cm : PySem.W.mroIn K C (.type "object") = some true
  ki : PySem.W.kitOne K (.ref C) (.ref CD) = some true
theorem DskT.ty {K : PySem.W.Frag} {CD C : Addr} (c : DskT K CD C) {H : Hp} {a dx : Addr} {fs : List (Str × V)} (e : H a = some (.ins C dx fs)) : TyX K H (.ref a) (.ref C) := .base (.ins e c.dc.cl c.ca c.cn c.ct c.cm)
/-- a desk at a: its market, stock and debt -/
structure Dsk (K : PySem.W.Frag) (C CD : Addr) (H : Hp) (a : Addr) (mv : V) (x o : List Int) : Prop where
  ex : ∃ (CX dx : Addr) (fs : List (Str × V)) (b s p q : Addr), DskT K CD CX ∧ H a = some (.ins CX dx fs) ∧ fs.lookup ("place" : Str) = some mv ∧ fs.lookup ("present" : Str) = some (.ref b) ∧ fs.lookup ("owed" : Str) = some (.ref p) ∧ Bg C H b s x ∧ Bg C H p q o
theorem Dsk.same {K : PySem.W.Frag} {C CD : Addr} {H H' : Hp} {a : Addr} {mv : V} {x o : List Int} (h : Dsk K C CD H a mv x o) (s : Same H H') : Dsk K C CD H' a mv x o := by
  obtain ⟨CX, dx, fs, b, t, p, q, h1, h2, h3, h4, h5, h6, h7⟩ := h.ex
  exact ⟨CX, dx, fs, b, t, p, q, h1, s _ _ h2, h3, h4, h5, h6.same s, h7.same s⟩
/-- desk == y -/
def spDEq (K : PySem.W.Frag) (C CD : Addr) : Sp := fun vs H Q _ => ∃ (a : Addr) (mv : V) (x o : List Int) (y : V), vs = [.ref a, y] ∧ Dsk K C CD H a mv x o ∧ BgOk x ∧ BgOk o ∧
  ((∃ ty, TyX K H y ty ∧ PySem.W.kitOne K ty (.ref CD) = some false ∧ Q (.bl false) H) ∨
    (∃ (b : Addr) (mw : V) (x' o' : List Int) (d d' : PyData), y = .ref b ∧ Dsk K C CD H b mw x' o' ∧ BgOk x' ∧ BgOk o' ∧ Dp K H mv d ∧ Dp K H mw d' ∧ SeqAt.shaped d = true ∧ SeqAt.shaped d' = true ∧ Q (.bl (PyData.eqv d d' && (decide (x = x') && decide (o = o')))) H))
end Lb
set_option Elab.async false
set_option linter.all false
set_option maxRecDepth 100000
set_option maxHeartbeats 4000000
namespace Lb
open PySem PySem.Spec PyProof.Rows L2 RZ TL
mutual
/-- plain data without dicts, as == reads it -/
theorem Dat.dp {K : PySem.W.Frag} {R : Rgn} {H : Hp} : ∀ {v : V} {d : PyData}, Dat R H v d → d.hasDict = false → Dp K H v d
  | _, _, .non, _ => .non
  | _, _, .bl b, _ => .bl b
  | _, _, .int i, _ => .int i
  | _, _, .str x, _ => .str x
  | _, _, .tup (ds := ds) ra e h, hd => .tup (.inl (.inl e)) (Dats.dp h (by rw [PyData.hasDict] at hd; exact hd))
  | _, _, .lst (ds := ds) ra e h, hd => .lst (SqL.of e) (Dats.dp h (by rw [PyData.hasDict] at hd; exact hd))
  | _, _, .emp ra e, hd => by rw [PyData.hasDict] at hd; cases hd
theorem Dats.dp {K : PySem.W.Frag} {R : Rgn} {H : Hp} : ∀ {vs : List V} {ds : List PyData}, Dats R H vs ds → PyData.hasDictAll ds = false → DpAll K H vs ds
  | _, _, .nil, _ => .nil
  | _, _, .cons h t, hd => by
    rw [PyData.hasDictAll, Bool.or_eq_false_iff] at hd
    exact .cons (Dat.dp h hd.1) (Dats.dp t hd.2)
end
end Lb
set_option Elab.async false
set_option linter.all false
set_option maxRecDepth 100000
set_option maxHeartbeats 4000000
namespace Lb
open PySem PySem.Spec PyProof.Rows L2 RZ TL
/-! ### try with any number of clauses, with and without names -/
/-- an exception that has come down in the frame of X; behind it stands a state without it -/
structure Down (X : Cx) (pins : List (Addr × Obj)) (σ : L2.St) (H : Hp) (cls : Value) (d : Option Addr) (a : Addr) (s : Shared) : Prop where
  st : X.stack = X.env :: X.outer
  fr : X.env.frame = some X.env.locals
  ex : ∃ (G : Heap) (t : Shared), Inv X pins σ H t ∧ (∀ p ob, t.heap.get? p = some ob → p ∉ frs X.stack → G.get? p = some ob) ∧ t.heap.UpToSlots s.heap ∧
    HandSPX.FlyingZ G (X.env :: X.outer) a (Zc cls d) s.heap ∧ s.os = t.os ∧ AllBare s.gens
  no : H a = none
section
variable {X : Cx} {pins : List (Addr × Obj)} {σ : L2.St} {H : Hp} {cls : Value} {d : Option Addr} {a : Addr} {s : Shared}
theorem Down.inv (h : Down X pins σ H cls d a s) : Inv X pins σ H s := by
  obtain ⟨G, t, It, hG, hu, hfl, ho, hg⟩ := h.ex
  exact It.landed hG hfl.1 hu ho hg
/-- the suite of a clause can begin -/
theorem Down.begin (h : Down X pins σ H cls d a s) : ∃ ob, s.heap.get? a = some ob ∧ Zc cls d ob ∧ (∃ vs, ob.data = .fields vs) ∧ Inv (X.suite a ((a, ob) :: (X.pn ++ pins))) [] σ H s := by
  obtain ⟨G, t, It, hG, hu, hfl, ho, hg⟩ := h.ex
  obtain ⟨ob, vs, e, hz, hd⟩ := hfl.there
  have out : a ∉ frs (X.env :: X.outer) := by
    intro hm
    obtain ⟨_, ob', e', hnot⟩ := (hfl.2.2.1).mem hm
    rw [e] at e'
    cases e'
    exact hnot _ hd
  refine ⟨ob, e, hz, ⟨vs, hd⟩, h.inv.suite e hd h.no (fun z => out ?_) (fun hm => out ?_)⟩
  · exact List.mem_filterMap.mpr ⟨X.env, .head _, by rw [h.fr, z]⟩
  · obtain ⟨v, hv, q⟩ := List.mem_filterMap.mp hm
    exact List.mem_filterMap.mpr ⟨v, .tail _ hv, q⟩
theorem Down.again (h : Down X pins σ H cls d a s) {M : Model} {A : Around} {E : Value → Shared → Prop} {Q : Unit → Shared → Prop} (q : ∀ s', Down X pins σ H cls d a s' → Q () s') : wpAny M A (setFlight (.ref a) none) Q E s := by
  obtain ⟨G, t, It, hG, hu, hfl, ho, hg⟩ := h.ex
  exact HandSPX.lands_againZ hfl fun g gf gu => q _ ⟨h.st, h.fr, ⟨G, t, It, hG, hu.trans gu, gf, ho, hg⟩, h.no⟩
end
/-- clauses, and what they wish of an exception -/
def Hds (X : Cx) (hds : List ExceptHandler) (w : Ends → WX) : Prop := ∀ pins σ H cls d a s D, Down X pins σ H cls d a s → w D cls d σ H → wpAny (model X.prog X.w) X.A (handleBy (.ref a) X.env hds) (SP X pins D) X.xe s
/-- one clause more -/
def wCl (K : PySem.W.Frag) (c : Value) (t : Addr → Value → Option Addr → TS) (w : Ends → WX) : Ends → WX := fun D cls d σ H => ∃ b, PySem.W.exmOne K cls c = some b ∧ (b = true → ∀ a, H a = none → t a cls d D σ H) ∧ (b = false → w D cls d σ H)
/-- the suite's wish where the clause has a name, slot i -/
def tAs (i : Nat) (t : Addr → Value → Option Addr → TS) : Addr → Value → Option Addr → TS := fun a cls d D σ H =>
  t a cls d ⟨fun σ' H' => D.nx (σ'.set i none) H', D.rt, fun σ' H' => D.bk (σ'.set i none) H', fun σ' H' => D.ct (σ'.set i none) H'⟩ (σ.set i (some (.ref a))) H
/-- what a suite must do -/
def SuOk (X : Cx) (ss : List Stmt) (t : Addr → Value → Option Addr → TS) : Prop := ∀ (a : Addr) (ob : Obj) (cls : Value) (d : Option Addr) (pn : List (Addr × Obj)), Zc cls d ob → (∃ vs, ob.data = .fields vs) → PSs (X.suite a ((a, ob) :: pn)) ss (t a cls d)
section
variable {X : Cx} {x n : Str} {c : Value} {i : Nat} {ss : List Stmt} {b : Stmt} {np pos : Pos} {hds : List ExceptHandler} {t : Addr → Value → Option Addr → TS} {w : Ends → WX} {W0 : WX}
theorem hds_nil (tk : Takes X W0) : Hds X [] (fun _ => W0) := by
  intro pins σ H cls d a s D h hw
  obtain ⟨G, t, It, hG, hu, hfl, ho, hg⟩ := h.ex
  refine wpAny_handleBy_nil ?_
  obtain ⟨_, _, _, _, _, T, _, _, e1, _, e2, e3, _⟩ := id hfl
  unfold PySem.passOn
  refine wpAny_bind (wpAny_field e1 e2 e3 ?_)
  have nt : ¬ ((Value.ref T == Value.none) = true) := by simp
  rw [if_neg nt]
  have up : wpAny (model X.prog X.w) X.A (setFlight (.ref a) X.env.frame) (fun _ s4 => wpAny (model X.prog X.w) X.A (throw (.ref a) : Sem Flow) (SP X pins D) X.xe s4) X.xe s := by
    rw [h.fr]
    exact HandSPX.setFlight_upZ hfl fun g gh gu => wpAny_throw (tk _ _ ⟨a, G, t, pins, σ, H, cls, d, rfl, It, hG, hu.trans gu, .inr (.inr (by rw [h.st]; exact gh)), h.no, ho, hg, hw⟩)
  first
    | exact wpAny_bind (wpAny_pure (wpAny_bind up))
    | exact wpAny_bind up
/-- the clause's class is read and asked -/
theorem asks {pins : List (Addr × Obj)} {σ : L2.St} {H : Hp} {cls : Value} {d : Option Addr} {a : Addr} {s : Shared} {r : Bool} {Q : Value → Shared → Prop} {E : Value → Shared → Prop} (h : Down X pins σ H cls d a s) (nm : Names X x c) (q : Q c s) :
    wpAny (model X.prog X.w) (X.A.mark (some (.ref a))) (eval (.Name x np) X.env) Q E s := by
  obtain ⟨ob, _, _, _, S⟩ := h.begin
  obtain ⟨gx, nd, mx | ⟨mx, bx, nx⟩⟩ := nm
  · exact ld_glob (X := X.suite a ((a, ob) :: (X.pn ++ pins))) S gx mx q nd
  · exact ld_blt (X := X.suite a ((a, ob) :: (X.pn ++ pins))) S gx mx bx q nx nd
theorem looksC {pins : List (Addr × Obj)} {σ : L2.St} {H : Hp} {cls : Value} {d : Option Addr} {a : Addr} {s : Shared} (h : Down X pins σ H cls d a s) : PySem.W.Looks (model X.prog X.w) s.heap (typeOf (.ref a)) cls := by
  obtain ⟨ob, e, hz, _⟩ := h.begin
  intro A Q E s' k q
  exact wpAny_typeOf_ref (k _ _ e) (by rw [hz.1]; exact q)
theorem hds_cons (nm : Names X x c) (su : SuOk X (b :: ss) t) (r : Hds X hds w) : Hds X (.ExceptHandler (some (.Name x np)) none (b :: ss) pos :: hds) (wCl X.K c t w) := by
  intro pins σ H cls d a s D h ⟨r1, hr, yes, not⟩
  refine wpAny_handleBy_cons (codeAny_handlers_test ?_) (fun q => nomatch q)
  refine asks (r := r1) h nm ((PySem.W.exm_one (M := model X.prog X.w) h.inv.kIn (looksC h) hr).here ?_)
  cases r1 with
  | false =>
    show wpAny _ X.A (handleBy (.ref a) X.env hds) _ _ _
    exact r pins σ H cls d a s D h (not rfl)
  | true =>
    refine codeAny_handlers_suite (h.again fun s1 h1 => ?_)
    obtain ⟨ob, _, hz, hv, S⟩ := h1.begin
    refine wpAny_mono ((su a ob cls d (X.pn ++ pins) hz hv).run [] _ _ H _ S (yes rfl a h.no)) (fun fl s2 o => ?_) (fun _ _ z => z.elim)
    have ok := h1.inv.ok
    match fl, o with
    | .next, ⟨_, _, S2, q⟩ => exact ⟨_, _, S2.unsuite ok, q⟩
    | .brk, ⟨_, _, S2, q⟩ => exact ⟨_, _, S2.unsuite ok, q⟩
    | .cont, ⟨_, _, S2, q⟩ => exact ⟨_, _, S2.unsuite ok, q⟩
    | .ret _, ⟨_, _, _, S2, rv, q⟩ => exact ⟨_, _, _, S2.unsuite ok, rv, q⟩
theorem hds_as (nn : X.N.Nodup) (ni : X.N[i]? = some n) (nl : X.env.kindOf n = some .local) (nm : Names X x c) (su : SuOk X (b :: ss) t) (r : Hds X hds w) : Hds X (.ExceptHandler (some (.Name x np)) (some n) (b :: ss) pos :: hds) (wCl X.K c (tAs i t) w) := by
  intro pins σ H cls d a s D h ⟨r1, hr, yes, not⟩
  refine wpAny_handleBy_cons (codeAny_handlers_test ?_) (fun q => nomatch q)
  refine asks (r := r1) h nm ((PySem.W.exm_one (M := model X.prog X.w) h.inv.kIn (looksC h) hr).here ?_)
  cases r1 with
  | false =>
    show wpAny _ X.A (handleBy (.ref a) X.env hds) _ _ _
    exact r pins σ H cls d a s D h (not rfl)
  | true =>
    refine codeAny_handlers_suite_as (h.again fun s1 h1 => ?_)
    obtain ⟨ob, _, hz, hv, S⟩ := h1.begin
    refine store_ok (X := X.suite a ((a, ob) :: (X.pn ++ pins))) (v := .ref a) S nn ni (.inl nl) rfl (fun s2 S2 => ?_) (.inr nl)
    refine wpAny_mono ((su a ob cls d (X.pn ++ pins) hz hv).run [] s2 _ H _ S2 (yes rfl a h.no)) (fun fl s3 o => ?_) (fun _ _ z => z.elim)
    have ok := h1.inv.ok
    have last : ∀ {σ' : L2.St} {H' : Hp} {Q : Shared → Prop}, Inv (X.suite a ((a, ob) :: (X.pn ++ pins))) [] σ' H' s3 → (∀ s4, Inv X pins (σ'.set i none) H' s4 → Q s4) →
        wpAny (model X.prog X.w) X.A (do bindName X.env n .none; unbindBehindTheSuite X.env n pos) (fun _ s4 => Q s4) X.xe s3 := fun S3 q => gone_ok (S3.unsuite ok) nn ni nl q
    match fl, o with
    | .next, ⟨_, _, S3, q⟩ => exact last S3 fun _ J => ⟨_, _, J, q⟩
    | .brk, ⟨_, _, S3, q⟩ => exact last S3 fun _ J => ⟨_, _, J, q⟩
    | .cont, ⟨_, _, S3, q⟩ => exact last S3 fun _ J => ⟨_, _, J, q⟩
    | .ret _, ⟨_, _, _, S3, rv, q⟩ => exact last S3 fun _ J => ⟨_, _, _, J, rv, q⟩
end
section
variable {X : Cx} {body : List Stmt} {h1 : ExceptHandler} {hds : List ExceptHandler} {pos : Pos} {tb : WX → TS} {w : Ends → WX}
theorem ps_try_hds (hs : X.stack = X.env :: X.outer) (hf : X.env.frame = some X.env.locals)
    (hb : ∀ (W : WX) (pn : List (Addr × Obj)) (xe : Value → Shared → Prop), Takes (X.tr pn xe) W → PassesOwn (model X.prog X.w) X.A X.env xe → PSs (X.tr pn xe) body (tb W))
    (hh : Hds X (h1 :: hds) w) : PS X (.Try body (h1 :: hds) [] [] pos) (fun D σ H => tb (w D) D σ H) := by
  refine ⟨fun pins s σ H D I h => wpAny_Try_except ?_⟩
  have ok := I.ok
  have hst : X.A.frames = some (X.env :: X.outer) := hs ▸ ok.frames
  refine wpAny_mono ((hb (w D) (X.pn ++ pins) (fun e s1 => wpAny (model X.prog X.w) X.A (noteFrame e X.env) (fun _ s2 => wpAny (model X.prog X.w) X.A (setFlight e none) (fun _ s3 =>
    wpAny (model X.prog X.w) X.A (handleBy e X.env (h1 :: hds)) (SP X pins D) X.xe s3) X.xe s2) X.xe s1) (fun u s1 xx => ?_) PassesOwn.looking).run [] s σ H D (I.toTry _) h) (fun fl s1 o => ?_) (fun _ _ z => z)
  · obtain ⟨a, G, t, _, σ1, H1, cls, d, rfl, J, hG, hu, sky, na, ho, hg, hw⟩ := xx
    have sky1 : Sky G (X.env :: X.outer) a (Zc cls d) X.env.locals s1.heap := hs ▸ sky
    show wpAny (model X.prog X.w) X.A (noteFrame (.ref a) X.env) _ _ _
    exact Sky.land Zc.steady hst hf sky1 fun g gf gu => hh pins σ1 H1 cls d a _ D ⟨hs, hf, ⟨G, t, J.ofTry ok, hG, hu.trans gu, gf, ho, hg⟩, na⟩ hw
  · match fl, o with
    | .next, ⟨_, _, J, q⟩ => exact wpAny_execs_nil ⟨_, _, J.ofTry ok, q⟩
    | .brk, ⟨_, _, J, q⟩ => exact ⟨_, _, J.ofTry ok, q⟩
    | .cont, ⟨_, _, J, q⟩ => exact ⟨_, _, J.ofTry ok, q⟩
    | .ret _, ⟨_, _, _, J, rv, q⟩ => exact ⟨_, _, _, J.ofTry ok, rv, q⟩
end
end Lb
set_option Elab.async false
set_option linter.all false
set_option maxRecDepth 100000
set_option maxHeartbeats 4000000
namespace Lb
open PySem PySem.Spec PyProof.Rows L2 RZ TL
theorem pss_imp {X : Cx} {ss : List Stmt} {t t' : TS} (h : PSs X ss t) (i : ∀ D σ H, t' D σ H → t D σ H) : PSs X ss t' := ⟨fun pins s σ H D I z => h.run pins s σ H D I (i D σ H z)⟩
/-- clauses: the class, the word, the field if any -/
abbrev Clz := List (Addr × Str × Option Str)
/-- what a clause's answer asks -/
def clA (c : Addr × Str × Option Str) (d : Option Addr) (H : Hp) (Q : VK) : Prop := match c.2.2 with
  | none => ∀ p, H p = none → Q (.ref p) (upd H p (.lst [.str c.2.1]))
  | some f => ∃ (dd : Addr) (v : V), d = some dd ∧ H dd = some (.xd [(f, v)]) ∧ ∀ p, H p = none → Q (.ref p) (upd H p (.lst [.str c.2.1, v]))
/-- what an exception must be -/
def clE (l : Clz) (Q : VK) : XK := fun cls d H => ∃ c ∈ l, cls = .ref c.1 ∧ clA c d H Q
/-- no clause takes what a later one is for -/
def Dist (K : PySem.W.Frag) : Clz → Prop
  | [] => True
  | c :: r => PySem.W.exmOne K (.ref c.1) (.ref c.1) = some true ∧ (∀ x ∈ r, PySem.W.exmOne K (.ref x.1) (.ref c.1) = some false) ∧ Dist K r
/-- the suite's wish -/
def suW (c : Addr × Str × Option Str) : Addr → Value → Option Addr → TS := fun a cls d D σ H => cls = .ref c.1 ∧ (c.2.2.isSome = true → σ[1]? = some (some (.ref a))) ∧ clA c d H D.rt
def clW (K : PySem.W.Frag) : Clz → Ends → WX
  | [] => fun _ _ _ _ _ => False
  | c :: r => wCl K (.ref c.1) (match c.2.2 with | none => suW c | some _ => tAs 1 (suW c)) (clW K r)
theorem clW_in {K : PySem.W.Frag} : ∀ {l : Clz} {D : Ends} {cls : Value} {d : Option Addr} {σ : L2.St} {H : Hp}, Dist K l → clE l D.rt cls d H → σ.length = 2 → clW K l D cls d σ H
  | [], _, _, _, _, _, _, ⟨_, h, _⟩, _ => absurd h List.not_mem_nil
  | c :: r, D, cls, d, σ, H, ⟨h1, h2, h3⟩, ⟨x, hx, ex, hc⟩, hl => by
    by_cases e : x = c
    · subst e
      subst ex
      refine ⟨true, h1, fun _ a ha => ?_, fun z => nomatch z⟩
      obtain ⟨xa, tg, fo⟩ := x
      cases fo with
      | none => exact ⟨rfl, (fun z => nomatch z), hc⟩
      | some f =>
        refine ⟨rfl, fun _ => ?_, hc⟩
        obtain ⟨s0, s1, rfl⟩ : ∃ s0 s1, σ = [s0, s1] := by
          match σ, hl with
          | [s0, s1], _ => exact ⟨s0, s1, rfl⟩
        rfl
    · have hm : x ∈ r := by
        rcases List.mem_cons.mp hx with z | z
        · exact absurd z e
        · exact z
      subst ex
      exact ⟨false, h2 x hm, (fun z => nomatch z), fun _ => clW_in h3 ⟨x, hm, rfl, hc⟩ hl⟩
/-- what a def makes of a call: the answer, or what is raised -/
def TMade (l : Clz) : (XK → Hp → VK → Prop) → Hp → VK → Prop := fun tl H Q => tl (clE l Q) H (fun v H' => [V.str "ok", v].length ≤ sizeLine ∧ ∀ p, H' p = none → Q (.ref p) (upd H' p (.lst [.str "ok", v])))
end Lb
set_option Elab.async false
set_option linter.all false
set_option maxRecDepth 100000
set_option maxHeartbeats 4000000
namespace Lb
open PySem PySem.Spec PyProof.Rows L2 RZ TL
/-! ### {x} of an own class -/
section
variable {X : Cx} {C : Addr} {k : Nat} {ps : List Str} {sp : Sp} {E : XK}
def tFmtO (C : Addr) (sp : Sp) (E : XK) (te : TE) : TE := fun σ H Q => te σ H fun x H1 => ∃ a dx fs, x = .ref a ∧ H1 a = some (.ins C dx fs) ∧ sp [x] H1 (fun z H2 => ∃ y : Str, z = .str y ∧ Q (.str y) H2) E
theorem pe_fmtO {e : Expr} {te : TE} {pos : Pos} (O : OwnM X.prog X.w X.K X.mg X.base C "__str__" k ps sp) (hfm : PySem.W.findIn X.K (.ref C) "__format__" = some (some (.builtin "object.__format__"))) (hm : PySem.W.mroIn X.K C (.type "object") = some true) (hr : Room (k + 1) X.A) (hx : Passes (L2.CX X.prog X.w) X E) (he : PE X e te) :
    PE X (.FormattedValue e (-1) none pos) (tFmtO C sp E te) := by
  refine ⟨fun pins s σ H Q I h => wpAny_FormattedValue_plain (thn (he.run pins s σ H _ I h) fun v s1 hv => ?_)⟩
  obtain ⟨x, H1, I1, r1, a, dx, fs, rfl, ha, q⟩ := hv
  cases (show v = Value.ref a from r1)
  obtain ⟨g, M, F⟩ := O.fnR
  obtain ⟨od, J⟩ := ins_inst I1 ha
  have I2 := I1.tok (s1.toks + 1)
  refine PySem.W.kfo_fieldS hr.in1.units0 I1.kIn J hfm hm M.at_ M.fn ?_
  refine wpAny_mono (run_one (n := 0) F hr.in1 I2.env0.in1 hx I2 q) (fun v s' z => ?_) fun _ _ x => x
  obtain ⟨z', H', I', rz, t, ez, qz⟩ := z
  subst ez
  obtain ⟨u, e⟩ := (show ∃ u, v = Value.str t u from rz)
  subst e
  exact ⟨.str t, H', I', ⟨_, rfl⟩, qz⟩
end
/-! ### x == y of two classes, x != y where the right one is of a subclass -/
section
variable {X : Cx} {C C2 : Addr} {k : Nat} {ps : List Str} {sp : Sp} {E : XK}
theorem op_eq2 (O : OwnM X.prog X.w X.K X.mg X.base C "__eq__" k ps sp) (hn : PySem.W.subIn X.K (.ref C2) (.ref C) = some false) (hr : Room k X.A) (hx : Passes (L2.CX X.prog X.w) X E) :
    OpR X (compareOp .Eq) (fun x y H Q => ∃ a dx fs b dy gs, x = .ref a ∧ y = .ref b ∧ H a = some (.ins C dx fs) ∧ H b = some (.ins C2 dy gs) ∧ sp [x, y] H Q E) := by
  intro pins s σ H x y v u Q I rx ry h
  obtain ⟨a, dx, fs, b, dy, gs, rfl, rfl, ha, hb, q⟩ := h
  cases (show v = Value.ref a from rx)
  cases (show u = Value.ref b from ry)
  obtain ⟨g, M, F⟩ := O.fnR
  obtain ⟨od, J⟩ := ins_inst I ha
  obtain ⟨od2, J2⟩ := ins_inst I hb
  obtain ⟨m, hF⟩ := I.fr
  refine PySem.W.cmp_K (op := .Eq) (tb := .ref C2) hr.units0 hF I.ok.mod.kin J J2.type (by unfold PySem.W.notFirst; rw [hn]; simp) M.at_ M.fn ?_
  refine wpAny_mono (wpAny_call (run_fnR (us := [.ref a, .ref b]) (vs := [.ref a, .ref b]) F hr hx I (.cons rfl (.cons rfl .nil)) q)) (fun w s' z => ?_) fun _ _ x => x
  obtain ⟨z', H', I', rz, qz⟩ := z
  exact SlX.cmpback rz ⟨z', H', I', rz, qz⟩
/-- y is asked: y of a class below that of x -/
theorem raw_neS {prog : Program} {w : World} {A : Around} {E : Value → Shared → Prop} {s : Shared} {K : PySem.W.Frag} {x y C C2 f : Addr} {ox oy : Obj} {od od2 : Option Obj} {Q : Value → Shared → Prop} (hu : A.units + 1 < cLine) (X : K.In s.heap) (I : PySem.W.InstAt s.heap x ox C od) (I2 : PySem.W.InstAt s.heap y oy C2 od2) (hne : C ≠ C2) (hsub : PySem.W.subIn K (.ref C2) (.ref C) = some true)
    (hm : PySem.W.mroIn K C2 (.type "object") = some true) (hn : PySem.W.findIn K (.ref C2) "__ne__" = some (some (.builtin "object.__ne__"))) (hs : PySem.W.findIn K (.ref C2) "__eq__" = some (some (.ref f))) (hf : PySem.W.isFn K (.ref f) = true)
    (h : wpAny (model prog w) A.in1 (call (.ref f) [.ref y, .ref x]) (fun v s' => ∃ b, v = .bool b ∧ Q (.bool (!b)) s') E s) : wpAny (model prog w) A (compareOp .NotEq (.ref x) (.ref y)) Q E s := by
  have body : ∀ {R : Fin → Shared → Prop}, (∀ b s', Q (.bool (!b)) s' → R (.done (.ret (.bool (!b)))) s') → wpAny (model prog w) A.in1 (Builtin.«object.__ne__» ⟨[.ref y, .ref x], []⟩) R E s := by
    intro R hR
    unfold Builtin.«object.__ne__»
    obtain ⟨hp, g, d, tk, os⟩ := s
    repeat (first
      | with_reducible refine wpAny_cRoomFor hu ?_
      | (refine wpAny_bind (m := callSpecialIfBound? (.ref y) (Str.ofString "__eq__") [.ref x])
          (PySem.W.ifBound_K X I2 hs hf (wpAny_mono h (fun r s' hr => by
            obtain ⟨b, rfl, hq⟩ := hr
            have hq' := hR b s' hq
            repeat (first | exact hq' | exact wpAny_pure hq' | exact wpAny_truthy_bool hq' | (refine wpAny_bind (m := truthy (.bool _)) (wpAny_truthy_bool ?_)) | wp_step)) fun _ _ e => e)))
      | wp_step)
  have one : wpAny (model prog w) A (tryCompare (.ref y) "__ne__" (.ref x)) (fun r s' => ∃ b, r = some (.bool (!b)) ∧ Q (.bool (!b)) s') E s := by
    simp only [tryCompare, callSpecialIfBound?, bindSpecialIfBound?]
    refine wpAny_bind (wpAny_holding (wpAny_bind (wpAny_bind (wpAny_bind (I2.type.here ((PySem.W.looks_findIn X hn).here ?_))))))
    refine wpAny_bind (wpAny_askSetting (wpAny_ite ?_))
    have call1 : wpAny (model prog w) A (call (.builtin "object.__ne__") [.ref y, .ref x]) (fun v s' => ∃ b, v = .bool (!b) ∧ Q (.bool (!b)) s') E s :=
      wpAny_call (codeAny_call_builtin PySem.F.cmp_object.ne.plain PySem.F.cmpEntry_ne (PySem.W.check_slot PySem.F.cmpKind_ne PySem.F.cmpSplit_ne (I2.type.andThen (PySem.W.looks_mroIn X hm)) (PySem.F.cmpArgs_ne _ _) (body fun b s' hq => ⟨b, rfl, hq⟩)))
    have fin : wpAny (model prog w) A (call (.builtin "object.__ne__") ([.ref y] ++ [.ref x]) >>= fun v => pure (some v)) (fun a s' => wpAny (model prog w) A (match a with | some Value.notImplemented => pure none | none => pure none | some v => pure (some v)) (fun r s' => ∃ b, r = some (Value.bool !b) ∧ Q (Value.bool !b) s') E s') E s :=
      wpAny_bind (wpAny_mono call1 (fun v s' z => by
        obtain ⟨b, rfl, hq⟩ := z
        exact wpAny_pure (wpAny_pure ⟨b, rfl, hq⟩)) fun _ _ e => e)
    split
    · exact wpAny_bind (wpAny_of_eq (PySem.F.cmp_object.ne.bind _) (wpAny_pure (by exact fin)))
    · exact wpAny_tryCatch (wpAny_bind (wpAny_of_eq (PySem.F.cmp_object.ne.bind _) (wpAny_pure (by exact fin))))
  unfold compareOp
  unfold richCompare
  simp only [oneThing_ref]
  refine wpAny_holding (wpAny_bind (wpAny_cRoomFor (Nat.lt_of_succ_lt hu) ?_))
  rw [cmpInfo_NotEq]
  dsimp only
  refine wpAny_bind (I.type.here (wpAny_bind (I2.type.here ?_)))
  rw [show (Value.ref C != Value.ref C2) = true from by simp [hne]]
  simp only [if_true]
  refine wpAny_bind ((PySem.W.looks_subIn X hsub).here ?_)
  simp only [if_true]
  refine wpAny_bind (wpAny_mono one (fun r s' z => ?_) fun _ _ e => e)
  obtain ⟨b, rfl, hq⟩ := z
  exact wpAny_bind (wpAny_rule (wpAny_pure hq))
theorem op_neS (O : OwnM X.prog X.w X.K X.mg X.base C2 "__eq__" k ps sp) (hne : C ≠ C2) (hsub : PySem.W.subIn X.K (.ref C2) (.ref C) = some true) (hm : PySem.W.mroIn X.K C2 (.type "object") = some true) (hn : PySem.W.findIn X.K (.ref C2) "__ne__" = some (some (.builtin "object.__ne__"))) (hr : Room (k + 1) X.A) (hx : Passes (L2.CX X.prog X.w) X E) :
    OpR X (compareOp .NotEq) (fun x y H Q => ∃ a dx fs b dy gs, x = .ref a ∧ y = .ref b ∧ H a = some (.ins C dx fs) ∧ H b = some (.ins C2 dy gs) ∧ sp [y, x] H (fun z H' => ∃ c : Bool, z = .bl c ∧ Q (.bl (!c)) H') E) := by
  intro pins s σ H x y v u Q I rx ry h
  obtain ⟨a, dx, fs, b, dy, gs, rfl, rfl, ha, hb, q⟩ := h
  cases (show v = Value.ref a from rx)
  cases (show u = Value.ref b from ry)
  obtain ⟨g, M, F⟩ := O.fnR
  obtain ⟨od, J⟩ := ins_inst I ha
  obtain ⟨od2, J2⟩ := ins_inst I hb
  have hu : X.A.units + 1 < cLine := hr.in1.units0
  refine raw_neS hu I.kIn J J2 hne hsub hm hn M.at_ M.fn ?_
  refine wpAny_mono (wpAny_call (SlX.run_at (us := [.ref b, .ref a]) (ws := [.ref b, .ref a]) F hr.in1 I.env0.in1 hx I (.cons rfl (.cons rfl .nil)) q)) (fun w s' z => ?_) fun _ _ x => x
  obtain ⟨z', H', I', rz, c, ez, qz⟩ := z
  subst ez
  cases (show w = Value.bool c from rz)
  exact ⟨c, rfl, .bl (!c), H', I', rfl, qz⟩
end
/-! ### the texts of desks -/
def balS (x o : List Int) : Str := bagS x ++ " owes " ++ bagS o
/-- desk.balance() and str(desk): all in the fields -/
def spBal (K : PySem.W.Frag) (CB : Addr) : Sp := fun vs H Q _ => ∃ (a C dx : Addr) (fs : List (Str × V)) (b t p q : Addr) (x o : List Int), vs = [.ref a] ∧ H a = some (.ins C dx fs) ∧ DskC K C ∧ fs.lookup ("balance" : Str) = none ∧ fs.lookup ("present" : Str) = some (.ref b) ∧ fs.lookup ("owed" : Str) = some (.ref p) ∧ Bg CB H b t x ∧ Bg CB H p q o ∧
  x.length ≤ 4 ∧ AmtsW x ∧ o.length ≤ 4 ∧ AmtsW o ∧ ∀ H', Same H H' → Q (.str (balS x o)) H'
def spCStr (K : PySem.W.Frag) (CB : Addr) : Sp := fun vs H Q _ => ∃ (a C dx : Addr) (fs : List (Str × V)) (b t p q : Addr) (x o : List Int) (cap : Int), vs = [.ref a] ∧ H a = some (.ins C dx fs) ∧ DskC K C ∧ NoAttr K C "most" ∧ fs.lookup ("balance" : Str) = none ∧ fs.lookup ("present" : Str) = some (.ref b) ∧ fs.lookup ("owed" : Str) = some (.ref p) ∧ fs.lookup ("most" : Str) = some (.int cap) ∧ Bg CB H b t x ∧ Bg CB H p q o ∧
  x.length ≤ 4 ∧ AmtsW x ∧ o.length ≤ 4 ∧ AmtsW o ∧ 0 ≤ cap ∧ cap < 10 ^ 30 ∧ ∀ H', Same H H' → Q (.str (balS x o ++ ", cap " ++ toString cap)) H'
end Lb
namespace Lb
open PySem PySem.Spec PyProof.Rows L2 RZ TL
theorem bagS_len {b : List Int} (h : AmtsW b) (h4 : b.length ≤ 4) : (bagS b).length ≤ 124 := by
  have h1 := join_len (" " : Str) (wordsB b)
  have h2 := words_sumW h
  have h3 : (" " : Str).length = 1 := by decide +kernel
  have h5 : (wordsB b).length = b.length := by
    unfold wordsB
    rw [List.length_map]
  unfold bagS
  rw [h3, h5] at h1
  omega
theorem bal_eq (x o : List Int) : Str.empty ++ bagS x ++ (" owes " : Str) ++ bagS o = balS x o := by
  unfold balS
  rw [Str.empty_append]
theorem bal_len {x o : List Int} (h : AmtsW x) (h4 : x.length ≤ 4) (k : AmtsW o) (k4 : o.length ≤ 4) : (balS x o).length ≤ 300 := by
  have h1 := bagS_len h h4
  have h2 := bagS_len k k4
  have h3 : (" owes " : Str).length = 6 := by decide +kernel
  unfold balS
  rw [Str.length_append, Str.length_append, h3]
  omega
end Lb
set_option Elab.async false
set_option linter.all false
set_option maxRecDepth 100000
set_option maxHeartbeats 4000000
namespace Lb
open PySem PySem.Spec PyProof.Rows L2 RZ TL
/-! ### what the making of a desk must tell -/
def capD : PyData → Bool
  | .int n => decide (0 ≤ n)
  | _ => false
def goodsD : PyData → Int
  | .tuple [.int g, _] => g
  | _ => 0
def dueR (g : Int) (row : Option (List Int)) (c : PyData) : PyData := match row with
  | none => .list [.str "bag"]
  | some x => if (x.length : Int) ≠ g then .list [.str "bag"] else match muchN x with
    | some k => .list [.str "much", .int (k : Int)]
    | none => if capD c = true then .list [.str "ok"] else .list [.str "times", c]
def dueD (d : PyData) (row : Option (List Int)) (c : PyData) : PyData := match dErr d with
  | .none => dueR (goodsD d) row c
  | e => .list [.str "market", e]
theorem dueD_m {d : PyData} {row : Option (List Int)} {c : PyData} (h : dErr d ≠ .none) : dueD d row c = .list [.str "market", dErr d] := by
  unfold dueD
  split
  · rename_i e
    exact absurd e h
  · rfl
theorem dueD_n {d : PyData} {row : Option (List Int)} {c : PyData} (h : dErr d = .none) : dueD d row c = dueR (goodsD d) row c := by
  unfold dueD
  rw [h]
theorem dErr_m {d : PyData} (h : mErr d ≠ .none) : dErr d = mErr d := by
  unfold dErr
  split
  · rename_i e
    exact absurd e h
  · rfl
theorem dErr_n {g : Int} {ts : List PyData} (h : mErr (.tuple [.int g, .tuple ts]) = .none) : dErr (.tuple [.int g, .tuple ts]) = if 3 < g ∨ 3 < ts.length then errD "room" else .none := by
  unfold dErr
  rw [h]
/-- the amounts of a stock that is a Bag, or None -/
def RowV (H : Hp) (v : V) : Option (List Int) → Prop
  | none => v = .non
  | some x => ∃ p, v = .ref p ∧ H p = some (.tup (x.map V.int)) ∧ x.length ≤ 4
theorem RowV.same {H H' : Hp} {v : V} {r : Option (List Int)} (h : RowV H v r) (s : Same H H') : RowV H' v r := match r, h with
  | none, h => h
  | some _, ⟨p, e, h1, h2⟩ => ⟨p, e, s _ _ h1, h2⟩
/-- values that a cap is drawn from -/
inductive CapV : V → PyData → Prop
  | int (n : Int) : CapV (.int n) (.int n)
  | bl (b : Bool) : CapV (.bl b) (.bool b)
  | non : CapV .non .none
  | str (x : Str) : CapV (.str x) (.str x)
theorem CapV.dat {R : Rgn} {H : Hp} {v : V} {c : PyData} : CapV v c → Dat R H v c
  | .int n => .int n
  | .bl b => .bl b
  | .non => .non
  | .str x => .str x
theorem CapV.capB {K : PySem.W.Frag} {H : Hp} {v : V} {c : PyData} (h : CapV v c) : capB K H v (capD c) := by
  have hd : Dat (fun _ => True) H v c := h.dat
  refine ⟨_, _, _, dat_ty hd, kit_ty (kit_int c), kit_ty (kit_bool c), ?_⟩
  cases h with
  | int n => exact .inr ⟨rfl, n, rfl, rfl⟩
  | bl b => exact .inl ⟨rfl, rfl⟩
  | non => exact .inl ⟨rfl, rfl⟩
  | str x => exact .inl ⟨rfl, rfl⟩
/-- the goods of which there is too much -/
def great : List Int → Nat → List Nat
  | [], _ => []
  | a :: x, i => if 6 < a then i :: great x (i + 1) else great x (i + 1)
theorem great_app : ∀ (x : List Int) (a : Int) (i : Nat), great (x ++ [a]) i = great x i ++ (if 6 < a then [i + x.length] else [])
  | [], a, i => by
    show (if 6 < a then i :: [] else []) = [] ++ _
    rw [List.nil_append]
    rfl
  | b :: x, a, i => by
    show (if 6 < b then i :: great (x ++ [a]) (i + 1) else great (x ++ [a]) (i + 1)) = (if 6 < b then i :: great x (i + 1) else great x (i + 1)) ++ _
    rw [great_app x a (i + 1)]
    have e : i + 1 + x.length = i + (b :: x).length := by rw [List.length_cons]; omega
    rw [e]
    by_cases h : 6 < b
    · rw [if_pos h, if_pos h, List.cons_append]
    · rw [if_neg h, if_neg h]
theorem great_len : ∀ (x : List Int) (i : Nat), (great x i).length ≤ x.length
  | [], _ => Nat.le_refl _
  | a :: x, i => by
    have h := great_len x (i + 1)
    show (if 6 < a then i :: great x (i + 1) else great x (i + 1)).length ≤ x.length + 1
    split
    · rw [List.length_cons]
      omega
    · omega
theorem great_head : ∀ (x : List Int) (i : Nat), lackN (List.replicate x.length 6) x i = (great x i).head?
  | [], _ => rfl
  | a :: x, i => by
    show lackN (List.replicate (x.length + 1) 6) (a :: x) i = (if 6 < a then i :: great x (i + 1) else great x (i + 1)).head?
    rw [List.replicate_succ, lackN_cons, great_head x (i + 1)]
    by_cases h : 6 < a
    · rw [if_pos h, if_pos h]
      rfl
    · rw [if_neg h, if_neg h]
theorem muchN_head (x : List Int) : muchN x = (great x 0).head? := great_head x 0
def spDueD : Sp := fun vs H Q _ => ∃ (R : Rgn) (mv sv rv cv : V) (d : PyData) (row : Option (List Int)) (c : PyData), vs = [mv, sv, rv, cv] ∧ Dat R H mv d ∧ wt d ≤ 1000000 ∧ (∀ p, H p = none → R p) ∧ RowV H rv row ∧ CapV cv c ∧
  ∀ (H' : Hp) (u : V), Same H H' → Dat R H' u (dueD d row c) → Q u H'
end Lb
set_option Elab.async false
set_option linter.all false
set_option maxRecDepth 100000
set_option maxHeartbeats 4000000
namespace Lb
open PySem PySem.Spec PyProof.Rows L2 RZ TL
/-! ### what the making of a desk tells -/
theorem dueR_no {g : Int} {c : PyData} : dueR g none c = .list [.str "bag"] := rfl
theorem dueR_len {g : Int} {x : List Int} {c : PyData} (h : (x.length : Int) ≠ g) : dueR g (some x) c = .list [.str "bag"] := by
  unfold dueR
  dsimp only
  rw [if_pos h]
theorem dueR_much {g : Int} {x : List Int} {c : PyData} {k : Nat} (h : (x.length : Int) = g) (hm : muchN x = some k) : dueR g (some x) c = .list [.str "much", .int (k : Int)] := by
  unfold dueR
  dsimp only
  rw [if_neg (fun z => z h), hm]
theorem dueR_times {g : Int} {x : List Int} {c : PyData} (h : (x.length : Int) = g) (hm : muchN x = none) (hc : capD c = false) : dueR g (some x) c = .list [.str "times", c] := by
  unfold dueR
  dsimp only
  rw [if_neg (fun z => z h), hm]
  dsimp only
  rw [hc]
  rfl
theorem dueR_ok {g : Int} {x : List Int} {c : PyData} (h : (x.length : Int) = g) (hm : muchN x = none) (hc : capD c = true) : dueR g (some x) c = .list [.str "ok"] := by
  unfold dueR
  dsimp only
  rw [if_neg (fun z => z h), hm]
  dsimp only
  rw [hc]
  rfl
/-- a stock that is a Bag, or what is none -/
def StkV (K : PySem.W.Frag) (C : Addr) (H : Hp) (v : V) (row : Option (List Int)) : Prop := (∃ b s z, v = .ref b ∧ Bg C H b s z ∧ BgOk z ∧ row = some z) ∨ (TyS K H v ∧ row = none)
theorem StkV.extN {K : PySem.W.Frag} {C : Addr} {H H' : Hp} {v : V} {row : Option (List Int)} (h : StkV K C H v row) (k : LamX.ExtN H H') : StkV K C H' v row := by
  rcases h with ⟨b, t, z, e, hb, ok, er⟩ | ⟨⟨T, hT, ty⟩, er⟩
  · exact .inl ⟨b, t, z, e, hb.extN k, ok, er⟩
  · exact .inr ⟨⟨T, hT, Lb.TyX.extN ty k⟩, er⟩
theorem RowV.extN {H H' : Hp} {v : V} {r : Option (List Int)} (h : RowV H v r) (k : LamX.ExtN H H') : RowV H' v r := match r, h with
  | none, h => h
  | some _, ⟨p, e, h1, h2⟩ => ⟨p, e, k _ _ h1 (fun _ z => nomatch z), h2⟩
/-- what follows is named -/
theorem seq_in {t u : TS} {D : Ends} {σ : L2.St} {H : Hp} (h : ∀ DD : Ends, DD.nx = u D → DD.rt = D.rt → DD.bk = D.bk → DD.ct = D.ct → t DD σ H) : tSeq t u D σ H := h { D with nx := u D } rfl rfl rfl rfl
theorem StkV.same {K : PySem.W.Frag} {C : Addr} {H H' : Hp} {v : V} {row : Option (List Int)} (h : StkV K C H v row) (s : Same H H') : StkV K C H' v row := by
  rcases h with ⟨b, t, z, e, hb, ok, er⟩ | ⟨hn, er⟩
  · exact .inl ⟨b, t, z, e, hb.same s, ok, er⟩
  · exact .inr ⟨hn.same s, er⟩
/-- the list that is told: what is due, or ok and a desk -/
def FoundL (C CX : Addr) (R : Rgn) (H : Hp) (due : PyData) (mv sv : V) (row : Option (List Int)) (more : List (Str × V)) (l : List V) : Prop :=
  (∃ (w : Str) (ds : List PyData) (r : List V), l = .str w :: r ∧ w ≠ "ok" ∧ due = .list (.str w :: ds) ∧ Dats R H r ds ∧ r.length ≤ 1) ∨
    (due = .list [.str "ok"] ∧ ∃ (z : List Int) (x dx ow to pl : Addr), row = some z ∧ l = [.str "ok", .ref x] ∧ H x = some (.ins CX dx (dskF mv sv (.ref ow) pl ++ more)) ∧ Bg C H ow to (List.replicate z.length 0) ∧ H pl = some (.lst []))
theorem made_same {H : Hp} {x dx CX : Addr} (nx : H x = none) (ndx : H dx = none) : Same H (upd (upd H dx (.own x)) x (.ins CX dx [])) := fun b o e => by
  rw [upd_ne (ne_of_none e nx), upd_ne (ne_of_none e ndx)]
  exact e
theorem put_same {H H' : Hp} {x : Addr} {o' : HO} (nx : H x = none) (s : Same H H') : Same H (upd H' x o') := fun b o e => by
  rw [upd_ne (ne_of_none e nx)]
  exact s _ _ e
theorem SameX.fresh {x : Addr} {H H0 H' : Hp} (nx : H x = none) (s : Same H H0) (k : SameX x H0 H') : Same H H' := fun b o e => k b o (ne_of_none e nx) (s _ _ e)
/-- the clauses of _law_made -/
abbrev madeC (CM CB CT CV : Addr) : Clz := [(CM, "market", some "error"), (CB, "bag", none), (CT, "much", some "good"), (CV, "times", some "value")]
theorem dErr_shape {d : PyData} (h : dErr d = .none) : ∃ (g : Nat) (ts : List PyData), d = .tuple [.int (g : Int), .tuple ts] ∧ 1 ≤ g ∧ g ≤ 3 := by
  have hm : mErr d = .none := by
    by_cases e : mErr d = .none
    · exact e
    · rw [dErr_m e] at h
      exact absurd h e
  obtain ⟨g, ts, rfl, g1, g4, t4⟩ := mErr_none hm
  rw [dErr_n hm] at h
  by_cases hg : 3 < g ∨ 3 < ts.length
  · rw [if_pos hg] at h
    cases h
  · exact ⟨g.toNat, ts, by rw [Int.toNat_of_nonneg (by omega)], by omega, by omega⟩
section
variable {K : PySem.W.Frag} {C CB CM CT CV CX x dx : Addr} {R : Rgn} {H : Hp} {Q : VK} {mv sv : V} {d : PyData} {row : Option (List Int)}
theorem rd_desk (S : StdC K C) (dc : DskC K CX) (dv : Dat R H mv d) (hw : wt d ≤ 1000000) (new : ∀ p, H p = none → R p) (hs : StkV K C H sv row) (nx : H x = none) (ndx : H dx = none) (ne : dx ≠ x)
    (q : ∀ (H' : Hp) (p : Addr) (l : List V), Same H H' → H p = none → H' p = some (.lst l) → FoundL C CX R H' (dueD d row (.int 0)) mv sv row [] l → Q (.ref p) H') :
    spDInit K C CB CM CT (.ref x :: ([mv, sv] ++ [])) (upd (upd H dx (.own x)) x (.ins CX dx [])) (fun v H2 => v = .non ∧ ([V.str "ok", V.ref x].length ≤ sizeLine ∧ ∀ p, H2 p = none → Q (.ref p) (upd H2 p (.lst [.str "ok", .ref x])))) (clE (madeC CM CB CT CV) Q) := by
  have s2 := made_same (CX := CX) nx ndx
  have ex2 : upd (upd H dx (.own x)) x (.ins CX dx []) x = some (.ins CX dx []) := upd_same
  generalize upd (upd H dx (.own x)) x (.ins CX dx []) = H2 at s2 ex2 ⊢
  refine ⟨x, dx, mv, sv, R, d, CX, rfl, dc, ex2, dv.same s2, hw, fun p hp => new p (s2.free hp), fun hd H' dd u sm nd ed du => ?_, fun hd => ?_⟩
  · refine ⟨(CM, "market", some "error"), .head _, rfl, dd, u, rfl, ed, fun p hp => ?_⟩
    have s3 := s2.trans sm
    exact q _ p _ (s3.trans (same_upd hp)) (s3.free hp) upd_same (.inl ⟨"market", [dErr d], [u], rfl, by decide, dueD_m hd, .cons (du.same (same_upd hp)) .nil, Nat.le_refl _⟩)
  obtain ⟨g, ts, rfl, g1, g3⟩ := dErr_shape hd
  refine ⟨g, ts, rfl, g1, g3, ?_⟩
  have eD := dueD_n (row := row) (c := .int 0) hd
  have eg : goodsD (.tuple [.int (g : Int), .tuple ts]) = (g : Int) := rfl
  rw [eg] at eD
  have bag : dueR (g : Int) row (.int 0) = .list [.str "bag"] → ∀ H', Same H2 H' → clE (madeC CM CB CT CV) Q (.ref CB) none H' := fun e H' sm => by
    refine ⟨(CB, "bag", none), .tail _ (.head _), rfl, fun p hp => ?_⟩
    have s3 := s2.trans sm
    exact q _ p _ (s3.trans (same_upd hp)) (s3.free hp) upd_same (.inl ⟨"bag", [], [], rfl, by decide, by rw [eD, e], .nil, Nat.zero_le _⟩)
  rcases hs with ⟨b, t, z, rfl, hb, zok, rfl⟩ | ⟨hn, rfl⟩
  · refine .inl ⟨b, t, z, rfl, hb.same s2, zok, fun hne => bag (dueR_len (by omega)), fun hl => ⟨fun k hk H' dd sm nd ed => ?_, fun hm H' ow to pl sm np bo ep => ?_⟩⟩
    · refine ⟨(CT, "much", some "good"), .tail _ (.tail _ (.head _)), rfl, dd, _, rfl, ed, fun p hp => ?_⟩
      have s3 := s2.trans sm
      exact q _ p _ (s3.trans (same_upd hp)) (s3.free hp) upd_same (.inl ⟨"much", [.int (k : Int)], [.int (k : Int)], rfl, by decide, by rw [eD, dueR_much (by omega) hk], .cons (.int _) .nil, Nat.le_refl _⟩)
    · refine ⟨rfl, (by show 2 ≤ sizeLine; decide), fun p hp => ?_⟩
      have ex' := sm _ _ ex2
      obtain ⟨dn, en⟩ := bo.ins
      have n1 : ow ≠ x := fun z => by rw [z, ex'] at en; cases en
      have n2 : to ≠ x := fun z => by have := bo.tup; rw [z, ex'] at this; cases this
      have n3 : pl ≠ x := fun z => by rw [z, ex'] at ep; cases ep
      have s3 := put_same (o' := .ins CX dx (dskF mv (.ref b) (.ref ow) pl)) nx (s2.trans sm)
      have sp := same_upd (o := .lst [V.str "ok", V.ref x]) hp
      refine q _ p _ (s3.trans sp) (s3.free hp) upd_same (.inr ⟨by rw [eD, dueR_ok (by omega) hm rfl], z, x, dx, ow, to, pl, rfl, rfl, ?_, ?_, ?_⟩)
      · rw [List.append_nil]
        exact sp _ _ upd_same
      · refine Bg.same ⟨⟨dn, by rw [upd_ne n1]; exact en⟩, by rw [upd_ne n2, hl]; exact bo.tup⟩ sp
      · exact sp _ _ (by rw [upd_ne n3]; exact ep)
  · exact .inr ⟨(hn.same s2).notC S, bag dueR_no⟩
theorem rd_cdesk {cv : V} {c : PyData} (S : StdC K C) (dc : DskC K CX) (nm : NoAttr K CX "most") (dv : Dat R H mv d) (hw : wt d ≤ 1000000) (new : ∀ p, H p = none → R p) (hs : StkV K C H sv row) (hc : CapV cv c) (nx : H x = none) (ndx : H dx = none) (ne : dx ≠ x)
    (q : ∀ (H' : Hp) (p : Addr) (l : List V), Same H H' → H p = none → H' p = some (.lst l) → FoundL C CX R H' (dueD d row c) mv sv row [("most", cv)] l → Q (.ref p) H') :
    spCInit K C CB CM CT CV (.ref x :: ([mv, sv, cv] ++ [])) (upd (upd H dx (.own x)) x (.ins CX dx [])) (fun v H2 => v = .non ∧ ([V.str "ok", V.ref x].length ≤ sizeLine ∧ ∀ p, H2 p = none → Q (.ref p) (upd H2 p (.lst [.str "ok", .ref x])))) (clE (madeC CM CB CT CV) Q) := by
  have s2 := made_same (CX := CX) nx ndx
  have ex2 : upd (upd H dx (.own x)) x (.ins CX dx []) x = some (.ins CX dx []) := upd_same
  generalize upd (upd H dx (.own x)) x (.ins CX dx []) = H2 at s2 ex2 ⊢
  refine ⟨x, dx, mv, sv, cv, R, d, CX, capD c, rfl, dc, nm, ex2, dv.same s2, hw, fun p hp => new p (s2.free hp), fun _ _ => hc.capB, fun hd H' dd u sm nd ed du => ?_, fun hd => ?_⟩
  · refine ⟨(CM, "market", some "error"), .head _, rfl, dd, u, rfl, ed, fun p hp => ?_⟩
    have s3 := s2.trans sm
    exact q _ p _ (s3.trans (same_upd hp)) (s3.free hp) upd_same (.inl ⟨"market", [dErr d], [u], rfl, by decide, dueD_m hd, .cons (du.same (same_upd hp)) .nil, Nat.le_refl _⟩)
  obtain ⟨g, ts, rfl, g1, g3⟩ := dErr_shape hd
  refine ⟨g, ts, rfl, g1, g3, ?_⟩
  have eD := dueD_n (row := row) (c := c) hd
  have eg : goodsD (.tuple [.int (g : Int), .tuple ts]) = (g : Int) := rfl
  rw [eg] at eD
  have bag : dueR (g : Int) row c = .list [.str "bag"] → ∀ H', Same H2 H' → clE (madeC CM CB CT CV) Q (.ref CB) none H' := fun e H' sm => by
    refine ⟨(CB, "bag", none), .tail _ (.head _), rfl, fun p hp => ?_⟩
    have s3 := s2.trans sm
    exact q _ p _ (s3.trans (same_upd hp)) (s3.free hp) upd_same (.inl ⟨"bag", [], [], rfl, by decide, by rw [eD, e], .nil, Nat.zero_le _⟩)
  rcases hs with ⟨b, t, z, rfl, hb, zok, rfl⟩ | ⟨hn, rfl⟩
  · refine .inl ⟨b, t, z, rfl, hb.same s2, zok, fun hne => bag (dueR_len (by omega)), fun hl => ⟨fun k hk H' dd sm nd ed => ?_, fun hm => ⟨fun ho H' dd sm nd ed => ?_, fun ho H' ow to pl sm np bo ep => ?_⟩⟩⟩
    · refine ⟨(CT, "much", some "good"), .tail _ (.tail _ (.head _)), rfl, dd, _, rfl, ed, fun p hp => ?_⟩
      have s3 := s2.trans sm
      exact q _ p _ (s3.trans (same_upd hp)) (s3.free hp) upd_same (.inl ⟨"much", [.int (k : Int)], [.int (k : Int)], rfl, by decide, by rw [eD, dueR_much (by omega) hk], .cons (.int _) .nil, Nat.le_refl _⟩)
    · refine ⟨(CV, "times", some "value"), .tail _ (.tail _ (.tail _ (.head _))), rfl, dd, _, rfl, ed, fun p hp => ?_⟩
      have s3 := sm.fresh nx s2
      exact q _ p _ (s3.trans (same_upd hp)) (s3.free hp) upd_same (.inl ⟨"times", [c], [cv], rfl, by decide, by rw [eD, dueR_times (by omega) hm ho], .cons hc.dat .nil, Nat.le_refl _⟩)
    · refine ⟨rfl, (by show 2 ≤ sizeLine; decide), fun p hp => ?_⟩
      have ex' := sm _ _ ex2
      obtain ⟨dn, en⟩ := bo.ins
      have n1 : ow ≠ x := fun z => by rw [z, ex'] at en; cases en
      have n2 : to ≠ x := fun z => by have := bo.tup; rw [z, ex'] at this; cases this
      have n3 : pl ≠ x := fun z => by rw [z, ex'] at ep; cases ep
      have s3 := put_same (o' := .ins CX dx (dskF mv (.ref b) (.ref ow) pl ++ [(("most" : Str), cv)])) nx (s2.trans sm)
      have sp := same_upd (o := .lst [V.str "ok", V.ref x]) hp
      refine q _ p _ (s3.trans sp) (s3.free hp) upd_same (.inr ⟨by rw [eD, dueR_ok (by omega) hm ho], z, x, dx, ow, to, pl, rfl, rfl, ?_, ?_, ?_⟩)
      · exact sp _ _ upd_same
      · refine Bg.same ⟨⟨dn, by rw [upd_ne n1]; exact en⟩, by rw [upd_ne n2, hl]; exact bo.tup⟩ sp
      · exact sp _ _ (by rw [upd_ne n3]; exact ep)
  · exact .inr ⟨(hn.same s2).notC S, bag dueR_no⟩
end
theorem FoundL.same {C CX : Addr} {R : Rgn} {H H' : Hp} {due : PyData} {mv sv : V} {row : Option (List Int)} {more : List (Str × V)} {l : List V} (h : FoundL C CX R H due mv sv row more l) (s : Same H H') : FoundL C CX R H' due mv sv row more l := by
  rcases h with ⟨w, ds, r, h1, h2, h3, h4, h5⟩ | ⟨h1, z, x, dx, ow, to, pl, h2, h3, h4, h5, h6⟩
  · exact .inl ⟨w, ds, r, h1, h2, h3, h4.same s, h5⟩
  · exact .inr ⟨h1, z, x, dx, ow, to, pl, h2, h3, s _ _ h4, h5.same s, s _ _ h6⟩
/-- found[:1] + found[1:] * int(found[0] != 'ok') -/
theorem FoundL.cut {C CX : Addr} {R : Rgn} {H : Hp} {due : PyData} {mv sv : V} {row : Option (List Int)} {more : List (Str × V)} {l : List V} (h : FoundL C CX R H due mv sv row more l) :
    ∃ (w : Str) (r : List V) (ds : List PyData), l = .str w :: r ∧ r.length ≤ 1 ∧ due = .list ds ∧ Dats R H ([V.str w] ++ (List.replicate (if (!decide (V.str w = V.str "ok")) = true then (1 : Int) else 0).toNat r).flatten) ds := by
  rcases h with ⟨w, ds, r, h1, h2, h3, h4, h5⟩ | ⟨h1, z, x, dx, ow, to, pl, h2, h3, h4, h5, h6⟩
  · refine ⟨w, r, _, h1, h5, h3, ?_⟩
    rw [decide_eq_false (fun z => h2 (V.str.inj z))]
    have e : (List.replicate (if (!false) = true then (1 : Int) else 0).toNat r).flatten = r := by
      show (List.replicate 1 r).flatten = r
      simp
    rw [e]
    exact .cons (.str _) h4
  · refine ⟨"ok", [.ref x], _, h3, Nat.le_refl _, h1, ?_⟩
    rw [decide_eq_true rfl]
    exact .cons (.str _) .nil
theorem cut1 {w : Str} {r : List V} : cutV (.str w :: r) none (some 1) = [.str w] := by
  unfold cutV
  have e1 : HT.sIx (V.str w :: r).length 0 none = 0 := rfl
  have e2 : HT.sIx (V.str w :: r).length (V.str w :: r).length (some 1) = 1 := by
    unfold HT.sIx
    simp
  rw [e1, e2]
  rfl
theorem cut2 {w : Str} {r : List V} : cutV (.str w :: r) (some 1) none = r := by
  unfold cutV
  have e1 : HT.sIx (V.str w :: r).length 0 (some 1) = 1 := by
    unfold HT.sIx
    simp
  have e2 : HT.sIx (V.str w :: r).length (V.str w :: r).length none = r.length + 1 := rfl
  rw [e1, e2]
  simp
theorem great_lt : ∀ (x : List Int) (i k : Nat), k ∈ great x i → i + x.length ≤ 4 → k < 5
  | [], _, _, h, _ => absurd h List.not_mem_nil
  | a :: x, i, k, h, hl => by
    rw [List.length_cons] at hl
    have h' : k ∈ (if 6 < a then i :: great x (i + 1) else great x (i + 1)) := h
    split at h'
    · rcases List.mem_cons.mp h' with rfl | h2
      · omega
      · exact great_lt x (i + 1) k h2 (by omega)
    · exact great_lt x (i + 1) k h' (by omega)
/-- how great what is due is -/
theorem dueD_ok {d : PyData} {row : Option (List Int)} {c : PyData} (hc : Ok 40 0 c) (hx : ∀ x, row = some x → x.length ≤ 4) : Ok 200 3 (dueD d row c) := by
  have st : ∀ {w : Str}, Ok 40 0 (.str w) → Ok 200 3 (.list [.str w]) := fun {w} h => (Oks.one h).list.mono (by omega) (by omega)
  have st2 : ∀ {w : Str} {e : PyData}, Ok 40 2 (.str w) → Ok 100 2 e → Ok 200 3 (.list [.str w, e]) := fun {w e} h k => ((Oks.one h).append (Oks.one k)).list.mono (by omega) (Nat.le_refl _)
  have wd : ∀ w ∈ ([("market" : Str), "bag", "much", "times", "ok"] : List Str), Ok 40 0 (.str w) := by
    intro w hw
    have key : ([("market" : Str), "bag", "much", "times", "ok"] : List Str).all (fun w => fine (.str w) && decide (wt (.str w) ≤ 40)) = true := by decide +kernel
    have h := List.all_eq_true.mp key w hw
    rw [Bool.and_eq_true] at h
    exact ⟨h.1, of_decide_eq_true h.2, by rw [PyData.depth]; exact Nat.le_refl _⟩
  by_cases hd : dErr d = .none
  · rw [dueD_n hd]
    unfold dueR
    cases row with
    | none => exact st (wd _ (by simp))
    | some x =>
      dsimp only
      split
      · exact st (wd _ (by simp))
      · split
        · rename_i k hk
          have hk4 : k < 5 := by
            have h1 := hx x rfl
            rw [muchN_head] at hk
            exact great_lt x 0 k (List.mem_of_mem_head? hk) (by omega)
          exact st2 ((wd _ (by simp)).mono (Nat.le_refl _) (by omega)) ((nat_ok (g := k) (by omega)).mono (by omega) (by omega))
        · split
          · exact st (wd _ (by simp))
          · exact st2 ((wd _ (by simp)).mono (Nat.le_refl _) (by omega)) (hc.mono (by omega) (by omega))
  · rw [dueD_m hd]
    refine st2 ((wd _ (by simp)).mono (Nat.le_refl _) (by omega)) ?_
    by_cases hm : mErr d = .none
    · obtain ⟨g, ts, rfl, _⟩ := mErr_none hm
      rw [dErr_n hm] at hd ⊢
      split
      · have key : (fine (errD "room") && decide (wt (errD "room") ≤ 100) && decide ((errD "room").depth ≤ 2)) = true := by decide +kernel
        rw [Bool.and_eq_true, Bool.and_eq_true] at key
        exact ⟨key.1.1, of_decide_eq_true key.1.2, of_decide_eq_true key.2⟩
      · rename_i h
        rw [if_neg h] at hd
        exact absurd rfl hd
    · rw [dErr_m hm]
      exact err_ok d
end Lb
set_option Elab.async false
set_option linter.all false
set_option maxRecDepth 100000
set_option maxHeartbeats 4000000
namespace Lb
open PySem PySem.Spec PyProof.Rows L2 RZ TL
mutual
theorem lay_nd : ∀ {d : PyData}, d.canLay0 = true → d.hasDict = false
  | .none, _ => by rw [PyData.hasDict]
  | .bool _, _ => by rw [PyData.hasDict]
  | .int _, _ => by rw [PyData.hasDict]
  | .str _, _ => by rw [PyData.hasDict]
  | .list xs, h => by
    rw [PyData.canLay0] at h
    rw [PyData.hasDict]
    exact lay_nds h
  | .tuple xs, h => by
    rw [PyData.canLay0] at h
    rw [PyData.hasDict]
    exact lay_nds h
  | .dict _, h => by
    rw [PyData.canLay0] at h
    cases h
theorem lay_nds : ∀ {ds : List PyData}, PyData.canLayAll0 ds = true → PyData.hasDictAll ds = false
  | [], _ => by rw [PyData.hasDictAll]
  | d :: ds, h => by
    rw [PyData.canLayAll0, Bool.and_eq_true] at h
    rw [PyData.hasDictAll, lay_nd h.1, lay_nds h.2]
    rfl
end
theorem lay_all : ∀ {ds : List PyData}, (∀ d ∈ ds, d.canLay0 = true) → PyData.canLayAll0 ds = true
  | [], _ => by rw [PyData.canLayAll0]
  | d :: ds, h => by
    rw [PyData.canLayAll0, h d List.mem_cons_self, lay_all fun x hx => h x (List.mem_cons_of_mem _ hx)]
    rfl
theorem lay_list {ds : List PyData} (h : ∀ d ∈ ds, d.canLay0 = true) : (PyData.list ds).canLay0 = true := by
  rw [PyData.canLay0]
  exact lay_all h
theorem lay_tup {ds : List PyData} (h : ∀ d ∈ ds, d.canLay0 = true) : (PyData.tuple ds).canLay0 = true := by
  rw [PyData.canLay0]
  exact lay_all h
theorem lay_int (n : Int) : (PyData.int n).canLay0 = true := by rw [PyData.canLay0]
theorem lay_str {w : Str} (h : (PyData.str w).canLay0 = true) : (PyData.str w).canLay0 = true := h
theorem tw_lay {g : Int} {t : PyData} {w : Str} (h : tw g t = some w) : (PyData.str w).canLay0 = true := by
  unfold tw at h
  split at h
  · split at h
    · split at h
      · cases h
        decide +kernel
      · split at h
        · cases h
          decide +kernel
        · cases h
    · cases h
      decide +kernel
  · cases h
    decide +kernel
theorem two_all {p : PyData → Prop} {a b : PyData} (ha : p a) (hb : p b) : ∀ d ∈ [a, b], p d := fun d hd => by
  rcases List.mem_cons.mp hd with rfl | hd
  · exact ha
  · rw [List.mem_singleton.mp hd]
    exact hb
theorem one_all {p : PyData → Prop} {a : PyData} (ha : p a) : ∀ d ∈ [a], p d := fun d hd => by
  rw [List.mem_singleton.mp hd]
  exact ha
theorem scan_lay {g : Int} : ∀ {ts : List PyData} {k : Nat}, (scan g ts k).canLay0 = true
  | [], _ => by
    show (PyData.none).canLay0 = true
    rw [PyData.canLay0]
  | t :: ts, k => by
    rw [scan_cons]
    cases e : tw g t with
    | none => exact scan_lay (ts := ts)
    | some w => exact lay_tup (two_all (lay_int _) (tw_lay e))
theorem errD_lay {w : Str} (h : (PyData.str w).canLay0 = true) : (errD w).canLay0 = true := lay_tup (two_all (by rw [PyData.canLay0]) h)
theorem err_lay (d : PyData) : (mErr d).canLay0 = true := by
  unfold mErr
  split
  · split
    · split
      · exact scan_lay
      · exact errD_lay (by decide +kernel)
    · exact errD_lay (by decide +kernel)
  · split
    · exact errD_lay (by decide +kernel)
    · exact errD_lay (by decide +kernel)
  · exact errD_lay (by decide +kernel)
  · exact errD_lay (by decide +kernel)
theorem derr_lay (d : PyData) : (dErr d).canLay0 = true := by
  by_cases hm : mErr d = .none
  · obtain ⟨g, ts, rfl, _⟩ := mErr_none hm
    rw [dErr_n hm]
    split
    · exact errD_lay (by decide +kernel)
    · rw [PyData.canLay0]
  · rw [dErr_m hm]
    exact err_lay d
theorem due_lay {d : PyData} {row : Option (List Int)} {c : PyData} (hc : c.canLay0 = true) : (dueD d row c).canLay0 = true := by
  by_cases hd : dErr d = .none
  · rw [dueD_n hd]
    unfold dueR
    cases row with
    | none => exact lay_list (one_all (by decide +kernel))
    | some x =>
      dsimp only
      split
      · exact lay_list (one_all (by decide +kernel))
      · split
        · exact lay_list (two_all (by decide +kernel) (lay_int _))
        · split
          · exact lay_list (one_all (by decide +kernel))
          · exact lay_list (two_all (by decide +kernel) hc)
  · rw [dueD_m hd]
    exact lay_list (two_all (by decide +kernel) (derr_lay d))
theorem bag_lay {g : Int} {d : PyData} (h : bagB g d = true) : d.canLay0 = true := by
  cases d with
  | tuple ds =>
    rw [bagB_tup, Bool.and_eq_true] at h
    refine lay_tup fun x hx => ?_
    have := List.all_eq_true.mp h.2 x hx
    cases x with
    | int n => exact lay_int n
    | _ => exact absurd this Bool.false_ne_true
  | _ => exact absurd h Bool.false_ne_true
theorem tw_none_lay {g : Int} {t : PyData} (h : tw g t = none) : t.canLay0 = true := by
  unfold tw at h
  split at h
  · split at h
    · rename_i hb
      rw [Bool.and_eq_true] at hb
      exact lay_tup (two_all (bag_lay hb.1) (bag_lay hb.2))
    · cases h
  · cases h
theorem scan_none_lay {g : Int} : ∀ {ts : List PyData} {k : Nat}, scan g ts k = .none → ∀ t ∈ ts, t.canLay0 = true
  | [], _, _ => fun _ h => absurd h List.not_mem_nil
  | t :: ts, k, h => by
    rw [scan_cons] at h
    cases e : tw g t with
    | none =>
      rw [e] at h
      intro x hx
      rcases List.mem_cons.mp hx with rfl | hx
      · exact tw_none_lay e
      · exact scan_none_lay h x hx
    | some w =>
      rw [e] at h
      cases h
theorem mkt_lay {d : PyData} (h : mErr d = .none) : d.canLay0 = true := by
  obtain ⟨g, ts, rfl, g1, g4, t4⟩ := mErr_none h
  have h' : (if 1 ≤ g ∧ g ≤ 4 then (if ts.length ≤ 4 then scan g ts 0 else errD "many") else errD "goods") = .none := h
  rw [if_pos ⟨g1, g4⟩, if_pos t4] at h'
  exact lay_tup (two_all (lay_int _) (lay_tup (scan_none_lay h')))
theorem dErr_mErr {d : PyData} (h : dErr d = .none) : mErr d = .none := by
  by_cases e : mErr d = .none
  · exact e
  · rw [dErr_m e] at h
    exact absurd h e
theorem shaped_of {d : PyData} {S k : Nat} (h : d.canLay0 = true) (ok : Ok S k d) (hk : k ≤ 64) : SeqAt.shaped d = true := by
  unfold SeqAt.shaped
  rw [h, decide_eq_true (Nat.le_trans ok.dp hk)]
  rfl
theorem FoundL.extN {C CX : Addr} {R : Rgn} {H H' : Hp} {due : PyData} {mv sv : V} {row : Option (List Int)} {more : List (Str × V)} {l : List V} (h : FoundL C CX R H due mv sv row more l) (k : LamX.ExtN H H') : FoundL C CX R H' due mv sv row more l := by
  rcases h with ⟨w, ds, r, h1, h2, h3, h4, h5⟩ | ⟨h1, z, x, dx, ow, to, pl, h2, h3, h4, h5, h6⟩
  · exact .inl ⟨w, ds, r, h1, h2, h3, Dats.extN k h4, h5⟩
  · exact .inr ⟨h1, z, x, dx, ow, to, pl, h2, h3, k _ _ h4 (fun _ z => nomatch z), h5.extN k, k _ _ h6 (fun _ z => nomatch z)⟩
/-- is it ok -/
theorem FoundL.eqv {C CX : Addr} {R : Rgn} {H : Hp} {due : PyData} {mv sv : V} {row : Option (List Int)} {more : List (Str × V)} {l : List V} (h : FoundL C CX R H due mv sv row more l) :
    (PyData.eqv due (.list [.str "ok"]) = false) ∨ (PyData.eqv due (.list [.str "ok"]) = true ∧ due = .list [.str "ok"] ∧ ∃ (z : List Int) (x dx ow to pl : Addr), row = some z ∧ l = [.str "ok", .ref x] ∧ H x = some (.ins CX dx (dskF mv sv (.ref ow) pl ++ more)) ∧ Bg C H ow to (List.replicate z.length 0) ∧ H pl = some (.lst [])) := by
  rcases h with ⟨w, ds, r, h1, h2, h3, h4, h5⟩ | ⟨h1, h2⟩
  · refine .inl ?_
    rw [h3, PyData.eqv, PyData.eqvAll, PyData.eqv]
    have : (w == ("ok" : Str)) = false := by simpa using h2
    rw [this, Bool.false_and]
  · refine .inr ⟨?_, h1, h2⟩
    rw [h1]
    decide +kernel
/-- the data of a market that a desk takes -/
theorem dueD_mkt {d : PyData} {row : Option (List Int)} {c : PyData} (h : dueD d row c = .list [.str "ok"]) : dErr d = .none := by
  by_cases hd : dErr d = .none
  · exact hd
  · rw [dueD_m hd] at h
    cases h
theorem dueD_cap {d : PyData} {row : Option (List Int)} {c : PyData} (h : dueD d row c = .list [.str "ok"]) : capD c = true := by
  rw [dueD_n (dueD_mkt h)] at h
  unfold dueR at h
  cases row with
  | none => cases h
  | some x =>
    dsimp only at h
    split at h
    · cases h
    · split at h
      · cases h
      · split at h
        · assumption
        · cases h
theorem sum_zeros : ∀ n : Nat, (List.replicate n (0 : Int)).sum = 0
  | 0 => rfl
  | n + 1 => by rw [List.replicate_succ, List.sum_cons, sum_zeros n]; rfl
end Lb
set_option Elab.async false
set_option linter.all false
set_option maxRecDepth 100000
set_option maxHeartbeats 8000000
namespace Lb
open PySem PySem.Spec PyProof.Rows L2 RZ TL
def topS (i : Nat) : Stmt := PySem.Challenge.pw_lentbeside_k35_desks_made.main.body.getD i (.Pass ⟨0, 0, 0, 0⟩)
abbrev s__wall : Stmt := topS 0
abbrev s_BadMarket___init__ : Stmt := inClass (topS 3) 0
abbrev s_BadTimes___init__ : Stmt := inClass (topS 5) 0
abbrev s_Lacking___init__ : Stmt := inClass (topS 6) 0
abbrev s_NotOwed___init__ : Stmt := inClass (topS 7) 0
abbrev s_TooMuch___init__ : Stmt := inClass (topS 8) 0
abbrev s_NoTrade___init__ : Stmt := inClass (topS 10) 0
abbrev s_is_whole : Stmt := topS 19
abbrev s_is_bag : Stmt := topS 20
abbrev s_is_pair : Stmt := topS 21
abbrev s_trade_fault : Stmt := topS 22
abbrev s_market_error : Stmt := topS 23
abbrev s_holds : Stmt := topS 24
abbrev s_joined : Stmt := topS 26
abbrev s_first_lacking : Stmt := topS 28
abbrev s_Bag___init__ : Stmt := inClass (topS 29) 1
abbrev s_Bag_of : Stmt := inClass (topS 29) 2
abbrev s_Bag_amounts : Stmt := inClass (topS 29) 3
abbrev s_Bag_is_like : Stmt := inClass (topS 29) 4
abbrev s_Bag_amounts_of : Stmt := inClass (topS 29) 5
abbrev s_Bag___getitem__ : Stmt := inClass (topS 29) 6
abbrev s_Bag___len__ : Stmt := inClass (topS 29) 7
abbrev s_Bag___bool__ : Stmt := inClass (topS 29) 8
abbrev s_Bag___iter__ : Stmt := inClass (topS 29) 9
abbrev s_Bag___str__ : Stmt := inClass (topS 29) 10
abbrev s_Bag___add__ : Stmt := inClass (topS 29) 11
abbrev s_Bag___sub__ : Stmt := inClass (topS 29) 12
abbrev s_Bag___or__ : Stmt := inClass (topS 29) 13
abbrev s_Bag___and__ : Stmt := inClass (topS 29) 14
abbrev s_Bag___mul__ : Stmt := inClass (topS 29) 15
abbrev s_Bag___contains__ : Stmt := inClass (topS 29) 16
abbrev s_Bag___eq__ : Stmt := inClass (topS 29) 17
abbrev s_desk_error : Stmt := topS 31
abbrev s_check_kind : Stmt := topS 32
abbrev s_check_room : Stmt := topS 33
abbrev s_Desk___init__ : Stmt := inClass (topS 34) 0
abbrev s_Desk_market : Stmt := inClass (topS 34) 1
abbrev s_Desk_stock : Stmt := inClass (topS 34) 2
abbrev s_Desk_debt : Stmt := inClass (topS 34) 3
abbrev s_Desk_version : Stmt := inClass (topS 34) 4
abbrev s_Desk_settled : Stmt := inClass (topS 34) 5
abbrev s_Desk_balance : Stmt := inClass (topS 34) 6
abbrev s_Desk_record : Stmt := inClass (topS 34) 7
abbrev s_Desk_trade : Stmt := inClass (topS 34) 8
abbrev s_Desk_borrow : Stmt := inClass (topS 34) 9
abbrev s_Desk_pay : Stmt := inClass (topS 34) 10
abbrev s_Desk_undo : Stmt := inClass (topS 34) 11
abbrev s_Desk_attempt : Stmt := inClass (topS 34) 12
abbrev s_Desk_loans : Stmt := inClass (topS 34) 13
abbrev s_Desk___iadd__ : Stmt := inClass (topS 34) 14
abbrev s_Desk___isub__ : Stmt := inClass (topS 34) 15
abbrev s_Desk___len__ : Stmt := inClass (topS 34) 16
abbrev s_Desk___str__ : Stmt := inClass (topS 34) 17
abbrev s_Desk___eq__ : Stmt := inClass (topS 34) 18
abbrev s_CappedDesk___init__ : Stmt := inClass (topS 35) 0
abbrev s_CappedDesk_cap : Stmt := inClass (topS 35) 1
abbrev s_CappedDesk_borrow : Stmt := inClass (topS 35) 2
abbrev s_CappedDesk___str__ : Stmt := inClass (topS 35) 3
abbrev s__law_deck : Stmt := topS 37
abbrev s__law_draw : Stmt := topS 38
abbrev s__law_one : Stmt := topS 39
abbrev s__law_bag : Stmt := topS 40
abbrev s__law_side : Stmt := topS 41
abbrev s__law_trade : Stmt := topS 42
abbrev s__law_market : Stmt := topS 43
abbrev s__law_small : Stmt := topS 44
abbrev s__law_any_market : Stmt := topS 45
abbrev s__law_plus : Stmt := topS 46
abbrev s__law_spoilt : Stmt := topS 47
abbrev s__law_made : Stmt := topS 48
abbrev s__law_due : Stmt := topS 49
abbrev s_law : Stmt := topS 50
end Lb
set_option Elab.async false
set_option linter.all false
set_option maxRecDepth 100000
set_option maxHeartbeats 8000000
namespace Lb
open PySem PySem.Spec PyProof.Rows L2 RZ TL
section
variable {P : Program} {w : World} {K : PySem.W.Frag} {mg : Str → Option Value} {base : Heap}
theorem sc__law_draw : FnScope ["_law_deck_here", "_law_many", "_law_cells", "_law_turn", "_law_rests", "_law_at", "_law_digit", "_law_mixed", "_law_again"] ["_law_deck_here", "_law_many"] (defScope s__law_draw) := ⟨rfl, rfl, rfl, by decide +kernel, rfl, by decide +kernel, by decide +kernel⟩
theorem own_draw (D : Df K mg "_law_draw" s__law_draw) (B : Blt mg) : Own P w K mg base "_law_draw" 1 ["_law_deck_here", "_law_many"] spDraw := by
  refine own_of D sc__law_draw (fun _ _ _ _ _ _ us hl => match us, hl with | [_, _], _ => rfl) (fun vs H Q E h => ?_) (fun f cdv A outer s H vs Q E hr h => ?_)
  · obtain ⟨_, _, _, _, _, rfl, _⟩ := h
    rfl
  · obtain ⟨d, c, r, n, m, rfl, dk, hn, hm, hm2, q⟩ := h
    obtain ⟨t, cs, rs, ht, h0, h64, hrl, n1, n2, n3, e1, e2, e3⟩ := dk
    refine ⟨_, (pss_cons (ps_asg (pv 0) (pg_lst rfl (pgs_cons (pg_name (i := 2) sc__law_draw.nd rfl (.inl rfl)) (pgs_cons (pg_name (i := 3) sc__law_draw.nd rfl (.inl rfl)) (pgs_cons (pg_name (i := 4) sc__law_draw.nd rfl (.inl rfl)) pgs_nil)))))
      (pss_cons (ps_set (i := 5) sc__law_draw.nd rfl (.inl rfl) (pe_op op_mod (pe_callTy (T := "int") call_int1 (by rfl) B.b_int PyProof.Rows.boot_int (pa_cons (pv 3) pa_nil)) (pe_callB (id := "len") call_len_seq (by rfl) B.b_len PySem.boot_len (pa_cons (pv 2) pa_nil))))
      (pss_cons (ps_asg (pe_op op_add (pv 3) pe_int) (pg_sub (pv 0) pe_int set_list))
      (pss_cons (ps_if (pt_cmpR op_gt (pe_ix ix_list (pv 4) (pv 5) (fun _ _ => rfl)) pe_int (nomark _)) (pss_cons (ps_set (i := 6) sc__law_draw.nd rfl (.inl rfl) (pe_op op_mod (pe_callTy (T := "int") call_int1 (by rfl) B.b_int PyProof.Rows.boot_int (pa_cons (pe_ix ix_list (pv 4) (pv 5) (fun _ _ => rfl)) pa_nil)) (pv 1)))
      (pss_cons (ps_asg (pe_op op_fdiv (pe_ix ix_list (pv 4) (pv 5) (fun _ _ => rfl)) (pv 1)) (pg_sub (pv 4) (pv 5) set_list))
      (pss_one (ps_ret (pv 6))))) pss_nil)
      (pss_cons (ps_set (i := 7) sc__law_draw.nd rfl (.inl rfl) (pe_op op_mod (pe_op op_pow (pe_op op_add (pe_op op_add (pe_op op_mod (pe_callTy (T := "int") call_int1 (by rfl) B.b_int PyProof.Rows.boot_int (pa_cons (pe_ix ix_list (pv 2) (pv 5) (fun _ _ => rfl)) pa_nil)) pe_int) (pe_op op_mul pe_int (pv 3))) pe_int) pe_int) pe_int))
      (pss_cons (ps_set (i := 8) sc__law_draw.nd rfl (.inl rfl) (pe_op op_mod (pe_op op_pow (pe_op op_add (pe_op op_add (pv 7) (pe_op op_mul pe_int (pv 3))) pe_int) pe_int) pe_int))
      (pss_one (ps_ret (pe_op op_mod (pe_op op_mod (pe_callTy (T := "int") call_int1 (by rfl) B.b_int PyProof.Rows.boot_int (pa_cons (pe_op op_add (pe_op op_mul (pv 8) pe_int) (pv 7)) pa_nil)) pe_int) (pv 1)))))))))), ?_⟩
    -- cells, turn, rests = deck; at = int(turn) % len(cells)
    refine ⟨_, rfl, d, _, rfl, SqL.of e1, rfl, _, _, rfl, _, _, rfl, _, _, rfl, rfl, ?_⟩
    refine ⟨_, rfl, .inl ⟨_, rfl, ?_⟩⟩
    refine ⟨_, rfl, c, _, rfl, .inl (SqL.of e2), _, _, rfl, rfl, ?_, ?_⟩
    · show (0 : Int) < ((cs.map V.int).length : Int)
      rw [List.length_map]
      omega
    dsimp only
    rw [List.length_map]
    obtain ⟨j, hj, ej⟩ := emod_nat (t : Int) h0
    rw [ej]
    -- deck[1] = turn + 1
    refine ⟨_, rfl, _, _, rfl, rfl, ?_⟩
    refine ⟨_, rfl, d, _, _, 1, rfl, rfl, e1, rfl, ?_⟩
    have hr1 : upd H d (.lst ([V.ref c, .int (t : Int), .ref r].set 1 (.int ((t : Int) + 1)))) r = some (.lst (rs.map V.int)) := by
      rw [upd_ne n2.symm]
      exact e3
    have hc1 : upd H d (.lst ([V.ref c, .int (t : Int), .ref r].set 1 (.int ((t : Int) + 1)))) c = some (.lst (cs.map V.int)) := by
      rw [upd_ne n1.symm]
      exact e2
    -- if rests[at] > 0
    refine ⟨_, rfl, _, rfl, r, _, _, _, rfl, rfl, SqL.of hr1, nat_at (by omega), _, _, rfl, rfl, _, rfl, ite2 (fun hp => ?_) (fun hp => ?_)⟩
    · refine ⟨_, rfl, _, rfl, r, _, _, _, rfl, rfl, SqL.of hr1, nat_at (by omega), .inl ⟨_, rfl, ?_⟩⟩
      refine ⟨_, rfl, _, _, rfl, rfl, ?_, ?_⟩
      · show (0 : Int) < (m : Int)
        omega
      obtain ⟨v, hv, ev⟩ := emod_nat (rs.getD j 0) hm
      dsimp only
      rw [ev]
      refine ⟨_, rfl, _, rfl, r, _, _, _, rfl, rfl, SqL.of hr1, nat_at (by omega), ?_⟩
      refine ⟨_, rfl, _, _, rfl, rfl, ⟨by omega, by omega⟩, ?_⟩
      refine ⟨_, rfl, _, rfl, r, _, _, j, rfl, rfl, hr1, ixN_nat (by rw [List.length_map]; omega), ?_⟩
      refine ⟨_, rfl, q _ v hv ⟨t + 1, cs, rs.set j (rs.getD j 0 / (m : Int)), by omega, h0, h64, by rw [List.length_set]; exact hrl, n1, n2, n3, ?_, ?_, ?_⟩ ?_⟩
      · rw [upd_ne n2, upd_same]
        rfl
      · rw [upd_ne n3]
        exact hc1
      · rw [upd_same, List.map_set]
      · intro b o z1 z2 e
        rw [upd_ne z2, upd_ne z1]
        exact e
    · have ht2 : (t : Int) < 2 ^ 40 := by omega
      have md : ∀ (a b : Int), 0 < b → 0 ≤ a % b ∧ a % b < b := fun a b hb => ⟨Int.emod_nonneg a (by omega), Int.emod_lt_of_pos a hb⟩
      refine ⟨_, rfl, _, rfl, c, _, _, _, rfl, rfl, SqL.of hc1, nat_at hj, .inl ⟨_, rfl, ?_⟩⟩
      refine ⟨_, _, rfl, rfl, (by show (0 : Int) < 2147483543; decide), ?_⟩
      have k1 := md (cs.getD j 0) 2147483543 (by decide)
      refine ⟨_, rfl, _, _, rfl, rfl, .inl ⟨by decide, by decide⟩, _, _, rfl, rfl, _, _, rfl, rfl, _, _, rfl, rfl, ⟨by decide, by decide, ?_⟩, _, _, rfl, rfl, (by show (0 : Int) < 2147483497; decide), ?_⟩
      · generalize cs.getD j 0 % 2147483543 = x at k1
        show (x + 75979 * (t : Int) + 4481).natAbs < 2 ^ 64
        omega
      dsimp only
      generalize hm3 : (cs.getD j 0 % 2147483543 + 75979 * (t : Int) + 4481) ^ (3 : Int).toNat % 2147483497 = mx
      have k2 := md ((cs.getD j 0 % 2147483543 + 75979 * (t : Int) + 4481) ^ (3 : Int).toNat) 2147483497 (by decide)
      rw [hm3] at k2
      refine ⟨_, rfl, _, rfl, _, _, rfl, rfl, .inl ⟨by decide, by decide⟩, _, _, rfl, rfl, _, _, rfl, rfl, _, _, rfl, rfl, ⟨by decide, by decide, ?_⟩, _, _, rfl, rfl, (by show (0 : Int) < 2147483423; decide), ?_⟩
      · show (mx + 7919 * (t : Int) + 13).natAbs < 2 ^ 64
        omega
      refine ⟨_, rfl, _, _, rfl, rfl, .inr ⟨by decide, by decide⟩, _, rfl, _, _, rfl, rfl, .inl ⟨_, rfl, ?_⟩⟩
      refine ⟨_, _, rfl, rfl, (by show (0 : Int) < 4611686018427387847; decide), _, rfl, _, _, rfl, rfl, ?_, ?_⟩
      · show (0 : Int) < (m : Int)
        omega
      dsimp only
      generalize (mx + 7919 * (t : Int) + 13) ^ (3 : Int).toNat % 2147483423 * 2147483399 + mx = z
      obtain ⟨v, hv, ev⟩ := emod_nat (z % 4611686018427387847) hm
      rw [ev]
      refine q _ v hv ⟨t + 1, cs, rs, by omega, h0, h64, hrl, n1, n2, n3, ?_, hc1, hr1⟩ fun b o z1 z2 e => ?_
      · rw [upd_same]
        rfl
      · rw [upd_ne z1]
        exact e

end
end Lb
set_option Elab.async false
set_option linter.all false
set_option maxRecDepth 100000
set_option maxHeartbeats 8000000
namespace Lb
open PySem PySem.Spec PyProof.Rows L2 RZ TL
section
variable {P : Program} {w : World} {K : PySem.W.Frag} {mg : Str → Option Value} {base : Heap}
theorem sc__law_deck : FnScope ["_law_script", "_law_cells", "_law_cell"] ["_law_script"] (defScope s__law_deck) := ⟨rfl, rfl, rfl, by decide +kernel, rfl, by decide +kernel, by decide +kernel⟩
theorem own_deck (D : Df K mg "_law_deck" s__law_deck) (B : Blt mg) : Own P w K mg base "_law_deck" 1 ["_law_script"] (spDeck K) := by
  refine own_of D sc__law_deck (fun _ _ _ _ _ _ us hl => match us, hl with | [_], _ => rfl) (fun vs H Q E h => ?_) (fun f cdv A outer s H vs Q E hr h => ?_)
  · obtain ⟨_, _, rfl, _⟩ := h
    rfl
  · obtain ⟨a, ns, rfl, hS, hl, q⟩ := h
    refine ⟨_, (pss_cons (ps_set (i := 1) sc__law_deck.nd rfl (.inl rfl) (pe_op op_cat (pe_callTy (T := "list") call_list_of (by rfl) B.b_list (by decide +kernel) (pa_cons (pe_slice sl_list (pv 0) po_none (po_some pe_int)) pa_nil)) (pe_op op_rep (pe_lst (pa_cons pe_int pa_nil)) (pe_callTy (T := "int") call_int1 (by rfl) B.b_int PyProof.Rows.boot_int (pa_cons (pe_cmpR op_eq (pe_callB (id := "len") call_len_seq (by rfl) B.b_len PySem.boot_len (pa_cons (pv 0) pa_nil)) pe_int (nomark _)) pa_nil)))))
      (pss_one (ps_ret (pe_lst (pa_cons (pv 1) (pa_cons pe_int (pa_cons (pe_lc (own := [("_law_cell", 2)]) (g := gName 2) (tt := tYes) rfl sc__law_deck.nd (pi_list (pv 1)) (blkOk_by (own := [("_law_cell", 2)]) (N := ["_law_script", "_law_cells", "_law_cell"]) (sc := defScope s__law_deck) (by decide +kernel)) (fun _ _ _ _ _ => (pg_name (i := 2) sc__law_deck.nd rfl (.inl rfl))) (fun _ _ _ _ _ => pts_nil) (fun _ _ _ _ _ => (pe_op op_mul (pv 2) (pe_callTy (T := "int") call_int1 (by rfl) B.b_int PyProof.Rows.boot_int (pa_cons (pe_cmpR op_ge (pv 2) (pe_op op_pow pe_int pe_int) (nomark _)) pa_nil))))) pa_nil))))))), ?_⟩
    -- list(script[:63])
    refine ⟨_, rfl, 63, rfl, a, _, rfl, hS, fun p1 z1 => ?_⟩
    have s1 := same_upd (o := .lst (cutV (ns.map V.int) none (some 63))) z1
    refine ⟨p1, _, rfl, .inl (SqL.of upd_same), fun p2 z2 => ?_⟩
    have s2 := s1.trans (same_upd (o := .lst (cutV (ns.map V.int) none (some 63))) z2)
    -- [0] * int(len(script) == 0)
    refine ⟨(by show 1 ≤ sizeLine; decide), fun p3 z3 => ?_⟩
    have s3 := s2.trans (same_upd (o := .lst [V.int 0]) z3)
    refine ⟨_, rfl, a, _, rfl, .inl (s3.seq hS), rfl, .inr ⟨_, rfl, ?_⟩⟩
    have hb : ∀ b : Bool, (-(2 ^ 63) : Int) ≤ (if b then 1 else 0) ∧ (if b then (1 : Int) else 0) < 2 ^ 63 ∧ [V.int 0].length * (if b then (1 : Int) else 0).toNat ≤ sizeLine := fun b => by cases b <;> decide
    obtain ⟨b1, b2, b3⟩ := hb (decide (V.int ((ns.map V.int).length : Int) = V.int 0))
    refine ⟨p3, _, _, rfl, rfl, upd_same, b1, b2, b3, fun p4 z4 => ?_⟩
    dsimp only
    generalize hcs : (List.replicate (if decide (V.int ((ns.map V.int).length : Int) = V.int 0) = true then (1 : Int) else 0).toNat [V.int 0]).flatten = more at *
    have s4 := s3.trans (same_upd (o := .lst more) z4)
    have e2 : upd (upd (upd (upd H p1 (.lst (cutV (ns.map V.int) none (some 63)))) p2 (.lst (cutV (ns.map V.int) none (some 63)))) p3 (.lst [V.int 0])) p4 (.lst more) p2 = some (.lst (cutV (ns.map V.int) none (some 63))) :=
      same_upd z4 _ _ (same_upd z3 _ _ upd_same)
    obtain ⟨zs, hz, hz2⟩ : ∃ zs : List Int, more = zs.map V.int ∧ 0 < ns.length + zs.length ∧ zs.length ≤ 1 := by
      rw [← hcs]
      cases ns with
      | nil => exact ⟨[0], rfl, by decide, by decide⟩
      | cons x xs => exact ⟨[], by
          rw [decide_eq_false (fun z => by
            have := V.int.inj z
            simp at this
            omega)]
          rfl, by simp, by simp⟩
    subst hz
    rw [cut63 ns hl] at *
    refine ⟨p2, p4, _, _, rfl, rfl, e2, upd_same, ?_, fun p5 z5 => ?_⟩
    · rw [List.length_map, List.length_map]
      exact Nat.le_of_lt (small1000 (by omega))
    generalize hH5 : upd (upd (upd (upd (upd H p1 (.lst (ns.map V.int))) p2 (.lst (ns.map V.int))) p3 (.lst [V.int 0])) p4 (.lst (zs.map V.int))) p5 (.lst (ns.map V.int ++ zs.map V.int)) = H5
    have e5 : H5 p5 = some (.lst ((ns ++ zs).map V.int)) := by
      rw [← hH5, upd_same, List.map_append]
    have s5 : Same H H5 := by
      rw [← hH5]
      exact s4.trans (same_upd z5)
    have f5 : H p5 = none := s4.free z5
    -- [cells, 0, [..]]
    refine ⟨_, rfl, _, rfl, p5, rfl, ⟨_, SqL.of e5⟩, fun D hD => ?_⟩
    have f6 : H D = none := s5.free hD
    have n56 : p5 ≠ D := ne_of_none e5 hD
    refine lc_list (K := K) (a := p5) (xs := (ns ++ zs).map V.int) (fun i H' => Same H5 H' ∧ ∃ rs : List Int, rs.length = i ∧ H' D = some (.lst (rs.map V.int)))
      ⟨same_upd hD, [], rfl, upd_same⟩ (fun i H' _ hP => hP.1.seq (SqL.of e5)) ?_ ?_
    · rintro i x H' hi ⟨sm, rs, hr1, hr2⟩
      have hlt : i < (ns ++ zs).length := by
        have := (List.getElem?_eq_some_iff.mp hi).1
        rw [List.length_map] at this
        exact this
      obtain ⟨u, rfl, _⟩ := int_at hi
      refine ⟨rfl, all_in ?_⟩
      refine ⟨_, rfl, _, rfl, _, _, rfl, rfl, ⟨by decide, by decide, by decide⟩, _, _, rfl, rfl, .inr ⟨_, rfl, ?_⟩⟩
      refine ⟨_, _, rfl, rfl, .inr ?_, rs.map V.int, hr2, ?_, ?_, ?_⟩
      · cases decide ((10 : Int) ^ (18 : Int).toNat ≤ u) <;> exact ⟨by decide, by decide⟩
      · rw [List.length_map]
        exact small1000 (by rw [List.length_append] at hlt; omega)
      · intro b o e
        rw [upd_ne (ne_of_none e hD)]
        exact sm _ _ e
      · refine ⟨rs ++ [u * (if decide ((10 : Int) ^ (18 : Int).toNat ≤ u) = true then 1 else 0)], by rw [List.length_append, hr1]; rfl, ?_⟩
        rw [upd_same, List.map_append]
        rfl
    · rintro H' ⟨sm, rs, hr1, hr2⟩
      rw [List.length_map] at hr1
      refine ⟨(by show 3 ≤ sizeLine; decide), fun p7 z7 => ?_⟩
      have s7 := same_upd (o := .lst [V.ref p5, V.int 0, V.ref D]) z7
      have a5 := s7 _ _ (sm _ _ e5)
      have aD := s7 _ _ hr2
      refine q _ p7 p5 D ((s5.trans sm).trans s7) ((s5.trans sm).free z7) f5 f6 ⟨0, ns ++ zs, rs, Nat.le_refl _, ?_, ?_, hr1, ?_, ?_, n56, upd_same, a5, aD⟩
      · rw [List.length_append]
        exact hz2.1
      · rw [List.length_append]
        omega
      · exact (ne_of_none (sm _ _ e5) z7).symm
      · exact (ne_of_none hr2 z7).symm

end
end Lb
set_option Elab.async false
set_option linter.all false
set_option maxRecDepth 100000
set_option maxHeartbeats 8000000
namespace Lb
open PySem PySem.Spec PyProof.Rows L2 RZ TL
section
variable {P : Program} {w : World} {K : PySem.W.Frag} {mg : Str → Option Value} {base : Heap}
theorem sc__law_one : FnScope ["_law_deck_here", "_law_items"] ["_law_deck_here", "_law_items"] (defScope s__law_one) := ⟨rfl, rfl, rfl, by decide +kernel, rfl, by decide +kernel, by decide +kernel⟩
theorem own_one (D : Df K mg "_law_one" s__law_one) (B : Blt mg) (O__law_draw : Own P w K mg base "_law_draw" 1 ["_law_deck_here", "_law_many"] spDraw) : Own P w K mg base "_law_one" 2 ["_law_deck_here", "_law_items"] spOne := by
  refine own_of D sc__law_one (fun _ _ _ _ _ _ us hl => match us, hl with | [_, _], _ => rfl) (fun vs H Q E h => ?_) (fun f cdv A outer s H vs Q E hr h => ?_)
  · obtain ⟨_, _, _, _, _, _, rfl, _⟩ := h
    rfl
  · obtain ⟨d, c, r, l, n, xs, rfl, dk, hn, el, nd, nr, h0, h1, q⟩ := h
    refine ⟨_, (pss_one (ps_ret (pe_ix ix_list (pv 1) (pe_own O__law_draw (hr.mono (by omega)) (by rfl) (pa_cons (pv 0) (pa_cons (pe_callB (id := "len") call_len_seq (by rfl) B.b_len PySem.boot_len (pa_cons (pv 1) pa_nil)) pa_nil))) (fun _ _ => rfl)))), ?_⟩
    refine ⟨_, rfl, _, rfl, _, rfl, l, _, rfl, .inl (SqL.of el), ?_⟩
    refine ⟨d, c, r, n, xs.length, rfl, dk, hn, h0, by omega, fun H' v hv dk' kp => ?_⟩
    exact ⟨l, xs, _, _, rfl, rfl, SqL.of (kp _ _ nd nr el), atI_nat (List.getElem?_eq_getElem hv), q H' v _ (List.getElem?_eq_getElem hv) dk' kp⟩

end
end Lb
set_option Elab.async false
set_option linter.all false
set_option maxRecDepth 100000
set_option maxHeartbeats 8000000
namespace Lb
open PySem PySem.Spec PyProof.Rows L2 RZ TL
section
variable {P : Program} {w : World} {K : PySem.W.Frag} {mg : Str → Option Value} {base : Heap}
theorem sc__law_plus : FnScope ["_law_one_here", "_law_other", "_law_own", "_law_more"] ["_law_one_here", "_law_other"] (defScope s__law_plus) := ⟨rfl, rfl, rfl, by decide +kernel, rfl, by decide +kernel, by decide +kernel⟩
theorem own_plus (D : Df K mg "_law_plus" s__law_plus) (B : Blt mg) : Own P w K mg base "_law_plus" 1 ["_law_one_here", "_law_other"] (spPlus K) := by
  refine own_of D sc__law_plus (fun _ _ _ _ _ _ us hl => match us, hl with | [_, _], _ => rfl) (fun vs H Q E h => ?_) (fun f cdv A outer s H vs Q E hr h => ?_)
  · obtain ⟨_, _, _, _, rfl, _⟩ := h
    rfl
  · obtain ⟨a, b, x, y, rfl, hA, hB, hl, hl2, q⟩ := h
    refine ⟨_, (pss_one (ps_ret (pe_callTy (T := "tuple") call_tuple_of (by rfl) B.b_tuple (by decide +kernel) (pa_cons (pe_lc (own := [("_law_own", 2), ("_law_more", 3)]) (g := gTup _ 2 (gCons (gName 2) (gCons (gName 3) gNil))) (tt := tYes) rfl sc__law_plus.nd (pi_zipA (by rfl) B.b_zip (pa_cons (pv 0) (pa_cons (pv 1) pa_nil))) (blkOk_by (own := [("_law_own", 2), ("_law_more", 3)]) (N := ["_law_one_here", "_law_other", "_law_own", "_law_more"]) (sc := defScope s__law_plus) (by decide +kernel)) (fun _ _ _ _ _ => (pg_tup rfl (pgs_cons (pg_name (i := 2) sc__law_plus.nd rfl (.inl rfl)) (pgs_cons (pg_name (i := 3) sc__law_plus.nd rfl (.inl rfl)) pgs_nil)))) (fun _ _ _ _ _ => pts_nil) (fun _ _ _ _ _ => (pe_op op_add (pv 2) (pv 3)))) pa_nil)))), ?_⟩
    refine ⟨_, rfl, _, rfl, a, b, _, _, rfl, .inr ⟨hA, hB, fun D hD => ?_⟩⟩
    refine lc_zipT (K := K) (xs := x.map V.int) (ys := y.map V.int) (by rw [List.length_map, List.length_map]; exact hl) (fun i H' => Same H H' ∧ H' D = some (.lst (((List.zipWith (· + ·) x y).take i).map V.int)))
      ⟨same_upd hD, upd_same⟩ (fun i H' hP => ⟨same_tup hP.1 hA, same_tup hP.1 hB⟩) ?_ ?_
    · rintro i u v T H' hu hv ⟨sm, eD⟩ hT
      obtain ⟨u, rfl, hu'⟩ := int_at hu
      obtain ⟨v, rfl, hv'⟩ := int_at hv
      have nTD : D ≠ T := ne_of_none eD hT
      refine ⟨T, _, rfl, .inl (.inl upd_same), rfl, _, _, rfl, _, _, rfl, rfl, rfl, all_in ?_⟩
      refine ⟨_, rfl, _, rfl, _, _, rfl, rfl, _, (same_upd hT) _ _ eD, ?_, ?_, ?_⟩
      · rw [List.length_map, List.length_take]
        refine small1000 (Nat.le_trans (Nat.min_le_right _ _) ?_)
        rw [List.length_zipWith]
        omega
      · intro b o e
        rw [upd_ne (ne_of_none e hD)]
        exact (same_upd hT) _ _ (sm _ _ e)
      · rw [upd_same, zip_take hu' hv', List.map_append]
        rfl
    · rintro H' ⟨sm, eD⟩
      have el : (List.zipWith (· + ·) x y).take (x.map V.int).length = List.zipWith (· + ·) x y := List.take_of_length_le (by rw [List.length_zipWith, List.length_map]; omega)
      rw [el] at eD
      refine ⟨D, _, rfl, .inl ⟨SqL.of eD, fun p hp => ?_⟩⟩
      exact q _ p (sm.trans (same_upd hp)) (sm.free hp) upd_same

end
end Lb
set_option Elab.async false
set_option linter.all false
set_option maxRecDepth 100000
set_option maxHeartbeats 8000000
namespace Lb
open PySem PySem.Spec PyProof.Rows L2 RZ TL
section
variable {P : Program} {w : World} {K : PySem.W.Frag} {mg : Str → Option Value} {base : Heap}
theorem sc__law_side : FnScope ["_law_deck_here", "_law_goods", "_law_most", "_law_row", "_law_k", "_law_at"] ["_law_deck_here", "_law_goods", "_law_most"] (defScope s__law_side) := ⟨rfl, rfl, rfl, by decide +kernel, rfl, by decide +kernel, by decide +kernel⟩
theorem own_side (D : Df K mg "_law_side" s__law_side) (B : Blt mg) (O__law_draw : Own P w K mg base "_law_draw" 1 ["_law_deck_here", "_law_many"] spDraw) : Own P w K mg base "_law_side" 2 ["_law_deck_here", "_law_goods", "_law_most"] spSide := by
  refine own_of D sc__law_side (fun _ _ _ _ _ _ us hl => match us, hl with | [_, _, _], _ => rfl) (fun vs H Q E h => ?_) (fun f cdv A outer s H vs Q E hr h => ?_)
  · obtain ⟨_, _, _, _, _, _, rfl, _⟩ := h
    rfl
  · obtain ⟨d, c, r, n, g, m, rfl, dk, hn, hg, hg2, hm, q⟩ := h
    refine ⟨_, (pss_cons (ps_set (i := 3) sc__law_side.nd rfl (.inl rfl) (pe_op op_rep (pe_lst (pa_cons pe_int pa_nil)) (pv 1)))
      (pss_cons (ps_for PassesOwn.never rfl (pi_range1 (by rfl) B.b_range (pa_cons (pe_own O__law_draw (hr.mono (by omega)) (by rfl) (pa_cons (pv 0) (pa_cons (pe_op op_add (pv 2) pe_int) pa_nil))) pa_nil)) (pg_name (i := 4) sc__law_side.nd rfl (.inl rfl))
        (pss_cons (ps_set (i := 5) sc__law_side.nd rfl (.inl rfl) (pe_own O__law_draw (hr.mono (by omega)) (by rfl) (pa_cons (pv 0) (pa_cons (pv 1) pa_nil))))
      (pss_one (ps_asg (pe_op op_add (pe_ix ix_list (pv 3) (pv 5) (fun _ _ => rfl)) (pe_callTy (T := "int") call_int1 (by rfl) B.b_int PyProof.Rows.boot_int (pa_cons (pe_cmpR op_lt (pe_ix ix_list (pv 3) (pv 5) (fun _ _ => rfl)) pe_int (nomark _)) pa_nil))) (pg_sub (pv 3) (pv 5) set_list)))))
      (pss_one (ps_ret (pe_callTy (T := "tuple") call_tuple_of (by rfl) B.b_tuple (by decide +kernel) (pa_cons (pv 3) pa_nil)))))), ?_⟩
    -- row = [0] * goods
    refine ⟨(by show 1 ≤ sizeLine; decide), fun p1 z1 => ?_⟩
    refine ⟨_, rfl, p1, _, _, rfl, rfl, upd_same, by omega, by omega, ?_, fun p2 z2 => ?_⟩
    · show 1 * (g : Int).toNat ≤ sizeLine
      exact Nat.le_of_lt (small1000 (by omega))
    have e0 : (List.replicate (g : Int).toNat [V.int 0]).flatten = (List.replicate g (0 : Int)).map V.int := by
      rw [Int.toNat_natCast, rep0]
    dsimp only
    rw [e0]
    have s2 : Same H (upd (upd H p1 (.lst [V.int 0])) p2 (.lst ((List.replicate g (0 : Int)).map V.int))) := (same_upd z1).trans (same_upd z2)
    generalize hH2 : upd (upd H p1 (.lst [V.int 0])) p2 (.lst ((List.replicate g (0 : Int)).map V.int)) = H2 at *
    have e2 : H2 p2 = some (.lst ((List.replicate g (0 : Int)).map V.int)) := by
      rw [← hH2, upd_same]
    have f2 : H p2 = none := (same_upd z1).free z2
    -- range(draw(deck, most + 1))
    refine ⟨_, rfl, _, rfl, _, _, rfl, rfl, ?_⟩
    refine ⟨d, c, r, n, m + 1, rfl, dk.same s2, by omega, by omega, by omega, fun H3 v hv dk3 k3 => ?_⟩
    have nd := dk.nd f2
    refine ⟨(v : Int), rfl, by omega, by omega, ?_⟩
    rw [Int.toNat_natCast]
    refine for_range (n := v) (fun i σ H' => ∃ (y4 y5 : Option V) (b : List Int), σ = [some (.ref d), some (.int (g : Int)), some (.int (m : Int)), some (.ref p2), y4, y5] ∧ Dk H' d c r (n + 1 + i) ∧ Kp d r H H' ∧ H' p2 = some (.lst (b.map V.int)) ∧ Side g i b)
      ⟨none, none, List.replicate g 0, rfl, dk3, (Kp.of s2).trans k3, k3 _ _ nd.1 nd.2.1 e2, ?_⟩ ?_ ?_
    · refine ⟨List.length_replicate, fun x hx => ?_, ?_⟩
      · rw [(List.mem_replicate.mp hx).2]
        exact ⟨by decide, by decide⟩
      · rw [sum_rep0]
        exact Int.le_refl _
    · rintro i σ H4 hi ⟨y4, y5, b, rfl, dk4, k4, eb, sd⟩
      -- at = draw(deck, goods)
      refine ⟨_, rfl, _, rfl, d, c, r, n + 1 + i, g, rfl, dk4, by omega, hg, by omega, fun H5 j hj dk5 k5 => ?_⟩
      have eb5 : H5 p2 = some (.lst (b.map V.int)) := k5 _ _ nd.1 nd.2.1 eb
      have hjb : j < b.length := by
        rw [sd.len]
        exact hj
      -- row[at] = row[at] + int(row[at] < 3)
      refine ⟨_, rfl, _, rfl, p2, _, _, _, rfl, rfl, SqL.of eb5, nat_at hjb, ?_⟩
      refine ⟨_, rfl, _, rfl, p2, _, _, _, rfl, rfl, SqL.of eb5, nat_at hjb, _, _, rfl, rfl, .inr ⟨_, rfl, ?_⟩⟩
      refine ⟨_, _, rfl, rfl, ?_⟩
      refine ⟨_, rfl, _, rfl, p2, _, _, j, rfl, rfl, eb5, ixN_nat (by rw [List.length_map]; exact hjb), ?_⟩
      have hm0 : b.getD j 0 ∈ b := by
        rw [List.getD_eq_getElem?_getD, List.getElem?_eq_getElem hjb]
        exact List.getElem_mem hjb
      have hm1 := sd.amt _ hm0
      have hst : (b.set j (b.getD j 0 + (if decide (b.getD j 0 < 3) = true then 1 else 0))).sum = b.sum - b.getD j 0 + (b.getD j 0 + (if decide (b.getD j 0 < 3) = true then 1 else 0)) :=
        sum_set (by rw [List.getD_eq_getElem?_getD, List.getElem?_eq_getElem hjb]; rfl)
      refine ⟨_, _, b.set j (b.getD j 0 + (if decide (b.getD j 0 < 3) = true then 1 else 0)), rfl, ?_, ?_, ?_, ?_, ?_, ?_⟩
      · have n2 : p2 ≠ d := nd.1
        have n3 : p2 ≠ r := nd.2.1
        have n4 : p2 ≠ c := nd.2.2
        obtain ⟨t, cs, rs, g1, g2, g3, g4, g5, g6, g7, w1, w2, w3⟩ := dk5
        exact ⟨t, cs, rs, g1, g2, g3, g4, g5, g6, g7, by rw [upd_ne n2.symm]; exact w1, by rw [upd_ne n4.symm]; exact w2, by rw [upd_ne n3.symm]; exact w3⟩
      · intro z o z1 z2 ez
        rw [upd_ne (ne_of_none ez f2)]
        exact k5 _ _ z1 z2 (k4 _ _ z1 z2 ez)
      · rw [upd_same, List.map_set]
      · rw [List.length_set]
        exact sd.len
      · intro x hx
        rcases List.mem_or_eq_of_mem_set hx with h | h
        · exact sd.amt x h
        · rw [h]
          by_cases h3 : b.getD j 0 < 3
          · rw [decide_eq_true h3, if_pos rfl]
            omega
          · rw [decide_eq_false h3, if_neg Bool.false_ne_true]
            omega
      · rw [hst]
        have := sd.tot
        by_cases h3 : b.getD j 0 < 3
        · rw [decide_eq_true h3, if_pos rfl]
          omega
        · rw [decide_eq_false h3, if_neg Bool.false_ne_true]
          omega
    · rintro σ H4 ⟨y4, y5, b, rfl, dk4, k4, eb, sd⟩
      refine ⟨_, rfl, p2, _, rfl, .inl ⟨SqL.of eb, fun p hp => ?_⟩⟩
      have sp := same_upd (o := .tup (b.map V.int)) hp
      refine q _ p b (sd.mono (by omega)) ?_ upd_same ((dk4.same sp).mono (by omega)) (k4.trans (Kp.of sp))
      cases e : H p with
      | none => rfl
      | some o =>
        have := dk4.nd hp
        rw [k4 _ _ this.1 this.2.1 e] at hp
        cases hp

end
end Lb
set_option Elab.async false
set_option linter.all false
set_option maxRecDepth 100000
set_option maxHeartbeats 8000000
namespace Lb
open PySem PySem.Spec PyProof.Rows L2 RZ TL
section
variable {P : Program} {w : World} {K : PySem.W.Frag} {mg : Str → Option Value} {base : Heap}
theorem sc__law_trade : FnScope ["_law_deck_here", "_law_goods", "_law_most", "_law_at", "_law_many", "_law_beside", "_law_good", "_law_one_here", "_law_other"] ["_law_deck_here", "_law_goods", "_law_most"] (defScope s__law_trade) := ⟨rfl, rfl, rfl, by decide +kernel, rfl, by decide +kernel, by decide +kernel⟩
theorem own_trade (D : Df K mg "_law_trade" s__law_trade) (B : Blt mg) (O__law_draw : Own P w K mg base "_law_draw" 1 ["_law_deck_here", "_law_many"] spDraw) (O__law_side : Own P w K mg base "_law_side" 2 ["_law_deck_here", "_law_goods", "_law_most"] spSide)
    (O__law_plus : Own P w K mg base "_law_plus" 1 ["_law_one_here", "_law_other"] (spPlus K)) : Own P w K mg base "_law_trade" 3 ["_law_deck_here", "_law_goods", "_law_most"] spTrade := by
  refine own_of D sc__law_trade (fun _ _ _ _ _ _ us hl => match us, hl with | [_, _, _], _ => rfl) (fun vs H Q E h => ?_) (fun f cdv A outer s H vs Q E hr h => ?_)
  · obtain ⟨_, _, _, _, _, _, _, rfl, _⟩ := h
    rfl
  · obtain ⟨R, d, c, r, n, g, m, rfl, dk, hn, hg, hg2, hm, rg, q⟩ := h
    refine ⟨_, (pss_cons (ps_if (PW.pt (pw_or (pt_cmpR op_lt (pv 2) pe_int (nomark _)) (pw_or1 (pt_cmpR op_eq (pe_own O__law_draw (hr.mono (by omega)) (by rfl) (pa_cons (pv 0) (pa_cons pe_int pa_nil))) pe_int (nomark _))))) (pss_one (ps_ret (pe_tup (pa_cons (pe_own O__law_side (hr.mono (by omega)) (by rfl) (pa_cons (pv 0) (pa_cons (pv 1) (pa_cons (pv 2) pa_nil)))) (pa_cons (pe_own O__law_side (hr.mono (by omega)) (by rfl) (pa_cons (pv 0) (pa_cons (pv 1) (pa_cons (pv 2) pa_nil)))) pa_nil))))) pss_nil)
      (pss_cons (ps_asg (pe_tup (pa_cons (pe_own O__law_draw (hr.mono (by omega)) (by rfl) (pa_cons (pv 0) (pa_cons (pv 1) pa_nil))) (pa_cons (pe_op op_add pe_int (pe_own O__law_draw (hr.mono (by omega)) (by rfl) (pa_cons (pv 0) (pa_cons (pe_op op_sub (pv 2) pe_int) pa_nil)))) pa_nil))) (pg_tup rfl (pgs_cons (pg_name (i := 3) sc__law_trade.nd rfl (.inr rfl)) (pgs_cons (pg_name (i := 4) sc__law_trade.nd rfl (.inr rfl)) pgs_nil))))
      (pss_cons (ps_set (i := 5) sc__law_trade.nd rfl (.inl rfl) (pe_callTy (T := "tuple") call_tuple_of (by rfl) B.b_tuple (by decide +kernel) (pa_cons (pe_lc (own := [("_law_good", 6)]) (g := gName 6) (tt := tYes) rfl sc__law_trade.nd (pi_range1 (by rfl) B.b_range (pa_cons (pv 1) pa_nil)) (blkOk_by (own := [("_law_good", 6)]) (N := ["_law_deck_here", "_law_goods", "_law_most", "_law_at", "_law_many", "_law_beside", "_law_good", "_law_one_here", "_law_other"]) (sc := defScope s__law_trade) (by decide +kernel)) (fun _ _ _ _ _ => (pg_name (i := 6) sc__law_trade.nd rfl (.inl rfl))) (fun _ _ _ _ _ => pts_nil) (fun _ _ _ _ _ => (pe_op op_mul (pv 4) (pe_callTy (T := "int") call_int1 (by rfl) B.b_int PyProof.Rows.boot_int (pa_cons (pe_cmpR op_eq (pv 6) (pv 3) (nomark _)) pa_nil))))) pa_nil)))
      (pss_cons (ps_par (i := 7) (j := 8) rfl sc__law_trade.nd rfl rfl (by decide) rfl rfl (pa_cons (pe_own O__law_side (hr.mono (by omega)) (by rfl) (pa_cons (pv 0) (pa_cons (pv 1) (pa_cons pe_int pa_nil)))) (pa_cons (pe_own O__law_side (hr.mono (by omega)) (by rfl) (pa_cons (pv 0) (pa_cons (pv 1) (pa_cons pe_int pa_nil)))) pa_nil)) rfl)
      (pss_one (ps_ret (pe_ifExp (pt_cmpR op_lt (pv 4) pe_int (nomark _)) (pe_tup (pa_cons (pe_own O__law_plus (hr.mono (by omega)) (by rfl) (pa_cons (pv 7) (pa_cons (pv 5) pa_nil))) (pa_cons (pe_own O__law_plus (hr.mono (by omega)) (by rfl) (pa_cons (pv 8) (pa_cons (pv 5) pa_nil))) pa_nil))) (pe_tup (pa_cons (pe_own O__law_plus (hr.mono (by omega)) (by rfl) (pa_cons (pv 7) (pa_cons (pv 5) pa_nil))) (pa_cons (pv 5) pa_nil)))))))))), ?_⟩
    refine ⟨_, rfl, _, _, rfl, rfl, _, rfl, ite2 (fun hlt => ?_) (fun hlt => ?_)⟩
    · refine iteT ?_
      exact two_sides rfl rfl rfl dk (by omega) hg hg2 hm rg fun H' v t ok dt dk' k' => q H' v t ok dt (dk'.mono (by omega)) k'
    have hm3 : 3 ≤ m := by
      have : ¬ (m : Int) < 3 := fun z => hlt (decide_eq_true z)
      omega
    refine ⟨_, rfl, d, c, r, n, 2, rfl, dk, by omega, by omega, by omega, fun H1 v hv dk1 k1 => ?_⟩
    refine ⟨rfl, _, rfl, ite2 (fun _ => ?_) (fun _ => ?_)⟩
    · exact two_sides rfl rfl rfl dk1 (by omega) hg hg2 hm (rg.kp k1 dk1) fun H' v t ok dt dk' k' => q H' v t ok dt (dk'.mono (by omega)) (k1.trans k')
    have rg1 := rg.kp k1 dk1
    -- at, many = draw(deck, goods), 1 + draw(deck, most - 2)
    refine ⟨_, rfl, _, rfl, d, c, r, n + 1, g, rfl, dk1, by omega, hg, by omega, fun H2 at_ ha dk2 k2 => ?_⟩
    refine ⟨_, rfl, _, rfl, _, _, rfl, rfl, ?_⟩
    have em : (m : Int) - 2 = ((m - 2 : Nat) : Int) := by omega
    refine ⟨d, c, r, n + 1 + 1, m - 2, by dsimp only; rw [em]; rfl, dk2, by omega, by omega, by omega, fun H3 mm hmm dk3 k3 => ?_⟩
    refine ⟨_, _, rfl, rfl, ?_⟩
    have rg3 := (rg1.kp k2 dk2).kp k3 dk3
    have hmm1 : (1 : Int) + (mm : Int) ≤ 2 := by omega
    refine ⟨(by show 2 ≤ sizeLine; decide), fun p4 z4 => ?_⟩
    have s4 := same_upd (o := .tup [V.int (at_ : Int), V.int (1 + (mm : Int))]) z4
    refine ⟨p4, _, rfl, .inl (.inl upd_same), rfl, _, _, rfl, _, _, rfl, rfl, ?_⟩
    generalize upd H3 p4 (.tup [V.int (at_ : Int), V.int (1 + (mm : Int))]) = H4 at *
    have dk4 := dk3.same s4
    -- beside = tuple([many * int(good == at) for good in range(goods)])
    refine ⟨_, rfl, (g : Int), rfl, by omega, by omega, fun D hD => ?_⟩
    rw [Int.toNat_natCast]
    refine lc_range (lo := 0) (n := g) (fun i H' => Same H4 H' ∧ H' D = some (.lst ((besideL i at_ (1 + (mm : Int))).map V.int))) ⟨same_upd hD, upd_same⟩ ?_ ?_
    · rintro i H' hi ⟨sm, eD⟩
      refine ⟨rfl, all_in ?_⟩
      refine ⟨_, rfl, _, rfl, _, rfl, rfl, .inr ⟨_, rfl, ?_⟩⟩
      refine ⟨_, _, rfl, rfl, .inl ⟨by omega, by omega⟩, _, eD, ?_, ?_, ?_⟩
      · rw [List.length_map, beside_len]
        exact small1000 (by omega)
      · intro b o e
        rw [upd_ne (ne_of_none e hD)]
        exact sm _ _ e
      · rw [upd_same]
        unfold besideL
        rw [List.range_succ, List.map_append, List.map_append]
        rfl
    rintro H5 ⟨s5, eD⟩
    refine ⟨D, _, rfl, .inl ⟨SqL.of eD, fun p6 z6 => ?_⟩⟩
    have s6 := same_upd (o := .tup ((besideL g at_ (1 + (mm : Int))).map V.int)) z6
    have e6 : upd H5 p6 (.tup ((besideL g at_ (1 + (mm : Int))).map V.int)) p6 = some (.tup ((besideL g at_ (1 + (mm : Int))).map V.int)) := upd_same
    have s46 := s5.trans s6
    have f6 : H4 p6 = none := s5.free z6
    generalize upd H5 p6 (.tup ((besideL g at_ (1 + (mm : Int))).map V.int)) = H6 at *
    have dk6 := dk4.same s46
    have k6 : Kp d r H H6 := ((k1.trans k2).trans k3).trans (Kp.of (s4.trans s46))
    have rg6 : Rg R H6 d r := rg3.same (s4.trans s46)
    have r6 : R p6 := (rg3.same s4).new _ f6
    -- one, other = side(deck, goods, 1), side(deck, goods, 2)
    refine ⟨_, rfl, _, rfl, d, c, r, _, g, 1, rfl, dk6, by omega, hg, by omega, by omega, fun H7 p7 b7 sd7 f7 e7 dk7 k7 => ?_⟩
    refine ⟨_, rfl, _, rfl, d, c, r, _, g, 2, rfl, dk7, by omega, hg, by omega, by omega, fun H8 p8 b8 sd8 f8 e8 dk8 k8 => ?_⟩
    refine ⟨_, _, rfl, ?_⟩
    have nd6 := dk4.nd f6
    have nd7 := dk6.nd f7
    have e68 : H8 p6 = some (.tup ((besideL g at_ (1 + (mm : Int))).map V.int)) := k8 _ _ nd6.1 nd6.2.1 (k7 _ _ nd6.1 nd6.2.1 e6)
    have e78 : H8 p7 = some (.tup (b7.map V.int)) := k8 _ _ nd7.1 nd7.2.1 e7
    have rg7 := rg6.kp k7 dk7
    have rg8 := rg7.kp k8 dk8
    have r7 : R p7 := rg6.new _ f7
    have r8 : R p8 := rg7.new _ f8
    have k68 : Kp d r H H8 := (k6.trans k7).trans k8
    refine ⟨_, rfl, _, _, rfl, rfl, _, rfl, ite2 (fun hl => ?_) (fun hl => ?_)⟩
    · have hl1 : (1 : Int) + (mm : Int) < 2 := of_decide_eq_true hl
      refine ⟨_, rfl, _, rfl, p7, p6, _, _, rfl, .inl (.inl e78), .inl (.inl e68), by rw [sd7.len, beside_len], by rw [sd7.len]; omega, fun H9 p9 s9 f9 e9 => ?_⟩
      refine ⟨_, rfl, _, rfl, p8, p6, _, _, rfl, .inl (.inl (s9 _ _ e8)), .inl (.inl (s9 _ _ e68)), by rw [sd8.len, beside_len], by rw [sd8.len]; omega, fun H10 p10 s10 f10 e10 => ?_⟩
      refine ⟨(by show 2 ≤ sizeLine; decide), fun p11 z11 => ?_⟩
      have s11 := same_upd (o := .tup [V.ref p9, V.ref p10]) z11
      have rg9 := rg8.same s9
      have rg10 := rg9.same s10
      refine q _ _ (_, _) ⟨(side_plus sd7 (by omega) (by omega)).mono hm3, (side_plus sd8 (by omega) (by omega)).mono hm3⟩
        (.tup (rg10.new _ z11) upd_same (.cons (Dat.mkBag (rg8.new _ f9) (s11 _ _ (s10 _ _ e9))) (.cons (Dat.mkBag (rg9.new _ f10) (s11 _ _ e10)) .nil)))
        ((dk8.same ((s9.trans s10).trans s11)).mono (by omega)) (k68.trans (Kp.of ((s9.trans s10).trans s11)))
    · refine ⟨_, rfl, _, rfl, p7, p6, _, _, rfl, .inl (.inl e78), .inl (.inl e68), by rw [sd7.len, beside_len], by rw [sd7.len]; omega, fun H9 p9 s9 f9 e9 => ?_⟩
      refine ⟨_, rfl, (by show 2 ≤ sizeLine; decide), fun p11 z11 => ?_⟩
      have s11 := same_upd (o := .tup [V.ref p9, V.ref p6]) z11
      have rg9 := rg8.same s9
      refine q _ _ (_, _) ⟨(side_plus sd7 (by omega) (by omega)).mono hm3, (side_beside (by omega) (by omega)).mono hm3⟩
        (.tup (rg9.new _ z11) upd_same (.cons (Dat.mkBag (rg8.new _ f9) (s11 _ _ e9)) (.cons (Dat.mkBag r6 (s11 _ _ (s9 _ _ e68))) .nil)))
        ((dk8.same (s9.trans s11)).mono (by omega)) (k68.trans (Kp.of (s9.trans s11)))

end
end Lb
set_option Elab.async false
set_option linter.all false
set_option maxRecDepth 100000
set_option maxHeartbeats 8000000
namespace Lb
open PySem PySem.Spec PyProof.Rows L2 RZ TL
section
variable {P : Program} {w : World} {K : PySem.W.Frag} {mg : Str → Option Value} {base : Heap}
theorem sc__law_market : FnScope ["_law_deck_here", "_law_goods", "_law_trades", "_law_most", "_law_k"] ["_law_deck_here", "_law_goods", "_law_trades", "_law_most"] (defScope s__law_market) := ⟨rfl, rfl, rfl, by decide +kernel, rfl, by decide +kernel, by decide +kernel⟩
theorem own_market (D : Df K mg "_law_market" s__law_market) (B : Blt mg) (O__law_draw : Own P w K mg base "_law_draw" 1 ["_law_deck_here", "_law_many"] spDraw) (O__law_trade : Own P w K mg base "_law_trade" 3 ["_law_deck_here", "_law_goods", "_law_most"] spTrade) :
    Own P w K mg base "_law_market" 4 ["_law_deck_here", "_law_goods", "_law_trades", "_law_most"] spMarket := by
  refine own_of D sc__law_market (fun _ _ _ _ _ _ us hl => match us, hl with | [_, _, _, _], _ => rfl) (fun vs H Q E h => ?_) (fun f cdv A outer s H vs Q E hr h => ?_)
  · obtain ⟨_, _, _, _, _, _, _, _, rfl, _⟩ := h
    rfl
  · obtain ⟨R, d, c, r, n, g, tr, m, rfl, dk, hn, hg, hg2, ht, hm, rg, q⟩ := h
    refine ⟨_, (pss_one (ps_ret (pe_tup (pa_cons (pv 1) (pa_cons (pe_callTy (T := "tuple") call_tuple_of (by rfl) B.b_tuple (by decide +kernel) (pa_cons (pe_lc (own := [("_law_k", 4)]) (g := gName 4) (tt := tYes) rfl sc__law_market.nd (pi_range1 (by rfl) B.b_range (pa_cons (pe_own O__law_draw (hr.mono (by omega)) (by rfl) (pa_cons (pv 0) (pa_cons (pe_op op_add (pv 2) pe_int) pa_nil))) pa_nil)) (blkOk_by (own := [("_law_k", 4)]) (N := ["_law_deck_here", "_law_goods", "_law_trades", "_law_most", "_law_k"]) (sc := defScope s__law_market) (by decide +kernel)) (fun _ _ _ _ _ => (pg_name (i := 4) sc__law_market.nd rfl (.inl rfl))) (fun _ _ _ _ _ => pts_nil) (fun _ _ _ _ _ => (pe_own O__law_trade (hr.mono (by omega)) (by rfl) (pa_cons (pv 0) (pa_cons (pv 1) (pa_cons (pv 3) pa_nil)))))) pa_nil)) pa_nil))))), ?_⟩
    refine ⟨_, rfl, _, rfl, _, rfl, _, _, rfl, rfl, ?_⟩
    refine ⟨d, c, r, n, tr + 1, rfl, dk, by omega, by omega, by omega, fun H1 v hv dk1 k1 => ?_⟩
    refine ⟨(v : Int), rfl, by omega, by omega, fun L hL => ?_⟩
    rw [Int.toNat_natCast]
    have rg1 := rg.kp k1 dk1
    have ndL := dk1.nd hL
    refine lc_range (lo := 0) (n := v) (fun i H' => ∃ (ts : List Trd) (vs : List V), ts.length = i ∧ (∀ t ∈ ts, TrdOk g m t) ∧ H' L = some (.lst vs) ∧ Dats (wo R L) H' vs (ts.map trdD) ∧ Dk H' d c r (n + 1 + 20 * i) ∧ Kp d r H1 H' ∧ Rg R H' d r)
      ⟨[], [], rfl, (fun _ z => nomatch z), upd_same, .nil, dk1.same (same_upd hL), Kp.of (same_upd hL), rg1.same (same_upd hL)⟩ ?_ ?_
    · rintro i H2 hi ⟨ts, vs, hl, ok, eL, dt, dk2, k2, rg2⟩
      refine ⟨rfl, all_in ?_⟩
      refine ⟨_, rfl, _, rfl, _, rfl, wo R L, d, c, r, _, g, m, rfl, dk2, by omega, hg, hg2, hm, wo_rg rg2 eL, fun H3 u t tok dtu dk3 k3 => ?_⟩
      have eL3 : H3 L = some (.lst vs) := k3 _ _ ndL.1 ndL.2.1 eL
      have rg3 := rg2.kp k3 dk3
      refine ⟨vs, eL3, ?_, ?_⟩
      · rw [dt.length, List.length_map, hl]
        exact small1000 (by omega)
      refine ⟨ts ++ [t], vs ++ [u], by rw [List.length_append, hl]; rfl, ?_, upd_same, ?_, ?_, ?_, ?_⟩
      · intro t' ht'
        rcases List.mem_append.mp ht' with h | h
        · exact ok t' h
        · rw [List.mem_singleton.mp h]
          exact tok
      · rw [List.map_append]
        have onW : On (wo R L) H2 H3 := fun b o hb e => k3 b o (fun z => rg2.nd (z ▸ hb.1)) (fun z => rg2.nr (z ▸ hb.1)) e
        exact ((dt.on onW).append (.cons dtu .nil)).on wo_on
      · obtain ⟨t', cs, rs, g1, g2, g3, g4, g5, g6, g7, w1, w2, w3⟩ := dk3
        exact ⟨t', cs, rs, by omega, g2, g3, g4, g5, g6, g7, by rw [upd_ne ndL.1.symm]; exact w1, by rw [upd_ne ndL.2.2.symm]; exact w2, by rw [upd_ne ndL.2.1.symm]; exact w3⟩
      · intro b o z1 z2 e
        rw [upd_ne (ne_of_none e hL)]
        exact k3 _ _ z1 z2 (k2 _ _ z1 z2 e)
      · refine ⟨rg3.nd, rg3.nr, fun p hp => rg3.new p ?_⟩
        by_cases hpL : p = L
        · rw [hpL, upd_same] at hp
          cases hp
        · rw [upd_ne hpL] at hp
          exact hp
    · rintro H2 ⟨ts, vs, hl, ok, eL, dt, dk2, k2, rg2⟩
      refine ⟨L, _, rfl, .inl ⟨SqL.of eL, fun p3 z3 => ?_⟩⟩
      have s3 := same_upd (o := .tup vs) z3
      refine ⟨(by show 2 ≤ sizeLine; decide), fun p4 z4 => ?_⟩
      have s4 := same_upd (o := .tup [V.int (g : Int), V.ref p3]) z4
      have dR : Dats R H2 vs (ts.map trdD) := dt.sub fun b o hb _ => hb.1
      refine q _ _ ts (by omega) ok (.tup ((rg2.same s3).new _ z4) upd_same (.cons (.int _) (.cons (.tup (rg2.new _ z3) (s4 _ _ upd_same) (dR.same (s3.trans s4))) .nil))) ((dk2.same (s3.trans s4)).mono (by omega)) ((k1.trans k2).trans (Kp.of (s3.trans s4)))

end
end Lb
set_option Elab.async false
set_option linter.all false
set_option maxRecDepth 100000
set_option maxHeartbeats 8000000
namespace Lb
open PySem PySem.Spec PyProof.Rows L2 RZ TL
section
variable {P : Program} {w : World} {K : PySem.W.Frag} {mg : Str → Option Value} {base : Heap}
theorem sc__law_any_market : FnScope ["_law_deck_here", "_law_goods"] ["_law_deck_here"] (defScope s__law_any_market) := ⟨rfl, rfl, rfl, by decide +kernel, rfl, by decide +kernel, by decide +kernel⟩
theorem own_any (D : Df K mg "_law_any_market" s__law_any_market) (B : Blt mg) (O__law_draw : Own P w K mg base "_law_draw" 1 ["_law_deck_here", "_law_many"] spDraw) (O__law_market : Own P w K mg base "_law_market" 4 ["_law_deck_here", "_law_goods", "_law_trades", "_law_most"] spMarket) :
    Own P w K mg base "_law_any_market" 5 ["_law_deck_here"] spAny := by
  refine own_of D sc__law_any_market (fun _ _ _ _ _ _ us hl => match us, hl with | [_], _ => rfl) (fun vs H Q E h => ?_) (fun f cdv A outer s H vs Q E hr h => ?_)
  · obtain ⟨_, _, _, _, _, rfl, _⟩ := h
    rfl
  · obtain ⟨R, d, c, r, n, rfl, dk, hn, rg, q⟩ := h
    refine ⟨_, (pss_cons (ps_set (i := 1) sc__law_any_market.nd rfl (.inl rfl) (pe_op op_add pe_int (pe_own O__law_draw (hr.mono (by omega)) (by rfl) (pa_cons (pv 0) (pa_cons pe_int pa_nil)))))
      (pss_one (ps_ret (pe_own O__law_market (hr.mono (by omega)) (by rfl) (pa_cons (pv 0) (pa_cons (pv 1) (pa_cons (pe_ifExp (pt_cmpR op_lt (pv 1) pe_int (nomark _)) pe_int (pe_op op_sub pe_int (pv 1))) (pa_cons (pe_ifExp (pt_cmpR op_lt (pv 1) pe_int (nomark _)) pe_int pe_int) pa_nil)))))))), ?_⟩
    refine ⟨_, rfl, d, c, r, n, 4, rfl, dk, by omega, by omega, by omega, fun H1 v hv dk1 k1 => ?_⟩
    refine ⟨_, _, rfl, rfl, ?_⟩
    have eg : (1 : Int) + (v : Int) = ((1 + v : Nat) : Int) := by omega
    dsimp only
    rw [eg]
    have rg1 := rg.kp k1 dk1
    refine ⟨_, rfl, _, rfl, ?_⟩
    by_cases hlt : ((1 + v : Nat) : Int) < 3
    · refine ⟨_, rfl, _, _, rfl, rfl, _, rfl, ?_⟩
      rw [decide_eq_true hlt]
      refine iteT ?_
      refine ⟨_, rfl, _, _, rfl, rfl, _, rfl, ?_⟩
      rw [decide_eq_true hlt]
      refine iteT ?_
      refine ⟨R, d, c, r, n + 1, 1 + v, 4, 4, rfl, dk1, by omega, by omega, by omega, by omega, by omega, rg1, fun H' u ts hl ok dt dk' k' => ?_⟩
      exact q H' u (1 + v) ts ⟨by omega, by omega, hl, ok⟩ dt (dk'.mono (by omega)) (k1.trans k')
    · refine ⟨_, rfl, _, _, rfl, rfl, _, rfl, ?_⟩
      rw [decide_eq_false hlt]
      refine iteF ?_
      refine ⟨_, rfl, _, _, rfl, rfl, ?_⟩
      refine ⟨_, rfl, _, _, rfl, rfl, _, rfl, ?_⟩
      rw [decide_eq_false hlt]
      refine iteF ?_
      have e5 : (5 : Int) - ((1 + v : Nat) : Int) = ((4 - v : Nat) : Int) := by omega
      refine ⟨R, d, c, r, n + 1, 1 + v, 4 - v, 3, by dsimp only; rw [e5]; rfl, dk1, by omega, by omega, by omega, by omega, by omega, rg1, fun H' u ts hl ok dt dk' k' => ?_⟩
      exact q H' u (1 + v) ts ⟨by omega, by omega, by omega, fun t ht => ⟨(ok t ht).1.mono (by omega), (ok t ht).2.mono (by omega)⟩⟩ dt (dk'.mono (by omega)) (k1.trans k')

end
end Lb
set_option Elab.async false
set_option linter.all false
set_option maxRecDepth 100000
set_option maxHeartbeats 8000000
namespace Lb
open PySem PySem.Spec PyProof.Rows L2 RZ TL
section
variable {P : Program} {w : World} {K : PySem.W.Frag} {mg : Str → Option Value} {base : Heap}
theorem sc_is_whole : FnScope ["value"] ["value"] (defScope s_is_whole) := ⟨rfl, rfl, rfl, by decide +kernel, rfl, by decide +kernel, by decide +kernel⟩
theorem own_wholeX (D : Df K mg "is_whole" s_is_whole) (B : Blt mg) : Own P w K mg base "is_whole" 1 ["value"] (spWholeX K) := by
  refine own_of D sc_is_whole (fun _ _ _ _ _ _ us hl => match us, hl with | [_], _ => rfl) (fun vs H Q E h => ?_) (fun f cdv A outer s H vs Q E hr h => ?_)
  · obtain ⟨_, _, _, _, rfl, _⟩ := h
    rfl
  · obtain ⟨v, ty, b1, b2, rfl, ht, k1, k2, q⟩ := h
    refine ⟨_, (pss_one (ps_ret (pe_and (pe_callB (id := "isinstance") call_isi (by rfl) B.b_isinstance (by decide +kernel) (pa_cons (pv 0) (pa_cons (pe_bltn (v := .ty "int") (u := .type "int") (by rfl) B.b_int (by decide +kernel) rfl) pa_nil))) (pe_one (pe_not (pe_callB (id := "isinstance") call_isi (by rfl) B.b_isinstance (by decide +kernel) (pa_cons (pv 0) (pa_cons (pe_bltn (v := .ty "bool") (u := .type "bool") (by rfl) B.b_bool (by decide +kernel) rfl) pa_nil)))))))), ?_⟩
    refine ⟨_, rfl, _, _, _, _, _, rfl, .ty _, ht, k1, _, rfl, ?_⟩
    cases b1 with
    | true => exact iteT ⟨_, rfl, _, _, _, _, _, rfl, .ty _, ht, k2, _, rfl, q⟩
    | false => exact iteF q

end
end Lb
set_option Elab.async false
set_option linter.all false
set_option maxRecDepth 100000
set_option maxHeartbeats 8000000
namespace Lb
open PySem PySem.Spec PyProof.Rows L2 RZ TL
section
variable {P : Program} {w : World} {K : PySem.W.Frag} {mg : Str → Option Value} {base : Heap}
theorem sc_is_pair : FnScope ["value"] ["value"] (defScope s_is_pair) := ⟨rfl, rfl, rfl, by decide +kernel, rfl, by decide +kernel, by decide +kernel⟩
theorem own_pair (D : Df K mg "is_pair" s_is_pair) (B : Blt mg) : Own P w K mg base "is_pair" 1 ["value"] spPair := by
  refine own_of D sc_is_pair (fun _ _ _ _ _ _ us hl => match us, hl with | [_], _ => rfl) (fun vs H Q E h => ?_) (fun f cdv A outer s H vs Q E hr h => ?_)
  · obtain ⟨_, _, _, rfl, _⟩ := h
    rfl
  · obtain ⟨R, v, d, rfl, dt, q⟩ := h
    refine ⟨_, (pss_one (ps_ret (pe_and (pe_callB (id := "isinstance") call_isi (by rfl) B.b_isinstance (by decide +kernel) (pa_cons (pv 0) (pa_cons (pe_bltn (v := .ty "tuple") (u := .type "tuple") (by rfl) B.b_tuple (by decide +kernel) rfl) pa_nil))) (pe_one (pe_cmpR op_eq (pe_callB (id := "len") call_len_seq (by rfl) B.b_len PySem.boot_len (pa_cons (pv 0) pa_nil)) pe_int (nomark _)))))), ?_⟩
    refine ⟨_, rfl, _, _, _, _, _, rfl, .ty _, dat_ty dt, kit_ty (kit_tup d), _, rfl, ?_⟩
    cases dt with
    | @tup a xs ds ra e t =>
      refine iteT ⟨_, rfl, a, _, rfl, .inr (.inl (.inl e)), rfl, ?_⟩
      have e2 : decide (V.int ((xs.length : Nat) : Int) = V.int 2) = pairB (.tuple ds) := by
        unfold pairB
        rw [t.length]
        refine decide_eq_decide.mpr ⟨fun z => ?_, fun z => ?_⟩
        · have := V.int.inj z
          omega
        · rw [z]
          rfl
      rw [← e2] at q
      exact q
    | _ => exact iteF q

end
end Lb
set_option Elab.async false
set_option linter.all false
set_option maxRecDepth 100000
set_option maxHeartbeats 8000000
namespace Lb
open PySem PySem.Spec PyProof.Rows L2 RZ TL
section
variable {P : Program} {w : World} {K : PySem.W.Frag} {mg : Str → Option Value} {base : Heap}
theorem sc_is_bag : FnScope ["goods", "value", "amount"] ["goods", "value"] (defScope s_is_bag) := ⟨rfl, rfl, rfl, by decide +kernel, rfl, by decide +kernel, by decide +kernel⟩
theorem own_isbag (D : Df K mg "is_bag" s_is_bag) (B : Blt mg) (O_is_whole : Own P w K mg base "is_whole" 1 ["value"] spWhole) : Own P w K mg base "is_bag" 2 ["goods", "value"] spIsBag := by
  refine own_of D sc_is_bag (fun _ _ _ _ _ _ us hl => match us, hl with | [_, _], _ => rfl) (fun vs H Q E h => ?_) (fun f cdv A outer s H vs Q E hr h => ?_)
  · obtain ⟨_, _, _, _, rfl, _⟩ := h
    rfl
  · obtain ⟨R, v, g, d, rfl, dt, hw, q⟩ := h
    refine ⟨_, (pss_cons (ps_if (PW.pt (pw_or (pt_not (pt_val (pe_callB (id := "isinstance") call_isi (by rfl) B.b_isinstance (by decide +kernel) (pa_cons (pv 1) (pa_cons (pe_bltn (v := .ty "tuple") (u := .type "tuple") (by rfl) B.b_tuple (by decide +kernel) rfl) pa_nil))))) (pw_or1 (pt_cmpR op_ne (pe_callB (id := "len") call_len_seq (by rfl) B.b_len PySem.boot_len (pa_cons (pv 1) pa_nil)) (pv 0) (nomark _))))) (pss_one (ps_ret pe_bl)) pss_nil)
      (pss_one (ps_ret (pe_callB (id := "all") (cr_all rfl) (by rfl) B.b_all (by decide +kernel) (pa_cons (pe_lc (own := [("amount", 2)]) (g := gName 2) (tt := tYes) rfl sc_is_bag.nd (pi_tup (pv 1)) (blkOk_by (own := [("amount", 2)]) (N := ["goods", "value", "amount"]) (sc := defScope s_is_bag) (by decide +kernel)) (fun _ _ _ _ _ => (pg_name (i := 2) sc_is_bag.nd rfl (.inl rfl))) (fun _ _ _ _ _ => pts_nil) (fun _ _ _ _ _ => (pe_and (pe_own O_is_whole (hr.mono (by omega)) (by rfl) (pa_cons (pv 2) pa_nil)) (pe_one (pe_cmpR op_ge (pv 2) pe_int (nomark _)))))) pa_nil))))), ?_⟩
    refine ⟨_, rfl, _, _, _, _, _, rfl, .ty _, dat_ty dt, kit_ty (kit_tup d), _, rfl, ?_⟩
    cases dt with
    | @tup a xs ds ra e t =>
      have hlx := t.length
      have hlen := wts_len ds
      have hw' : 4 + wts ds ≤ 1000000 := hw
      refine iteF ⟨_, rfl, a, _, rfl, .inr (.inl (.inl e)), _, rfl, rfl, _, rfl, ?_⟩
      by_cases hg : (ds.length : Int) = g
      · have e1 : decide (V.int ((xs.length : Nat) : Int) = V.int g) = true := decide_eq_true (by rw [hlx, hg])
        rw [e1]
        refine iteF ?_
        refine ⟨_, rfl, a, rfl, ⟨_, .inl (.inl e)⟩, fun L hL => ?_⟩
        refine lc_tup (K := K) (a := a) (xs := xs) (fun i H' => Same H H' ∧ H' L = some (.lst (((ds.take i).map nn).map V.bl))) ⟨same_upd hL, upd_same⟩ (fun i H' _ hP => .inl (.inl (hP.1 _ _ e))) ?_ ?_
        · rintro i x H' hx ⟨sm, eL⟩
          obtain ⟨dx, hdx, dtx⟩ := t.get' hx
          have hi : i < ds.length := (List.getElem?_eq_some_iff.mp hdx).1
          have fin : ∃ acc, H' L = some (.lst acc) ∧ acc.length < sizeLine ∧ Same H (upd H' L (.lst (acc ++ [V.bl (nn dx)]))) ∧ upd H' L (.lst (acc ++ [V.bl (nn dx)])) L = some (.lst (((ds.take (i + 1)).map nn).map V.bl)) := by
            refine ⟨_, eL, ?_, fun b o eb => ?_, ?_⟩
            · rw [List.length_map, List.length_map, List.length_take, sizeLine_eq]
              omega
            · rw [upd_ne (ne_of_none eb hL)]
              exact sm _ _ eb
            · rw [upd_same, take_map hdx, List.map_append]
              rfl
          refine ⟨rfl, all_in ?_⟩
          refine ⟨_, rfl, R, x, dx, rfl, dtx.same sm, _, rfl, ?_⟩
          cases dtx with
          | int n => exact iteT ⟨_, rfl, _, _, rfl, rfl, fin⟩
          | _ => exact iteF fin
        · rintro H' ⟨sm, eL⟩
          rw [hlx, List.take_length] at eL
          refine ⟨L, _, rfl, SqL.of eL, ?_⟩
          have e2 : ((ds.map nn).all id) = bagB g (.tuple ds) := by
            rw [bagB_tup, decide_eq_true hg, Bool.true_and, List.all_map]
            rfl
          rw [e2]
          exact q H' sm
      · have e1 : decide (V.int ((xs.length : Nat) : Int) = V.int g) = false := decide_eq_false (fun z => hg (by have := V.int.inj z; omega))
        rw [e1]
        refine iteT ?_
        have e2 : bagB g (.tuple ds) = false := by
          rw [bagB_tup, decide_eq_false hg, Bool.false_and]
        have := q H (Same.refl H)
        rw [e2] at this
        exact this
    | _ => exact iteT (iteT (q H (Same.refl H)))
theorem own_isbagL (D : Df K mg "is_bag" s_is_bag) (B : Blt mg) (O_wx : Own P w K mg base "is_whole" 1 ["value"] (spWholeX K)) : Own P w K mg base "is_bag" 2 ["goods", "value"] spIsBagL := by
  have O_is_whole := O_wx.imp whole_imp
  refine own_of D sc_is_bag (fun _ _ _ _ _ _ us hl => match us, hl with | [_, _], _ => rfl) (fun vs H Q E h => ?_) (fun f cdv A outer s H vs Q E hr h => ?_)
  · obtain ⟨_, _, _, _, rfl, _⟩ := h
    rfl
  · obtain ⟨R, v, g, ds, rfl, dt, hw, q⟩ := h
    refine ⟨_, (pss_cons (ps_if (PW.pt (pw_or (pt_not (pt_val (pe_callB (id := "isinstance") call_isi (by rfl) B.b_isinstance (by decide +kernel) (pa_cons (pv 1) (pa_cons (pe_bltn (v := .ty "tuple") (u := .type "tuple") (by rfl) B.b_tuple (by decide +kernel) rfl) pa_nil))))) (pw_or1 (pt_cmpR op_ne (pe_callB (id := "len") call_len_seq (by rfl) B.b_len PySem.boot_len (pa_cons (pv 1) pa_nil)) (pv 0) (nomark _))))) (pss_one (ps_ret pe_bl)) pss_nil)
      (pss_one (ps_ret (pe_callB (id := "all") (cr_all rfl) (by rfl) B.b_all (by decide +kernel) (pa_cons (pe_lc (own := [("amount", 2)]) (g := gName 2) (tt := tYes) rfl sc_is_bag.nd (pi_tup (pv 1)) (blkOk_by (own := [("amount", 2)]) (N := ["goods", "value", "amount"]) (sc := defScope s_is_bag) (by decide +kernel)) (fun _ _ _ _ _ => (pg_name (i := 2) sc_is_bag.nd rfl (.inl rfl))) (fun _ _ _ _ _ => pts_nil) (fun _ _ _ _ _ => (pe_and (pe_own O_is_whole (hr.mono (by omega)) (by rfl) (pa_cons (pv 2) pa_nil)) (pe_one (pe_cmpR op_ge (pv 2) pe_int (nomark _)))))) pa_nil))))), ?_⟩
    refine ⟨_, rfl, _, _, _, _, _, rfl, .ty _, dat_ty dt, kit_ty (kit_tup (.tuple ds)), _, rfl, ?_⟩
    cases dt with
    | @tup a xs _ ra e t =>
      have hlx := t.length
      refine iteF ⟨_, rfl, a, _, rfl, .inr (.inl (.inl e)), _, rfl, rfl, _, rfl, ?_⟩
      by_cases hg : (ds.length : Int) = g
      · have e1 : decide (V.int ((xs.length : Nat) : Int) = V.int g) = true := decide_eq_true (by rw [hlx, hg])
        rw [e1]
        refine iteF ?_
        refine ⟨_, rfl, a, rfl, ⟨_, .inl (.inl e)⟩, fun L hL => ?_⟩
        refine lc_tup (K := K) (a := a) (xs := xs) (fun i H' => Same H H' ∧ H' L = some (.lst (((ds.take i).map nn).map V.bl))) ⟨same_upd hL, upd_same⟩ (fun i H' _ hP => .inl (.inl (hP.1 _ _ e))) ?_ ?_
        · rintro i x H' hx ⟨sm, eL⟩
          obtain ⟨dx, hdx, dtx⟩ := t.get' hx
          have hi : i < ds.length := (List.getElem?_eq_some_iff.mp hdx).1
          have fin : ∃ acc, H' L = some (.lst acc) ∧ acc.length < sizeLine ∧ Same H (upd H' L (.lst (acc ++ [V.bl (nn dx)]))) ∧ upd H' L (.lst (acc ++ [V.bl (nn dx)])) L = some (.lst (((ds.take (i + 1)).map nn).map V.bl)) := by
            refine ⟨_, eL, ?_, fun b o eb => ?_, ?_⟩
            · rw [List.length_map, List.length_map, List.length_take, sizeLine_eq]
              omega
            · rw [upd_ne (ne_of_none eb hL)]
              exact sm _ _ eb
            · rw [upd_same, take_map hdx, List.map_append]
              rfl
          refine ⟨rfl, all_in ?_⟩
          refine ⟨_, rfl, R, x, dx, rfl, dtx.same sm, _, rfl, ?_⟩
          cases dtx with
          | int n => exact iteT ⟨_, rfl, _, _, rfl, rfl, fin⟩
          | _ => exact iteF fin
        · rintro H' ⟨sm, eL⟩
          rw [hlx, List.take_length] at eL
          refine ⟨L, _, rfl, SqL.of eL, ?_⟩
          have e2 : ((ds.map nn).all id) = bagB g (.tuple ds) := by
            rw [bagB_tup, decide_eq_true hg, Bool.true_and, List.all_map]
            rfl
          rw [e2]
          exact q H' sm
      · have e1 : decide (V.int ((xs.length : Nat) : Int) = V.int g) = false := decide_eq_false (fun z => hg (by have := V.int.inj z; omega))
        rw [e1]
        refine iteT ?_
        have e2 : bagB g (.tuple ds) = false := by
          rw [bagB_tup, decide_eq_false hg, Bool.false_and]
        have := q H (Same.refl H)
        rw [e2] at this
        exact this

end
end Lb
set_option Elab.async false
set_option linter.all false
set_option maxRecDepth 100000
set_option maxHeartbeats 8000000
namespace Lb
open PySem PySem.Spec PyProof.Rows L2 RZ TL
section
variable {P : Program} {w : World} {K : PySem.W.Frag} {mg : Str → Option Value} {base : Heap}
theorem sc_trade_fault : FnScope ["goods", "value", "bag"] ["goods", "value"] (defScope s_trade_fault) := ⟨rfl, rfl, rfl, by decide +kernel, rfl, by decide +kernel, by decide +kernel⟩
theorem own_fault (D : Df K mg "trade_fault" s_trade_fault) (B : Blt mg) (O_is_pair : Own P w K mg base "is_pair" 1 ["value"] spPair) (O_is_bag : Own P w K mg base "is_bag" 2 ["goods", "value"] spIsBag)
    {t1 t2 : Tok} (c_MAX_AMOUNT : mg "MAX_AMOUNT" = some (.int 3 t1)) (c_MAX_TOTAL : mg "MAX_TOTAL" = some (.int 4 t2)) : Own P w K mg base "trade_fault" 3 ["goods", "value"] spFault := by
  refine own_of D sc_trade_fault (fun _ _ _ _ _ _ us hl => match us, hl with | [_, _], _ => rfl) (fun vs H Q E h => ?_) (fun f cdv A outer s H vs Q E hr h => ?_)
  · obtain ⟨_, _, _, _, rfl, _⟩ := h
    rfl
  · obtain ⟨R, v, g, d, rfl, hg, dt, hw, q⟩ := h
    refine ⟨_, (pss_cons (ps_if (PW.pt (pw_or (pt_not (pt_val (pe_own O_is_pair (hr.mono (by omega)) (by rfl) (pa_cons (pv 1) pa_nil)))) (pw_or1 (pt_not (pt_val (pe_callB (id := "all") (cr_all rfl) (by rfl) B.b_all (by decide +kernel) (pa_cons (pe_lc (own := [("bag", 2)]) (g := gName 2) (tt := tYes) rfl sc_trade_fault.nd (pi_tup (pv 1)) (blkOk_by (own := [("bag", 2)]) (N := ["goods", "value", "bag"]) (sc := defScope s_trade_fault) (by decide +kernel)) (fun _ _ _ _ _ => (pg_name (i := 2) sc_trade_fault.nd rfl (.inl rfl))) (fun _ _ _ _ _ => pts_nil) (fun _ _ _ _ _ => (pe_own O_is_bag (hr.mono (by omega)) (by rfl) (pa_cons (pv 0) (pa_cons (pv 2) pa_nil))))) pa_nil))))))) (pss_one (ps_ret pe_str)) pss_nil)
      (pss_cons (ps_if (pt_val (pe_callB (id := "any") (cr_any rfl) (by rfl) B.b_any (by decide +kernel) (pa_cons (pe_lc (own := [("bag", 2)]) (g := gName 2) (tt := tYes) rfl sc_trade_fault.nd (pi_tup (pv 1)) (blkOk_by (own := [("bag", 2)]) (N := ["goods", "value", "bag"]) (sc := defScope s_trade_fault) (by decide +kernel)) (fun _ _ _ _ _ => (pg_name (i := 2) sc_trade_fault.nd rfl (.inl rfl))) (fun _ _ _ _ _ => pts_nil) (fun _ _ _ _ _ => (pe_cmpR op_gt (pe_callB (id := "max") (show CallR _ _ (rMaxT K) from (cr_maxT rfl (hu_of hr))) (by rfl) B.b_max (by decide +kernel) (pa_cons (pv 2) pa_nil)) (pe_glob (v := .int 3) (by rfl) c_MAX_AMOUNT ⟨_, rfl⟩) (nomark _)))) pa_nil))) (pss_one (ps_ret pe_str)) pss_nil)
      (pss_cons (ps_if (pt_val (pe_callB (id := "any") (cr_any rfl) (by rfl) B.b_any (by decide +kernel) (pa_cons (pe_lc (own := [("bag", 2)]) (g := gName 2) (tt := tYes) rfl sc_trade_fault.nd (pi_tup (pv 1)) (blkOk_by (own := [("bag", 2)]) (N := ["goods", "value", "bag"]) (sc := defScope s_trade_fault) (by decide +kernel)) (fun _ _ _ _ _ => (pg_name (i := 2) sc_trade_fault.nd rfl (.inl rfl))) (fun _ _ _ _ _ => pts_nil) (fun _ _ _ _ _ => (pe_cmpR op_gt (pe_callB (id := "sum") (show CallR _ _ (rSumT K) from (cr_sumT rfl)) (by rfl) B.b_sum (by decide +kernel) (pa_cons (pv 2) pa_nil)) (pe_glob (v := .int 4) (by rfl) c_MAX_TOTAL ⟨_, rfl⟩) (nomark _)))) pa_nil))) (pss_one (ps_ret pe_str)) pss_nil)
      (pss_one (ps_ret pe_non))))), ?_⟩
    refine ⟨_, rfl, R, v, d, rfl, dt, _, rfl, ?_⟩
    cases hp : pairB d with
    | false =>
      have := q H (Same.refl H)
      rw [tw_not hp] at this
      exact iteT (iteT this)
    | true =>
      obtain ⟨x, y, rfl⟩ := pair_shape hp
      refine iteF ?_
      rw [tw_pair] at q
      have hwx : wt x ≤ 1000000 ∧ wt y ≤ 1000000 := by
        have : 4 + (wt x + 2 + (wt y + 2 + 0)) ≤ 1000000 := hw
        omega
      cases dt with
      | @tup a xs ds ra e t =>
        cases t with
        | @cons vx _ _ _ dx t =>
          cases t with
          | @cons vy _ _ _ dy t =>
            cases t
            -- all([is_bag(goods, bag) for bag in value])
            refine ⟨_, rfl, a, rfl, ⟨_, .inl (.inl e)⟩, fun L hL => ?_⟩
            refine lc_tup (K := K) (a := a) (xs := [vx, vy]) (fun i H' => Same H H' ∧ H' L = some (.lst ((([x, y].take i).map (bagB g)).map V.bl))) ⟨same_upd hL, upd_same⟩ (fun i H' _ hP => .inl (.inl (hP.1 _ _ e))) ?_ ?_
            · rintro i z H' hz ⟨sm, eL⟩
              obtain ⟨dz, hdz, dtz⟩ := (Dats.cons dx (.cons dy .nil)).get' hz
              have hi : i < 2 := (List.getElem?_eq_some_iff.mp hdz).1
              have hwz : wt dz ≤ 1000000 := by
                have := List.mem_of_getElem? hdz
                rcases List.mem_cons.mp this with rfl | this
                · exact hwx.1
                · rw [List.mem_singleton.mp this]
                  exact hwx.2
              refine ⟨rfl, all_in ?_⟩
              refine ⟨_, rfl, _, rfl, R, z, g, dz, rfl, dtz.same sm, hwz, fun H2 s2 => ?_⟩
              refine ⟨_, s2 _ _ eL, ?_, fun b o eb => ?_, ?_⟩
              · rw [List.length_map, List.length_map, List.length_take]
                exact small1000 (by simp; omega)
              · rw [upd_ne (ne_of_none eb hL)]
                exact s2 _ _ (sm _ _ eb)
              · rw [upd_same, take_map hdz, List.map_append]
                rfl
            rintro H1 ⟨s1, e1⟩
            refine ⟨L, _, rfl, SqL.of e1, _, rfl, ?_⟩
            have ea : ((([x, y].take [vx, vy].length).map (bagB g)).all id) = (bagB g x && bagB g y) := by
              show (bagB g x && (bagB g y && true)) = _
              rw [Bool.and_true]
            rw [ea]
            cases hb : (bagB g x && bagB g y) with
            | false =>
              have := q H1 s1
              rw [hb] at this
              exact this
            | true =>
              rw [Bool.and_eq_true] at hb
              obtain ⟨nx, rfl, lx, px, ex⟩ := bag_ints hb.1
              obtain ⟨ny, rfl, ly, py, ey⟩ := bag_ints hb.2
              obtain ⟨ax, rfl, rax, eax⟩ := dx.bag
              obtain ⟨ay, rfl, ray, eay⟩ := dy.bag
              have hb' : (bagB g (bagD nx) && bagB g (bagD ny)) = true := by rw [hb.1, hb.2]; rfl
              rw [hb', if_pos rfl, ex, ey] at q
              -- any([max(bag) > MAX_AMOUNT for bag in value])
              have e' := s1 _ _ e
              refine iteF ⟨_, rfl, a, rfl, ⟨_, .inl (.inl e')⟩, fun M hM => ?_⟩
              refine lc_tup (K := K) (a := a) (xs := [V.ref ax, V.ref ay]) (fun i H' => Same H1 H' ∧ H' M = some (.lst ((([nx, ny].take i).map fun n => n.any (fun i => decide (3 < i))).map V.bl))) ⟨same_upd hM, upd_same⟩ (fun i H' _ hP => .inl (.inl (hP.1 _ _ e'))) ?_ ?_
              · rintro i z H' hz ⟨sm, eM⟩
                obtain ⟨n, az, hn, rfl, enz, gnz⟩ : ∃ n az, [nx, ny][i]? = some n ∧ z = V.ref az ∧ H az = some (.tup (n.map V.int)) ∧ 0 < n.length := by
                  match i, hz with
                  | 0, hz => exact ⟨nx, ax, rfl, (Option.some.inj hz).symm, eax, by omega⟩
                  | 1, hz => exact ⟨ny, ay, rfl, (Option.some.inj hz).symm, eay, by omega⟩
                refine ⟨rfl, all_in ?_⟩
                refine ⟨_, rfl, az, n, rfl, .inl (.inl (sm _ _ (s1 _ _ enz))), gnz, fun m hm1 hm2 => ?_⟩
                refine ⟨_, _, rfl, rfl, _, eM, ?_, fun b o eb => ?_, ?_⟩
                · rw [List.length_map, List.length_map, List.length_take]
                  exact small1000 (by simp; omega)
                · rw [upd_ne (ne_of_none eb hM)]
                  exact sm _ _ eb
                · rw [upd_same, take_map hn, List.map_append, ← max_any hm1 hm2]
                  rfl
              rintro H2 ⟨s2, e2⟩
              refine ⟨M, _, rfl, SqL.of e2, _, rfl, ?_⟩
              have eb : ((([nx, ny].take [V.ref ax, V.ref ay].length).map fun n => n.any (fun i => decide (3 < i))).any id) = (nx.any (fun i => decide (3 < i)) || ny.any (fun i => decide (3 < i))) := by
                show (nx.any (fun i => decide (3 < i)) || (ny.any (fun i => decide (3 < i)) || false)) = _
                rw [Bool.or_false]
              rw [eb]
              cases hm : (nx.any (fun i => decide (3 < i)) || ny.any (fun i => decide (3 < i))) with
              | true =>
                have := q H2 (s1.trans s2)
                rw [hm] at this
                exact this
              | false =>
                rw [hm, if_neg Bool.false_ne_true] at q
                -- any([sum(bag) > MAX_TOTAL for bag in value])
                have e'' := s2 _ _ e'
                refine iteF ⟨_, rfl, a, rfl, ⟨_, .inl (.inl e'')⟩, fun N hN => ?_⟩
                refine lc_tup (K := K) (a := a) (xs := [V.ref ax, V.ref ay]) (fun i H' => Same H2 H' ∧ H' N = some (.lst ((([nx, ny].take i).map fun n => decide (4 < n.sum)).map V.bl))) ⟨same_upd hN, upd_same⟩ (fun i H' _ hP => .inl (.inl (hP.1 _ _ e''))) ?_ ?_
                · rintro i z H' hz ⟨sm, eM⟩
                  obtain ⟨n, az, hn, rfl, enz⟩ : ∃ n az, [nx, ny][i]? = some n ∧ z = V.ref az ∧ H az = some (.tup (n.map V.int)) := by
                    match i, hz with
                    | 0, hz => exact ⟨nx, ax, rfl, (Option.some.inj hz).symm, eax⟩
                    | 1, hz => exact ⟨ny, ay, rfl, (Option.some.inj hz).symm, eay⟩
                  refine ⟨rfl, all_in ?_⟩
                  refine ⟨_, rfl, az, n, rfl, .inl (.inl (sm _ _ (s2 _ _ (s1 _ _ enz)))), ?_⟩
                  refine ⟨_, _, rfl, rfl, _, eM, ?_, fun b o eb => ?_, ?_⟩
                  · rw [List.length_map, List.length_map, List.length_take]
                    exact small1000 (by simp; omega)
                  · rw [upd_ne (ne_of_none eb hN)]
                    exact sm _ _ eb
                  · rw [upd_same, take_map hn, List.map_append]
                    rfl
                rintro H3 ⟨s3, e3⟩
                refine ⟨N, _, rfl, SqL.of e3, _, rfl, ?_⟩
                have ec : ((([nx, ny].take [V.ref ax, V.ref ay].length).map fun n => decide (4 < n.sum)).any id) = (decide (4 < nx.sum) || decide (4 < ny.sum)) := by
                  show (decide (4 < nx.sum) || (decide (4 < ny.sum) || false)) = _
                  rw [Bool.or_false]
                rw [ec]
                have fin := q H3 ((s1.trans s2).trans s3)
                cases ht : (decide (4 < nx.sum) || decide (4 < ny.sum)) with
                | true =>
                  rw [ht] at fin
                  exact fin
                | false =>
                  rw [ht] at fin
                  exact fin

end
end Lb
set_option Elab.async false
set_option linter.all false
set_option maxRecDepth 100000
set_option maxHeartbeats 8000000
namespace Lb
open PySem PySem.Spec PyProof.Rows L2 RZ TL
section
variable {P : Program} {w : World} {K : PySem.W.Frag} {mg : Str → Option Value} {base : Heap}
theorem sc_market_error : FnScope ["value", "goods", "trades", "k", "trade", "word"] ["value"] (defScope s_market_error) := ⟨rfl, rfl, rfl, by decide +kernel, rfl, by decide +kernel, by decide +kernel⟩
theorem own_err (D : Df K mg "market_error" s_market_error) (B : Blt mg) (O_is_whole : Own P w K mg base "is_whole" 1 ["value"] spWhole) (O_is_pair : Own P w K mg base "is_pair" 1 ["value"] spPair) (O_trade_fault : Own P w K mg base "trade_fault" 3 ["goods", "value"] spFault)
    {t1 t2 : Tok} (c_MAX_GOODS : mg "MAX_GOODS" = some (.int 4 t1)) (c_MAX_TRADES : mg "MAX_TRADES" = some (.int 4 t2)) : Own P w K mg base "market_error" 4 ["value"] spErr := by
  refine own_of D sc_market_error (fun _ _ _ _ _ _ us hl => match us, hl with | [_], _ => rfl) (fun vs H Q E h => ?_) (fun f cdv A outer s H vs Q E hr h => ?_)
  · obtain ⟨_, _, _, rfl, _⟩ := h
    rfl
  · obtain ⟨R, v, d, rfl, dt, hw, hR, q⟩ := h
    refine ⟨_, (pss_cons (ps_if (pt_not (pt_val (pe_own O_is_pair (hr.mono (by omega)) (by rfl) (pa_cons (pv 0) pa_nil)))) (pss_one (ps_ret (pe_tup (pa_cons pe_non (pa_cons pe_str pa_nil))))) pss_nil)
      (pss_cons (ps_asg (pv 0) (pg_tup rfl (pgs_cons (pg_name (i := 1) sc_market_error.nd rfl (.inl rfl)) (pgs_cons (pg_name (i := 2) sc_market_error.nd rfl (.inl rfl)) pgs_nil))))
      (pss_cons (ps_if (PW.pt (pw_or (pt_not (pt_val (pe_own O_is_whole (hr.mono (by omega)) (by rfl) (pa_cons (pv 1) pa_nil)))) (pw_or1 (pt_not (pt_chain op_le op_le pe_int (pv 1) (pe_glob (v := .int 4) (by rfl) c_MAX_GOODS ⟨_, rfl⟩)))))) (pss_one (ps_ret (pe_tup (pa_cons pe_non (pa_cons pe_str pa_nil))))) pss_nil)
      (pss_cons (ps_if (pt_not (pt_val (pe_callB (id := "isinstance") call_isi (by rfl) B.b_isinstance (by decide +kernel) (pa_cons (pv 2) (pa_cons (pe_bltn (v := .ty "tuple") (u := .type "tuple") (by rfl) B.b_tuple (by decide +kernel) rfl) pa_nil))))) (pss_one (ps_ret (pe_tup (pa_cons pe_non (pa_cons pe_str pa_nil))))) pss_nil)
      (pss_cons (ps_if (pt_cmpR op_gt (pe_callB (id := "len") call_len_seq (by rfl) B.b_len PySem.boot_len (pa_cons (pv 2) pa_nil)) (pe_glob (v := .int 4) (by rfl) c_MAX_TRADES ⟨_, rfl⟩) (nomark _)) (pss_one (ps_ret (pe_tup (pa_cons pe_non (pa_cons pe_str pa_nil))))) pss_nil)
      (pss_cons (ps_for PassesOwn.never rfl (pi_enumT (by rfl) B.b_enumerate (pa_cons (pv 2) pa_nil)) (pg_tup rfl (pgs_cons (pg_name (i := 3) sc_market_error.nd rfl (.inl rfl)) (pgs_cons (pg_name (i := 4) sc_market_error.nd rfl (.inl rfl)) pgs_nil)))
        (pss_cons (ps_set (i := 5) sc_market_error.nd rfl (.inl rfl) (pe_own O_trade_fault (hr.mono (by omega)) (by rfl) (pa_cons (pv 1) (pa_cons (pv 4) pa_nil))))
      (pss_one (ps_if (pt_cmp (pc_notN (pv 5))) (pss_one (ps_ret (pe_tup (pa_cons (pv 3) (pa_cons (pv 5) pa_nil))))) pss_nil))))
      (pss_one (ps_ret pe_non)))))))), ?_⟩
    refine ⟨_, rfl, R, v, d, rfl, dt, _, rfl, ?_⟩
    cases hp : pairB d with
    | false =>
      rw [err_not hp] at q
      exact iteT ⟨(by show 2 ≤ sizeLine; decide), fun p hp => q _ _ (same_upd hp) (new_err _ hp (hR p hp))⟩
    | true =>
      obtain ⟨x, y, rfl⟩ := pair_shape hp
      have hwx : wt y ≤ 1000000 := by
        have : 4 + (wt x + 2 + (wt y + 2 + 0)) ≤ 1000000 := hw
        omega
      refine iteF ?_
      cases dt with
      | @tup a xs ds ra e t =>
        cases t with
        | @cons vx _ _ _ dx t =>
          cases t with
          | @cons vy _ _ _ dy t =>
            cases t
            refine ⟨_, rfl, a, _, rfl, .inl (.inl e), rfl, _, _, rfl, _, _, rfl, rfl, ?_⟩
            refine ⟨_, rfl, R, vx, x, rfl, dx, _, rfl, ?_⟩
            cases hx : whole x with
            | false =>
              rw [err_goods hx] at q
              exact iteT (iteT ⟨(by show 2 ≤ sizeLine; decide), fun p hp => q _ _ (same_upd hp) (new_err _ hp (hR p hp))⟩)
            | true =>
              cases dx with
              | int g =>
                refine iteF ?_
                refine ⟨_, rfl, _, _, rfl, rfl, _, rfl, ?_⟩
                by_cases h1 : 1 ≤ g
                · rw [decide_eq_true h1]
                  refine iteT ⟨_, _, rfl, rfl, _, rfl, ?_⟩
                  by_cases h4 : g ≤ 4
                  · rw [decide_eq_true h4]
                    refine iteF ?_
                    -- if not isinstance(trades, tuple)
                    refine ⟨_, rfl, _, _, _, _, _, rfl, .ty _, dat_ty dy, kit_ty (kit_tup y), _, rfl, ?_⟩
                    cases hy : isTup y with
                    | false =>
                      rw [err_trades ⟨h1, h4⟩ hy] at q
                      exact iteT ⟨(by show 2 ≤ sizeLine; decide), fun p hp => q _ _ (same_upd hp) (new_err _ hp (hR p hp))⟩
                    | true =>
                      refine iteF ?_
                      cases dy with
                      | @tup b ys ts rb eb tt =>
                        refine ⟨_, rfl, b, _, rfl, .inr (.inl (.inl eb)), _, _, rfl, rfl, _, rfl, ?_⟩
                        have hl := tt.length
                        by_cases h5 : ts.length ≤ 4
                        · rw [err_scan ⟨h1, h4⟩ h5] at q
                          rw [decide_eq_false (by omega)]
                          refine iteF ?_
                          -- for k, trade in enumerate(trades)
                          refine ⟨_, rfl, b, _, rfl, .inl (.inl eb), ?_⟩
                          refine for_enumT (K := K) (a := b) (xs := ys) (fun i σ H' => ∃ y3 y4 y5, σ = [some (.ref a), some (.int g), some (.ref b), y3, y4, y5] ∧ Same H H' ∧ scan g ts 0 = scan g (ts.drop i) i)
                            ⟨none, none, none, rfl, Same.refl H, rfl⟩ (fun i σ H' hP => by obtain ⟨_, _, _, _, sm, _⟩ := hP; exact .inl (.inl (sm _ _ eb))) ?_ ?_
                          · rintro i z T σ H' hz ⟨y3, y4, y5, rfl, sm, es⟩ hT
                            obtain ⟨dz, hdz, dtz⟩ := tt.get' hz
                            have hwz : wt dz ≤ 1000000 := by
                              have m1 := wts_mem (List.mem_of_getElem? hdz)
                              have m2 : 4 + wts ts ≤ 1000000 := hwx
                              omega
                            rw [drop_at hdz, scan_cons] at es
                            have sT := same_upd (o := .tup [V.int ((i : Nat) : Int), z]) hT
                            refine ⟨T, _, rfl, .inl (.inl upd_same), rfl, _, _, rfl, _, _, rfl, rfl, ?_⟩
                            refine ⟨_, rfl, _, rfl, R, z, g, dz, rfl, h1, dtz.same (sm.trans sT), hwz, fun H2 s2 => ?_⟩
                            refine ⟨_, rfl, _, rfl, ?_⟩
                            cases ht : tw g dz with
                            | none =>
                              rw [ht] at es
                              exact ⟨_, _, _, rfl, (sm.trans sT).trans s2, es⟩
                            | some wd =>
                              rw [ht] at es
                              rw [es] at q
                              refine ⟨_, rfl, _, rfl, (by show 2 ≤ sizeLine; decide), fun p hp => ?_⟩
                              have s3 := (sm.trans sT).trans s2
                              exact q _ _ (s3.trans (same_upd hp)) (.tup (hR p (s3.free hp)) upd_same (.cons (.int _) (.cons (.str wd) .nil)))
                          · rintro σ H' ⟨y3, y4, y5, rfl, sm, es⟩
                            have : ts.drop ys.length = [] := List.drop_eq_nil_of_le (by omega)
                            rw [this] at es
                            have e0 : scan g [] ys.length = .none := rfl
                            rw [e0] at es
                            rw [es] at q
                            exact q H' .non sm .non
                        · rw [err_many ⟨h1, h4⟩ h5] at q
                          rw [decide_eq_true (by omega)]
                          exact iteT ⟨(by show 2 ≤ sizeLine; decide), fun p hp => q _ _ (same_upd hp) (new_err _ hp (hR p hp))⟩
                      | _ => exact absurd hy Bool.false_ne_true
                  · rw [decide_eq_false h4]
                    rw [err_range (fun z => h4 z.2)] at q
                    exact iteT ⟨(by show 2 ≤ sizeLine; decide), fun p hp => q _ _ (same_upd hp) (new_err _ hp (hR p hp))⟩
                · rw [decide_eq_false h1]
                  rw [err_range (fun z => h1 z.1)] at q
                  exact iteF ⟨_, rfl, iteT ⟨(by show 2 ≤ sizeLine; decide), fun p hp => q _ _ (same_upd hp) (new_err _ hp (hR p hp))⟩⟩
              | _ => exact absurd hx Bool.false_ne_true

end
end Lb
set_option Elab.async false
set_option linter.all false
set_option maxRecDepth 100000
set_option maxHeartbeats 8000000
namespace Lb
open PySem PySem.Spec PyProof.Rows L2 RZ TL
section
variable {P : Program} {w : World} {K : PySem.W.Frag} {mg : Str → Option Value} {base : Heap}
theorem sc_desk_error : FnScope ["market", "error"] ["market"] (defScope s_desk_error) := ⟨rfl, rfl, rfl, by decide +kernel, rfl, by decide +kernel, by decide +kernel⟩
theorem own_derr (D : Df K mg "desk_error" s_desk_error) (B : Blt mg) (c_MAX_LENT : ∃ t, mg "MAX_LENT" = some (.int 3 t)) (O_market_error : Own P w K mg base "market_error" 4 ["value"] spErr) : Own P w K mg base "desk_error" 5 ["market"] spDErr := by
  obtain ⟨tL, c_MAX_LENT⟩ := c_MAX_LENT
  refine own_of D sc_desk_error (fun _ _ _ _ _ _ us hl => match us, hl with | [_], _ => rfl) (fun vs H Q E h => ?_) (fun f cdv A outer s H vs Q E hr h => ?_)
  · obtain ⟨_, _, _, rfl, _⟩ := h
    rfl
  · obtain ⟨R, v, d, rfl, dv, hw, new, q⟩ := h
    refine ⟨_, (pss_cons (ps_set (i := 1) sc_desk_error.nd rfl (.inl rfl) (pe_own O_market_error (hr.mono (by omega)) (by rfl) (pa_cons (pv 0) pa_nil)))
      (pss_cons (ps_if (PW.pt (pw_and (pt_cmp (pc_isN (pv 1))) (pw_and1 (PW.pt (pw_or (pt_cmpR op_gt (pe_ix ix_tup (pv 0) pe_int (fun _ _ => rfl)) (pe_glob (v := .int 3) (by rfl) c_MAX_LENT ⟨_, rfl⟩) (nomark _)) (pw_or1 (pt_cmpR op_gt (pe_callB (id := "len") call_len_seq (by rfl) B.b_len PySem.boot_len (pa_cons (pe_ix ix_tup (pv 0) pe_int (fun _ _ => rfl)) pa_nil)) (pe_glob (v := .int 3) (by rfl) c_MAX_LENT ⟨_, rfl⟩) (nomark _)))))))) (pss_one (ps_ret (pe_tup (pa_cons pe_non (pa_cons pe_str pa_nil))))) pss_nil)
      (pss_one (ps_ret (pv 1))))), ?_⟩
    refine ⟨_, rfl, R, v, d, rfl, dv, hw, new, fun H1 u s1 du => ?_⟩
    cases hd : mErr d with
    | none =>
      rw [hd] at du
      obtain rfl := du.nonI
      obtain ⟨g, ts, rfl, g1, g4, tl⟩ := mErr_none hd
      have ed : dErr (.tuple [.int g, .tuple ts]) = if 3 < g ∨ 3 < ts.length then errD "room" else .none := by
        unfold dErr
        rw [hd]
      rw [ed] at q
      obtain ⟨am, w1, w2, rfl, ram, eam, dg, dts⟩ := Dat.pair dv
      obtain rfl := dg.intI
      obtain ⟨tv, ys, rfl, rtv, etv, dys⟩ := dts.tupI
      have ly := dys.length
      have fin : (3 < g ∨ 3 < ts.length) → 2 ≤ sizeLine ∧ ∀ p, H1 p = none → Q (.ref p) (upd H1 p (.tup [V.non, V.str "room"])) := fun h => by
        rw [if_pos h] at q
        exact ⟨(by show 2 ≤ sizeLine; decide), fun p hp => q _ _ (s1.trans (same_upd hp)) (.tup (new p (s1.free hp)) upd_same (.cons .non (.cons (.str _) .nil)))⟩
      refine ⟨_, rfl, _, rfl, iteT ?_⟩
      refine ⟨_, rfl, am, _, _, _, rfl, rfl, tup_at0 (s1 _ _ eam), rfl, _, _, rfl, rfl, _, rfl, ?_⟩
      by_cases h1 : 3 < g
      · rw [decide_eq_true h1]
        exact iteT (iteT (fin (.inl h1)))
      · rw [decide_eq_false h1]
        refine iteF ?_
        refine ⟨_, rfl, am, _, _, _, rfl, rfl, tup_at0 (s1 _ _ eam), rfl, tv, _, rfl, .inr (.inl (.inl (s1 _ _ etv))), _, _, rfl, rfl, _, rfl, ?_⟩
        by_cases h2 : 3 < ts.length
        · rw [decide_eq_true (show (3 : Int) < ((ys.length : Nat) : Int) by omega)]
          exact iteT (fin (.inr h2))
        · rw [decide_eq_false (show ¬ (3 : Int) < ((ys.length : Nat) : Int) by omega)]
          rw [if_neg (by omega)] at q
          exact iteF ⟨_, rfl, q H1 .non s1 .non⟩
    | _ =>
      have ed : dErr d = mErr d := by
        unfold dErr
        rw [hd]
      have hn : isNV u = false := by
        rw [hd] at du
        cases du <;> rfl
      rw [ed] at q
      refine ⟨_, rfl, _, rfl, ?_⟩
      rw [show (decide (u = V.non)) = false from decide_eq_false fun z => by rw [z] at hn; cases hn]
      exact iteF (iteF ⟨_, rfl, q H1 u s1 du⟩)

end
end Lb
set_option Elab.async false
set_option linter.all false
set_option maxRecDepth 100000
set_option maxHeartbeats 8000000
namespace Lb
open PySem PySem.Spec PyProof.Rows L2 RZ TL
section
variable {P : Program} {w : World} {K : PySem.W.Frag} {mg : Str → Option Value} {base : Heap}
theorem sc_first_lacking : FnScope ["bag", "other", "good", "many", "wanted"] ["bag", "other"] (defScope s_first_lacking) := ⟨rfl, rfl, rfl, by decide +kernel, rfl, by decide +kernel, by decide +kernel⟩
theorem own_lack (D : Df K mg "first_lacking" s_first_lacking) (B : Blt mg) : Own P w K mg base "first_lacking" 1 ["bag", "other"] (spLack K) := by
  refine own_of D sc_first_lacking (fun _ _ _ _ _ _ us hl => match us, hl with | [_, _], _ => rfl) (fun vs H Q E h => ?_) (fun f cdv A outer s H vs Q E hr h => ?_)
  · obtain ⟨_, _, _, _, rfl, _⟩ := h
    rfl
  · obtain ⟨a, b, x, y, rfl, hA, hB, hl, hl2, q⟩ := h
    refine ⟨_, (pss_cons (ps_for PassesOwn.never rfl (pi_enumZ (by rfl) B.b_enumerate (by rfl) B.b_zip (pa_cons (pv 0) (pa_cons (pv 1) pa_nil))) (pg_tup rfl (pgs_cons (pg_name (i := 2) sc_first_lacking.nd rfl (.inl rfl)) (pgs_cons (pg_tup rfl (pgs_cons (pg_name (i := 3) sc_first_lacking.nd rfl (.inl rfl)) (pgs_cons (pg_name (i := 4) sc_first_lacking.nd rfl (.inl rfl)) pgs_nil))) pgs_nil)))
        (pss_one (ps_if (pt_cmpR op_lt (pv 3) (pv 4) (nomark _)) (pss_one (ps_ret (pv 2))) pss_nil)))
      (pss_one (ps_ret pe_non))), ?_⟩
    refine ⟨_, rfl, _, rfl, a, b, _, _, rfl, hA, hB, ?_⟩
    refine for_enumZ (K := K) (xs := x.map V.int) (ys := y.map V.int) (by rw [List.length_map, List.length_map]; exact hl) (fun i σ H' => ∃ y2 y3 y4, σ = [some (.ref a), some (.ref b), y2, y3, y4] ∧ Same H H' ∧ lackN x y 0 = lackN (x.drop i) (y.drop i) i)
      ⟨none, none, none, rfl, Same.refl _, rfl⟩ (fun i σ H' hP => by obtain ⟨_, _, _, _, s', _⟩ := hP; exact ⟨same_tup s' hA, same_tup s' hB⟩) ?_ ?_
    · rintro i u v T U σ H' hu hv ⟨y2, y3, y4, rfl, sm, el⟩ hT hU ne
      obtain ⟨u, rfl, hu'⟩ := int_at hu
      obtain ⟨v, rfl, hv'⟩ := int_at hv
      have s1 := same_upd (o := .tup [V.int u, V.int v]) hT
      have hU' : upd H' T (.tup [V.int u, V.int v]) U = none := by rw [upd_ne ne.symm]; exact hU
      have s2 := same_upd (o := .tup [V.int ((i : Nat) : Int), V.ref T]) hU'
      have eT : upd (upd H' T (.tup [V.int u, V.int v])) U (.tup [V.int ((i : Nat) : Int), V.ref T]) T = some (.tup [V.int u, V.int v]) := s2 _ _ upd_same
      have sT := (sm.trans s1).trans s2
      rw [drop_at hu', drop_at hv', lackN_cons] at el
      refine ⟨U, _, rfl, .inl (.inl upd_same), rfl, _, _, rfl, _, _, rfl, T, _, rfl, .inl (.inl eT), rfl, _, _, rfl, _, _, rfl, rfl, rfl, ?_⟩
      refine ⟨_, rfl, _, rfl, _, _, rfl, rfl, _, rfl, ite2 (fun hlt => ?_) (fun hlt => ?_)⟩
      · have hlt' : u < v := of_decide_eq_true hlt
        rw [if_pos hlt'] at el
        rw [el] at q
        exact ⟨_, rfl, q _ sT⟩
      · have hlt' : ¬ u < v := fun z => hlt (decide_eq_true z)
        rw [if_neg hlt'] at el
        exact ⟨_, _, _, rfl, sT, el⟩
    · rintro σ H' ⟨y2, y3, y4, rfl, sm, el⟩
      rw [List.length_map, List.drop_length, hl, List.drop_length] at el
      rw [el] at q
      exact q _ sm

end
end Lb
set_option Elab.async false
set_option linter.all false
set_option maxRecDepth 100000
set_option maxHeartbeats 8000000
namespace Lb
open PySem PySem.Spec PyProof.Rows L2 RZ TL
section
variable {P : Program} {w : World} {K : PySem.W.Frag} {mg : Str → Option Value} {base : Heap}
theorem sc_Bag___init__ : FnScope ["self", "amounts"] ["self", "amounts"] (defScope s_Bag___init__) := ⟨rfl, rfl, rfl, by decide +kernel, rfl, by decide +kernel, by decide +kernel⟩
theorem own_binit {C CB : Addr} (D : DfM K C "__init__" "Bag.__init__" s_Bag___init__) (B : Blt mg) (BC : BagC K mg C) (T_BadBag : Err0 K mg "BadBag" CB) (O_is_bag : Own P w K mg base "is_bag" 2 ["goods", "value"] spIsBagL) :
    OwnM P w K mg base C "__init__" 3 ["self", "amounts"] (spInit K C CB) := by
  refine ownM_of D sc_Bag___init__ (fun _ _ _ _ _ _ us hl => match us, hl with | [_, _], _ => rfl) (fun vs H Q E h => ?_) (fun f cdv A outer s H vs Q E hr h => ?_)
  · obtain ⟨_, _, _, rfl, _⟩ := h
    rfl
  · obtain ⟨x, dx, v, rfl, ex, q⟩ := h
    obtain ⟨mc, u, cr, cv⟩ := BC.lim
    refine ⟨_, (pss_cons (ps_if (PW.pt (pw_or (pt_not (pt_val (pe_callB (id := "isinstance") call_isi (by rfl) B.b_isinstance (by decide +kernel) (pa_cons (pv 1) (pa_cons (pe_bltn (v := .ty "tuple") (u := .type "tuple") (by rfl) B.b_tuple (by decide +kernel) rfl) pa_nil))))) (pw_or1 (pt_not (pt_chain op_le op_le pe_int (pe_callB (id := "len") call_len_seq (by rfl) B.b_len PySem.boot_len (pa_cons (pv 1) pa_nil)) (ClX.pe_cval (pe_glob (v := .ref C) (by rfl) BC.gB rfl))))))) (pss_one (ps_raise rfl (takes_of rfl rfl rfl rfl) (pmk_err0 T_BadBag (by rfl)))) pss_nil)
      (pss_cons (ps_if (pt_not (pt_val (pe_own O_is_bag (hr.mono (by omega)) (by rfl) (pa_cons (pe_callB (id := "len") call_len_seq (by rfl) B.b_len PySem.boot_len (pa_cons (pv 1) pa_nil)) (pa_cons (pv 1) pa_nil))))) (pss_one (ps_raise rfl (takes_of rfl rfl rfl rfl) (pmk_err0 T_BadBag (by rfl)))) pss_nil)
      (pss_one (ps_fld (pv 0) (pv 1) rfl)))), ?_⟩
    rcases q with ⟨R, ds, hd, hl, q1, q2⟩ | ⟨⟨ty, ht, hk⟩, q2⟩
    · obtain ⟨a, xs, rfl, ra, e, t⟩ := hd.tupI
      have lx := t.length
      refine ⟨_, rfl, _, _, _, _, _, rfl, .ty _, dat_ty hd, kit_ty (kit_tup _), _, rfl, iteF ?_⟩
      refine ⟨_, rfl, a, _, rfl, .inr (.inl (.inl e)), _, _, rfl, rfl, _, rfl, ?_⟩
      by_cases h1 : 1 ≤ ds.length
      · rw [decide_eq_true (show (1 : Int) ≤ ((xs.length : Nat) : Int) by omega)]
        refine iteT ⟨C, mc, _, u, rfl, cr, cv, _, _, rfl, rfl, _, rfl, ?_⟩
        by_cases h4 : ds.length ≤ 4
        · rw [decide_eq_true (show ((xs.length : Nat) : Int) ≤ 4 by omega)]
          refine iteF ?_
          refine ⟨_, rfl, a, _, rfl, .inr (.inl (.inl e)), _, rfl, R, _, _, ds, rfl, hd, hl, fun H' sm => ?_⟩
          have eb : bagB ((xs.length : Nat) : Int) (.tuple ds) = mkB (.tuple ds) := by
            rw [bagB_tup, decide_eq_true (show ((ds.length : Nat) : Int) = ((xs.length : Nat) : Int) by omega)]
            show _ = (decide (1 ≤ ds.length) && decide (ds.length ≤ 4) && ds.all nn)
            rw [decide_eq_true h1, decide_eq_true h4]
            rfl
          rw [eb]
          cases hm : mkB (.tuple ds) with
          | true => exact ⟨_, rfl, iteF ⟨_, rfl, _, rfl, x, C, dx, _, rfl, sm _ _ ex, BC.cl, BC.no, (by decide), q1 hm H' sm⟩⟩
          | false => exact ⟨_, rfl, iteT (q2 hm H' sm)⟩
        · have hm : mkB (.tuple ds) = false := by
            show (decide (1 ≤ ds.length) && decide (ds.length ≤ 4) && ds.all nn) = false
            rw [decide_eq_false h4, Bool.and_false, Bool.false_and]
          rw [decide_eq_false (show ¬ ((xs.length : Nat) : Int) ≤ 4 by omega)]
          exact iteT (q2 hm H (Same.refl H))
      · have hm : mkB (.tuple ds) = false := by
          show (decide (1 ≤ ds.length) && decide (ds.length ≤ 4) && ds.all nn) = false
          rw [decide_eq_false h1, Bool.false_and, Bool.false_and]
        rw [decide_eq_false (show ¬ (1 : Int) ≤ ((xs.length : Nat) : Int) by omega)]
        exact iteF ⟨_, rfl, iteT (q2 hm H (Same.refl H))⟩
    · exact ⟨_, rfl, _, _, _, _, _, rfl, .ty _, ht, hk, _, rfl, iteT (iteT (q2 H (Same.refl H)))⟩

end
end Lb
set_option Elab.async false
set_option linter.all false
set_option maxRecDepth 100000
set_option maxHeartbeats 8000000
namespace Lb
open PySem PySem.Spec PyProof.Rows L2 RZ TL
section
variable {P : Program} {w : World} {K : PySem.W.Frag} {mg : Str → Option Value} {base : Heap}
theorem sc_Bag_amounts : FnScope ["self"] ["self"] (defScope s_Bag_amounts) := ⟨rfl, rfl, rfl, by decide +kernel, rfl, by decide +kernel, by decide +kernel⟩
theorem own_bamt {C p g : Addr} {fd : FuncData} (F : Fun K "amounts" "Bag.amounts" s_Bag_amounts g fd) (hp : PropOf K C "amounts" p g) (BC : BagC K mg C) : PropM P w K mg base C "amounts" 1 (spAmt C) := by
  refine ⟨p, g, fd, hp, F.okX sc_Bag_amounts (fun vs H Q E h => ?_) (fun cdv A outer s H vs Q E hr h => ?_), F.binds (fun _ _ _ _ _ _ us hl => match us, hl with | [_], _ => rfl)⟩
  · obtain ⟨_, _, _, rfl, _⟩ := h
    rfl
  · obtain ⟨a, t, x, rfl, ⟨⟨dx, ea⟩, et⟩, q⟩ := h
    refine ⟨_, (pss_one (ps_ret (pe_fld (pv 0) rfl))), ?_⟩
    exact ⟨_, rfl, a, C, dx, _, _, rfl, ea, BC.cl, BC.no, rfl, q⟩

end
end Lb
set_option Elab.async false
set_option linter.all false
set_option maxRecDepth 100000
set_option maxHeartbeats 8000000
namespace Lb
open PySem PySem.Spec PyProof.Rows L2 RZ TL
section
variable {P : Program} {w : World} {K : PySem.W.Frag} {mg : Str → Option Value} {base : Heap}
theorem sc_Bag_is_like : FnScope ["self", "other"] ["self", "other"] (defScope s_Bag_is_like) := ⟨rfl, rfl, rfl, by decide +kernel, rfl, by decide +kernel, by decide +kernel⟩
theorem own_blike {C : Addr} (D : DfM K C "is_like" "Bag.is_like" s_Bag_is_like) (B : Blt mg) (BC : BagC K mg C) : OwnM P w K mg base C "is_like" 1 ["self", "other"] (spIsLike K C) := by
  refine ownM_of D sc_Bag_is_like (fun _ _ _ _ _ _ us hl => match us, hl with | [_, _], _ => rfl) (fun vs H Q E h => ?_) (fun f cdv A outer s H vs Q E hr h => ?_)
  · obtain ⟨_, _, _, _, rfl, _⟩ := h
    rfl
  · obtain ⟨a, t, x, y, rfl, ⟨⟨dx, ea⟩, et⟩, q⟩ := h
    refine ⟨_, (pss_one (ps_ret (pe_and (pe_callB (id := "isinstance") call_isi (by rfl) B.b_isinstance (by decide +kernel) (pa_cons (pv 1) (pa_cons (pe_glob (v := .ref C) (by rfl) BC.gB rfl) pa_nil))) (pe_one (pe_cmpR op_eq (pe_callB (id := "len") call_len_seq (by rfl) B.b_len PySem.boot_len (pa_cons (pe_fld (pv 1) rfl) pa_nil)) (pe_callB (id := "len") call_len_seq (by rfl) B.b_len PySem.boot_len (pa_cons (pe_fld (pv 0) rfl) pa_nil)) (nomark _)))))), ?_⟩
    rcases q with ⟨b, s', z, rfl, ⟨⟨dy, eb⟩, es⟩, zok, q⟩ | ⟨⟨ty, ht, hk⟩, q⟩
    · refine ⟨_, rfl, _, _, _, _, _, rfl, .own C, BC.ty eb, BC.ks, _, rfl, iteT ?_⟩
      refine ⟨_, rfl, b, C, dy, _, _, rfl, eb, BC.cl, BC.no, rfl, s', _, rfl, .inr (.inl (.inl es)), _, rfl, a, C, dx, _, _, rfl, ea, BC.cl, BC.no, rfl, t, _, rfl, .inr (.inl (.inl et)), rfl, ?_⟩
      have e1 : decide (V.int (((z.map V.int).length : Nat) : Int) = V.int (((x.map V.int).length : Nat) : Int)) = decide (z.length = x.length) := by
        rw [List.length_map, List.length_map]
        refine decide_eq_decide.mpr ⟨fun h => ?_, fun h => by rw [h]⟩
        have := V.int.inj h
        omega
      rw [← e1] at q
      exact q
    · exact ⟨_, rfl, _, _, _, _, _, rfl, .own C, ht, hk, _, rfl, iteF q⟩

end
end Lb
set_option Elab.async false
set_option linter.all false
set_option maxRecDepth 100000
set_option maxHeartbeats 8000000
namespace Lb
open PySem PySem.Spec PyProof.Rows L2 RZ TL
section
variable {P : Program} {w : World} {K : PySem.W.Frag} {mg : Str → Option Value} {base : Heap}
theorem sc_Bag___len__ : FnScope ["self"] ["self"] (defScope s_Bag___len__) := ⟨rfl, rfl, rfl, by decide +kernel, rfl, by decide +kernel, by decide +kernel⟩
theorem own_blen {C : Addr} (D : DfM K C "__len__" "Bag.__len__" s_Bag___len__) (B : Blt mg) (BC : BagC K mg C) : OwnM P w K mg base C "__len__" 1 ["self"] (spLen C) := by
  refine ownM_of D sc_Bag___len__ (fun _ _ _ _ _ _ us hl => match us, hl with | [_], _ => rfl) (fun vs H Q E h => ?_) (fun f cdv A outer s H vs Q E hr h => ?_)
  · obtain ⟨_, _, _, rfl, _⟩ := h
    rfl
  · obtain ⟨a, t, x, rfl, ⟨⟨dx, ea⟩, et⟩, q⟩ := h
    refine ⟨_, (pss_one (ps_ret (pe_callB (id := "len") call_len_seq (by rfl) B.b_len PySem.boot_len (pa_cons (pe_fld (pv 0) rfl) pa_nil)))), ?_⟩
    refine ⟨_, rfl, a, C, dx, _, _, rfl, ea, BC.cl, BC.no, rfl, ?_⟩
    have q' : Q (.int ((x.map V.int).length : Int)) H := by rw [List.length_map]; exact q
    exact ⟨t, _, rfl, .inr (.inl (.inl et)), q'⟩

end
end Lb
set_option Elab.async false
set_option linter.all false
set_option maxRecDepth 100000
set_option maxHeartbeats 8000000
namespace Lb
open PySem PySem.Spec PyProof.Rows L2 RZ TL
section
variable {P : Program} {w : World} {K : PySem.W.Frag} {mg : Str → Option Value} {base : Heap}
theorem sc_check_kind : FnScope ["bag", "value"] ["bag", "value"] (defScope s_check_kind) := ⟨rfl, rfl, rfl, by decide +kernel, rfl, by decide +kernel, by decide +kernel⟩
theorem own_ckind {C CB : Addr} (D : Df K mg "check_kind" s_check_kind) (B : Blt mg) (BC : BagC K mg C) (T_BadBag : Err0 K mg "BadBag" CB) (M_is_like : OwnM P w K mg base C "is_like" 1 ["self", "other"] (spIsLike K C)) : OwnX P w K mg base "check_kind" 2 ["bag", "value"] (spCKind K C CB) := by
  refine ownX_of D sc_check_kind (fun _ _ _ _ _ _ us hl => match us, hl with | [_, _], _ => rfl) (fun vs H Q E h => ?_) (fun f cdv A outer s H vs Q E hr h => ?_)
  · obtain ⟨_, _, _, _, rfl, _⟩ := h
    rfl
  · obtain ⟨a, t, x, y, rfl, hb, q⟩ := h
    obtain ⟨⟨dx, ea⟩, et⟩ := id hb
    refine ⟨_, (pss_one (ps_if (pt_not (pt_val (pe_methX (pv 0) BC.cl M_is_like (hr.mono (by omega)) passX0 (pa_cons (pv 1) pa_nil)))) (pss_one (ps_raise rfl (takes_of rfl rfl rfl rfl) (pmk_err0 T_BadBag (by rfl)))) pss_nil)), ?_⟩
    refine ⟨_, rfl, a, dx, _, rfl, ea, rfl, _, rfl, a, t, x, y, rfl, hb, ?_⟩
    rcases q with ⟨b, s', z, rfl, hb2, zok, q1, q2⟩ | ⟨hn, q⟩
    · refine .inl ⟨b, s', z, rfl, hb2, zok, _, rfl, ?_⟩
      by_cases h : z.length = x.length
      · rw [decide_eq_true h]
        exact iteF (q1 h)
      · rw [decide_eq_false h]
        exact iteT (q2 h H (Same.refl H))
    · exact .inr ⟨hn, _, rfl, iteT (q H (Same.refl H))⟩

end
end Lb
set_option Elab.async false
set_option linter.all false
set_option maxRecDepth 100000
set_option maxHeartbeats 8000000
namespace Lb
open PySem PySem.Spec PyProof.Rows L2 RZ TL
section
variable {P : Program} {w : World} {K : PySem.W.Frag} {mg : Str → Option Value} {base : Heap}
theorem sc_check_room : FnScope ["bag", "good"] ["bag"] (defScope s_check_room) := ⟨rfl, rfl, rfl, by decide +kernel, rfl, by decide +kernel, by decide +kernel⟩
theorem own_croom {C CT : Addr} (D : Df K mg "check_room" s_check_room) (B : Blt mg) (BC : BagC K mg C) {tM : Tok} (c_MAX_DESK : mg "MAX_DESK" = some (.int 6 tM)) (T_TooMuch : Err1 P w K mg base "TooMuch" "good" CT) (O_first_lacking : Own P w K mg base "first_lacking" 1 ["bag", "other"] (spLack K)) (M_len : OwnM P w K mg base C "__len__" 1 ["self"] (spLen C)) (M_amounts : PropM P w K mg base C "amounts" 1 (spAmt C)) :
    OwnX P w K mg base "check_room" 4 ["bag"] (spCRoom C CT) := by
  refine ownX_of D sc_check_room (fun _ _ _ _ _ _ us hl => match us, hl with | [_], _ => rfl) (fun vs H Q E h => ?_) (fun f cdv A outer s H vs Q E hr h => ?_)
  · obtain ⟨_, _, _, rfl, _⟩ := h
    rfl
  · obtain ⟨a, t, x, rfl, hb, x4, q1, q2⟩ := h
    obtain ⟨⟨dx, ea⟩, et⟩ := id hb
    refine ⟨_, (pss_cons (ps_set (i := 1) sc_check_room.nd rfl (.inl rfl) (pe_own O_first_lacking (hr.mono (by omega)) (by rfl) (pa_cons (pe_op op_repA (pe_tup (pa_cons (pe_glob (v := .int 6) (by rfl) c_MAX_DESK ⟨_, rfl⟩) pa_nil)) (pe_callB (id := "len") (call_lenM M_len (hr.mono (by omega)) passX0) (by rfl) B.b_len PySem.boot_len (pa_cons (pv 0) pa_nil))) (pa_cons (pe_amt BC M_amounts (hr.mono (by omega)) (pv 0)) pa_nil))))
      (pss_one (ps_if (pt_cmp (pc_notN (pv 1))) (pss_one (ps_raise rfl (takes_of rfl rfl rfl rfl) (pmk_err T_TooMuch (hr.mono (by omega)) (by rfl) (pa_cons (pv 1) pa_nil)))) pss_nil))), ?_⟩
    refine ⟨(by show 1 ≤ sizeLine; decide), fun p1 z1 => ?_⟩
    have s1 := same_upd (o := .tup [V.int 6]) z1
    have e1 : upd H p1 (.tup [V.int 6]) p1 = some (.tup [V.int 6]) := upd_same
    generalize upd H p1 (.tup [V.int 6]) = H1 at s1 e1 ⊢
    refine ⟨_, rfl, a, dx, _, rfl, s1 _ _ ea, a, t, x, rfl, hb.same s1, x.length, by omega, rfl, ?_⟩
    refine rd_repI (R := fun _ => True) e1 trivial (fun _ _ => trivial) (by omega) fun H2 p2 s2 _ e2 => ?_
    have s02 := s1.trans s2
    refine ⟨_, rfl, rd_amt (hb.same s02) ?_⟩
    refine ⟨p2, t, _, x, rfl, .inl (.inl e2), .inl (.inl (s02 _ _ et)), by rw [List.length_replicate], by rw [List.length_replicate]; omega, fun H3 s3 => ?_⟩
    have s03 := s02.trans s3
    cases hk : muchN x with
    | some k =>
      rw [show lackN (List.replicate x.length 6) x 0 = some k from hk]
      refine ⟨_, rfl, _, rfl, iteT ⟨_, rfl, err_in fun dd hd => ?_⟩⟩
      exact q2 k hk _ dd (s03.trans (same_upd hd)) (s03.free hd) upd_same
    | none =>
      rw [show lackN (List.replicate x.length 6) x 0 = none from hk]
      exact ⟨_, rfl, _, rfl, iteF (q1 hk H3 s03)⟩

end
end Lb
set_option Elab.async false
set_option linter.all false
set_option maxRecDepth 100000
set_option maxHeartbeats 8000000
namespace Lb
open PySem PySem.Spec PyProof.Rows L2 RZ TL
section
variable {P : Program} {w : World} {K : PySem.W.Frag} {mg : Str → Option Value} {base : Heap}
theorem sc_Desk___init__ : FnScope ["self", "market", "stock", "error", "nothing"] ["self", "market", "stock"] (defScope s_Desk___init__) := ⟨rfl, rfl, rfl, by decide +kernel, rfl, by decide +kernel, by decide +kernel⟩
theorem own_dinit {C CB CD CM CT : Addr} (D : DfM K CD "__init__" "Desk.__init__" s_Desk___init__) (B : Blt mg) (BC : BagC K mg C) (T_BadMarket : Err1 P w K mg base "BadMarket" "error" CM) (T_BadBag : Err0 K mg "BadBag" CB) (O_desk_error : Own P w K mg base "desk_error" 5 ["market"] spDErr) (O_check_kind : OwnX P w K mg base "check_kind" 2 ["bag", "value"] (spCKind K C CB)) (O_check_room : OwnX P w K mg base "check_room" 4 ["bag"] (spCRoom C CT)) (M_init : OwnM P w K mg base C "__init__" 3 ["self", "amounts"] (spInit K C CB)) :
    OwnM P w K mg base CD "__init__" 6 ["self", "market", "stock"] (spDInit K C CB CM CT) := by
  refine ownM_of D sc_Desk___init__ (fun _ _ _ _ _ _ us hl => match us, hl with | [_, _, _], _ => rfl) (fun vs H Q E h => ?_) (fun f cdv A outer s H vs Q E hr h => ?_)
  · obtain ⟨_, _, _, _, _, _, _, rfl, _⟩ := h
    rfl
  · obtain ⟨x, dx, mv, sv, R, d, CX, rfl, dc, ex, dv, hw, new, q1, q2⟩ := h
    refine ⟨_, (pss_cons (ps_set (i := 3) sc_Desk___init__.nd rfl (.inl rfl) (pe_own O_desk_error (hr.mono (by omega)) (by rfl) (pa_cons (pv 1) pa_nil)))
      (pss_cons (ps_if (pt_cmp (pc_notN (pv 3))) (pss_one (ps_raise rfl (takes_of rfl rfl rfl rfl) (pmk_err T_BadMarket (hr.mono (by omega)) (by rfl) (pa_cons (pv 3) pa_nil)))) pss_nil)
      (pss_cons (ps_set (i := 4) sc_Desk___init__.nd rfl (.inl rfl) (pe_bagX BC M_init (hr.mono (by omega)) (passE (takes_of rfl rfl rfl rfl) (fun _ _ _ _ h => h)) (by rfl) (pa_cons (pe_op op_repA (pe_tup (pa_cons pe_int pa_nil)) (pe_ix ix_tup (pv 1) pe_int (fun _ _ => rfl))) pa_nil)))
      (pss_cons (ps_expr (pe_ownE O_check_kind (hr.mono (by omega)) (passE (takes_of rfl rfl rfl rfl) (fun _ _ _ _ h => h)) (by rfl) (pa_cons (pv 4) (pa_cons (pv 2) pa_nil))))
      (pss_cons (ps_expr (pe_ownE O_check_room (hr.mono (by omega)) (passE (takes_of rfl rfl rfl rfl) (fun _ _ _ _ h => h)) (by rfl) (pa_cons (pv 2) pa_nil)))
      (pss_cons (ps_fld (pv 0) (pv 1) rfl)
      (pss_cons (ps_fld (pv 0) (pv 2) rfl)
      (pss_cons (ps_fld (pv 0) (pv 4) rfl)
      (pss_one (ps_fld (pv 0) (pe_lst pa_nil) rfl)))))))))), ?_⟩
    -- error = desk_error(market)
    refine ⟨_, rfl, R, mv, d, rfl, dv, hw, new, fun H1 u s1 du => ?_⟩
    by_cases hd : dErr d = .none
    · rw [hd] at du
      obtain rfl := du.nonI
      refine ⟨_, rfl, _, rfl, iteF ?_⟩
      obtain ⟨g, ts, rfl, g1, g3, q2⟩ := q2 hd
      obtain ⟨am, w1, w2, rfl, ram, eam, dg, dts⟩ := Dat.pair dv
      obtain rfl := dg.intI
      -- nothing = Bag((0,) * market[0])
      refine ⟨(by show 1 ≤ sizeLine; decide), fun p2 z2 => ?_⟩
      have s2 := same_upd (o := .tup [V.int 0]) z2
      have e2 : upd H1 p2 (.tup [V.int 0]) p2 = some (.tup [V.int 0]) := upd_same
      generalize upd H1 p2 (.tup [V.int 0]) = H2 at s2 e2 ⊢
      refine ⟨_, rfl, am, _, _, _, rfl, rfl, tup_at0 ((s1.trans s2) _ _ eam), rfl, ?_⟩
      refine rd_rep0 (R := fun _ => True) e2 trivial (fun _ _ => trivial) (by omega) fun H3 p3 s3 _ e3 => ?_
      have nok : BgOk (List.replicate g (0 : Int)) := ⟨by rw [List.length_replicate]; exact g1, by rw [List.length_replicate]; omega, fun y hy => by rw [List.eq_of_mem_replicate hy]; omega⟩
      have no : ¬ mkB (bagD (List.replicate g (0 : Int))) = false := by rw [mkB_ok nok]; exact fun z => nomatch z
      refine ⟨_, rfl, .inl ⟨fun _ => True, _, Dat.mkBag trivial e3, by rw [List.length_map, List.length_replicate]; omega, fun _ H4 nb dn s4 f4 en => ?_, fun hm => absurd hm no⟩⟩
      have S4 := ((s1.trans s2).trans s3).trans s4
      have N4 : Bg C H4 nb p3 (List.replicate g (0 : Int)) := ⟨⟨dn, en⟩, s4 _ _ e3⟩
      -- check_kind(nothing, stock)
      refine ⟨_, rfl, _, rfl, nb, p3, _, sv, rfl, N4, ?_⟩
      rcases q2 with ⟨b, s', z, rfl, hb, zok, qn, qy⟩ | ⟨hn, qe⟩
      · refine .inl ⟨b, s', z, rfl, hb.same S4, zok, fun hl => ?_, fun hne H' sm => qn (by rw [List.length_replicate] at hne; exact hne) H' (S4.trans sm)⟩
        rw [List.length_replicate] at hl
        obtain ⟨qk, qo⟩ := qy hl
        -- check_room(stock)
        refine ⟨_, rfl, b, s', z, rfl, hb.same S4, zok.four, fun hm H5 s5 => ?_, fun k hk H' dd sm nd ed => qk k hk H' dd (S4.trans sm) (S4.free nd) ed⟩
        have S5 := S4.trans s5
        refine ⟨_, rfl, _, rfl, x, CX, dx, _, rfl, S5 _ _ ex, dc.cl, dc.n1, (by decide), ?_⟩
        refine ⟨_, rfl, _, rfl, x, CX, dx, _, rfl, upd_same, dc.cl, dc.n2, (by show 1 < 1000; decide), ?_⟩
        refine ⟨_, rfl, _, rfl, x, CX, dx, _, rfl, upd_same, dc.cl, dc.n3, (by show 2 < 1000; decide), ?_⟩
        refine ⟨Nat.zero_le _, fun pl hpl => ?_⟩
        have hne : pl ≠ x := fun z => by rw [z, upd_same] at hpl; cases hpl
        have h5 : H5 pl = none := by rw [upd_ne hne, upd_ne hne, upd_ne hne] at hpl; exact hpl
        refine ⟨_, rfl, x, CX, dx, _, rfl, (by rw [upd_ne (Ne.symm hne)]; exact upd_same), dc.cl, dc.n4, (by show 3 < 1000; decide), ?_⟩
        have s6 := same_upd (o := .lst []) h5
        have fin := qo hm (upd H5 pl (.lst [])) nb p3 pl (S5.trans s6) (S5.free h5) ((N4.same s5).same s6) upd_same
        rw [upd_past hne]
        exact fin
      · exact .inr ⟨hn.same S4, fun H' sm => qe H' (S4.trans sm)⟩
    · have hu : u ≠ .non := isNV_dat du hd
      refine ⟨_, rfl, _, rfl, ?_⟩
      rw [decide_eq_false hu]
      refine iteT ⟨_, rfl, err_in fun dd hdd => ?_⟩
      exact q1 hd _ dd u (s1.trans (same_upd hdd)) (s1.free hdd) upd_same (du.same (same_upd hdd))

end
end Lb
set_option Elab.async false
set_option linter.all false
set_option maxRecDepth 100000
set_option maxHeartbeats 8000000
namespace Lb
open PySem PySem.Spec PyProof.Rows L2 RZ TL
section
variable {P : Program} {w : World} {K : PySem.W.Frag} {mg : Str → Option Value} {base : Heap}
theorem sc_CappedDesk___init__ : FnScope ["self", "market", "stock", "cap"] ["self", "market", "stock", "cap"] (defScope s_CappedDesk___init__) := ⟨rfl, rfl, rfl, by decide +kernel, rfl, by decide +kernel, by decide +kernel⟩
theorem own_cinit {C CB CC CD CM CT CV : Addr} (D : DfM K CC "__init__" "CappedDesk.__init__" s_CappedDesk___init__) (B : Blt mg) (gD : mg "Desk" = some (.ref CD)) (T_BadTimes : Err1 P w K mg base "BadTimes" "value" CV) (O_is_whole : Own P w K mg base "is_whole" 1 ["value"] (spWholeX K)) (O_di : CFunO P w K mg base CD "__init__" 6 (spDInit K C CB CM CT)) :
    OwnM P w K mg base CC "__init__" 7 ["self", "market", "stock", "cap"] (spCInit K C CB CM CT CV) := by
  refine ownM_of D sc_CappedDesk___init__ (fun _ _ _ _ _ _ us hl => match us, hl with | [_, _, _, _], _ => rfl) (fun vs H Q E h => ?_) (fun f cdv A outer s H vs Q E hr h => ?_)
  · obtain ⟨_, _, _, _, _, _, _, _, _, rfl, _⟩ := h
    rfl
  · obtain ⟨x, dx, mv, sv, cv, R, d, CX, ok, rfl, dc, nm, ex, dv, hw, new, hcap, q1, q2⟩ := h
    refine ⟨_, (pss_cons (ps_expr (pe_cfun O_di (hr.mono (by omega)) (passE (takes_of rfl rfl rfl rfl) (fun _ _ _ _ h => h)) (pe_glob (v := .ref CD) (by rfl) gD rfl) (pa_cons (pv 0) (pa_cons (pv 1) (pa_cons (pv 2) pa_nil)))))
      (pss_cons (ps_if (PW.pt (pw_or (pt_not (pt_val (pe_own O_is_whole (hr.mono (by omega)) (by rfl) (pa_cons (pv 3) pa_nil)))) (pw_or1 (pt_cmpR op_lt (pv 3) pe_int (nomark _))))) (pss_one (ps_raise rfl (takes_of rfl rfl rfl rfl) (pmk_err T_BadTimes (hr.mono (by omega)) (by rfl) (pa_cons (pv 3) pa_nil)))) pss_nil)
      (pss_one (ps_fld (pv 0) (pv 3) rfl)))), ?_⟩
    refine ⟨rfl, _, rfl, _, rfl, _, rfl, x, dx, mv, sv, R, d, CX, rfl, dc, ex, dv, hw, new, q1, fun hd => ?_⟩
    obtain ⟨g, ts, ed, g1, g3, q2⟩ := q2 hd
    refine ⟨g, ts, ed, g1, g3, ?_⟩
    rcases q2 with ⟨b, s', z, rfl, hb, zok, qn, qy⟩ | ⟨hn, qe⟩
    · refine .inl ⟨b, s', z, rfl, hb, zok, qn, fun hl => ⟨(qy hl).1, fun hm H' ow to pl sm np bo ep => ?_⟩⟩
      obtain ⟨qf, qt⟩ := (qy hl).2 hm
      have sx : SameX x H (upd H' x (.ins CX dx (dskF mv (.ref b) (.ref ow) pl))) := (SameX.of sm).upd
      obtain ⟨ty, b1, b2, ht, k1, k2, hc⟩ := hcap _ sx
      have err : ok = false → ∀ dd, upd H' x (.ins CX dx (dskF mv (.ref b) (.ref ow) pl)) dd = none → E (.ref CV) (some dd) (upd (upd H' x (.ins CX dx (dskF mv (.ref b) (.ref ow) pl))) dd (.xd [("value", cv)])) := fun ho dd hdd => by
        have hne : dd ≠ x := fun z => by rw [z, upd_same] at hdd; cases hdd
        have h0 : H dd = none := sm.free (by rw [upd_ne hne] at hdd; exact hdd)
        refine qf ho _ dd (fun bb o hb e => ?_) h0 upd_same
        rw [upd_ne (ne_of_none e h0)]
        exact sx bb o hb e
      refine ⟨_, rfl, cv, ty, b1, b2, rfl, ht, k1, k2, _, rfl, ?_⟩
      rcases hc with ⟨ho, hf⟩ | ⟨ht', n, rfl, ho⟩
      · rw [hf]
        exact iteT (iteT ⟨_, rfl, err_in (err ho)⟩)
      · rw [ht']
        refine iteF ?_
        refine ⟨_, rfl, _, _, rfl, rfl, _, rfl, ?_⟩
        by_cases h0 : n < 0
        · rw [decide_eq_true h0]
          exact iteT ⟨_, rfl, err_in (err (by rw [ho]; exact decide_eq_false (by omega)))⟩
        · rw [decide_eq_false h0]
          refine iteF ⟨_, rfl, _, rfl, x, CX, dx, _, rfl, upd_same, dc.cl, nm, (by show 4 < 1000; decide), ?_⟩
          rw [upd_upd]
          exact qt (by rw [ho]; exact decide_eq_true (by omega)) H' ow to pl sm np bo ep
    · exact .inr ⟨hn, qe⟩

end
end Lb
set_option Elab.async false
set_option linter.all false
set_option maxRecDepth 100000
set_option maxHeartbeats 8000000
namespace Lb
open PySem PySem.Spec PyProof.Rows L2 RZ TL
section
variable {P : Program} {w : World} {K : PySem.W.Frag} {mg : Str → Option Value} {base : Heap}
theorem sc__law_small : FnScope ["_law_deck_here"] ["_law_deck_here"] (defScope s__law_small) := ⟨rfl, rfl, rfl, by decide +kernel, rfl, by decide +kernel, by decide +kernel⟩
theorem own_small (D : Df K mg "_law_small" s__law_small) (B : Blt mg) (O__law_draw : Own P w K mg base "_law_draw" 1 ["_law_deck_here", "_law_many"] spDraw) (O__law_market : Own P w K mg base "_law_market" 4 ["_law_deck_here", "_law_goods", "_law_trades", "_law_most"] spMarket) :
    Own P w K mg base "_law_small" 5 ["_law_deck_here"] spSmall := by
  refine own_of D sc__law_small (fun _ _ _ _ _ _ us hl => match us, hl with | [_], _ => rfl) (fun vs H Q E h => ?_) (fun f cdv A outer s H vs Q E hr h => ?_)
  · obtain ⟨_, _, _, _, _, rfl, _⟩ := h
    rfl
  · obtain ⟨R, d, c, r, n, rfl, dk, hn, rg, q⟩ := h
    refine ⟨_, (pss_cons (ps_if (pt_cmpR op_gt (pe_own O__law_draw (hr.mono (by omega)) (by rfl) (pa_cons (pv 0) (pa_cons pe_int pa_nil))) pe_int (nomark _)) (pss_one (ps_ret (pe_own O__law_market (hr.mono (by omega)) (by rfl) (pa_cons (pv 0) (pa_cons pe_int (pa_cons pe_int (pa_cons pe_int pa_nil))))))) pss_nil)
      (pss_one (ps_ret (pe_ifExp (pt_cmpR op_eq (pe_own O__law_draw (hr.mono (by omega)) (by rfl) (pa_cons (pv 0) (pa_cons pe_int pa_nil))) pe_int (nomark _)) (pe_own O__law_market (hr.mono (by omega)) (by rfl) (pa_cons (pv 0) (pa_cons pe_int (pa_cons pe_int (pa_cons pe_int pa_nil))))) (pe_own O__law_market (hr.mono (by omega)) (by rfl) (pa_cons (pv 0) (pa_cons pe_int (pa_cons pe_int (pa_cons pe_int pa_nil))))))))), ?_⟩
    refine ⟨_, rfl, d, c, r, n, 3, rfl, dk, by omega, by omega, by omega, fun H1 v hv dk1 k1 => ?_⟩
    have rg1 := rg.kp k1 dk1
    refine ⟨_, _, rfl, rfl, _, rfl, ite2 (fun _ => ?_) (fun _ => ?_)⟩
    · refine ⟨_, rfl, R, d, c, r, n + 1, 2, 3, 3, rfl, dk1, by omega, by omega, by omega, by omega, by omega, rg1, fun H' u ts hl ok dt dk' k' => ?_⟩
      exact q H' u 2 ts ⟨by omega, by omega, by omega, fun t ht => ⟨(ok t ht).1.mono (by omega), (ok t ht).2.mono (by omega)⟩⟩ (by omega) hl dt (dk'.mono (by omega)) (k1.trans k')
    · refine ⟨_, rfl, d, c, r, n + 1, 3, rfl, dk1, by omega, by omega, by omega, fun H2 v2 hv2 dk2 k2 => ?_⟩
      have rg2 := rg1.kp k2 dk2
      refine ⟨rfl, _, rfl, ite2 (fun _ => ?_) (fun _ => ?_)⟩
      · refine ⟨_, rfl, R, d, c, r, n + 1 + 1, 1, 2, 4, rfl, dk2, by omega, by omega, by omega, by omega, by omega, rg2, fun H' u ts hl ok dt dk' k' => ?_⟩
        exact q H' u 1 ts ⟨by omega, by omega, by omega, ok⟩ (by omega) (by omega) dt (dk'.mono (by omega)) ((k1.trans k2).trans k')
      · refine ⟨_, rfl, R, d, c, r, n + 1 + 1, 3, 2, 3, rfl, dk2, by omega, by omega, by omega, by omega, by omega, rg2, fun H' u ts hl ok dt dk' k' => ?_⟩
        exact q H' u 3 ts ⟨by omega, by omega, by omega, fun t ht => ⟨(ok t ht).1.mono (by omega), (ok t ht).2.mono (by omega)⟩⟩ (by omega) (by omega) dt (dk'.mono (by omega)) ((k1.trans k2).trans k')

end
end Lb
set_option Elab.async false
set_option linter.all false
set_option maxRecDepth 100000
set_option maxHeartbeats 8000000
namespace Lb
open PySem PySem.Spec PyProof.Rows L2 RZ TL
section
variable {P : Program} {w : World} {K : PySem.W.Frag} {mg : Str → Option Value} {base : Heap}
theorem sc_Desk___len__ : FnScope ["self"] ["self"] (defScope s_Desk___len__) := ⟨rfl, rfl, rfl, by decide +kernel, rfl, by decide +kernel, by decide +kernel⟩
theorem own_dlen {CD : Addr} (D : DfM K CD "__len__" "Desk.__len__" s_Desk___len__) (B : Blt mg) : OwnM P w K mg base CD "__len__" 1 ["self"] (spDLen K) := by
  refine ownM_of D sc_Desk___len__ (fun _ _ _ _ _ _ us hl => match us, hl with | [_], _ => rfl) (fun vs H Q E h => ?_) (fun f cdv A outer s H vs Q E hr h => ?_)
  · obtain ⟨_, _, _, _, _, rfl, _⟩ := h
    rfl
  · obtain ⟨a, C, dx, fs, l, rfl, ea, dc, hl, xs, el, q⟩ := h
    refine ⟨_, (pss_one (ps_ret (pe_callB (id := "len") call_len_seq (by rfl) B.b_len PySem.boot_len (pa_cons (pe_fld (pv 0) rfl) pa_nil)))), ?_⟩
    refine ⟨_, rfl, a, C, dx, _, _, rfl, ea, dc.cl, dc.n4, hl, ?_⟩
    exact ⟨l, _, rfl, .inl (SqL.of el), q⟩

end
end Lb
set_option Elab.async false
set_option linter.all false
set_option maxRecDepth 100000
set_option maxHeartbeats 8000000
namespace Lb
open PySem PySem.Spec PyProof.Rows L2 RZ TL
section
variable {P : Program} {w : World} {K : PySem.W.Frag} {mg : Str → Option Value} {base : Heap}
theorem sc_Desk_market : FnScope ["self"] ["self"] (defScope s_Desk_market) := ⟨rfl, rfl, rfl, by decide +kernel, rfl, by decide +kernel, by decide +kernel⟩
theorem own_dmarket {C p g : Addr} {fd : FuncData} (F : Fun K "market" "Desk.market" s_Desk_market g fd) (hp : PropOf K C "market" p g) : PropM P w K mg base C "market" 1 (spFldV K "place") := by
  refine ⟨p, g, fd, hp, F.okX sc_Desk_market (fun vs H Q E h => ?_) (fun cdv A outer s H vs Q E hr h => ?_), F.binds (fun _ _ _ _ _ _ us hl => match us, hl with | [_], _ => rfl)⟩
  · obtain ⟨_, _, _, _, _, rfl, _⟩ := h
    rfl
  · obtain ⟨a, C', dx, fs, v, rfl, ea, cl, no, hf, q⟩ := h
    refine ⟨_, (pss_one (ps_ret (pe_fld (pv 0) rfl))), ?_⟩
    exact ⟨_, rfl, a, C', dx, _, _, rfl, ea, cl, no, hf, q⟩

end
end Lb
set_option Elab.async false
set_option linter.all false
set_option maxRecDepth 100000
set_option maxHeartbeats 8000000
namespace Lb
open PySem PySem.Spec PyProof.Rows L2 RZ TL
section
variable {P : Program} {w : World} {K : PySem.W.Frag} {mg : Str → Option Value} {base : Heap}
theorem sc_Desk_stock : FnScope ["self"] ["self"] (defScope s_Desk_stock) := ⟨rfl, rfl, rfl, by decide +kernel, rfl, by decide +kernel, by decide +kernel⟩
theorem own_dstock {C p g : Addr} {fd : FuncData} (F : Fun K "stock" "Desk.stock" s_Desk_stock g fd) (hp : PropOf K C "stock" p g) : PropM P w K mg base C "stock" 1 (spFldV K "present") := by
  refine ⟨p, g, fd, hp, F.okX sc_Desk_stock (fun vs H Q E h => ?_) (fun cdv A outer s H vs Q E hr h => ?_), F.binds (fun _ _ _ _ _ _ us hl => match us, hl with | [_], _ => rfl)⟩
  · obtain ⟨_, _, _, _, _, rfl, _⟩ := h
    rfl
  · obtain ⟨a, C', dx, fs, v, rfl, ea, cl, no, hf, q⟩ := h
    refine ⟨_, (pss_one (ps_ret (pe_fld (pv 0) rfl))), ?_⟩
    exact ⟨_, rfl, a, C', dx, _, _, rfl, ea, cl, no, hf, q⟩

end
end Lb
set_option Elab.async false
set_option linter.all false
set_option maxRecDepth 100000
set_option maxHeartbeats 8000000
namespace Lb
open PySem PySem.Spec PyProof.Rows L2 RZ TL
section
variable {P : Program} {w : World} {K : PySem.W.Frag} {mg : Str → Option Value} {base : Heap}
theorem sc_Desk_debt : FnScope ["self"] ["self"] (defScope s_Desk_debt) := ⟨rfl, rfl, rfl, by decide +kernel, rfl, by decide +kernel, by decide +kernel⟩
theorem own_ddebt {C p g : Addr} {fd : FuncData} (F : Fun K "debt" "Desk.debt" s_Desk_debt g fd) (hp : PropOf K C "debt" p g) : PropM P w K mg base C "debt" 1 (spFldV K "owed") := by
  refine ⟨p, g, fd, hp, F.okX sc_Desk_debt (fun vs H Q E h => ?_) (fun cdv A outer s H vs Q E hr h => ?_), F.binds (fun _ _ _ _ _ _ us hl => match us, hl with | [_], _ => rfl)⟩
  · obtain ⟨_, _, _, _, _, rfl, _⟩ := h
    rfl
  · obtain ⟨a, C', dx, fs, v, rfl, ea, cl, no, hf, q⟩ := h
    refine ⟨_, (pss_one (ps_ret (pe_fld (pv 0) rfl))), ?_⟩
    exact ⟨_, rfl, a, C', dx, _, _, rfl, ea, cl, no, hf, q⟩

end
end Lb
set_option Elab.async false
set_option linter.all false
set_option maxRecDepth 100000
set_option maxHeartbeats 8000000
namespace Lb
open PySem PySem.Spec PyProof.Rows L2 RZ TL
section
variable {P : Program} {w : World} {K : PySem.W.Frag} {mg : Str → Option Value} {base : Heap}
theorem sc_CappedDesk_cap : FnScope ["self"] ["self"] (defScope s_CappedDesk_cap) := ⟨rfl, rfl, rfl, by decide +kernel, rfl, by decide +kernel, by decide +kernel⟩
theorem own_dcap {C p g : Addr} {fd : FuncData} (F : Fun K "cap" "CappedDesk.cap" s_CappedDesk_cap g fd) (hp : PropOf K C "cap" p g) : PropM P w K mg base C "cap" 1 (spFldV K "most") := by
  refine ⟨p, g, fd, hp, F.okX sc_CappedDesk_cap (fun vs H Q E h => ?_) (fun cdv A outer s H vs Q E hr h => ?_), F.binds (fun _ _ _ _ _ _ us hl => match us, hl with | [_], _ => rfl)⟩
  · obtain ⟨_, _, _, _, _, rfl, _⟩ := h
    rfl
  · obtain ⟨a, C', dx, fs, v, rfl, ea, cl, no, hf, q⟩ := h
    refine ⟨_, (pss_one (ps_ret (pe_fld (pv 0) rfl))), ?_⟩
    exact ⟨_, rfl, a, C', dx, _, _, rfl, ea, cl, no, hf, q⟩

end
end Lb
set_option Elab.async false
set_option linter.all false
set_option maxRecDepth 100000
set_option maxHeartbeats 8000000
namespace Lb
open PySem PySem.Spec PyProof.Rows L2 RZ TL
section
variable {P : Program} {w : World} {K : PySem.W.Frag} {mg : Str → Option Value} {base : Heap}
theorem sc_Desk_version : FnScope ["self"] ["self"] (defScope s_Desk_version) := ⟨rfl, rfl, rfl, by decide +kernel, rfl, by decide +kernel, by decide +kernel⟩
theorem own_dversion {C p g : Addr} {fd : FuncData} (F : Fun K "version" "Desk.version" s_Desk_version g fd) (hp : PropOf K C "version" p g) (B : Blt mg) : PropM P w K mg base C "version" 1 (spDLen K) := by
  refine ⟨p, g, fd, hp, F.okX sc_Desk_version (fun vs H Q E h => ?_) (fun cdv A outer s H vs Q E hr h => ?_), F.binds (fun _ _ _ _ _ _ us hl => match us, hl with | [_], _ => rfl)⟩
  · obtain ⟨_, _, _, _, _, rfl, _⟩ := h
    rfl
  · obtain ⟨a, C', dx, fs, l, rfl, ea, dc, hl, xs, el, q⟩ := h
    refine ⟨_, (pss_one (ps_ret (pe_callB (id := "len") call_len_seq (by rfl) B.b_len PySem.boot_len (pa_cons (pe_fld (pv 0) rfl) pa_nil)))), ?_⟩
    refine ⟨_, rfl, a, C', dx, _, _, rfl, ea, dc.cl, dc.n4, hl, ?_⟩
    exact ⟨l, _, rfl, .inl (SqL.of el), q⟩

end
end Lb
set_option Elab.async false
set_option linter.all false
set_option maxRecDepth 100000
set_option maxHeartbeats 8000000
namespace Lb
open PySem PySem.Spec PyProof.Rows L2 RZ TL
section
variable {P : Program} {w : World} {K : PySem.W.Frag} {mg : Str → Option Value} {base : Heap}
theorem sc_Desk_settled : FnScope ["self"] ["self"] (defScope s_Desk_settled) := ⟨rfl, rfl, rfl, by decide +kernel, rfl, by decide +kernel, by decide +kernel⟩
theorem own_dsettled {C C' p g : Addr} {fd : FuncData} (F : Fun K "settled" "Desk.settled" s_Desk_settled g fd) (hp : PropOf K C' "settled" p g) (B : Blt mg) (BC : BagC K mg C) (M_amounts : PropM P w K mg base C "amounts" 1 (spAmt C)) : PropM P w K mg base C' "settled" 4 (spSettled K C) := by
  refine ⟨p, g, fd, hp, F.okX sc_Desk_settled (fun vs H Q E h => ?_) (fun cdv A outer s H vs Q E hr h => ?_), F.binds (fun _ _ _ _ _ _ us hl => match us, hl with | [_], _ => rfl)⟩
  · obtain ⟨_, _, _, _, _, _, _, rfl, _⟩ := h
    rfl
  · obtain ⟨a, CX, dx, fs, b, t, x, rfl, ea, dc, hl, hb, q⟩ := h
    refine ⟨_, (pss_one (ps_ret (pe_cmpR op_eq (pe_callB (id := "sum") (cr_sumT rfl) (by rfl) B.b_sum (by decide +kernel) (pa_cons (pe_amt BC M_amounts (hr.mono (by omega)) (pe_fld (pv 0) rfl)) pa_nil)) pe_int (nomark _)))), ?_⟩
    refine ⟨_, rfl, a, CX, dx, _, _, rfl, ea, dc.cl, dc.n3, hl, rd_amt hb ?_⟩
    refine ⟨t, x, rfl, .inl (.inl hb.tup), rfl, ?_⟩
    have e : decide (V.int x.sum = V.int 0) = decide (x.sum = 0) := by
      by_cases h : x.sum = 0
      · rw [h, decide_eq_true rfl, decide_eq_true rfl]
      · rw [decide_eq_false h, decide_eq_false fun z => h (V.int.inj z)]
    rw [e]
    exact q

end
end Lb
set_option Elab.async false
set_option linter.all false
set_option maxRecDepth 100000
set_option maxHeartbeats 8000000
namespace Lb
open PySem PySem.Spec PyProof.Rows L2 RZ TL
section
variable {P : Program} {w : World} {K : PySem.W.Frag} {mg : Str → Option Value} {base : Heap}
theorem sc_Bag___eq__ : FnScope ["self", "other"] ["self", "other"] (defScope s_Bag___eq__) := ⟨rfl, rfl, rfl, by decide +kernel, rfl, by decide +kernel, by decide +kernel⟩
theorem own_beq {C : Addr} (D : DfM K C "__eq__" "Bag.__eq__" s_Bag___eq__) (B : Blt mg) (BC : BagC K mg C) : OwnM P w K mg base C "__eq__" 6 ["self", "other"] (spEq K C) := by
  refine ownM_of D sc_Bag___eq__ (fun _ _ _ _ _ _ us hl => match us, hl with | [_, _], _ => rfl) (fun vs H Q E h => ?_) (fun f cdv A outer s H vs Q E hr h => ?_)
  · obtain ⟨_, _, _, _, rfl, _⟩ := h
    rfl
  · obtain ⟨a, t, x, y, rfl, ⟨⟨dx, ea⟩, et⟩, xok, q⟩ := h
    refine ⟨_, (pss_one (ps_ret (pe_and (pe_callB (id := "isinstance") call_isi (by rfl) B.b_isinstance (by decide +kernel) (pa_cons (pv 1) (pa_cons (pe_glob (v := .ref C) (by rfl) BC.gB rfl) pa_nil))) (pe_one (pe_cmpR (op_eqD hr.units) (pe_fld (pv 0) rfl) (pe_fld (pv 1) rfl) (nomark _)))))), ?_⟩
    rcases q with ⟨b, s', z, rfl, ⟨⟨dy, eb⟩, es⟩, zok, q⟩ | ⟨⟨ty, ht, hk⟩, q⟩
    · refine ⟨_, rfl, _, _, _, _, _, rfl, .own C, BC.ty eb, BC.ks, _, rfl, iteT ?_⟩
      refine ⟨_, rfl, a, C, dx, _, _, rfl, ea, BC.cl, BC.no, rfl, _, rfl, b, C, dy, _, _, rfl, eb, BC.cl, BC.no, rfl, bagD x, bagD z, dp_bag et, dp_bag es, shaped_bag x, shaped_bag z, ?_⟩
      rw [eqv_bag]
      exact q
    · exact ⟨_, rfl, _, _, _, _, _, rfl, .own C, ht, hk, _, rfl, iteF q⟩

end
end Lb
set_option Elab.async false
set_option linter.all false
set_option maxRecDepth 100000
set_option maxHeartbeats 8000000
namespace Lb
open PySem PySem.Spec PyProof.Rows L2 RZ TL
section
variable {P : Program} {w : World} {K : PySem.W.Frag} {mg : Str → Option Value} {base : Heap}
theorem sc_Desk___eq__ : FnScope ["self", "other"] ["self", "other"] (defScope s_Desk___eq__) := ⟨rfl, rfl, rfl, by decide +kernel, rfl, by decide +kernel, by decide +kernel⟩
theorem own_deq {C CD CC : Addr} (D : DfM K CC "__eq__" "Desk.__eq__" s_Desk___eq__) (B : Blt mg) (gD : mg "Desk" = some (.ref CD)) (M_eq : OwnM P w K mg base C "__eq__" 6 ["self", "other"] (spEq K C)) : OwnM P w K mg base CC "__eq__" 8 ["self", "other"] (spDEq K C CD) := by
  refine ownM_of D sc_Desk___eq__ (fun _ _ _ _ _ _ us hl => match us, hl with | [_, _], _ => rfl) (fun vs H Q E h => ?_) (fun f cdv A outer s H vs Q E hr h => ?_)
  · obtain ⟨_, _, _, _, _, rfl, _⟩ := h
    rfl
  · obtain ⟨a, mv, x, o, y, rfl, da, xok, ook, h⟩ := h
    refine ⟨_, (pss_cons (ps_if (pt_not (pt_val (pe_callB (id := "isinstance") call_isi (by rfl) B.b_isinstance (by decide +kernel) (pa_cons (pv 1) (pa_cons (pe_glob (v := .ref CD) (by rfl) gD rfl) pa_nil))))) (pss_one (ps_ret pe_bl)) pss_nil)
      (pss_one (ps_ret (pe_and (pe_cmpR (op_eqD hr.units) (pe_fld (pv 0) rfl) (pe_fld (pv 1) rfl) (nomark _)) (pe_and (pe_cmpR (op_eqM M_eq (hr.mono (by omega)) passX0) (pe_fld (pv 0) rfl) (pe_fld (pv 1) rfl) (nomark _)) (pe_one (pe_cmpR (op_eqM M_eq (hr.mono (by omega)) passX0) (pe_fld (pv 0) rfl) (pe_fld (pv 1) rfl) (nomark _)))))))), ?_⟩
    rcases h with ⟨ty, ht, hk, q⟩ | ⟨b, mw, x', o', d, d', rfl, db, xok', ook', dp1, dp2, sh1, sh2, q⟩
    · exact ⟨_, rfl, _, _, _, _, _, rfl, .own _, ht, hk, _, rfl, iteT q⟩
    · obtain ⟨CX, dx, fs, b1, s1, p1, q1, dt, ea, f1, f2, f3, B1, O1⟩ := da.ex
      obtain ⟨CY, dy, gs, b2, s2, p2, q2, dt', eb, g1, g2, g3, B2, O2⟩ := db.ex
      refine ⟨_, rfl, _, _, _, _, _, rfl, .own _, dt'.ty eb, dt'.ki, _, rfl, iteF ?_⟩
      refine ⟨_, rfl, a, CX, dx, _, _, rfl, ea, dt.dc.cl, dt.dc.n1, f1, _, rfl, b, CY, dy, _, _, rfl, eb, dt'.dc.cl, dt'.dc.n1, g1, d, d', dp1, dp2, sh1, sh2, _, rfl, ?_⟩
      cases hv : PyData.eqv d d' with
      | false =>
        rw [hv, Bool.false_and] at q
        exact iteF q
      | true =>
        rw [hv, Bool.true_and] at q
        refine iteT ?_
        refine ⟨_, rfl, a, CX, dx, _, _, rfl, ea, dt.dc.cl, dt.dc.n2, f2, _, rfl, b, CY, dy, _, _, rfl, eb, dt'.dc.cl, dt'.dc.n2, g2, rd_eq B1 B2 xok xok' ⟨_, rfl, ?_⟩⟩
        by_cases hx : x = x'
        · rw [decide_eq_true hx, Bool.true_and] at q
          rw [decide_eq_true hx]
          refine iteT ?_
          exact ⟨_, rfl, a, CX, dx, _, _, rfl, ea, dt.dc.cl, dt.dc.n3, f3, _, rfl, b, CY, dy, _, _, rfl, eb, dt'.dc.cl, dt'.dc.n3, g3, rd_eq O1 O2 ook ook' q⟩
        · rw [decide_eq_false hx, Bool.false_and] at q
          rw [decide_eq_false hx]
          exact iteF q

end
end Lb
set_option Elab.async false
set_option linter.all false
set_option maxRecDepth 100000
set_option maxHeartbeats 8000000
namespace Lb
open PySem PySem.Spec PyProof.Rows L2 RZ TL
section
variable {P : Program} {w : World} {K : PySem.W.Frag} {mg : Str → Option Value} {base : Heap}
theorem sc_BadMarket___init__ : FnScope ["self", "error"] ["self", "error"] (defScope s_BadMarket___init__) := ⟨rfl, rfl, rfl, by decide +kernel, rfl, by decide +kernel, by decide +kernel⟩
theorem ini_badmarket {C f : Addr} {fd : FuncData} (F : Fun K "__init__" "BadMarket.__init__" s_BadMarket___init__ f fd) (ox : OexC K C) (no : PySem.W.findIn K (.ref C) "error" = some none) : FnOk P w K mg base CX0 1 f fd ["self", "error"] (spIni C "error") := by
  refine F.ok sc_BadMarket___init__ (fun vs H Q E h => ?_) (fun cdv A outer s H vs Q E hr h => ?_)
  · obtain ⟨_, _, rfl, _⟩ := h
    rfl
  · obtain ⟨a, v, rfl, ea, q⟩ := h
    refine ⟨_, (pss_one (ps_ost (pv 0) (pv 1))), ?_⟩
    exact ⟨_, rfl, _, rfl, a, C, rfl, ox, no, .inl ⟨ea, fun dx n ne => q dx n ne⟩⟩

end
end Lb
set_option Elab.async false
set_option linter.all false
set_option maxRecDepth 100000
set_option maxHeartbeats 8000000
namespace Lb
open PySem PySem.Spec PyProof.Rows L2 RZ TL
section
variable {P : Program} {w : World} {K : PySem.W.Frag} {mg : Str → Option Value} {base : Heap}
theorem sc_TooMuch___init__ : FnScope ["self", "good"] ["self", "good"] (defScope s_TooMuch___init__) := ⟨rfl, rfl, rfl, by decide +kernel, rfl, by decide +kernel, by decide +kernel⟩
theorem ini_toomuch {C f : Addr} {fd : FuncData} (F : Fun K "__init__" "TooMuch.__init__" s_TooMuch___init__ f fd) (ox : OexC K C) (no : PySem.W.findIn K (.ref C) "good" = some none) : FnOk P w K mg base CX0 1 f fd ["self", "good"] (spIni C "good") := by
  refine F.ok sc_TooMuch___init__ (fun vs H Q E h => ?_) (fun cdv A outer s H vs Q E hr h => ?_)
  · obtain ⟨_, _, rfl, _⟩ := h
    rfl
  · obtain ⟨a, v, rfl, ea, q⟩ := h
    refine ⟨_, (pss_one (ps_ost (pv 0) (pv 1))), ?_⟩
    exact ⟨_, rfl, _, rfl, a, C, rfl, ox, no, .inl ⟨ea, fun dx n ne => q dx n ne⟩⟩

end
end Lb
set_option Elab.async false
set_option linter.all false
set_option maxRecDepth 100000
set_option maxHeartbeats 8000000
namespace Lb
open PySem PySem.Spec PyProof.Rows L2 RZ TL
section
variable {P : Program} {w : World} {K : PySem.W.Frag} {mg : Str → Option Value} {base : Heap}
theorem sc_BadTimes___init__ : FnScope ["self", "value"] ["self", "value"] (defScope s_BadTimes___init__) := ⟨rfl, rfl, rfl, by decide +kernel, rfl, by decide +kernel, by decide +kernel⟩
theorem ini_badtimes {C f : Addr} {fd : FuncData} (F : Fun K "__init__" "BadTimes.__init__" s_BadTimes___init__ f fd) (ox : OexC K C) (no : PySem.W.findIn K (.ref C) "value" = some none) : FnOk P w K mg base CX0 1 f fd ["self", "value"] (spIni C "value") := by
  refine F.ok sc_BadTimes___init__ (fun vs H Q E h => ?_) (fun cdv A outer s H vs Q E hr h => ?_)
  · obtain ⟨_, _, rfl, _⟩ := h
    rfl
  · obtain ⟨a, v, rfl, ea, q⟩ := h
    refine ⟨_, (pss_one (ps_ost (pv 0) (pv 1))), ?_⟩
    exact ⟨_, rfl, _, rfl, a, C, rfl, ox, no, .inl ⟨ea, fun dx n ne => q dx n ne⟩⟩

end
end Lb
set_option Elab.async false
set_option linter.all false
set_option maxRecDepth 100000
set_option maxHeartbeats 8000000
namespace Lb
open PySem PySem.Spec PyProof.Rows L2 RZ TL
section
variable {P : Program} {w : World} {K : PySem.W.Frag} {mg : Str → Option Value} {base : Heap}
theorem sc__law_made : FnScope ["_law_call", "e"] ["_law_call"] (defScope s__law_made) := ⟨rfl, rfl, rfl, by decide +kernel, rfl, by decide +kernel, by decide +kernel⟩
theorem gives_made {X : Cx} {g CM CB CT CV : Addr} {cdg : Value} {q : Str} (DD : Dist X.K [(CM, "market", some "error"), (CB, "bag", none), (CT, "much", some "good"), (CV, "times", some "value")])
    (T1 : Err1 X.prog X.w X.K X.mg X.base "BadMarket" "error" CM) (T2 : Err0 X.K X.mg "BadBag" CB) (T3 : Err1 X.prog X.w X.K X.mg X.base "TooMuch" "good" CT) (T4 : Err1 X.prog X.w X.K X.mg X.base "BadTimes" "value" CV) :
    LamX.GivesTo X ["_law_call", "e"] "_law_made" (defScope s__law_made) g cdg (defBody s__law_made) "_law_call" q (TMade [(CM, "market", some "error"), (CB, "bag", none), (CT, "much", some "good"), (CV, "times", some "value")]) := by
  intro f c' s H Q tl act hc h
  refine ⟨_, pss_one (ps_try_hds (X := (cxOf C8.CX0 X.prog X.w X.K X.mg X.base ["_law_call", "e"] "_law_made" (defScope s__law_made) g cdg X.A X.stack s H C8.E0).nox)
      (w := clW X.K [(CM, "market", some "error"), (CB, "bag", none), (CT, "much", some "good"), (CV, "times", some "value")])
      (tb := fun W D σ H => ∃ Ech : XK, (∀ cls d (σ' : L2.St) H', Ech cls d H' → σ'.length = 2 → W cls d σ' H') ∧ σ[0]? = some (some (.ref f)) ∧ H c' = some (LamX.CodeO c' q) ∧ tl Ech H (fun v H' => [V.str "ok", v].length ≤ sizeLine ∧ ∀ p, H' p = none → D.rt (.ref p) (upd H' p (.lst [.str "ok", v]))))
      rfl rfl (fun W pn xe tk _ => ?_)
      (hds_as sc__law_made.nd rfl rfl ⟨by rfl, by decide, .inl T1.gC⟩ (fun a ob cls d pn hz hf => pss_imp (pss_one (ps_ret (pe_lst (pa_cons pe_str (pa_cons (pe_xf T1.xf T1.no hz hf (pv 1)) pa_nil))))) ?s1)
        (hds_cons ⟨by rfl, by decide, .inl T2.gC⟩ (fun a ob cls d pn hz hf => pss_imp (pss_one (ps_ret (pe_lst (pa_cons pe_str pa_nil)))) ?s2)
          (hds_as sc__law_made.nd rfl rfl ⟨by rfl, by decide, .inl T3.gC⟩ (fun a ob cls d pn hz hf => pss_imp (pss_one (ps_ret (pe_lst (pa_cons pe_str (pa_cons (pe_xf T3.xf T3.no hz hf (pv 1)) pa_nil))))) ?s3)
            (hds_as sc__law_made.nd rfl rfl ⟨by rfl, by decide, .inl T4.gC⟩ (fun a ob cls d pn hz hf => pss_imp (pss_one (ps_ret (pe_lst (pa_cons pe_str (pa_cons (pe_xf T4.xf T4.no hz hf (pv 1)) pa_nil))))) ?s4)
              (hds_nil L2.takes0)))))), ?_⟩
  case s1 => 
    rintro D σ H' ⟨rfl, h1, dd, v, rfl, e, hp⟩
    exact ⟨_, h1 rfl, rfl, rfl, dd, _, v, rfl, e, rfl, (by show 2 ≤ sizeLine; decide), fun p z => hp p z⟩
  case s2 => 
    rintro D σ H' ⟨rfl, _, hp⟩
    exact ⟨(by show 1 ≤ sizeLine; decide), fun p z => hp p z⟩
  case s3 => 
    rintro D σ H' ⟨rfl, h1, dd, v, rfl, e, hp⟩
    exact ⟨_, h1 rfl, rfl, rfl, dd, _, v, rfl, e, rfl, (by show 2 ≤ sizeLine; decide), fun p z => hp p z⟩
  case s4 => 
    rintro D σ H' ⟨rfl, h1, dd, v, rfl, e, hp⟩
    exact ⟨_, h1 rfl, rfl, rfl, dd, _, v, rfl, e, rfl, (by show 2 ≤ sizeLine; decide), fun p z => hp p z⟩
  · refine ⟨fun pins s' σ H' D I h' => ?_⟩
    obtain ⟨Ech, hW, h1, h2, h3⟩ := h'
    have hp := fun p1 p2 => act (fun c d σ H => σ.length = 2 → W c d σ H) pn xe Ech p1 p2 (takes_len tk) (fun cls d σ' H' he hl => hW cls d σ' H' he hl)
    exact PSs.run (pss_one (ps_ret (pe_lst (pa_cons pe_str (pa_cons (hp _ _) pa_nil))))) pins s' σ H' D I ⟨h1, h2, h3⟩
  · exact ⟨clE _ Q, fun cls d σ' H' he hl => clW_in (D := ⟨_, Q, _, _⟩) DD he hl, rfl, hc, h⟩

end
end Lb
set_option Elab.async false
set_option linter.all false
set_option maxRecDepth 100000
set_option maxHeartbeats 8000000
namespace Lb
open PySem PySem.Spec PyProof.Rows L2 RZ TL
section
variable {P : Program} {w : World} {K : PySem.W.Frag} {mg : Str → Option Value} {base : Heap}
theorem sc_Bag___str__ : FnScope ["self", "amount"] ["self"] (defScope s_Bag___str__) := ⟨rfl, rfl, rfl, by decide +kernel, rfl, by decide +kernel, by decide +kernel⟩
theorem own_bstr {C : Addr} (D : DfM K C "__str__" "Bag.__str__" s_Bag___str__) (B : Blt mg) (BC : BagC K mg C) : OwnM P w K mg base C "__str__" 1 ["self"] (spStr C) := by
  refine ownM_of D sc_Bag___str__ (fun _ _ _ _ _ _ us hl => match us, hl with | [_], _ => rfl) (fun vs H Q E h => ?_) (fun f cdv A outer s H vs Q E hr h => ?_)
  · obtain ⟨_, _, _, rfl, _⟩ := h
    rfl
  · obtain ⟨a, t, x, rfl, ⟨⟨dx, ea⟩, et⟩, x4, aw, q⟩ := h
    refine ⟨_, (pss_one (ps_ret (pe_joinK pe_str (pe_lc (own := [("amount", 1)]) (g := gName 1) (tt := tYes) rfl sc_Bag___str__.nd (pi_tup (pe_fld (pv 0) rfl)) (blkOk_by (own := [("amount", 1)]) (N := ["self", "amount"]) (sc := defScope s_Bag___str__) (by decide +kernel)) (fun _ _ _ _ _ => (pg_name (i := 1) sc_Bag___str__.nd rfl (.inl rfl))) (fun _ _ _ _ _ => pts_nil) (fun _ _ _ _ _ => (pe_callTy (T := "str") call_str_int (by rfl) B.b_str (by decide +kernel) (pa_cons (pv 1) pa_nil))))))), ?_⟩
    refine ⟨⟨_, rfl⟩, _, rfl, a, C, dx, _, _, rfl, ea, BC.cl, BC.no, rfl, t, rfl, ⟨_, .inl (.inl et)⟩, fun M hM => ?_⟩
    refine lc_tup (K := K) (a := t) (xs := x.map V.int) (fun j H2 => Same H H2 ∧ H2 M = some (.lst (((wordsB x).take j).map V.str))) ⟨same_upd hM, upd_same⟩ (fun j H2 _ hP => .inl (.inl (hP.1 _ _ et))) ?_ ?_
    · rintro j z H2 hz ⟨sm2, eM⟩
      obtain ⟨n, rfl, hn⟩ := int_at hz
      have an := aw n (List.mem_of_getElem? hn)
      refine ⟨rfl, all_in ?_⟩
      refine ⟨_, rfl, n, rfl, num_logW an.1 an.2, _, eM, ?_, ?_, ?_⟩
      · rw [List.length_map, List.length_take]
        refine small1000 (Nat.le_trans (Nat.min_le_right _ _) ?_)
        unfold wordsB
        rw [List.length_map]
        omega
      · intro c o e
        rw [upd_ne (ne_of_none e hM)]
        exact sm2 _ _ e
      · rw [upd_same]
        unfold wordsB
        rw [← List.map_take, ← List.map_take, take_map hn, List.map_append]
        rfl
    · rintro H2 ⟨sm2, eM⟩
      have ew : (wordsB x).take (x.map V.int).length = wordsB x := List.take_of_length_le (by unfold wordsB; rw [List.length_map, List.length_map]; exact Nat.le_refl _)
      rw [ew] at eM
      have wl : (wordsB x).length = x.length := by
        unfold wordsB
        rw [List.length_map]
      refine ⟨_, M, wordsB x, rfl, rfl, .inl (SqL.of eM), ?_, q H2 sm2⟩
      have h1 := words_sumW aw
      have h2 : (" " : Str).length = 1 := by decide +kernel
      rw [h2, wl]
      omega

end
end Lb
set_option Elab.async false
set_option linter.all false
set_option maxRecDepth 100000
set_option maxHeartbeats 8000000
namespace Lb
open PySem PySem.Spec PyProof.Rows L2 RZ TL
section
variable {P : Program} {w : World} {K : PySem.W.Frag} {mg : Str → Option Value} {base : Heap}
theorem sc_Desk_balance : FnScope ["self"] ["self"] (defScope s_Desk_balance) := ⟨rfl, rfl, rfl, by decide +kernel, rfl, by decide +kernel, by decide +kernel⟩
theorem own_bal {C C' : Addr} (D : DfM K C' "balance" "Desk.balance" s_Desk_balance) (B : Blt mg) (fB : PySem.W.findIn K (.ref C) "__format__" = some (some (.builtin "object.__format__"))) (mB : PySem.W.mroIn K C (.type "object") = some true) (M_str : OwnM P w K mg base C "__str__" 1 ["self"] (spStr C)) : OwnM P w K mg base C' "balance" 3 ["self"] (spBal K C) := by
  refine ownM_of D sc_Desk_balance (fun _ _ _ _ _ _ us hl => match us, hl with | [_], _ => rfl) (fun vs H Q E h => ?_) (fun f cdv A outer s H vs Q E hr h => ?_)
  · obtain ⟨_, _, _, _, _, _, _, _, _, _, rfl, _⟩ := h
    rfl
  · obtain ⟨a, CX, dx, fs, b, t, p, q, x, o, rfl, ea, dc, _, hp, ho, bx, bo, x4, ax, o4, ao, fin⟩ := h
    refine ⟨_, (pss_one (ps_ret (pe_joined (PJ.cons (pe_fmtO M_str fB mB (hr.mono (by omega)) passX0 (pe_fld (pv 0) rfl)) (PJ.cons pe_str (PJ.cons (pe_fmtO M_str fB mB (hr.mono (by omega)) passX0 (pe_fld (pv 0) rfl)) PJ.nil)))))), ?_⟩
    obtain ⟨db, eb⟩ := bx.ins
    obtain ⟨dp, ep⟩ := bo.ins
    have l1 := bagS_len ax x4
    have l2 := bal_len ax x4 ao o4
    have l3 : (" owes " : Str).length = 6 := by decide +kernel
    refine ⟨_, rfl, a, CX, dx, _, _, rfl, ea, dc.cl, dc.n2, hp, b, db, _, rfl, eb, b, t, x, rfl, bx, x4, ax, fun H1 s1 => ⟨_, rfl, _, rfl, ?_, ?_⟩⟩
    · rw [Str.empty_append, sizeLine_eq]
      omega
    refine ⟨_, rfl, ?_, ?_⟩
    · rw [Str.empty_append, Str.length_append, l3, sizeLine_eq]
      omega
    refine ⟨_, rfl, a, CX, dx, _, _, rfl, s1 _ _ ea, dc.cl, dc.n3, ho, p, dp, _, rfl, s1 _ _ ep, p, q, o, rfl, bo.same s1, o4, ao, fun H2 s2 => ⟨_, rfl, _, rfl, ?_, ?_⟩⟩
    · rw [bal_eq, sizeLine_eq]
      omega
    show Q (.str (Str.empty ++ bagS x ++ (" owes " : Str) ++ bagS o)) H2
    rw [bal_eq]
    exact fin H2 (s1.trans s2)

end
end Lb
set_option Elab.async false
set_option linter.all false
set_option maxRecDepth 100000
set_option maxHeartbeats 8000000
namespace Lb
open PySem PySem.Spec PyProof.Rows L2 RZ TL
section
variable {P : Program} {w : World} {K : PySem.W.Frag} {mg : Str → Option Value} {base : Heap}
theorem sc_Desk___str__ : FnScope ["self"] ["self"] (defScope s_Desk___str__) := ⟨rfl, rfl, rfl, by decide +kernel, rfl, by decide +kernel, by decide +kernel⟩
theorem own_dstr {C C' : Addr} (D : DfM K C' "__str__" "Desk.__str__" s_Desk___str__) (B : Blt mg) (cD : Cls K C') (M_balance : OwnM P w K mg base C' "balance" 3 ["self"] (spBal K C)) : OwnM P w K mg base C' "__str__" 4 ["self"] (fun vs H Q E => spBal K C vs H Q E ∧ ∃ a dx fs, vs = [.ref a] ∧ H a = some (.ins C' dx fs)) := by
  refine ownM_of D sc_Desk___str__ (fun _ _ _ _ _ _ us hl => match us, hl with | [_], _ => rfl) (fun vs H Q E h => ?_) (fun f cdv A outer s H vs Q E hr h => ?_)
  · obtain ⟨_, _, _, _, rfl, _⟩ := h
    rfl
  · obtain ⟨h, a', dx', fs', rfl, ea'⟩ := h
    obtain ⟨g, fd, M, F, bb⟩ := M_balance.ex
    refine ⟨_, (pss_one (ps_ret (pe_joined1 (pe_fmt (pe_meth0 (pv 0) cD M F (hr.mono (by omega)) bb .nil passX0))))), ?_⟩
    obtain ⟨a, CX, dx, fs, b, t, p, q, x, o, e, ea, dc, hb, hp, ho, bx, bo, x4, ax, o4, ao, fin⟩ := h
    cases e
    rw [ea'] at ea
    cases ea
    have l2 := bal_len ax x4 ao o4
    refine ⟨_, rfl, a', dx', fs', rfl, ea', hb, a', _, dx', fs', b, t, p, q, x, o, rfl, ea', dc, hb, hp, ho, bx, bo, x4, ax, o4, ao, fun H1 s1 => .inl ⟨_, rfl, by rw [sizeLine_eq]; omega, fin H1 s1⟩⟩

end
end Lb
set_option Elab.async false
set_option linter.all false
set_option maxRecDepth 100000
set_option maxHeartbeats 8000000
namespace Lb
open PySem PySem.Spec PyProof.Rows L2 RZ TL
section
variable {P : Program} {w : World} {K : PySem.W.Frag} {mg : Str → Option Value} {base : Heap}
theorem sc_CappedDesk___str__ : FnScope ["self"] ["self"] (defScope s_CappedDesk___str__) := ⟨rfl, rfl, rfl, by decide +kernel, rfl, by decide +kernel, by decide +kernel⟩
theorem own_cstr {C C' : Addr} (D : DfM K C' "__str__" "CappedDesk.__str__" s_CappedDesk___str__) (B : Blt mg) (cD : Cls K C') (M_balance : OwnM P w K mg base C' "balance" 3 ["self"] (spBal K C)) : OwnM P w K mg base C' "__str__" 4 ["self"] (fun vs H Q E => spCStr K C vs H Q E ∧ ∃ a dx fs, vs = [.ref a] ∧ H a = some (.ins C' dx fs)) := by
  refine ownM_of D sc_CappedDesk___str__ (fun _ _ _ _ _ _ us hl => match us, hl with | [_], _ => rfl) (fun vs H Q E h => ?_) (fun f cdv A outer s H vs Q E hr h => ?_)
  · obtain ⟨_, _, _, _, rfl, _⟩ := h
    rfl
  · obtain ⟨h, a', dx', fs', rfl, ea'⟩ := h
    obtain ⟨g, fd, M, F, bb⟩ := M_balance.ex
    refine ⟨_, (pss_one (ps_ret (pe_joined (PJ.cons (pe_fmt (pe_meth0 (pv 0) cD M F (hr.mono (by omega)) bb .nil passX0)) (PJ.cons pe_str (PJ.cons (pe_fmt (pe_fld (pv 0) rfl)) PJ.nil)))))), ?_⟩
    obtain ⟨a, CX, dx, fs, b, t, p, q, x, o, cap, e, ea, dc, nm, hb, hp, ho, hc, bx, bo, x4, ax, o4, ao, c0, c1, fin⟩ := h
    cases e
    rw [ea'] at ea
    cases ea
    have l2 := bal_len ax x4 ao o4
    have l3 : (", cap " : Str).length = 6 := by decide +kernel
    refine ⟨_, rfl, a', dx', fs', rfl, ea', hb, a', _, dx', fs', b, t, p, q, x, o, rfl, ea', dc, hb, hp, ho, bx, bo, x4, ax, o4, ao, fun H1 s1 => .inl ⟨_, rfl, by rw [sizeLine_eq]; omega, _, rfl, ?_, ?_⟩⟩
    · rw [Str.empty_append, sizeLine_eq]
      omega
    refine ⟨_, rfl, ?_, ?_⟩
    · rw [Str.empty_append, Str.length_append, l3, sizeLine_eq]
      omega
    refine ⟨_, rfl, a', _, dx', _, _, rfl, s1 _ _ ea', dc.cl, nm, hc, .inr ⟨_, rfl, num_logW c0 c1, _, rfl, ?_, ?_⟩⟩
    · rw [Str.empty_append, Str.length_append, Str.length_append, l3, sizeLine_eq]
      have h9 := num_lenW c0 c1
      unfold numS at h9
      omega
    show Q (.str (Str.empty ++ balS x o ++ (", cap " : Str) ++ Str.ofString (toString cap))) H1
    rw [Str.empty_append]
    exact fin H1 s1

end
end Lb
set_option Elab.async false
set_option linter.all false
set_option maxRecDepth 100000
set_option maxHeartbeats 8000000
namespace Lb
open PySem PySem.Spec PyProof.Rows L2 RZ TL
section
variable {P : Program} {w : World} {K : PySem.W.Frag} {mg : Str → Option Value} {base : Heap}
theorem sc__law_due : FnScope ["_law_market_here", "_law_stock", "_law_row", "_law_cap", "_law_error", "_law_great", "_law_good"] ["_law_market_here", "_law_stock", "_law_row", "_law_cap"] (defScope s__law_due) := ⟨rfl, rfl, rfl, by decide +kernel, rfl, by decide +kernel, by decide +kernel⟩
theorem own_dueD (D : Df K mg "_law_due" s__law_due) (B : Blt mg) (O_market_error : Own P w K mg base "market_error" 4 ["value"] spErr) : Own P w K mg base "_law_due" 5 ["_law_market_here", "_law_stock", "_law_row", "_law_cap"] spDueD := by
  refine own_of D sc__law_due (fun _ _ _ _ _ _ us hl => match us, hl with | [_, _, _, _], _ => rfl) (fun vs H Q E h => ?_) (fun f cdv A outer s H vs Q E hr h => ?_)
  · obtain ⟨_, _, _, _, _, _, _, _, rfl, _⟩ := h
    rfl
  · obtain ⟨R, mv, sv, rv, cv, d, row, c, rfl, dv, hw, new, hrow, hcap, q⟩ := h
    refine ⟨_, (pss_cons (ps_set (i := 4) sc__law_due.nd rfl (.inl rfl) (pe_own O_market_error (hr.mono (by omega)) (by rfl) (pa_cons (pv 0) pa_nil)))
      (pss_cons (ps_if (pt_cmp (pc_notN (pv 4))) (pss_one (ps_ret (pe_lst (pa_cons pe_str (pa_cons (pv 4) pa_nil))))) pss_nil)
      (pss_cons (ps_if (PW.pt (pw_or (pt_cmpR op_gt (pe_ix ix_tup (pv 0) pe_int (fun _ _ => rfl)) pe_int (nomark _)) (pw_or1 (pt_cmpR op_gt (pe_callB (id := "len") call_len_seq (by rfl) B.b_len PySem.boot_len (pa_cons (pe_ix ix_tup (pv 0) pe_int (fun _ _ => rfl)) pa_nil)) pe_int (nomark _))))) (pss_one (ps_ret (pe_lst (pa_cons pe_str (pa_cons (pe_tup (pa_cons pe_non (pa_cons pe_str pa_nil))) pa_nil))))) pss_nil)
      (pss_cons (ps_if (PW.pt (pw_or (pt_cmp (pc_isN (pv 2))) (pw_or1 (pt_cmpR op_ne (pe_callB (id := "len") call_len_seq (by rfl) B.b_len PySem.boot_len (pa_cons (pv 2) pa_nil)) (pe_ix ix_tup (pv 0) pe_int (fun _ _ => rfl)) (nomark _))))) (pss_one (ps_ret (pe_lst (pa_cons pe_str pa_nil)))) pss_nil)
      (pss_cons (ps_setLc (i := 5) (own := [("_law_good", 6)]) (g := gName 6) (tt := _) rfl sc__law_due.nd rfl rfl (sw_true rfl rfl rfl (by decide +kernel)) (pi_range1 (by rfl) B.b_range (pa_cons (pe_ix ix_tup (pv 0) pe_int (fun _ _ => rfl)) pa_nil)) (blkOk_by (own := [("_law_good", 6)]) (N := ["_law_market_here", "_law_stock", "_law_row", "_law_cap", "_law_error", "_law_great", "_law_good"]) (sc := defScope s__law_due) (by decide +kernel)) (fun _ _ _ _ _ => (pg_name (i := 6) sc__law_due.nd rfl (.inl rfl))) (fun _ _ _ _ _ => (pts_one (pt_cmpR op_gt (pe_ix (show IxR _ (rIxT K) from ix_tup) (pv 2) (pv 6) (fun _ _ => rfl)) pe_int (nomark _)))) (fun _ _ _ _ _ => (pv 6)))
      (pss_cons (ps_if (pt_cmpR (op_neE hr.units) (pv 5) (pe_lst pa_nil) (nomark _)) (pss_one (ps_ret (pe_lst (pa_cons pe_str (pa_cons (pe_ix ix_list (pv 5) pe_int (fun _ _ => rfl)) pa_nil))))) pss_nil)
      (pss_cons (ps_if (PW.pt (pw_or (pt_val (pe_callB (id := "isinstance") call_isi (by rfl) B.b_isinstance (by decide +kernel) (pa_cons (pv 3) (pa_cons (pe_bltn (v := .ty "bool") (u := .type "bool") (by rfl) B.b_bool (by decide +kernel) rfl) pa_nil)))) (pw_or (pt_not (pt_val (pe_callB (id := "isinstance") call_isi (by rfl) B.b_isinstance (by decide +kernel) (pa_cons (pv 3) (pa_cons (pe_bltn (v := .ty "int") (u := .type "int") (by rfl) B.b_int (by decide +kernel) rfl) pa_nil))))) (pw_or1 (pt_cmpR op_lt (pv 3) pe_int (nomark _)))))) (pss_one (ps_ret (pe_lst (pa_cons pe_str (pa_cons (pv 3) pa_nil))))) pss_nil)
      (pss_one (ps_ret (pe_lst (pa_cons pe_str pa_nil))))))))))), ?_⟩
    have one : ∀ {H1 : Hp}, Same H H1 → ∀ (x : Str), dueD d row c = .list [.str x] → [V.str x].length ≤ sizeLine ∧ ∀ p, H1 p = none → Q (.ref p) (upd H1 p (.lst [V.str x])) := fun {H1} s1 x e => by
      refine ⟨(by show 1 ≤ sizeLine; decide), fun p hp => q _ _ (s1.trans (same_upd hp)) ?_⟩
      rw [e]
      exact .lst (new p (s1.free hp)) upd_same (.cons (.str _) .nil)
    have two : ∀ {H1 : Hp}, Same H H1 → ∀ (x : Str) (v : V) (e : PyData), Dat R H1 v e → dueD d row c = .list [.str x, e] → [V.str x, v].length ≤ sizeLine ∧ ∀ p, H1 p = none → Q (.ref p) (upd H1 p (.lst [V.str x, v])) := fun {H1} s1 x v e de h => by
      refine ⟨(by show 2 ≤ sizeLine; decide), fun p hp => q _ _ (s1.trans (same_upd hp)) ?_⟩
      rw [h]
      exact .lst (new p (s1.free hp)) upd_same (.cons (.str _) (.cons (de.same (same_upd hp)) .nil))
    refine ⟨_, rfl, R, mv, d, rfl, dv, hw, new, fun H1 u s1 du => ?_⟩
    by_cases hm : mErr d = .none
    · rw [hm] at du
      obtain rfl := du.nonI
      refine ⟨_, rfl, _, rfl, iteF ?_⟩
      obtain ⟨g, ts, rfl, g1, g4, t4⟩ := mErr_none hm
      obtain ⟨am, w1, w2, rfl, ram, eam, dg, dts⟩ := Dat.pair dv
      obtain rfl := dg.intI
      obtain ⟨tv, ys, rfl, rtv, etv, dys⟩ := dts.tupI
      have lys := dys.length
      have e0 := dErr_n hm
      refine ⟨_, rfl, am, _, _, _, rfl, rfl, tup_at0 (s1 _ _ eam), rfl, _, _, rfl, rfl, _, rfl, ?_⟩
      have room : (3 < g ∨ 3 < ts.length) → 2 ≤ sizeLine ∧ ∀ p, H1 p = none → [V.str "market", V.ref p].length ≤ sizeLine ∧ ∀ p', upd H1 p (.tup [V.non, V.str "room"]) p' = none → Q (.ref p') (upd (upd H1 p (.tup [V.non, V.str "room"])) p' (.lst [V.str "market", V.ref p])) := fun h => by
        rw [if_pos h] at e0
        refine ⟨by decide, fun p hp => ?_⟩
        refine two (s1.trans (same_upd hp)) "market" (.ref p) (errD "room") (.tup (new p (s1.free hp)) upd_same (.cons .non (.cons (.str _) .nil))) ?_
        rw [dueD_m (by rw [e0]; exact fun z => nomatch z), e0]
      by_cases h1 : 3 < g
      · rw [decide_eq_true h1]
        exact iteT (iteT (room (.inl h1)))
      rw [decide_eq_false h1]
      refine iteF ?_
      refine ⟨_, rfl, am, _, _, _, rfl, rfl, tup_at0 (s1 _ _ eam), rfl, tv, _, rfl, .inr (.inl (.inl (s1 _ _ etv))), _, _, rfl, rfl, _, rfl, ?_⟩
      by_cases h2 : 3 < ts.length
      · rw [decide_eq_true (show (3 : Int) < ((ys.length : Nat) : Int) by omega)]
        exact iteT (room (.inr h2))
      rw [decide_eq_false (show ¬ (3 : Int) < ((ys.length : Nat) : Int) by omega)]
      refine iteF ?_
      rw [if_neg (by omega)] at e0
      have eD := dueD_n (row := row) (c := c) e0
      have eg : goodsD (.tuple [.int g, .tuple ts]) = g := rfl
      rw [eg] at eD
      cases row with
      | none =>
        obtain rfl : rv = .non := hrow
        exact ⟨_, rfl, _, rfl, iteT (iteT (one s1 "bag" eD))⟩
      | some x =>
        obtain ⟨pr, rfl, er, x4⟩ := hrow
        refine ⟨_, rfl, _, rfl, iteF ?_⟩
        refine ⟨_, rfl, pr, _, rfl, .inr (.inl (.inl (s1 _ _ er))), _, rfl, am, _, _, _, rfl, rfl, tup_at0 (s1 _ _ eam), rfl, rfl, _, rfl, ?_⟩
        have lm : ((x.map V.int).length : Int) = (x.length : Int) := by rw [List.length_map]
        by_cases hl : (x.length : Int) = g
        · rw [lm, hl]
          have ef : (!decide (V.int g = V.int g)) = false := by simp
          rw [ef]
          refine iteF ?_
          have eD2 : dueD (.tuple [.int g, .tuple ts]) (some x) c = match muchN x with
            | some k => .list [.str "much", .int (k : Int)]
            | none => if capD c = true then .list [.str "ok"] else .list [.str "times", c] := by
            rw [eD]
            unfold dueR
            dsimp only
            rw [if_neg (fun z => z hl)]
            all_goals (cases muchN x <;> rfl)
          clear eD
          -- great
          refine ⟨_, rfl, am, _, _, _, rfl, rfl, tup_at0 (s1 _ _ eam), rfl, g, rfl, by omega, by omega, fun M hM => ?_⟩
          obtain ⟨n, rfl⟩ : ∃ n : Nat, g = (n : Int) := ⟨g.toNat, by omega⟩
          rw [Int.toNat_natCast]
          have ln : x.length = n := by omega
          refine lc_range (lo := 0) (n := n) (fun j H' => Same H1 H' ∧ H' M = some (.lst (((great (x.take j) 0).map fun k => V.int ((k : Nat) : Int))))) ⟨same_upd hM, upd_same⟩ ?_ ?_
          · rintro j H' hj ⟨sm, eM⟩
            have hx : x[j]? = some (x[j]'(by omega)) := List.getElem?_eq_getElem (by omega)
            refine ⟨rfl, ?_⟩
            refine ⟨_, rfl, _, rfl, pr, _, _, _, rfl, rfl, .inl (.inl ((s1.trans sm) _ _ er)), (by rw [Int.zero_add]; exact atI_nat (by rw [List.getElem?_map, hx]; rfl)), _, _, rfl, rfl, _, rfl, ?_⟩
            have gl := great_len (x.take j) 0
            rw [List.length_take] at gl
            have gt : great (x.take (j + 1)) 0 = great (x.take j) 0 ++ (if 6 < x[j]'(by omega) then [j] else []) := by
              rw [List.take_succ_eq_append_getElem (by omega), great_app, List.length_take]
              have : 0 + min j x.length = j := by omega
              rw [this]
            by_cases h6 : 6 < x[j]'(by omega)
            · rw [decide_eq_true h6]
              refine iteT ⟨_, rfl, _, eM, small1000 (by rw [List.length_map]; omega), fun b o e => ?_, ?_⟩
              · rw [upd_ne (ne_of_none e hM)]
                exact sm _ _ e
              · rw [upd_same, gt, if_pos h6, List.map_append, Int.zero_add]
                rfl
            · rw [decide_eq_false h6]
              refine iteF ⟨sm, ?_⟩
              rw [gt, if_neg h6, List.append_nil]
              exact eM
          rintro H2 ⟨s2, eM⟩
          rw [← ln, List.take_length] at eM
          have s02 := s1.trans s2
          refine ⟨_, rfl, Nat.zero_le _, fun p3 z3 => ?_⟩
          have s3 := same_upd (o := .lst []) z3
          have e3 : upd H2 p3 (.lst []) p3 = some (.lst []) := upd_same
          generalize upd H2 p3 (.lst []) = H3 at s3 e3 ⊢
          have s03 := s02.trans s3
          rw [muchN_head] at eD2
          have em : (great x 0).map (fun k => V.int ((k : Nat) : Int)) = ((great x 0).map fun k => ((k : Nat) : Int)).map V.int := by
            rw [List.map_map]
            rfl
          rw [em] at eM
          refine ⟨M, p3, _, rfl, rfl, s3 _ _ eM, e3, _, rfl, ?_⟩
          cases hg : great x 0 with
          | cons k r =>
            rw [hg] at eD2 eM
            refine iteT ⟨_, rfl, M, _, _, _, rfl, rfl, SqL.of (s3 _ _ eM), (show atI _ ((0 : Nat) : Int) = _ from atI_nat rfl), ?_⟩
            exact two s03 "much" _ _ (.int _) eD2
          | nil =>
            rw [hg] at eD2
            refine iteF ?_
            have eD3 : dueD (.tuple [.int (n : Int), .tuple ts]) (some x) c = if capD c = true then .list [.str "ok"] else .list [.str "times", c] := eD2
            have hc2 : Dat R H3 cv c := hcap.dat
            refine ⟨_, rfl, _, _, _, _, _, rfl, .ty _, dat_ty hc2, kit_ty (kit_bool c), _, rfl, ?_⟩
            cases hcap with
            | int m =>
              refine iteF ?_
              refine ⟨_, rfl, _, _, _, _, _, rfl, .ty _, dat_ty hc2, kit_ty (kit_int _), _, rfl, iteF ?_⟩
              refine ⟨_, rfl, _, _, rfl, rfl, _, rfl, ?_⟩
              by_cases h0 : m < 0
              · rw [decide_eq_true h0]
                have ec : capD (.int m) = false := decide_eq_false (by omega)
                rw [ec] at eD3
                exact iteT ⟨_, rfl, two s03 "times" _ _ (.int _) eD3⟩
              · rw [decide_eq_false h0]
                have ec : capD (.int m) = true := decide_eq_true (by omega)
                rw [ec] at eD3
                exact iteF (one s03 "ok" eD3)
            | bl b => exact iteT (iteT ⟨_, rfl, two s03 "times" _ _ (.bl _) eD3⟩)
            | non => exact iteF ⟨_, rfl, _, _, _, _, _, rfl, .ty _, dat_ty hc2, kit_ty (kit_int _), _, rfl, iteT ⟨_, rfl, two s03 "times" _ _ .non eD3⟩⟩
            | str z => exact iteF ⟨_, rfl, _, _, _, _, _, rfl, .ty _, dat_ty hc2, kit_ty (kit_int _), _, rfl, iteT ⟨_, rfl, two s03 "times" _ _ (.str _) eD3⟩⟩
        · rw [lm]
          have ef : (!decide (V.int (x.length : Int) = V.int g)) = true := by
            rw [decide_eq_false (fun z => hl (V.int.inj z))]
            rfl
          rw [ef]
          refine iteT (one s1 "bag" ?_)
          rw [eD]
          unfold dueR
          dsimp only
          rw [if_pos hl]
    · have hd : dErr d ≠ .none := by rw [dErr_m hm]; exact hm
      refine ⟨_, rfl, _, rfl, ?_⟩
      rw [decide_eq_false (isNV_dat du hm)]
      refine iteT ⟨_, rfl, two s1 "market" u (mErr d) du ?_⟩
      rw [dueD_m hd, dErr_m hm]

end
end Lb
set_option Elab.async false
set_option linter.all false
set_option maxRecDepth 100000
set_option maxHeartbeats 8000000
namespace Lb
open PySem PySem.Spec PyProof.Rows L2 RZ TL
section
variable {P : Program} {w : World} {K : PySem.W.Frag} {mg : Str → Option Value} {base : Heap}
theorem sc__law_bag : FnScope ["_law_deck_here", "_law_goods", "_law_most", "_law_good"] ["_law_deck_here", "_law_goods", "_law_most"] (defScope s__law_bag) := ⟨rfl, rfl, rfl, by decide +kernel, rfl, by decide +kernel, by decide +kernel⟩
theorem own_bag (D : Df K mg "_law_bag" s__law_bag) (B : Blt mg) (O__law_draw : Own P w K mg base "_law_draw" 1 ["_law_deck_here", "_law_many"] spDraw) : Own P w K mg base "_law_bag" 2 ["_law_deck_here", "_law_goods", "_law_most"] spBag := by
  refine own_of D sc__law_bag (fun _ _ _ _ _ _ us hl => match us, hl with | [_, _, _], _ => rfl) (fun vs H Q E h => ?_) (fun f cdv A outer s H vs Q E hr h => ?_)
  · obtain ⟨_, _, _, _, _, _, rfl, _⟩ := h
    rfl
  · obtain ⟨d, c, r, n, g, m, rfl, dk, hn, hg, hm, q⟩ := h
    refine ⟨_, (pss_one (ps_ret (pe_callTy (T := "tuple") call_tuple_of (by rfl) B.b_tuple (by decide +kernel) (pa_cons (pe_lc (own := [("_law_good", 3)]) (g := gName 3) (tt := tYes) rfl sc__law_bag.nd (pi_range1 (by rfl) B.b_range (pa_cons (pv 1) pa_nil)) (blkOk_by (own := [("_law_good", 3)]) (N := ["_law_deck_here", "_law_goods", "_law_most", "_law_good"]) (sc := defScope s__law_bag) (by decide +kernel)) (fun _ _ _ _ _ => (pg_name (i := 3) sc__law_bag.nd rfl (.inl rfl))) (fun _ _ _ _ _ => pts_nil) (fun _ _ _ _ _ => (pe_own O__law_draw (hr.mono (by omega)) (by rfl) (pa_cons (pv 0) (pa_cons (pe_op op_add (pv 2) pe_int) pa_nil))))) pa_nil)))), ?_⟩
    refine ⟨_, rfl, (g : Int), rfl, by omega, by omega, fun D hD => ?_⟩
    rw [Int.toNat_natCast]
    have nd := dk.nd hD
    refine lc_range (lo := 0) (n := g) (fun i H' => ∃ b : List Int, b.length = i ∧ (∀ x ∈ b, 0 ≤ x ∧ x ≤ (m : Int)) ∧ Dk H' d c r (n + i) ∧ Kp d r H H' ∧ H' D = some (.lst (b.map V.int)))
      ⟨[], rfl, fun x hx => absurd hx List.not_mem_nil, dk.same (same_upd hD), Kp.of (same_upd hD), upd_same⟩ ?_ ?_
    · rintro i H' hi ⟨b, lb, hb, dk', k', eD⟩
      refine ⟨rfl, all_in ?_⟩
      refine ⟨_, rfl, _, rfl, _, _, rfl, rfl, ?_⟩
      refine ⟨d, c, r, n + i, m + 1, rfl, dk', by omega, by omega, by omega, fun H2 v hv dk2 k2 => ?_⟩
      refine ⟨_, k2 _ _ nd.1 nd.2.1 eD, by rw [List.length_map]; exact small1000 (by omega), b ++ [(v : Int)], by rw [List.length_append, lb]; rfl, fun x hx => ?_, upd_dk dk2 nd.1 nd.2.1 nd.2.2, fun z o z1 z2 ez => ?_, ?_⟩
      · rcases List.mem_append.mp hx with h | h
        · exact hb x h
        · rw [List.mem_singleton.mp h]
          omega
      · rw [upd_ne (ne_of_none ez hD)]
        exact k2 _ _ z1 z2 (k' _ _ z1 z2 ez)
      · rw [upd_same, List.map_append]
        rfl
    · rintro H' ⟨b, lb, hb, dk', k', eD⟩
      refine ⟨D, _, rfl, .inl ⟨SqL.of eD, fun p hp => ?_⟩⟩
      have sp := same_upd (o := .tup (b.map V.int)) hp
      exact q _ p b lb hb (kp_free k' dk' hp) upd_same (dk'.same sp) (k'.trans (Kp.of sp))

end
end Lb
set_option Elab.async false
set_option linter.all false
set_option maxRecDepth 100000
set_option maxHeartbeats 8000000
namespace Lb
open PySem PySem.Spec PyProof.Rows L2 RZ TL
section
variable {P : Program} {w : World} {K : PySem.W.Frag} {mg : Str → Option Value} {base : Heap}
theorem sc__law_spoilt : FnScope ["_law_deck_here", "_law_value", "_law_odd", "_law_at", "_law_way"] ["_law_deck_here", "_law_value"] (defScope s__law_spoilt) := ⟨rfl, rfl, rfl, by decide +kernel, rfl, by decide +kernel, by decide +kernel⟩
theorem own_spoil (D : Df K mg "_law_spoilt" s__law_spoilt) (B : Blt mg) (O__law_draw : Own P w K mg base "_law_draw" 1 ["_law_deck_here", "_law_many"] spDraw) (O__law_one : Own P w K mg base "_law_one" 2 ["_law_deck_here", "_law_items"] spOne) :
    ∀ n : Nat, Own P w K mg base "_law_spoilt" (n + 2) ["_law_deck_here", "_law_value"] (spSpoil n)
  | 0 => own_false D (fun _ _ _ _ _ _ us hl => match us, hl with | [_, _], _ => rfl)
  | n + 1 => by
    have O__law_spoilt := own_spoil D B O__law_draw O__law_one n
    refine own_of D sc__law_spoilt (fun _ _ _ _ _ _ us hl => match us, hl with | [_, _], _ => rfl) (fun vs H Q E h => ?_) (fun f cdv A outer s H vs Q E hr h => ?_)
    · obtain ⟨_, _, _, _, _, _, _, _, _, rfl, _⟩ := h
      rfl
    · obtain ⟨R, d, c, r, k, v, x, S, Dp, rfl, dk, hk, rg, dt, ok, hdp, hS, q⟩ := h
      refine ⟨_, (pss_cons (ps_set (i := 2) sc__law_spoilt.nd rfl (.inl rfl) (pe_lst (pa_cons pe_non (pa_cons pe_bl (pa_cons pe_bl (pa_cons pe_int (pa_cons pe_int (pa_cons (pe_un un_neg pe_int) (pa_cons pe_int (pa_cons pe_int (pa_cons pe_str (pa_cons pe_str (pa_cons pe_str (pa_cons pe_str (pa_cons (pe_tup pa_nil) (pa_cons (pe_lst pa_nil) (pa_cons (pe_tup (pa_cons pe_int pa_nil)) (pa_cons (pe_tup (pa_cons pe_int (pa_cons pe_int pa_nil))) (pa_cons (pe_tup (pa_cons pe_int (pa_cons pe_bl pa_nil))) (pa_cons pe_dnewK pa_nil))))))))))))))))))))
      (pss_cons (ps_if (PW.pt (pw_or (pt_not (pt_val (pe_callB (id := "isinstance") call_isi (by rfl) B.b_isinstance (by decide +kernel) (pa_cons (pv 1) (pa_cons (pe_bltn (v := .ty "tuple") (u := .type "tuple") (by rfl) B.b_tuple (by decide +kernel) rfl) pa_nil))))) (pw_or (pt_cmpR op_eq (pe_callB (id := "len") call_len_seq (by rfl) B.b_len PySem.boot_len (pa_cons (pv 1) pa_nil)) pe_int (nomark _)) (pw_or1 (pt_cmpR op_eq (pe_own O__law_draw (hr.mono (by omega)) (by rfl) (pa_cons (pv 0) (pa_cons pe_int pa_nil))) pe_int (nomark _)))))) (pss_one (ps_ret (pe_own O__law_one (hr.mono (by omega)) (by rfl) (pa_cons (pv 0) (pa_cons (pe_op op_cat (pv 2) (pe_lst (pa_cons (pe_lst (pa_cons (pv 1) pa_nil)) (pa_cons (pe_tup (pa_cons (pv 1) pa_nil)) (pa_cons (pv 1) pa_nil))))) pa_nil))))) pss_nil)
      (pss_cons (ps_par (i := 3) (j := 4) rfl sc__law_spoilt.nd rfl rfl (by decide) rfl rfl (pa_cons (pe_own O__law_draw (hr.mono (by omega)) (by rfl) (pa_cons (pv 0) (pa_cons (pe_callB (id := "len") call_len_seq (by rfl) B.b_len PySem.boot_len (pa_cons (pv 1) pa_nil)) pa_nil))) (pa_cons (pe_own O__law_draw (hr.mono (by omega)) (by rfl) (pa_cons (pv 0) (pa_cons pe_int pa_nil))) pa_nil)) rfl)
      (pss_cons (ps_if (pt_cmpR op_lt (pv 4) pe_int (nomark _)) (pss_one (ps_ret (pe_op op_catA (pe_op op_catA (pe_slice sl_tupA (pv 1) po_none (po_some (pv 3))) (pe_tup (pa_cons (pe_own O__law_spoilt (hr.mono (by omega)) (by rfl) (pa_cons (pv 0) (pa_cons (pe_ix ix_tup (pv 1) (pv 3) (fun _ _ => rfl)) pa_nil))) pa_nil))) (pe_slice sl_tupA (pv 1) (po_some (pe_op op_add (pv 3) pe_int)) po_none)))) pss_nil)
      (pss_one (ps_ret (pe_own O__law_one (hr.mono (by omega)) (by rfl) (pa_cons (pv 0) (pa_cons (pe_lst (pa_cons (pe_op op_catA (pe_slice sl_tupA (pv 1) po_none (po_some (pv 3))) (pe_slice sl_tupA (pv 1) (po_some (pe_op op_add (pv 3) pe_int)) po_none)) (pa_cons (pe_op op_catA (pe_slice sl_tupA (pv 1) po_none (po_some (pe_op op_add (pv 3) pe_int))) (pe_slice sl_tupA (pv 1) (po_some (pv 3)) po_none)) (pa_cons (pe_revT (pv 1)) (pa_cons (pe_callTy (T := "list") call_list_of (by rfl) B.b_list (by decide +kernel) (pa_cons (pv 1) pa_nil)) pa_nil))))) pa_nil))))))))), ?_⟩
      -- odd
      refine ⟨1, rfl, Nat.zero_le _, fun p1 z1 => ⟨Nat.zero_le _, fun p2 z2 => ⟨(by show 1 ≤ sizeLine; decide), fun p3 z3 => ⟨(by show 2 ≤ sizeLine; decide), fun p4 z4 => ⟨(by show 2 ≤ sizeLine; decide), fun p5 z5 => ?_⟩⟩⟩⟩⟩
      intro p6 z6
      refine ⟨(by show 18 ≤ sizeLine; decide), fun p7 z7 => ?_⟩
      have s1 := same_upd (o := .tup []) z1
      have s2 := same_upd (o := .lst []) z2
      have s3 := same_upd (o := .tup [V.int 0]) z3
      have s4 := same_upd (o := .tup [V.int 0, V.int 0]) z4
      have s5 := same_upd (o := .tup [V.int 0, V.bl true]) z5
      have s6 := same_upd (o := .dK []) z6
      have s7 := same_upd (o := .lst [V.non, V.bl true, V.bl false, V.int 0, V.int 1, V.int (-1), V.int 2, V.int 5, V.str "", V.str "a", V.str "chain", V.str "parting", V.ref p1, V.ref p2, V.ref p3, V.ref p4, V.ref p5, V.ref p6]) z7
      have rg1 := rg.same s1
      have rg2 := rg1.same s2
      have rg3 := rg2.same s3
      have rg4 := rg3.same s4
      have rg5 := rg4.same s5
      have rg6 := rg5.same s6
      have rg7 := rg6.same s7
      have s07 : Same H (upd (upd (upd (upd (upd (upd (upd H p1 (.tup [])) p2 (.lst [])) p3 (.tup [V.int 0])) p4 (.tup [V.int 0, V.int 0])) p5 (.tup [V.int 0, V.bl true])) p6 (.dK [])) p7 (.lst [V.non, V.bl true, V.bl false, V.int 0, V.int 1, V.int (-1), V.int 2, V.int 5, V.str "", V.str "a", V.str "chain", V.str "parting", V.ref p1, V.ref p2, V.ref p3, V.ref p4, V.ref p5, V.ref p6])) := (((((s1.trans s2).trans s3).trans s4).trans s5).trans s6).trans s7
      have elo : upd (upd (upd (upd (upd (upd (upd H p1 (.tup [])) p2 (.lst [])) p3 (.tup [V.int 0])) p4 (.tup [V.int 0, V.int 0])) p5 (.tup [V.int 0, V.bl true])) p6 (.dK [])) p7 (.lst [V.non, V.bl true, V.bl false, V.int 0, V.int 1, V.int (-1), V.int 2, V.int 5, V.str "", V.str "a", V.str "chain", V.str "parting", V.ref p1, V.ref p2, V.ref p3, V.ref p4, V.ref p5, V.ref p6]) p7 = some (.lst [V.non, V.bl true, V.bl false, V.int 0, V.int 1, V.int (-1), V.int 2, V.int 5, V.str "", V.str "a", V.str "chain", V.str "parting", V.ref p1, V.ref p2, V.ref p3, V.ref p4, V.ref p5, V.ref p6]) := upd_same
      have dos : Dats R (upd (upd (upd (upd (upd (upd (upd H p1 (.tup [])) p2 (.lst [])) p3 (.tup [V.int 0])) p4 (.tup [V.int 0, V.int 0])) p5 (.tup [V.int 0, V.bl true])) p6 (.dK [])) p7 (.lst [V.non, V.bl true, V.bl false, V.int 0, V.int 1, V.int (-1), V.int 2, V.int 5, V.str "", V.str "a", V.str "chain", V.str "parting", V.ref p1, V.ref p2, V.ref p3, V.ref p4, V.ref p5, V.ref p6])) [V.non, V.bl true, V.bl false, V.int 0, V.int 1, V.int (-1), V.int 2, V.int 5, V.str "", V.str "a", V.str "chain", V.str "parting", V.ref p1, V.ref p2, V.ref p3, V.ref p4, V.ref p5, V.ref p6] oddD :=
        .cons .non (.cons (.bl _) (.cons (.bl _) (.cons (.int _) (.cons (.int _) (.cons (.int _) (.cons (.int _) (.cons (.int _) (.cons (.str _) (.cons (.str _) (.cons (.str _) (.cons (.str _)
          (.cons ((Dat.newT z1 (rg.new _ z1) .nil).same (((((s2.trans s3).trans s4).trans s5).trans s6).trans s7))
          (.cons ((Dat.newL z2 (rg1.new _ z2) .nil).same ((((s3.trans s4).trans s5).trans s6).trans s7))
          (.cons ((Dat.newT z3 (rg2.new _ z3) (.cons (.int 0) .nil)).same (((s4.trans s5).trans s6).trans s7))
          (.cons ((Dat.newT z4 (rg3.new _ z4) (.cons (.int 0) (.cons (.int 0) .nil))).same ((s5.trans s6).trans s7))
          (.cons ((Dat.newT z5 (rg4.new _ z5) (.cons (.int 0) (.cons (.bl true) .nil))).same (s6.trans s7))
          (.cons (.emp (rg5.new _ z6) (s7 _ _ upd_same)) .nil)))))))))))))))))
      generalize upd (upd (upd (upd (upd (upd (upd H p1 (.tup [])) p2 (.lst [])) p3 (.tup [V.int 0])) p4 (.tup [V.int 0, V.int 0])) p5 (.tup [V.int 0, V.bl true])) p6 (.dK [])) p7 (.lst [V.non, V.bl true, V.bl false, V.int 0, V.int 1, V.int (-1), V.int 2, V.int 5, V.str "", V.str "a", V.str "chain", V.str "parting", V.ref p1, V.ref p2, V.ref p3, V.ref p4, V.ref p5, V.ref p6]) = H7 at s07 elo dos rg7 ⊢
      have dk7 := dk.same s07
      have dt7 := dt.same s07
      have toQ : ∀ (H' : Hp) (u : V) (y : PyData), Ok (2 * S + 100) (Dp + 1) y → Dat R H' u y → Dk H' d c r (k + 1) → Kp d r H7 H' → Q u H' := fun H' u y o1 o2 o3 o4 => q H' u y o1 o2 (o3.mono (by omega)) ((Kp.of s07).trans o4)
      refine ⟨_, rfl, _, _, _, _, _, rfl, .ty _, dat_ty dt7, kit_ty (kit_tup x), _, rfl, ?_⟩
      cases dt7 with
      | @tup a xs ds ra e t =>
        have hlx := t.length
        refine iteF ⟨_, rfl, a, _, rfl, .inr (.inl (.inl e)), rfl, _, rfl, ?_⟩
        by_cases h0 : ds.length = 0
        · have e1 : decide (V.int ((xs.length : Nat) : Int) = V.int 0) = true := decide_eq_true (by rw [hlx, h0]; rfl)
          rw [e1]
          exact iteT (iteT (spoil_odd rfl rfl rfl dk7 (by omega) rg7 (Dat.tup ra e t) ok elo dos toQ))
        have e1 : decide (V.int ((xs.length : Nat) : Int) = V.int 0) = false := decide_eq_false (fun z => h0 (by have := V.int.inj z; omega))
        rw [e1]
        refine iteF ⟨_, rfl, d, c, r, k, 7, rfl, dk7, by omega, by omega, by omega, fun H8 j8 hj8 dk8 k8 => ?_⟩
        have rg8 := rg7.kp k8 dk8
        have on8 := rg7.on k8
        have dt8 := (Dat.tup ra e t).on on8
        refine ⟨rfl, _, rfl, ite2 (fun _ => ?_) (fun _ => ?_)⟩
        · refine spoil_odd rfl rfl rfl dk8 (by omega) rg8 dt8 ok (k8 _ _ ?_ ?_ elo) (dos.on on8) fun H' u y o1 o2 o3 o4 => q H' u y o1 o2 (o3.mono (by omega)) (((Kp.of s07).trans k8).trans o4)
          · exact (dk.nd (((((((s1.trans s2).trans s3).trans s4).trans s5).trans s6)).free z7)).1
          · exact (dk.nd (((((((s1.trans s2).trans s3).trans s4).trans s5).trans s6)).free z7)).2.1
        have e8 : H8 a = some (.tup xs) := on8 _ _ ra e
        have t8 := t.on on8
        have oki := ok.items
        have hwS : 4 + wts ds ≤ S := ok.wt
        have hlen := wts_len ds
        -- at, way = draw(deck, len(value)), draw(deck, 9)
        refine ⟨_, rfl, _, rfl, a, _, rfl, .inr (.inl (.inl e8)), d, c, r, k + 1, xs.length, rfl, dk8, by omega, by omega, by omega, fun H9 j hj dk9 k9 => ?_⟩
        refine ⟨_, rfl, d, c, r, k + 1 + 1, 9, rfl, dk9, by omega, by omega, by omega, fun H10 wy hwy dk10 k10 => ⟨_, _, rfl, ?_⟩⟩
        have rg9 := rg8.kp k9 dk9
        have rg10 := rg9.kp k10 dk10
        have on10 := (rg8.on k9).trans (rg9.on k10)
        have e10 : H10 a = some (.tup xs) := on10 _ _ ra e8
        have t10 := t8.on on10
        have kA : Kp d r H H10 := ((Kp.of s07).trans k8).trans (k9.trans k10)
        have ej : (j : Int) + 1 = ((j + 1 : Nat) : Int) := by omega
        have hDp : 1 ≤ Dp := by
          have := ok.dp
          rw [PyData.depth] at this
          omega
        refine ⟨_, rfl, _, _, rfl, rfl, _, rfl, ite2 (fun _ => ?_) (fun _ => ?_)⟩
        · -- value[:at] + (spoilt(deck, value[at]),) + value[at + 1:]
          refine ⟨_, rfl, _, rfl, _, rfl, ?_⟩
          refine rd_to ra e10 t10 (by omega) rg10.new fun H11 p11 s11 r11 e11 => ?_
          have hjd : ds[j]? = some (ds[j]'(by omega)) := List.getElem?_eq_getElem (by omega)
          obtain ⟨zv, hzv, dtz⟩ := t10.get hjd
          have rg11 := rg10.same s11
          have dk11 := dk10.same s11
          have hmem : ds[j]'(by omega) ∈ ds := List.getElem_mem (by omega)
          generalize ds[j]'(by omega) = dz at *
          obtain ⟨m, rfl⟩ : ∃ m, n = m + 1 := by
            rw [PyData.depth] at hdp
            exact ⟨n - 1, by omega⟩
          refine ⟨_, rfl, _, rfl, _, rfl, a, _, _, zv, rfl, rfl, .inl (.inl (s11 _ _ e10)), atI_nat hzv, ?_⟩
          refine ⟨R, d, c, r, k + 1 + 1 + 1, zv, dz, wt dz, Dp - 1, rfl, dk11, by omega, rg11, dtz.same s11, ⟨oki.fi dz hmem, Nat.le_refl _, oki.dp dz hmem⟩, ?_, ?_, fun H12 u y oky dty dk12 k12 => ?_⟩
          · rw [PyData.depth] at hdp
            exact (depths_iff ds).mp (by omega) dz hmem
          · have := wts_mem hmem
            omega
          have rg12 := rg11.kp k12 dk12
          have on12 := rg11.on k12
          have e12 : H12 a = some (.tup xs) := on12 _ _ ra (s11 _ _ e10)
          have t12 := (t10.same s11).on on12
          have e1112 : H12 p11 = some (.tup (xs.take j)) := on12 _ _ r11 e11
          refine ⟨(by show 1 ≤ sizeLine; decide), fun p13 z13 => ?_⟩
          have s13 := same_upd (o := .tup [u]) z13
          have rg13 := rg12.same s13
          refine rd_cat r11 (rg12.new _ z13) (s13 _ _ e1112) upd_same (by rw [List.length_take, List.length_singleton]; omega) rg13.new fun H14 p14 s14 r14 e14 => ?_
          have rg14 := rg13.same s14
          refine ⟨_, rfl, _, rfl, _, _, rfl, rfl, _, rfl, ?_⟩
          dsimp only
          rw [ej]
          have e1214 := s14 _ _ (s13 _ _ e12)
          have t14 := (t12.same s13).same s14
          refine np ?_
          refine rd_from (j := j + 1) ra e1214 t14 (by omega) rg14.new fun H15 p15 s15 r15 e15 => ?_
          have rg15 := rg14.same s15
          refine rd_cat r14 r15 (s15 _ _ e14) e15 (by rw [List.length_append, List.length_take, List.length_singleton, List.length_drop]; omega) rg15.new fun H16 p16 s16 r16 e16 => ?_
          have s1316 := ((s13.trans s14).trans s15).trans s16
          have tt : Dats R H16 (xs.take j ++ [u] ++ xs.drop (j + 1)) (ds.take j ++ [y] ++ ds.drop (j + 1)) :=
            (((t12.take j).append (.cons dty .nil)).append (t12.drop (j + 1))).same s1316
          exact q H16 _ _ (spoil_mid ok hjd oky hDp) (.tup r16 e16 tt) ((dk12.same s1316).mono (by omega)) (((kA.trans (Kp.of s11)).trans k12).trans (Kp.of s1316))
        · -- one(deck, [value[:at] + value[at + 1:], value[:at + 1] + value[at:], value[::-1], list(value)])
          refine ⟨_, rfl, _, rfl, _, rfl, _, rfl, ?_⟩
          refine rd_to ra e10 t10 (by omega) rg10.new fun H11 p11 s11 r11 e11 => ?_
          have rg11 := rg10.same s11
          refine ⟨_, rfl, _, rfl, _, _, rfl, rfl, _, rfl, ?_⟩
          dsimp only
          rw [ej]
          refine np ?_
          refine rd_from (j := j + 1) ra (s11 _ _ e10) (t10.same s11) (by omega) rg11.new fun H12 p12 s12 r12 e12 => ?_
          have rg12 := rg11.same s12
          refine rd_cat r11 r12 (s12 _ _ e11) e12 (by rw [List.length_take, List.length_drop]; omega) rg12.new fun H13 p13 s13 r13 e13 => ?_
          have rg13 := rg12.same s13
          have s1013 := (s11.trans s12).trans s13
          refine ⟨_, rfl, _, rfl, _, _, rfl, rfl, _, rfl, ?_⟩
          dsimp only
          rw [ej]
          refine rd_to (j := j + 1) ra (s1013 _ _ e10) (t10.same s1013) (by omega) rg13.new fun H14 p14 s14 r14 e14 => ?_
          have rg14 := rg13.same s14
          have s1014 := s1013.trans s14
          refine ⟨_, rfl, _, rfl, _, rfl, ?_⟩
          refine np ?_
          refine rd_from (j := j) ra (s1014 _ _ e10) (t10.same s1014) (by omega) rg14.new fun H15 p15 s15 r15 e15 => ?_
          have rg15 := rg14.same s15
          refine rd_cat r14 r15 (s15 _ _ e14) e15 (by rw [List.length_take, List.length_drop]; omega) rg15.new fun H16 p16 s16 r16 e16 => ?_
          have rg16 := rg15.same s16
          have s1016 := (s1014.trans s15).trans s16
          refine ⟨_, rfl, a, _, rfl, .inl (.inl (s1016 _ _ e10)), fun p17 z17 => ?_⟩
          have s17 := same_upd (o := .tup xs.reverse) z17
          have rg17 := rg16.same s17
          have s1017 := s1016.trans s17
          refine ⟨_, rfl, a, _, rfl, .inr (.inl (.inl (s1017 _ _ e10))), fun p18 z18 => ?_⟩
          have s18 := same_upd (o := .lst xs) z18
          have rg18 := rg17.same s18
          refine ⟨(by show 4 ≤ sizeLine; decide), fun p19 z19 => ?_⟩
          have s19 := same_upd (o := .lst [V.ref p13, V.ref p16, V.ref p17, V.ref p18]) z19
          have s1019 := (s1017.trans s18).trans s19
          have n19 := new_ne dk10 ((s1017.trans s18).free z19)
          have d13 := (Dat.tup r13 e13 (((t10.take j).append (t10.drop (j + 1))).same s1013)).same (((s14.trans s15).trans s16).trans ((s17.trans s18).trans s19))
          have d16 := (Dat.tup r16 e16 (((t10.take (j + 1)).append (t10.drop j)).same s1016)).same ((s17.trans s18).trans s19)
          have d17 := (Dat.newT z17 (rg16.new _ z17) (t10.same s1016).reverse).same (s18.trans s19)
          have d18 := (Dat.newL z18 (rg17.new _ z18) (t10.same s1017)).same s19
          have all : Dats R _ [V.ref p13, V.ref p16, V.ref p17, V.ref p18] _ := .cons d13 (.cons d16 (.cons d17 (.cons d18 .nil)))
          refine ⟨d, c, r, p19, k + 1 + 1 + 1, _, rfl, dk10.same s1019, by omega, upd_same, n19.1, n19.2, (by show 0 < 4; decide), (by show 4 ≤ 1000; decide), fun H20 jj u hjj dk20 k20 => ?_⟩
          have rg19 := rg18.same s19
          obtain ⟨y, hy, dty⟩ := all.get' hjj
          refine q H20 u y ?_ (dty.on (rg19.on k20)) (dk20.mono (by omega)) ((kA.trans (Kp.of s1019)).trans k20)
          have hm := List.mem_of_getElem? hy
          rcases List.mem_cons.mp hm with rfl | hm
          · exact ((oki.take j).append (oki.drop (j + 1))).tuple.mono (by omega) (by omega)
          · rcases List.mem_cons.mp hm with rfl | hm
            · exact ((oki.take (j + 1)).append (oki.drop j)).tuple.mono (by omega) (by omega)
            · rcases List.mem_cons.mp hm with rfl | hm
              · exact oki.reverse.tuple.mono (by omega) (by omega)
              · rw [List.mem_singleton.mp hm]
                exact oki.list.mono (by omega) (by omega)
      | non => exact iteT (iteT (spoil_odd rfl rfl rfl dk7 (by omega) rg7 .non ok elo dos toQ))
      | bl b => exact iteT (iteT (spoil_odd rfl rfl rfl dk7 (by omega) rg7 (.bl b) ok elo dos toQ))
      | int b => exact iteT (iteT (spoil_odd rfl rfl rfl dk7 (by omega) rg7 (.int b) ok elo dos toQ))
      | str b => exact iteT (iteT (spoil_odd rfl rfl rfl dk7 (by omega) rg7 (.str b) ok elo dos toQ))
      | lst r1 r2 r3 => exact iteT (iteT (spoil_odd rfl rfl rfl dk7 (by omega) rg7 (.lst r1 r2 r3) ok elo dos toQ))
      | emp r1 r2 => exact iteT (iteT (spoil_odd rfl rfl rfl dk7 (by omega) rg7 (.emp r1 r2) ok elo dos toQ))

end
end Lb
set_option Elab.async false
set_option linter.all false
set_option maxRecDepth 100000
set_option maxHeartbeats 8000000
namespace Lb
open PySem PySem.Spec PyProof.Rows L2 RZ TL
section
variable {P : Program} {w : World} {K : PySem.W.Frag} {mg : Str → Option Value} {base : Heap}
theorem pe_lamD {X : Cx} {CM CB CT CV c Pt : Addr} {params : Arguments} {body : Expr} {scope : Scope} {t : XK → TE} {p lpos pos : Pos} (D : Df X.K X.mg "_law_made" s__law_made) (DD : Dist X.K (madeC CM CB CT CV)) (T1 : Err1 X.prog X.w X.K X.mg X.base "BadMarket" "error" CM) (T2 : Err0 X.K X.mg "BadBag" CB) (T3 : Err1 X.prog X.w X.K X.mg X.base "TooMuch" "good" CT) (T4 : Err1 X.prog X.w X.K X.mg X.base "BadTimes" "value" CV)
    (TB : LamX.TabB X.base X.mg c Pt) (hcode : X.env.code = .ref c) (hr : Room 12 X.A) (hg : Gl X "_law_made")
    (L : LamX.LamS X.env.scope scope) (hdef : defaultsOf params X.env = ([], [])) (hbind : ∀ (q : Str) (cl : List (Str × Addr)) (pm cv ctv : Value), bindArgs (PySem.W.kla_fn "<lambda>" q params body scope cl pm cv ctv) ⟨[], []⟩ = pure [])
    (hbody : ∀ (A : Around) (outer : List Env) (s : Shared) (H : Hp) (E : XK) (f c' : Addr), Room 10 (A.deeper (LamX.lamEnv X scope s.heap.objs.size f c')) → PE (LamX.lamCx X A outer s H E scope f c') body (t E)) :
    PE X (.Call (.Name "_law_made" p) [.Lambda params body scope lpos] [] pos) (LamX.tLam [(Pt, X.env.qual ++ "<lambda>")] (TMade (madeC CM CB CT CV)) t) := by
  obtain ⟨g, fd, F, m⟩ := D.ex
  have b := F.binds (ps := ["_law_call"]) (fun _ _ _ _ _ _ us hl => match us, hl with | [_], _ => rfl)
  have kp := F.kp
  obtain ⟨oc, od, kV, doc, pm, an, cdv, ct, osl, rfl, lk, hcd⟩ := F.ex
  exact LamX.pe_lamcall (Ng := ["_law_call", "e"]) hg m kp lk hcd b sc__law_made rfl (.inl rfl) (gives_made DD T1 T2 T3 T4) TB hcode (List.mem_singleton.mpr rfl) (fun p hp _ => by rw [List.mem_singleton.mp hp]) hr L hdef hbind hbody
/-- what the text has of the two classes of desks -/
structure DkT (K : PySem.W.Frag) (mg : Str → Option Value) (CD CC : Addr) : Prop where
  gD : mg "Desk" = some (.ref CD)
  gC : mg "CappedDesk" = some (.ref CC)
  mD : PySem.W.makesIn K CD = true
  mC : PySem.W.makesIn K CC = true
  kD : PySem.W.keepIn K (.ref CD) = true
  kC : PySem.W.keepIn K (.ref CC) = true
  dD : DskT K CD CD
  dC : DskT K CD CC
  nm : NoAttr K CC "most"
  ne : CD ≠ CC
  s1 : PySem.W.subIn K (.ref CC) (.ref CD) = some true
  s2 : PySem.W.subIn K (.ref CD) (.ref CC) = some false
  n1 : PySem.W.findIn K (.ref CC) "__ne__" = some (some (.builtin "object.__ne__"))
  sc : StdC K CD
theorem bal_ok {x o : List Int} (h : AmtsW x) (h4 : x.length ≤ 4) (k : AmtsW o) (k4 : o.length ≤ 4) : Ok 6000 0 (.str (balS x o)) := by
  refine ⟨rfl, ?_, by rw [PyData.depth]; exact Nat.le_refl _⟩
  have h1 := StrLaws.reprText_len (balS x o) (fun c hc => by
    have hc : c ∈ tl (bagS x ++ (" owes " : Str) ++ bagS o) := hc
    rw [tl_append, tl_append] at hc
    rcases List.mem_append.mp hc with hc | hc
    · rcases List.mem_append.mp hc with hc | hc
      · have := bag_charsW h c hc
        omega
      · have e : tl (" owes " : Str) = [32, 111, 119, 101, 115, 32] := by decide +kernel
        rw [e] at hc
        simp at hc
        omega
    · have := bag_charsW k c hc
      omega)
  have h2 := bal_len h h4 k k4
  show (reprText (balS x o)).length ≤ _
  omega
theorem nx_in {f : L2.St → Hp → Prop} {rt : VK} {b c : L2.St → Hp → Prop} {σ : L2.St} {H : Hp} (h : f σ H) : Ends.nx ⟨f, rt, b, c⟩ σ H := h
theorem next_in {D : Ends} {σ : L2.St} {H : Hp} (h : D.nx σ H) : tNext D σ H := h
theorem sc_law : FnScope ["_law_script", "_law_deck_here", "_law_turn", "_law_some", "_law_market_here", "_law_row", "_law_is_made", "_law_cap", "_law_stock", "_law_due_here", "_law_found", "_law_capped", "_law_both", "_law_desk", "_law_text", "_law_told", "_law_other"] ["_law_script"] (defScope s_law) := ⟨rfl, rfl, rfl, by decide +kernel, rfl, by decide +kernel, by decide +kernel⟩
theorem fn_law {f c C CB CM CT CV CD CC Pt : Addr} {oc : Value} {od an : Option Addr} {osl : Array (Option Value)} {kV doc pm ct : Value}
    (lk : K.lookup f = some ⟨oc, od, .func (PySem.W.fnOf "law" "law" (defArgs s_law) (defBody s_law) (defScope s_law) .none kV doc pm an (.ref c) ct), osl⟩) (hcd : PySem.W.codeIn K (.ref c) "law" = true) (B : Blt mg) (TB : LamX.TabB base mg c Pt) (BC : BagC K mg C) (BR : BagR K C) (DT : DkT K mg CD CC) (DD : Dist K (madeC CM CB CT CV))
    (T1 : Err1 P w K mg base "BadMarket" "error" CM) (T2 : Err0 K mg "BadBag" CB) (T3 : Err1 P w K mg base "TooMuch" "good" CT) (T4 : Err1 P w K mg base "BadTimes" "value" CV) (Dmade : Df K mg "_law_made" s__law_made)
    (O__law_deck : Own P w K mg base "_law_deck" 1 ["_law_script"] (spDeck K)) (O__law_draw : Own P w K mg base "_law_draw" 1 ["_law_deck_here", "_law_many"] spDraw) (O__law_one : Own P w K mg base "_law_one" 2 ["_law_deck_here", "_law_items"] spOne) (O__law_bag : Own P w K mg base "_law_bag" 2 ["_law_deck_here", "_law_goods", "_law_most"] spBag)
    (O__law_small : Own P w K mg base "_law_small" 5 ["_law_deck_here"] spSmall) (O__law_any_market : Own P w K mg base "_law_any_market" 5 ["_law_deck_here"] spAny) (O__law_spoilt : Own P w K mg base "_law_spoilt" 23 ["_law_deck_here", "_law_value"] (spSpoil 21)) (O_market_error : Own P w K mg base "market_error" 4 ["value"] spErr) (O__law_due : Own P w K mg base "_law_due" 5 ["_law_market_here", "_law_stock", "_law_row", "_law_cap"] spDueD)
    (M_init : OwnM P w K mg base C "__init__" 3 ["self", "amounts"] (spInit K C CB)) (M_amounts : PropM P w K mg base C "amounts" 1 (spAmt C)) (M_str : OwnM P w K mg base C "__str__" 1 ["self"] (spStr C))
    (M_dinit : OwnM P w K mg base CD "__init__" 6 ["self", "market", "stock"] (spDInit K C CB CM CT)) (M_cinit : OwnM P w K mg base CC "__init__" 7 ["self", "market", "stock", "cap"] (spCInit K C CB CM CT CV))
    (P_market : PropM P w K mg base CD "market" 1 (spFldV K "place")) (P_stock : PropM P w K mg base CD "stock" 1 (spFldV K "present")) (P_debt : PropM P w K mg base CD "debt" 1 (spFldV K "owed")) (P_version : PropM P w K mg base CD "version" 1 (spDLen K)) (P_settled : PropM P w K mg base CD "settled" 4 (spSettled K C)) (P_cap : PropM P w K mg base CC "cap" 1 (spFldV K "most"))
    (M_dlen : OwnM P w K mg base CD "__len__" 1 ["self"] (spDLen K)) (M_dstr : OwnM P w K mg base CD "__str__" 4 ["self"] (fun vs H Q E => spBal K C vs H Q E ∧ ∃ a dx fs, vs = [.ref a] ∧ H a = some (.ins CD dx fs))) (M_cstr : OwnM P w K mg base CC "__str__" 4 ["self"] (fun vs H Q E => spCStr K C vs H Q E ∧ ∃ a dx fs, vs = [.ref a] ∧ H a = some (.ins CC dx fs)))
    (M_deq : OwnM P w K mg base CD "__eq__" 8 ["self", "other"] (spDEq K C CD)) (M_ceq : OwnM P w K mg base CC "__eq__" 8 ["self", "other"] (spDEq K C CD)) :
    FnG P w K mg base CX0 26 f (PySem.W.fnOf "law" "law" (defArgs s_law) (defBody s_law) (defScope s_law) .none kV doc pm an (.ref c) ct) ["_law_script"] (spLawT K Pt) := by
  obtain ⟨fd1, fdd1, Md, Fd, bd⟩ := M_dinit.ex
  obtain ⟨fc1, fdc1, Mc, Fc, bc⟩ := M_cinit.ex
  have cD := DT.dD.dc.cl
  have cC := DT.dC.dc.cl
  refine fnG_ofC lk hcd sc_law (fun vs H Q E h => ?_) (fun A outer s H vs Q E hgd hr h => ?_)
  · obtain ⟨_, _, rfl, _⟩ := h
    rfl
  · obtain ⟨a, ns, rfl, hS, hl, hT0, q⟩ := h
    have hud : (cxOf CX0 P w K mg base ["_law_script", "_law_deck_here", "_law_turn", "_law_some", "_law_market_here", "_law_row", "_law_is_made", "_law_cap", "_law_stock", "_law_due_here", "_law_found", "_law_capped", "_law_both", "_law_desk", "_law_text", "_law_told", "_law_other"] "law" (defScope s_law) f (.ref c) A outer s H E).nox.A.units + 110 < cLine := by
      have := hr.un
      show (A.deeper _).units + 110 < cLine
      omega
    refine ⟨_, (pss_cons (ps_set (i := 1) sc_law.nd rfl (.inl rfl) (pe_own O__law_deck (hr.mono (by omega)) (by rfl) (pa_cons (pv 0) pa_nil)))
      (pss_cons (ps_for PassesOwn.never rfl (pi_range1 (by rfl) B.b_range (pa_cons pe_int pa_nil)) (pg_name (i := 2) sc_law.nd rfl (.inl rfl))
        (pss_cons (ps_set (i := 3) sc_law.nd rfl (.inl rfl) (pe_lst (pa_cons (pe_own O__law_small (hr.mono (by omega)) (by rfl) (pa_cons (pv 1) pa_nil)) (pa_cons (pe_own O__law_any_market (hr.mono (by omega)) (by rfl) (pa_cons (pv 1) pa_nil)) (pa_cons (pe_own O__law_spoilt (hr.mono (by omega)) (by rfl) (pa_cons (pv 1) (pa_cons (pe_own O__law_any_market (hr.mono (by omega)) (by rfl) (pa_cons (pv 1) pa_nil)) pa_nil))) (pa_cons pe_non pa_nil))))))
      (pss_cons (ps_set (i := 4) sc_law.nd rfl (.inr rfl) (pe_own O__law_one (hr.mono (by omega)) (by rfl) (pa_cons (pv 1) (pa_cons (pv 3) pa_nil))))
      (pss_cons (ps_set (i := 5) sc_law.nd rfl (.inl rfl) (pe_own O__law_bag (hr.mono (by omega)) (by rfl) (pa_cons (pv 1) (pa_cons (pe_op op_add pe_int (pe_own O__law_draw (hr.mono (by omega)) (by rfl) (pa_cons (pv 1) (pa_cons pe_int pa_nil)))) (pa_cons (pe_own O__law_one (hr.mono (by omega)) (by rfl) (pa_cons (pv 1) (pa_cons (pe_lst (pa_cons pe_int (pa_cons pe_int (pa_cons pe_int pa_nil)))) pa_nil))) pa_nil)))))
      (pss_cons (ps_if (PW.pt (pw_and (pt_cmp (pc_isN (pe_own O_market_error (hr.mono (by omega)) (by rfl) (pa_cons (pv 4) pa_nil)))) (pw_and1 (pt_cmpR op_gt (pe_own O__law_draw (hr.mono (by omega)) (by rfl) (pa_cons (pv 1) (pa_cons pe_int pa_nil))) pe_int (nomark _))))) (pss_one (ps_set (i := 5) sc_law.nd rfl (.inl rfl) (pe_own O__law_bag (hr.mono (by omega)) (by rfl) (pa_cons (pv 1) (pa_cons (pe_ix ix_tup (pv 4) pe_int (fun _ _ => rfl)) (pa_cons (pe_own O__law_one (hr.mono (by omega)) (by rfl) (pa_cons (pv 1) (pa_cons (pe_lst (pa_cons pe_int (pa_cons pe_int (pa_cons pe_int pa_nil)))) pa_nil))) pa_nil)))))) pss_nil)
      (pss_cons (ps_asg (pe_tup (pa_cons (pe_cmpR op_gt (pe_own O__law_draw (hr.mono (by omega)) (by rfl) (pa_cons (pv 1) (pa_cons pe_int pa_nil))) pe_int (nomark _)) (pa_cons (pe_own O__law_one (hr.mono (by omega)) (by rfl) (pa_cons (pv 1) (pa_cons (pe_lst (pa_cons pe_int (pa_cons pe_int (pa_cons (pe_op op_pow pe_int pe_int) (pa_cons (pe_un un_neg pe_int) (pa_cons pe_bl (pa_cons pe_non (pa_cons pe_str pa_nil)))))))) pa_nil))) pa_nil))) (pg_tup rfl (pgs_cons (pg_name (i := 6) sc_law.nd rfl (.inl rfl)) (pgs_cons (pg_name (i := 7) sc_law.nd rfl (.inr rfl)) pgs_nil))))
      (pss_cons (ps_set (i := 8) sc_law.nd rfl (.inr rfl) (pe_ifExp (pt_val (pv 6)) (pe_bagX BC M_init (hr.mono (by omega)) passX0 (by rfl) (pa_cons (pv 5) pa_nil)) (pe_own O__law_one (hr.mono (by omega)) (by rfl) (pa_cons (pv 1) (pa_cons (pe_lst (pa_cons (pv 5) (pa_cons pe_non (pa_cons pe_int (pa_cons pe_str pa_nil))))) pa_nil)))))
      (pss_cons (ps_set (i := 9) sc_law.nd rfl (.inl rfl) (pe_own O__law_due (hr.mono (by omega)) (by rfl) (pa_cons (pv 4) (pa_cons (pv 8) (pa_cons (pe_ifExp (pt_val (pv 6)) (pv 5) pe_non) (pa_cons pe_int pa_nil))))))
      (pss_cons (ps_set (i := 10) sc_law.nd rfl (.inl rfl) (pe_lamD Dmade DD T1 T2 T3 T4 TB rfl (hr.mono (by omega)) (by rfl) (LamX.lamS_by (by show LamX.lamSB (defScope s_law) _ = true; decide +kernel)) (by rfl) (fun _ _ _ _ _ => rfl) (fun A outer s H E f c' hr' => pe_make ⟨DT.mD, Md.at_, Md.fn, DT.kD⟩ Fd (hr'.mono (by omega)) (by rfl) DT.gD bd .nil (passes_call (takes_of rfl rfl rfl rfl) (fun _ _ _ _ h => h)) (pa_cons (pv 4) (pa_cons (pv 8) pa_nil)))))
      (pss_cons (ps_set (i := 11) sc_law.nd rfl (.inl rfl) (pe_lamD Dmade DD T1 T2 T3 T4 TB rfl (hr.mono (by omega)) (by rfl) (LamX.lamS_by (by show LamX.lamSB (defScope s_law) _ = true; decide +kernel)) (by rfl) (fun _ _ _ _ _ => rfl) (fun A outer s H E f c' hr' => pe_make ⟨DT.mC, Mc.at_, Mc.fn, DT.kC⟩ Fc (hr'.mono (by omega)) (by rfl) DT.gC bc .nil (passes_call (takes_of rfl rfl rfl rfl) (fun _ _ _ _ h => h)) (pa_cons (pv 4) (pa_cons (pv 8) (pa_cons (pv 7) pa_nil))))))
      (pss_cons (ps_if (pt_cmpR op_ne (pe_callB (id := "repr") (call_reprD hgd hud) (by rfl) B.b_repr PyProof.Rows.boot_repr (pa_cons (pe_op op_cat (pe_slice sl_list (pv 10) po_none (po_some pe_int)) (pe_op op_rep (pe_slice sl_list (pv 10) (po_some pe_int) po_none) (pe_callTy (T := "int") call_int1 (by rfl) B.b_int PyProof.Rows.boot_int (pa_cons (pe_cmpR op_ne (pe_ix ix_list (pv 10) pe_int (fun _ _ => rfl)) pe_str (nomark _)) pa_nil)))) pa_nil)) (pe_callB (id := "repr") (call_reprD hgd hud) (by rfl) B.b_repr PyProof.Rows.boot_repr (pa_cons (pv 9) pa_nil)) (nomark _)) (pss_one (ps_ret pe_bl)) pss_nil)
      (pss_cons (ps_set (i := 12) sc_law.nd rfl (.inl rfl) (pe_own O__law_due (hr.mono (by omega)) (by rfl) (pa_cons (pv 4) (pa_cons (pv 8) (pa_cons (pe_ifExp (pt_val (pv 6)) (pv 5) pe_non) (pa_cons (pv 7) pa_nil))))))
      (pss_cons (ps_if (pt_cmpR op_ne (pe_callB (id := "repr") (call_reprD hgd hud) (by rfl) B.b_repr PyProof.Rows.boot_repr (pa_cons (pe_op op_cat (pe_slice sl_list (pv 11) po_none (po_some pe_int)) (pe_op op_rep (pe_slice sl_list (pv 11) (po_some pe_int) po_none) (pe_callTy (T := "int") call_int1 (by rfl) B.b_int PyProof.Rows.boot_int (pa_cons (pe_cmpR op_ne (pe_ix ix_list (pv 11) pe_int (fun _ _ => rfl)) pe_str (nomark _)) pa_nil)))) pa_nil)) (pe_callB (id := "repr") (call_reprD hgd hud) (by rfl) B.b_repr PyProof.Rows.boot_repr (pa_cons (pv 12) pa_nil)) (nomark _)) (pss_one (ps_ret pe_bl)) pss_nil)
      (pss_one (ps_if (pt_cmpR (op_eqD hr.units) (pv 9) (pe_lst (pa_cons pe_str pa_nil)) (nomark _)) (pss_cons (ps_par (i := 13) (j := 14) rfl sc_law.nd rfl rfl (by decide) rfl rfl (pa_cons (pe_ix ix_list (pv 10) pe_int (fun _ _ => rfl)) (pa_cons (pe_op op_add_str (pe_callTy (T := "str") (call_strM M_str (hr.mono (by omega)) passX0) (by rfl) B.b_str (by decide +kernel) (pa_cons (pv 8) pa_nil)) pe_str) pa_nil)) rfl)
      (pss_cons (ps_set (i := 14) sc_law.nd rfl (.inl rfl) (pe_op op_add_str (pv 14) (pe_callTy (T := "str") (call_strM M_str (hr.mono (by omega)) passX0) (by rfl) B.b_str (by decide +kernel) (pa_cons (pe_bagX BC M_init (hr.mono (by omega)) passX0 (by rfl) (pa_cons (pe_op op_repA (pe_tup (pa_cons pe_int pa_nil)) (pe_callB (id := "len") call_len_seq (by rfl) B.b_len PySem.boot_len (pa_cons (pv 5) pa_nil))) pa_nil)) pa_nil))))
      (pss_cons (ps_set (i := 15) sc_law.nd rfl (.inl rfl) (pe_lst (pa_cons (pe_propM cD P_market (hr.mono (by omega)) (pv 13)) (pa_cons (pe_amt BC M_amounts (hr.mono (by omega)) (pe_propM cD P_stock (hr.mono (by omega)) (pv 13))) (pa_cons (pe_amt BC M_amounts (hr.mono (by omega)) (pe_propM cD P_debt (hr.mono (by omega)) (pv 13))) (pa_cons (pe_propM cD P_version (hr.mono (by omega)) (pv 13)) pa_nil))))))
      (pss_cons (ps_set (i := 15) sc_law.nd rfl (.inl rfl) (pe_op op_cat (pv 15) (pe_lst (pa_cons (pe_propM cD P_settled (hr.mono (by omega)) (pv 13)) (pa_cons (pe_callB (id := "len") (call_lenM M_dlen (hr.mono (by omega)) passX0) (by rfl) B.b_len PySem.boot_len (pa_cons (pv 13) pa_nil)) (pa_cons (pe_callTy (T := "str") (call_strM M_dstr (hr.mono (by omega)) passX0) (by rfl) B.b_str (by decide +kernel) (pa_cons (pv 13) pa_nil)) pa_nil))))))
      (pss_cons (ps_if (pt_cmpR op_ne (pe_callB (id := "repr") (call_reprD hgd hud) (by rfl) B.b_repr PyProof.Rows.boot_repr (pa_cons (pv 15) pa_nil)) (pe_callB (id := "repr") (call_reprD hgd hud) (by rfl) B.b_repr PyProof.Rows.boot_repr (pa_cons (pe_lst (pa_cons (pv 4) (pa_cons (pv 5) (pa_cons (pe_op op_repA (pe_tup (pa_cons pe_int pa_nil)) (pe_callB (id := "len") call_len_seq (by rfl) B.b_len PySem.boot_len (pa_cons (pv 5) pa_nil))) (pa_cons pe_int (pa_cons pe_bl (pa_cons pe_int (pa_cons (pv 14) pa_nil)))))))) pa_nil)) (nomark _)) (pss_one (ps_ret pe_bl)) pss_nil)
      (pss_one (ps_if (pt_cmpR (op_eqD hr.units) (pv 12) (pe_lst (pa_cons pe_str pa_nil)) (nomark _)) (pss_cons (ps_set (i := 16) sc_law.nd rfl (.inl rfl) (pe_ix ix_list (pv 11) pe_int (fun _ _ => rfl)))
      (pss_cons (ps_if (PW.pt (pw_or (pt_cmpR op_ne (pe_propM cC P_cap (hr.mono (by omega)) (pv 16)) (pv 7) (nomark _)) (pw_or1 (pt_cmpR op_ne (pe_callTy (T := "str") (call_strM M_cstr (hr.mono (by omega)) passX0) (by rfl) B.b_str (by decide +kernel) (pa_cons (pv 16) pa_nil)) (pe_op op_add_str (pe_op op_add_str (pv 14) pe_str) (pe_callTy (T := "str") call_str_int (by rfl) B.b_str (by decide +kernel) (pa_cons (pv 7) pa_nil))) (nomark _))))) (pss_one (ps_ret pe_bl)) pss_nil)
      (pss_one (ps_if (PW.pt (pw_or (pt_not (pt_cmpR (op_eq2 M_ceq DT.s2 (hr.mono (by omega)) passX0) (pv 16) (pv 13) (nomark _))) (pw_or (pt_cmpR (op_neS M_ceq DT.ne DT.s1 DT.dC.cm DT.n1 (hr.mono (by omega)) passX0) (pv 13) (pv 16) (nomark _)) (pw_or1 (pt_cmpR (op_eqU M_deq (hr.mono (by omega)) passX0) (pv 13) (pv 4) (nomark _)))))) (pss_one (ps_ret pe_bl)) pss_nil)))) pss_nil))))))) pss_nil)))))))))))))))
      (pss_one (ps_ret pe_bl)))), ?_⟩
    refine ⟨_, rfl, a, ns, rfl, hS, hl, fun H1 d cc r s1 fd1 fc1 fr1 dk1 => ?_⟩
    obtain ⟨TS, hTS⟩ : ∃ TS : List (Addr × Str), TS = [(Pt, (cxOf CX0 P w K mg base ["_law_script", "_law_deck_here", "_law_turn", "_law_some", "_law_market_here", "_law_row", "_law_is_made", "_law_cap", "_law_stock", "_law_due_here", "_law_found", "_law_capped", "_law_both", "_law_desk", "_law_text", "_law_told", "_law_other"] "law" (defScope s_law) f (.ref c) A outer s H E).nox.env.qual ++ "<lambda>")] := ⟨_, rfl⟩
    have tb1 : LamX.Tabs TS H1 := by
      rw [hTS]
      intro p hp
      rw [List.mem_singleton.mp hp]
      exact LamX.TabS.nil (s1 _ _ hT0)
    refine ⟨8, rfl, by decide, by decide, ?_⟩
    refine for_range (n := 8) (fun i σ H' => ∃ y2 y3 y4 y5 y6 y7 y8 y9 y10 y11 y12 y13 y14 y15 y16, σ = [some (.ref a), some (.ref d), y2, y3, y4, y5, y6, y7, y8, y9, y10, y11, y12, y13, y14, y15, y16] ∧ Dk H' d cc r (4000 * i) ∧ LamX.Tabs TS H')
      ⟨none, none, none, none, none, none, none, none, none, none, none, none, none, none, none, rfl, dk1, tb1⟩ ?_ (fun σ H' _ => q H')
    rintro i σ H2 hi ⟨y2, y3, y4, y5, y6, y7, y8, y9, y10, y11, y12, y13, y14, y15, y16, rfl, dk2, tb2⟩
    have rg2 := rg0 dk2
    have okM : ∀ {g : Nat} {ts : List Trd}, MktOk g ts → Ok 200 4 (mktD g ts) := fun {g ts} mok => by
      have h1 := trds_ok mok.four mok.all
      have h2 := h1.tuple
      have h3 := (Oks.one ((nat_ok (g := g) (by have := mok.four; omega)).mono (Nat.le_refl _) (Nat.zero_le 3))).append (Oks.one h2)
      exact h3.tuple.mono (by have := mok.many; omega) (Nat.le_refl _)
    -- some
    refine ⟨_, rfl, R0 d r, d, cc, r, _, rfl, dk2, by omega, rg2, fun H3 mv1 g1 ts1 mok1 _ _ dm1 dk3 k3 => ?_⟩
    refine ⟨_, rfl, R0 d r, d, cc, r, _, rfl, dk3, by omega, rg0 dk3, fun H4 mv2 g2 ts2 mok2 dm2 dk4 k4 => ?_⟩
    refine ⟨_, rfl, _, rfl, R0 d r, d, cc, r, _, rfl, dk4, by omega, rg0 dk4, fun H5 mv3 g3 ts3 mok3 dm3 dk5 k5 => ?_⟩
    refine spoil21 (E := L2.E0) rfl dk5 (by omega) (rg0 dk5) dm3 (okM mok3) (by omega) (by omega) fun H6 u3 x3 ox3 dx3 dk6 k6 => ?_
    have dm1' := dm1.on (((rg0 dk3).on k4).trans (((rg0 dk4).on k5).trans ((rg0 dk5).on k6)))
    have dm2' := dm2.on (((rg0 dk4).on k5).trans ((rg0 dk5).on k6))
    refine ⟨(by show 4 ≤ sizeLine; decide), fun L hL => ?_⟩
    have s7 := same_upd (o := .lst [mv1, mv2, u3, V.non]) hL
    have e7 : upd H6 L (.lst [mv1, mv2, u3, V.non]) L = some (.lst [mv1, mv2, u3, V.non]) := upd_same
    have ndL := dk6.nd hL
    generalize upd H6 L (.lst [mv1, mv2, u3, V.non]) = H7 at s7 e7 ⊢
    have dk7 := dk6.same s7
    have ALL : ∀ v ∈ [mv1, mv2, u3, V.non], ∃ x, Dat (R0 d r) H7 v x ∧ Ok 500 5 x := by
      intro v hv
      rcases List.mem_cons.mp hv with rfl | hv
      · exact ⟨_, dm1'.same s7, (okM mok1).mono (by omega) (by omega)⟩
      rcases List.mem_cons.mp hv with rfl | hv
      · exact ⟨_, dm2'.same s7, (okM mok2).mono (by omega) (by omega)⟩
      rcases List.mem_cons.mp hv with rfl | hv
      · exact ⟨_, dx3.same s7, ox3⟩
      · rw [List.mem_singleton.mp hv]
        exact ⟨_, .non, ⟨rfl, by decide +kernel, by rw [PyData.depth]; exact Nat.zero_le _⟩⟩
    -- market = one(deck, some)
    refine ⟨_, rfl, _, rfl, d, cc, r, L, _, _, rfl, dk7, by omega, e7, ndL.1, ndL.2.1, (by show 0 < 4; decide), (by show 4 ≤ 1000; decide), fun H8 j mv hmv dk8 k8 => ?_⟩
    obtain ⟨dM, dm7, okD⟩ := ALL mv (List.mem_of_getElem? hmv)
    have dm8 := dm7.on ((rg0 dk7).on k8)
    have tb8 : LamX.Tabs TS H8 := tabs_kp tb2 dk2 (k3.trans (k4.trans (k5.trans (k6.trans ((Kp.of s7).trans k8)))))
    clear ALL hmv dm1' dm2' dm7
    -- row = bag(deck, 1 + draw(deck, 3), one(deck, [6, 6, 8]))
    refine ⟨_, rfl, _, rfl, d, cc, r, _, 3, rfl, dk8, by omega, by omega, by omega, fun H9 v9 hv9 dk9 k9 => ?_⟩
    refine ⟨_, _, rfl, rfl, ?_⟩
    have eg : (1 : Int) + (v9 : Int) = ((1 + v9 : Nat) : Int) := by omega
    dsimp only
    rw [eg]
    refine ⟨_, rfl, (by show 3 ≤ sizeLine; decide), fun L2 hL2 => ?_⟩
    have s10 := same_upd (o := .lst [V.int 6, V.int 6, V.int 8]) hL2
    have e10 : upd H9 L2 (.lst [V.int 6, V.int 6, V.int 8]) L2 = some (.lst [V.int 6, V.int 6, V.int 8]) := upd_same
    have ndL2 := dk9.nd hL2
    generalize upd H9 L2 (.lst [V.int 6, V.int 6, V.int 8]) = H10 at s10 e10 ⊢
    have dk10 := dk9.same s10
    refine ⟨d, cc, r, L2, _, _, rfl, dk10, by omega, e10, ndL2.1, ndL2.2.1, (by show 0 < 3; decide), (by show 3 ≤ 1000; decide), fun H11 j2 m11 hm11 dk11 k11 => ?_⟩
    obtain ⟨mm, rfl, hmm⟩ : ∃ mm : Nat, m11 = V.int (mm : Int) ∧ mm ≤ 8 := by
      match j2, hm11 with
      | 0, h => cases h; exact ⟨6, rfl, by omega⟩
      | 1, h => cases h; exact ⟨6, rfl, by omega⟩
      | 2, h => cases h; exact ⟨8, rfl, by omega⟩
    clear hm11
    refine ⟨d, cc, r, _, 1 + v9, mm, rfl, dk11, by omega, by omega, by omega, fun H12 pr x lx hx f12 e12 dk12 k12 => ?_⟩
    have dm12 := ((dm8.on ((rg0 dk8).on k9)).same s10).on (((rg0 dk10).on k11).trans ((rg0 dk11).on k12))
    have tb12 : LamX.Tabs TS H12 := tabs_kp tb8 dk8 (k9.trans ((Kp.of s10).trans (k11.trans k12)))
    have ax0 : ∀ y ∈ x, 0 ≤ y ∧ y ≤ 8 := fun y hy => by have := hx y hy; omega
    refine seq_in fun DD n1 n2 n3 n4 => ?_
    have rest : ∀ (H' : Hp) (pr : Addr) (x : List Int), Dat (R0 d r) H' mv dM → H' pr = some (.tup (x.map V.int)) → 1 ≤ x.length → x.length ≤ 4 → (∀ y ∈ x, 0 ≤ y ∧ y ≤ 8) → Dk H' d cc r (4000 * i + 3000) → LamX.Tabs TS H' →
        DD.nx [some (.ref a), some (.ref d), some (.int (0 + ((i : Nat) : Int))), some (.ref L), some mv, some (.ref pr), y6, y7, y8, y9, y10, y11, y12, y13, y14, y15, y16] H' := by
      rw [n1]
      clear n1 n2 n3 n4
      clear dm12 tb12 dk12 k12 e12 f12 hx lx ax0 x pr dk11 k11 dk10 e10 s10 ndL2 hL2 dk9 k9 tb8 dk8 k8 dm8 dk7 e7 s7 dm3 dm2 dm1 dk6 k6 dk5 k5 dk4 k4 dk3 k3
      intro H1 pr x dm e1 x1 x4 ax dk tb
      have xok : BgOk x := ⟨x1, x4, fun y hy => (ax y hy).1⟩
      have aw : AmtsW x := fun y hy => by have := ax y hy; omega
      -- is_made, cap
      refine ⟨_, rfl, d, cc, r, _, 6, rfl, dk, by omega, by omega, by omega, fun H2 v2 hv2 dk2 k2 => ?_⟩
      refine ⟨_, _, rfl, rfl, ?_⟩
      dsimp only
      refine ⟨_, rfl, _, _, rfl, rfl, ⟨by decide, by decide, by decide⟩, ?_⟩
      refine ⟨1, rfl, (by show 7 ≤ sizeLine; decide), fun L3 hL3 => ?_⟩
      have s3 := same_upd (o := .lst [V.int 0, V.int 3, V.int ((10 : Int) ^ (9 : Int).toNat), V.int (-1), V.bl true, V.non, V.str "1"]) hL3
      have e3 : upd H2 L3 (.lst [V.int 0, V.int 3, V.int ((10 : Int) ^ (9 : Int).toNat), V.int (-1), V.bl true, V.non, V.str "1"]) L3 = some (.lst [V.int 0, V.int 3, V.int ((10 : Int) ^ (9 : Int).toNat), V.int (-1), V.bl true, V.non, V.str "1"]) := upd_same
      have ndL3 := dk2.nd hL3
      generalize upd H2 L3 (.lst [V.int 0, V.int 3, V.int ((10 : Int) ^ (9 : Int).toNat), V.int (-1), V.bl true, V.non, V.str "1"]) = H3 at s3 e3 ⊢
      have dk3 := dk2.same s3
      refine ⟨d, cc, r, L3, _, _, rfl, dk3, by omega, e3, ndL3.1, ndL3.2.1, (by show 0 < 7; decide), (by show 7 ≤ 1000; decide), fun H4 j4 cv hcv dk4 k4 => ?_⟩
      obtain ⟨c0, capv, capo, capl, capn⟩ : ∃ c0, CapV cv c0 ∧ Ok 40 0 c0 ∧ c0.canLay0 = true ∧ (∀ n : Int, cv = .int n → 0 ≤ n → n < 10 ^ 30) := by
        have ok : ∀ c : PyData, fine c = true → decide (wt c ≤ 40) = true → decide (c.depth ≤ 0) = true → Ok 40 0 c := fun c h1 h2 h3 => ⟨h1, of_decide_eq_true h2, of_decide_eq_true h3⟩
        match j4, hcv with
        | 0, h => cases h; exact ⟨_, .int _, ok _ (by decide +kernel) (by decide +kernel) (by decide +kernel), by decide +kernel, fun n e _ => by cases e; decide⟩
        | 1, h => cases h; exact ⟨_, .int _, ok _ (by decide +kernel) (by decide +kernel) (by decide +kernel), by decide +kernel, fun n e _ => by cases e; decide⟩
        | 2, h => cases h; exact ⟨_, .int _, ok _ (by decide +kernel) (by decide +kernel) (by decide +kernel), by decide +kernel, fun n e _ => by cases e; decide⟩
        | 3, h => cases h; exact ⟨_, .int _, ok _ (by decide +kernel) (by decide +kernel) (by decide +kernel), by decide +kernel, fun n e _ => by cases e; decide⟩
        | 4, h => cases h; exact ⟨_, .bl _, ok _ (by decide +kernel) (by decide +kernel) (by decide +kernel), by decide +kernel, fun n e _ => nomatch e⟩
        | 5, h => cases h; exact ⟨_, .non, ok _ (by decide +kernel) (by decide +kernel) (by decide +kernel), by decide +kernel, fun n e _ => nomatch e⟩
        | 6, h => cases h; exact ⟨_, .str _, ok _ (by decide +kernel) (by decide +kernel) (by decide +kernel), by decide +kernel, fun n e _ => nomatch e⟩
      clear hcv
      refine ⟨(by show 2 ≤ sizeLine; decide), fun p5 z5 => ?_⟩
      have s5 := same_upd (o := .tup [V.bl (decide ((0 : Int) < (v2 : Int))), cv]) z5
      refine ⟨p5, _, rfl, .inl (.inl upd_same), rfl, _, _, rfl, _, _, rfl, rfl, ?_⟩
      generalize upd H4 p5 (.tup [V.bl (decide ((0 : Int) < (v2 : Int))), cv]) = H5 at s5 ⊢
      have dk5 := dk4.same s5
      have on15 := (((rg0 dk).on k2).trans ((rg0 dk2).on (Kp.of s3))).trans (((rg0 dk3).on k4).trans ((rg0 dk4).on (Kp.of s5)))
      have dm5 := dm.on on15
      have e5 : H5 pr = some (.tup (x.map V.int)) := s5 _ _ (kp_obj k4 dk3 (s3 _ _ (kp_obj k2 dk e1 fun _ z => nomatch z)) fun _ z => nomatch z)
      have tb5 : LamX.Tabs TS H5 := tabs_kp tb dk (k2.trans ((Kp.of s3).trans (k4.trans (Kp.of s5))))
      show tSeq (tAsg (tIf _ _ _) _) _ _ [some (.ref a), some (.ref d), some (.int (0 + ((i : Nat) : Int))), some (.ref L), some mv, some (.ref pr), some (.bl (decide ((0 : Int) < (v2 : Int)))), some cv, y8, y9, y10, y11, y12, y13, y14, y15, y16] H5
      generalize decide ((0 : Int) < (v2 : Int)) = made
      -- stock
      refine seq_in fun D2 n1 n2 n3 n4 => ?_
      have rest2 : ∀ (H' : Hp) (sv : V), Dat (R0 d r) H' mv dM → H' pr = some (.tup (x.map V.int)) → StkV K C H' sv (if made = true then some x else none) → Dk H' d cc r (4000 * i + 3900) → LamX.Tabs TS H' →
          D2.nx [some (.ref a), some (.ref d), some (.int (0 + ((i : Nat) : Int))), some (.ref L), some mv, some (.ref pr), some (.bl made), some cv, some sv, y9, y10, y11, y12, y13, y14, y15, y16] H' := by
        rw [n1]
        clear n1 n2 n3 n4 dm5 e5 tb5 dk5 on15 s5 z5 dk4 k4 dk3 e3 s3 ndL3 hL3 dk2 k2 dm tb dk e1
        clear H1 H2 H3 H4 H5
        intro H1 sv dm e1 stk dk tb
        have wM : wt dM ≤ 1000000 := Nat.le_trans okD.wt (by omega)
        obtain ⟨row, hrow⟩ : ∃ row : Option (List Int), (if made = true then some x else none) = row := ⟨_, rfl⟩
        rw [hrow] at stk
        have rowx : ∀ z, row = some z → z = x ∧ made = true := fun z e => by
          rw [← hrow] at e
          cases made with
          | true => exact ⟨(Option.some.inj e).symm, rfl⟩
          | false => exact nomatch e
        have ok0 : Ok 200 3 (dueD dM row (.int 0)) := dueD_ok ⟨by decide +kernel, by decide +kernel, by decide +kernel⟩ fun z e => by rw [(rowx z e).1]; exact x4
        have okc : Ok 200 3 (dueD dM row c0) := dueD_ok capo fun z e => by rw [(rowx z e).1]; exact x4
        -- due_here
        refine seq_in fun D3 n1 n2 n3 n4 => ?_
        have rest3 : ∀ (H' : Hp) (u : V), Same H1 H' → Dat (R0 d r) H' u (dueD dM row (.int 0)) → D3.nx [some (.ref a), some (.ref d), some (.int (0 + ((i : Nat) : Int))), some (.ref L), some mv, some (.ref pr), some (.bl made), some cv, some sv, some u, y10, y11, y12, y13, y14, y15, y16] H' := by
          rw [n1]
          clear n1 n2 n3 n4
          intro H2 u2 s2 du2
          -- found
          refine ⟨hTS ▸ tb.ext s2, fun H3 eN3 t3 => ?_⟩
          have tb3 : LamX.Tabs TS H3 := by
            rw [hTS]
            exact t3
          have ex3 : LamX.ExtN H1 H3 := (LamX.ExtN.of s2).trans eN3
          refine ⟨_, rfl, _, rfl, fun x3 dx3 nx3 ndx3 ne3 => rd_desk BR.sc DT.dD.dc (dm.extN ex3) wM (rg0 (dk.extN ex3)).new (stk.extN ex3) nx3 ndx3 ne3 fun H4 pf lf s4 nf ef FL => ?_⟩
          -- capped
          have tb4 := tb3.ext s4
          refine ⟨hTS ▸ tb4, fun H5 eN5 t5 => ?_⟩
          have tb5 : LamX.Tabs TS H5 := by
            rw [hTS]
            exact t5
          have ex5 : LamX.ExtN H1 H5 := (ex3.trans (LamX.ExtN.of s4)).trans eN5
          refine ⟨_, rfl, _, rfl, _, rfl, fun x5 dx5 nx5 ndx5 ne5 => rd_cdesk BR.sc DT.dC.dc DT.nm (dm.extN ex5) wM (rg0 (dk.extN ex5)).new (stk.extN ex5) capv nx5 ndx5 ne5 fun H6 pc lc s6 nc ec FC => ?_⟩
          have ef6 : H6 pf = some (.lst lf) := s6 _ _ (eN5 _ _ ef (fun _ z => nomatch z))
          have FL6 := (FL.extN eN5).same s6
          have ex6 : LamX.ExtN H1 H6 := ex5.trans (LamX.ExtN.of s6)
          have tb6 := tb5.ext s6
          have dm6 := dm.extN ex6
          have dk6 := dk.extN ex6
          have stk6 := stk.extN ex6
          have e16 : H6 pr = some (.tup (x.map V.int)) := ex6 _ _ e1 (fun _ z => nomatch z)
          have du6 : Dat (R0 d r) H6 u2 (dueD dM row (.int 0)) := (((du2.extN eN3).same s4).extN eN5).same s6
          clear FL ef tb5 tb4 tb3 t3 t5
          have sh1a := fine_show _ ok0.fi
          have sh2a := ok0.shown (by omega)
          have sh3a : (dueD dM row (.int 0)).depth ≤ 100 := Nat.le_trans ok0.dp (by omega)
          obtain ⟨wa, rra, dsa, ela, hra, edsa, dtsa⟩ := FL6.cut
          subst ela
          refine ⟨_, rfl, 1, rfl, pf, _, rfl, SqL.of ef6, fun p7 z7 => ?_⟩
          rw [cut1]
          have s7 := same_upd (o := .lst [V.str wa]) z7
          have e7 : upd H6 p7 (.lst [V.str wa]) p7 = some (.lst [V.str wa]) := upd_same
          generalize upd H6 p7 (.lst [V.str wa]) = H7 at s7 e7 ⊢
          refine ⟨_, rfl, 1, rfl, pf, _, rfl, SqL.of (s7 _ _ ef6), fun p8 z8 => ?_⟩
          rw [cut2]
          have s8 := same_upd (o := .lst rra) z8
          have e8 : upd H7 p8 (.lst rra) p8 = some (.lst rra) := upd_same
          generalize upd H7 p8 (.lst rra) = H8 at s8 e8 ⊢
          refine ⟨_, rfl, pf, _, _, _, rfl, rfl, SqL.of ((s7.trans s8) _ _ ef6), (show atI _ ((0 : Nat) : Int) = _ from atI_nat rfl), rfl, .inr ⟨_, rfl, ?_⟩⟩
          obtain ⟨kka, hkka⟩ : ∃ kk : Int, (if (!decide (V.str wa = V.str "ok")) = true then (1 : Int) else 0) = kk := ⟨_, rfl⟩
          have hk01a : kka = 0 ∨ kka = 1 := by
            rw [← hkka]
            split
            · exact .inr rfl
            · exact .inl rfl
          rw [hkka] at dtsa
          rw [hkka]
          have mula : rra.length * kka.toNat ≤ 1 := by rcases hk01a with h | h <;> rw [h] <;> simp <;> omega
          refine ⟨p8, _, _, rfl, rfl, e8, by omega, by omega, by rw [sizeLine_eq]; omega, fun p9 z9 => ?_⟩
          have s9 := same_upd (o := .lst (List.replicate kka.toNat rra).flatten) z9
          have e9 : upd H8 p9 (.lst (List.replicate kka.toNat rra).flatten) p9 = some (.lst (List.replicate kka.toNat rra).flatten) := upd_same
          generalize upd H8 p9 (.lst (List.replicate kka.toNat rra).flatten) = H9 at s9 e9 ⊢
          have fla : (List.replicate kka.toNat rra).flatten.length ≤ 1 := by rcases hk01a with h | h <;> rw [h] <;> simp <;> omega
          refine ⟨p7, p9, _, _, rfl, rfl, (s8.trans s9) _ _ e7, e9, by rw [sizeLine_eq, List.length_singleton]; omega, fun p10 z10 => ?_⟩
          have s10 := same_upd (o := .lst ([V.str wa] ++ (List.replicate kka.toNat rra).flatten)) z10
          have e10 : upd H9 p10 (.lst ([V.str wa] ++ (List.replicate kka.toNat rra).flatten)) p10 = some (.lst ([V.str wa] ++ (List.replicate kka.toNat rra).flatten)) := upd_same
          generalize upd H9 p10 (.lst ([V.str wa] ++ (List.replicate kka.toNat rra).flatten)) = H10 at s10 e10 ⊢
          have sAa := ((s7.trans s8).trans s9).trans s10
          have dla : Dat (R0 d r) H10 (.ref p10) (dueD dM row (.int 0)) := by
            rw [edsa]
            exact .lst ((rg0 dk6).new _ (((s7.trans s8).trans s9).free z10)) e10 (dtsa.same sAa)
          refine ⟨R0 d r, _, _, rfl, dla, sh1a, sh2a, sh3a, _, rfl, R0 d r, u2, _, rfl, du6.same sAa, sh1a, sh2a, sh3a, ?_⟩
          refine ne_same (iteF' ?_)
          have dk10 := dk6.same sAa
          have tb10 := tb6.ext sAa
          have dm10 := dm6.same sAa
          have stk10 := stk6.same sAa
          have FL10 := FL6.same sAa
          have FC10 := FC.same sAa
          have du10 := du6.same sAa
          have ef10 := sAa _ _ ef6
          have ec10 := sAa _ _ ec
          have e110 := sAa _ _ e16
          -- both
          refine next_in (nx_in ?_)
          refine seq_in fun D4 n1 n2 n3 n4 => ?_
          have rest4 : ∀ (H' : Hp) (u : V), Same H10 H' → Dat (R0 d r) H' u (dueD dM row c0) → D4.nx [some (.ref a), some (.ref d), some (.int (0 + ((i : Nat) : Int))), some (.ref L), some mv, some (.ref pr), some (.bl made), some cv, some sv, some u2, some (.ref pf), some (.ref pc), some u, y13, y14, y15, y16] H' := by
            rw [n1]
            clear n1 n2 n3 n4
            intro H12 u12 s12 du12
            have dk12 := dk10.same s12
            have FC12 := FC10.same s12
            have ec12 := s12 _ _ ec10
            have sh1b := fine_show _ okc.fi
            have sh2b := okc.shown (by omega)
            have sh3b : (dueD dM row c0).depth ≤ 100 := Nat.le_trans okc.dp (by omega)
            obtain ⟨wb, rrb, dsb, elb, hrb, edsb, dtsb⟩ := FC12.cut
            subst elb
            refine ⟨_, rfl, 1, rfl, pc, _, rfl, SqL.of ec12, fun p13 z13 => ?_⟩
            rw [cut1]
            have s13 := same_upd (o := .lst [V.str wb]) z13
            have e13 : upd H12 p13 (.lst [V.str wb]) p13 = some (.lst [V.str wb]) := upd_same
            generalize upd H12 p13 (.lst [V.str wb]) = H13 at s13 e13 ⊢
            refine ⟨_, rfl, 1, rfl, pc, _, rfl, SqL.of (s13 _ _ ec12), fun p14 z14 => ?_⟩
            rw [cut2]
            have s14 := same_upd (o := .lst rrb) z14
            have e14 : upd H13 p14 (.lst rrb) p14 = some (.lst rrb) := upd_same
            generalize upd H13 p14 (.lst rrb) = H14 at s14 e14 ⊢
            refine ⟨_, rfl, pc, _, _, _, rfl, rfl, SqL.of ((s13.trans s14) _ _ ec12), (show atI _ ((0 : Nat) : Int) = _ from atI_nat rfl), rfl, .inr ⟨_, rfl, ?_⟩⟩
            obtain ⟨kkb, hkkb⟩ : ∃ kk : Int, (if (!decide (V.str wb = V.str "ok")) = true then (1 : Int) else 0) = kk := ⟨_, rfl⟩
            have hk01b : kkb = 0 ∨ kkb = 1 := by
              rw [← hkkb]
              split
              · exact .inr rfl
              · exact .inl rfl
            rw [hkkb] at dtsb
            rw [hkkb]
            have mulb : rrb.length * kkb.toNat ≤ 1 := by rcases hk01b with h | h <;> rw [h] <;> simp <;> omega
            refine ⟨p14, _, _, rfl, rfl, e14, by omega, by omega, by rw [sizeLine_eq]; omega, fun p15 z15 => ?_⟩
            have s15 := same_upd (o := .lst (List.replicate kkb.toNat rrb).flatten) z15
            have e15 : upd H14 p15 (.lst (List.replicate kkb.toNat rrb).flatten) p15 = some (.lst (List.replicate kkb.toNat rrb).flatten) := upd_same
            generalize upd H14 p15 (.lst (List.replicate kkb.toNat rrb).flatten) = H15 at s15 e15 ⊢
            have flb : (List.replicate kkb.toNat rrb).flatten.length ≤ 1 := by rcases hk01b with h | h <;> rw [h] <;> simp <;> omega
            refine ⟨p13, p15, _, _, rfl, rfl, (s14.trans s15) _ _ e13, e15, by rw [sizeLine_eq, List.length_singleton]; omega, fun p16 z16 => ?_⟩
            have s16 := same_upd (o := .lst ([V.str wb] ++ (List.replicate kkb.toNat rrb).flatten)) z16
            have e16 : upd H15 p16 (.lst ([V.str wb] ++ (List.replicate kkb.toNat rrb).flatten)) p16 = some (.lst ([V.str wb] ++ (List.replicate kkb.toNat rrb).flatten)) := upd_same
            generalize upd H15 p16 (.lst ([V.str wb] ++ (List.replicate kkb.toNat rrb).flatten)) = H16 at s16 e16 ⊢
            have sAb := ((s13.trans s14).trans s15).trans s16
            have dlb : Dat (R0 d r) H16 (.ref p16) (dueD dM row c0) := by
              rw [edsb]
              exact .lst ((rg0 dk12).new _ (((s13.trans s14).trans s15).free z16)) e16 (dtsb.same sAb)
            refine ⟨R0 d r, _, _, rfl, dlb, sh1b, sh2b, sh3b, _, rfl, R0 d r, u12, _, rfl, du12.same sAb, sh1b, sh2b, sh3b, ?_⟩
            refine ne_same (iteF' ?_)
            have s1016 := s12.trans sAb
            have dk16 := dk10.same s1016
            have tb16 := tb10.ext s1016
            have dm16 := dm10.same s1016
            have stk16 := stk10.same s1016
            have FL16 := FL10.same s1016
            have FC16 := FC10.same s1016
            have du16 := du10.same s1016
            have dub16 := du12.same sAb
            have ef16 := s1016 _ _ ef10
            have ec16 := s1016 _ _ ec10
            have e116 := s1016 _ _ e110
            have lay0 : (dueD dM row (.int 0)).canLay0 = true := due_lay (lay_int 0)
            have layc : (dueD dM row c0).canLay0 = true := due_lay capl
            -- if due_here == ['ok']
            refine next_in (nx_in ?_)
            refine ⟨_, rfl, (by show 1 ≤ sizeLine; decide), fun p17 z17 => ?_⟩
            have s17 := same_upd (o := .lst [V.str "ok"]) z17
            have e17 : upd H16 p17 (.lst [V.str "ok"]) p17 = some (.lst [V.str "ok"]) := upd_same
            generalize upd H16 p17 (.lst [V.str "ok"]) = H17 at s17 e17 ⊢
            refine ⟨_, .list [.str "ok"], (du16.same s17).dp (lay_nd lay0), Dat.dp (R := fun _ => True) (.lst trivial e17 (.cons (.str _) .nil)) (by decide +kernel), shaped_of lay0 ok0 (by omega), by decide +kernel, _, rfl, ?_⟩
            have dk17 := dk16.same s17
            have tb17 := tb16.ext s17
            rcases (FL16.same s17).eqv with hf | ⟨ht, edue, z, xd, dxd, ow, to, pl, hz, el, exd, bo, epl⟩
            · rw [hf]
              refine iteF (next_in ?_)
              exact ⟨_, _, _, _, _, _, _, _, _, _, _, _, _, _, _, rfl, dk17.mono (by omega), tb17⟩
            rw [ht]
            refine iteT ?_
            obtain ⟨hzx, hmade⟩ := rowx z hz
            rw [hzx] at bo
            rw [List.append_nil] at exd
            have hdE := dueD_mkt edue
            have hmE := dErr_mErr hdE
            have layM := mkt_lay hmE
            have shM : SeqAt.shaped dM = true := shaped_of layM okD (by omega)
            obtain ⟨b, t, rfl, hb⟩ : ∃ b t, sv = .ref b ∧ Bg C H17 b t x := by
              rcases stk16.same s17 with ⟨b, t, z', e, hb, _, er⟩ | ⟨_, er⟩
              · rw [hz, hzx] at er
                cases er
                exact ⟨b, t, e, hb⟩
              · rw [hz] at er
                cases er
            obtain ⟨db, eb⟩ := hb.ins
            have ef17 := s17 _ _ ef16
            have e117 := s17 _ _ e116
            rw [el] at ef17
            have l1 := bagS_len aw x4
            have l3 : (" owes " : Str).length = 6 := by decide +kernel
            -- desk, text = found[1], str(stock) + ' owes '
            refine ⟨_, rfl, pf, _, _, _, rfl, rfl, SqL.of ef17, (show atI _ ((1 : Nat) : Int) = _ from atI_nat rfl), ?_⟩
            refine ⟨_, rfl, b, db, _, rfl, eb, b, t, x, rfl, hb, x4, aw, fun H18 s18 => ⟨_, rfl, _, _, rfl, rfl, by rw [l3, sizeLine_eq]; omega, _, _, rfl, ?_⟩⟩
            have s1718 := s18
            have l2 : (bagS x ++ (" owes " : Str)).length ≤ 130 := by rw [Str.length_append, l3]; omega
            have zok : BgOk (List.replicate x.length (0 : Int)) := ⟨by rw [List.length_replicate]; exact x1, by rw [List.length_replicate]; exact x4, fun y hy => by rw [List.eq_of_mem_replicate hy]; omega⟩
            have zaw : AmtsW (List.replicate x.length (0 : Int)) := fun y hy => by rw [List.eq_of_mem_replicate hy]; exact ⟨by decide, by decide⟩
            have z4 : (List.replicate x.length (0 : Int)).length ≤ 4 := by rw [List.length_replicate]; exact x4
            have zno : ¬ mkB (bagD (List.replicate x.length (0 : Int))) = false := by rw [mkB_ok zok]; exact fun z => nomatch z
            have lz := bagS_len zaw z4
            have lT := bal_len aw x4 zaw z4
            have xlen : (x.map V.int).length = x.length := List.length_map _
            -- text = text + str(Bag((0,) * len(row)))
            refine ⟨_, rfl, ?_⟩
            refine ⟨(by show 1 ≤ sizeLine; decide), fun p19 z19 => ?_⟩
            have s19 := same_upd (o := .tup [V.int 0]) z19
            have e19 : upd H18 p19 (.tup [V.int 0]) p19 = some (.tup [V.int 0]) := upd_same
            generalize upd H18 p19 (.tup [V.int 0]) = H19 at s19 e19 ⊢
            refine ⟨_, rfl, pr, _, rfl, .inr (.inl (.inl ((s18.trans s19) _ _ e117))), ?_⟩
            rw [xlen]
            refine rd_rep0 (R := fun _ => True) e19 trivial (fun _ _ => trivial) (by omega) fun H20 p20 s20 _ e20 => ?_
            refine ⟨_, rfl, .inl ⟨fun _ => True, _, Dat.mkBag trivial e20, by rw [List.length_map]; omega, fun _ H21 nb dn s21 f21 en => ?_, fun hm => absurd hm zno⟩⟩
            refine ⟨nb, dn, _, rfl, en, nb, p20, _, rfl, ⟨⟨dn, en⟩, s21 _ _ e20⟩, z4, zaw, fun H22 s22 => ⟨_, rfl, _, _, rfl, rfl, by rw [sizeLine_eq]; omega, ?_⟩⟩
            have s1722 := (((s18.trans s19).trans s20).trans s21).trans s22
            have exd22 := s1722 _ _ exd
            have hb22 := hb.same s1722
            have bo22 := bo.same s1722
            have epl22 := s1722 _ _ epl
            have dm22 := (dm16.same s17).same s1722
            have e122 := s1722 _ _ e117
            have dk22 := dk17.same s1722
            have tb22 := tb17.ext s1722
            have eT : bagS x ++ (" owes " : Str) ++ bagS (List.replicate x.length (0 : Int)) = balS x (List.replicate x.length 0) := rfl
            rw [eT]
            have dDc := DT.dD.dc
            -- told
            refine ⟨_, rfl, xd, dxd, _, rfl, exd22, xd, CD, dxd, _, mv, rfl, exd22, dDc.cl, dDc.n1, rfl, ?_⟩
            refine ⟨_, rfl, xd, dxd, _, rfl, exd22, xd, CD, dxd, _, _, rfl, exd22, dDc.cl, dDc.n2, rfl, rd_amt hb22 ?_⟩
            refine ⟨_, rfl, xd, dxd, _, rfl, exd22, xd, CD, dxd, _, _, rfl, exd22, dDc.cl, dDc.n3, rfl, rd_amt bo22 ?_⟩
            refine ⟨_, rfl, xd, dxd, _, rfl, exd22, xd, CD, dxd, _, pl, rfl, exd22, dDc, rfl, _, epl22, ?_⟩
            refine ⟨(by show 4 ≤ sizeLine; decide), fun p23 z23 => ?_⟩
            have s23 := same_upd (o := .lst [mv, V.ref t, V.ref to, V.int ((([] : List V).length : Nat) : Int)]) z23
            have e23 : upd H22 p23 (.lst [mv, V.ref t, V.ref to, V.int ((([] : List V).length : Nat) : Int)]) p23 = some (.lst [mv, V.ref t, V.ref to, V.int ((([] : List V).length : Nat) : Int)]) := upd_same
            generalize upd H22 p23 (.lst [mv, V.ref t, V.ref to, V.int ((([] : List V).length : Nat) : Int)]) = H23 at s23 e23 ⊢
            have exd23 := s23 _ _ exd22
            have bo23 := bo22.same s23
            have hb23 := hb22.same s23
            have epl23 := s23 _ _ epl22
            have dec0 : decide ((List.replicate x.length (0 : Int)).sum = 0) = true := decide_eq_true (sum_zeros _)
            -- told + [settled, len(desk), str(desk)]
            refine ⟨_, rfl, _, rfl, xd, dxd, _, rfl, exd23, xd, CD, dxd, _, ow, to, _, rfl, exd23, dDc, rfl, bo23, ?_⟩
            rw [dec0]
            refine ⟨_, rfl, xd, dxd, _, rfl, exd23, xd, CD, dxd, _, pl, rfl, exd23, dDc, rfl, _, epl23, 0, by decide, rfl, ?_⟩
            refine ⟨_, rfl, xd, dxd, _, rfl, exd23, ⟨xd, CD, dxd, _, b, t, ow, to, x, _, rfl, exd23, dDc, rfl, rfl, rfl, hb23, bo23, x4, aw, z4, zaw, fun H24 s24 => ⟨_, rfl, ?_⟩⟩, xd, dxd, _, rfl, exd23⟩
            refine ⟨(by show 3 ≤ sizeLine; decide), fun p25 z25 => ?_⟩
            have s25 := same_upd (o := .lst [V.bl true, V.int ((0 : Nat) : Int), V.str (balS x (List.replicate x.length 0))]) z25
            have e25 : upd H24 p25 (.lst [V.bl true, V.int ((0 : Nat) : Int), V.str (balS x (List.replicate x.length 0))]) p25 = some (.lst [V.bl true, V.int ((0 : Nat) : Int), V.str (balS x (List.replicate x.length 0))]) := upd_same
            generalize upd H24 p25 (.lst [V.bl true, V.int ((0 : Nat) : Int), V.str (balS x (List.replicate x.length 0))]) = H25 at s25 e25 ⊢
            refine ⟨p23, p25, _, _, rfl, rfl, (s24.trans s25) _ _ e23, e25, (by show 7 ≤ sizeLine; decide), fun p26 z26 => ?_⟩
            have s26 := same_upd (o := .lst ([mv, V.ref t, V.ref to, V.int ((([] : List V).length : Nat) : Int)] ++ [V.bl true, V.int ((0 : Nat) : Int), V.str (balS x (List.replicate x.length 0))])) z26
            have e26 : upd H25 p26 (.lst ([mv, V.ref t, V.ref to, V.int ((([] : List V).length : Nat) : Int)] ++ [V.bl true, V.int ((0 : Nat) : Int), V.str (balS x (List.replicate x.length 0))])) p26 = some (.lst ([mv, V.ref t, V.ref to, V.int ((([] : List V).length : Nat) : Int)] ++ [V.bl true, V.int ((0 : Nat) : Int), V.str (balS x (List.replicate x.length 0))])) := upd_same
            generalize upd H25 p26 (.lst ([mv, V.ref t, V.ref to, V.int ((([] : List V).length : Nat) : Int)] ++ [V.bl true, V.int ((0 : Nat) : Int), V.str (balS x (List.replicate x.length 0))])) = H26 at s26 e26 ⊢
            have s2226 := ((s23.trans s24).trans s25).trans s26
            have hb26 := hb22.same s2226
            have bo26 := bo22.same s2226
            have dm26 : Dat (fun _ => True) H26 mv dM := (dm22.same s2226).sub (fun _ _ _ _ => trivial)
            have okT : Ok 10000 6 (.list [dM, bagD x, bagD (List.replicate x.length 0), .int 0, .bool true, .int 0, .str (balS x (List.replicate x.length 0))]) := by
              have i0 : Ok 14 5 (.int 0) := ⟨by decide +kernel, by decide +kernel, by rw [PyData.depth]; omega⟩
              have b0 : Ok 14 5 (.bool true) := ⟨by decide +kernel, by decide +kernel, by rw [PyData.depth]; omega⟩
              have h := ((((((Oks.one okD).append (Oks.one ((bag_okW aw x4).mono (Nat.le_refl _) (by omega)))).append (Oks.one ((bag_okW zaw z4).mono (Nat.le_refl _) (by omega)))).append (Oks.one i0)).append (Oks.one b0)).append (Oks.one i0)).append (Oks.one ((bal_ok aw x4 zaw z4).mono (Nat.le_refl _) (by omega)))
              exact h.list.mono (by omega) (by omega)
            have tsh1 := fine_show _ okT.fi
            have tsh2 := okT.shown (by omega)
            have tsh3 : (PyData.list [dM, bagD x, bagD (List.replicate x.length 0), .int 0, .bool true, .int 0, .str (balS x (List.replicate x.length 0))]).depth ≤ 100 := Nat.le_trans okT.dp (by omega)
            -- repr(told) != repr([..])
            refine ⟨_, rfl, fun _ => True, _, _, rfl, .lst trivial e26 (.cons dm26 (.cons (Dat.mkBag trivial hb26.tup) (.cons (Dat.mkBag trivial bo26.tup) (.cons (.int _) (.cons (.bl _) (.cons (.int _) (.cons (.str _) .nil))))))), tsh1, tsh2, tsh3, ?_⟩
            refine ⟨_, rfl, _, rfl, (by show 1 ≤ sizeLine; decide), fun p27 z27 => ?_⟩
            have s27 := same_upd (o := .tup [V.int 0]) z27
            have e27 : upd H26 p27 (.tup [V.int 0]) p27 = some (.tup [V.int 0]) := upd_same
            generalize upd H26 p27 (.tup [V.int 0]) = H27 at s27 e27 ⊢
            have e127 := (s2226.trans s27) _ _ e122
            refine ⟨_, rfl, pr, _, rfl, .inr (.inl (.inl e127)), ?_⟩
            rw [xlen]
            refine rd_rep0 (R := fun _ => True) e27 trivial (fun _ _ => trivial) (by omega) fun H28 p28 s28 _ e28 => ?_
            refine ⟨_, rfl, (by show 7 ≤ sizeLine; decide), fun p29 z29 => ?_⟩
            have s29 := same_upd (o := .lst [mv, V.ref pr, V.ref p28, V.int 0, V.bl true, V.int 0, V.str (balS x (List.replicate x.length 0))]) z29
            have e29 : upd H28 p29 (.lst [mv, V.ref pr, V.ref p28, V.int 0, V.bl true, V.int 0, V.str (balS x (List.replicate x.length 0))]) p29 = some (.lst [mv, V.ref pr, V.ref p28, V.int 0, V.bl true, V.int 0, V.str (balS x (List.replicate x.length 0))]) := upd_same
            generalize upd H28 p29 (.lst [mv, V.ref pr, V.ref p28, V.int 0, V.bl true, V.int 0, V.str (balS x (List.replicate x.length 0))]) = H29 at s29 e29 ⊢
            have s2629 := (s27.trans s28).trans s29
            refine ⟨fun _ => True, _, _, rfl, .lst trivial e29 (.cons (dm26.same s2629) (.cons (Dat.mkBag trivial ((s28.trans s29) _ _ e127)) (.cons (Dat.mkBag trivial (s29 _ _ e28)) (.cons (.int _) (.cons (.bl _) (.cons (.int _) (.cons (.str _) .nil))))))), tsh1, tsh2, tsh3, ?_⟩
            refine ne_same (iteF' (next_in (nx_in ?_)))
            have s1729 := s1722.trans (s2226.trans s2629)
            have dk29 := dk17.same s1729
            have tb29 := tb17.ext s1729
            have exd29 := s1729 _ _ exd
            have hb29 := hb.same s1729
            have bo29 := bo.same s1729
            have dm29 := (dm16.same s17).same s1729
            have FC29 := (FC16.same s17).same s1729
            have dub29 := (dub16.same s17).same s1729
            have ec29 := s1729 _ _ (s17 _ _ ec16)
            -- if both == ['ok']
            refine ⟨_, rfl, (by show 1 ≤ sizeLine; decide), fun p30 z30 => ?_⟩
            have s30 := same_upd (o := .lst [V.str "ok"]) z30
            have e30 : upd H29 p30 (.lst [V.str "ok"]) p30 = some (.lst [V.str "ok"]) := upd_same
            generalize upd H29 p30 (.lst [V.str "ok"]) = H30 at s30 e30 ⊢
            refine ⟨_, .list [.str "ok"], (dub29.same s30).dp (lay_nd layc), Dat.dp (R := fun _ => True) (.lst trivial e30 (.cons (.str _) .nil)) (by decide +kernel), shaped_of layc okc (by omega), by decide +kernel, _, rfl, ?_⟩
            have dk30 := dk29.same s30
            have tb30 := tb29.ext s30
            rcases (FC29.same s30).eqv with hf | ⟨htc, eduec, zc, xc, dxc, owc, toc, plc, hzc, elc, exc, boc, eplc⟩
            · rw [hf]
              refine iteF (next_in ?_)
              exact ⟨_, _, _, _, _, _, _, _, _, _, _, _, _, _, _, rfl, dk30.mono (by omega), tb30⟩
            rw [htc]
            refine iteT ?_
            obtain ⟨hzcx, _⟩ := rowx zc hzc
            rw [hzcx] at boc
            have dCc := DT.dC.dc
            have hcap := dueD_cap eduec
            obtain ⟨n, rfl, n0⟩ : ∃ n : Int, cv = .int n ∧ 0 ≤ n := by
              cases capv with
              | int n => exact ⟨n, rfl, of_decide_eq_true hcap⟩
              | bl _ => exact absurd hcap Bool.false_ne_true
              | non => exact absurd hcap Bool.false_ne_true
              | str _ => exact absurd hcap Bool.false_ne_true
            have nB := capn n rfl n0
            have ec30 := s30 _ _ ec29
            rw [elc] at ec30
            have exd30 := s30 _ _ exd29
            have hb30 := hb29.same s30
            have bo30 := bo29.same s30
            have lc6 : (", cap " : Str).length = 6 := by decide +kernel
            have lnum := num_lenW n0 nB
            unfold numS at lnum
            -- other = capped[1]
            refine ⟨_, rfl, pc, _, _, _, rfl, rfl, SqL.of ec30, (show atI _ ((1 : Nat) : Int) = _ from atI_nat rfl), ?_⟩
            -- other.cap != cap or str(other) != text + ', cap ' + str(cap)
            refine ⟨_, rfl, xc, dxc, _, rfl, exc, xc, CC, dxc, _, .int n, rfl, exc, dCc.cl, DT.nm, rfl, ?_⟩
            refine ⟨_, rfl, rfl, false, by simp, iteF' ?_⟩
            refine ⟨_, rfl, xc, dxc, _, rfl, exc, ⟨xc, CC, dxc, _, b, t, owc, toc, x, _, n, rfl, exc, dCc, DT.nm, rfl, rfl, rfl, rfl, hb30, boc, x4, aw, z4, zaw, n0, nB, fun H31 s31 => ⟨_, rfl, ?_⟩⟩, xc, dxc, _, rfl, exc⟩
            refine ⟨_, rfl, _, _, rfl, rfl, by rw [lc6, sizeLine_eq]; omega, _, rfl, n, rfl, num_logW n0 nB, _, _, rfl, rfl, by rw [Str.length_append, lc6, sizeLine_eq]; omega, ?_⟩
            refine ne_same (iteF' (next_in (nx_in ?_)))
            have s3 := s30.trans s31
            have exc31 := s31 _ _ exc
            have exd31 := s31 _ _ exd30
            have dm31 : Dat (R0 d r) H31 mv dM := dm29.same s3
            have kC : Dsk K C CD H31 xc mv x (List.replicate x.length 0) := ⟨CC, dxc, _, b, t, owc, toc, DT.dC, exc31, rfl, rfl, rfl, hb30.same s31, boc.same s31⟩
            have kD : Dsk K C CD H31 xd mv x (List.replicate x.length 0) := ⟨CD, dxd, _, b, t, ow, to, DT.dD, exd31, rfl, rfl, rfl, hb30.same s31, bo30.same s31⟩
            have dp31 : Dp K H31 mv dM := dm31.dp (lay_nd layM)
            have eq1 : (PyData.eqv dM dM && (decide (x = x) && decide (List.replicate x.length (0 : Int) = List.replicate x.length (0 : Int)))) = true := by
              rw [SeqAt.eqv_refl dM layM, decide_eq_true rfl, decide_eq_true rfl]
              rfl
            -- not other == desk or desk != other or desk == market
            refine ⟨_, rfl, _, rfl, xc, dxc, _, xd, dxd, _, rfl, rfl, exc31, exd31, xc, mv, x, _, .ref xd, rfl, kC, xok, zok, .inr ⟨xd, mv, x, _, dM, dM, rfl, kD, xok, zok, dp31, dp31, shM, shM, ?_⟩⟩
            rw [eq1]
            refine ⟨_, rfl, iteF' ?_⟩
            refine ⟨_, rfl, _, rfl, xd, dxd, _, xc, dxc, _, rfl, rfl, exd31, exc31, xc, mv, x, _, .ref xd, rfl, kC, xok, zok, .inr ⟨xd, mv, x, _, dM, dM, rfl, kD, xok, zok, dp31, dp31, shM, shM, ?_⟩⟩
            rw [eq1]
            refine ⟨_, rfl, _, rfl, iteF' ?_⟩
            obtain ⟨Tm, hTm, tym⟩ : TyS K H31 mv := Dat.tyS dm31
            refine ⟨_, rfl, _, rfl, xd, dxd, _, rfl, exd31, .inr ⟨Tm, hTm, tym⟩, xd, mv, x, _, mv, rfl, kD, xok, zok, .inl ⟨_, tym, DT.sc Tm hTm, ?_⟩⟩
            refine ⟨_, rfl, iteF' (next_in ?_)⟩
            exact ⟨_, _, _, _, _, _, _, _, _, _, _, _, _, _, _, rfl, (dk30.same s31).mono (by omega), tb30.ext s31⟩
          cases made with
          | true =>
            refine ⟨_, rfl, _, rfl, _, rfl, _, rfl, iteT ?_⟩
            exact ⟨_, rfl, _, rfl, R0 d r, mv, sv, .ref pr, cv, dM, row, c0, rfl, dm10, wM, (rg0 dk10).new, hrow ▸ ⟨pr, rfl, e110, x4⟩, capv, rest4⟩
          | false =>
            refine ⟨_, rfl, _, rfl, _, rfl, _, rfl, iteF ?_⟩
            exact ⟨_, rfl, R0 d r, mv, sv, .non, cv, dM, row, c0, rfl, dm10, wM, (rg0 dk10).new, hrow ▸ rfl, capv, rest4⟩
        cases made with
        | true =>
          refine ⟨_, rfl, _, rfl, _, rfl, _, rfl, iteT ?_⟩
          exact ⟨_, rfl, R0 d r, mv, sv, .ref pr, _, dM, row, _, rfl, dm, wM, (rg0 dk).new, hrow ▸ ⟨pr, rfl, e1, x4⟩, .int 0, rest3⟩
        | false =>
          refine ⟨_, rfl, _, rfl, _, rfl, _, rfl, iteF ?_⟩
          exact ⟨R0 d r, mv, sv, .non, _, dM, row, _, rfl, dm, wM, (rg0 dk).new, hrow ▸ rfl, .int 0, rest3⟩
      cases made with
      | true =>
        refine ⟨_, rfl, _, rfl, iteT ?_⟩
        have no : ¬ mkB (bagD x) = false := by rw [mkB_ok xok]; exact fun z => nomatch z
        refine ⟨_, rfl, _, rfl, .inl ⟨fun _ => True, _, Dat.mkBag trivial e5, by rw [List.length_map]; omega, fun _ H6 px dpx s6 f6 epx => ?_, fun hm => absurd hm no⟩⟩
        exact rest2 H6 _ (dm5.same s6) (s6 _ _ e5) (.inl ⟨px, pr, x, rfl, ⟨⟨dpx, epx⟩, s6 _ _ e5⟩, xok, rfl⟩) ((dk5.same s6).mono (by omega)) (tb5.ext s6)
      | false =>
        refine ⟨_, rfl, _, rfl, iteF ?_⟩
        refine ⟨_, rfl, _, rfl, (by show 4 ≤ sizeLine; decide), fun L6 hL6 => ?_⟩
        have s6 := same_upd (o := .lst [V.ref pr, V.non, V.int 5, V.str "a"]) hL6
        have e6 : upd H5 L6 (.lst [V.ref pr, V.non, V.int 5, V.str "a"]) L6 = some (.lst [V.ref pr, V.non, V.int 5, V.str "a"]) := upd_same
        have ndL6 := dk5.nd hL6
        generalize upd H5 L6 (.lst [V.ref pr, V.non, V.int 5, V.str "a"]) = H6 at s6 e6 ⊢
        have dk6 := dk5.same s6
        refine ⟨d, cc, r, L6, _, _, rfl, dk6, by omega, e6, ndL6.1, ndL6.2.1, (by show 0 < 4; decide), (by show 4 ≤ 1000; decide), fun H7 j7 m7 hm7 dk7 k7 => ?_⟩
        have e7 : H7 pr = some (.tup (x.map V.int)) := kp_obj k7 dk6 (s6 _ _ e5) fun _ z => nomatch z
        have ty7 : TyS K H7 m7 := by
          match j7, hm7 with
          | 0, h => cases h; exact Dat.tyS (R := fun _ => True) (Dat.mkBag trivial e7)
          | 1, h => cases h; exact Dat.tyS (R := fun _ => True) Dat.non
          | 2, h => cases h; exact Dat.tyS (R := fun _ => True) (Dat.int 5)
          | 3, h => cases h; exact Dat.tyS (R := fun _ => True) (Dat.str "a")
        exact rest2 H7 m7 ((dm5.same s6).on ((rg0 dk6).on k7)) e7 (.inr ⟨ty7, rfl⟩) (dk7.mono (by omega)) (tabs_kp tb5 dk5 ((Kp.of s6).trans k7))
    have wM : wt dM ≤ 1000000 := Nat.le_trans okD.wt (by omega)
    refine ⟨_, rfl, R0 d r, mv, dM, rfl, dm12, wM, (rg0 dk12).new, fun H13 u13 s13 du13 => ⟨_, rfl, ?_⟩⟩
    have dk13 := dk12.same s13
    have dm13 := dm12.same s13
    have tb13 := tb12.ext s13
    have e13 := s13 _ _ e12
    by_cases hm : mErr dM = .none
    · rw [hm] at du13
      obtain rfl := du13.nonI
      rw [decide_eq_true rfl]
      refine iteT ⟨_, rfl, d, cc, r, _, 4, rfl, dk13, by omega, by omega, by omega, fun H14 v14 hv14 dk14 k14 => ⟨_, _, rfl, rfl, _, rfl, ?_⟩⟩
      have dm14 := dm13.on ((rg0 dk13).on k14)
      have tb14 := tabs_kp tb13 dk13 k14
      refine ite2 (fun _ => ?_) (fun _ => ?_)
      · obtain ⟨g, ts, rfl, g1, g4, t4⟩ := mErr_none hm
        obtain ⟨n, rfl⟩ : ∃ n : Nat, g = (n : Int) := ⟨g.toNat, by omega⟩
        obtain ⟨am, w1, w2, rfl, ram, eam, dg, dts⟩ := Dat.pair dm14
        obtain rfl := dg.intI
        refine ⟨_, rfl, _, rfl, am, _, _, _, rfl, rfl, tup_at0 eam, rfl, ?_⟩
        refine ⟨_, rfl, (by show 3 ≤ sizeLine; decide), fun L4 hL4 => ?_⟩
        have s15 := same_upd (o := .lst [V.int 6, V.int 6, V.int 7]) hL4
        have e15 : upd H14 L4 (.lst [V.int 6, V.int 6, V.int 7]) L4 = some (.lst [V.int 6, V.int 6, V.int 7]) := upd_same
        have ndL4 := dk14.nd hL4
        generalize upd H14 L4 (.lst [V.int 6, V.int 6, V.int 7]) = H15 at s15 e15 ⊢
        have dk15 := dk14.same s15
        refine ⟨d, cc, r, L4, _, _, rfl, dk15, by omega, e15, ndL4.1, ndL4.2.1, (by show 0 < 3; decide), (by show 3 ≤ 1000; decide), fun H16 j16 m16 hm16 dk16 k16 => ?_⟩
        obtain ⟨mm, rfl, hmm⟩ : ∃ mm : Nat, m16 = V.int (mm : Int) ∧ mm ≤ 8 := by
          match j16, hm16 with
          | 0, h => cases h; exact ⟨6, rfl, by omega⟩
          | 1, h => cases h; exact ⟨6, rfl, by omega⟩
          | 2, h => cases h; exact ⟨7, rfl, by omega⟩
        refine ⟨d, cc, r, _, n, mm, rfl, dk16, by omega, by omega, by omega, fun H17 pr' x' lx' hx' f17 e17 dk17 k17 => ?_⟩
        exact rest H17 pr' x' (((dm14.same s15).on ((rg0 dk15).on k16)).on ((rg0 dk16).on k17)) e17 (by omega) (by omega) (fun y hy => by have := hx' y hy; omega) (dk17.mono (by omega)) (tabs_kp tb14 dk14 ((Kp.of s15).trans (k16.trans k17)))
      · exact rest H14 pr x dm14 (kp_obj k14 dk13 e13 fun _ z => nomatch z) (by omega) (by omega) ax0 (dk14.mono (by omega)) tb14
    · rw [decide_eq_false (isNV_dat du13 hm)]
      exact iteF (iteF (rest H13 pr x dm13 e13 (by omega) (by omega) ax0 (dk13.mono (by omega)) tb13))

end
end Lb
set_option Elab.async false
set_option linter.all false
set_option maxRecDepth 100000
set_option maxHeartbeats 8000000
namespace Lb
open PySem PySem.Spec PyProof.Rows L2 RZ TL
section
variable {P : Program} {w : World} {K : PySem.W.Frag} {mg : Str → Option Value} {base : Heap}
theorem cfun_of {C g : Addr} {m : Str} {k : Nat} {ps : List Str} {sp : Sp} {mc : Value} (O : OwnM P w K mg base C m k ps sp) (a : PySem.W.findIn K (.ref C) m = some (some (.ref g))) (r : ClX.CRead K C mc) (v : PySem.W.findCls K (.ref C) mc m = some (.val (.ref g))) (kp : PySem.W.keepIn K (.ref g) = true) : CFunO P w K mg base C m k sp := by
  obtain ⟨f, fd, M, F, b⟩ := O.ex
  have e := M.at_.symm.trans a
  cases e
  exact ⟨mc, g, r, ⟨v, rfl⟩, kp, (FnOk.raw F b .nil).imp fun vs H Q E h => by rw [List.append_nil]; exact h⟩
theorem dist4 {a b c d : Addr × Str × Option Str} (h1 : PySem.W.exmOne K (.ref a.1) (.ref a.1) = some true) (h2 : PySem.W.exmOne K (.ref b.1) (.ref b.1) = some true) (h3 : PySem.W.exmOne K (.ref c.1) (.ref c.1) = some true) (h4 : PySem.W.exmOne K (.ref d.1) (.ref d.1) = some true)
    (ba : PySem.W.exmOne K (.ref b.1) (.ref a.1) = some false) (ca : PySem.W.exmOne K (.ref c.1) (.ref a.1) = some false) (da : PySem.W.exmOne K (.ref d.1) (.ref a.1) = some false) (cb : PySem.W.exmOne K (.ref c.1) (.ref b.1) = some false) (db : PySem.W.exmOne K (.ref d.1) (.ref b.1) = some false) (dc : PySem.W.exmOne K (.ref d.1) (.ref c.1) = some false) : Dist K [a, b, c, d] := by
  refine ⟨h1, fun x hx => ?_, h2, fun x hx => ?_, h3, fun x hx => ?_, h4, fun x hx => absurd hx List.not_mem_nil, trivial⟩
  · rcases List.mem_cons.mp hx with rfl | hx
    · exact ba
    rcases List.mem_cons.mp hx with rfl | hx
    · exact ca
    rw [List.mem_singleton.mp hx]
    exact da
  · rcases List.mem_cons.mp hx with rfl | hx
    · exact cb
    rw [List.mem_singleton.mp hx]
    exact db
  · rw [List.mem_singleton.mp hx]
    exact dc

end
end Lb
set_option Elab.async false
set_option linter.all false
set_option maxRecDepth 100000
set_option maxHeartbeats 8000000
namespace Lb
open PySem PySem.Spec PyProof.Rows L2 RZ
theorem all_mk {l : PySem.W.OpenLaw} {w : World} {K : PySem.W.Frag} {h : Heap} {mg : Str → Option Value} {fa f0 f1 f2 f3 f4 f5 f6 f7 f8 f9 f10 f11 f12 f13 f14 f15 f16 f17 f18 f19 f20 f21 f22 : Addr} (X : K.In h) (G : h.Ns mainGlobals mg) (hfa : mg "law" = some (.ref fa)) (own : LamX.OwnTab K fa h)
    {od0 an0 : Option Addr} {sl0 : Array (Option Value)} {oc0 kV0 dc0 pm0 cd0 ct0 : Value}
    {od1 an1 : Option Addr} {sl1 : Array (Option Value)} {oc1 kV1 dc1 pm1 cd1 ct1 : Value}
    {od2 an2 : Option Addr} {sl2 : Array (Option Value)} {oc2 kV2 dc2 pm2 cd2 ct2 : Value}
    {od3 an3 : Option Addr} {sl3 : Array (Option Value)} {oc3 kV3 dc3 pm3 cd3 ct3 : Value}
    {od4 an4 : Option Addr} {sl4 : Array (Option Value)} {oc4 kV4 dc4 pm4 cd4 ct4 : Value}
    {od5 an5 : Option Addr} {sl5 : Array (Option Value)} {oc5 kV5 dc5 pm5 cd5 ct5 : Value}
    {od6 an6 : Option Addr} {sl6 : Array (Option Value)} {oc6 kV6 dc6 pm6 cd6 ct6 : Value}
    {od7 an7 : Option Addr} {sl7 : Array (Option Value)} {oc7 kV7 dc7 pm7 cd7 ct7 : Value}
    {od8 an8 : Option Addr} {sl8 : Array (Option Value)} {oc8 kV8 dc8 pm8 cd8 ct8 : Value}
    {od9 an9 : Option Addr} {sl9 : Array (Option Value)} {oc9 kV9 dc9 pm9 cd9 ct9 : Value}
    {od10 an10 : Option Addr} {sl10 : Array (Option Value)} {oc10 kV10 dc10 pm10 cd10 ct10 : Value}
    {od11 an11 : Option Addr} {sl11 : Array (Option Value)} {oc11 kV11 dc11 pm11 cd11 ct11 : Value}
    {od12 an12 : Option Addr} {sl12 : Array (Option Value)} {oc12 kV12 dc12 pm12 cd12 ct12 : Value}
    {od13 an13 : Option Addr} {sl13 : Array (Option Value)} {oc13 kV13 dc13 pm13 cd13 ct13 : Value}
    {od14 an14 : Option Addr} {sl14 : Array (Option Value)} {oc14 kV14 dc14 pm14 cd14 ct14 : Value}
    {od15 an15 : Option Addr} {sl15 : Array (Option Value)} {oc15 kV15 dc15 pm15 cd15 ct15 : Value}
    {od16 an16 : Option Addr} {sl16 : Array (Option Value)} {oc16 kV16 dc16 pm16 cd16 ct16 : Value}
    {od17 an17 : Option Addr} {sl17 : Array (Option Value)} {oc17 kV17 dc17 pm17 cd17 ct17 : Value}
    {od18 an18 : Option Addr} {sl18 : Array (Option Value)} {oc18 kV18 dc18 pm18 cd18 ct18 : Value}
    {od19 an19 : Option Addr} {sl19 : Array (Option Value)} {oc19 kV19 dc19 pm19 cd19 ct19 : Value}
    {od20 an20 : Option Addr} {sl20 : Array (Option Value)} {oc20 kV20 dc20 pm20 cd20 ct20 : Value}
    {od21 an21 : Option Addr} {sl21 : Array (Option Value)} {oc21 kV21 dc21 pm21 cd21 ct21 : Value}
    {od22 an22 : Option Addr} {sl22 : Array (Option Value)} {oc22 kV22 dc22 pm22 ct22 : Value}
    {cL Pt : Addr} {oe : Value} {odd : Option Addr} {vsC : Array Value} {slC : Array (Option Value)}
    (a0 : PySem.W.nsIn K mainGlobals "_law_deck" = some (some (.ref f0)))
    (l0 : K.lookup f0 = some ⟨oc0, od0, .func (PySem.W.fnOf "_law_deck" "_law_deck" (defArgs s__law_deck) (defBody s__law_deck) (defScope s__law_deck) .none kV0 dc0 pm0 an0 cd0 ct0), sl0⟩) (c0 : PySem.W.codeIn K cd0 "_law_deck" = true) (k0 : PySem.W.keepIn K (.ref f0) = true)
    (a1 : PySem.W.nsIn K mainGlobals "_law_draw" = some (some (.ref f1)))
    (l1 : K.lookup f1 = some ⟨oc1, od1, .func (PySem.W.fnOf "_law_draw" "_law_draw" (defArgs s__law_draw) (defBody s__law_draw) (defScope s__law_draw) .none kV1 dc1 pm1 an1 cd1 ct1), sl1⟩) (c1 : PySem.W.codeIn K cd1 "_law_draw" = true) (k1 : PySem.W.keepIn K (.ref f1) = true)
    (a2 : PySem.W.nsIn K mainGlobals "_law_one" = some (some (.ref f2)))
    (l2 : K.lookup f2 = some ⟨oc2, od2, .func (PySem.W.fnOf "_law_one" "_law_one" (defArgs s__law_one) (defBody s__law_one) (defScope s__law_one) .none kV2 dc2 pm2 an2 cd2 ct2), sl2⟩) (c2 : PySem.W.codeIn K cd2 "_law_one" = true) (k2 : PySem.W.keepIn K (.ref f2) = true)
    (a3 : PySem.W.nsIn K mainGlobals "_law_bag" = some (some (.ref f3)))
    (l3 : K.lookup f3 = some ⟨oc3, od3, .func (PySem.W.fnOf "_law_bag" "_law_bag" (defArgs s__law_bag) (defBody s__law_bag) (defScope s__law_bag) .none kV3 dc3 pm3 an3 cd3 ct3), sl3⟩) (c3 : PySem.W.codeIn K cd3 "_law_bag" = true) (k3 : PySem.W.keepIn K (.ref f3) = true)
    (a4 : PySem.W.nsIn K mainGlobals "_law_side" = some (some (.ref f4)))
    (l4 : K.lookup f4 = some ⟨oc4, od4, .func (PySem.W.fnOf "_law_side" "_law_side" (defArgs s__law_side) (defBody s__law_side) (defScope s__law_side) .none kV4 dc4 pm4 an4 cd4 ct4), sl4⟩) (c4 : PySem.W.codeIn K cd4 "_law_side" = true) (k4 : PySem.W.keepIn K (.ref f4) = true)
    (a5 : PySem.W.nsIn K mainGlobals "_law_trade" = some (some (.ref f5)))
    (l5 : K.lookup f5 = some ⟨oc5, od5, .func (PySem.W.fnOf "_law_trade" "_law_trade" (defArgs s__law_trade) (defBody s__law_trade) (defScope s__law_trade) .none kV5 dc5 pm5 an5 cd5 ct5), sl5⟩) (c5 : PySem.W.codeIn K cd5 "_law_trade" = true) (k5 : PySem.W.keepIn K (.ref f5) = true)
    (a6 : PySem.W.nsIn K mainGlobals "_law_market" = some (some (.ref f6)))
    (l6 : K.lookup f6 = some ⟨oc6, od6, .func (PySem.W.fnOf "_law_market" "_law_market" (defArgs s__law_market) (defBody s__law_market) (defScope s__law_market) .none kV6 dc6 pm6 an6 cd6 ct6), sl6⟩) (c6 : PySem.W.codeIn K cd6 "_law_market" = true) (k6 : PySem.W.keepIn K (.ref f6) = true)
    (a7 : PySem.W.nsIn K mainGlobals "_law_small" = some (some (.ref f7)))
    (l7 : K.lookup f7 = some ⟨oc7, od7, .func (PySem.W.fnOf "_law_small" "_law_small" (defArgs s__law_small) (defBody s__law_small) (defScope s__law_small) .none kV7 dc7 pm7 an7 cd7 ct7), sl7⟩) (c7 : PySem.W.codeIn K cd7 "_law_small" = true) (k7 : PySem.W.keepIn K (.ref f7) = true)
    (a8 : PySem.W.nsIn K mainGlobals "_law_any_market" = some (some (.ref f8)))
    (l8 : K.lookup f8 = some ⟨oc8, od8, .func (PySem.W.fnOf "_law_any_market" "_law_any_market" (defArgs s__law_any_market) (defBody s__law_any_market) (defScope s__law_any_market) .none kV8 dc8 pm8 an8 cd8 ct8), sl8⟩) (c8 : PySem.W.codeIn K cd8 "_law_any_market" = true) (k8 : PySem.W.keepIn K (.ref f8) = true)
    (a9 : PySem.W.nsIn K mainGlobals "_law_plus" = some (some (.ref f9)))
    (l9 : K.lookup f9 = some ⟨oc9, od9, .func (PySem.W.fnOf "_law_plus" "_law_plus" (defArgs s__law_plus) (defBody s__law_plus) (defScope s__law_plus) .none kV9 dc9 pm9 an9 cd9 ct9), sl9⟩) (c9 : PySem.W.codeIn K cd9 "_law_plus" = true) (k9 : PySem.W.keepIn K (.ref f9) = true)
    (a10 : PySem.W.nsIn K mainGlobals "_law_spoilt" = some (some (.ref f10)))
    (l10 : K.lookup f10 = some ⟨oc10, od10, .func (PySem.W.fnOf "_law_spoilt" "_law_spoilt" (defArgs s__law_spoilt) (defBody s__law_spoilt) (defScope s__law_spoilt) .none kV10 dc10 pm10 an10 cd10 ct10), sl10⟩) (c10 : PySem.W.codeIn K cd10 "_law_spoilt" = true) (k10 : PySem.W.keepIn K (.ref f10) = true)
    (a11 : PySem.W.nsIn K mainGlobals "_law_made" = some (some (.ref f11)))
    (l11 : K.lookup f11 = some ⟨oc11, od11, .func (PySem.W.fnOf "_law_made" "_law_made" (defArgs s__law_made) (defBody s__law_made) (defScope s__law_made) .none kV11 dc11 pm11 an11 cd11 ct11), sl11⟩) (c11 : PySem.W.codeIn K cd11 "_law_made" = true) (k11 : PySem.W.keepIn K (.ref f11) = true)
    (a12 : PySem.W.nsIn K mainGlobals "_law_due" = some (some (.ref f12)))
    (l12 : K.lookup f12 = some ⟨oc12, od12, .func (PySem.W.fnOf "_law_due" "_law_due" (defArgs s__law_due) (defBody s__law_due) (defScope s__law_due) .none kV12 dc12 pm12 an12 cd12 ct12), sl12⟩) (c12 : PySem.W.codeIn K cd12 "_law_due" = true) (k12 : PySem.W.keepIn K (.ref f12) = true)
    (a13 : PySem.W.nsIn K mainGlobals "is_whole" = some (some (.ref f13)))
    (l13 : K.lookup f13 = some ⟨oc13, od13, .func (PySem.W.fnOf "is_whole" "is_whole" (defArgs s_is_whole) (defBody s_is_whole) (defScope s_is_whole) .none kV13 dc13 pm13 an13 cd13 ct13), sl13⟩) (c13 : PySem.W.codeIn K cd13 "is_whole" = true) (k13 : PySem.W.keepIn K (.ref f13) = true)
    (a14 : PySem.W.nsIn K mainGlobals "is_pair" = some (some (.ref f14)))
    (l14 : K.lookup f14 = some ⟨oc14, od14, .func (PySem.W.fnOf "is_pair" "is_pair" (defArgs s_is_pair) (defBody s_is_pair) (defScope s_is_pair) .none kV14 dc14 pm14 an14 cd14 ct14), sl14⟩) (c14 : PySem.W.codeIn K cd14 "is_pair" = true) (k14 : PySem.W.keepIn K (.ref f14) = true)
    (a15 : PySem.W.nsIn K mainGlobals "is_bag" = some (some (.ref f15)))
    (l15 : K.lookup f15 = some ⟨oc15, od15, .func (PySem.W.fnOf "is_bag" "is_bag" (defArgs s_is_bag) (defBody s_is_bag) (defScope s_is_bag) .none kV15 dc15 pm15 an15 cd15 ct15), sl15⟩) (c15 : PySem.W.codeIn K cd15 "is_bag" = true) (k15 : PySem.W.keepIn K (.ref f15) = true)
    (a16 : PySem.W.nsIn K mainGlobals "trade_fault" = some (some (.ref f16)))
    (l16 : K.lookup f16 = some ⟨oc16, od16, .func (PySem.W.fnOf "trade_fault" "trade_fault" (defArgs s_trade_fault) (defBody s_trade_fault) (defScope s_trade_fault) .none kV16 dc16 pm16 an16 cd16 ct16), sl16⟩) (c16 : PySem.W.codeIn K cd16 "trade_fault" = true) (k16 : PySem.W.keepIn K (.ref f16) = true)
    (a17 : PySem.W.nsIn K mainGlobals "market_error" = some (some (.ref f17)))
    (l17 : K.lookup f17 = some ⟨oc17, od17, .func (PySem.W.fnOf "market_error" "market_error" (defArgs s_market_error) (defBody s_market_error) (defScope s_market_error) .none kV17 dc17 pm17 an17 cd17 ct17), sl17⟩) (c17 : PySem.W.codeIn K cd17 "market_error" = true) (k17 : PySem.W.keepIn K (.ref f17) = true)
    (a18 : PySem.W.nsIn K mainGlobals "first_lacking" = some (some (.ref f18)))
    (l18 : K.lookup f18 = some ⟨oc18, od18, .func (PySem.W.fnOf "first_lacking" "first_lacking" (defArgs s_first_lacking) (defBody s_first_lacking) (defScope s_first_lacking) .none kV18 dc18 pm18 an18 cd18 ct18), sl18⟩) (c18 : PySem.W.codeIn K cd18 "first_lacking" = true) (k18 : PySem.W.keepIn K (.ref f18) = true)
    (a19 : PySem.W.nsIn K mainGlobals "desk_error" = some (some (.ref f19)))
    (l19 : K.lookup f19 = some ⟨oc19, od19, .func (PySem.W.fnOf "desk_error" "desk_error" (defArgs s_desk_error) (defBody s_desk_error) (defScope s_desk_error) .none kV19 dc19 pm19 an19 cd19 ct19), sl19⟩) (c19 : PySem.W.codeIn K cd19 "desk_error" = true) (k19 : PySem.W.keepIn K (.ref f19) = true)
    (a20 : PySem.W.nsIn K mainGlobals "check_kind" = some (some (.ref f20)))
    (l20 : K.lookup f20 = some ⟨oc20, od20, .func (PySem.W.fnOf "check_kind" "check_kind" (defArgs s_check_kind) (defBody s_check_kind) (defScope s_check_kind) .none kV20 dc20 pm20 an20 cd20 ct20), sl20⟩) (c20 : PySem.W.codeIn K cd20 "check_kind" = true) (k20 : PySem.W.keepIn K (.ref f20) = true)
    (a21 : PySem.W.nsIn K mainGlobals "check_room" = some (some (.ref f21)))
    (l21 : K.lookup f21 = some ⟨oc21, od21, .func (PySem.W.fnOf "check_room" "check_room" (defArgs s_check_room) (defBody s_check_room) (defScope s_check_room) .none kV21 dc21 pm21 an21 cd21 ct21), sl21⟩) (c21 : PySem.W.codeIn K cd21 "check_room" = true) (k21 : PySem.W.keepIn K (.ref f21) = true)
    (a22 : PySem.W.nsIn K mainGlobals "law" = some (some (.ref f22)))
    (l22 : K.lookup f22 = some ⟨oc22, od22, .func (PySem.W.fnOf "law" "law" (defArgs s_law) (defBody s_law) (defScope s_law) .none kV22 dc22 pm22 an22 (.ref cL) ct22), sl22⟩) (c22 : PySem.W.codeIn K (.ref cL) "law" = true) (k22 : PySem.W.keepIn K (.ref f22) = true)
    (vl : K.lookup cL = some ⟨oe, odd, .fields vsC, slC⟩) (v11 : vsC[11]? = some (.ref Pt)) (nPt : K.lookup Pt = none) (hhd : PySem.W.codeHdIn K cL Pt = true)
    {C_BadMarket fI_BadMarket N_BadMarket : Addr} {nm_BadMarket q_BadMarket : Str} {bs_BadMarket bm_BadMarket sub_BadMarket : List Value} {sn_BadMarket : List Str} {ab_BadMarket : Bool} {col_BadMarket : Option Bool} {dd_BadMarket : Option Addr} {m0_BadMarket m1_BadMarket m2_BadMarket m3_BadMarket m5_BadMarket : Option Value} {odI_BadMarket anI_BadMarket : Option Addr} {slI_BadMarket : Array (Option Value)} {ocI_BadMarket kVI_BadMarket dcI_BadMarket pmI_BadMarket cdI_BadMarket ctI_BadMarket : Value}
    (eA_BadMarket : PySem.W.nsIn K mainGlobals "BadMarket" = some (some (.ref C_BadMarket))) (eX_BadMarket : K.lookup C_BadMarket = some (excClassObj nm_BadMarket q_BadMarket C_BadMarket N_BadMarket bs_BadMarket bm_BadMarket true sn_BadMarket sub_BadMarket ab_BadMarket col_BadMarket dd_BadMarket m0_BadMarket m1_BadMarket m2_BadMarket m3_BadMarket m5_BadMarket "ValueError.__new__")) (eR_BadMarket : PySem.HandSPX.refsVE bm_BadMarket = true)
    (eS_BadMarket : PySem.W.findIn K (.ref C_BadMarket) "__setattr__" = some (some (.builtin "object.__setattr__"))) (eG_BadMarket : PySem.W.findIn K (.ref C_BadMarket) "__getattribute__" = some (some (.builtin "BaseException.__getattribute__"))) (eH_BadMarket : PySem.W.findIn K (.ref C_BadMarket) "__getattr__" = some none) (eN_BadMarket : PySem.W.findIn K (.ref C_BadMarket) "error" = some none)
    (eK_BadMarket : PySem.W.keepIn K (.ref C_BadMarket) = true) (eB_BadMarket : PySem.W.subIn K (.ref C_BadMarket) (.type "BaseException") = some true) (eT_BadMarket : PySem.W.typeIn K (.ref C_BadMarket) = some (.type "type")) (eD_BadMarket : PySem.W.hasDictIn K C_BadMarket = true) (eM_BadMarket : PySem.W.exmOne K (.ref C_BadMarket) (.ref C_BadMarket) = some true)
    (eI_BadMarket : PySem.W.findIn K (.ref C_BadMarket) "__init__" = some (some (.ref fI_BadMarket))) (eJ_BadMarket : PySem.W.typeIn K (.ref fI_BadMarket) = some (.type "function")) (eL_BadMarket : K.lookup fI_BadMarket = some ⟨ocI_BadMarket, odI_BadMarket, .func (PySem.W.fnOf "__init__" "BadMarket.__init__" (defArgs s_BadMarket___init__) (defBody s_BadMarket___init__) (defScope s_BadMarket___init__) .none kVI_BadMarket dcI_BadMarket pmI_BadMarket anI_BadMarket cdI_BadMarket ctI_BadMarket), slI_BadMarket⟩) (eC_BadMarket : PySem.W.codeIn K cdI_BadMarket "BadMarket.__init__" = true) (eQ_BadMarket : PySem.W.keepIn K (.ref fI_BadMarket) = true)
    {C_TooMuch fI_TooMuch N_TooMuch : Addr} {nm_TooMuch q_TooMuch : Str} {bs_TooMuch bm_TooMuch sub_TooMuch : List Value} {sn_TooMuch : List Str} {ab_TooMuch : Bool} {col_TooMuch : Option Bool} {dd_TooMuch : Option Addr} {m0_TooMuch m1_TooMuch m2_TooMuch m3_TooMuch m5_TooMuch : Option Value} {odI_TooMuch anI_TooMuch : Option Addr} {slI_TooMuch : Array (Option Value)} {ocI_TooMuch kVI_TooMuch dcI_TooMuch pmI_TooMuch cdI_TooMuch ctI_TooMuch : Value}
    (eA_TooMuch : PySem.W.nsIn K mainGlobals "TooMuch" = some (some (.ref C_TooMuch))) (eX_TooMuch : K.lookup C_TooMuch = some (excClassObj nm_TooMuch q_TooMuch C_TooMuch N_TooMuch bs_TooMuch bm_TooMuch true sn_TooMuch sub_TooMuch ab_TooMuch col_TooMuch dd_TooMuch m0_TooMuch m1_TooMuch m2_TooMuch m3_TooMuch m5_TooMuch "ValueError.__new__")) (eR_TooMuch : PySem.HandSPX.refsVE bm_TooMuch = true)
    (eS_TooMuch : PySem.W.findIn K (.ref C_TooMuch) "__setattr__" = some (some (.builtin "object.__setattr__"))) (eG_TooMuch : PySem.W.findIn K (.ref C_TooMuch) "__getattribute__" = some (some (.builtin "BaseException.__getattribute__"))) (eH_TooMuch : PySem.W.findIn K (.ref C_TooMuch) "__getattr__" = some none) (eN_TooMuch : PySem.W.findIn K (.ref C_TooMuch) "good" = some none)
    (eK_TooMuch : PySem.W.keepIn K (.ref C_TooMuch) = true) (eB_TooMuch : PySem.W.subIn K (.ref C_TooMuch) (.type "BaseException") = some true) (eT_TooMuch : PySem.W.typeIn K (.ref C_TooMuch) = some (.type "type")) (eD_TooMuch : PySem.W.hasDictIn K C_TooMuch = true) (eM_TooMuch : PySem.W.exmOne K (.ref C_TooMuch) (.ref C_TooMuch) = some true)
    (eI_TooMuch : PySem.W.findIn K (.ref C_TooMuch) "__init__" = some (some (.ref fI_TooMuch))) (eJ_TooMuch : PySem.W.typeIn K (.ref fI_TooMuch) = some (.type "function")) (eL_TooMuch : K.lookup fI_TooMuch = some ⟨ocI_TooMuch, odI_TooMuch, .func (PySem.W.fnOf "__init__" "TooMuch.__init__" (defArgs s_TooMuch___init__) (defBody s_TooMuch___init__) (defScope s_TooMuch___init__) .none kVI_TooMuch dcI_TooMuch pmI_TooMuch anI_TooMuch cdI_TooMuch ctI_TooMuch), slI_TooMuch⟩) (eC_TooMuch : PySem.W.codeIn K cdI_TooMuch "TooMuch.__init__" = true) (eQ_TooMuch : PySem.W.keepIn K (.ref fI_TooMuch) = true)
    {C_BadTimes fI_BadTimes N_BadTimes : Addr} {nm_BadTimes q_BadTimes : Str} {bs_BadTimes bm_BadTimes sub_BadTimes : List Value} {sn_BadTimes : List Str} {ab_BadTimes : Bool} {col_BadTimes : Option Bool} {dd_BadTimes : Option Addr} {m0_BadTimes m1_BadTimes m2_BadTimes m3_BadTimes m5_BadTimes : Option Value} {odI_BadTimes anI_BadTimes : Option Addr} {slI_BadTimes : Array (Option Value)} {ocI_BadTimes kVI_BadTimes dcI_BadTimes pmI_BadTimes cdI_BadTimes ctI_BadTimes : Value}
    (eA_BadTimes : PySem.W.nsIn K mainGlobals "BadTimes" = some (some (.ref C_BadTimes))) (eX_BadTimes : K.lookup C_BadTimes = some (excClassObj nm_BadTimes q_BadTimes C_BadTimes N_BadTimes bs_BadTimes bm_BadTimes true sn_BadTimes sub_BadTimes ab_BadTimes col_BadTimes dd_BadTimes m0_BadTimes m1_BadTimes m2_BadTimes m3_BadTimes m5_BadTimes "ValueError.__new__")) (eR_BadTimes : PySem.HandSPX.refsVE bm_BadTimes = true)
    (eS_BadTimes : PySem.W.findIn K (.ref C_BadTimes) "__setattr__" = some (some (.builtin "object.__setattr__"))) (eG_BadTimes : PySem.W.findIn K (.ref C_BadTimes) "__getattribute__" = some (some (.builtin "BaseException.__getattribute__"))) (eH_BadTimes : PySem.W.findIn K (.ref C_BadTimes) "__getattr__" = some none) (eN_BadTimes : PySem.W.findIn K (.ref C_BadTimes) "value" = some none)
    (eK_BadTimes : PySem.W.keepIn K (.ref C_BadTimes) = true) (eB_BadTimes : PySem.W.subIn K (.ref C_BadTimes) (.type "BaseException") = some true) (eT_BadTimes : PySem.W.typeIn K (.ref C_BadTimes) = some (.type "type")) (eD_BadTimes : PySem.W.hasDictIn K C_BadTimes = true) (eM_BadTimes : PySem.W.exmOne K (.ref C_BadTimes) (.ref C_BadTimes) = some true)
    (eI_BadTimes : PySem.W.findIn K (.ref C_BadTimes) "__init__" = some (some (.ref fI_BadTimes))) (eJ_BadTimes : PySem.W.typeIn K (.ref fI_BadTimes) = some (.type "function")) (eL_BadTimes : K.lookup fI_BadTimes = some ⟨ocI_BadTimes, odI_BadTimes, .func (PySem.W.fnOf "__init__" "BadTimes.__init__" (defArgs s_BadTimes___init__) (defBody s_BadTimes___init__) (defScope s_BadTimes___init__) .none kVI_BadTimes dcI_BadTimes pmI_BadTimes anI_BadTimes cdI_BadTimes ctI_BadTimes), slI_BadTimes⟩) (eC_BadTimes : PySem.W.codeIn K cdI_BadTimes "BadTimes.__init__" = true) (eQ_BadTimes : PySem.W.keepIn K (.ref fI_BadTimes) = true)
    {C_BadBag : Addr} (zA_BadBag : PySem.W.nsIn K mainGlobals "BadBag" = some (some (.ref C_BadBag))) (zX_BadBag : PySem.W.excIn K C_BadBag [.type "ValueError", .type "Exception", .type "BaseException", .type "object"] "ValueError.__new__" = true)
    (zK_BadBag : PySem.W.keepIn K (.ref C_BadBag) = true) (zB_BadBag : PySem.W.subIn K (.ref C_BadBag) (.type "BaseException") = some true) (zT_BadBag : PySem.W.typeIn K (.ref C_BadBag) = some (.type "type")) (zM_BadBag : PySem.W.exmOne K (.ref C_BadBag) (.ref C_BadBag) = some true)
    {C_Bag : Addr} (bA : PySem.W.nsIn K mainGlobals "Bag" = some (some (.ref C_Bag))) (bG : PySem.W.plainGet K C_Bag Str.empty = true) (bD : PySem.W.hasDictIn K C_Bag = true) (bO : PySem.W.plainOver K C_Bag = true) (bS : PySem.W.findIn K (.ref C_Bag) "__setattr__" = some (some (.builtin "object.__setattr__")))
    (bN : PySem.W.findIn K (.ref C_Bag) "held" = some none) (bF : PySem.W.selfFirst K C_Bag = true) (bCa : PySem.W.findIn K (.ref C_Bag) "__class__" = some (some (.builtin "object.__class__"))) (bCn : PySem.W.specialIn K (.builtin "object.__class__") "__get__" = some (some (.builtin "getset_descriptor.__get__"))) (bCt : PySem.W.takesIn K (.builtin "object.__class__") = some true) (bCm : PySem.W.mroIn K C_Bag (.type "object") = some true)
    (bK : PySem.W.kitOne K (.ref C_Bag) (.ref C_Bag) = some true) (bR : PySem.W.readsIn K C_Bag (.type "type") = true) (bRg : PySem.W.specialIn K (.ref C_Bag) "__getattribute__" = some (some (.builtin "type.__getattribute__"))) {tB : Tok} (bV : PySem.W.findCls K (.ref C_Bag) (.type "type") "LIMIT" = some (.val (.int 4 tB))) (bM : PySem.W.makesIn K C_Bag = true) (bP : PySem.W.keepIn K (.ref C_Bag) = true)
    {g___init__ : Addr} {odM___init__ anM___init__ : Option Addr} {slM___init__ : Array (Option Value)} {ocM___init__ kVM___init__ dcM___init__ pmM___init__ cdM___init__ ctM___init__ : Value}
    (mA___init__ : PySem.W.findIn K (.ref C_Bag) "__init__" = some (some (.ref g___init__))) (mJ___init__ : PySem.W.typeIn K (.ref g___init__) = some (.type "function")) (mL___init__ : K.lookup g___init__ = some ⟨ocM___init__, odM___init__, .func (PySem.W.fnOf "__init__" "Bag.__init__" (defArgs s_Bag___init__) (defBody s_Bag___init__) (defScope s_Bag___init__) .none kVM___init__ dcM___init__ pmM___init__ anM___init__ cdM___init__ ctM___init__), slM___init__⟩) (mC___init__ : PySem.W.codeIn K cdM___init__ "Bag.__init__" = true) (mK___init__ : PySem.W.keepIn K (.ref g___init__) = true)
    {g_is_like : Addr} {odM_is_like anM_is_like : Option Addr} {slM_is_like : Array (Option Value)} {ocM_is_like kVM_is_like dcM_is_like pmM_is_like cdM_is_like ctM_is_like : Value}
    (mA_is_like : PySem.W.findIn K (.ref C_Bag) "is_like" = some (some (.ref g_is_like))) (mJ_is_like : PySem.W.typeIn K (.ref g_is_like) = some (.type "function")) (mL_is_like : K.lookup g_is_like = some ⟨ocM_is_like, odM_is_like, .func (PySem.W.fnOf "is_like" "Bag.is_like" (defArgs s_Bag_is_like) (defBody s_Bag_is_like) (defScope s_Bag_is_like) .none kVM_is_like dcM_is_like pmM_is_like anM_is_like cdM_is_like ctM_is_like), slM_is_like⟩) (mC_is_like : PySem.W.codeIn K cdM_is_like "Bag.is_like" = true) (mK_is_like : PySem.W.keepIn K (.ref g_is_like) = true)
    {g___len__ : Addr} {odM___len__ anM___len__ : Option Addr} {slM___len__ : Array (Option Value)} {ocM___len__ kVM___len__ dcM___len__ pmM___len__ cdM___len__ ctM___len__ : Value}
    (mA___len__ : PySem.W.findIn K (.ref C_Bag) "__len__" = some (some (.ref g___len__))) (mJ___len__ : PySem.W.typeIn K (.ref g___len__) = some (.type "function")) (mL___len__ : K.lookup g___len__ = some ⟨ocM___len__, odM___len__, .func (PySem.W.fnOf "__len__" "Bag.__len__" (defArgs s_Bag___len__) (defBody s_Bag___len__) (defScope s_Bag___len__) .none kVM___len__ dcM___len__ pmM___len__ anM___len__ cdM___len__ ctM___len__), slM___len__⟩) (mC___len__ : PySem.W.codeIn K cdM___len__ "Bag.__len__" = true) (mK___len__ : PySem.W.keepIn K (.ref g___len__) = true)
    {g___str__ : Addr} {odM___str__ anM___str__ : Option Addr} {slM___str__ : Array (Option Value)} {ocM___str__ kVM___str__ dcM___str__ pmM___str__ cdM___str__ ctM___str__ : Value}
    (mA___str__ : PySem.W.findIn K (.ref C_Bag) "__str__" = some (some (.ref g___str__))) (mJ___str__ : PySem.W.typeIn K (.ref g___str__) = some (.type "function")) (mL___str__ : K.lookup g___str__ = some ⟨ocM___str__, odM___str__, .func (PySem.W.fnOf "__str__" "Bag.__str__" (defArgs s_Bag___str__) (defBody s_Bag___str__) (defScope s_Bag___str__) .none kVM___str__ dcM___str__ pmM___str__ anM___str__ cdM___str__ ctM___str__), slM___str__⟩) (mC___str__ : PySem.W.codeIn K cdM___str__ "Bag.__str__" = true) (mK___str__ : PySem.W.keepIn K (.ref g___str__) = true)
    {g___eq__ : Addr} {odM___eq__ anM___eq__ : Option Addr} {slM___eq__ : Array (Option Value)} {ocM___eq__ kVM___eq__ dcM___eq__ pmM___eq__ cdM___eq__ ctM___eq__ : Value}
    (mA___eq__ : PySem.W.findIn K (.ref C_Bag) "__eq__" = some (some (.ref g___eq__))) (mJ___eq__ : PySem.W.typeIn K (.ref g___eq__) = some (.type "function")) (mL___eq__ : K.lookup g___eq__ = some ⟨ocM___eq__, odM___eq__, .func (PySem.W.fnOf "__eq__" "Bag.__eq__" (defArgs s_Bag___eq__) (defBody s_Bag___eq__) (defScope s_Bag___eq__) .none kVM___eq__ dcM___eq__ pmM___eq__ anM___eq__ cdM___eq__ ctM___eq__), slM___eq__⟩) (mC___eq__ : PySem.W.codeIn K cdM___eq__ "Bag.__eq__" = true) (mK___eq__ : PySem.W.keepIn K (.ref g___eq__) = true)
    {p_amounts g_amounts : Addr} {rst_amounts : List Value} {odM_amounts anM_amounts : Option Addr} {slM_amounts : Array (Option Value)} {ocM_amounts kVM_amounts dcM_amounts pmM_amounts cdM_amounts ctM_amounts : Value}
    (pA_amounts : PySem.W.findIn K (.ref C_Bag) "amounts" = some (some (.ref p_amounts))) (pG_amounts : PySem.W.specialIn K (.ref p_amounts) "__get__" = some (some (.builtin "property.__get__"))) (pT_amounts : PySem.W.takesIn K (.ref p_amounts) = some true) (pR_amounts : PySem.W.recIn K p_amounts "property" = some (.ref g_amounts :: rst_amounts))
    (mL_amounts : K.lookup g_amounts = some ⟨ocM_amounts, odM_amounts, .func (PySem.W.fnOf "amounts" "Bag.amounts" (defArgs s_Bag_amounts) (defBody s_Bag_amounts) (defScope s_Bag_amounts) .none kVM_amounts dcM_amounts pmM_amounts anM_amounts cdM_amounts ctM_amounts), slM_amounts⟩) (mC_amounts : PySem.W.codeIn K cdM_amounts "Bag.amounts" = true) (mK_amounts : PySem.W.keepIn K (.ref g_amounts) = true)
    (rN__radd__ : PySem.W.findIn K (.ref C_Bag) "__radd__" = some none)
    (rN__rsub__ : PySem.W.findIn K (.ref C_Bag) "__rsub__" = some none)
    (rN__ror__ : PySem.W.findIn K (.ref C_Bag) "__ror__" = some none)
    (rN__rand__ : PySem.W.findIn K (.ref C_Bag) "__rand__" = some none)
    (rN__rmul__ : PySem.W.findIn K (.ref C_Bag) "__rmul__" = some none)
    (rK_int : PySem.W.kitOne K (.ref C_Bag) (.type "int") = some false)
    (rK_bool : PySem.W.kitOne K (.ref C_Bag) (.type "bool") = some false)
    (rK_tuple : PySem.W.kitOne K (.ref C_Bag) (.type "tuple") = some false)
    (rK_list : PySem.W.kitOne K (.ref C_Bag) (.type "list") = some false)
    (rS_tuple : PySem.W.kitOne K (.type "tuple") (.ref C_Bag) = some false)
    (rS_NoneType : PySem.W.kitOne K (.type "NoneType") (.ref C_Bag) = some false)
    (rS_int : PySem.W.kitOne K (.type "int") (.ref C_Bag) = some false)
    (rS_bool : PySem.W.kitOne K (.type "bool") (.ref C_Bag) = some false)
    (rS_str : PySem.W.kitOne K (.type "str") (.ref C_Bag) = some false)
    (rS_list : PySem.W.kitOne K (.type "list") (.ref C_Bag) = some false)
    (rS_dict : PySem.W.kitOne K (.type "dict") (.ref C_Bag) = some false)
    {C_Desk : Addr} (dA_Desk : PySem.W.nsIn K mainGlobals "Desk" = some (some (.ref C_Desk))) (dG_Desk : PySem.W.plainGet K C_Desk Str.empty = true) (dH_Desk : PySem.W.hasDictIn K C_Desk = true) (dO_Desk : PySem.W.plainOver K C_Desk = true) (dS_Desk : PySem.W.findIn K (.ref C_Desk) "__setattr__" = some (some (.builtin "object.__setattr__")))
    (d1_Desk : PySem.W.findIn K (.ref C_Desk) "place" = some none) (d2_Desk : PySem.W.findIn K (.ref C_Desk) "present" = some none) (d3_Desk : PySem.W.findIn K (.ref C_Desk) "owed" = some none) (d4_Desk : PySem.W.findIn K (.ref C_Desk) "past" = some none)
    (dCa_Desk : PySem.W.findIn K (.ref C_Desk) "__class__" = some (some (.builtin "object.__class__"))) (dCm_Desk : PySem.W.mroIn K C_Desk (.type "object") = some true) (dK_Desk : PySem.W.kitOne K (.ref C_Desk) (.ref C_Desk) = some true) (dM_Desk : PySem.W.makesIn K C_Desk = true) (dP_Desk : PySem.W.keepIn K (.ref C_Desk) = true)
    {g_Desk___init__ : Addr} {odM_Desk___init__ anM_Desk___init__ : Option Addr} {slM_Desk___init__ : Array (Option Value)} {ocM_Desk___init__ kVM_Desk___init__ dcM_Desk___init__ pmM_Desk___init__ cdM_Desk___init__ ctM_Desk___init__ : Value}
    (mA_Desk___init__ : PySem.W.findIn K (.ref C_Desk) "__init__" = some (some (.ref g_Desk___init__))) (mJ_Desk___init__ : PySem.W.typeIn K (.ref g_Desk___init__) = some (.type "function")) (mL_Desk___init__ : K.lookup g_Desk___init__ = some ⟨ocM_Desk___init__, odM_Desk___init__, .func (PySem.W.fnOf "__init__" "Desk.__init__" (defArgs s_Desk___init__) (defBody s_Desk___init__) (defScope s_Desk___init__) .none kVM_Desk___init__ dcM_Desk___init__ pmM_Desk___init__ anM_Desk___init__ cdM_Desk___init__ ctM_Desk___init__), slM_Desk___init__⟩) (mC_Desk___init__ : PySem.W.codeIn K cdM_Desk___init__ "Desk.__init__" = true) (mK_Desk___init__ : PySem.W.keepIn K (.ref g_Desk___init__) = true)
    {g_Desk___len__ : Addr} {odM_Desk___len__ anM_Desk___len__ : Option Addr} {slM_Desk___len__ : Array (Option Value)} {ocM_Desk___len__ kVM_Desk___len__ dcM_Desk___len__ pmM_Desk___len__ cdM_Desk___len__ ctM_Desk___len__ : Value}
    (mA_Desk___len__ : PySem.W.findIn K (.ref C_Desk) "__len__" = some (some (.ref g_Desk___len__))) (mJ_Desk___len__ : PySem.W.typeIn K (.ref g_Desk___len__) = some (.type "function")) (mL_Desk___len__ : K.lookup g_Desk___len__ = some ⟨ocM_Desk___len__, odM_Desk___len__, .func (PySem.W.fnOf "__len__" "Desk.__len__" (defArgs s_Desk___len__) (defBody s_Desk___len__) (defScope s_Desk___len__) .none kVM_Desk___len__ dcM_Desk___len__ pmM_Desk___len__ anM_Desk___len__ cdM_Desk___len__ ctM_Desk___len__), slM_Desk___len__⟩) (mC_Desk___len__ : PySem.W.codeIn K cdM_Desk___len__ "Desk.__len__" = true) (mK_Desk___len__ : PySem.W.keepIn K (.ref g_Desk___len__) = true)
    {g_Desk___str__ : Addr} {odM_Desk___str__ anM_Desk___str__ : Option Addr} {slM_Desk___str__ : Array (Option Value)} {ocM_Desk___str__ kVM_Desk___str__ dcM_Desk___str__ pmM_Desk___str__ cdM_Desk___str__ ctM_Desk___str__ : Value}
    (mA_Desk___str__ : PySem.W.findIn K (.ref C_Desk) "__str__" = some (some (.ref g_Desk___str__))) (mJ_Desk___str__ : PySem.W.typeIn K (.ref g_Desk___str__) = some (.type "function")) (mL_Desk___str__ : K.lookup g_Desk___str__ = some ⟨ocM_Desk___str__, odM_Desk___str__, .func (PySem.W.fnOf "__str__" "Desk.__str__" (defArgs s_Desk___str__) (defBody s_Desk___str__) (defScope s_Desk___str__) .none kVM_Desk___str__ dcM_Desk___str__ pmM_Desk___str__ anM_Desk___str__ cdM_Desk___str__ ctM_Desk___str__), slM_Desk___str__⟩) (mC_Desk___str__ : PySem.W.codeIn K cdM_Desk___str__ "Desk.__str__" = true) (mK_Desk___str__ : PySem.W.keepIn K (.ref g_Desk___str__) = true)
    {g_Desk___eq__ : Addr} {odM_Desk___eq__ anM_Desk___eq__ : Option Addr} {slM_Desk___eq__ : Array (Option Value)} {ocM_Desk___eq__ kVM_Desk___eq__ dcM_Desk___eq__ pmM_Desk___eq__ cdM_Desk___eq__ ctM_Desk___eq__ : Value}
    (mA_Desk___eq__ : PySem.W.findIn K (.ref C_Desk) "__eq__" = some (some (.ref g_Desk___eq__))) (mJ_Desk___eq__ : PySem.W.typeIn K (.ref g_Desk___eq__) = some (.type "function")) (mL_Desk___eq__ : K.lookup g_Desk___eq__ = some ⟨ocM_Desk___eq__, odM_Desk___eq__, .func (PySem.W.fnOf "__eq__" "Desk.__eq__" (defArgs s_Desk___eq__) (defBody s_Desk___eq__) (defScope s_Desk___eq__) .none kVM_Desk___eq__ dcM_Desk___eq__ pmM_Desk___eq__ anM_Desk___eq__ cdM_Desk___eq__ ctM_Desk___eq__), slM_Desk___eq__⟩) (mC_Desk___eq__ : PySem.W.codeIn K cdM_Desk___eq__ "Desk.__eq__" = true) (mK_Desk___eq__ : PySem.W.keepIn K (.ref g_Desk___eq__) = true)
    {g_Desk_balance : Addr} {odM_Desk_balance anM_Desk_balance : Option Addr} {slM_Desk_balance : Array (Option Value)} {ocM_Desk_balance kVM_Desk_balance dcM_Desk_balance pmM_Desk_balance cdM_Desk_balance ctM_Desk_balance : Value}
    (mA_Desk_balance : PySem.W.findIn K (.ref C_Desk) "balance" = some (some (.ref g_Desk_balance))) (mJ_Desk_balance : PySem.W.typeIn K (.ref g_Desk_balance) = some (.type "function")) (mL_Desk_balance : K.lookup g_Desk_balance = some ⟨ocM_Desk_balance, odM_Desk_balance, .func (PySem.W.fnOf "balance" "Desk.balance" (defArgs s_Desk_balance) (defBody s_Desk_balance) (defScope s_Desk_balance) .none kVM_Desk_balance dcM_Desk_balance pmM_Desk_balance anM_Desk_balance cdM_Desk_balance ctM_Desk_balance), slM_Desk_balance⟩) (mC_Desk_balance : PySem.W.codeIn K cdM_Desk_balance "Desk.balance" = true) (mK_Desk_balance : PySem.W.keepIn K (.ref g_Desk_balance) = true)
    {p_Desk_market g_Desk_market : Addr} {rst_Desk_market : List Value} {odM_Desk_market anM_Desk_market : Option Addr} {slM_Desk_market : Array (Option Value)} {ocM_Desk_market kVM_Desk_market dcM_Desk_market pmM_Desk_market cdM_Desk_market ctM_Desk_market : Value}
    (pA_Desk_market : PySem.W.findIn K (.ref C_Desk) "market" = some (some (.ref p_Desk_market))) (pG_Desk_market : PySem.W.specialIn K (.ref p_Desk_market) "__get__" = some (some (.builtin "property.__get__"))) (pT_Desk_market : PySem.W.takesIn K (.ref p_Desk_market) = some true) (pR_Desk_market : PySem.W.recIn K p_Desk_market "property" = some (.ref g_Desk_market :: rst_Desk_market))
    (mL_Desk_market : K.lookup g_Desk_market = some ⟨ocM_Desk_market, odM_Desk_market, .func (PySem.W.fnOf "market" "Desk.market" (defArgs s_Desk_market) (defBody s_Desk_market) (defScope s_Desk_market) .none kVM_Desk_market dcM_Desk_market pmM_Desk_market anM_Desk_market cdM_Desk_market ctM_Desk_market), slM_Desk_market⟩) (mC_Desk_market : PySem.W.codeIn K cdM_Desk_market "Desk.market" = true) (mK_Desk_market : PySem.W.keepIn K (.ref g_Desk_market) = true)
    {p_Desk_stock g_Desk_stock : Addr} {rst_Desk_stock : List Value} {odM_Desk_stock anM_Desk_stock : Option Addr} {slM_Desk_stock : Array (Option Value)} {ocM_Desk_stock kVM_Desk_stock dcM_Desk_stock pmM_Desk_stock cdM_Desk_stock ctM_Desk_stock : Value}
    (pA_Desk_stock : PySem.W.findIn K (.ref C_Desk) "stock" = some (some (.ref p_Desk_stock))) (pG_Desk_stock : PySem.W.specialIn K (.ref p_Desk_stock) "__get__" = some (some (.builtin "property.__get__"))) (pT_Desk_stock : PySem.W.takesIn K (.ref p_Desk_stock) = some true) (pR_Desk_stock : PySem.W.recIn K p_Desk_stock "property" = some (.ref g_Desk_stock :: rst_Desk_stock))
    (mL_Desk_stock : K.lookup g_Desk_stock = some ⟨ocM_Desk_stock, odM_Desk_stock, .func (PySem.W.fnOf "stock" "Desk.stock" (defArgs s_Desk_stock) (defBody s_Desk_stock) (defScope s_Desk_stock) .none kVM_Desk_stock dcM_Desk_stock pmM_Desk_stock anM_Desk_stock cdM_Desk_stock ctM_Desk_stock), slM_Desk_stock⟩) (mC_Desk_stock : PySem.W.codeIn K cdM_Desk_stock "Desk.stock" = true) (mK_Desk_stock : PySem.W.keepIn K (.ref g_Desk_stock) = true)
    {p_Desk_debt g_Desk_debt : Addr} {rst_Desk_debt : List Value} {odM_Desk_debt anM_Desk_debt : Option Addr} {slM_Desk_debt : Array (Option Value)} {ocM_Desk_debt kVM_Desk_debt dcM_Desk_debt pmM_Desk_debt cdM_Desk_debt ctM_Desk_debt : Value}
    (pA_Desk_debt : PySem.W.findIn K (.ref C_Desk) "debt" = some (some (.ref p_Desk_debt))) (pG_Desk_debt : PySem.W.specialIn K (.ref p_Desk_debt) "__get__" = some (some (.builtin "property.__get__"))) (pT_Desk_debt : PySem.W.takesIn K (.ref p_Desk_debt) = some true) (pR_Desk_debt : PySem.W.recIn K p_Desk_debt "property" = some (.ref g_Desk_debt :: rst_Desk_debt))
    (mL_Desk_debt : K.lookup g_Desk_debt = some ⟨ocM_Desk_debt, odM_Desk_debt, .func (PySem.W.fnOf "debt" "Desk.debt" (defArgs s_Desk_debt) (defBody s_Desk_debt) (defScope s_Desk_debt) .none kVM_Desk_debt dcM_Desk_debt pmM_Desk_debt anM_Desk_debt cdM_Desk_debt ctM_Desk_debt), slM_Desk_debt⟩) (mC_Desk_debt : PySem.W.codeIn K cdM_Desk_debt "Desk.debt" = true) (mK_Desk_debt : PySem.W.keepIn K (.ref g_Desk_debt) = true)
    {p_Desk_version g_Desk_version : Addr} {rst_Desk_version : List Value} {odM_Desk_version anM_Desk_version : Option Addr} {slM_Desk_version : Array (Option Value)} {ocM_Desk_version kVM_Desk_version dcM_Desk_version pmM_Desk_version cdM_Desk_version ctM_Desk_version : Value}
    (pA_Desk_version : PySem.W.findIn K (.ref C_Desk) "version" = some (some (.ref p_Desk_version))) (pG_Desk_version : PySem.W.specialIn K (.ref p_Desk_version) "__get__" = some (some (.builtin "property.__get__"))) (pT_Desk_version : PySem.W.takesIn K (.ref p_Desk_version) = some true) (pR_Desk_version : PySem.W.recIn K p_Desk_version "property" = some (.ref g_Desk_version :: rst_Desk_version))
    (mL_Desk_version : K.lookup g_Desk_version = some ⟨ocM_Desk_version, odM_Desk_version, .func (PySem.W.fnOf "version" "Desk.version" (defArgs s_Desk_version) (defBody s_Desk_version) (defScope s_Desk_version) .none kVM_Desk_version dcM_Desk_version pmM_Desk_version anM_Desk_version cdM_Desk_version ctM_Desk_version), slM_Desk_version⟩) (mC_Desk_version : PySem.W.codeIn K cdM_Desk_version "Desk.version" = true) (mK_Desk_version : PySem.W.keepIn K (.ref g_Desk_version) = true)
    {p_Desk_settled g_Desk_settled : Addr} {rst_Desk_settled : List Value} {odM_Desk_settled anM_Desk_settled : Option Addr} {slM_Desk_settled : Array (Option Value)} {ocM_Desk_settled kVM_Desk_settled dcM_Desk_settled pmM_Desk_settled cdM_Desk_settled ctM_Desk_settled : Value}
    (pA_Desk_settled : PySem.W.findIn K (.ref C_Desk) "settled" = some (some (.ref p_Desk_settled))) (pG_Desk_settled : PySem.W.specialIn K (.ref p_Desk_settled) "__get__" = some (some (.builtin "property.__get__"))) (pT_Desk_settled : PySem.W.takesIn K (.ref p_Desk_settled) = some true) (pR_Desk_settled : PySem.W.recIn K p_Desk_settled "property" = some (.ref g_Desk_settled :: rst_Desk_settled))
    (mL_Desk_settled : K.lookup g_Desk_settled = some ⟨ocM_Desk_settled, odM_Desk_settled, .func (PySem.W.fnOf "settled" "Desk.settled" (defArgs s_Desk_settled) (defBody s_Desk_settled) (defScope s_Desk_settled) .none kVM_Desk_settled dcM_Desk_settled pmM_Desk_settled anM_Desk_settled cdM_Desk_settled ctM_Desk_settled), slM_Desk_settled⟩) (mC_Desk_settled : PySem.W.codeIn K cdM_Desk_settled "Desk.settled" = true) (mK_Desk_settled : PySem.W.keepIn K (.ref g_Desk_settled) = true)
    {C_CappedDesk : Addr} (dA_CappedDesk : PySem.W.nsIn K mainGlobals "CappedDesk" = some (some (.ref C_CappedDesk))) (dG_CappedDesk : PySem.W.plainGet K C_CappedDesk Str.empty = true) (dH_CappedDesk : PySem.W.hasDictIn K C_CappedDesk = true) (dO_CappedDesk : PySem.W.plainOver K C_CappedDesk = true) (dS_CappedDesk : PySem.W.findIn K (.ref C_CappedDesk) "__setattr__" = some (some (.builtin "object.__setattr__")))
    (d1_CappedDesk : PySem.W.findIn K (.ref C_CappedDesk) "place" = some none) (d2_CappedDesk : PySem.W.findIn K (.ref C_CappedDesk) "present" = some none) (d3_CappedDesk : PySem.W.findIn K (.ref C_CappedDesk) "owed" = some none) (d4_CappedDesk : PySem.W.findIn K (.ref C_CappedDesk) "past" = some none)
    (dCa_CappedDesk : PySem.W.findIn K (.ref C_CappedDesk) "__class__" = some (some (.builtin "object.__class__"))) (dCm_CappedDesk : PySem.W.mroIn K C_CappedDesk (.type "object") = some true) (dK_CappedDesk : PySem.W.kitOne K (.ref C_CappedDesk) (.ref C_Desk) = some true) (dM_CappedDesk : PySem.W.makesIn K C_CappedDesk = true) (dP_CappedDesk : PySem.W.keepIn K (.ref C_CappedDesk) = true)
    {g_CappedDesk___init__ : Addr} {odM_CappedDesk___init__ anM_CappedDesk___init__ : Option Addr} {slM_CappedDesk___init__ : Array (Option Value)} {ocM_CappedDesk___init__ kVM_CappedDesk___init__ dcM_CappedDesk___init__ pmM_CappedDesk___init__ cdM_CappedDesk___init__ ctM_CappedDesk___init__ : Value}
    (mA_CappedDesk___init__ : PySem.W.findIn K (.ref C_CappedDesk) "__init__" = some (some (.ref g_CappedDesk___init__))) (mJ_CappedDesk___init__ : PySem.W.typeIn K (.ref g_CappedDesk___init__) = some (.type "function")) (mL_CappedDesk___init__ : K.lookup g_CappedDesk___init__ = some ⟨ocM_CappedDesk___init__, odM_CappedDesk___init__, .func (PySem.W.fnOf "__init__" "CappedDesk.__init__" (defArgs s_CappedDesk___init__) (defBody s_CappedDesk___init__) (defScope s_CappedDesk___init__) .none kVM_CappedDesk___init__ dcM_CappedDesk___init__ pmM_CappedDesk___init__ anM_CappedDesk___init__ cdM_CappedDesk___init__ ctM_CappedDesk___init__), slM_CappedDesk___init__⟩) (mC_CappedDesk___init__ : PySem.W.codeIn K cdM_CappedDesk___init__ "CappedDesk.__init__" = true) (mK_CappedDesk___init__ : PySem.W.keepIn K (.ref g_CappedDesk___init__) = true)
    {g_CappedDesk___str__ : Addr} {odM_CappedDesk___str__ anM_CappedDesk___str__ : Option Addr} {slM_CappedDesk___str__ : Array (Option Value)} {ocM_CappedDesk___str__ kVM_CappedDesk___str__ dcM_CappedDesk___str__ pmM_CappedDesk___str__ cdM_CappedDesk___str__ ctM_CappedDesk___str__ : Value}
    (mA_CappedDesk___str__ : PySem.W.findIn K (.ref C_CappedDesk) "__str__" = some (some (.ref g_CappedDesk___str__))) (mJ_CappedDesk___str__ : PySem.W.typeIn K (.ref g_CappedDesk___str__) = some (.type "function")) (mL_CappedDesk___str__ : K.lookup g_CappedDesk___str__ = some ⟨ocM_CappedDesk___str__, odM_CappedDesk___str__, .func (PySem.W.fnOf "__str__" "CappedDesk.__str__" (defArgs s_CappedDesk___str__) (defBody s_CappedDesk___str__) (defScope s_CappedDesk___str__) .none kVM_CappedDesk___str__ dcM_CappedDesk___str__ pmM_CappedDesk___str__ anM_CappedDesk___str__ cdM_CappedDesk___str__ ctM_CappedDesk___str__), slM_CappedDesk___str__⟩) (mC_CappedDesk___str__ : PySem.W.codeIn K cdM_CappedDesk___str__ "CappedDesk.__str__" = true) (mK_CappedDesk___str__ : PySem.W.keepIn K (.ref g_CappedDesk___str__) = true)
    {g_CappedDesk___eq__ : Addr} {odM_CappedDesk___eq__ anM_CappedDesk___eq__ : Option Addr} {slM_CappedDesk___eq__ : Array (Option Value)} {ocM_CappedDesk___eq__ kVM_CappedDesk___eq__ dcM_CappedDesk___eq__ pmM_CappedDesk___eq__ cdM_CappedDesk___eq__ ctM_CappedDesk___eq__ : Value}
    (mA_CappedDesk___eq__ : PySem.W.findIn K (.ref C_CappedDesk) "__eq__" = some (some (.ref g_CappedDesk___eq__))) (mJ_CappedDesk___eq__ : PySem.W.typeIn K (.ref g_CappedDesk___eq__) = some (.type "function")) (mL_CappedDesk___eq__ : K.lookup g_CappedDesk___eq__ = some ⟨ocM_CappedDesk___eq__, odM_CappedDesk___eq__, .func (PySem.W.fnOf "__eq__" "Desk.__eq__" (defArgs s_Desk___eq__) (defBody s_Desk___eq__) (defScope s_Desk___eq__) .none kVM_CappedDesk___eq__ dcM_CappedDesk___eq__ pmM_CappedDesk___eq__ anM_CappedDesk___eq__ cdM_CappedDesk___eq__ ctM_CappedDesk___eq__), slM_CappedDesk___eq__⟩) (mC_CappedDesk___eq__ : PySem.W.codeIn K cdM_CappedDesk___eq__ "Desk.__eq__" = true) (mK_CappedDesk___eq__ : PySem.W.keepIn K (.ref g_CappedDesk___eq__) = true)
    {g_CappedDesk_balance : Addr} {odM_CappedDesk_balance anM_CappedDesk_balance : Option Addr} {slM_CappedDesk_balance : Array (Option Value)} {ocM_CappedDesk_balance kVM_CappedDesk_balance dcM_CappedDesk_balance pmM_CappedDesk_balance cdM_CappedDesk_balance ctM_CappedDesk_balance : Value}
    (mA_CappedDesk_balance : PySem.W.findIn K (.ref C_CappedDesk) "balance" = some (some (.ref g_CappedDesk_balance))) (mJ_CappedDesk_balance : PySem.W.typeIn K (.ref g_CappedDesk_balance) = some (.type "function")) (mL_CappedDesk_balance : K.lookup g_CappedDesk_balance = some ⟨ocM_CappedDesk_balance, odM_CappedDesk_balance, .func (PySem.W.fnOf "balance" "Desk.balance" (defArgs s_Desk_balance) (defBody s_Desk_balance) (defScope s_Desk_balance) .none kVM_CappedDesk_balance dcM_CappedDesk_balance pmM_CappedDesk_balance anM_CappedDesk_balance cdM_CappedDesk_balance ctM_CappedDesk_balance), slM_CappedDesk_balance⟩) (mC_CappedDesk_balance : PySem.W.codeIn K cdM_CappedDesk_balance "Desk.balance" = true) (mK_CappedDesk_balance : PySem.W.keepIn K (.ref g_CappedDesk_balance) = true)
    {p_CappedDesk_cap g_CappedDesk_cap : Addr} {rst_CappedDesk_cap : List Value} {odM_CappedDesk_cap anM_CappedDesk_cap : Option Addr} {slM_CappedDesk_cap : Array (Option Value)} {ocM_CappedDesk_cap kVM_CappedDesk_cap dcM_CappedDesk_cap pmM_CappedDesk_cap cdM_CappedDesk_cap ctM_CappedDesk_cap : Value}
    (pA_CappedDesk_cap : PySem.W.findIn K (.ref C_CappedDesk) "cap" = some (some (.ref p_CappedDesk_cap))) (pG_CappedDesk_cap : PySem.W.specialIn K (.ref p_CappedDesk_cap) "__get__" = some (some (.builtin "property.__get__"))) (pT_CappedDesk_cap : PySem.W.takesIn K (.ref p_CappedDesk_cap) = some true) (pR_CappedDesk_cap : PySem.W.recIn K p_CappedDesk_cap "property" = some (.ref g_CappedDesk_cap :: rst_CappedDesk_cap))
    (mL_CappedDesk_cap : K.lookup g_CappedDesk_cap = some ⟨ocM_CappedDesk_cap, odM_CappedDesk_cap, .func (PySem.W.fnOf "cap" "CappedDesk.cap" (defArgs s_CappedDesk_cap) (defBody s_CappedDesk_cap) (defScope s_CappedDesk_cap) .none kVM_CappedDesk_cap dcM_CappedDesk_cap pmM_CappedDesk_cap anM_CappedDesk_cap cdM_CappedDesk_cap ctM_CappedDesk_cap), slM_CappedDesk_cap⟩) (mC_CappedDesk_cap : PySem.W.codeIn K cdM_CappedDesk_cap "CappedDesk.cap" = true) (mK_CappedDesk_cap : PySem.W.keepIn K (.ref g_CappedDesk_cap) = true)
    (fB : PySem.W.findIn K (.ref C_Bag) "__format__" = some (some (.builtin "object.__format__")))
    (kS_tuple : PySem.W.kitOne K (.type "tuple") (.ref C_Desk) = some false)
    (kS_NoneType : PySem.W.kitOne K (.type "NoneType") (.ref C_Desk) = some false)
    (kS_int : PySem.W.kitOne K (.type "int") (.ref C_Desk) = some false)
    (kS_bool : PySem.W.kitOne K (.type "bool") (.ref C_Desk) = some false)
    (kS_str : PySem.W.kitOne K (.type "str") (.ref C_Desk) = some false)
    (kS_list : PySem.W.kitOne K (.type "list") (.ref C_Desk) = some false)
    (kS_dict : PySem.W.kitOne K (.type "dict") (.ref C_Desk) = some false)
    (nmC : PySem.W.findIn K (.ref C_CappedDesk) "most" = some none)
    (neDC : C_Desk ≠ C_CappedDesk)
    (sCD : PySem.W.subIn K (.ref C_CappedDesk) (.ref C_Desk) = some true)
    (sDC : PySem.W.subIn K (.ref C_Desk) (.ref C_CappedDesk) = some false)
    (n1C : PySem.W.findIn K (.ref C_CappedDesk) "__ne__" = some (some (.builtin "object.__ne__")))
    (rD : PySem.W.readsIn K C_Desk (.type "type") = true)
    (rDg : PySem.W.specialIn K (.ref C_Desk) "__getattribute__" = some (some (.builtin "type.__getattribute__")))
    (vD : PySem.W.findCls K (.ref C_Desk) (.type "type") "__init__" = some (.val (.ref g_Desk___init__)))
    (xba : PySem.W.exmOne K (.ref C_BadBag) (.ref C_BadMarket) = some false)
    (xca : PySem.W.exmOne K (.ref C_TooMuch) (.ref C_BadMarket) = some false)
    (xda : PySem.W.exmOne K (.ref C_BadTimes) (.ref C_BadMarket) = some false)
    (xcb : PySem.W.exmOne K (.ref C_TooMuch) (.ref C_BadBag) = some false)
    (xdb : PySem.W.exmOne K (.ref C_BadTimes) (.ref C_BadBag) = some false)
    (xdc : PySem.W.exmOne K (.ref C_BadTimes) (.ref C_TooMuch) = some false)
    (z_len : PySem.W.nsIn K mainGlobals "len" = some none)
    (z_range : PySem.W.nsIn K mainGlobals "range" = some none)
    (z_int : PySem.W.nsIn K mainGlobals "int" = some none)
    (z_bool : PySem.W.nsIn K mainGlobals "bool" = some none)
    (z_tuple : PySem.W.nsIn K mainGlobals "tuple" = some none)
    (z_list : PySem.W.nsIn K mainGlobals "list" = some none)
    (z_str : PySem.W.nsIn K mainGlobals "str" = some none)
    (z_dict : PySem.W.nsIn K mainGlobals "dict" = some none)
    (z_all : PySem.W.nsIn K mainGlobals "all" = some none)
    (z_any : PySem.W.nsIn K mainGlobals "any" = some none)
    (z_max : PySem.W.nsIn K mainGlobals "max" = some none)
    (z_min : PySem.W.nsIn K mainGlobals "min" = some none)
    (z_sum : PySem.W.nsIn K mainGlobals "sum" = some none)
    (z_zip : PySem.W.nsIn K mainGlobals "zip" = some none)
    (z_enumerate : PySem.W.nsIn K mainGlobals "enumerate" = some none)
    (z_isinstance : PySem.W.nsIn K mainGlobals "isinstance" = some none)
    (z_repr : PySem.W.nsIn K mainGlobals "repr" = some none)
    (z_sorted : PySem.W.nsIn K mainGlobals "sorted" = some none)
    {t_MAX_GOODS : Tok} (v_MAX_GOODS : PySem.W.nsIn K mainGlobals "MAX_GOODS" = some (some (.int 4 t_MAX_GOODS)))
    {t_MAX_TRADES : Tok} (v_MAX_TRADES : PySem.W.nsIn K mainGlobals "MAX_TRADES" = some (some (.int 4 t_MAX_TRADES)))
    {t_MAX_AMOUNT : Tok} (v_MAX_AMOUNT : PySem.W.nsIn K mainGlobals "MAX_AMOUNT" = some (some (.int 3 t_MAX_AMOUNT)))
    {t_MAX_TOTAL : Tok} (v_MAX_TOTAL : PySem.W.nsIn K mainGlobals "MAX_TOTAL" = some (some (.int 4 t_MAX_TOTAL)))
    {t_MAX_LENT : Tok} (v_MAX_LENT : PySem.W.nsIn K mainGlobals "MAX_LENT" = some (some (.int 3 t_MAX_LENT)))
    {t_MAX_DESK : Tok} (v_MAX_DESK : PySem.W.nsIn K mainGlobals "MAX_DESK" = some (some (.int 6 t_MAX_DESK)))
    : LawT l w K 26 "_law_script" mg fa h := by
  have e := hfa.symm.trans (PySem.W.mg_of X G a22)
  cases e
  have B : Blt mg := ⟨PySem.W.mg_none_of X G z_len, PySem.W.mg_none_of X G z_range, PySem.W.mg_none_of X G z_int, PySem.W.mg_none_of X G z_bool, PySem.W.mg_none_of X G z_tuple, PySem.W.mg_none_of X G z_list, PySem.W.mg_none_of X G z_str, PySem.W.mg_none_of X G z_dict, PySem.W.mg_none_of X G z_all, PySem.W.mg_none_of X G z_any, PySem.W.mg_none_of X G z_max, PySem.W.mg_none_of X G z_min, PySem.W.mg_none_of X G z_sum, PySem.W.mg_none_of X G z_zip, PySem.W.mg_none_of X G z_enumerate, PySem.W.mg_none_of X G z_isinstance, PySem.W.mg_none_of X G z_repr, PySem.W.mg_none_of X G z_sorted⟩
  have D__law_deck : Df K mg "_law_deck" s__law_deck := df_mk X G a0 l0 c0 k0
  have D__law_draw : Df K mg "_law_draw" s__law_draw := df_mk X G a1 l1 c1 k1
  have D__law_one : Df K mg "_law_one" s__law_one := df_mk X G a2 l2 c2 k2
  have D__law_bag : Df K mg "_law_bag" s__law_bag := df_mk X G a3 l3 c3 k3
  have D__law_side : Df K mg "_law_side" s__law_side := df_mk X G a4 l4 c4 k4
  have D__law_trade : Df K mg "_law_trade" s__law_trade := df_mk X G a5 l5 c5 k5
  have D__law_market : Df K mg "_law_market" s__law_market := df_mk X G a6 l6 c6 k6
  have D__law_small : Df K mg "_law_small" s__law_small := df_mk X G a7 l7 c7 k7
  have D__law_any_market : Df K mg "_law_any_market" s__law_any_market := df_mk X G a8 l8 c8 k8
  have D__law_plus : Df K mg "_law_plus" s__law_plus := df_mk X G a9 l9 c9 k9
  have D__law_spoilt : Df K mg "_law_spoilt" s__law_spoilt := df_mk X G a10 l10 c10 k10
  have D__law_made : Df K mg "_law_made" s__law_made := df_mk X G a11 l11 c11 k11
  have D__law_due : Df K mg "_law_due" s__law_due := df_mk X G a12 l12 c12 k12
  have D_is_whole : Df K mg "is_whole" s_is_whole := df_mk X G a13 l13 c13 k13
  have D_is_pair : Df K mg "is_pair" s_is_pair := df_mk X G a14 l14 c14 k14
  have D_is_bag : Df K mg "is_bag" s_is_bag := df_mk X G a15 l15 c15 k15
  have D_trade_fault : Df K mg "trade_fault" s_trade_fault := df_mk X G a16 l16 c16 k16
  have D_market_error : Df K mg "market_error" s_market_error := df_mk X G a17 l17 c17 k17
  have D_first_lacking : Df K mg "first_lacking" s_first_lacking := df_mk X G a18 l18 c18 k18
  have D_desk_error : Df K mg "desk_error" s_desk_error := df_mk X G a19 l19 c19 k19
  have D_check_kind : Df K mg "check_kind" s_check_kind := df_mk X G a20 l20 c20 k20
  have D_check_room : Df K mg "check_room" s_check_room := df_mk X G a21 l21 c21 k21
  have K_MAX_GOODS := PySem.W.mg_of X G v_MAX_GOODS
  have K_MAX_TRADES := PySem.W.mg_of X G v_MAX_TRADES
  have K_MAX_AMOUNT := PySem.W.mg_of X G v_MAX_AMOUNT
  have K_MAX_TOTAL := PySem.W.mg_of X G v_MAX_TOTAL
  have K_MAX_LENT := PySem.W.mg_of X G v_MAX_LENT
  have K_MAX_DESK := PySem.W.mg_of X G v_MAX_DESK
  have BC : BagC K mg C_Bag := ⟨⟨bG, bD, bO, bS⟩, bN, bF, PySem.W.mg_of X G bA, bCa, bCn, bCt, bCm, bK, ⟨_, _, ⟨bR, bRg⟩, ⟨bV, ⟨_, rfl⟩⟩⟩, bM, bP⟩
  have D_Bag___init__ : DfM K C_Bag "__init__" "Bag.__init__" s_Bag___init__ := dfM_mk mA___init__ mJ___init__ mL___init__ mC___init__ mK___init__
  have D_Bag_is_like : DfM K C_Bag "is_like" "Bag.is_like" s_Bag_is_like := dfM_mk mA_is_like mJ_is_like mL_is_like mC_is_like mK_is_like
  have D_Bag___len__ : DfM K C_Bag "__len__" "Bag.__len__" s_Bag___len__ := dfM_mk mA___len__ mJ___len__ mL___len__ mC___len__ mK___len__
  have D_Bag___str__ : DfM K C_Bag "__str__" "Bag.__str__" s_Bag___str__ := dfM_mk mA___str__ mJ___str__ mL___str__ mC___str__ mK___str__
  have D_Bag___eq__ : DfM K C_Bag "__eq__" "Bag.__eq__" s_Bag___eq__ := dfM_mk mA___eq__ mJ___eq__ mL___eq__ mC___eq__ mK___eq__
  have F_Bag_amounts := fun_mk (st := s_Bag_amounts) mL_amounts mC_amounts mK_amounts
  have P_Bag_amounts : PropOf K C_Bag "amounts" p_amounts g_amounts := ⟨pA_amounts, pG_amounts, pT_amounts, _, pR_amounts⟩
  have CL_Desk : Cls K C_Desk := ⟨dG_Desk, dH_Desk, dO_Desk, dS_Desk⟩
  have DC_Desk : DskC K C_Desk := ⟨CL_Desk, d1_Desk, d2_Desk, d3_Desk, d4_Desk⟩
  have DX_Desk : DskT K C_Desk C_Desk := ⟨DC_Desk, dCa_Desk, bCn, bCt, dCm_Desk, dK_Desk⟩
  have D_Desk___init__ : DfM K C_Desk "__init__" "Desk.__init__" s_Desk___init__ := dfM_mk mA_Desk___init__ mJ_Desk___init__ mL_Desk___init__ mC_Desk___init__ mK_Desk___init__
  have D_Desk___len__ : DfM K C_Desk "__len__" "Desk.__len__" s_Desk___len__ := dfM_mk mA_Desk___len__ mJ_Desk___len__ mL_Desk___len__ mC_Desk___len__ mK_Desk___len__
  have D_Desk___str__ : DfM K C_Desk "__str__" "Desk.__str__" s_Desk___str__ := dfM_mk mA_Desk___str__ mJ_Desk___str__ mL_Desk___str__ mC_Desk___str__ mK_Desk___str__
  have D_Desk___eq__ : DfM K C_Desk "__eq__" "Desk.__eq__" s_Desk___eq__ := dfM_mk mA_Desk___eq__ mJ_Desk___eq__ mL_Desk___eq__ mC_Desk___eq__ mK_Desk___eq__
  have D_Desk_balance : DfM K C_Desk "balance" "Desk.balance" s_Desk_balance := dfM_mk mA_Desk_balance mJ_Desk_balance mL_Desk_balance mC_Desk_balance mK_Desk_balance
  have F_Desk_market := fun_mk (st := s_Desk_market) mL_Desk_market mC_Desk_market mK_Desk_market
  have P_Desk_market : PropOf K C_Desk "market" p_Desk_market g_Desk_market := ⟨pA_Desk_market, pG_Desk_market, pT_Desk_market, _, pR_Desk_market⟩
  have F_Desk_stock := fun_mk (st := s_Desk_stock) mL_Desk_stock mC_Desk_stock mK_Desk_stock
  have P_Desk_stock : PropOf K C_Desk "stock" p_Desk_stock g_Desk_stock := ⟨pA_Desk_stock, pG_Desk_stock, pT_Desk_stock, _, pR_Desk_stock⟩
  have F_Desk_debt := fun_mk (st := s_Desk_debt) mL_Desk_debt mC_Desk_debt mK_Desk_debt
  have P_Desk_debt : PropOf K C_Desk "debt" p_Desk_debt g_Desk_debt := ⟨pA_Desk_debt, pG_Desk_debt, pT_Desk_debt, _, pR_Desk_debt⟩
  have F_Desk_version := fun_mk (st := s_Desk_version) mL_Desk_version mC_Desk_version mK_Desk_version
  have P_Desk_version : PropOf K C_Desk "version" p_Desk_version g_Desk_version := ⟨pA_Desk_version, pG_Desk_version, pT_Desk_version, _, pR_Desk_version⟩
  have F_Desk_settled := fun_mk (st := s_Desk_settled) mL_Desk_settled mC_Desk_settled mK_Desk_settled
  have P_Desk_settled : PropOf K C_Desk "settled" p_Desk_settled g_Desk_settled := ⟨pA_Desk_settled, pG_Desk_settled, pT_Desk_settled, _, pR_Desk_settled⟩
  have CL_CappedDesk : Cls K C_CappedDesk := ⟨dG_CappedDesk, dH_CappedDesk, dO_CappedDesk, dS_CappedDesk⟩
  have DC_CappedDesk : DskC K C_CappedDesk := ⟨CL_CappedDesk, d1_CappedDesk, d2_CappedDesk, d3_CappedDesk, d4_CappedDesk⟩
  have DX_CappedDesk : DskT K C_Desk C_CappedDesk := ⟨DC_CappedDesk, dCa_CappedDesk, bCn, bCt, dCm_CappedDesk, dK_CappedDesk⟩
  have D_CappedDesk___init__ : DfM K C_CappedDesk "__init__" "CappedDesk.__init__" s_CappedDesk___init__ := dfM_mk mA_CappedDesk___init__ mJ_CappedDesk___init__ mL_CappedDesk___init__ mC_CappedDesk___init__ mK_CappedDesk___init__
  have D_CappedDesk___str__ : DfM K C_CappedDesk "__str__" "CappedDesk.__str__" s_CappedDesk___str__ := dfM_mk mA_CappedDesk___str__ mJ_CappedDesk___str__ mL_CappedDesk___str__ mC_CappedDesk___str__ mK_CappedDesk___str__
  have D_CappedDesk___eq__ : DfM K C_CappedDesk "__eq__" "Desk.__eq__" s_Desk___eq__ := dfM_mk mA_CappedDesk___eq__ mJ_CappedDesk___eq__ mL_CappedDesk___eq__ mC_CappedDesk___eq__ mK_CappedDesk___eq__
  have D_CappedDesk_balance : DfM K C_CappedDesk "balance" "Desk.balance" s_Desk_balance := dfM_mk mA_CappedDesk_balance mJ_CappedDesk_balance mL_CappedDesk_balance mC_CappedDesk_balance mK_CappedDesk_balance
  have F_CappedDesk_cap := fun_mk (st := s_CappedDesk_cap) mL_CappedDesk_cap mC_CappedDesk_cap mK_CappedDesk_cap
  have P_CappedDesk_cap : PropOf K C_CappedDesk "cap" p_CappedDesk_cap g_CappedDesk_cap := ⟨pA_CappedDesk_cap, pG_CappedDesk_cap, pT_CappedDesk_cap, _, pR_CappedDesk_cap⟩
  have SC_Desk : StdC K C_Desk := fun T hT => std_cases (P := fun T => PySem.W.kitOne K (.type T) (.ref C_Desk) = some false) hT kS_tuple kS_NoneType kS_int kS_bool kS_str kS_list kS_dict
  have BR : BagR K C_Bag := ⟨rN__radd__, rN__rsub__, rN__ror__, rN__rand__, rN__rmul__, rK_int, rK_bool, rK_tuple, rK_list, fun T hT => std_cases (P := fun T => PySem.W.kitOne K (.type T) (.ref C_Bag) = some false) hT rS_tuple rS_NoneType rS_int rS_bool rS_str rS_list rS_dict⟩
  have T_BadBag : Err0 K mg "BadBag" C_BadBag := ⟨PySem.W.mg_of X G zA_BadBag, zX_BadBag, zK_BadBag, zB_BadBag, zT_BadBag, zM_BadBag⟩
  refine ⟨PySem.W.fnOf "law" "law" (defArgs s_law) (defBody s_law) (defScope s_law) .none kV22 dc22 pm22 an22 (.ref cL) ct22, cL, Pt, own cL Pt _ _ _ _ _ _ l22 rfl rfl vl v11, nPt, PySem.W.codeHd_of_K X hhd, fun s v => .of_eq rfl, fun base _ _ TB => ?_⟩
  have ox_BadMarket : OexC K C_BadMarket := ⟨⟨_, _, _, _, _, _, _, _, _, _, _, _, _, _, _, eX_BadMarket, eR_BadMarket⟩, eS_BadMarket, eB_BadMarket, eT_BadMarket, eK_BadMarket⟩
  have F_BadMarket := fun_mk (st := s_BadMarket___init__) eL_BadMarket eC_BadMarket eQ_BadMarket
  have T_BadMarket : Err1 l.prog w K mg base "BadMarket" "error" C_BadMarket := ⟨PySem.W.mg_of X G eA_BadMarket, ox_BadMarket, ⟨eG_BadMarket, eH_BadMarket, eB_BadMarket, eD_BadMarket⟩, eN_BadMarket, eM_BadMarket, fI_BadMarket, _, eI_BadMarket, eJ_BadMarket, ini_badmarket F_BadMarket ox_BadMarket eN_BadMarket, F_BadMarket.binds (fun _ _ _ _ _ _ us hl => match us, hl with | [_, _], _ => rfl)⟩
  have ox_TooMuch : OexC K C_TooMuch := ⟨⟨_, _, _, _, _, _, _, _, _, _, _, _, _, _, _, eX_TooMuch, eR_TooMuch⟩, eS_TooMuch, eB_TooMuch, eT_TooMuch, eK_TooMuch⟩
  have F_TooMuch := fun_mk (st := s_TooMuch___init__) eL_TooMuch eC_TooMuch eQ_TooMuch
  have T_TooMuch : Err1 l.prog w K mg base "TooMuch" "good" C_TooMuch := ⟨PySem.W.mg_of X G eA_TooMuch, ox_TooMuch, ⟨eG_TooMuch, eH_TooMuch, eB_TooMuch, eD_TooMuch⟩, eN_TooMuch, eM_TooMuch, fI_TooMuch, _, eI_TooMuch, eJ_TooMuch, ini_toomuch F_TooMuch ox_TooMuch eN_TooMuch, F_TooMuch.binds (fun _ _ _ _ _ _ us hl => match us, hl with | [_, _], _ => rfl)⟩
  have ox_BadTimes : OexC K C_BadTimes := ⟨⟨_, _, _, _, _, _, _, _, _, _, _, _, _, _, _, eX_BadTimes, eR_BadTimes⟩, eS_BadTimes, eB_BadTimes, eT_BadTimes, eK_BadTimes⟩
  have F_BadTimes := fun_mk (st := s_BadTimes___init__) eL_BadTimes eC_BadTimes eQ_BadTimes
  have T_BadTimes : Err1 l.prog w K mg base "BadTimes" "value" C_BadTimes := ⟨PySem.W.mg_of X G eA_BadTimes, ox_BadTimes, ⟨eG_BadTimes, eH_BadTimes, eB_BadTimes, eD_BadTimes⟩, eN_BadTimes, eM_BadTimes, fI_BadTimes, _, eI_BadTimes, eJ_BadTimes, ini_badtimes F_BadTimes ox_BadTimes eN_BadTimes, F_BadTimes.binds (fun _ _ _ _ _ _ us hl => match us, hl with | [_, _], _ => rfl)⟩
  have O_draw := own_draw (P := l.prog) (w := w) (base := base) D__law_draw B
  have O_deck := own_deck (P := l.prog) (w := w) (base := base) D__law_deck B
  have O_one := own_one D__law_one B O_draw
  have O_bag := own_bag D__law_bag B O_draw
  have O_plus := own_plus (P := l.prog) (w := w) (base := base) D__law_plus B
  have O_side := own_side D__law_side B O_draw
  have O_trade := own_trade D__law_trade B O_draw O_side O_plus
  have O_market := own_market D__law_market B O_draw O_trade
  have O_any := own_any D__law_any_market B O_draw O_market
  have O_small := own_small D__law_small B O_draw O_market
  have O_spoil := own_spoil D__law_spoilt B O_draw O_one 21
  have O_wx := own_wholeX (P := l.prog) (w := w) (base := base) D_is_whole B
  have O_whole := O_wx.imp whole_imp
  have O_pair := own_pair (P := l.prog) (w := w) (base := base) D_is_pair B
  have O_isbag := own_isbag D_is_bag B O_whole
  have O_isbagL := own_isbagL D_is_bag B O_wx
  have O_fault := own_fault D_trade_fault B O_pair O_isbag K_MAX_AMOUNT K_MAX_TOTAL
  have O_err := own_err D_market_error B O_whole O_pair O_fault K_MAX_GOODS K_MAX_TRADES
  have O_due := own_dueD D__law_due B O_err
  have O_derr := own_derr D_desk_error B ⟨_, K_MAX_LENT⟩ O_err
  have O_lack := own_lack (P := l.prog) (w := w) (base := base) D_first_lacking B
  have M_init := own_binit D_Bag___init__ B BC T_BadBag O_isbagL
  have M_amounts := own_bamt (P := l.prog) (w := w) (mg := mg) (base := base) F_Bag_amounts P_Bag_amounts BC
  have M_is_like := own_blike (P := l.prog) (w := w) (base := base) D_Bag_is_like B BC
  have M_len := own_blen (P := l.prog) (w := w) (base := base) D_Bag___len__ B BC
  have M_str := own_bstr (P := l.prog) (w := w) (base := base) D_Bag___str__ B BC
  have M_eq := own_beq (P := l.prog) (w := w) (base := base) D_Bag___eq__ B BC
  have O_ck := own_ckind D_check_kind B BC T_BadBag M_is_like
  have O_cr := own_croom D_check_room B BC K_MAX_DESK T_TooMuch O_lack M_len M_amounts
  have M_dinit := own_dinit D_Desk___init__ B BC T_BadMarket T_BadBag O_derr O_ck O_cr M_init
  have O_di := cfun_of M_dinit mA_Desk___init__ ⟨rD, rDg⟩ vD mK_Desk___init__
  have M_cinit := own_cinit D_CappedDesk___init__ B (PySem.W.mg_of X G dA_Desk) T_BadTimes O_wx O_di
  have Q_market := own_dmarket (P := l.prog) (w := w) (mg := mg) (base := base) F_Desk_market P_Desk_market
  have Q_stock := own_dstock (P := l.prog) (w := w) (mg := mg) (base := base) F_Desk_stock P_Desk_stock
  have Q_debt := own_ddebt (P := l.prog) (w := w) (mg := mg) (base := base) F_Desk_debt P_Desk_debt
  have Q_version := own_dversion (P := l.prog) (w := w) (mg := mg) (base := base) F_Desk_version P_Desk_version B
  have Q_settled := own_dsettled F_Desk_settled P_Desk_settled B BC M_amounts
  have Q_cap := own_dcap (P := l.prog) (w := w) (mg := mg) (base := base) F_CappedDesk_cap P_CappedDesk_cap
  have M_dlen := own_dlen (P := l.prog) (w := w) (base := base) D_Desk___len__ B
  have M_bal := own_bal D_Desk_balance B fB bCm M_str
  have M_cbal := own_bal D_CappedDesk_balance B fB bCm M_str
  have M_dstr := own_dstr D_Desk___str__ B CL_Desk M_bal
  have M_cstr := own_cstr D_CappedDesk___str__ B CL_CappedDesk M_cbal
  have M_deq := own_deq D_Desk___eq__ B (PySem.W.mg_of X G dA_Desk) M_eq
  have M_ceq := own_deq D_CappedDesk___eq__ B (PySem.W.mg_of X G dA_Desk) M_eq
  have DT : DkT K mg C_Desk C_CappedDesk := ⟨PySem.W.mg_of X G dA_Desk, PySem.W.mg_of X G dA_CappedDesk, dM_Desk, dM_CappedDesk, dP_Desk, dP_CappedDesk, DX_Desk, DX_CappedDesk, nmC, neDC, sCD, sDC, n1C, SC_Desk⟩
  have DD : Dist K (madeC C_BadMarket C_BadBag C_TooMuch C_BadTimes) := dist4 eM_BadMarket zM_BadBag eM_TooMuch eM_BadTimes xba xca xda xcb xdb xdc
  exact fn_law l22 c22 B TB BC BR DT DD T_BadMarket T_BadBag T_TooMuch T_BadTimes D__law_made O_deck O_draw O_one O_bag O_small O_any O_spoil O_err O_due M_init M_amounts M_str M_dinit M_cinit Q_market Q_stock Q_debt Q_version Q_settled Q_cap M_dlen M_dstr M_cstr M_deq M_ceq
end Lb
open PySem PySem.W PyProof.Rows in
set_option maxHeartbeats 0 in
theorem PySem.Challenge.cw_lentbeside_k35_desks_made_holds : PySem.Challenge.rw_lentbeside_k35_desks_made.Holds := by
  w_on; o_law; k_head; (case hw => w_witness2)
  k_fill
  refine Lb.walk_gT (l := PySem.Challenge.rw_lentbeside_k35_desks_made) (k := 26) (x := "_law_script") rfl rfl ⟨rfl, by decide, by decide⟩ (by first | rfl | decide +kernel) (fun w h Y => PySem.W.km_in_of Y) ?F
  case F =>
    intro w mg fa h KX G hmg own
    refine' Lb.all_mk KX G hmg own ?a0 ?l0 ?c0 ?k0 ?a1 ?l1 ?c1 ?k1 ?a2 ?l2 ?c2 ?k2 ?a3 ?l3 ?c3 ?k3 ?a4 ?l4 ?c4 ?k4 ?a5 ?l5 ?c5 ?k5 ?a6 ?l6 ?c6 ?k6 ?a7 ?l7 ?c7 ?k7 ?a8 ?l8 ?c8 ?k8 ?a9 ?l9 ?c9 ?k9 ?a10 ?l10 ?c10 ?k10 ?a11 ?l11 ?c11 ?k11 ?a12 ?l12 ?c12 ?k12 ?a13 ?l13 ?c13 ?k13 ?a14 ?l14 ?c14 ?k14 ?a15 ?l15 ?c15 ?k15 ?a16 ?l16 ?c16 ?k16 ?a17 ?l17 ?c17 ?k17 ?a18 ?l18 ?c18 ?k18 ?a19 ?l19 ?c19 ?k19 ?a20 ?l20 ?c20 ?k20 ?a21 ?l21 ?c21 ?k21 ?a22 ?l22 ?c22 ?k22 ?vl ?v11 ?nPt ?hhd ?eA_BadMarket ?eX_BadMarket ?eR_BadMarket ?eS_BadMarket ?eG_BadMarket ?eH_BadMarket ?eN_BadMarket ?eK_BadMarket ?eB_BadMarket ?eT_BadMarket ?eD_BadMarket ?eM_BadMarket ?eI_BadMarket ?eJ_BadMarket ?eL_BadMarket ?eC_BadMarket ?eQ_BadMarket ?eA_TooMuch ?eX_TooMuch ?eR_TooMuch ?eS_TooMuch ?eG_TooMuch ?eH_TooMuch ?eN_TooMuch ?eK_TooMuch ?eB_TooMuch ?eT_TooMuch ?eD_TooMuch ?eM_TooMuch ?eI_TooMuch ?eJ_TooMuch ?eL_TooMuch ?eC_TooMuch ?eQ_TooMuch ?eA_BadTimes ?eX_BadTimes ?eR_BadTimes ?eS_BadTimes ?eG_BadTimes ?eH_BadTimes ?eN_BadTimes ?eK_BadTimes ?eB_BadTimes ?eT_BadTimes ?eD_BadTimes ?eM_BadTimes ?eI_BadTimes ?eJ_BadTimes ?eL_BadTimes ?eC_BadTimes ?eQ_BadTimes ?zA_BadBag ?zX_BadBag ?zK_BadBag ?zB_BadBag ?zT_BadBag ?zM_BadBag ?bA ?bG ?bD ?bO ?bS ?bN ?bF ?bCa ?bCn ?bCt ?bCm ?bK ?bR ?bRg ?bV ?bM ?bP ?mA___init__ ?mJ___init__ ?mL___init__ ?mC___init__ ?mK___init__ ?mA_is_like ?mJ_is_like ?mL_is_like ?mC_is_like ?mK_is_like ?mA___len__ ?mJ___len__ ?mL___len__ ?mC___len__ ?mK___len__ ?mA___str__ ?mJ___str__ ?mL___str__ ?mC___str__ ?mK___str__ ?mA___eq__ ?mJ___eq__ ?mL___eq__ ?mC___eq__ ?mK___eq__ ?pA_amounts ?pG_amounts ?pT_amounts ?pR_amounts ?mL_amounts ?mC_amounts ?mK_amounts ?rN__radd__ ?rN__rsub__ ?rN__ror__ ?rN__rand__ ?rN__rmul__ ?rK_int ?rK_bool ?rK_tuple ?rK_list ?rS_tuple ?rS_NoneType ?rS_int ?rS_bool ?rS_str ?rS_list ?rS_dict ?dA_Desk ?dG_Desk ?dH_Desk ?dO_Desk ?dS_Desk ?d1_Desk ?d2_Desk ?d3_Desk ?d4_Desk ?dCa_Desk ?dCm_Desk ?dK_Desk ?dM_Desk ?dP_Desk ?mA_Desk___init__ ?mJ_Desk___init__ ?mL_Desk___init__ ?mC_Desk___init__ ?mK_Desk___init__ ?mA_Desk___len__ ?mJ_Desk___len__ ?mL_Desk___len__ ?mC_Desk___len__ ?mK_Desk___len__ ?mA_Desk___str__ ?mJ_Desk___str__ ?mL_Desk___str__ ?mC_Desk___str__ ?mK_Desk___str__ ?mA_Desk___eq__ ?mJ_Desk___eq__ ?mL_Desk___eq__ ?mC_Desk___eq__ ?mK_Desk___eq__ ?mA_Desk_balance ?mJ_Desk_balance ?mL_Desk_balance ?mC_Desk_balance ?mK_Desk_balance ?pA_Desk_market ?pG_Desk_market ?pT_Desk_market ?pR_Desk_market ?mL_Desk_market ?mC_Desk_market ?mK_Desk_market ?pA_Desk_stock ?pG_Desk_stock ?pT_Desk_stock ?pR_Desk_stock ?mL_Desk_stock ?mC_Desk_stock ?mK_Desk_stock ?pA_Desk_debt ?pG_Desk_debt ?pT_Desk_debt ?pR_Desk_debt ?mL_Desk_debt ?mC_Desk_debt ?mK_Desk_debt ?pA_Desk_version ?pG_Desk_version ?pT_Desk_version ?pR_Desk_version ?mL_Desk_version ?mC_Desk_version ?mK_Desk_version ?pA_Desk_settled ?pG_Desk_settled ?pT_Desk_settled ?pR_Desk_settled ?mL_Desk_settled ?mC_Desk_settled ?mK_Desk_settled ?dA_CappedDesk ?dG_CappedDesk ?dH_CappedDesk ?dO_CappedDesk ?dS_CappedDesk ?d1_CappedDesk ?d2_CappedDesk ?d3_CappedDesk ?d4_CappedDesk ?dCa_CappedDesk ?dCm_CappedDesk ?dK_CappedDesk ?dM_CappedDesk ?dP_CappedDesk ?mA_CappedDesk___init__ ?mJ_CappedDesk___init__ ?mL_CappedDesk___init__ ?mC_CappedDesk___init__ ?mK_CappedDesk___init__ ?mA_CappedDesk___str__ ?mJ_CappedDesk___str__ ?mL_CappedDesk___str__ ?mC_CappedDesk___str__ ?mK_CappedDesk___str__ ?mA_CappedDesk___eq__ ?mJ_CappedDesk___eq__ ?mL_CappedDesk___eq__ ?mC_CappedDesk___eq__ ?mK_CappedDesk___eq__ ?mA_CappedDesk_balance ?mJ_CappedDesk_balance ?mL_CappedDesk_balance ?mC_CappedDesk_balance ?mK_CappedDesk_balance ?pA_CappedDesk_cap ?pG_CappedDesk_cap ?pT_CappedDesk_cap ?pR_CappedDesk_cap ?mL_CappedDesk_cap ?mC_CappedDesk_cap ?mK_CappedDesk_cap ?fB ?kS_tuple ?kS_NoneType ?kS_int ?kS_bool ?kS_str ?kS_list ?kS_dict ?nmC ?neDC ?sCD ?sDC ?n1C ?rD ?rDg ?vD ?xba ?xca ?xda ?xcb ?xdb ?xdc ?z_len ?z_range ?z_int ?z_bool ?z_tuple ?z_list ?z_str ?z_dict ?z_all ?z_any ?z_max ?z_min ?z_sum ?z_zip ?z_enumerate ?z_isinstance ?z_repr ?z_sorted ?v_MAX_GOODS ?v_MAX_TRADES ?v_MAX_AMOUNT ?v_MAX_TOTAL ?v_MAX_LENT ?v_MAX_DESK
    (case a0 => k_is)
    (case l0 => k_is)
    (case c0 => k_is)
    (case k0 => k_is)
    (case a1 => k_is)
    (case l1 => k_is)
    (case c1 => k_is)
    (case k1 => k_is)
    (case a2 => k_is)
    (case l2 => k_is)
    (case c2 => k_is)
    (case k2 => k_is)
    (case a3 => k_is)
    (case l3 => k_is)
    (case c3 => k_is)
    (case k3 => k_is)
    (case a4 => k_is)
    (case l4 => k_is)
    (case c4 => k_is)
    (case k4 => k_is)
    (case a5 => k_is)
    (case l5 => k_is)
    (case c5 => k_is)
    (case k5 => k_is)
    (case a6 => k_is)
    (case l6 => k_is)
    (case c6 => k_is)
    (case k6 => k_is)
    (case a7 => k_is)
    (case l7 => k_is)
    (case c7 => k_is)
    (case k7 => k_is)
    (case a8 => k_is)
    (case l8 => k_is)
    (case c8 => k_is)
    (case k8 => k_is)
    (case a9 => k_is)
    (case l9 => k_is)
    (case c9 => k_is)
    (case k9 => k_is)
    (case a10 => k_is)
    (case l10 => k_is)
    (case c10 => k_is)
    (case k10 => k_is)
    (case a11 => k_is)
    (case l11 => k_is)
    (case c11 => k_is)
    (case k11 => k_is)
    (case a12 => k_is)
    (case l12 => k_is)
    (case c12 => k_is)
    (case k12 => k_is)
    (case a13 => k_is)
    (case l13 => k_is)
    (case c13 => k_is)
    (case k13 => k_is)
    (case a14 => k_is)
    (case l14 => k_is)
    (case c14 => k_is)
    (case k14 => k_is)
    (case a15 => k_is)
    (case l15 => k_is)
    (case c15 => k_is)
    (case k15 => k_is)
    (case a16 => k_is)
    (case l16 => k_is)
    (case c16 => k_is)
    (case k16 => k_is)
    (case a17 => k_is)
    (case l17 => k_is)
    (case c17 => k_is)
    (case k17 => k_is)
    (case a18 => k_is)
    (case l18 => k_is)
    (case c18 => k_is)
    (case k18 => k_is)
    (case a19 => k_is)
    (case l19 => k_is)
    (case c19 => k_is)
    (case k19 => k_is)
    (case a20 => k_is)
    (case l20 => k_is)
    (case c20 => k_is)
    (case k20 => k_is)
    (case a21 => k_is)
    (case l21 => k_is)
    (case c21 => k_is)
    (case k21 => k_is)
    (case a22 => k_is)
    (case l22 => k_is)
    (case c22 => k_is)
    (case k22 => k_is)
    (case vl => k_is)
    (case v11 => rfl)
    (case nPt => first | rfl | k_is)
    (case hhd => first | rfl | k_is)
    (case eA_BadMarket => k_is)
    (case eX_BadMarket => k_is)
    (case eR_BadMarket => decide +kernel)
    (case eS_BadMarket => k_is)
    (case eG_BadMarket => k_is)
    (case eH_BadMarket => k_is)
    (case eN_BadMarket => k_is)
    (case eK_BadMarket => k_is)
    (case eB_BadMarket => k_is)
    (case eT_BadMarket => k_is)
    (case eD_BadMarket => k_is)
    (case eM_BadMarket => first | rfl | k_is)
    (case eI_BadMarket => k_is)
    (case eJ_BadMarket => k_is)
    (case eL_BadMarket => k_is)
    (case eC_BadMarket => k_is)
    (case eQ_BadMarket => k_is)
    (case eA_TooMuch => k_is)
    (case eX_TooMuch => k_is)
    (case eR_TooMuch => decide +kernel)
    (case eS_TooMuch => k_is)
    (case eG_TooMuch => k_is)
    (case eH_TooMuch => k_is)
    (case eN_TooMuch => k_is)
    (case eK_TooMuch => k_is)
    (case eB_TooMuch => k_is)
    (case eT_TooMuch => k_is)
    (case eD_TooMuch => k_is)
    (case eM_TooMuch => first | rfl | k_is)
    (case eI_TooMuch => k_is)
    (case eJ_TooMuch => k_is)
    (case eL_TooMuch => k_is)
    (case eC_TooMuch => k_is)
    (case eQ_TooMuch => k_is)
    (case eA_BadTimes => k_is)
    (case eX_BadTimes => k_is)
    (case eR_BadTimes => decide +kernel)
    (case eS_BadTimes => k_is)
    (case eG_BadTimes => k_is)
    (case eH_BadTimes => k_is)
    (case eN_BadTimes => k_is)
    (case eK_BadTimes => k_is)
    (case eB_BadTimes => k_is)
    (case eT_BadTimes => k_is)
    (case eD_BadTimes => k_is)
    (case eM_BadTimes => first | rfl | k_is)
    (case eI_BadTimes => k_is)
    (case eJ_BadTimes => k_is)
    (case eL_BadTimes => k_is)
    (case eC_BadTimes => k_is)
    (case eQ_BadTimes => k_is)
    (case zA_BadBag => k_is)
    (case zX_BadBag => k_exc)
    (case zK_BadBag => k_is)
    (case zB_BadBag => k_is)
    (case zT_BadBag => k_is)
    (case zM_BadBag => first | rfl | k_is)
    (case bA => first | k_is | rfl | decide +kernel)
    (case bG => first | k_is | rfl | decide +kernel)
    (case bD => first | k_is | rfl | decide +kernel)
    (case bO => first | k_is | rfl | decide +kernel)
    (case bS => first | k_is | rfl | decide +kernel)
    (case bN => first | k_is | rfl | decide +kernel)
    (case bF => first | k_is | rfl | decide +kernel)
    (case bCa => first | k_is | rfl | decide +kernel)
    (case bCn => first | k_is | rfl | decide +kernel)
    (case bCt => first | k_is | rfl | decide +kernel)
    (case bCm => first | k_is | rfl | decide +kernel)
    (case bK => first | k_is | rfl | decide +kernel)
    (case bR => first | k_is | rfl | decide +kernel)
    (case bRg => first | k_is | rfl | decide +kernel)
    (case bV => first | k_is | rfl | decide +kernel)
    (case bM => first | k_is | rfl | decide +kernel)
    (case bP => first | k_is | rfl | decide +kernel)
    (case mA___init__ => first | k_is | rfl | decide +kernel)
    (case mJ___init__ => first | k_is | rfl | decide +kernel)
    (case mL___init__ => first | k_is | rfl | decide +kernel)
    (case mC___init__ => first | k_is | rfl | decide +kernel)
    (case mK___init__ => first | k_is | rfl | decide +kernel)
    (case mA_is_like => first | k_is | rfl | decide +kernel)
    (case mJ_is_like => first | k_is | rfl | decide +kernel)
    (case mL_is_like => first | k_is | rfl | decide +kernel)
    (case mC_is_like => first | k_is | rfl | decide +kernel)
    (case mK_is_like => first | k_is | rfl | decide +kernel)
    (case mA___len__ => first | k_is | rfl | decide +kernel)
    (case mJ___len__ => first | k_is | rfl | decide +kernel)
    (case mL___len__ => first | k_is | rfl | decide +kernel)
    (case mC___len__ => first | k_is | rfl | decide +kernel)
    (case mK___len__ => first | k_is | rfl | decide +kernel)
    (case mA___str__ => first | k_is | rfl | decide +kernel)
    (case mJ___str__ => first | k_is | rfl | decide +kernel)
    (case mL___str__ => first | k_is | rfl | decide +kernel)
    (case mC___str__ => first | k_is | rfl | decide +kernel)
    (case mK___str__ => first | k_is | rfl | decide +kernel)
    (case mA___eq__ => first | k_is | rfl | decide +kernel)
    (case mJ___eq__ => first | k_is | rfl | decide +kernel)
    (case mL___eq__ => first | k_is | rfl | decide +kernel)
    (case mC___eq__ => first | k_is | rfl | decide +kernel)
    (case mK___eq__ => first | k_is | rfl | decide +kernel)
    (case pA_amounts => first | k_is | rfl | decide +kernel)
    (case pG_amounts => first | k_is | rfl | decide +kernel)
    (case pT_amounts => first | k_is | rfl | decide +kernel)
    (case pR_amounts => first | k_is | rfl | decide +kernel)
    (case mL_amounts => first | k_is | rfl | decide +kernel)
    (case mC_amounts => first | k_is | rfl | decide +kernel)
    (case mK_amounts => first | k_is | rfl | decide +kernel)
    (case rN__radd__ => first | k_is | rfl | decide +kernel)
    (case rN__rsub__ => first | k_is | rfl | decide +kernel)
    (case rN__ror__ => first | k_is | rfl | decide +kernel)
    (case rN__rand__ => first | k_is | rfl | decide +kernel)
    (case rN__rmul__ => first | k_is | rfl | decide +kernel)
    (case rK_int => first | k_is | rfl | decide +kernel)
    (case rK_bool => first | k_is | rfl | decide +kernel)
    (case rK_tuple => first | k_is | rfl | decide +kernel)
    (case rK_list => first | k_is | rfl | decide +kernel)
    (case rS_tuple => first | k_is | rfl | decide +kernel)
    (case rS_NoneType => first | k_is | rfl | decide +kernel)
    (case rS_int => first | k_is | rfl | decide +kernel)
    (case rS_bool => first | k_is | rfl | decide +kernel)
    (case rS_str => first | k_is | rfl | decide +kernel)
    (case rS_list => first | k_is | rfl | decide +kernel)
    (case rS_dict => first | k_is | rfl | decide +kernel)
    (case dA_Desk => first | k_is | rfl | decide +kernel)
    (case dG_Desk => first | k_is | rfl | decide +kernel)
    (case dH_Desk => first | k_is | rfl | decide +kernel)
    (case dO_Desk => first | k_is | rfl | decide +kernel)
    (case dS_Desk => first | k_is | rfl | decide +kernel)
    (case d1_Desk => first | k_is | rfl | decide +kernel)
    (case d2_Desk => first | k_is | rfl | decide +kernel)
    (case d3_Desk => first | k_is | rfl | decide +kernel)
    (case d4_Desk => first | k_is | rfl | decide +kernel)
    (case dCa_Desk => first | k_is | rfl | decide +kernel)
    (case dCm_Desk => first | k_is | rfl | decide +kernel)
    (case dK_Desk => first | k_is | rfl | decide +kernel)
    (case dM_Desk => first | k_is | rfl | decide +kernel)
    (case dP_Desk => first | k_is | rfl | decide +kernel)
    (case mA_Desk___init__ => first | k_is | rfl | decide +kernel)
    (case mJ_Desk___init__ => first | k_is | rfl | decide +kernel)
    (case mL_Desk___init__ => first | k_is | rfl | decide +kernel)
    (case mC_Desk___init__ => first | k_is | rfl | decide +kernel)
    (case mK_Desk___init__ => first | k_is | rfl | decide +kernel)
    (case mA_Desk___len__ => first | k_is | rfl | decide +kernel)
    (case mJ_Desk___len__ => first | k_is | rfl | decide +kernel)
    (case mL_Desk___len__ => first | k_is | rfl | decide +kernel)
    (case mC_Desk___len__ => first | k_is | rfl | decide +kernel)
    (case mK_Desk___len__ => first | k_is | rfl | decide +kernel)
    (case mA_Desk___str__ => first | k_is | rfl | decide +kernel)
    (case mJ_Desk___str__ => first | k_is | rfl | decide +kernel)
    (case mL_Desk___str__ => first | k_is | rfl | decide +kernel)
    (case mC_Desk___str__ => first | k_is | rfl | decide +kernel)
    (case mK_Desk___str__ => first | k_is | rfl | decide +kernel)
    (case mA_Desk___eq__ => first | k_is | rfl | decide +kernel)
    (case mJ_Desk___eq__ => first | k_is | rfl | decide +kernel)
    (case mL_Desk___eq__ => first | k_is | rfl | decide +kernel)
    (case mC_Desk___eq__ => first | k_is | rfl | decide +kernel)
    (case mK_Desk___eq__ => first | k_is | rfl | decide +kernel)
    (case mA_Desk_balance => first | k_is | rfl | decide +kernel)
    (case mJ_Desk_balance => first | k_is | rfl | decide +kernel)
    (case mL_Desk_balance => first | k_is | rfl | decide +kernel)
    (case mC_Desk_balance => first | k_is | rfl | decide +kernel)
    (case mK_Desk_balance => first | k_is | rfl | decide +kernel)
    (case pA_Desk_market => first | k_is | rfl | decide +kernel)
    (case pG_Desk_market => first | k_is | rfl | decide +kernel)
    (case pT_Desk_market => first | k_is | rfl | decide +kernel)
    (case pR_Desk_market => first | k_is | rfl | decide +kernel)
    (case mL_Desk_market => first | k_is | rfl | decide +kernel)
    (case mC_Desk_market => first | k_is | rfl | decide +kernel)
    (case mK_Desk_market => first | k_is | rfl | decide +kernel)
    (case pA_Desk_stock => first | k_is | rfl | decide +kernel)
    (case pG_Desk_stock => first | k_is | rfl | decide +kernel)
    (case pT_Desk_stock => first | k_is | rfl | decide +kernel)
    (case pR_Desk_stock => first | k_is | rfl | decide +kernel)
    (case mL_Desk_stock => first | k_is | rfl | decide +kernel)
    (case mC_Desk_stock => first | k_is | rfl | decide +kernel)
    (case mK_Desk_stock => first | k_is | rfl | decide +kernel)
    (case pA_Desk_debt => first | k_is | rfl | decide +kernel)
    (case pG_Desk_debt => first | k_is | rfl | decide +kernel)
    (case pT_Desk_debt => first | k_is | rfl | decide +kernel)
    (case pR_Desk_debt => first | k_is | rfl | decide +kernel)
    (case mL_Desk_debt => first | k_is | rfl | decide +kernel)
    (case mC_Desk_debt => first | k_is | rfl | decide +kernel)
    (case mK_Desk_debt => first | k_is | rfl | decide +kernel)
    (case pA_Desk_version => first | k_is | rfl | decide +kernel)
    (case pG_Desk_version => first | k_is | rfl | decide +kernel)
    (case pT_Desk_version => first | k_is | rfl | decide +kernel)
    (case pR_Desk_version => first | k_is | rfl | decide +kernel)
    (case mL_Desk_version => first | k_is | rfl | decide +kernel)
    (case mC_Desk_version => first | k_is | rfl | decide +kernel)
    (case mK_Desk_version => first | k_is | rfl | decide +kernel)
    (case pA_Desk_settled => first | k_is | rfl | decide +kernel)
    (case pG_Desk_settled => first | k_is | rfl | decide +kernel)
    (case pT_Desk_settled => first | k_is | rfl | decide +kernel)
    (case pR_Desk_settled => first | k_is | rfl | decide +kernel)
    (case mL_Desk_settled => first | k_is | rfl | decide +kernel)
    (case mC_Desk_settled => first | k_is | rfl | decide +kernel)
    (case mK_Desk_settled => first | k_is | rfl | decide +kernel)
    (case dA_CappedDesk => first | k_is | rfl | decide +kernel)
    (case dG_CappedDesk => first | k_is | rfl | decide +kernel)
    (case dH_CappedDesk => first | k_is | rfl | decide +kernel)
    (case dO_CappedDesk => first | k_is | rfl | decide +kernel)
    (case dS_CappedDesk => first | k_is | rfl | decide +kernel)
    (case d1_CappedDesk => first | k_is | rfl | decide +kernel)
    (case d2_CappedDesk => first | k_is | rfl | decide +kernel)
    (case d3_CappedDesk => first | k_is | rfl | decide +kernel)
    (case d4_CappedDesk => first | k_is | rfl | decide +kernel)
    (case dCa_CappedDesk => first | k_is | rfl | decide +kernel)
    (case dCm_CappedDesk => first | k_is | rfl | decide +kernel)
    (case dK_CappedDesk => first | k_is | rfl | decide +kernel)
    (case dM_CappedDesk => first | k_is | rfl | decide +kernel)
    (case dP_CappedDesk => first | k_is | rfl | decide +kernel)
    (case mA_CappedDesk___init__ => first | k_is | rfl | decide +kernel)
    (case mJ_CappedDesk___init__ => first | k_is | rfl | decide +kernel)
    (case mL_CappedDesk___init__ => first | k_is | rfl | decide +kernel)
    (case mC_CappedDesk___init__ => first | k_is | rfl | decide +kernel)
    (case mK_CappedDesk___init__ => first | k_is | rfl | decide +kernel)
    (case mA_CappedDesk___str__ => first | k_is | rfl | decide +kernel)
    (case mJ_CappedDesk___str__ => first | k_is | rfl | decide +kernel)
    (case mL_CappedDesk___str__ => first | k_is | rfl | decide +kernel)
    (case mC_CappedDesk___str__ => first | k_is | rfl | decide +kernel)
    (case mK_CappedDesk___str__ => first | k_is | rfl | decide +kernel)
    (case mA_CappedDesk___eq__ => first | k_is | rfl | decide +kernel)
    (case mJ_CappedDesk___eq__ => first | k_is | rfl | decide +kernel)
    (case mL_CappedDesk___eq__ => first | k_is | rfl | decide +kernel)
    (case mC_CappedDesk___eq__ => first | k_is | rfl | decide +kernel)
    (case mK_CappedDesk___eq__ => first | k_is | rfl | decide +kernel)
    (case mA_CappedDesk_balance => first | k_is | rfl | decide +kernel)
    (case mJ_CappedDesk_balance => first | k_is | rfl | decide +kernel)
    (case mL_CappedDesk_balance => first | k_is | rfl | decide +kernel)
    (case mC_CappedDesk_balance => first | k_is | rfl | decide +kernel)
    (case mK_CappedDesk_balance => first | k_is | rfl | decide +kernel)
    (case pA_CappedDesk_cap => first | k_is | rfl | decide +kernel)
    (case pG_CappedDesk_cap => first | k_is | rfl | decide +kernel)
    (case pT_CappedDesk_cap => first | k_is | rfl | decide +kernel)
    (case pR_CappedDesk_cap => first | k_is | rfl | decide +kernel)
    (case mL_CappedDesk_cap => first | k_is | rfl | decide +kernel)
    (case mC_CappedDesk_cap => first | k_is | rfl | decide +kernel)
    (case mK_CappedDesk_cap => first | k_is | rfl | decide +kernel)
    (case fB => first | k_is | rfl | decide +kernel)
    (case kS_tuple => first | k_is | rfl | decide +kernel)
    (case kS_NoneType => first | k_is | rfl | decide +kernel)
    (case kS_int => first | k_is | rfl | decide +kernel)
    (case kS_bool => first | k_is | rfl | decide +kernel)
    (case kS_str => first | k_is | rfl | decide +kernel)
    (case kS_list => first | k_is | rfl | decide +kernel)
    (case kS_dict => first | k_is | rfl | decide +kernel)
    (case nmC => first | k_is | rfl | decide +kernel)
    (case neDC => first | k_is | rfl | decide +kernel)
    (case sCD => first | k_is | rfl | decide +kernel)
    (case sDC => first | k_is | rfl | decide +kernel)
    (case n1C => first | k_is | rfl | decide +kernel)
    (case rD => first | k_is | rfl | decide +kernel)
    (case rDg => first | k_is | rfl | decide +kernel)
    (case vD => first | k_is | rfl | decide +kernel)
    (case xba => first | k_is | rfl | decide +kernel)
    (case xca => first | k_is | rfl | decide +kernel)
    (case xda => first | k_is | rfl | decide +kernel)
    (case xcb => first | k_is | rfl | decide +kernel)
    (case xdb => first | k_is | rfl | decide +kernel)
    (case xdc => first | k_is | rfl | decide +kernel)
    (case z_len => k_is)
    (case z_range => k_is)
    (case z_int => k_is)
    (case z_bool => k_is)
    (case z_tuple => k_is)
    (case z_list => k_is)
    (case z_str => k_is)
    (case z_dict => k_is)
    (case z_all => k_is)
    (case z_any => k_is)
    (case z_max => k_is)
    (case z_min => k_is)
    (case z_sum => k_is)
    (case z_zip => k_is)
    (case z_enumerate => k_is)
    (case z_isinstance => k_is)
    (case z_repr => k_is)
    (case z_sorted => k_is)
    (case v_MAX_GOODS => k_is)
    (case v_MAX_TRADES => k_is)
    (case v_MAX_AMOUNT => k_is)
    (case v_MAX_TOTAL => k_is)
    (case v_MAX_LENT => k_is)
    (case v_MAX_DESK => k_is)
