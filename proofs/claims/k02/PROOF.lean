import PyProof.Rows.All
import Wide.All
import OpenK.AllK
import Wide.FinOn
import HandS.Base
import HandS.Call
import HandS.List
import HandS.Comp
import HandS.Ends
import HandS.Dict
import HandS.Iter
import HandS.Text
import HandS.Words
import HandS.WordsList
import KE.GoesEnum
import KE.KTupSum
import KE.DataMinMax
import HandS.TupMul
import HandS.TupAny
import HandS.IsInst
import HandS.Zip
import HandS.Style
import PyProof.ReprRoads
import PyProof.CallFns
import HandS.TryOnly
import KE.GoesMore
import HandS.ExcInit
import HandS.ExcField
import HandS.ExcOwn
import HandS.Lambda
import HandS.WordsExc
import HandS.EndOwn
import KE.LtData
import PyProof.SumAnyB
import KE.LcSums
import PySem.Challenge.RW_lentbeside_k02_walks
set_option Elab.async false
set_option linter.all false
set_option maxRecDepth 100000
set_option maxHeartbeats 2000000
/-! Rules that the hand layer lacks: sums and greatest items of tuples, enumerate of a tuple, zip of three, t[::-1], t * 0, t * 1. -/
namespace Lb
open PySem PySem.Spec PyProof.Rows L2
section
variable {X : Cx}
/-! ### sum(t), max(t) -/
def rSumT (K : PySem.W.Frag) : List V → Hp → VK → Prop := fun vs H Q => ∃ (a : Addr) (ns : List Int), vs = [V.ref a] ∧ SqT K H a (ns.map V.int) ∧ Q (.int ns.sum) H
theorem cr_sumT (hc : X.calm = true) : CallR X (.builtin "sum") (rSumT X.K) := by
  intro pins s σ H vs us Q I r h
  obtain ⟨a, ns, rfl, hs, q⟩ := h
  obtain ⟨its, rv, ht, _⟩ := I.tuple hs
  rw [Vals.ref1 r]
  obtain ⟨xs, e⟩ := rv.ints.allInts.items
  have hn : numsOf (intItems xs).toList = ns := by
    rw [← e]
    exact rv.ints.numsOf
  rw [nums_intItems] at hn
  have ht' : s.heap.IsTuple a (intItems xs) := by
    rw [← e]
    exact ht
  refine PySem.W.ktm_sumG (I.ok.hd hc) ht' fun h' tk t' hk => ?_
  have et : preSum (numAt xs) xs.size = ns.sum := by
    rw [preSum_eq, List.take_of_length_le (by simp), hn]
  rw [et]
  exact ⟨.int _, H, I.kept hk, ⟨_, rfl⟩, q⟩
theorem reads_ints {h : Heap} : ∀ {its : List Value} {ns : List Int}, Vals (ns.map V.int) its → ReadsAll h its (ns.map PyData.int) []
  | [], [], _ => .nil
  | u :: us, n :: ns, r => by
    cases r with
    | cons r1 r2 =>
      obtain ⟨t, rfl⟩ := r1
      exact .cons (as := []) (.int n t) (reads_ints r2)
  | [], _ :: _, r => nomatch r
  | _ :: _, [], r => nomatch r
theorem maxD_ints : ∀ (ns : List Int) (n : Int), ∃ m, PySem.W.maxD (.int n) (ns.map PyData.int) = .int m ∧ m ∈ n :: ns ∧ ∀ y ∈ n :: ns, y ≤ m
  | [], n => ⟨n, rfl, List.mem_cons_self, fun y hy => by
      rw [List.mem_singleton.mp hy]
      exact Int.le_refl _⟩
  | k :: ns, n => by
    unfold PySem.W.maxD
    rw [List.map_cons, List.foldl_cons]
    by_cases h : n < k
    · have e : (if PySem.W.dataLt (.int n) (.int k) = true then PyData.int k else .int n) = .int k := by
        rw [if_pos]
        rw [PySem.W.dataLt_int]
        exact decide_eq_true h
      rw [e]
      obtain ⟨m, e2, h1, h2⟩ := maxD_ints ns k
      refine ⟨m, e2, List.mem_cons_of_mem _ h1, fun y hy => ?_⟩
      rcases List.mem_cons.mp hy with rfl | hy
      · have := h2 k List.mem_cons_self
        omega
      · exact h2 y hy
    · have e : (if PySem.W.dataLt (.int n) (.int k) = true then PyData.int k else .int n) = .int n := by
        rw [if_neg]
        intro z
        rw [PySem.W.dataLt_int] at z
        exact h (of_decide_eq_true z)
      rw [e]
      obtain ⟨m, e2, h1, h2⟩ := maxD_ints ns n
      refine ⟨m, e2, ?_, fun y hy => ?_⟩
      · rcases List.mem_cons.mp h1 with rfl | h1
        · exact List.mem_cons_self
        · exact List.mem_cons_of_mem _ (List.mem_cons_of_mem _ h1)
      · rcases List.mem_cons.mp hy with rfl | hy
        · exact h2 y List.mem_cons_self
        · rcases List.mem_cons.mp hy with rfl | hy
          · have := h2 n List.mem_cons_self
            omega
          · exact h2 y (List.mem_cons_of_mem _ hy)
def rMaxT (K : PySem.W.Frag) : List V → Hp → VK → Prop := fun vs H Q => ∃ (a : Addr) (ns : List Int), vs = [V.ref a] ∧ SqT K H a (ns.map V.int) ∧ 0 < ns.length ∧ ∀ m, m ∈ ns → (∀ y, y ∈ ns → y ≤ m) → Q (.int m) H
theorem depth_ints : ∀ ns : List Int, PyData.depthAll (ns.map PyData.int) = 0
  | [] => rfl
  | n :: ns => by
    rw [List.map_cons]
    simp [PyData.depthAll, PyData.depth, depth_ints ns]
theorem cr_maxT (hc : X.calm = true) (hu : X.A.units + 1 < cLine) : CallR X (.builtin "max") (rMaxT X.K) := by
  intro pins s σ H vs us Q I r h
  obtain ⟨a, ns, rfl, hs, hne, q⟩ := h
  obtain ⟨its, rv, ht, _⟩ := I.tuple hs
  rw [Vals.ref1 r]
  cases ns with
  | nil => exact absurd hne (Nat.lt_irrefl 0)
  | cons n ns =>
    have hr : ReadsAll s.heap its.toArray.toList (.int n :: ns.map PyData.int) [] := reads_ints (ns := n :: ns) rv
    refine PySem.W.max_tuple_data (I.ok.hd hc) ht hr ⟨fun x hx y hy => ?_, fun x hx => ?_⟩ ?_ fun i v h' tk bs hi rd hk => ?_
    · have e : ∀ z ∈ (PyData.int n :: ns.map PyData.int), ∃ k, z = PyData.int k := fun z hz => by
        rcases List.mem_cons.mp hz with rfl | hz
        · exact ⟨n, rfl⟩
        · obtain ⟨k, _, rfl⟩ := List.mem_map.mp hz
          exact ⟨k, rfl⟩
      obtain ⟨k1, rfl⟩ := e x hx
      obtain ⟨k2, rfl⟩ := e y hy
      rfl
    · rcases List.mem_cons.mp hx with rfl | hx
      · exact fun z => nomatch z
      · obtain ⟨k, _, rfl⟩ := List.mem_map.mp hx
        exact fun z => nomatch z
    · have := depth_ints (n :: ns)
      rw [List.map_cons] at this
      rw [this]
      exact hu
    · obtain ⟨m, e, h1, h2⟩ := maxD_ints ns n
      rw [e] at rd
      cases rd with
      | int _ t => exact ⟨.int m, H, I.kept hk, ⟨_, rfl⟩, q m h1 h2⟩
end
end Lb
set_option Elab.async false
set_option linter.all false
set_option maxRecDepth 100000
set_option maxHeartbeats 2000000
namespace Lb
open PySem PySem.Spec PyProof.Rows L2
/-! ### enumerate(t), t a tuple -/
set_option maxHeartbeats 4000000 in
theorem meets_enum1 {v : Value} {o : Obj} {G : Heap → Prop} (B : Begins v o G) :
    Meets (Builtin.«enumerate.__new__» ⟨[.type "enumerate", v], []⟩) (fun _ R s => G s.heap ∧
      R (.ok (.ret (.ref (s.heap.push o).objs.size))) { s with heap := (s.heap.push o).push { cls := .type "enumerate", data := .fields #[.none, .bool false, .ref s.heap.objs.size, rawInt 0, .none, .none] } }) :=
  .of_wp fun prog w A R s h => by
    obtain ⟨hp, g, d, tk, os⟩ := s
    obtain ⟨g1, h⟩ := h
    have hsub := sub_enumerate
    have qi : ∀ {A' : Around} {E : Value → Shared → Prop} {Q : Value → Shared → Prop}, Q (.ref hp.objs.size) ⟨hp.push o, g, d, tk, os⟩ → wpAny (model prog w) A' (pyIter v) Q E ⟨hp, g, d, tk, os⟩ :=
      fun q => B.iter prog w _ _ ⟨hp, g, d, tk, os⟩ _ g1 q
    wp_walk using qi
    refine wpAny_stack_any fun st => wpAny_pure ?_
    split
    · rename_i c _ _ _ _ _
      cases (c == Value.type "enumerate")
      · wp_walk using qi
        exact ⟨_, rfl, h⟩
      · wp_walk using qi
        exact ⟨_, rfl, h⟩
    · wp_walk using qi
      exact ⟨_, rfl, h⟩
theorem enum1 {prog : Program} {w : World} {A : Around} {E : Value → Shared → Prop} {s : Shared} {v : Value} {o : Obj} {G : Heap → Prop} {Q : Value → Shared → Prop} (B : Begins v o G) (g : G s.heap)
    (h : ∀ h', IsEnum h' (s.heap.objs.size + 1) s.heap.objs.size 0 .none → h'.get? s.heap.objs.size = some o → (∀ b o, s.heap.get? b = some o → h'.get? b = some o) → Q (.ref (s.heap.objs.size + 1)) { s with heap := h' }) :
    wpAny (model prog w) A (call (.type "enumerate") [v]) Q E s := by
  refine callType_new F.called_enumerate (by decide) (F.typeCall_enumerate_1 _) (F.newCall_enumerate_1 _) (fun obj => F.args_object_init_2 obj _) F.entry_enumerate_new (meets_enum1 B) ⟨g, ?_⟩
  have z1 : (s.heap.push o).objs.size = s.heap.objs.size + 1 := Heap.size_push ..
  show _ ∧ _
  rw [z1]
  have he : IsEnum ((s.heap.push o).push { cls := .type "enumerate", data := .fields #[.none, .bool false, .ref s.heap.objs.size, rawInt 0, .none, .none] }) (s.heap.objs.size + 1) s.heap.objs.size 0 .none := by
    have := Heap.get?_push_size (s.heap.push o) (o := { cls := .type "enumerate", data := .fields #[.none, .bool false, .ref s.heap.objs.size, rawInt 0, .none, .none] }) rfl
    rw [z1] at this
    exact this
  exact ⟨⟨_, he, rfl⟩, h _ he (Heap.get?_push_of_some _ (Heap.get?_push_size _ B.free)) fun b ob q => Heap.get?_push_of_some _ (Heap.get?_push_of_some _ q)⟩
/-- the tuple at a, each item in a new pair with its index -/
def IteT (K : PySem.W.Frag) (a : Addr) : It :=
  ⟨fun i H => ∃ (xs : List V) (x : V), SqT K H a xs ∧ xs[i]? = some x, fun i H v H' => ∃ T x, v = .ref T ∧ H T = none ∧ H' = upd H T (.tup [.int (i : Nat), x]) ∧ ∀ xs, SqT K H a xs → xs[i]? = some x,
    fun i H => ∃ xs : List V, SqT K H a xs ∧ xs.length ≤ i⟩
theorem tupIter_at {h h' : Heap} {it a : Addr} {i : Nat} (t : h.IsTupleIter it a i) (k : ∀ o, h.get? it = some o → h'.get? it = some o) : h'.IsTupleIter it a i :=
  let ⟨o, e, r⟩ := t
  ⟨o, k o e, r⟩
theorem turn_enumT {P : Program} {w : World} {K : PySem.W.Frag} {elts : List Expr} {kk : Nat} {tpos : Pos} (a e it : Addr) :
    Turn P w K (.Tuple elts kk tpos) (IteT K a) [e, it] e (fun i h => (∃ old, IsEnum h e it ((i : Nat) : Int) old) ∧ h.IsTupleIter it a i ∧ e ≠ it) where
  mem := by simp
  obj := fun i h st b hb => by
    obtain ⟨⟨old, he⟩, ⟨o, ho, hc, hd⟩, _⟩ := st
    have e' : b = e ∨ b = it := by simpa using hb
    rcases e' with z | z
    · rw [z]
      exact ⟨_, he, fun v q => nomatch q⟩
    · rw [z]
      exact ⟨o, ho, fun v q => by rw [hd] at q; cases q⟩
  keep := fun i h h' st k => let ⟨⟨old, he⟩, hi, hne⟩ := st; ⟨⟨old, k e (by simp) _ he⟩, tupIter_at hi fun o q => k it (by simp) o q, hne⟩
  item := by
    intro X hP hw hK hc i pins s σ H E I hf st hg
    subst hP hw hK
    obtain ⟨⟨old, he⟩, hit, hne⟩ := st
    obtain ⟨xs, x, hq, hx⟩ := hg
    obtain ⟨its, rv, p, hz⟩ := I.tuple hq
    obtain ⟨u, hu, ru⟩ := rv.get hx
    have hel : e < s.heap.objs.size := Heap.lt_size he
    have hil : it < s.heap.objs.size := by
      obtain ⟨_, q, _⟩ := hit
      exact Heap.lt_size q
    have hat : H a ≠ none ∨ ∃ o, X.K.lookup a = some o := by
      rcases hq with (q | ⟨_, q⟩) | ⟨o, _, _, q, _⟩
      · exact .inl (by rw [q]; exact fun z => nomatch z)
      · exact .inl (by rw [q]; exact fun z => nomatch z)
      · exact .inr ⟨o, q⟩
    have hai : ∀ c, c ∈ [e, it] → a ≠ c := fun c hc q => by
      obtain ⟨o, ho, ho2, n, ho3⟩ := p
      have f0 := (hf c hc).1
      have cls : ∀ o', s.heap.get? a = some o' → o' = o := fun o' q' => by rw [ho] at q'; exact (Option.some.inj q').symm
      have e' : c = e ∨ c = it := by simpa using hc
      rcases e' with z | z
      · rw [q, z] at cls
        have := cls _ he
        rw [← this] at ho2
        injection ho2 with z2
        exact absurd z2 (by decide)
      · obtain ⟨oi, hoi, hci, _⟩ := hit
        rw [q, z] at cls
        have := cls _ hoi
        rw [← this, hci] at ho2
        injection ho2 with z2
        exact absurd z2 (by decide)
    have D := Draws.tuple (prog := X.prog) (w := X.w) (A := X.A.in1) (I.ok.hd hc) it a (hai it (by simp)) its.toArray
    have hlt : i < its.toArray.size := by
      rw [List.size_toArray]
      exact (List.getElem?_eq_some_iff.mp hu).1
    refine wpAny_pyNext_enum_itemC (c := ((i : Nat) : Int)) D he ⟨hit, p⟩ hlt hne (fun z => ?_) fun y h' tk hy ho st' hT hsz hk => ?_
    · have z' : e = it ∨ e = a := by simpa using z
      rcases z' with z | z
      · exact hne z
      · exact hai e (by simp) z.symm
    have ey : y = u := by
      have : its.toArray[i]? = some u := by simpa using hu
      rw [this] at hy
      exact (Option.some.inj hy).symm
    subst ey
    refine ⟨_, rfl, wpAny_letOwnedTupleGo_enum (s := { s with heap := h', toks := tk + 1 }) ho fun h'' he' sb => ?_⟩
    have hT2 : h''.get? s.heap.objs.size = some { cls := .type "tuple", data := .seq #[.int i tk, y] } := (sb.2 _ (Nat.ne_of_gt hel)).trans hT
    have new : ObjOk X.prog X.w (upd H s.heap.objs.size (.tup [.int (i : Nat), x])) h'' s.heap.objs.size (.tup [.int (i : Nat), x]) :=
      ⟨by show 2 ≤ sizeLine; decide, [.int i tk, y], .cons ⟨_, rfl⟩ (.cons ru .nil), ⟨_, hT2, rfl, _, rfl⟩⟩
    have I1 : Inv X pins σ (upd H s.heap.objs.size (.tup [.int (i : Nat), x])) { s with heap := h'', toks := tk + 1 } :=
      I.turnedNew (ch := [e, it]) (fun b ob hb q => (sb.2 b (fun z => hb (by simp [z]))).trans (hk b ob (fun z => hb (by simp [z])) (fun z => hb (by simp [z])) q)) hf (Nat.le_refl _) new
    refine ⟨.ref s.heap.objs.size, _, I1, rfl, ⟨_, x, rfl, I.hok.fresh (Nat.le_refl _), rfl, fun ys hy => by rw [I.tuple_inj hy hq]; exact hx⟩, ⟨⟨y, ?_⟩, tupIter_at st'.1 fun o q => (sb.2 it (Ne.symm hne)).trans q, hne⟩, fun b hb => ?_⟩
    · have e1 : ((i + 1 : Nat) : Int) = (i : Int) + 1 := by omega
      rw [e1]
      exact he'
    · have hb' : b < s.heap.objs.size := by
        have e' : b = e ∨ b = it := by simpa using hb
        rcases e' with z | z
        · rw [z]
          exact hel
        · rw [z]
          exact hil
      rw [upd_ne (Nat.ne_of_lt hb')]
      exact (hf b hb).1
  done := by
    intro X hP hw hK hc i pins s σ H E I hf st hg
    subst hP hw hK
    obtain ⟨⟨old, he⟩, hit, hne⟩ := st
    obtain ⟨xs, hq, hx⟩ := hg
    obtain ⟨its, rv, p, hz⟩ := I.tuple hq
    obtain ⟨f0, f1, f2, f3, f4, f5⟩ := hf it (by simp)
    have hl := rv.length
    have D : Draws X.prog X.w X.A.in1 it [it, a] i (fun _ _ => False) (fun j h => j = i ∧ h.IsTupleIter it a i ∧ h.IsTuple a its.toArray) :=
      { live := fun _ _ st => let ⟨_, ⟨o, ho, _⟩, _⟩ := st; ⟨o, ho⟩
        frame := fun _ _ _ st hk => ⟨st.1, tupIter_at st.2.1 fun o q => hk it (by simp) o q, st.2.2.at fun o q => hk a (by simp) o q⟩
        item := fun j s Q E hj st _ => absurd st.1 (Nat.ne_of_lt hj)
        done := fun s Q E st hE => wpAny_nextOf_tuple_end (I.ok.hd hc) st.2.1 st.2.2 (by simp; omega) hE }
    exact wpAny_pyNext_enum_endD D he ⟨rfl, hit, p⟩ fun h' eb => ⟨rfl, I.turned (t' := s.toks) (fun b o hb q => eb b o hb q) f0 f1 f3 f4 f5⟩
  self := fun A i s Q E st h => let ⟨⟨_, he⟩, _⟩ := st; wpAny_pyIter_enum he h
def iEnumT (K : PySem.W.Frag) (ta : TA) : TI := fun σ H R => ta σ H fun vs H1 => ∃ a xs, vs = [.ref a] ∧ SqT K H1 a xs ∧ R (IteT K a) H1
theorem pi_enumT {X : Cx} {e : Expr} {ta : TA} {p pos tpos : Pos} {elts : List Expr} {kk : Nat} (hg : Gl X "enumerate") (hm : X.mg "enumerate" = none) (ha : PA X [e] ta) (hs : starEach [e] X.env = [(false, eval e X.env)] := by rfl) :
    PI X (.Tuple elts kk tpos) (.Call (.Name "enumerate" p) [e] [] pos) (iEnumT X.K ta) := by
  refine ⟨fun pins s σ H R I h => ?_⟩
  refine Call_ (ld_blt I hg hm boot_enumerate (PyProof.Rows.callWith_type1 (thn (ha.run pos pins s σ H _ I h) fun us s1 ⟨vs, H1, I1, r1, q1⟩ => ?_) hs rfl))
  obtain ⟨a, xs, ex, hq, q⟩ := q1
  subst ex
  rw [Vals.ref1 r1]
  obtain ⟨its, rv, p', hz⟩ := I1.tuple hq
  refine enum1 (begins_tuple a its.toArray) p' fun h' he ho hk => wpAny_pyIter_enum he ?_
  refine ⟨s1.heap.objs.size + 1, [s1.heap.objs.size + 1, s1.heap.objs.size], _, _, H1, rfl, I1.kept (t' := s1.toks) hk, turn_enumT a (s1.heap.objs.size + 1) s1.heap.objs.size, ⟨⟨.none, he⟩, ⟨_, ho, rfl, rfl⟩, Nat.succ_ne_self _⟩, fun b hb => ?_, q⟩
  have hle : s1.heap.objs.size ≤ b := by
    have e' : b = s1.heap.objs.size + 1 ∨ b = s1.heap.objs.size := by simpa using hb
    rcases e' with z | z
    · rw [z]
      exact Nat.le_add_right _ _
    · rw [z]
      exact Nat.le_refl _
  exact I1.fpOk hle (I1.hok.fresh hle)
end Lb
set_option Elab.async false
set_option linter.all false
set_option maxRecDepth 100000
set_option maxHeartbeats 2000000
namespace Lb
open PySem PySem.Spec PyProof.Rows L2
/-! ### values as data: None, bools, ints, texts, tuples, lists, {}; every address lies in the region R -/
abbrev Rgn := Addr → Prop
mutual
inductive Dat (R : Rgn) (H : Hp) : V → PyData → Prop
  | non : Dat R H .non .none
  | bl (b : Bool) : Dat R H (.bl b) (.bool b)
  | int (i : Int) : Dat R H (.int i) (.int i)
  | str (x : Str) : Dat R H (.str x) (.str x)
  | tup {a : Addr} {xs : List V} {ds : List PyData} (ra : R a) (e : H a = some (.tup xs)) (h : Dats R H xs ds) : Dat R H (.ref a) (.tuple ds)
  | lst {a : Addr} {xs : List V} {ds : List PyData} (ra : R a) (e : H a = some (.lst xs)) (h : Dats R H xs ds) : Dat R H (.ref a) (.list ds)
  | emp {a : Addr} (ra : R a) (e : H a = some (.dK [])) : Dat R H (.ref a) (.dict [])
inductive Dats (R : Rgn) (H : Hp) : List V → List PyData → Prop
  | nil : Dats R H [] []
  | cons {v : V} {vs : List V} {d : PyData} {ds : List PyData} (h : Dat R H v d) (t : Dats R H vs ds) : Dats R H (v :: vs) (d :: ds)
end
/-- what lies in the region is kept -/
def On (R : Rgn) (H H' : Hp) : Prop := ∀ b o, R b → H b = some o → H' b = some o
theorem On.of {R : Rgn} {H H' : Hp} (s : Same H H') : On R H H' := fun b o _ e => s b o e
theorem On.trans {R : Rgn} {H H1 H2 : Hp} (a : On R H H1) (b : On R H1 H2) : On R H H2 := fun c o r e => b c o r (a c o r e)
mutual
theorem Dat.on {R : Rgn} {H H' : Hp} (k : On R H H') : ∀ {v : V} {d : PyData}, Dat R H v d → Dat R H' v d
  | _, _, .non => .non
  | _, _, .bl b => .bl b
  | _, _, .int i => .int i
  | _, _, .str x => .str x
  | _, _, .tup ra e h => .tup ra (k _ _ ra e) (Dats.on k h)
  | _, _, .lst ra e h => .lst ra (k _ _ ra e) (Dats.on k h)
  | _, _, .emp ra e => .emp ra (k _ _ ra e)
theorem Dats.on {R : Rgn} {H H' : Hp} (k : On R H H') : ∀ {v : List V} {d : List PyData}, Dats R H v d → Dats R H' v d
  | _, _, .nil => .nil
  | _, _, .cons h t => .cons (Dat.on k h) (Dats.on k t)
end
theorem Dat.same {R : Rgn} {H H' : Hp} {v : V} {d : PyData} (h : Dat R H v d) (s : Same H H') : Dat R H' v d := h.on (On.of s)
theorem Dats.same {R : Rgn} {H H' : Hp} {v : List V} {d : List PyData} (h : Dats R H v d) (s : Same H H') : Dats R H' v d := h.on (On.of s)
mutual
/-- a region may be made smaller by what is not there -/
theorem Dat.sub {R R' : Rgn} {H : Hp} (k : ∀ b o, R b → H b = some o → R' b) : ∀ {v : V} {d : PyData}, Dat R H v d → Dat R' H v d
  | _, _, .non => .non
  | _, _, .bl b => .bl b
  | _, _, .int i => .int i
  | _, _, .str x => .str x
  | _, _, .tup ra e h => .tup (k _ _ ra e) e (Dats.sub k h)
  | _, _, .lst ra e h => .lst (k _ _ ra e) e (Dats.sub k h)
  | _, _, .emp ra e => .emp (k _ _ ra e) e
theorem Dats.sub {R R' : Rgn} {H : Hp} (k : ∀ b o, R b → H b = some o → R' b) : ∀ {v : List V} {d : List PyData}, Dats R H v d → Dats R' H v d
  | _, _, .nil => .nil
  | _, _, .cons h t => .cons (Dat.sub k h) (Dats.sub k t)
end
theorem Dats.length {R : Rgn} {H : Hp} : ∀ {v : List V} {d : List PyData}, Dats R H v d → v.length = d.length
  | _, _, .nil => rfl
  | _, _, .cons _ t => by rw [List.length_cons, List.length_cons, Dats.length t]
theorem Dats.get {R : Rgn} {H : Hp} : ∀ {vs : List V} {ds : List PyData} {i : Nat} {d : PyData}, Dats R H vs ds → ds[i]? = some d → ∃ v, vs[i]? = some v ∧ Dat R H v d
  | _, _, 0, _, .cons h _, e => by
    have e' := Option.some.inj e
    subst e'
    exact ⟨_, rfl, h⟩
  | _, _, i + 1, _, .cons _ t, e => Dats.get (i := i) t e
theorem Dats.get' {R : Rgn} {H : Hp} : ∀ {vs : List V} {ds : List PyData} {i : Nat} {v : V}, Dats R H vs ds → vs[i]? = some v → ∃ d, ds[i]? = some d ∧ Dat R H v d
  | _, _, 0, _, .cons h _, e => by
    have e' := Option.some.inj e
    subst e'
    exact ⟨_, rfl, h⟩
  | _, _, i + 1, _, .cons _ t, e => Dats.get' (i := i) t e
theorem Dats.append {R : Rgn} {H : Hp} : ∀ {vs ws : List V} {ds es : List PyData}, Dats R H vs ds → Dats R H ws es → Dats R H (vs ++ ws) (ds ++ es)
  | _, _, _, _, .nil, k => k
  | _, _, _, _, .cons h t, k => .cons h (Dats.append t k)
theorem Dats.take {R : Rgn} {H : Hp} : ∀ {vs : List V} {ds : List PyData} (n : Nat), Dats R H vs ds → Dats R H (vs.take n) (ds.take n)
  | _, _, 0, _ => .nil
  | _, _, _ + 1, .nil => .nil
  | _, _, n + 1, .cons h t => .cons h (Dats.take n t)
theorem Dats.drop {R : Rgn} {H : Hp} : ∀ {vs : List V} {ds : List PyData} (n : Nat), Dats R H vs ds → Dats R H (vs.drop n) (ds.drop n)
  | _, _, 0, k => k
  | _, _, _ + 1, .nil => .nil
  | _, _, n + 1, .cons _ t => Dats.drop n t
theorem Dats.reverse {R : Rgn} {H : Hp} : ∀ {vs : List V} {ds : List PyData}, Dats R H vs ds → Dats R H vs.reverse ds.reverse
  | _, _, .nil => .nil
  | _, _, .cons h t => by
    rw [List.reverse_cons, List.reverse_cons]
    exact Dats.append (Dats.reverse t) (.cons h .nil)
theorem Dats.rep {R : Rgn} {H : Hp} {vs : List V} {ds : List PyData} (h : Dats R H vs ds) : ∀ n : Nat, Dats R H (List.replicate n vs).flatten (List.replicate n ds).flatten
  | 0 => .nil
  | n + 1 => by
    rw [List.replicate_succ, List.replicate_succ, List.flatten_cons, List.flatten_cons]
    exact h.append (Dats.rep h n)
theorem Dats.ints {R : Rgn} {H : Hp} : ∀ ns : List Int, Dats R H (ns.map V.int) (ns.map PyData.int)
  | [] => .nil
  | n :: ns => .cons (.int n) (Dats.ints ns)
theorem Dats.of_ints {R : Rgn} {H : Hp} : ∀ {vs : List V} {ns : List Int}, Dats R H vs (ns.map PyData.int) → vs = ns.map V.int
  | _, [], .nil => rfl
  | _, n :: ns, .cons h t => by
    cases h
    rw [Dats.of_ints (ns := ns) t]
    rfl
/-- a new tuple, a new list -/
theorem same_upd {H : Hp} {p : Addr} {o : HO} (h : H p = none) : Same H (upd H p o) := fun b x e => by
  rw [upd_ne (ne_of_none e h)]
  exact e
theorem Dat.newT {R : Rgn} {H : Hp} {p : Addr} {xs : List V} {ds : List PyData} (n : H p = none) (r : R p) (h : Dats R H xs ds) : Dat R (upd H p (.tup xs)) (.ref p) (.tuple ds) := .tup r upd_same (h.same (same_upd n))
theorem Dat.newL {R : Rgn} {H : Hp} {p : Addr} {xs : List V} {ds : List PyData} (n : H p = none) (r : R p) (h : Dats R H xs ds) : Dat R (upd H p (.lst xs)) (.ref p) (.list ds) := .lst r upd_same (h.same (same_upd n))

/-! ### repr -/
section
variable {X : Cx} {pins : List (Addr × Obj)} {σ : L2.St} {H : Hp} {s : Shared} {R : Rgn}
mutual
theorem dat_reads (I : Inv X pins σ H s) : ∀ {v : V} {d : PyData} {u : Value}, Dat R H v d → RelV v u → ∃ as, Reads s.heap u d as
  | _, _, u, .non, r => by
    cases (show u = Value.none from r)
    exact ⟨_, .none⟩
  | _, _, u, .bl b, r => by
    cases (show u = Value.bool b from r)
    exact ⟨_, .bool b⟩
  | _, _, u, .int i, r => by
    obtain ⟨t, q⟩ := (show ∃ t, u = Value.int i t from r)
    cases q
    exact ⟨_, .int i t⟩
  | _, _, u, .str x, r => by
    obtain ⟨t, q⟩ := (show ∃ t, u = Value.str x t from r)
    cases q
    exact ⟨_, .str x t⟩
  | _, _, u, .tup (a := a) (xs := xs) _ e h, r => by
    cases (show u = Value.ref a from r)
    obtain ⟨its, rv, ⟨o, ho, hc, n, hd⟩, _⟩ := I.tuple (.inl (.inl e))
    obtain ⟨as, q⟩ := dats_reads I h rv
    exact ⟨_, .tuple ho hc hd q⟩
  | _, _, u, .lst (a := a) (xs := xs) _ e h, r => by
    cases (show u = Value.ref a from r)
    obtain ⟨its, rv, hp, _⟩ := I.list (.inl (.inl e))
    obtain ⟨o, n, ho, hc, _, hd⟩ := hp
    obtain ⟨as, q⟩ := dats_reads I h rv
    exact ⟨_, .list ho hc hd q⟩
  | _, _, u, .emp (a := a) _ e, r => by
    cases (show u = Value.ref a from r)
    obtain ⟨_, _, vs, kv, o, es, ep, ho, hx, hd, hk, hp, _⟩ := (show ObjOk X.prog X.w H s.heap a (.dK []) from I.hok a _ e)
    cases kv
    have e0 : es.toList = [] := by
      generalize es.toList = l at hp
      cases hp
      rfl
    refine ⟨_, .dict (kvs := []) (as := []) (bs := []) ho hx.1 hd ?_ ?_⟩
    · rw [e0]
      exact .nil
    · rw [e0]
      exact .nil
theorem dats_reads (I : Inv X pins σ H s) : ∀ {vs : List V} {ds : List PyData} {us : List Value}, Dats R H vs ds → Vals vs us → ∃ as, ReadsAll s.heap us ds as
  | _, _, _, .nil, .nil => ⟨_, .nil⟩
  | _, _, _, .cons h t, .cons r rr => by
    obtain ⟨as, q⟩ := dat_reads I h r
    obtain ⟨bs, q2⟩ := dats_reads I t rr
    exact ⟨_, .cons q q2⟩
end
theorem emp_at (I : Inv X pins σ H s) {a : Addr} (e : H a = some (.dK [])) : ∃ o n, s.heap.get? a = some o ∧ o.cls = .type "dict" ∧ o.data = .dict #[] n ∧ (a == sysModules) = false := by
  obtain ⟨_, hs, vs, kv, o, es, ep, ho, hx, hd, hk, hp, _⟩ := (show ObjOk X.prog X.w H s.heap a (.dK []) from I.hok a _ e)
  cases kv
  have e0 : es = #[] := by
    have : es.toList = [] := by
      generalize es.toList = l at hp
      cases hp
      rfl
    exact Array.toList_eq_nil_iff.mp this
  subst e0
  exact ⟨o, ep, ho, hx.1, hd, hs⟩
mutual
theorem dat_show (I : Inv X pins σ H s) : ∀ {v : V} {d : PyData} {u : Value}, Dat R H v d → RelV v u → d.showable = true → d.shown.length ≤ sizeLine →
    ∃ bs, ReadAtMost s.heap d.depth bs ∧ ReprK X.prog X.w bs s.heap d.depth u d.shown
  | _, _, u, .non, r, _, _ => by
    cases (show u = Value.none from r)
    refine ⟨[], (fun _ z => nomatch z), ?_⟩
    rw [PyData.shown]
    exact ReprK.of_is ReprIs.none _ _ _
  | _, _, u, .bl b, r, _, _ => by
    cases (show u = Value.bool b from r)
    refine ⟨[], (fun _ z => nomatch z), ?_⟩
    rw [PyData.shown]
    exact ReprK.of_is (ReprIs.bool b) _ _ _
  | _, _, u, .int i, r, hw, _ => by
    obtain ⟨t, q⟩ := (show ∃ t, u = Value.int i t from r)
    cases q
    refine ⟨[], (fun _ z => nomatch z), ?_⟩
    rw [PyData.shown]
    rw [PyData.showable] at hw
    exact ReprK.of_is (ReprIs.int t (of_decide_eq_true hw)) _ _ _
  | _, _, u, .str x, r, _, hz => by
    obtain ⟨t, q⟩ := (show ∃ t, u = Value.str x t from r)
    cases q
    refine ⟨[], (fun _ z => nomatch z), ?_⟩
    rw [PyData.shown] at hz ⊢
    exact ReprK.of_is (ReprIs.str x t hz) _ _ _
  | _, _, u, .tup (a := a) (xs := xs) (ds := ds) ra e h, r, hw, hz => by
    cases (show u = Value.ref a from r)
    obtain ⟨as, rd⟩ := dat_reads I (Dat.tup ra e h) rfl
    obtain ⟨its, rv, ⟨o, ho, hc, n, hd⟩, _⟩ := I.tuple (.inl (.inl e))
    rw [PyData.showable] at hw
    rw [PyData.shown] at hz
    obtain ⟨bs, hb, hk⟩ := dats_show I h rv hw fun t ht => Nat.le_trans (tupleText_mem_le ht) hz
    have na : a ∉ bs := not_mem_of_deeper rd (by rw [PyData.depth]; omega) hb
    refine ⟨a :: bs, ReadAtMost.cons rd (by rw [PyData.depth]; omega) hb, ?_⟩
    rw [PyData.depth, PyData.shown]
    exact ReprK.tuple ho hc hd na hk
  | _, _, u, .lst (a := a) (xs := xs) (ds := ds) ra e h, r, hw, hz => by
    cases (show u = Value.ref a from r)
    obtain ⟨as, rd⟩ := dat_reads I (Dat.lst ra e h) rfl
    obtain ⟨its, rv, hp, _⟩ := I.list (.inl (.inl e))
    obtain ⟨o, n, ho, hc, _, hd⟩ := hp
    rw [PyData.showable] at hw
    rw [PyData.shown] at hz
    obtain ⟨bs, hb, hk⟩ := dats_show I h rv hw fun t ht => Nat.le_trans (listText_mem_le ht) hz
    have na : a ∉ bs := not_mem_of_deeper rd (by rw [PyData.depth]; omega) hb
    refine ⟨a :: bs, ReadAtMost.cons rd (by rw [PyData.depth]; omega) hb, ?_⟩
    rw [PyData.depth, PyData.shown]
    cases its with
    | nil =>
      cases rv
      cases h
      rw [PyData.shownAll, listText_nil]
      exact ReprK.listEmpty ho hc hd
    | cons y ys =>
      refine ReprK.list ho hc hd na ?_ fun i z q => hk.item i z (by simpa using q)
      have := hk.length_eq
      simpa using this
  | _, _, u, .emp (a := a) ra e, r, _, _ => by
    cases (show u = Value.ref a from r)
    obtain ⟨as, rd⟩ := dat_reads I (Dat.emp ra e) rfl
    obtain ⟨o, n, ho, hc, hd, hs⟩ := emp_at I e
    refine ⟨[a], fun b hb => ?_, ?_⟩
    · rw [List.mem_singleton.mp hb]
      exact ⟨_, _, rd, Nat.le_refl _⟩
    · have k := ReprK.dict (prog := X.prog) (w := X.w) (as := []) (d := 0) (ps := []) ho hc hd hs (fun z => nomatch z) .nil
      have e1 : (PyData.dict []).shown = dictText [] := by
        rw [PyData.shown, PyData.shownKv]
      have e2 : (PyData.dict []).depth = 0 + 1 := by
        rw [PyData.depth, PyData.depthKv]
      rw [e1, e2]
      exact k
theorem dats_show (I : Inv X pins σ H s) : ∀ {vs : List V} {ds : List PyData} {us : List Value}, Dats R H vs ds → Vals vs us → PyData.showableAll ds = true → (∀ t ∈ PyData.shownAll ds, t.length ≤ sizeLine) →
    ∃ bs, ReadAtMost s.heap (PyData.depthAll ds) bs ∧ ReprAllK X.prog X.w bs s.heap (PyData.depthAll ds) us (PyData.shownAll ds)
  | _, _, _, .nil, .nil, _, _ => ⟨[], (fun _ z => nomatch z), by rw [PyData.shownAll]; exact .nil⟩
  | _, _, _, .cons (d := d) (ds := ds) h t, .cons r rr, hw, hz => by
    rw [PyData.showableAll, Bool.and_eq_true] at hw
    rw [PyData.shownAll] at hz
    obtain ⟨bs, hb, k⟩ := dat_show I h r hw.1 (hz _ List.mem_cons_self)
    obtain ⟨cs, hc, l⟩ := dats_show I t rr hw.2 fun z q => hz z (List.mem_cons_of_mem _ q)
    have l1 : d.depth ≤ max d.depth (PyData.depthAll ds) := Nat.le_max_left _ _
    have l2 : PyData.depthAll ds ≤ max d.depth (PyData.depthAll ds) := Nat.le_max_right _ _
    refine ⟨bs ++ cs, ?_, ?_⟩
    · rw [PyData.depthAll]
      exact ReadAtMost.append (hb.mono l1) (hc.mono l2)
    · rw [PyData.depthAll, PyData.shownAll]
      exact .cons ((k.more fun b q => List.mem_append_left _ q).level_le l1) (l.more_le (fun b q => List.mem_append_right _ q) l2)
end
end
/-- repr(x), x any data -/
def rRepr : List V → Hp → VK → Prop := fun xs H Q => ∃ (R : Rgn) (v : V) (d : PyData), xs = [v] ∧ Dat R H v d ∧ d.showable = true ∧ d.shown.length ≤ sizeLine ∧ d.depth ≤ 100 ∧ Q (.str d.shown) H
theorem Vals.one {v : V} {us : List Value} (r : Vals [v] us) : ∃ u, us = [u] ∧ RelV v u := by
  cases r with
  | cons a b =>
    cases b
    exact ⟨_, rfl, a⟩
theorem call_reprD {X : Cx} (hg : X.A.guards = some []) (hu : X.A.units + 110 < cLine) : CallR X (.builtin "repr") rRepr := by
  intro pins s σ H xs us Q I r h
  obtain ⟨R, v, d, rfl, hd, hw, hz, hdp, q⟩ := h
  obtain ⟨u, rfl, ru⟩ := Vals.one r
  have fin : ∀ (h' : Heap) (t : Tok) (tk : Nat), (∀ b o, s.heap.get? b = some o → h'.get? b = some o) → EP X pins σ Q (.str d.shown t) { s with heap := h', toks := tk } := fun h' t tk hk =>
    ⟨.str d.shown, H, I.kept hk, ⟨_, rfl⟩, q⟩
  have fin0 : ∀ (t : Tok) (tk : Nat), EP X pins σ Q (.str d.shown t) { s with toks := tk } := fun t tk => fin s.heap t tk fun _ _ e => e
  cases hd with
  | non =>
    cases (show u = Value.none from ru)
    have := fin0 s.toks (s.toks + 1)
    rw [PyData.shown] at this
    exact PySem.P.repr_of_none this
  | bl b =>
    cases (show u = Value.bool b from ru)
    have := fin0 s.toks (s.toks + 1)
    rw [PyData.shown] at this
    exact PySem.P.repr_of_bool this
  | int i =>
    obtain ⟨t, e⟩ := (show ∃ t, u = Value.int i t from ru)
    cases e
    have := fin0 s.toks (s.toks + 1)
    rw [PyData.shown] at this
    rw [PyData.showable] at hw
    exact PySem.P.repr_of_int (of_decide_eq_true hw) this
  | str x =>
    obtain ⟨t, e⟩ := (show ∃ t, u = Value.str x t from ru)
    cases e
    have := fin0 s.toks (s.toks + 1)
    rw [PyData.shown] at this hz
    exact PySem.P.repr_of_str this hz
  | @tup a xs ds ra e h =>
    cases (show u = Value.ref a from ru)
    obtain ⟨as, rd⟩ := dat_reads I (Dat.tup ra e h) rfl
    obtain ⟨its, rv, ⟨o, ho, hc, n, hd⟩, _⟩ := I.tuple (.inl (.inl e))
    rw [PyData.showable] at hw
    rw [PyData.shown] at hz
    rw [PyData.depth] at hdp
    obtain ⟨bs, hb, hk⟩ := dats_show I h rv hw fun t ht => Nat.le_trans (tupleText_mem_le ht) hz
    have na : a ∉ bs := not_mem_of_deeper rd (by rw [PyData.depth]; omega) hb
    refine call_repr_slot (by omega) ⟨o, ho, hc⟩ F.slot_tuple_repr (call_tuple_reprK ho hc hd na hk (A := X.A.in1) hg (fun b _ => Clear.nil b) (by show X.A.units + 1 + _ < _; omega) (fun _ _ e => e) (fun h' t tk hk' => ⟨_, _, rfl, ?_⟩) hz)
    have := fin h' t tk hk'
    rw [PyData.shown] at this
    exact this
  | @lst a xs ds ra e h =>
    cases (show u = Value.ref a from ru)
    obtain ⟨as, rd⟩ := dat_reads I (Dat.lst ra e h) rfl
    obtain ⟨its, rv, hp, _⟩ := I.list (.inl (.inl e))
    obtain ⟨o, n, ho, hc, _, hd⟩ := hp
    rw [PyData.showable] at hw
    rw [PyData.shown] at hz
    rw [PyData.depth] at hdp
    obtain ⟨bs, hb, hk⟩ := dats_show I h rv hw fun t ht => Nat.le_trans (listText_mem_le ht) hz
    have na : a ∉ bs := not_mem_of_deeper rd (by rw [PyData.depth]; omega) hb
    rw [PyData.shown] at fin fin0
    cases its with
    | nil =>
      cases rv
      cases h
      rw [PyData.shownAll, listText_nil] at fin fin0
      exact call_repr_slot (by omega) ⟨o, ho, hc⟩ F.slot_list_repr.toG (call_list_repr_empty ⟨o, ho, hc⟩ ho hd ⟨_, _, rfl, fin0 _ _⟩)
    | cons y ys =>
      refine call_repr_slot (by omega) ⟨o, ho, hc⟩ F.slot_list_repr.toG (call_list_reprK ho hc hd na ?_ (fun i z q => hk.item i z (by simpa using q)) (A := X.A.in1) hg (fun b _ => Clear.nil b) (by show X.A.units + 1 + _ < _; omega) (fun _ _ e => e)
        (fun h' t tk hk' => ⟨_, _, rfl, fin h' t tk hk'⟩) hz)
      have := hk.length_eq
      simpa using this
  | @emp a ra e =>
    cases (show u = Value.ref a from ru)
    obtain ⟨o, n, ho, hc, hd, hs⟩ := emp_at I e
    have e1 : (PyData.dict []).shown = dictText [] := by
      rw [PyData.shown, PyData.shownKv]
    rw [e1] at fin hz
    exact call_repr_slot (by omega) ⟨o, ho, hc⟩ F.slot_dict_repr (call_dict_reprK (as := []) (d := 0) (ps := []) ho hc hd hs (fun z => nomatch z) .nil (A := X.A.in1) hg (fun b _ => Clear.nil b) (by show X.A.units + 1 + _ < _; omega) (fun _ _ e => e)
      (fun h' t tk hk' => ⟨_, _, rfl, fin h' t tk hk'⟩) hz)
end Lb
set_option Elab.async false
set_option linter.all false
set_option maxRecDepth 100000
set_option maxHeartbeats 4000000
namespace Lb
open PySem PySem.Spec PyProof.Rows L2
/-! ### t[::-1] of a tuple -/
section
variable {prog : Program} {w : World} {A : Around} {E : Value → Shared → Prop} {s : Shared}
theorem pick_rev (xs : Array Value) : ((List.range xs.size).filterMap fun (k : Nat) => xs[(((xs.size : Int) - 1) + (k : Int) * (-1)).toNat]?).toArray = xs.toList.reverse.toArray := by
  have e : ∀ k ∈ List.range xs.size, xs[(((xs.size : Int) - 1) + (k : Int) * (-1)).toNat]? = xs[xs.size - 1 - k]? := fun k hk => by
    have := List.mem_range.mp hk
    have e1 : (((xs.size : Int) - 1) + (k : Int) * (-1)).toNat = xs.size - 1 - k := by omega
    rw [e1]
  have e2 : (List.range xs.size).filterMap (fun (k : Nat) => xs[(((xs.size : Int) - 1) + (k : Int) * (-1)).toNat]?) = (List.range xs.size).filterMap (fun k => xs[xs.size - 1 - k]?) := by
    generalize List.range xs.size = l at e
    induction l with
    | nil => rfl
    | cons k l ih =>
      rw [List.filterMap_cons, List.filterMap_cons, e k List.mem_cons_self, ih fun j hj => e j (List.mem_cons_of_mem _ hj)]
  rw [e2]
  have e3 : (List.range xs.size).filterMap (fun k => xs[xs.size - 1 - k]?) = ((List.range xs.size).map (fun k => xs.size - 1 - k)).filterMap (xs[·]?) := by
    rw [List.filterMap_map] <;> rfl
  rw [e3, PySem.W.krv_range, List.filterMap_reverse, PySem.W.krv_all]
theorem applied_rev {sl : Addr} {vk : Value} {n : Nat} {Q : Int × Int × Nat → Shared → Prop} (hs : s.heap.IsSliceOf sl .none .none vk) (pk : IsPart vk (some (-1))) (h : Q ((n : Int) - 1, -1, n) s) :
    wpAny (model prog w) A (Builtin.Slice.sliceApplied (.ref sl) (pure (n : Int))) Q E s := by
  obtain ⟨os, hos, hcs, hds⟩ := id hs
  unfold Builtin.Slice.sliceApplied Builtin.Slice.sliceFields
  refine wpAny_bind (wpAny_bind (wpAny_field hos hds (x := .none) rfl (wpAny_bind (wpAny_field hos hds (x := .none) rfl (wpAny_bind (wpAny_field hos hds (x := vk) rfl (wpAny_pure ?_)))))))
  refine wpAny_bind (HT.slicePart_ pk ?_)
  show wpAny _ _ (if ((-1 : Int) == 0) = true then _ else _) _ _ s
  rw [if_neg (by decide)]
  refine wpAny_bind (PyProof.Rows.slicePart_none (wpAny_bind (PyProof.Rows.slicePart_none (wpAny_bind (wpAny_pure ?_)))))
  have e1 : Builtin.Slice.sliceAdjust none none (-1) (n : Int) = ((n : Int) - 1, -1) := rfl
  have e2 : Builtin.Slice.slicePlaces ((n : Int) - 1) (-1) (-1) = n := by
    unfold Builtin.Slice.slicePlaces
    rw [if_neg (by decide)]
    split
    · have : (-(-1 : Int)) = 1 := by decide
      rw [this, Int.ediv_one]
      omega
    · omega
  show wpAny _ _ (match Builtin.Slice.sliceAdjust none none (-1) (n : Int) with | (lo, hi) => pure (lo, (-1 : Int), Builtin.Slice.slicePlaces lo hi (-1))) _ _ s
  rw [e1]
  show wpAny _ _ (pure ((n : Int) - 1, (-1 : Int), Builtin.Slice.slicePlaces ((n : Int) - 1) (-1) (-1))) _ _ s
  rw [e2]
  exact wpAny_pure h
theorem getItem_rev {t sl : Addr} {items : Array Value} {vk : Value} {Q : Value → Shared → Prop} (ht : IsTup s.heap t items) (hs : s.heap.IsSliceOf sl .none .none vk) (pk : IsPart vk (some (-1)))
    (h : Q (.ref s.heap.objs.size) { s with heap := s.heap.push { cls := .type "tuple", data := .seq items.toList.reverse.toArray } }) (hz : items.size ≤ sizeLine) : wpAny (model prog w) A (getItem (.ref t) (.ref sl)) Q E s := by
  have fits : sizeOk (.seq items.toList.reverse.toArray) := by
    show items.toList.reverse.toArray.size ≤ sizeLine
    rw [List.size_toArray, List.length_reverse, Array.length_toList]
    exact hz
  obtain ⟨os, hos, hcs, hds⟩ := id hs
  have hT : s.TypeIs (.ref sl) "slice" := ⟨os, hos, hcs⟩
  unfold getItem
  try with_reducible refine wpAny_holding ?_
  first | refine wpAny_bind (wpAny_pure ?_) | skip
  refine wpAny_bind (wpAny_sequenceKey ht.typeIs (by decide) ?_)
  refine wpAny_bind (wpAny_callSpecial?_slot (name := Str.ofString "__getitem__") ht.typeIs PyProof.Rows.slot_tuple_getitem
    (wpAny_call_entry PyProof.Rows.slot_tuple_getitem ht.typeIs PyProof.Rows.entry_tuple_getitem ?_ (PyProof.Rows.args_tuple_getitem _ _)))
  show wpAny _ _ (Builtin.Tuple.tupleItemsOf (.ref t) >>= _) _ _ s
  refine wpAny_bind (PyProof.Rows.tupleItemsOf_ ht ?_)
  refine wpAny_bind (wpAny_typeOf hT ?_)
  rw [if_pos (by decide)]
  refine wpAny_bind (applied_rev hs pk ?_)
  have no : ¬ ((((items.size : Int) - 1) == 0 && (-1 : Int) == 1 && items.size == items.size) = true) := by
    intro q
    rw [Bool.and_eq_true, Bool.and_eq_true] at q
    exact absurd q.1.2 (by decide)
  show wpAny _ _ (if (((items.size : Int) - 1) == 0 && (-1 : Int) == 1 && items.size == items.size) = true then _ else _) _ _ s
  rw [if_neg no, pick_rev]
  first
    | exact wpAny_bind (m := Builtin.Tuple.tupleExact _) (wpAny_newObj_type (wpAny_pure ⟨_, rfl, wpAny_pure h⟩) fits)
    | exact wpAny_bind (m := Builtin.Tuple.tupleExact _) (wpAny_newObj_type (wpAny_bind (wpAny_pure (wpAny_pure ⟨_, rfl, wpAny_pure h⟩))) fits)
    | exact wpAny_bind (wpAny_bind (m := Builtin.Tuple.tupleExact _) (wpAny_newObj_type (wpAny_pure (wpAny_pure ⟨_, rfl, wpAny_pure h⟩)) fits))
    | exact wpAny_bind (wpAny_bind (m := Builtin.Tuple.tupleExact _) (wpAny_newObj_type (wpAny_pure ⟨_, rfl, wpAny_pure h⟩) fits))
end
section
variable {X : Cx}
def tRevT (K : PySem.W.Frag) (te : TE) : TE := fun σ H Q => te σ H fun x H1 => ∃ a xs, x = .ref a ∧ SqT K H1 a xs ∧ ∀ p, H1 p = none → Q (.ref p) (upd H1 p (.tup xs.reverse))
theorem pe_revT {e : Expr} {te : TE} {k : Nat} {p1 p2 p3 pos : Pos} (he : PE X e te) : PE X (.Subscript e (.Slice none none (some (.UnaryOp .USub (.Constant (.int 1) k p1) p2)) p3) pos) (tRevT X.K te) := by
  refine ⟨fun pins s σ H Q I h => ?_⟩
  refine Subscript_ (thn (he.run pins s σ H _ I h) fun v s1 ⟨x, H1, I1, r1, a, xs, ex, hx, q⟩ => ?_)
  subst ex
  cases r1
  have hst : PO X (some (.UnaryOp .USub (.Constant (.int 1) k p1) p2)) (tPart (tUn (rU fun i => .int (-i)) (tC (.int 1)))) := po_some (pe_un un_neg pe_int)
  refine wpAny_Slice ?_
  rw [evalPart_none]
  refine wpAny_pure (wpAny_pure ?_)
  refine thn (hst.run pins s1 σ H1 (fun o H2 => o = some (-1) ∧ H2 = H1) I1 ⟨1, rfl, -1, rfl, rfl, rfl⟩) fun vk s2 ⟨o, H2, I2, pk, eo, e2⟩ => ?_
  subst eo e2
  have I3 : Inv X pins σ H2 { s2 with heap := s2.heap.push { cls := .type "slice", data := .fields #[.none, .none, vk] } } := I2.kept (t' := s2.toks) fun b ob z => Heap.get?_push_of_some _ z
  obtain ⟨its, r, ht, hz⟩ := I3.tuple hx
  have hl := r.length
  show wpAny (model X.prog X.w) X.A (subscriptTail e (.Slice none none (some (.UnaryOp .USub (.Constant (.int 1) k p1) p2)) p3) (.ref a) (.ref s2.heap.objs.size)) (EP X pins σ Q) X.xe { s2 with heap := s2.heap.push { cls := .type "slice", data := .fields #[.none, .none, vk] } }
  refine tail_any (ops := [.ref a, .ref s2.heap.objs.size]) ht.typeIs PyProof.Rows.slot_tuple_getitem.lookup ?_ (by with_unfolding_all rfl)
  refine getItem_rev ht (Heap.IsSliceOf.new _ .none .none vk) pk ?_ (by rw [List.size_toArray]; omega)
  refine ⟨.ref _, _, I3.laid (t' := s2.toks) (o := .tup xs.reverse) (fun b ob z => Heap.get?_push_of_some _ z) (Nat.le_refl _) ?_, rfl, q _ (I3.hok.fresh (Nat.le_refl _))⟩
  refine ⟨by rw [List.length_reverse]; exact hz, its.reverse, r.reverse, ?_⟩
  exact IsTup.new _ _
end
end Lb
set_option Elab.async false
set_option linter.all false
set_option maxRecDepth 100000
set_option maxHeartbeats 4000000
namespace Lb
open PySem PySem.Spec PyProof.Rows L2
/-! ### t * k, k any small number -/
theorem mul_same (l : Addr) (items : Array Value) (n : Nat) (dd : Option Addr) (sl : Array (Option Value)) (x : Int) (u : Tok) (c0 : (decide (x < -(2 ^ 63)) || decide (x ≥ 2 ^ 63)) = false) (c1 : (items.isEmpty || x == 1) = true) :
    Meets (Builtin.«tuple.__mul__» ⟨[.ref l, .int x u], []⟩) (fun _ R s => s.heap.get? l = some { cls := .type "tuple", dict := dd, data := .seq items n, slots := sl } ∧ R (.ok (.ret (Value.ref l))) s) :=
  .of_wp fun prog w A R s h => by
    obtain ⟨hp, g, d, tk, os⟩ := s
    obtain ⟨hl, h⟩ := h
    have f1 := AutoSeq1.idx_int
    have hT : (⟨hp, g, d, tk, os⟩ : Shared).TypeIs (.ref l) "tuple" := ⟨_, hl, rfl⟩
    wp_walk using wpAny_loadPart' hl
    refine wpAny_ite_false (decide_eq_false (by rw [c0]; exact Bool.false_ne_true)) ?_
    wp_walk using wpAny_loadPart' hl
    exact ⟨_, rfl, h⟩
theorem mul_none (l : Addr) (items : Array Value) (n : Nat) (dd : Option Addr) (sl : Array (Option Value)) (x : Int) (u : Tok) (c0 : (decide (x < -(2 ^ 63)) || decide (x ≥ 2 ^ 63)) = false) (c1 : (items.isEmpty || x == 1) = false) (c2 : (decide (x ≤ 0) || items.isEmpty) = true) :
    Meets (Builtin.«tuple.__mul__» ⟨[.ref l, .int x u], []⟩) (fun _ R s => s.heap.get? l = some { cls := .type "tuple", dict := dd, data := .seq items n, slots := sl } ∧
      R (.ok (.ret (Value.ref s.heap.objs.size))) { s with heap := s.heap.push { cls := Value.type "tuple", data := Data.seq #[] } }) :=
  .of_wp fun prog w A R s h => by
    obtain ⟨hp, g, d, tk, os⟩ := s
    obtain ⟨hl, h⟩ := h
    have f1 := AutoSeq1.idx_int
    wp_walk using wpAny_loadPart' hl
    refine wpAny_ite_false (decide_eq_false (by rw [c0]; exact Bool.false_ne_true)) ?_
    wp_walk using wpAny_loadPart' hl
    repeat (first
      | exact ⟨_, rfl, h⟩
      | (refine wpAny_ite_false (decide_eq_false (show ¬ ((items.isEmpty || x == 1) = true) by rw [c1]; exact Bool.false_ne_true)) ?_; wp_walk using wpAny_loadPart' hl)
      | (refine wpAny_ite_true (decide_eq_true c2) ?_; wp_walk using wpAny_loadPart' hl))
def rRepA (K : PySem.W.Frag) : R2 := fun x y H Q => ∃ l k xs, x = .ref l ∧ y = .int k ∧ SqT K H l xs ∧ -1000 ≤ k ∧ k ≤ 1000 ∧ xs.length ≤ 1000 ∧ xs ≠ [] ∧
  (k = 1 → Q (.ref l) H) ∧ (k ≠ 1 → ∀ p, H p = none → Q (.ref p) (upd H p (.tup (List.replicate k.toNat xs).flatten)))
section
variable {X : Cx}
theorem op_repA : OpR X (binaryOp .Mult) (rRepA X.K) := by
  intro pins s σ H x y v u Q I rx ry h
  obtain ⟨l, k, xs, rfl, rfl, hT, h1, h2, hz, hne, q1, q2⟩ := h
  by_cases hk : 2 ≤ k
  · exact op_repT pins s σ H _ _ v u Q I rx ry ⟨l, k, xs, rfl, rfl, hT, hne, hk, h2, hz, q2 (by omega)⟩
  cases rx
  obtain ⟨t, rfl⟩ := ry
  obtain ⟨its, r, ⟨⟨cls, dd, data, sl⟩, ho, hc, n, hd⟩, hs⟩ := I.tuple hT
  simp only at hc hd
  subst hc hd
  have hle : its.length = xs.length := r.length.symm
  have hi : its.toArray.isEmpty = false := by
    cases its with
    | nil =>
      have : xs = [] := List.eq_nil_of_length_eq_zero hle.symm
      exact absurd this hne
    | cons a b => rfl
  have c0 : (decide (k < -(2 ^ 63)) || decide (k ≥ 2 ^ 63)) = false := by
    rw [decide_eq_false (by omega), decide_eq_false (by omega)] <;> rfl
  by_cases hk1 : k = 1
  · refine wpAny_binaryOp_repeat_ref (T := "tuple") (U := "int") (by decide) ⟨_, ho, rfl⟩ (fun s' => typeIs_int s' k t) noFill_tuple_mul F.fills_int_mul F.slot_int_rmul repeat_tuple F.slot_int_index.lookup
      (call_meets F.slot_int_rmul (typeIs_int s k t) F.entry_int_rmul (F.args_int_rmul_2 _ _) (int_rmul_tuple k t l its.toArray n dd sl)
        ⟨ho, rfl, ⟨_, ho, rfl⟩, call_meets F.slot_tuple_mul ⟨_, ho, rfl⟩ F.entry_tuple_mul (F.args_tuple_mul_2 _ _) (mul_same l its.toArray n dd sl k t c0 (by rw [hk1, hi] <;> rfl)) ⟨ho, ?_⟩⟩)
    exact ⟨.ref l, H, I, rfl, q1 hk1⟩
  · refine wpAny_binaryOp_repeat_ref (T := "tuple") (U := "int") (by decide) ⟨_, ho, rfl⟩ (fun s' => typeIs_int s' k t) noFill_tuple_mul F.fills_int_mul F.slot_int_rmul repeat_tuple F.slot_int_index.lookup
      (call_meets F.slot_int_rmul (typeIs_int s k t) F.entry_int_rmul (F.args_int_rmul_2 _ _) (int_rmul_tuple k t l its.toArray n dd sl)
        ⟨ho, rfl, ⟨_, ho, rfl⟩, call_meets F.slot_tuple_mul ⟨_, ho, rfl⟩ F.entry_tuple_mul (F.args_tuple_mul_2 _ _) (mul_none l its.toArray n dd sl k t c0 (by rw [hi, Bool.false_or]; exact beq_eq_false_iff_ne.mpr hk1) (by rw [decide_eq_true (by omega)] <;> rfl)) ⟨ho, ?_⟩⟩)
    have e0 : (List.replicate k.toNat xs).flatten = [] := by
      have : k.toNat = 0 := by omega
      rw [this] <;> rfl
    have q := q2 hk1
    rw [e0] at q
    refine ⟨.ref s.heap.objs.size, _, I.laid (t' := s.toks) (o := .tup []) (fun b ob z => Heap.get?_push_of_some _ z) (Nat.le_refl _) ?_, rfl, q _ (I.hok.fresh (Nat.le_refl _))⟩
    exact ⟨Nat.zero_le _, [], .nil, IsTup.new _ _⟩
end
/-! ### the law's own def, run where no repr is under way -/
structure FnG (P : Program) (w : World) (K : PySem.W.Frag) (mg : Str → Option Value) (base : Heap) (CX : CXT) (k : Nat) (f : Addr) (fd : FuncData) (ps : List Str) (sp : Sp) : Prop where
  len : ∀ vs H Q E, sp vs H Q E → vs.length = ps.length
  run : ∀ (A : Around) (outer : List Env) (s : Shared) (H : Hp) (args : Args) (us : List Value) (vs : List V) (Q : VK) (E : XK), A.guards = some [] → Room k A → Env0 P w K mg base A outer s H → BindsTo s fd args (ps.zip us) → Vals vs us → sp vs H Q E →
    codeAny (model P w) A (.call (.ref f) args) (CR CX outer P w H s Q E) s
theorem fnG_of {CX : CXT} {P : Program} {w : World} {K : PySem.W.Frag} {mg : Str → Option Value} {base : Heap} {k : Nat} {f : Addr} {x qual : Str} {st : Stmt} {fd : FuncData} {N ps : List Str} {sp : Sp} (F : Fun K x qual st f fd) (S : FnScope N ps (defScope st))
    (len : ∀ vs H Q E, sp vs H Q E → vs.length = ps.length)
    (hbody : ∀ (cdv : Value) (A : Around) (outer : List Env) (s : Shared) (H : Hp) (vs : List V) (Q : VK) (E : XK), (A.deeper (envOfC qual (defScope st) s.heap.objs.size f cdv)).guards = some [] → Room k (A.deeper (envOfC qual (defScope st) s.heap.objs.size f cdv)) → sp vs H Q E →
      ∃ t, PSs (cxOf CX P w K mg base N qual (defScope st) f cdv A outer s H E) (defBody st) t ∧ t { nx := fun _ H' => Q .non H', rt := Q } (start N vs) H) : FnG P w K mg base CX (k + 1) f fd ps sp := by
  obtain ⟨oc, od, kV, doc, pm, an, cdv, ct, osl, rfl, lk, hcd⟩ := F.ex
  refine ⟨len, fun A outer s H args us vs Q E hg hr e0 hb r hsp => ?_⟩
  have hl := len _ _ _ _ hsp
  have kin : K.In s.heap := e0.mod.kin.keeps fun b o z => (e0.bs b o z).1
  have lim : s.heap.NoLimit := e0.mod.nolimit.keeps fun b o z => (e0.bs b o z).1
  have kinds : ∀ y ∈ ps.zip us, (defScope st).names.lookup y.1 = some .local ∨ ((defScope st).names.lookup y.1 = some .cell ∧ ((cellsFrom (s.heap.objs.size + 1) (defScope st).names []).lookup y.1).isSome = true) := by
    rintro ⟨n, v⟩ hy
    rcases S.par n (List.of_mem_zip hy).1 with z | z
    · exact .inl z
    · exact .inr ⟨z, PySem.W.cellsFrom_some _ _ _ (.inl z)⟩
  refine codeAny_call_function hr.depth (kin _ _ lk) rfl S.co S.gen rfl (PySem.W.codeRec_of kin hcd) (hb _ _ _ _ ?_)
  refine wpAny_newFunctionEnv_cells S.kind kinds fun env he s1 inc => ?_
  subst he
  refine ⟨lim.keeps inc.toInCall.keep, codeAny_func ?_⟩
  obtain ⟨t, ht, hq⟩ := hbody cdv A outer s H vs Q E hg (hr.deeper _) hsp
  have I : Inv (cxOf CX P w K mg base N qual (defScope st) f cdv A outer s H E) [] (start N vs) H s1 := inv_start S hr.hd e0 hl r inc
  refine wpAny_mono (ht.run [] s1 (start N vs) H _ I hq) (fun fl s' hs => ?_) fun e s' hs => hs
  cases fl with
  | ret u =>
    obtain ⟨v, σ', H', J, rv, q⟩ := hs
    exact ⟨v, H', J.os, J.bare, J.base, J.hok, rv, q⟩
  | next =>
    obtain ⟨σ', H', J, q⟩ := hs
    exact ⟨.non, H', J.os, J.bare, J.base, J.hok, rfl, q⟩
  | brk =>
    obtain ⟨_, _, _, q⟩ := hs
    exact q.elim
  | cont =>
    obtain ⟨_, _, _, q⟩ := hs
    exact q.elim
theorem lawG_of {P : Program} {w : World} {K : PySem.W.Frag} {mg : Str → Option Value} {base : Heap} {k : Nat} {f : Addr} {x qual : Str} {st : Stmt} {fd : FuncData} {N ps : List Str} {sp : Sp} (F : Fun K x qual st f fd) (S : FnScope N ps (defScope st))
    (len : ∀ vs H Q E, sp vs H Q E → vs.length = ps.length)
    (hbody : ∀ (cdv : Value) (A : Around) (outer : List Env) (s : Shared) (H : Hp) (vs : List V) (Q : VK) (E : XK), (cxOf CX0 P w K mg base N qual (defScope st) f cdv A outer s H E).nox.A.guards = some [] → Room k (A.deeper (envOfC qual (defScope st) s.heap.objs.size f cdv)) → sp vs H Q E →
      ∃ t, PSs (cxOf CX0 P w K mg base N qual (defScope st) f cdv A outer s H E).nox (defBody st) t ∧ t { nx := fun _ H' => Q .non H', rt := Q } (start N vs) H) : FnG P w K mg base CX0 (k + 1) f fd ps sp :=
  fnG_of F S len fun cdv A outer s H vs Q E hg hr h => let ⟨t, p, q⟩ := hbody cdv A outer s H vs Q E hg hr h; ⟨t, p.nox, q⟩
end Lb
set_option Elab.async false
set_option linter.all false
set_option maxRecDepth 100000
set_option maxHeartbeats 4000000
namespace Lb
open PySem PySem.Spec PyProof.Rows L2
section
variable {P : Program} {w : World} {K : PySem.W.Frag} {mg mb : Str → Option Value} {CX : CXT} {k : Nat} {fa a : Addr} {fd : FuncData} {x : Str} {sp : Sp} {s1 : Shared} {vs : List Value} {ns : List Int}
/-- what the law's call must come to -/
abbrev LawEnd (s1 : Shared) : Result → Shared → Prop := fun r s' => r = .ok (.ret (.bool true)) ∧ OldK s1.heap s'.heap ∧ s'.os = s1.os ∧ AllBare s'.gens
theorem go_from {H : Hp} (kin : K.In s1.heap) (hns : s1.heap.Ns mainGlobals mg) (hb : s1.heap.Ns builtinsNs mb) (hbb : ∀ x : Str, x ≠ "__name__" → mb x = bootBuiltins x) (hlim : s1.heap.NoLimit) (hg : s1.gens = #[])
    (ha : s1.heap.get? a = some { cls := .type "list", data := .seq vs.toArray }) (hr : Room k callerA)
    (F : ∀ base : Heap, K.In base → base.Ns mainGlobals mg → FnG P w K mg base CX k fa fd [x] sp) (hbind : ∀ (s : Shared) (u : Value), BindsTo s fd ⟨[u], []⟩ [(x, u)])
    (only : Only H) (hok : HOk P w H s1.heap) (hA : ∀ b, H b ≠ none → b = a) (hK : H a ≠ none → K.lookup a = none)
    (hsp : sp [.ref a] H (fun v _ => v = .bl true) fun _ _ _ => False) (hCX : ∀ e s', CX [] H s1 (fun _ _ _ => False) e s' → False) :
    codeAny (model P w) callerA (.call (.ref fa) ⟨[.ref a], []⟩) (LawEnd s1) s1 := by
  have isA : ∀ {b : Addr} {u : HO}, H b = some u → b = a := fun {b u} e => hA b (by rw [e]; exact fun z => nomatch z)
  have dictFree : ∀ {b : Addr} {o : Obj} {es : Array DictEntry} {ep : Nat}, s1.heap.get? b = some o → o.data = .dict es ep → H b = none := by
    intro b o es ep e d
    cases q : H b with
    | none => rfl
    | some u =>
      have eb := isA q
      subst eb
      rw [ha] at e
      cases e
      exact nomatch (show Data.seq vs.toArray _ = Data.dict es ep from d)
  have ns : ∀ {b : Addr} {m : Str → Option Value}, s1.heap.Ns b m → (hidT s1.heap H).Ns b m := by
    rintro b m ⟨o, es, ep, e, d, r⟩
    exact ⟨o, es, ep, hidT_get e (dictFree e d), d, r⟩
  have kb : K.In (hidT s1.heap H) := by
    intro b o e
    refine hidT_get (kin b o e) ?_
    cases q : H b with
    | none => rfl
    | some u =>
      have eb := isA q
      subst eb
      rw [hK (by rw [q]; exact fun z => nomatch z)] at e
      cases e
  obtain ⟨mc, n1, n2⟩ := hlim
  have md : Mod K mg (hidT s1.heap H) := ⟨kb, ns hns, ⟨mb, ns hb, hbb⟩, ⟨mc, ns n1, n2⟩⟩
  have e0 : Env0 P w K mg (hidT s1.heap H) callerA [] s1 H :=
    ⟨rfl, md, fun b o e => of_hidT e, Nat.le_of_eq (hidT_size _ _), trivial, fun b hb => absurd (show b ∈ ([] : List Addr) from hb) (by simp), hok, .of_eq hg⟩
  refine codeAny_mono ((F _ kb (ns hns)).run callerA [] s1 H ⟨[.ref a], []⟩ [.ref a] [.ref a] _ _ rfl hr e0 (hbind s1 (.ref a)) (.cons rfl .nil) hsp) fun r s' h => ?_
  cases r with
  | error e => exact (hCX e s' h).elim
  | ok fl =>
    cases fl with
    | next => exact h.elim
    | brk => exact h.elim
    | cont => exact h.elim
    | ret u =>
      obtain ⟨v, H', os, bare, un, hok', ru, q⟩ := h
      have ev : v = .bl true := q
      subst ev
      obtain rfl : u = Value.bool true := ru
      refine ⟨rfl, OldK.of_keep fun b o e => ?_, os, bare⟩
      rcases only b with z | ⟨ob, xs, z⟩
      · exact un.keep b o e z (fun m => absurd (show b ∈ ([] : List Addr) from m) (by simp)) (by simp)
      · obtain ⟨g1, _⟩ := hok b _ z
        obtain ⟨g2, _⟩ := hok' b _ (un.frzs b ob _ z)
        rw [e] at g1
        cases g1
        exact g2
theorem law_go (kin : K.In s1.heap) (hns : s1.heap.Ns mainGlobals mg) (hb : s1.heap.Ns builtinsNs mb) (hbb : ∀ x : Str, x ≠ "__name__" → mb x = bootBuiltins x) (hlim : s1.heap.NoLimit) (hg : s1.gens = #[])
    (ha : s1.heap.get? a = some { cls := .type "list", data := .seq vs.toArray }) (hi : IntsAre vs ns) (hl : ns.length ≤ sizeLine) (hr : Room k callerA)
    (F : ∀ base : Heap, K.In base → base.Ns mainGlobals mg → FnG P w K mg base CX k fa fd [x] sp) (hbind : ∀ (s : Shared) (u : Value), BindsTo s fd ⟨[u], []⟩ [(x, u)])
    (hsp : ∀ H : Hp, Only H → SqL K H a (ns.map V.int) → sp [.ref a] H (fun v _ => v = .bl true) fun _ _ _ => False)
    (hCX : ∀ H e s', CX [] H s1 (fun _ _ _ => False) e s' → False) : codeAny (model P w) callerA (.call (.ref fa) ⟨[.ref a], []⟩) (LawEnd s1) s1 := by
  have rv := vals_ints hi
  cases hk : K.lookup a with
  | some o =>
    have e := kin a o hk
    rw [ha] at e
    cases e
    have only0 : Only (fun _ => none) := fun _ => .inl rfl
    refine go_from (H := fun _ => none) kin hns hb hbb hlim hg ha hr F hbind only0 (fun b u z => nomatch (show (none : Option HO) = some u from z)) (fun b z => absurd rfl z) (fun z => absurd rfl z) (hsp _ only0 (.inr ⟨_, vs.toArray, _, hk, rfl, rfl, rfl, ?_, by simpa using rv⟩)) fun e s' => hCX _ e s'
    rw [List.size_toArray, hi.length]
    exact hl
  | none =>
    let H1 : Hp := fun b => if b = a then some (.frz { cls := .type "list", data := .seq vs.toArray } (.lst (ns.map V.int))) else none
    have at_a : H1 a = some (.frz { cls := .type "list", data := .seq vs.toArray } (.lst (ns.map V.int))) := if_pos rfl
    have off : ∀ {b : Addr}, b ≠ a → H1 b = none := fun h => if_neg h
    have only1 : Only H1 := fun b => by
      by_cases hb : b = a
      · rw [hb]
        exact .inr ⟨_, _, at_a⟩
      · exact .inl (off hb)
    refine go_from (H := H1) kin hns hb hbb hlim hg ha hr F hbind only1 (fun b u z => ?_) (fun b z => ?_) (fun _ => hk) (hsp _ only1 (.inl (.inr ⟨_, at_a⟩))) fun e s' => hCX _ e s'
    · by_cases hb : b = a
      · subst hb
        rw [at_a] at z
        cases z
        exact ⟨ha, by rw [List.length_map]; exact hl, vs, _, rv, ha⟩
      · rw [off hb] at z
        cases z
    · exact Classical.byContradiction fun hb => z (off hb)
end
theorem walk_g {l : PySem.W.OpenLaw} {n k : Nat} {q : Program} {loose : List Str} {XP : (Str → Option Value) → Heap → Prop} {YP : World → Heap → Prop} {d : DefRec} {K : Params → PySem.W.Frag} {CX : World → CXT} {sp : World → Sp} {x : Str}
    (hn : l.most = some n) (hn2 : n ≤ sizeLine) (hdf : d.params.defaults = []) (hr : Room k callerA) (hY : ∀ (w : World) (h : Heap), YP w h → (K w.params).In h)
    (F : ∀ (w : World) (mg : Str → Option Value) (fa : Addr) (h : Heap), (K w.params).In h → h.Ns mainGlobals mg → mg d.name = some (.ref fa) →
      ∃ fd : FuncData, (∀ (s : Shared) (u : Value), BindsTo s fd ⟨[u], []⟩ [(x, u)]) ∧ ∀ base : Heap, (K w.params).In base → base.Ns mainGlobals mg → FnG l.prog w (K w.params) mg base (CX w) k fa fd [x] (sp w))
    (hsp : ∀ (w : World) (H : Hp) (a : Addr) (ns : List Int), ns.length ≤ n → Only H → SqL (K w.params) H a (ns.map V.int) → sp w [.ref a] H (fun v _ => v = .bl true) fun _ _ _ => False)
    (hCX : ∀ (w : World) (H : Hp) (s : Shared) (e : Value) (s' : Shared), CX w [] H s (fun _ _ _ => False) e s' → False) :
    PySem.W.WalkO q loose XP YP l.row.toRowW d [] (fun f vs => PySem.call f vs) := by
  refine Att.attach_call hn hdf fun w s0 s1 mg mb fa o pm cd doc a vs ns G Y ho hd hcd hmg hobj hints hlen hg => ?_
  have kin := hY w _ Y
  obtain ⟨fd, hb, hF⟩ := F w mg fa _ kin G.T.g hmg
  exact law_go kin G.T.g G.T.b G.T.builtins G.T.nolimit hg hobj hints (Nat.le_trans hlen hn2) hr hF hb (fun H hO hS => hsp w H a ns hlen hO hS) fun H e s' => hCX w H s1 e s'
end Lb
set_option Elab.async false
set_option linter.all false
set_option maxRecDepth 100000
set_option maxHeartbeats 4000000
namespace Lb
open PySem PySem.Spec PyProof.Rows L2 RZ
/-! ### defs by their names -/
structure Df (K : PySem.W.Frag) (mg : Str → Option Value) (x : Str) (st : Stmt) : Prop where
  ex : ∃ (f : Addr) (fd : FuncData), Fun K x x st f fd ∧ mg x = some (.ref f)
structure Own (P : Program) (w : World) (K : PySem.W.Frag) (mg : Str → Option Value) (base : Heap) (x : Str) (k : Nat) (ps : List Str) (sp : Sp) : Prop where
  ex : ∃ (f : Addr) (fd : FuncData), FnOk P w K mg base CX0 k f fd ps sp ∧ mg x = some (.ref f) ∧ PySem.W.keepIn K (.ref f) = true ∧ Binds K fd ps []
section
variable {P : Program} {w : World} {K : PySem.W.Frag} {mg : Str → Option Value} {base : Heap}
theorem own_of {x : Str} {st : Stmt} {N ps : List Str} {k : Nat} {sp : Sp} (D : Df K mg x st) (S : FnScope N ps (defScope st))
    (hb : ∀ (kV doc pm : Value) (an : Option Addr) (cdv ct : Value) (us : List Value), us.length = ps.length → bindArgs (PySem.W.fnOf x x (defArgs st) (defBody st) (defScope st) .none kV doc pm an cdv ct) ⟨us, []⟩ = pure (ps.zip us))
    (len : ∀ vs H Q E, sp vs H Q E → vs.length = ps.length)
    (hbody : ∀ (f : Addr) (cdv : Value) (A : Around) (outer : List Env) (s : Shared) (H : Hp) (vs : List V) (Q : VK) (E : XK), Room k (A.deeper (envOfC x (defScope st) s.heap.objs.size f cdv)) → sp vs H Q E →
      ∃ t, PSs (cxOf CX0 P w K mg base N x (defScope st) f cdv A outer s H E).nox (defBody st) t ∧ t { nx := fun _ H' => Q .non H', rt := Q } (start N vs) H) : Own P w K mg base x (k + 1) ps sp := by
  obtain ⟨f, fd, F, m⟩ := D.ex
  exact ⟨f, fd, F.ok S len (hbody f), m, F.kp, F.binds hb⟩
theorem df_mk {h : Heap} {x : Str} {st : Stmt} {f : Addr} {oc : Value} {od an : Option Addr} {osl : Array (Option Value)} {kV doc pm cdv ct : Value} (X : K.In h) (G : h.Ns mainGlobals mg) (a : PySem.W.nsIn K mainGlobals x = some (some (.ref f)))
    (l : K.lookup f = some ⟨oc, od, .func (PySem.W.fnOf x x (defArgs st) (defBody st) (defScope st) .none kV doc pm an cdv ct), osl⟩) (c : PySem.W.codeIn K cdv x = true) (k : PySem.W.keepIn K (.ref f) = true) : Df K mg x st :=
  ⟨f, _, fun_mk l c k, PySem.W.mg_of X G a⟩
end
section
variable {X : Cx} {k : Nat} {ps : List Str} {sp : Sp} {x : Str} {p pos : Pos} {e : Expr} {es : List Expr} {t : TA}
theorem pe_own (O : Own X.prog X.w X.K X.mg X.base x k ps sp) (hr : Room k X.A) (hg : Gl X x) (ha : PA X (e :: es) t) (hdb : (x == ("__debug__" : Str)) = false := by decide)
    (he : starEach (e :: es) X.env = (false, eval e X.env) :: starEach es X.env := by rfl) (hpl : (backTo pos (starEach es X.env)).any (·.1) = false := by rfl) : PE X (.Call (.Name x p) (e :: es) [] pos) (tCall sp [] E0 t) := by
  obtain ⟨f, fd, F, m, kp, b⟩ := O.ex
  exact pe_call F hr hg m kp b .nil pass0 ha hdb he hpl
end
/-- the built-ins' names are no names of the module -/
structure Blt (mg : Str → Option Value) : Prop where
  b_len : mg "len" = none
  b_range : mg "range" = none
  b_int : mg "int" = none
  b_bool : mg "bool" = none
  b_tuple : mg "tuple" = none
  b_list : mg "list" = none
  b_str : mg "str" = none
  b_dict : mg "dict" = none
  b_all : mg "all" = none
  b_any : mg "any" = none
  b_max : mg "max" = none
  b_min : mg "min" = none
  b_sum : mg "sum" = none
  b_zip : mg "zip" = none
  b_enumerate : mg "enumerate" = none
  b_isinstance : mg "isinstance" = none
  b_repr : mg "repr" = none
  b_sorted : mg "sorted" = none
/-! ### the deck -/
/-- the deck at d: its cells at c, at most n draws, what is left at r -/
def Dk (H : Hp) (d c r : Addr) (n : Nat) : Prop :=
  ∃ (t : Nat) (cs rs : List Int), t ≤ n ∧ 0 < cs.length ∧ cs.length ≤ 64 ∧ rs.length = cs.length ∧ d ≠ c ∧ d ≠ r ∧ c ≠ r ∧
    H d = some (.lst [.ref c, .int (t : Int), .ref r]) ∧ H c = some (.lst (cs.map V.int)) ∧ H r = some (.lst (rs.map V.int))
/-- all but the deck's two changing lists is kept -/
def Kp (d r : Addr) (H H' : Hp) : Prop := ∀ b o, b ≠ d → b ≠ r → H b = some o → H' b = some o
theorem Kp.refl (d r : Addr) (H : Hp) : Kp d r H H := fun _ _ _ _ e => e
theorem Kp.of {d r : Addr} {H H' : Hp} (s : Same H H') : Kp d r H H' := fun b o _ _ e => s b o e
theorem Kp.trans {d r : Addr} {H H1 H2 : Hp} (a : Kp d r H H1) (b : Kp d r H1 H2) : Kp d r H H2 := fun c o n1 n2 e => b c o n1 n2 (a c o n1 n2 e)
theorem Dk.mono {H : Hp} {d c r : Addr} {n m : Nat} (h : Dk H d c r n) (l : n ≤ m) : Dk H d c r m := by
  obtain ⟨t, cs, rs, h1, hh⟩ := h
  exact ⟨t, cs, rs, Nat.le_trans h1 l, hh⟩
theorem Dk.same {H H' : Hp} {d c r : Addr} {n : Nat} (h : Dk H d c r n) (s : Same H H') : Dk H' d c r n := by
  obtain ⟨t, cs, rs, h1, h2, h3, h4, h5, h6, h7, e1, e2, e3⟩ := h
  exact ⟨t, cs, rs, h1, h2, h3, h4, h5, h6, h7, s _ _ e1, s _ _ e2, s _ _ e3⟩
theorem Dk.nd {H : Hp} {d c r : Addr} {n : Nat} (h : Dk H d c r n) {p : Addr} (e : H p = none) : p ≠ d ∧ p ≠ r ∧ p ≠ c := by
  obtain ⟨t, cs, rs, _, _, _, _, _, _, _, e1, e2, e3⟩ := h
  exact ⟨(ne_of_none e1 e).symm, (ne_of_none e3 e).symm, (ne_of_none e2 e).symm⟩
/-- a local list's own place survives a draw -/
theorem Kp.at {H H' H0 : Hp} {d c r : Addr} {n : Nat} (k : Kp d r H H') (dk : Dk H0 d c r n) {p : Addr} {o : HO} (e0 : H0 p = none) (e : H p = some o) : H' p = some o :=
  let ⟨a, b, _⟩ := dk.nd e0
  k p o a b e
/-- the region of plain data: away from the deck, with all that is new -/
structure Rg (R : Rgn) (H : Hp) (d r : Addr) : Prop where
  nd : ¬ R d
  nr : ¬ R r
  new : ∀ p, H p = none → R p
theorem Rg.on {R : Rgn} {H H' H0 : Hp} {d r : Addr} (g : Rg R H0 d r) (k : Kp d r H H') : On R H H' := fun b o rb e => k b o (fun z => g.nd (z ▸ rb)) (fun z => g.nr (z ▸ rb)) e
theorem Rg.kp {R : Rgn} {H H' : Hp} {d c r : Addr} {n : Nat} (g : Rg R H d r) (k : Kp d r H H') (dk : Dk H' d c r n) : Rg R H' d r := by
  refine ⟨g.nd, g.nr, fun p e => g.new p ?_⟩
  obtain ⟨n1, n2, _⟩ := dk.nd e
  cases q : H p with
  | none => rfl
  | some o =>
    rw [k p o n1 n2 q] at e
    cases e
theorem Rg.same {R : Rgn} {H H' : Hp} {d r : Addr} (g : Rg R H d r) (s : Same H H') : Rg R H' d r := ⟨g.nd, g.nr, fun p e => g.new p (s.free e)⟩
theorem nat_at {ns : List Int} {j : Nat} (h : j < ns.length) : atI (ns.map V.int) ((j : Nat) : Int) = some (.int (ns.getD j 0)) := by
  refine atI_nat ?_
  rw [List.getElem?_map, List.getElem?_eq_getElem h, List.getD_eq_getElem?_getD, List.getElem?_eq_getElem h]
  rfl
theorem emod_nat (a : Int) {m : Nat} (h : 0 < m) : ∃ v : Nat, v < m ∧ a % (m : Int) = (v : Int) := by
  have h1 : 0 ≤ a % (m : Int) := Int.emod_nonneg a (by omega)
  have h2 : a % (m : Int) < (m : Int) := Int.emod_lt_of_pos a (by omega)
  exact ⟨(a % (m : Int)).toNat, by omega, by omega⟩
theorem ixN_nat {n j : Nat} (h : j < n) : ixN n ((j : Nat) : Int) = some j := by
  unfold ixN
  rw [if_pos (by omega), if_pos (by omega)]
  rfl
theorem all_in {σ : L2.St} {H : Hp} {A B : Hp → Prop} (h : A H) : tYes σ H (fun b H3 => if b = true then A H3 else B H3) := by
  show if true = true then A H else B H
  exact iteT h
theorem int_at {ns : List Int} {i : Nat} {x : V} (h : (ns.map V.int)[i]? = some x) : ∃ u, x = V.int u ∧ ns[i]? = some u := by
  rw [List.getElem?_map] at h
  cases e : ns[i]? with
  | none =>
    rw [e] at h
    cases h
  | some u =>
    rw [e] at h
    exact ⟨u, (Option.some.inj h).symm, rfl⟩
/-! ### comprehensions and loops over zip and enumerate of tuples -/
/-- what the reading of a comprehension asks behind its source -/
abbrev LcW (J : It) (g : TG) (tt : TT) (te : TE) (vs : List Nat) (σ : L2.St) (H1 : Hp) (D : Addr) (Qd : Hp → Prop) : Prop :=
  ∃ W : Nat → Nat → Hp → Prop, (∃ m, W 0 m (upd H1 D (.lst []))) ∧ ∀ i m H, W i m H →
    (J.stop i H ∧ Qd H) ∨ (J.go i H ∧ ∃ Nx : Hp → Prop, (∀ H', Nx H' → ∃ m', m' < m ∧ W (i + 1) m' H') ∧ ∀ x H', J.yld i H x H' → g x (wipe σ vs) H' fun σ2 H2 => wipe σ2 vs = wipe σ vs ∧ tt σ2 H2 fun b H3 =>
      if b = true then te σ2 H3 fun y H4 => ∃ acc, H4 D = some (.lst acc) ∧ acc.length < sizeLine ∧ Nx (upd H4 D (.lst (acc ++ [y]))) else Nx H3)
theorem lc_zipT {K : PySem.W.Frag} {a b : Addr} {xs ys : List V} {g : TG} {tt : TT} {te : TE} {vs : List Nat} {σ : L2.St} {H1 : Hp} {D : Addr} {Qd : Hp → Prop} (hl : xs.length = ys.length) (Pv : Nat → Hp → Prop) (h0 : Pv 0 (upd H1 D (.lst [])))
    (hq : ∀ i H, Pv i H → SqT K H a xs ∧ SqT K H b ys)
    (hs : ∀ (i : Nat) (x y : V) (T : Addr) (H : Hp), xs[i]? = some x → ys[i]? = some y → Pv i H → H T = none → g (.ref T) (wipe σ vs) (upd H T (.tup [x, y])) fun σ2 H2 => wipe σ2 vs = wipe σ vs ∧ tt σ2 H2 fun b H3 =>
      if b = true then te σ2 H3 fun y H4 => ∃ acc, H4 D = some (.lst acc) ∧ acc.length < sizeLine ∧ Pv (i + 1) (upd H4 D (.lst (acc ++ [y]))) else Pv (i + 1) H3) (hd : ∀ H, Pv xs.length H → Qd H) : LcW (ItzT K a b) g tt te vs σ H1 D Qd := by
  refine ⟨fun i m H => m = xs.length - i ∧ i ≤ xs.length ∧ Pv i H, ⟨xs.length, rfl, Nat.zero_le _, h0⟩, ?_⟩
  rintro i m H ⟨rfl, hi, p⟩
  obtain ⟨qx, qy⟩ := hq i H p
  by_cases hlt : i < xs.length
  · refine .inr ⟨⟨xs, ys, _, _, qx, qy, List.getElem?_eq_getElem hlt, List.getElem?_eq_getElem (by omega)⟩, Pv (i + 1), fun H' p' => ⟨xs.length - (i + 1), by omega, rfl, hlt, p'⟩, ?_⟩
    rintro v H' ⟨T, x', y', rfl, hT, rfl, f1, f2⟩
    exact hs i x' y' T H (f1 xs qx) (f2 ys qy) p hT
  · obtain rfl : i = xs.length := by omega
    exact .inl ⟨⟨xs, ys, qx, qy, .inl (Nat.le_refl _)⟩, hd H p⟩
theorem for_enumT {K : PySem.W.Frag} {a : Addr} {xs : List V} {g : TG} {tb : TS} {D : Ends} {σ : L2.St} {H : Hp} (Pv : Nat → L2.St → Hp → Prop) (h0 : Pv 0 σ H) (hq : ∀ i σ H, Pv i σ H → SqT K H a xs)
    (hs : ∀ (i : Nat) (x : V) (T : Addr) (σ : L2.St) (H : Hp), xs[i]? = some x → Pv i σ H → H T = none → g (.ref T) σ (upd H T (.tup [.int (i : Nat), x])) fun σ2 H2 => tb { D with nx := Pv (i + 1), ct := Pv (i + 1), bk := D.nx } σ2 H2) (hd : ∀ σ H, Pv xs.length σ H → D.nx σ H) :
    ∃ W : Nat → Nat → L2.St → Hp → Prop, (∃ m, W 0 m σ H) ∧ ∀ i m σ H, W i m σ H →
      ((IteT K a).stop i H ∧ D.nx σ H) ∨ ((IteT K a).go i H ∧ ∃ N : L2.St → Hp → Prop, (∀ σ' H', N σ' H' → ∃ m', m' < m ∧ W (i + 1) m' σ' H') ∧ ∀ v H', (IteT K a).yld i H v H' → g v σ H' fun σ2 H2 => tb { D with nx := N, ct := N, bk := D.nx } σ2 H2) := by
  refine ⟨fun i m σ H => m = xs.length - i ∧ i ≤ xs.length ∧ Pv i σ H, ⟨xs.length, rfl, Nat.zero_le _, h0⟩, ?_⟩
  rintro i m σ H ⟨rfl, hi, p⟩
  have qx := hq i σ H p
  by_cases hlt : i < xs.length
  · refine .inr ⟨⟨xs, _, qx, List.getElem?_eq_getElem hlt⟩, Pv (i + 1), fun σ' H' p' => ⟨xs.length - (i + 1), by omega, rfl, hlt, p'⟩, ?_⟩
    rintro v H' ⟨T, x', rfl, hT, rfl, f1⟩
    exact hs i x' T σ H (f1 xs qx) p hT
  · obtain rfl : i = xs.length := by omega
    exact .inl ⟨⟨xs, qx, Nat.le_refl _⟩, hd σ H p⟩
/-! ### bags, trades, markets -/
/-- a side of a trade: so many goods, amounts up to three, a total up to m -/
structure Side (g m : Nat) (b : List Int) : Prop where
  len : b.length = g
  amt : ∀ x ∈ b, 0 ≤ x ∧ x ≤ 3
  tot : b.sum ≤ (m : Int)
theorem Side.mono {g m k : Nat} {b : List Int} (h : Side g m b) (l : m ≤ k) : Side g k b := ⟨h.len, h.amt, by have := h.tot; omega⟩
abbrev bagD (b : List Int) : PyData := .tuple (b.map PyData.int)
abbrev Trd := List Int × List Int
abbrev trdD (t : Trd) : PyData := .tuple [bagD t.1, bagD t.2]
abbrev mktD (g : Nat) (ts : List Trd) : PyData := .tuple [.int (g : Int), .tuple (ts.map trdD)]
def TrdOk (g m : Nat) (t : Trd) : Prop := Side g m t.1 ∧ Side g m t.2
structure MktOk (g : Nat) (ts : List Trd) : Prop where
  one : 1 ≤ g
  four : g ≤ 4
  many : ts.length ≤ 4
  all : ∀ t ∈ ts, TrdOk g 4 t
theorem sum_nonneg : ∀ {b : List Int}, (∀ x ∈ b, 0 ≤ x) → 0 ≤ b.sum
  | [], _ => by decide
  | x :: b, h => by
    rw [List.sum_cons]
    have h1 := h x List.mem_cons_self
    have h2 := sum_nonneg (b := b) fun y hy => h y (List.mem_cons_of_mem _ hy)
    omega
theorem le_sum : ∀ {b : List Int}, (∀ x ∈ b, 0 ≤ x) → ∀ x ∈ b, x ≤ b.sum
  | y :: b, h, x, hx => by
    rw [List.sum_cons]
    have h1 := h y List.mem_cons_self
    have hb : ∀ z ∈ b, 0 ≤ z := fun z hz => h z (List.mem_cons_of_mem _ hz)
    have h2 := sum_nonneg hb
    rcases List.mem_cons.mp hx with rfl | hx
    · omega
    · have h3 := le_sum hb x hx
      omega
theorem sum_zip : ∀ {a b : List Int}, a.length = b.length → (List.zipWith (· + ·) a b).sum = a.sum + b.sum
  | [], [], _ => rfl
  | x :: a, y :: b, h => by
    rw [List.zipWith_cons_cons, List.sum_cons, List.sum_cons, List.sum_cons, sum_zip (a := a) (b := b) (by simpa using h)]
    omega
theorem mem_zip {f : Int → Int → Int} : ∀ {a b : List Int} {z : Int}, z ∈ List.zipWith f a b → ∃ x ∈ a, ∃ y ∈ b, z = f x y
  | x :: a, y :: b, z, h => by
    rw [List.zipWith_cons_cons] at h
    rcases List.mem_cons.mp h with rfl | h
    · exact ⟨x, List.mem_cons_self, y, List.mem_cons_self, rfl⟩
    · obtain ⟨x', hx, y', hy, e⟩ := mem_zip h
      exact ⟨x', List.mem_cons_of_mem _ hx, y', List.mem_cons_of_mem _ hy, e⟩
theorem zip_take {f : Int → Int → Int} : ∀ {a b : List Int} {i : Nat} {x y : Int}, a[i]? = some x → b[i]? = some y → (List.zipWith f a b).take (i + 1) = (List.zipWith f a b).take i ++ [f x y]
  | x' :: a, y' :: b, 0, x, y, h1, h2 => by
    have e1 : x' = x := Option.some.inj h1
    have e2 : y' = y := Option.some.inj h2
    rw [e1, e2]
    rfl
  | x' :: a, y' :: b, i + 1, x, y, h1, h2 => by
    rw [List.zipWith_cons_cons, List.take_succ_cons, List.take_succ_cons, zip_take (i := i) (x := x) (y := y) h1 h2]
    rfl
theorem Dat.bag {R : Rgn} {H : Hp} {v : V} {b : List Int} (h : Dat R H v (bagD b)) : ∃ a, v = .ref a ∧ R a ∧ H a = some (.tup (b.map V.int)) := by
  cases h with
  | tup ra e t =>
    rw [Dats.of_ints t] at e
    exact ⟨_, rfl, ra, e⟩
theorem Dat.mkBag {R : Rgn} {H : Hp} {a : Addr} {b : List Int} (ra : R a) (e : H a = some (.tup (b.map V.int))) : Dat R H (.ref a) (bagD b) := .tup ra e (Dats.ints b)
theorem rep0 : ∀ g : Nat, (List.replicate g [V.int 0]).flatten = (List.replicate g (0 : Int)).map V.int
  | 0 => rfl
  | k + 1 => by
    rw [List.replicate_succ, List.flatten_cons, rep0 k, List.replicate_succ]
    rfl
theorem sum_rep0 : ∀ k : Nat, (List.replicate k (0 : Int)).sum = 0
  | 0 => rfl
  | k + 1 => by
    rw [List.replicate_succ, List.sum_cons, sum_rep0 k]
    rfl
def rLenQ (K : PySem.W.Frag) : List V → Hp → VK → Prop := fun xs H Q => ∃ p ys, xs = [.ref p] ∧ (SqL K H p ys ∨ SqT K H p ys) ∧ Q (.int ys.length) H
def rTupQ (K : PySem.W.Frag) : List V → Hp → VK → Prop := fun xs H Q => ∃ p ys, xs = [.ref p] ∧ ((SqL K H p ys ∧ ∀ l, H l = none → Q (.ref l) (upd H l (.tup ys))) ∨ (SqT K H p ys ∧ Q (.ref p) H))
def rListQ (K : PySem.W.Frag) : List V → Hp → VK → Prop := fun xs H Q => ∃ p ys, xs = [.ref p] ∧ (SqL K H p ys ∨ SqT K H p ys) ∧ ∀ l, H l = none → Q (.ref l) (upd H l (.lst ys))
end Lb
set_option Elab.async false
set_option linter.all false
set_option maxRecDepth 100000
set_option maxHeartbeats 4000000
namespace Lb
open PySem PySem.Spec PyProof.Rows L2 RZ
/-! ### how long data is when shown -/
mutual
def wt : PyData → Nat
  | .none => 4
  | .bool _ => 5
  | .int i => (PyData.int i).shown.length
  | .str x => (reprText x).length
  | .list xs => 4 + wts xs
  | .tuple xs => 4 + wts xs
  | .dict _ => 2
def wts : List PyData → Nat
  | [] => 0
  | x :: xs => wt x + 2 + wts xs
end
mutual
def fine : PyData → Bool
  | .none => true
  | .bool _ => true
  | .int i => decide (i.natAbs.log2 < 1920)
  | .str _ => true
  | .list xs => fines xs
  | .tuple xs => fines xs
  | .dict kvs => kvs.isEmpty
def fines : List PyData → Bool
  | [] => true
  | x :: xs => fine x && fines xs
end
mutual
theorem fine_show : ∀ d : PyData, fine d = true → d.showable = true
  | .none, _ => by rw [PyData.showable]
  | .bool _, _ => by rw [PyData.showable]
  | .int i, h => by
    rw [PyData.showable]
    exact h
  | .str _, _ => by rw [PyData.showable]
  | .list xs, h => by
    rw [PyData.showable]
    exact fines_show xs h
  | .tuple xs, h => by
    rw [PyData.showable]
    exact fines_show xs h
  | .dict [], _ => by rw [PyData.showable, PyData.showableKv]
  | .dict (_ :: _), h => by
    simp [fine] at h
theorem fines_show : ∀ ds : List PyData, fines ds = true → PyData.showableAll ds = true
  | [], _ => by rw [PyData.showableAll]
  | d :: ds, h => by
    rw [fines, Bool.and_eq_true] at h
    rw [PyData.showableAll, fine_show d h.1, fines_show ds h.2]
    rfl
end
theorem tupleText_len (ts : List Str) : (tupleText ts).length ≤ piled ts + 4 := by
  unfold tupleText
  rw [strLen_append, strLen_append]
  have e1 : (("(" : String) : Str).length = 1 := rfl
  have e3 : ((if ts.length == 1 then ",)" else ")" : String) : Str).length ≤ 2 := by split <;> decide
  by_cases h : ts = []
  · subst h
    decide
  · have := join_length_add ts h
    rw [e1]
    omega
theorem textFrom_le : ∀ (ts : List Str) (k : Nat) (acc : Str), (textFrom k acc ts).length ≤ acc.length + piled ts
  | [], k, acc => by
    show acc.length ≤ _
    omega
  | t :: r, k, acc => by
    have ih := textFrom_le r (k + 1) (acc ++ (if k > 0 then ", " else "" : String) ++ t)
    have e : (acc ++ (if k > 0 then ", " else "" : String) ++ t).length ≤ acc.length + 2 + t.length := by
      rw [strLen_append, strLen_append]
      have : ((if k > 0 then ", " else "" : String) : Str).length ≤ 2 := by split <;> decide
      omega
    rw [piled_cons]
    show (textFrom (k + 1) (acc ++ (if k > 0 then ", " else "" : String) ++ t) r).length ≤ _
    omega
theorem listText_len (ts : List Str) : (listText ts).length ≤ piled ts + 4 := by
  unfold listText
  rw [strLen_append]
  have := textFrom_le ts 0 "["
  have e1 : (("[" : String) : Str).length = 1 := rfl
  have e2 : (("]" : String) : Str).length = 1 := rfl
  rw [e1] at this
  rw [e2]
  omega
mutual
theorem shown_le : ∀ d : PyData, fine d = true → d.shown.length ≤ wt d
  | .none, _ => by
    rw [PyData.shown]
    decide
  | .bool b, _ => by
    rw [PyData.shown]
    cases b <;> decide
  | .int i, _ => Nat.le_refl _
  | .str x, _ => by
    rw [PyData.shown]
    exact Nat.le_refl _
  | .list xs, h => by
    rw [PyData.shown, wt]
    have := listText_len (PyData.shownAll xs)
    have := piled_le xs h
    omega
  | .tuple xs, h => by
    rw [PyData.shown, wt]
    have := tupleText_len (PyData.shownAll xs)
    have := piled_le xs h
    omega
  | .dict [], _ => by
    rw [PyData.shown, PyData.shownKv]
    decide
  | .dict (_ :: _), h => by
    simp [fine] at h
theorem piled_le : ∀ ds : List PyData, fines ds = true → piled (PyData.shownAll ds) ≤ wts ds
  | [], _ => by
    rw [PyData.shownAll]
    exact Nat.le_refl _
  | d :: ds, h => by
    rw [fines, Bool.and_eq_true] at h
    rw [PyData.shownAll, piled_cons, wts]
    have := shown_le d h.1
    have := piled_le ds h.2
    omega
end
theorem fines_iff : ∀ ds : List PyData, fines ds = true ↔ ∀ d ∈ ds, fine d = true
  | [] => ⟨fun _ _ z => (List.not_mem_nil z).elim, fun _ => rfl⟩
  | d :: ds => by
    rw [fines, Bool.and_eq_true, fines_iff ds]
    exact ⟨fun h x hx => (List.mem_cons.mp hx).elim (fun e => e ▸ h.1) (h.2 x), fun h => ⟨h d List.mem_cons_self, fun x hx => h x (List.mem_cons_of_mem _ hx)⟩⟩
theorem depths_iff {k : Nat} : ∀ ds : List PyData, PyData.depthAll ds ≤ k ↔ ∀ d ∈ ds, d.depth ≤ k
  | [] => ⟨fun _ _ z => (List.not_mem_nil z).elim, fun _ => by rw [PyData.depthAll]; exact Nat.zero_le _⟩
  | d :: ds => by
    rw [PyData.depthAll, Nat.max_le, depths_iff ds]
    exact ⟨fun h x hx => (List.mem_cons.mp hx).elim (fun e => e ▸ h.1) (h.2 x), fun h => ⟨h d List.mem_cons_self, fun x hx => h x (List.mem_cons_of_mem _ hx)⟩⟩
theorem wts_append : ∀ a b : List PyData, wts (a ++ b) = wts a + wts b
  | [], b => by simp [wts]
  | x :: a, b => by
    rw [List.cons_append, wts, wts, wts_append a b]
    omega
theorem wts_mem : ∀ {ds : List PyData} {d : PyData}, d ∈ ds → wt d + 2 ≤ wts ds
  | x :: ds, d, h => by
    rw [wts]
    rcases List.mem_cons.mp h with rfl | h
    · omega
    · have := wts_mem h
      omega
theorem wts_take (ds : List PyData) (n : Nat) : wts (ds.take n) + wts (ds.drop n) = wts ds := by
  rw [← wts_append, List.take_append_drop]
theorem wts_len : ∀ ds : List PyData, 2 * ds.length ≤ wts ds
  | [] => Nat.le_refl _
  | d :: ds => by
    rw [wts, List.length_cons]
    have := wts_len ds
    omega
theorem wts_rev : ∀ ds : List PyData, wts ds.reverse = wts ds
  | [] => rfl
  | d :: ds => by
    rw [List.reverse_cons, wts_append, wts_rev ds, wts, wts, wts]
    omega
/-- data of a weight up to S and a depth up to k -/
structure Ok (S k : Nat) (d : PyData) : Prop where
  fi : fine d = true
  wt : wt d ≤ S
  dp : d.depth ≤ k
structure Oks (S k : Nat) (ds : List PyData) : Prop where
  fi : ∀ d ∈ ds, fine d = true
  wt : wts ds ≤ S
  dp : ∀ d ∈ ds, d.depth ≤ k
theorem Ok.mono {S k S' k' : Nat} {d : PyData} (h : Ok S k d) (a : S ≤ S') (b : k ≤ k') : Ok S' k' d := ⟨h.fi, Nat.le_trans h.wt a, Nat.le_trans h.dp b⟩
theorem Oks.mono {S k S' k' : Nat} {d : List PyData} (h : Oks S k d) (a : S ≤ S') (b : k ≤ k') : Oks S' k' d := ⟨h.fi, Nat.le_trans h.wt a, fun x hx => Nat.le_trans (h.dp x hx) b⟩
theorem Oks.tuple {S k : Nat} {ds : List PyData} (h : Oks S k ds) : Ok (S + 4) (k + 1) (.tuple ds) :=
  ⟨(fines_iff ds).mpr h.fi, by show 4 + wts ds ≤ S + 4; have := h.wt; omega, by rw [PyData.depth]; exact Nat.succ_le_succ ((depths_iff ds).mpr h.dp)⟩
theorem Oks.list {S k : Nat} {ds : List PyData} (h : Oks S k ds) : Ok (S + 4) (k + 1) (.list ds) :=
  ⟨(fines_iff ds).mpr h.fi, by show 4 + wts ds ≤ S + 4; have := h.wt; omega, by rw [PyData.depth]; exact Nat.succ_le_succ ((depths_iff ds).mpr h.dp)⟩
theorem Ok.items {S k : Nat} {ds : List PyData} (h : Ok S k (.tuple ds)) : Oks (S - 4) (k - 1) ds := by
  obtain ⟨h1, h2, h3⟩ := h
  rw [PyData.depth] at h3
  rw [Lb.wt] at h2
  exact ⟨(fines_iff ds).mp h1, by omega, (depths_iff ds).mp (by omega)⟩
theorem Oks.append {S T k : Nat} {a b : List PyData} (h : Oks S k a) (g : Oks T k b) : Oks (S + T) k (a ++ b) :=
  ⟨fun d hd => (List.mem_append.mp hd).elim (h.fi d) (g.fi d), by rw [wts_append]; have := h.wt; have := g.wt; omega, fun d hd => (List.mem_append.mp hd).elim (h.dp d) (g.dp d)⟩
theorem Oks.take {S k : Nat} {a : List PyData} (h : Oks S k a) (n : Nat) : Oks S k (a.take n) :=
  ⟨fun d hd => h.fi d (List.mem_of_mem_take hd), by have := wts_take a n; have := h.wt; omega, fun d hd => h.dp d (List.mem_of_mem_take hd)⟩
theorem Oks.drop {S k : Nat} {a : List PyData} (h : Oks S k a) (n : Nat) : Oks S k (a.drop n) :=
  ⟨fun d hd => h.fi d (List.mem_of_mem_drop hd), by have := wts_take a n; have := h.wt; omega, fun d hd => h.dp d (List.mem_of_mem_drop hd)⟩
theorem Oks.reverse {S k : Nat} {a : List PyData} (h : Oks S k a) : Oks S k a.reverse :=
  ⟨fun d hd => h.fi d (List.mem_reverse.mp hd), by rw [wts_rev]; exact h.wt, fun d hd => h.dp d (List.mem_reverse.mp hd)⟩
theorem Oks.one {S k : Nat} {d : PyData} (h : Ok S k d) : Oks (S + 2) k [d] :=
  ⟨fun x hx => by rw [List.mem_singleton.mp hx]; exact h.fi, by rw [wts, wts]; have := h.wt; omega, fun x hx => by rw [List.mem_singleton.mp hx]; exact h.dp⟩
theorem Oks.mem {S k : Nat} {a : List PyData} (h : Oks S k a) {d : PyData} (m : d ∈ a) : Ok S k d := ⟨h.fi d m, by have := wts_mem m; have := h.wt; omega, h.dp d m⟩
theorem Ok.shown {S k : Nat} {d : PyData} (h : Ok S k d) (hS : S ≤ 1000000) : d.shown.length ≤ sizeLine := by
  have h1 := shown_le d h.fi
  have h2 := h.wt
  rw [sizeLine_eq]
  omega
/-! ### xs == [] -/
def rEqE : R2 := fun x y H Q => ∃ (a b : Addr) (xs : List V), x = .ref a ∧ y = .ref b ∧ H a = some (.lst xs) ∧ H b = some (.lst []) ∧ Q (.bl xs.isEmpty) H
theorem op_eqE {X : Cx} (hu : X.A.units < cLine) : OpR X (compareOp .Eq) rEqE := by
  intro pins s σ H x y v u Q I rx ry h
  obtain ⟨a, b, xs, rfl, rfl, ea, eb, q⟩ := h
  cases rx
  cases ry
  obtain ⟨its, r, p, _⟩ := I.list (.inl (.inl ea))
  obtain ⟨its2, r2, p2, _⟩ := I.list (.inl (.inl eb))
  cases r2
  cases r with
  | nil => exact SeqAt.eq_listAt (e := fun _ => true) p.isList p2.isList rfl hu (fun j h1 _ => absurd h1 (Nat.not_lt_zero j)) ⟨.bl true, H, I, rfl, q⟩
  | cons r1 rr => exact SeqAt.eq_list_lengthsAt p.isList p2.isList rfl hu ⟨.bl false, H, I, rfl, q⟩
def rNeE : R2 := fun x y H Q => ∃ (a b : Addr) (ns : List Int), x = .ref a ∧ y = .ref b ∧ H a = some (.lst (ns.map V.int)) ∧ H b = some (.lst []) ∧ Q (.bl (!ns.isEmpty)) H
theorem dp_ints {K : PySem.W.Frag} {H : Hp} : ∀ ns : List Int, DpAll K H (ns.map V.int) (ns.map PyData.int)
  | [] => .nil
  | n :: ns => .cons (.int n) (dp_ints ns)
theorem lay_ints : ∀ ns : List Int, PyData.canLayAll0 (ns.map PyData.int) = true
  | [] => by
    rw [List.map_nil, PyData.canLayAll0]
  | n :: ns => by
    rw [List.map_cons, PyData.canLayAll0, lay_ints ns, PyData.canLay0]
    rfl
theorem shaped_ints (ns : List Int) : SeqAt.shaped (.list (ns.map PyData.int)) = true := by
  unfold SeqAt.shaped
  rw [PyData.canLay0, lay_ints, PyData.depth, depth_ints]
  rfl
theorem op_neE {X : Cx} (hu : X.A.units + 64 < cLine) : OpR X (compareOp .NotEq) rNeE := by
  intro pins s σ H x y v u Q I rx ry h
  obtain ⟨a, b, ns, rfl, rfl, ea, eb, q⟩ := h
  refine op_neD hu pins s σ H _ _ v u Q I rx ry ⟨.list (ns.map PyData.int), .list [], .lst (SqL.of ea) (dp_ints ns), .lst (SqL.of eb) .nil, shaped_ints ns, shaped_ints [], ?_⟩
  cases ns with
  | nil =>
    rw [List.map_nil, PyData.eqv, PyData.eqvAll]
    exact q
  | cons n ns =>
    rw [List.map_cons, PyData.eqv, PyData.eqvAll]
    exact q
theorem drop_at2 {α : Type} {l : List α} {i : Nat} {x : α} (h : l[i]? = some x) : l.drop i = x :: l.drop (i + 1) := by
  obtain ⟨hi, e⟩ := List.getElem?_eq_some_iff.mp h
  rw [List.drop_eq_getElem_cons hi, e]
end Lb
set_option Elab.async false
set_option linter.all false
set_option maxRecDepth 100000
set_option maxHeartbeats 4000000
namespace Lb
open PySem PySem.Spec PyProof.Rows L2 RZ
/-! ### zip of three tuples -/
/-- three tuples, their items in new tuples -/
def ItzU (K : PySem.W.Frag) (a b c : Addr) : It :=
  ⟨fun i H => ∃ (xs ys zs : List V) (x y z : V), SqT K H a xs ∧ SqT K H b ys ∧ SqT K H c zs ∧ xs[i]? = some x ∧ ys[i]? = some y ∧ zs[i]? = some z,
    fun i H v H' => ∃ T x y z, v = .ref T ∧ H T = none ∧ H' = upd H T (.tup [x, y, z]) ∧ (∀ xs, SqT K H a xs → xs[i]? = some x) ∧ (∀ ys, SqT K H b ys → ys[i]? = some y) ∧ ∀ zs, SqT K H c zs → zs[i]? = some z,
    fun i H => ∃ xs ys zs : List V, SqT K H a xs ∧ SqT K H b ys ∧ SqT K H c zs ∧ i ≤ xs.length ∧ i ≤ ys.length ∧ i ≤ zs.length ∧ (i = xs.length ∨ i = ys.length ∨ i = zs.length)⟩
structure Apart3 (q TI TO i1 i2 i3 a b c : Addr) : Prop where
  sep : ZipSep3 q TI TO i1 i2 i3 [i1, a] [i2, b] [i3, c]
  n1 : a ≠ i1
  n2 : b ≠ i2
  n3 : c ≠ i3
theorem apart3 (n a b c : Nat) (ha : a < n) (hb : b < n) (hc : c < n) : Apart3 (n + 5) (n + 3) (n + 4) n (n + 1) (n + 2) a b c := by
  have t : ∀ {x y z : Nat}, x ≠ y → x ≠ z → x ∉ [y, z] := fun {x y z} h1 h2 h => by
    rcases List.mem_cons.mp h with h | h
    · exact h1 h
    · exact h2 (List.mem_singleton.mp h)
  have d : ∀ {x y : Nat}, (x < y ∨ y < x) → x ≠ y := fun {x y} h z => by omega
  exact ⟨{ TIz := d (by omega), TOz := d (by omega), TITO := d (by omega), TIi1 := d (by omega), mem1 := List.mem_cons_self, zf1 := t (d (by omega)) (d (by omega)), Tf1 := t (d (by omega)) (d (by omega)), TIi2 := d (by omega), mem2 := List.mem_cons_self, zf2 := t (d (by omega)) (d (by omega)), Tf2 := t (d (by omega)) (d (by omega)), TIi3 := d (by omega), mem3 := List.mem_cons_self, zf3 := t (d (by omega)) (d (by omega)), Tf3 := t (d (by omega)) (d (by omega)), sep1_2 := t (d (by omega)) (d (by omega)), sep1_3 := t (d (by omega)) (d (by omega)), sep2_1 := t (d (by omega)) (d (by omega)), sep2_3 := t (d (by omega)) (d (by omega)), sep3_1 := t (d (by omega)) (d (by omega)), sep3_2 := t (d (by omega)) (d (by omega)) }, d (by omega), d (by omega), d (by omega)⟩
theorem turn_zipU {P : Program} {w : World} {K : PySem.W.Frag} {elts : List Expr} {kk : Nat} {tpos : Pos} {a b c q TI TO i1 i2 i3 : Addr} (D : Apart3 q TI TO i1 i2 i3 a b c) :
    Turn P w K (.Tuple elts kk tpos) (ItzU K a b c) [q, TI, TO, i1, i2, i3] q (fun i h => IsZip h q TI TO .none ∧ IsTupOf3 h TI (.ref i1) (.ref i2) (.ref i3) ∧ (∃ x y z, IsTupOf3 h TO x y z) ∧ h.IsTupleIter i1 a i ∧ h.IsTupleIter i2 b i ∧ h.IsTupleIter i3 c i) where
  mem := by simp
  obj := fun i h st c hc => by
    obtain ⟨hz, hTI, ⟨x, y, z, hTO⟩, ⟨o1, e1, _, d1⟩, ⟨o2, e2, _, d2⟩, ⟨o3, e3, _, d3⟩⟩ := st
    have e' : c = q ∨ c = TI ∨ c = TO ∨ c = i1 ∨ c = i2 ∨ c = i3 := by simpa using hc
    rcases e' with k | k | k | k | k | k
    · rw [k]; exact ⟨_, hz, fun v u => nomatch u⟩
    · rw [k]; exact ⟨_, hTI, fun v u => nomatch u⟩
    · rw [k]; exact ⟨_, hTO, fun v u => nomatch u⟩
    · rw [k]; exact ⟨o1, e1, fun v u => by rw [d1] at u; cases u⟩
    · rw [k]; exact ⟨o2, e2, fun v u => by rw [d2] at u; cases u⟩
    · rw [k]; exact ⟨o3, e3, fun v u => by rw [d3] at u; cases u⟩
  keep := fun i h h' st k => by
    obtain ⟨hz, hTI, ⟨x, y, z, hTO⟩, h1, h2, h3⟩ := st
    exact ⟨k q (by simp) _ hz, k TI (by simp) _ hTI, ⟨x, y, z, k TO (by simp) _ hTO⟩, h1.at fun o u => k i1 (by simp) o u, h2.at fun o u => k i2 (by simp) o u, h3.at fun o u => k i3 (by simp) o u⟩
  item := by
    intro X hP hw hK hc i pins s σ H E I hf st hg
    subst hP hw hK
    obtain ⟨hz, hTI, ⟨x0, y0, z0, hTO⟩, h1, h2, h3⟩ := st
    obtain ⟨xs, ys, zs, x, y, z, hqx, hqy, hqz, hx, hy, hv⟩ := hg
    obtain ⟨its, rv, p, _⟩ := I.tuple hqx
    obtain ⟨its2, rv2, p2, _⟩ := I.tuple hqy
    obtain ⟨its3, rv3, p3, _⟩ := I.tuple hqz
    obtain ⟨u, hu, ru⟩ := rv.get hx
    obtain ⟨u2, hu2, ru2⟩ := rv2.get hy
    obtain ⟨u3, hu3, ru3⟩ := rv3.get hv
    have hzl : q < s.heap.objs.size := Heap.lt_size hz
    have l1 : i < its.toArray.size := by simpa using (List.getElem?_eq_some_iff.mp hu).1
    have l2 : i < its2.toArray.size := by simpa using (List.getElem?_eq_some_iff.mp hu2).1
    have l3 : i < its3.toArray.size := by simpa using (List.getElem?_eq_some_iff.mp hu3).1
    refine wpAny_pyNext_zipD3_item D.sep (Draws.tuple (A := X.A.in1) (I.ok.hd hc) i1 a D.n1 its.toArray) (Draws.tuple (A := X.A.in1) (I.ok.hd hc) i2 b D.n2 its2.toArray) (Draws.tuple (A := X.A.in1) (I.ok.hd hc) i3 c D.n3 its3.toArray)
      hz hTI hTO ⟨h1, p⟩ ⟨h2, p2⟩ ⟨h3, p3⟩ l1 l2 l3 fun x1 x2 x3 h' tk y1 y2 y3 z' TO' s1' s2' s3' hT hsz hk => ?_
    have g1 : x1 = u := Option.some.inj (y1.symm.trans (by simpa using hu))
    have g2 : x2 = u2 := Option.some.inj (y2.symm.trans (by simpa using hu2))
    have g3 : x3 = u3 := Option.some.inj (y3.symm.trans (by simpa using hu3))
    subst g1 g2 g3
    refine ⟨_, rfl, wpAny_letOwnedTupleGo_zip (s := { s with heap := h', toks := tk }) z' fun h'' z'' sb => ?_⟩
    have hT2 : h''.get? s.heap.objs.size = some { cls := .type "tuple", data := .seq #[x1, x2, x3] } := (sb.2 _ (Nat.ne_of_gt hzl)).trans hT
    have new : ObjOk X.prog X.w (upd H s.heap.objs.size (.tup [x, y, z])) h'' s.heap.objs.size (.tup [x, y, z]) :=
      ⟨by show 3 ≤ sizeLine; decide, [x1, x2, x3], .cons ru (.cons ru2 (.cons ru3 .nil)), ⟨_, hT2, rfl, _, rfl⟩⟩
    have I1 : Inv X pins σ (upd H s.heap.objs.size (.tup [x, y, z])) { s with heap := h'', toks := tk } :=
      I.turnedNew (t' := tk) (ch := [q, TI, TO, i1, i2, i3]) (fun c o hb u => (sb.2 c (fun q' => hb (by simp [q']))).trans (hk c o (fun q' => hb (by simp [q'])) (fun q' => hb (by simp [q'])) (fun q' => hb (by simp [q'])) (fun q' => hb (by simp [q'])) (fun q' => hb (by simp [q'])) u)) hf (Nat.le_refl _) new
    refine ⟨.ref s.heap.objs.size, _, I1, rfl, ⟨_, x, y, z, rfl, I.hok.fresh (Nat.le_refl _), rfl, fun l hl => by rw [I.tuple_inj hl hqx]; exact hx, fun l hl => by rw [I.tuple_inj hl hqy]; exact hy, fun l hl => by rw [I.tuple_inj hl hqz]; exact hv⟩, ⟨z'', ?_, ⟨x1, x2, x3, ?_⟩, ?_, ?_, ?_⟩, fun c hcm => ?_⟩
    · exact (sb.2 _ D.sep.TIz).trans (hk _ _ D.sep.TIz D.sep.TITO D.sep.TIi1 D.sep.TIi2 D.sep.TIi3 hTI)
    · exact (sb.2 _ D.sep.TOz).trans TO'
    · exact s1'.1.at fun o u => (sb.2 _ D.sep.zi1.symm).trans u
    · exact s2'.1.at fun o u => (sb.2 _ D.sep.zi2.symm).trans u
    · exact s3'.1.at fun o u => (sb.2 _ D.sep.zi3.symm).trans u
    · have hlt : c < s.heap.objs.size := by
        have e' : c = q ∨ c = TI ∨ c = TO ∨ c = i1 ∨ c = i2 ∨ c = i3 := by simpa using hcm
        rcases e' with k | k | k | k | k | k
        · rw [k]; exact hzl
        · rw [k]; exact Heap.lt_size hTI
        · rw [k]; exact Heap.lt_size hTO
        · rw [k]; obtain ⟨_, e1, _⟩ := h1; exact Heap.lt_size e1
        · rw [k]; obtain ⟨_, e2, _⟩ := h2; exact Heap.lt_size e2
        · rw [k]; obtain ⟨_, e3, _⟩ := h3; exact Heap.lt_size e3
      rw [upd_ne (Nat.ne_of_lt hlt)]
      exact (hf c hcm).1
  done := by
    intro X hP hw hK hc i pins s σ H E I hf st hg
    subst hP hw hK
    obtain ⟨hz, hTI, ⟨x0, y0, z0, hTO⟩, h1, h2, h3⟩ := st
    obtain ⟨xs, ys, zs, hqx, hqy, hqz, b1, b2, b3, hend⟩ := hg
    obtain ⟨its, rv, p, _⟩ := I.tuple hqx
    obtain ⟨its2, rv2, p2, _⟩ := I.tuple hqy
    obtain ⟨its3, rv3, p3, _⟩ := I.tuple hqz
    have l1 : its.toArray.size = xs.length := by simpa using rv.length.symm
    have l2 : its2.toArray.size = ys.length := by simpa using rv2.length.symm
    have l3 : its3.toArray.size = zs.length := by simpa using rv3.length.symm
    exact wpAny_pyNext_zipD3_end D.sep (Draws.tuple (A := X.A.in1) (I.ok.hd hc) i1 a D.n1 its.toArray) (Draws.tuple (A := X.A.in1) (I.ok.hd hc) i2 b D.n2 its2.toArray) (Draws.tuple (A := X.A.in1) (I.ok.hd hc) i3 c D.n3 its3.toArray)
      hz hTI hTO ⟨h1, p⟩ ⟨h2, p2⟩ ⟨h3, p3⟩ (by omega) (by omega) (by omega) (by omega) fun h' tk hk => ⟨rfl, I.turnedL (t' := tk) (ch := [q, TI, TO, i1, i2, i3]) (fun c o hb u =>
      hk c o (fun q' => hb (by simp [q'])) (fun q' => hb (by simp [q'])) (fun q' => hb (by simp [q'])) (fun q' => hb (by simp [q'])) (fun q' => hb (by simp [q'])) u) hf⟩
  self := fun A i s Q E st h => wpAny_pyIter_zip st.1 h
def iZipU (K : PySem.W.Frag) (ta : TA) : TI := fun σ H R => ta σ H fun vs H1 => ∃ a b c xs ys zs, vs = [.ref a, .ref b, .ref c] ∧ SqT K H1 a xs ∧ SqT K H1 b ys ∧ SqT K H1 c zs ∧ R (ItzU K a b c) H1
theorem iter_at {h : Heap} {i a : Addr} (e : h.get? i = some { cls := .type "tuple_iterator", data := .fields #[.ref a, .int 0 0] }) : h.IsTupleIter i a 0 := ⟨_, e, rfl, rfl⟩
theorem pi_zip3 {X : Cx} {e e2 e3 : Expr} {ta : TA} {p pos tpos : Pos} {elts : List Expr} {kk : Nat} (hg : Gl X "zip") (hm : X.mg "zip" = none) (ha : PA X [e, e2, e3] ta)
    (hs : starEach [e, e2, e3] X.env = (false, eval e X.env) :: starEach [e2, e3] X.env := by rfl) (hpl : (backTo pos (starEach [e2, e3] X.env)).any (·.1) = false := by rfl) :
    PI X (.Tuple elts kk tpos) (.Call (.Name "zip" p) [e, e2, e3] [] pos) (iZipU X.K ta) := by
  refine ⟨fun pins s σ H R I h => ?_⟩
  refine Call_ (ld_blt I hg hm PyProof.Rows.boot_zip (PyProof.Rows.callWith_type1 (thn (ha.run pos pins s σ H _ I h) fun us s1 ⟨vs, H1, I1, r1, q1⟩ => ?_) hs hpl))
  obtain ⟨a, b, c, xs, ys, zs, ex, hqx, hqy, hqz, q⟩ := q1
  subst ex
  cases r1 with
  | cons r rr =>
    cases rr with
    | cons r' rr =>
      cases rr with
      | cons r'' rr =>
        cases rr
        cases r
        cases r'
        cases r''
        have fresh6 : ∀ c, c ∈ [s1.heap.objs.size + 5, s1.heap.objs.size + 3, s1.heap.objs.size + 4, s1.heap.objs.size, s1.heap.objs.size + 1, s1.heap.objs.size + 2] → FpOk X pins H1 c := fun c hcm => by
          have e' : c = s1.heap.objs.size + 5 ∨ c = s1.heap.objs.size + 3 ∨ c = s1.heap.objs.size + 4 ∨ c = s1.heap.objs.size ∨ c = s1.heap.objs.size + 1 ∨ c = s1.heap.objs.size + 2 := by simpa using hcm
          have hle : s1.heap.objs.size ≤ c := by
            rcases e' with z | z | z | z | z | z
            · rw [z]; exact Nat.le_add_right _ _
            · rw [z]; exact Nat.le_add_right _ _
            · rw [z]; exact Nat.le_add_right _ _
            · rw [z]; exact Nat.le_refl _
            · rw [z]; exact Nat.le_add_right _ _
            · rw [z]; exact Nat.le_add_right _ _
          exact I1.fpOk hle (I1.hok.fresh hle)
        obtain ⟨its, rv, p1, _⟩ := I1.tuple hqx
        obtain ⟨its2, rv2, p2, _⟩ := I1.tuple hqy
        obtain ⟨its3, rv3, p3, _⟩ := I1.tuple hqz
        obtain ⟨o1, ho1, _⟩ := id p1
        obtain ⟨o2, ho2, _⟩ := id p2
        obtain ⟨o3, ho3, _⟩ := id p3
        refine zip_begins3 (begins_tuple a its.toArray) (begins_tuple b its2.toArray) (begins_tuple c its3.toArray) p1 p2 p3 fun h' hz hTI hTO h1 h2 h3 hsz hk => wpAny_pyIter_zip hz ?_
        have I2 : Inv X pins σ H1 { s1 with heap := h' } := I1.kept (t' := s1.toks) hk
        exact ⟨s1.heap.objs.size + 5, [s1.heap.objs.size + 5, s1.heap.objs.size + 3, s1.heap.objs.size + 4, s1.heap.objs.size, s1.heap.objs.size + 1, s1.heap.objs.size + 2], _, _, H1, rfl, I2, turn_zipU (apart3 s1.heap.objs.size a b c (Heap.lt_size ho1) (Heap.lt_size ho2) (Heap.lt_size ho3)), ⟨hz, hTI, ⟨_, _, _, hTO⟩, iter_at h1, iter_at h2, iter_at h3⟩, fresh6, q⟩
theorem lc_zipU {K : PySem.W.Frag} {a b c : Addr} {xs ys zs : List V} {g : TG} {tt : TT} {te : TE} {vs : List Nat} {σ : L2.St} {H1 : Hp} {D : Addr} {Qd : Hp → Prop} (hl : xs.length = ys.length) (hl2 : xs.length = zs.length) (Pv : Nat → Hp → Prop) (h0 : Pv 0 (upd H1 D (.lst [])))
    (hq : ∀ i H, Pv i H → SqT K H a xs ∧ SqT K H b ys ∧ SqT K H c zs)
    (hs : ∀ (i : Nat) (x y z : V) (T : Addr) (H : Hp), xs[i]? = some x → ys[i]? = some y → zs[i]? = some z → Pv i H → H T = none → g (.ref T) (wipe σ vs) (upd H T (.tup [x, y, z])) fun σ2 H2 => wipe σ2 vs = wipe σ vs ∧ tt σ2 H2 fun b H3 =>
      if b = true then te σ2 H3 fun y H4 => ∃ acc, H4 D = some (.lst acc) ∧ acc.length < sizeLine ∧ Pv (i + 1) (upd H4 D (.lst (acc ++ [y]))) else Pv (i + 1) H3) (hd : ∀ H, Pv xs.length H → Qd H) : LcW (ItzU K a b c) g tt te vs σ H1 D Qd := by
  refine ⟨fun i m H => m = xs.length - i ∧ i ≤ xs.length ∧ Pv i H, ⟨xs.length, rfl, Nat.zero_le _, h0⟩, ?_⟩
  rintro i m H ⟨rfl, hi, p⟩
  obtain ⟨qx, qy, qz⟩ := hq i H p
  by_cases hlt : i < xs.length
  · refine .inr ⟨⟨xs, ys, zs, _, _, _, qx, qy, qz, List.getElem?_eq_getElem hlt, List.getElem?_eq_getElem (by omega), List.getElem?_eq_getElem (by omega)⟩, Pv (i + 1), fun H' p' => ⟨xs.length - (i + 1), by omega, rfl, hlt, p'⟩, ?_⟩
    rintro v H' ⟨T, x', y', z', rfl, hT, rfl, f1, f2, f3⟩
    exact hs i x' y' z' T H (f1 xs qx) (f2 ys qy) (f3 zs qz) p hT
  · obtain rfl : i = xs.length := by omega
    exact .inl ⟨⟨xs, ys, zs, qx, qy, qz, Nat.le_refl _, by omega, by omega, .inl rfl⟩, hd H p⟩
end Lb
set_option Elab.async false
set_option linter.all false
set_option maxRecDepth 100000
set_option maxHeartbeats 4000000
namespace Lb
open PySem PySem.Spec PyProof.Rows L2 RZ
section
variable {P : Program} {w : World} {K : PySem.W.Frag} {mg : Str → Option Value} {base : Heap}
def spDraw : Sp := fun vs H Q _ => ∃ (d c r : Addr) (n m : Nat), vs = [.ref d, .int (m : Int)] ∧ Dk H d c r n ∧ n < 2 ^ 40 ∧ 0 < m ∧ m < 1000000 ∧ ∀ (H' : Hp) (v : Nat), v < m → Dk H' d c r (n + 1) → Kp d r H H' → Q (.int (v : Int)) H'
def spDeck (K : PySem.W.Frag) : Sp := fun vs H Q _ => ∃ (a : Addr) (ns : List Int), vs = [.ref a] ∧ SqL K H a (ns.map V.int) ∧ ns.length ≤ 63 ∧ ∀ (H' : Hp) (d c r : Addr), Same H H' → H d = none → H c = none → H r = none → Dk H' d c r 0 → Q (.ref d) H'
theorem cut63 (ns : List Int) (h : ns.length ≤ 63) : cutV (ns.map V.int) none (some 63) = ns.map V.int := by
  unfold cutV
  rw [HT.sIx_none, show HT.sIx (ns.map V.int).length (ns.map V.int).length (some 63) = min 63 (ns.map V.int).length from HT.sIx_nat _ _ 63]
  rw [List.drop_zero]
  refine List.take_of_length_le ?_
  rw [List.length_map]
  omega
def spOne : Sp := fun vs H Q _ => ∃ (d c r l : Addr) (n : Nat) (xs : List V), vs = [.ref d, .ref l] ∧ Dk H d c r n ∧ n < 2 ^ 40 ∧ H l = some (.lst xs) ∧ l ≠ d ∧ l ≠ r ∧ 0 < xs.length ∧ xs.length ≤ 1000 ∧
  ∀ (H' : Hp) (v : Nat) (x : V), xs[v]? = some x → Dk H' d c r (n + 1) → Kp d r H H' → Q x H'
def spPlus (K : PySem.W.Frag) : Sp := fun vs H Q _ => ∃ (a b : Addr) (x y : List Int), vs = [.ref a, .ref b] ∧ SqT K H a (x.map V.int) ∧ SqT K H b (y.map V.int) ∧ x.length = y.length ∧ x.length ≤ 1000 ∧
  ∀ (H' : Hp) (p : Addr), Same H H' → H p = none → H' p = some (.tup ((List.zipWith (· + ·) x y).map V.int)) → Q (.ref p) H'
theorem same_tup {K : PySem.W.Frag} {H H' : Hp} {a : Addr} {xs : List V} (e : Same H H') (h : SqT K H a xs) : SqT K H' a xs := by
  rcases h with (h | ⟨o, h⟩) | h
  · exact .inl (.inl (e _ _ h))
  · exact .inl (.inr ⟨o, e _ _ h⟩)
  · exact .inr h
def spSide : Sp := fun vs H Q _ => ∃ (d c r : Addr) (n g m : Nat), vs = [.ref d, .int (g : Int), .int (m : Int)] ∧ Dk H d c r n ∧ n < 2 ^ 39 ∧ 0 < g ∧ g ≤ 1000 ∧ m ≤ 1000 ∧
  ∀ (H' : Hp) (p : Addr) (b : List Int), Side g m b → H p = none → H' p = some (.tup (b.map V.int)) → Dk H' d c r (n + 1 + m) → Kp d r H H' → Q (.ref p) H'
theorem kp_free {H H' : Hp} {d c r : Addr} {n : Nat} (k : Kp d r H H') (dk : Dk H' d c r n) {p : Addr} (e : H' p = none) : H p = none := by
  cases q : H p with
  | none => rfl
  | some o =>
    have := dk.nd e
    rw [k _ _ this.1 this.2.1 q] at e
    cases e
def spTrade : Sp := fun vs H Q _ => ∃ (R : Rgn) (d c r : Addr) (n g m : Nat), vs = [.ref d, .int (g : Int), .int (m : Int)] ∧ Dk H d c r n ∧ n < 2 ^ 38 ∧ 0 < g ∧ g ≤ 100 ∧ m ≤ 4 ∧ Rg R H d r ∧
  ∀ (H' : Hp) (v : V) (t : Trd), TrdOk g m t → Dat R H' v (trdD t) → Dk H' d c r (n + 20) → Kp d r H H' → Q v H'
theorem two_sides {D : Ends} {σ : L2.St} {H : Hp} {d c r : Addr} {n g m : Nat} {R : Rgn} (h0 : σ[0]? = some (some (.ref d))) (h1 : σ[1]? = some (some (.int (g : Int)))) (h2 : σ[2]? = some (some (.int (m : Int))))
    (dk : Dk H d c r n) (hn : n < 2 ^ 38 + 1) (hg : 0 < g) (hg2 : g ≤ 100) (hm : m ≤ 4) (rg : Rg R H d r)
    (q : ∀ (H' : Hp) (v : V) (t : Trd), TrdOk g m t → Dat R H' v (trdD t) → Dk H' d c r (n + 10) → Kp d r H H' → D.rt v H') :
    tRet (tTup (tCons (tCall spSide [] E0 (tCons (tVar 0) (tCons (tVar 1) (tCons (tVar 2) tNil)))) (tCons (tCall spSide [] E0 (tCons (tVar 0) (tCons (tVar 1) (tCons (tVar 2) tNil)))) tNil))) D σ H := by
  refine ⟨_, h0, _, h1, _, h2, d, c, r, n, g, m, rfl, dk, by omega, hg, by omega, by omega, fun H1 p1 b1 sd1 f1 e1 dk1 k1 => ?_⟩
  refine ⟨_, h0, _, h1, _, h2, d, c, r, n + 1 + m, g, m, rfl, dk1, by omega, hg, by omega, by omega, fun H2 p2 b2 sd2 f2 e2 dk2 k2 => ?_⟩
  have nd := dk.nd f1
  have e1' := k2 _ _ nd.1 nd.2.1 e1
  refine ⟨(by show 2 ≤ sizeLine; decide), fun p3 z3 => ?_⟩
  have rg2 := (rg.kp k1 dk1).kp k2 dk2
  have sm := same_upd (o := .tup [V.ref p1, V.ref p2]) z3
  refine q _ _ (b1, b2) ⟨sd1, sd2⟩ (.tup (rg2.new _ z3) upd_same (.cons (Dat.mkBag (rg.new _ f1) (sm _ _ e1')) (.cons (Dat.mkBag ((rg.kp k1 dk1).new _ f2) (sm _ _ e2)) .nil))) ((dk2.same sm).mono (by omega)) ((k1.trans k2).trans (Kp.of sm))
def besideL (g : Nat) (at_ : Nat) (many : Int) : List Int := (List.range g).map fun (k : Nat) => many * (if decide (V.int ((0 : Int) + (k : Int)) = V.int (at_ : Int)) = true then 1 else 0)
theorem beside_mem {g a : Nat} {m : Int} (hm : 0 ≤ m) : ∀ x ∈ besideL g a m, 0 ≤ x ∧ x ≤ m := by
  intro x hx
  obtain ⟨k, _, rfl⟩ := List.mem_map.mp hx
  by_cases h : V.int ((0 : Int) + (k : Int)) = V.int (a : Int)
  · rw [decide_eq_true h, if_pos rfl]
    omega
  · rw [decide_eq_false h, if_neg Bool.false_ne_true]
    omega
theorem beside_sum {a : Nat} {m : Int} (hm : 0 ≤ m) : ∀ g : Nat, (besideL g a m).sum = if a < g then m else 0
  | 0 => by
    rw [if_neg (Nat.not_lt_zero _)]
    rfl
  | g + 1 => by
    unfold besideL
    rw [List.range_succ, List.map_append, List.sum_append]
    have ih := beside_sum hm g (a := a)
    unfold besideL at ih
    rw [ih, List.map_singleton, List.sum_cons, List.sum_nil]
    by_cases h : a = g
    · subst h
      rw [if_neg (Nat.lt_irrefl _), if_pos (Nat.lt_succ_self _), decide_eq_true (by simp), if_pos rfl]
      omega
    · rw [decide_eq_false (fun z => h (by have := V.int.inj z; omega)), if_neg Bool.false_ne_true]
      by_cases h2 : a < g
      · rw [if_pos h2, if_pos (by omega)]
        omega
      · rw [if_neg h2, if_neg (by omega)]
        omega
theorem beside_len (g a : Nat) (m : Int) : (besideL g a m).length = g := by
  unfold besideL
  rw [List.length_map, List.length_range]
theorem side_plus {g k a : Nat} {m : Int} {b : List Int} (s : Side g k b) (h1 : 0 ≤ m) (h2 : (k : Int) + m ≤ 3) : Side g 3 (List.zipWith (· + ·) b (besideL g a m)) := by
  have nn : ∀ x ∈ b, 0 ≤ x := fun x hx => (s.amt x hx).1
  refine ⟨?_, fun z hz => ?_, ?_⟩
  · rw [List.length_zipWith, s.len, beside_len, Nat.min_self]
  · obtain ⟨x, hx, y, hy, rfl⟩ := mem_zip hz
    have a1 := le_sum nn x hx
    have a2 := s.tot
    have a3 := beside_mem h1 y hy
    have a4 := nn x hx
    omega
  · rw [sum_zip (by rw [s.len, beside_len]), beside_sum h1]
    have a2 := s.tot
    split <;> omega
theorem side_beside {g a : Nat} {m : Int} (h1 : 0 ≤ m) (h2 : m ≤ 3) : Side g 3 (besideL g a m) := by
  refine ⟨beside_len _ _ _, fun x hx => ?_, ?_⟩
  · have := beside_mem h1 x hx
    omega
  · rw [beside_sum h1]
    split <;> omega
def wo (R : Rgn) (D : Addr) : Rgn := fun b => R b ∧ b ≠ D
theorem wo_on {R : Rgn} {D : Addr} {H : Hp} {o : HO} : On (wo R D) H (upd H D o) := fun b u hb e => by
  rw [upd_ne hb.2]
  exact e
theorem wo_rg {R : Rgn} {H : Hp} {d r D : Addr} {o : HO} (g : Rg R H d r) (e : H D = some o) : Rg (wo R D) H d r := ⟨fun z => g.nd z.1, fun z => g.nr z.1, fun p hp => ⟨g.new p hp, (ne_of_none e hp).symm⟩⟩
def spMarket : Sp := fun vs H Q _ => ∃ (R : Rgn) (d c r : Addr) (n g tr m : Nat), vs = [.ref d, .int (g : Int), .int (tr : Int), .int (m : Int)] ∧ Dk H d c r n ∧ n < 2 ^ 37 ∧ 0 < g ∧ g ≤ 100 ∧ tr ≤ 4 ∧ m ≤ 4 ∧ Rg R H d r ∧
  ∀ (H' : Hp) (v : V) (ts : List Trd), ts.length ≤ tr → (∀ t ∈ ts, TrdOk g m t) → Dat R H' v (mktD g ts) → Dk H' d c r (n + 100) → Kp d r H H' → Q v H'
def spAny : Sp := fun vs H Q _ => ∃ (R : Rgn) (d c r : Addr) (n : Nat), vs = [.ref d] ∧ Dk H d c r n ∧ n < 2 ^ 36 ∧ Rg R H d r ∧
  ∀ (H' : Hp) (v : V) (g : Nat) (ts : List Trd), MktOk g ts → Dat R H' v (mktD g ts) → Dk H' d c r (n + 101) → Kp d r H H' → Q v H'
def tyOf : PyData → String
  | .none => "NoneType"
  | .bool _ => "bool"
  | .int _ => "int"
  | .str _ => "str"
  | .list _ => "list"
  | .tuple _ => "tuple"
  | .dict _ => "dict"
def isTup : PyData → Bool
  | .tuple _ => true
  | _ => false
def isInt : PyData → Bool
  | .int _ => true
  | .bool _ => true
  | _ => false
def isBool : PyData → Bool
  | .bool _ => true
  | _ => false
theorem dat_ty {K : PySem.W.Frag} {R : Rgn} {H : Hp} {v : V} {d : PyData} (h : Dat R H v d) : TyX K H v (.type (tyOf d)) := by
  cases h with
  | non => exact .base .non
  | bl b => exact .base (.bl b)
  | int i => exact .base (.int i)
  | str x => exact .base (.str x)
  | tup ra e t => exact .base (.tup e)
  | lst ra e t => exact .base (.lst e)
  | emp ra e => exact .base (.dK e)
theorem kit_tup : ∀ d : PyData, kitB (tyOf d) "tuple" = some (isTup d)
  | .none => (by decide +kernel : kitB "NoneType" "tuple" = some false)
  | .bool _ => (by decide +kernel : kitB "bool" "tuple" = some false)
  | .int _ => (by decide +kernel : kitB "int" "tuple" = some false)
  | .str _ => (by decide +kernel : kitB "str" "tuple" = some false)
  | .list _ => (by decide +kernel : kitB "list" "tuple" = some false)
  | .tuple _ => (by decide +kernel : kitB "tuple" "tuple" = some true)
  | .dict _ => (by decide +kernel : kitB "dict" "tuple" = some false)
theorem kit_int : ∀ d : PyData, kitB (tyOf d) "int" = some (isInt d)
  | .none => (by decide +kernel : kitB "NoneType" "int" = some false)
  | .bool _ => (by decide +kernel : kitB "bool" "int" = some true)
  | .int _ => (by decide +kernel : kitB "int" "int" = some true)
  | .str _ => (by decide +kernel : kitB "str" "int" = some false)
  | .list _ => (by decide +kernel : kitB "list" "int" = some false)
  | .tuple _ => (by decide +kernel : kitB "tuple" "int" = some false)
  | .dict _ => (by decide +kernel : kitB "dict" "int" = some false)
theorem kit_bool : ∀ d : PyData, kitB (tyOf d) "bool" = some (isBool d)
  | .none => (by decide +kernel : kitB "NoneType" "bool" = some false)
  | .bool _ => (by decide +kernel : kitB "bool" "bool" = some true)
  | .int _ => (by decide +kernel : kitB "int" "bool" = some false)
  | .str _ => (by decide +kernel : kitB "str" "bool" = some false)
  | .list _ => (by decide +kernel : kitB "list" "bool" = some false)
  | .tuple _ => (by decide +kernel : kitB "tuple" "bool" = some false)
  | .dict _ => (by decide +kernel : kitB "dict" "bool" = some false)
theorem rd_isi {K : PySem.W.Frag} {R : Rgn} {H : Hp} {v : V} {d : PyData} {T : String} {b : Bool} {Q : VK} (h : Dat R H v d) (e : kitB (tyOf d) T = some b) (q : Q (.bl b) H) : rIsi K [v, .ty T] H Q :=
  ⟨v, .ty T, _, _, b, rfl, .ty T, dat_ty h, kit_ty e, q⟩
def whole : PyData → Bool
  | .int _ => true
  | _ => false
theorem whole_eq (d : PyData) : whole d = (isInt d && !isBool d) := by cases d <;> rfl
def nn : PyData → Bool
  | .int i => decide (0 ≤ i)
  | _ => false
def bagB (g : Int) : PyData → Bool
  | .tuple ds => decide ((ds.length : Int) = g) && ds.all nn
  | _ => false
theorem bagB_tup (g : Int) (ds : List PyData) : bagB g (.tuple ds) = (decide ((ds.length : Int) = g) && ds.all nn) := rfl
def pairB : PyData → Bool
  | .tuple ds => decide (ds.length = 2)
  | _ => false
def intsOf : PyData → List Int
  | .tuple ds => ds.map fun | .int i => i | _ => 0
  | _ => []
def tw (g : Int) : PyData → Option Str
  | .tuple [x, y] =>
    if (bagB g x && bagB g y) = true then
      (if ((intsOf x).any (fun i => decide (3 < i)) || (intsOf y).any (fun i => decide (3 < i))) = true then some ("amount" : Str) else if (decide (4 < (intsOf x).sum) || decide (4 < (intsOf y).sum)) = true then some ("total" : Str) else none)
    else some ("trade" : Str)
  | _ => some ("trade" : Str)
def wordV : Option Str → V
  | some w => .str w
  | none => .non
def scan (g : Int) : List PyData → Nat → PyData
  | [], _ => .none
  | t :: ts, k => match tw g t with
    | some w => .tuple [.int (k : Int), .str w]
    | none => scan g ts (k + 1)
def errD (w : Str) : PyData := .tuple [.none, .str w]
def mErr : PyData → PyData
  | .tuple [.int g, .tuple ts] => if 1 ≤ g ∧ g ≤ 4 then (if ts.length ≤ 4 then scan g ts 0 else errD "many") else errD "goods"
  | .tuple [.int g, _] => if 1 ≤ g ∧ g ≤ 4 then errD "trades" else errD "goods"
  | .tuple [_, _] => errD "goods"
  | _ => errD "market"
theorem bag_ints {g : Int} {d : PyData} (h : bagB g d = true) : ∃ ns : List Int, d = bagD ns ∧ (ns.length : Int) = g ∧ (∀ n ∈ ns, 0 ≤ n) ∧ intsOf d = ns := by
  cases d with
  | tuple ds =>
    unfold bagB at h
    rw [Bool.and_eq_true] at h
    have hl : (ds.length : Int) = g := of_decide_eq_true h.1
    have key : ∀ ds : List PyData, ds.all nn = true → ∃ ns : List Int, ds = ns.map PyData.int ∧ (∀ n ∈ ns, 0 ≤ n) := by
      intro ds
      induction ds with
      | nil => exact fun _ => ⟨[], rfl, fun _ z => (List.not_mem_nil z).elim⟩
      | cons d ds ih =>
        intro h
        rw [List.all_cons, Bool.and_eq_true] at h
        obtain ⟨ns, rfl, hn⟩ := ih h.2
        cases d with
        | int i =>
          refine ⟨i :: ns, rfl, fun n hn' => ?_⟩
          rcases List.mem_cons.mp hn' with rfl | hn'
          · exact of_decide_eq_true h.1
          · exact hn n hn'
        | _ => exact absurd h.1 Bool.false_ne_true
    obtain ⟨ns, rfl, hn⟩ := key ds h.2
    refine ⟨ns, rfl, by rw [List.length_map] at hl; exact hl, hn, ?_⟩
    show (ns.map PyData.int).map _ = ns
    rw [List.map_map]
    exact List.map_id _
  | _ => exact absurd h Bool.false_ne_true
def spWhole : Sp := fun vs H Q _ => ∃ (R : Rgn) (v : V) (d : PyData), vs = [v] ∧ Dat R H v d ∧ Q (.bl (whole d)) H
def spPair : Sp := fun vs H Q _ => ∃ (R : Rgn) (v : V) (d : PyData), vs = [v] ∧ Dat R H v d ∧ Q (.bl (pairB d)) H
def spIsBag : Sp := fun vs H Q _ => ∃ (R : Rgn) (v : V) (g : Int) (d : PyData), vs = [.int g, v] ∧ Dat R H v d ∧ wt d ≤ 1000000 ∧ ∀ H', Same H H' → Q (.bl (bagB g d)) H'
theorem take_map {α β : Type} {f : α → β} {l : List α} {i : Nat} {x : α} (h : l[i]? = some x) : (l.take (i + 1)).map f = (l.take i).map f ++ [f x] := by
  rw [List.take_add_one, h, List.map_append]
  rfl
def spFault : Sp := fun vs H Q _ => ∃ (R : Rgn) (v : V) (g : Int) (d : PyData), vs = [.int g, v] ∧ 1 ≤ g ∧ Dat R H v d ∧ wt d ≤ 1000000 ∧ ∀ H', Same H H' → Q (wordV (tw g d)) H'
theorem pair_shape {d : PyData} (h : pairB d = true) : ∃ x y, d = .tuple [x, y] := by
  cases d with
  | tuple ds =>
    have : ds.length = 2 := of_decide_eq_true h
    match ds, this with
    | [x, y], _ => exact ⟨x, y, rfl⟩
  | _ => exact absurd h Bool.false_ne_true
theorem not_pair {d : PyData} (h : pairB d = false) {x y : PyData} : d ≠ .tuple [x, y] := by
  rintro rfl
  exact absurd (show pairB (.tuple [x, y]) = true from rfl) (by rw [h]; exact Bool.false_ne_true)
theorem tw_not {g : Int} {d : PyData} (h : pairB d = false) : tw g d = some ("trade" : Str) := by
  unfold tw
  split
  · exact absurd rfl (not_pair h)
  · rfl
theorem tw_pair (g : Int) (x y : PyData) : tw g (.tuple [x, y]) = if (bagB g x && bagB g y) = true then
      (if ((intsOf x).any (fun i => decide (3 < i)) || (intsOf y).any (fun i => decide (3 < i))) = true then some ("amount" : Str) else if (decide (4 < (intsOf x).sum) || decide (4 < (intsOf y).sum)) = true then some ("total" : Str) else none)
    else some ("trade" : Str) := rfl
theorem max_any {ns : List Int} {m : Int} (h1 : m ∈ ns) (h2 : ∀ y ∈ ns, y ≤ m) : decide (3 < m) = ns.any (fun i => decide (3 < i)) := by
  by_cases h : 3 < m
  · rw [decide_eq_true h]
    exact (List.any_eq_true.mpr ⟨m, h1, decide_eq_true h⟩).symm
  · rw [decide_eq_false h]
    refine (List.any_eq_false.mpr fun y hy z => ?_).symm
    have := of_decide_eq_true z
    have := h2 y hy
    omega
def spErr : Sp := fun vs H Q _ => ∃ (R : Rgn) (v : V) (d : PyData), vs = [v] ∧ Dat R H v d ∧ wt d ≤ 1000000 ∧ (∀ p, H p = none → R p) ∧ ∀ (H' : Hp) (u : V), Same H H' → Dat R H' u (mErr d) → Q u H'
theorem err_not {d : PyData} (h : pairB d = false) : mErr d = errD "market" := by
  unfold mErr
  split
  · exact absurd rfl (not_pair h)
  · exact absurd rfl (not_pair h)
  · exact absurd rfl (not_pair h)
  · rfl
theorem err_goods {x y : PyData} (h : whole x = false) : mErr (.tuple [x, y]) = errD "goods" := by
  cases x with
  | int g => exact absurd (show true = false from h) (by decide)
  | _ => rfl
theorem err_range {g : Int} {y : PyData} (h : ¬ (1 ≤ g ∧ g ≤ 4)) : mErr (.tuple [.int g, y]) = errD "goods" := by
  cases y with
  | tuple ts => exact if_neg h
  | _ => exact if_neg h
theorem err_trades {g : Int} {y : PyData} (h : 1 ≤ g ∧ g ≤ 4) (hy : isTup y = false) : mErr (.tuple [.int g, y]) = errD "trades" := by
  cases y with
  | tuple ts => exact absurd (show true = false from hy) (by decide)
  | _ => exact if_pos h
theorem err_many {g : Int} {ts : List PyData} (h : 1 ≤ g ∧ g ≤ 4) (hl : ¬ ts.length ≤ 4) : mErr (.tuple [.int g, .tuple ts]) = errD "many" := by
  show (if 1 ≤ g ∧ g ≤ 4 then (if ts.length ≤ 4 then scan g ts 0 else errD "many") else errD "goods") = _
  rw [if_pos h, if_neg hl]
theorem err_scan {g : Int} {ts : List PyData} (h : 1 ≤ g ∧ g ≤ 4) (hl : ts.length ≤ 4) : mErr (.tuple [.int g, .tuple ts]) = scan g ts 0 := by
  show (if 1 ≤ g ∧ g ≤ 4 then (if ts.length ≤ 4 then scan g ts 0 else errD "many") else errD "goods") = _
  rw [if_pos h, if_pos hl]
theorem scan_cons (g : Int) (t : PyData) (ts : List PyData) (k : Nat) : scan g (t :: ts) k = match tw g t with
    | some w => .tuple [.int (k : Int), .str w]
    | none => scan g ts (k + 1) := rfl
theorem drop_at {α : Type} {l : List α} {i : Nat} {x : α} (h : l[i]? = some x) : l.drop i = x :: l.drop (i + 1) := by
  obtain ⟨hi, e⟩ := List.getElem?_eq_some_iff.mp h
  rw [List.drop_eq_getElem_cons hi, e]
theorem new_err {R : Rgn} {H : Hp} {p : Addr} (w : Str) (hp : H p = none) (r : R p) : Dat R (upd H p (.tup [.non, .str w])) (.ref p) (errD w) := .tup r upd_same (.cons .non (.cons (.str w) .nil))
def spIsBag2 : Sp := fun vs H Q _ => ∃ (R : Rgn) (v : V) (g : Int) (d : PyData), vs = [v, .int g] ∧ Dat R H v d ∧ wt d ≤ 1000000 ∧ ∀ H', Same H H' → Q (.bl (bagB g d)) H'
theorem all_take {ds : List PyData} {i : Nat} {x : PyData} (h : ds[i]? = some x) : (ds.take (i + 1)).all nn = ((ds.take i).all nn && nn x) := by
  rw [List.take_add_one, h, List.all_append]
  show (_ && (nn x && true)) = _
  rw [Bool.and_true]
def spFault2 : Sp := fun vs H Q _ => ∃ (R : Rgn) (v : V) (g : Int) (d : PyData), vs = [v, .int g] ∧ 1 ≤ g ∧ Dat R H v d ∧ wt d ≤ 1000000 ∧ ∀ H', Same H H' → Q (wordV (tw g d)) H'
theorem any_take {ns : List Int} {i : Nat} {x : Int} (h : ns[i]? = some x) : (ns.take (i + 1)).any (fun i => decide (3 < i)) = ((ns.take i).any (fun i => decide (3 < i)) || decide (3 < x)) := by
  rw [List.take_add_one, h, List.any_append]
  show (_ || (decide (3 < x) || false)) = _
  rw [Bool.or_false]
theorem tup_at0 {H : Hp} {a : Addr} {x y : V} {K : PySem.W.Frag} (e : H a = some (.tup [x, y])) : SqT K H a [x, y] := .inl (.inl e)
def oddD : List PyData := [.none, .bool true, .bool false, .int 0, .int 1, .int (-1), .int 2, .int 5, .str "", .str "a", .str "chain", .str "parting", .tuple [], .list [], .tuple [.int 0], .tuple [.int 0, .int 0], .tuple [.int 0, .bool true], .dict []]
theorem odd_ok : ∀ d ∈ oddD, Ok 100 1 d := by
  have key : oddD.all (fun d => fine d && decide (wt d ≤ 100) && decide (d.depth ≤ 1)) = true := by decide +kernel
  intro d hd
  have := List.all_eq_true.mp key d hd
  rw [Bool.and_eq_true, Bool.and_eq_true] at this
  exact ⟨this.1.1, of_decide_eq_true this.1.2, of_decide_eq_true this.2⟩
def spSpoil : Nat → Sp
  | 0 => fun _ _ _ _ => False
  | n + 1 => fun vs H Q _ => ∃ (R : Rgn) (d c r : Addr) (k : Nat) (v : V) (x : PyData) (S D : Nat), vs = [.ref d, v] ∧ Dk H d c r k ∧ k + 10 * n < 2 ^ 35 ∧ Rg R H d r ∧ Dat R H v x ∧ Ok S D x ∧ x.depth ≤ n ∧ S ≤ 100000 ∧
    ∀ (H' : Hp) (u : V) (y : PyData), Ok (2 * S + 100) (D + 1) y → Dat R H' u y → Dk H' d c r (k + 10 * (n + 1)) → Kp d r H H' → Q u H'
theorem own_false {x : Str} {st : Stmt} {ps : List Str} {k : Nat} (D : Df K mg x st)
    (hb : ∀ (kV doc pm : Value) (an : Option Addr) (cdv ct : Value) (us : List Value), us.length = ps.length → bindArgs (PySem.W.fnOf x x (defArgs st) (defBody st) (defScope st) .none kV doc pm an cdv ct) ⟨us, []⟩ = pure (ps.zip us)) :
    Own P w K mg base x k ps (fun _ _ _ _ => False) := by
  obtain ⟨f, fd, F, m⟩ := D.ex
  exact ⟨f, fd, ⟨fun _ _ _ _ h => h.elim, fun _ _ _ _ _ _ _ _ _ _ _ _ _ h => h.elim⟩, m, F.kp, F.binds hb⟩
theorem new_ne {H : Hp} {d c r p : Addr} {n : Nat} (dk : Dk H d c r n) (e : H p = none) : p ≠ d ∧ p ≠ r := ⟨(dk.nd e).1, (dk.nd e).2.1⟩
theorem spoil_odd {D : Ends} {σ : L2.St} {H : Hp} {R : Rgn} {d c r lo : Addr} {k S Dp : Nat} {v : V} {x : PyData} {os : List V} (h0 : σ[0]? = some (some (.ref d))) (h1 : σ[1]? = some (some v)) (h2 : σ[2]? = some (some (.ref lo)))
    (dk : Dk H d c r k) (hk : k < 2 ^ 36) (rg : Rg R H d r) (dt : Dat R H v x) (ok : Ok S Dp x) (elo : H lo = some (.lst os)) (dos : Dats R H os oddD)
    (q : ∀ (H' : Hp) (u : V) (y : PyData), Ok (2 * S + 100) (Dp + 1) y → Dat R H' u y → Dk H' d c r (k + 1) → Kp d r H H' → D.rt u H') :
    tRet (tCall spOne [] E0 (tCons (tVar 0) (tCons (tOp rCat (tVar 2) (tLst (tCons (tLst (tCons (tVar 1) tNil)) (tCons (tTup (tCons (tVar 1) tNil)) (tCons (tVar 1) tNil))))) tNil))) D σ H := by
  refine ⟨_, h0, _, h2, _, h1, (by show 1 ≤ sizeLine; decide), fun p1 z1 => ?_⟩
  have s1 := same_upd (o := .lst [v]) z1
  refine ⟨_, h1, (by show 1 ≤ sizeLine; decide), fun p2 z2 => ?_⟩
  have s2 := same_upd (o := .tup [v]) z2
  refine ⟨_, h1, (by show 3 ≤ sizeLine; decide), fun p3 z3 => ?_⟩
  have s3 := same_upd (o := .lst [V.ref p1, V.ref p2, v]) z3
  have s13 := (s1.trans s2).trans s3
  have los := dos.length
  refine ⟨lo, p3, _, _, rfl, rfl, s13 _ _ elo, upd_same, by rw [los]; show 18 + 3 ≤ sizeLine; decide, fun p4 z4 => ?_⟩
  have s4 := same_upd (o := .lst (os ++ [V.ref p1, V.ref p2, v])) z4
  have s14 := s13.trans s4
  have d1 : Dat R (upd (upd (upd (upd H p1 (.lst [v])) p2 (.tup [v])) p3 (.lst [V.ref p1, V.ref p2, v])) p4 (.lst (os ++ [V.ref p1, V.ref p2, v]))) (.ref p1) (.list [x]) :=
    (Dat.newL z1 (rg.new _ z1) (.cons dt .nil)).same ((s2.trans s3).trans s4)
  have d2 : Dat R (upd (upd (upd (upd H p1 (.lst [v])) p2 (.tup [v])) p3 (.lst [V.ref p1, V.ref p2, v])) p4 (.lst (os ++ [V.ref p1, V.ref p2, v]))) (.ref p2) (.tuple [x]) :=
    (Dat.newT z2 ((rg.same s1).new _ z2) (.cons (dt.same s1) .nil)).same (s3.trans s4)
  have all := (dos.same s14).append (.cons d1 (.cons d2 (.cons (dt.same s14) .nil)))
  have f4 := s13.free z4
  have n4 := new_ne dk f4
  have rg4 := rg.same s14
  have dk4 := dk.same s14
  have e4 : upd (upd (upd (upd H p1 (.lst [v])) p2 (.tup [v])) p3 (.lst [V.ref p1, V.ref p2, v])) p4 (.lst (os ++ [V.ref p1, V.ref p2, v])) p4 = some (.lst (os ++ [V.ref p1, V.ref p2, v])) := upd_same
  generalize upd (upd (upd (upd H p1 (.lst [v])) p2 (.tup [v])) p3 (.lst [V.ref p1, V.ref p2, v])) p4 (.lst (os ++ [V.ref p1, V.ref p2, v])) = H4 at *
  have hlen : (os ++ [V.ref p1, V.ref p2, v]).length = 21 := by rw [List.length_append, los]; rfl
  refine ⟨d, c, r, p4, k, _, rfl, dk4, by omega, e4, n4.1, n4.2, by omega, by omega, fun H5 j u hj dk5 k5 => ?_⟩
  obtain ⟨y, hy, dty⟩ := all.get' hj
  refine q H5 u y ?_ (dty.on (rg4.on k5)) dk5 ((Kp.of s14).trans k5)
  have hm := List.mem_of_getElem? hy
  rcases List.mem_append.mp hm with hm | hm
  · exact (odd_ok y hm).mono (by omega) (by omega)
  · have o1 : Oks (S + 2) Dp [x] := Oks.one ok
    rcases List.mem_cons.mp hm with rfl | hm
    · exact o1.list.mono (by omega) (by omega)
    · rcases List.mem_cons.mp hm with rfl | hm
      · exact o1.tuple.mono (by omega) (by omega)
      · rw [List.mem_singleton.mp hm]
        exact ok.mono (by omega) (by omega)
theorem sIx_lo (n j : Nat) (h : j ≤ n) : HT.sIx n 0 (some (j : Int)) = j := by
  rw [show HT.sIx n 0 (some (j : Int)) = min j n from HT.sIx_nat n 0 j]
  omega
theorem sIx_hi (n j : Nat) (h : j ≤ n) : HT.sIx n n (some (j : Int)) = j := by
  rw [show HT.sIx n n (some (j : Int)) = min j n from HT.sIx_nat n n j]
  omega
theorem cut_to (xs : List V) (j : Nat) (h : j ≤ xs.length) : cutV xs none (some (j : Int)) = xs.take j := by
  unfold cutV
  rw [HT.sIx_none, sIx_hi _ _ h, List.drop_zero, Nat.sub_zero]
theorem cut_from (xs : List V) (j : Nat) (h : j ≤ xs.length) : cutV xs (some (j : Int)) none = xs.drop j := by
  unfold cutV
  rw [HT.sIx_none, sIx_lo _ _ h]
  refine List.take_of_length_le ?_
  rw [List.length_drop]
  exact Nat.le_refl _
theorem rd_to {K : PySem.W.Frag} {R : Rgn} {H : Hp} {a : Addr} {xs : List V} {ds : List PyData} {j : Nat} {Q : VK} (ra : R a) (e : H a = some (.tup xs)) (t : Dats R H xs ds) (hj : j ≤ xs.length) (new : ∀ p, H p = none → R p)
    (q : ∀ (H' : Hp) (p : Addr), Same H H' → R p → H' p = some (.tup (xs.take j)) → Q (.ref p) H') : rSlA K (.ref a) none (some (j : Int)) H Q := by
  refine ⟨a, xs, rfl, .inl (.inl e), fun h => ?_, fun h p hp => ?_⟩
  · have : j = xs.length := by
      have := h.2
      rw [sIx_hi _ _ hj] at this
      exact this
    refine q H a (Same.refl H) ra ?_
    rw [e, this, List.take_length]
  · rw [cut_to xs j hj]
    exact q _ p (same_upd hp) (new p hp) upd_same
theorem rd_from {K : PySem.W.Frag} {R : Rgn} {H : Hp} {a : Addr} {xs : List V} {ds : List PyData} {j : Nat} {Q : VK} (ra : R a) (e : H a = some (.tup xs)) (t : Dats R H xs ds) (hj : j ≤ xs.length) (new : ∀ p, H p = none → R p)
    (q : ∀ (H' : Hp) (p : Addr), Same H H' → R p → H' p = some (.tup (xs.drop j)) → Q (.ref p) H') : rSlA K (.ref a) (some (j : Int)) none H Q := by
  refine ⟨a, xs, rfl, .inl (.inl e), fun h => ?_, fun h p hp => ?_⟩
  · have : j = 0 := by
      have := h.1
      rw [sIx_lo _ _ hj] at this
      exact this
    refine q H a (Same.refl H) ra ?_
    rw [e, this, List.drop_zero]
  · rw [cut_from xs j hj]
    exact q _ p (same_upd hp) (new p hp) upd_same
theorem rd_cat {K : PySem.W.Frag} {R : Rgn} {H : Hp} {a b : Addr} {xs ys : List V} {Q : VK} (ra : R a) (rb : R b) (ea : H a = some (.tup xs)) (eb : H b = some (.tup ys)) (hz : xs.length + ys.length ≤ 1000000) (new : ∀ p, H p = none → R p)
    (q : ∀ (H' : Hp) (p : Addr), Same H H' → R p → H' p = some (.tup (xs ++ ys)) → Q (.ref p) H') : rCatA K (.ref a) (.ref b) H Q := by
  refine ⟨a, b, xs, ys, rfl, rfl, .inl (.inl ea), .inl (.inl eb), by rw [sizeLine_eq]; omega, fun h => ?_, fun h h2 => ?_, fun h h2 p hp => ?_⟩
  · exact q H b (Same.refl H) rb (by rw [eb, h]; rfl)
  · exact q H a (Same.refl H) ra (by rw [ea, h2, List.append_nil])
  · exact q _ p (same_upd hp) (new p hp) upd_same
theorem np {σ : L2.St} {H : Hp} {Q : Option Int → Hp → Prop} (h : Q none H) : tNoPart σ H Q := h
theorem spoil_mid {ds : List PyData} {j : Nat} {y x : PyData} {S D : Nat} (ok : Ok S D (.tuple ds)) (hj : ds[j]? = some x) (oky : Ok (2 * wt x + 100) (D - 1 + 1) y) (hD : 1 ≤ D) : Ok (2 * S + 100) (D + 1) (.tuple (ds.take j ++ [y] ++ ds.drop (j + 1))) := by
  have h1 := ok.items
  have hw : 4 + wts ds ≤ S := ok.wt
  have hx : wt x + 2 ≤ wts ds := wts_mem (List.mem_of_getElem? hj)
  have hs := wts_take ds j
  rw [drop_at2 hj, wts] at hs
  have oks : Oks (2 * S + 96) D (ds.take j ++ [y] ++ ds.drop (j + 1)) := by
    refine ⟨fun d hd => ?_, ?_, fun d hd => ?_⟩
    · rcases List.mem_append.mp hd with hd | hd
      · rcases List.mem_append.mp hd with hd | hd
        · exact h1.fi d (List.mem_of_mem_take hd)
        · rw [List.mem_singleton.mp hd]
          exact oky.fi
      · exact h1.fi d (List.mem_of_mem_drop hd)
    · rw [wts_append, wts_append, wts, wts]
      have := oky.wt
      omega
    · rcases List.mem_append.mp hd with hd | hd
      · rcases List.mem_append.mp hd with hd | hd
        · have := h1.dp d (List.mem_of_mem_take hd)
          omega
        · rw [List.mem_singleton.mp hd]
          have := oky.dp
          omega
      · have := h1.dp d (List.mem_of_mem_drop hd)
        omega
  exact oks.tuple.mono (by omega) (by omega)
end
end Lb
set_option Elab.async false
set_option linter.all false
set_option maxRecDepth 100000
set_option maxHeartbeats 4000000
namespace Lb
open PySem PySem.Spec PyProof.Rows L2 RZ
/-! ### values of which only the size is known -/
def Vd (R : Rgn) (H : Hp) (S D : Nat) (v : V) : Prop := ∃ x, Dat R H v x ∧ Ok S D x
def Pk (R : Rgn) (H : Hp) (S D : Nat) (vs : List V) : Prop := ∃ ds, Dats R H vs ds ∧ Oks S D ds
structure Tp (R : Rgn) (H : Hp) (S D : Nat) (a : Addr) (xs : List V) : Prop where
  ra : R a
  at_ : H a = some (.tup xs)
  pk : Pk R H S D xs
section
variable {R : Rgn} {H H' : Hp} {S T D : Nat} {v : V} {a b p : Addr} {xs ys vs : List V} {K : PySem.W.Frag} {Q : VK}
theorem Vd.on (h : Vd R H S D v) (k : On R H H') : Vd R H' S D v := let ⟨x, d, o⟩ := h; ⟨x, d.on k, o⟩
theorem Vd.same (h : Vd R H S D v) (k : Same H H') : Vd R H' S D v := h.on (On.of k)
theorem Vd.mono {S' D' : Nat} (h : Vd R H S D v) (a : S ≤ S') (b : D ≤ D') : Vd R H S' D' v := let ⟨x, d, o⟩ := h; ⟨x, d, o.mono a b⟩
theorem Pk.on (h : Pk R H S D vs) (k : On R H H') : Pk R H' S D vs := let ⟨x, d, o⟩ := h; ⟨x, d.on k, o⟩
theorem Pk.same (h : Pk R H S D vs) (k : Same H H') : Pk R H' S D vs := h.on (On.of k)
theorem Pk.mono {S' D' : Nat} (h : Pk R H S D vs) (a : S ≤ S') (b : D ≤ D') : Pk R H S' D' vs := let ⟨x, d, o⟩ := h; ⟨x, d, o.mono a b⟩
theorem Pk.nil : Pk R H 0 D [] := ⟨[], .nil, (fun _ z => (List.not_mem_nil z).elim), Nat.le_refl _, (fun _ z => (List.not_mem_nil z).elim)⟩
theorem Pk.cons (h : Vd R H S D v) (t : Pk R H T D vs) : Pk R H (S + 2 + T) D (v :: vs) := by
  obtain ⟨x, d, o⟩ := h
  obtain ⟨ds, ts, os⟩ := t
  refine ⟨x :: ds, .cons d ts, ?_⟩
  have := (Oks.one o).append os
  exact this
theorem Pk.append (h : Pk R H S D xs) (t : Pk R H T D ys) : Pk R H (S + T) D (xs ++ ys) := by
  obtain ⟨ds, d, o⟩ := h
  obtain ⟨es, e, o2⟩ := t
  exact ⟨ds ++ es, d.append e, o.append o2⟩
theorem Pk.take (h : Pk R H S D xs) (n : Nat) : Pk R H S D (xs.take n) := let ⟨ds, d, o⟩ := h; ⟨ds.take n, d.take n, o.take n⟩
theorem Pk.drop (h : Pk R H S D xs) (n : Nat) : Pk R H S D (xs.drop n) := let ⟨ds, d, o⟩ := h; ⟨ds.drop n, d.drop n, o.drop n⟩
theorem Pk.len (h : Pk R H S D xs) : 2 * xs.length ≤ S := by
  obtain ⟨ds, d, o⟩ := h
  rw [d.length]
  exact Nat.le_trans (wts_len ds) o.wt
theorem Pk.rep (h : Pk R H S D xs) : ∀ n : Nat, Pk R H (n * S) D (List.replicate n xs).flatten
  | 0 => by
    rw [Nat.zero_mul]
    exact Pk.nil
  | n + 1 => by
    rw [List.replicate_succ, List.flatten_cons, Nat.succ_mul, Nat.add_comm]
    exact h.append (Pk.rep h n)
theorem Pk.get (h : Pk R H S D xs) {i : Nat} (e : xs[i]? = some v) : Vd R H S D v := by
  obtain ⟨ds, d, o⟩ := h
  obtain ⟨x, hx, dx⟩ := d.get' e
  exact ⟨x, dx, o.mem (List.mem_of_getElem? hx)⟩
theorem Vd.int (i : Int) (h : decide ((PyData.int i).shown.length ≤ 12) = true) (h2 : decide (i.natAbs.log2 < 1920) = true) : Vd R H 12 D (.int i) := ⟨.int i, .int i, h2, of_decide_eq_true h, by rw [PyData.depth]; exact Nat.zero_le _⟩
theorem Vd.bl (b : Bool) : Vd R H 12 D (.bl b) := ⟨.bool b, .bl b, rfl, by show 5 ≤ 12; decide, by rw [PyData.depth]; exact Nat.zero_le _⟩
theorem Vd.non : Vd R H 12 D .non := ⟨.none, .non, rfl, by show 4 ≤ 12; decide, by rw [PyData.depth]; exact Nat.zero_le _⟩
theorem Vd.str (x : Str) (h : decide ((reprText x).length ≤ 12) = true) : Vd R H 12 D (.str x) := ⟨.str x, .str x, rfl, of_decide_eq_true h, by rw [PyData.depth]; exact Nat.zero_le _⟩
theorem Vd.nat {g : Nat} (h : g ≤ 9) : Vd R H 12 D (.int (g : Int)) := by
  match g, h with
  | 0, _ | 1, _ | 2, _ | 3, _ | 4, _ | 5, _ | 6, _ | 7, _ | 8, _ | 9, _ => exact Vd.int _ (by decide +kernel) (by decide +kernel)
theorem Tp.val (t : Tp R H S D a xs) : Vd R H (S + 4) (D + 1) (.ref a) := by
  obtain ⟨ds, d, o⟩ := t.pk
  exact ⟨.tuple ds, .tup t.ra t.at_ d, o.tuple⟩
theorem Tp.on (t : Tp R H S D a xs) (k : On R H H') : Tp R H' S D a xs := ⟨t.ra, k _ _ t.ra t.at_, t.pk.on k⟩
theorem Tp.same (t : Tp R H S D a xs) (k : Same H H') : Tp R H' S D a xs := t.on (On.of k)
theorem Tp.new (h : Pk R H S D xs) (n : H p = none) (r : R p) : Tp R (upd H p (.tup xs)) S D p xs := ⟨r, upd_same, h.same (same_upd n)⟩
theorem rdT_cat (ta : Tp R H S D a xs) (tb : Tp R H T D b ys) (hz : S + T ≤ 1000000) (new : ∀ p, H p = none → R p) (q : ∀ (H' : Hp) (p : Addr), Same H H' → Tp R H' (S + T) D p (xs ++ ys) → Q (.ref p) H') : rCatA K (.ref a) (.ref b) H Q := by
  have l1 := ta.pk.len
  have l2 := tb.pk.len
  exact rd_cat ta.ra tb.ra ta.at_ tb.at_ (by omega) new fun H' p s r e => q H' p s ⟨r, e, (ta.pk.append tb.pk).same s⟩
theorem rdT_rep {k : Nat} (ta : Tp R H S D a xs) (hne : xs ≠ []) (hk : k ≤ 100) (hz : S ≤ 1000) (new : ∀ p, H p = none → R p) (q : ∀ (H' : Hp) (p : Addr), Same H H' → Tp R H' (k * S) D p (List.replicate k xs).flatten → Q (.ref p) H') : rRepA K (.ref a) (.int (k : Int)) H Q := by
  have l1 := ta.pk.len
  refine ⟨a, (k : Int), xs, rfl, rfl, .inl (.inl ta.at_), by omega, by omega, by omega, hne, fun h => ?_, fun h p hp => ?_⟩
  · have hk1 : k = 1 := by omega
    subst hk1
    have e1 : (List.replicate 1 xs).flatten = xs := by simp
    refine q H a (Same.refl H) ⟨ta.ra, by rw [e1]; exact ta.at_, ta.pk.rep 1⟩
  · rw [Int.toNat_natCast]
    exact q _ p (same_upd hp) (Tp.new (ta.pk.rep k) hp (new p hp))
theorem rdT_to {j : Nat} (ta : Tp R H S D a xs) (hj : j ≤ xs.length) (new : ∀ p, H p = none → R p) (q : ∀ (H' : Hp) (p : Addr), Same H H' → Tp R H' S D p (xs.take j) → Q (.ref p) H') : rSlA K (.ref a) none (some (j : Int)) H Q := by
  obtain ⟨ds, d, o⟩ := id ta.pk
  exact rd_to ta.ra ta.at_ d hj new fun H' p s r e => q H' p s ⟨r, e, (ta.pk.take j).same s⟩
theorem rdT_from {j : Nat} (ta : Tp R H S D a xs) (hj : j ≤ xs.length) (new : ∀ p, H p = none → R p) (q : ∀ (H' : Hp) (p : Addr), Same H H' → Tp R H' S D p (xs.drop j) → Q (.ref p) H') : rSlA K (.ref a) (some (j : Int)) none H Q := by
  obtain ⟨ds, d, o⟩ := id ta.pk
  exact rd_from ta.ra ta.at_ d hj new fun H' p s r e => q H' p s ⟨r, e, (ta.pk.drop j).same s⟩
theorem rdT_disp (pk : Pk R H S D xs) (hl : S ≤ 1000000) (new : ∀ p, H p = none → R p) (q : ∀ (H' : Hp) (p : Addr), Same H H' → Tp R H' S D p xs → Q (.ref p) H') : xs.length ≤ sizeLine ∧ ∀ p, H p = none → Q (.ref p) (upd H p (.tup xs)) := by
  have := pk.len
  exact ⟨by rw [sizeLine_eq]; omega, fun p hp => q _ p (same_upd hp) (Tp.new pk hp (new p hp))⟩
theorem rdL_disp (pk : Pk R H S D xs) (hl : S ≤ 1000000) (q : ∀ (H' : Hp) (p : Addr), Same H H' → H p = none → H' p = some (.lst xs) → Pk R H' S D xs → Q (.ref p) H') : xs.length ≤ sizeLine ∧ ∀ p, H p = none → Q (.ref p) (upd H p (.lst xs)) := by
  have := pk.len
  exact ⟨by rw [sizeLine_eq]; omega, fun p hp => q _ p (same_upd hp) hp upd_same (pk.same (same_upd hp))⟩
end
/-! ### sizes of markets and of what is told -/
theorem wt_amt {x : Int} (h : 0 ≤ x ∧ x ≤ 3) : fine (.int x) = true ∧ wt (.int x) = 1 := by
  obtain ⟨n, rfl⟩ : ∃ n : Nat, x = (n : Int) := ⟨x.toNat, by omega⟩
  have : n ≤ 3 := by omega
  match n, this with
  | 0, _ | 1, _ | 2, _ | 3, _ => exact ⟨by decide +kernel, by decide +kernel⟩
theorem wts_bag : ∀ {b : List Int}, (∀ x ∈ b, 0 ≤ x ∧ x ≤ 3) → wts (b.map PyData.int) = 3 * b.length
  | [], _ => rfl
  | x :: b, h => by
    rw [List.map_cons, wts, (wt_amt (h x List.mem_cons_self)).2, wts_bag fun y hy => h y (List.mem_cons_of_mem _ hy), List.length_cons]
    omega
theorem bag_ok {g m : Nat} {b : List Int} (s : Side g m b) (hg : g ≤ 4) : Ok 16 1 (bagD b) := by
  refine ⟨(fines_iff _).mpr fun d hd => ?_, ?_, ?_⟩
  · obtain ⟨x, hx, rfl⟩ := List.mem_map.mp hd
    exact (wt_amt (s.amt x hx)).1
  · show 4 + wts (b.map PyData.int) ≤ 16
    rw [wts_bag s.amt, s.len]
    omega
  · rw [PyData.depth, depth_ints]
    exact Nat.le_refl _
theorem trd_ok {g m : Nat} {t : Trd} (h : TrdOk g m t) (hg : g ≤ 4) : Ok 40 2 (trdD t) :=
  ((Oks.one (bag_ok h.1 hg)).append (Oks.one (bag_ok h.2 hg))).tuple.mono (by omega) (by omega)
theorem trds_ok {g m : Nat} (hg : g ≤ 4) : ∀ {ts : List Trd}, (∀ t ∈ ts, TrdOk g m t) → Oks (42 * ts.length) 2 (ts.map trdD)
  | [], _ => ⟨(fun _ z => (List.not_mem_nil z).elim), Nat.le_refl _, (fun _ z => (List.not_mem_nil z).elim)⟩
  | t :: ts, h => by
    have h1 := trd_ok (h t List.mem_cons_self) hg
    have h2 := trds_ok hg (ts := ts) fun x hx => h x (List.mem_cons_of_mem _ hx)
    have := (Oks.one h1).append h2
    exact this.mono (by rw [List.length_cons]; omega) (Nat.le_refl _)
theorem word_ok (w : Str) (h : decide ((reprText w).length ≤ 20) = true) (i : PyData) (hi : Ok 12 0 i) : Ok 100 2 (.tuple [i, .str w]) := by
  have h2 : Ok 20 0 (.str w) := ⟨rfl, of_decide_eq_true h, by rw [PyData.depth]; exact Nat.le_refl _⟩
  exact ((Oks.one hi).append (Oks.one h2)).tuple.mono (by omega) (by omega)
theorem non_ok : Ok 12 0 .none := ⟨rfl, by show 4 ≤ 12; decide, by rw [PyData.depth]; exact Nat.le_refl _⟩
theorem nat_ok {g : Nat} (h : g ≤ 9) : Ok 12 0 (.int (g : Int)) := by
  refine ⟨?_, ?_, by rw [PyData.depth]; exact Nat.le_refl _⟩
  · match g, h with
    | 0, _ | 1, _ | 2, _ | 3, _ | 4, _ | 5, _ | 6, _ | 7, _ | 8, _ | 9, _ => decide +kernel
  · match g, h with
    | 0, _ | 1, _ | 2, _ | 3, _ | 4, _ | 5, _ | 6, _ | 7, _ | 8, _ | 9, _ => decide +kernel
theorem tw_ok {g : Int} {t : PyData} {w : Str} (h : tw g t = some w) : decide ((reprText w).length ≤ 20) = true := by
  unfold tw at h
  split at h
  · split at h
    · split at h
      · cases h
        decide +kernel
      · split at h
        · cases h
          decide +kernel
        · cases h
    · cases h
      decide +kernel
  · cases h
    decide +kernel
theorem scan_ok {g : Int} : ∀ {ts : List PyData} {k : Nat}, k + ts.length ≤ 9 → Ok 100 2 (scan g ts k)
  | [], k, _ => non_ok.mono (by omega) (by omega)
  | t :: ts, k, h => by
    rw [List.length_cons] at h
    rw [scan_cons]
    cases e : tw g t with
    | none => exact scan_ok (ts := ts) (by omega)
    | some w => exact word_ok w (tw_ok e) _ (nat_ok (by omega))
theorem err_ok (d : PyData) : Ok 100 2 (mErr d) := by
  have e : ∀ w : Str, decide ((reprText w).length ≤ 20) = true → Ok 100 2 (errD w) := fun w h => word_ok w h _ non_ok
  unfold mErr
  split
  · split
    · split
      · exact scan_ok (by omega)
      · exact e _ (by decide +kernel)
    · exact e _ (by decide +kernel)
  · split
    · exact e _ (by decide +kernel)
    · exact e _ (by decide +kernel)
  · exact e _ (by decide +kernel)
  · exact e _ (by decide +kernel)
end Lb
set_option Elab.async false
set_option linter.all false
set_option maxRecDepth 100000
set_option maxHeartbeats 4000000
namespace Lb
open PySem PySem.Spec PyProof.Rows L2 RZ
section
variable {P : Program} {w : World} {K : PySem.W.Frag} {mg : Str → Option Value} {base : Heap}
theorem upd_dk {H : Hp} {d c r L : Addr} {n : Nat} {o : HO} (dk : Dk H d c r n) (h1 : L ≠ d) (h2 : L ≠ r) (h3 : L ≠ c) : Dk (upd H L o) d c r n := by
  obtain ⟨t, cs, rs, g1, g2, g3, g4, g5, g6, g7, w1, w2, w3⟩ := dk
  exact ⟨t, cs, rs, g1, g2, g3, g4, g5, g6, g7, by rw [upd_ne h1.symm]; exact w1, by rw [upd_ne h3.symm]; exact w2, by rw [upd_ne h2.symm]; exact w3⟩
theorem upd_rg {R : Rgn} {H : Hp} {d r L : Addr} {u o : HO} (g : Rg R H d r) (e : H L = some u) : Rg R (upd H L o) d r := by
  refine ⟨g.nd, g.nr, fun p hp => g.new p ?_⟩
  by_cases h : p = L
  · rw [h, upd_same] at hp
    cases hp
  · rw [upd_ne h] at hp
    exact hp
theorem tcI {v : V} {σ : L2.St} {H : Hp} {Q : VK} (h : Q v H) : tC v σ H Q := h
def Sz : Nat → Nat
  | 0 => 3000
  | n + 1 => 2 * Sz n + 100
theorem Sz_le {m : Nat} (h : m ≤ 5) : Sz m ≤ 100000 := by
  match m, h with
  | 0, _ | 1, _ | 2, _ | 3, _ | 4, _ | 5, _ => decide
theorem spoil21 {H : Hp} {Q : VK} {E : XK} {vs : List V} {R : Rgn} {d c r : Addr} {k : Nat} {v : V} {x : PyData} {S D : Nat} (e : vs = [.ref d, v]) (dk : Dk H d c r k) (hk : k + 200 < 2 ^ 35) (rg : Rg R H d r) (dx : Dat R H v x) (ox : Ok S D x) (hd : D ≤ 20) (hS : S ≤ 100000)
    (q : ∀ (H' : Hp) (u : V) (y : PyData), Ok (2 * S + 100) (D + 1) y → Dat R H' u y → Dk H' d c r (k + 210) → Kp d r H H' → Q u H') : spSpoil 21 vs H Q E :=
  ⟨R, d, c, r, k, v, x, S, D, e, dk, hk, rg, dx, ox, Nat.le_trans ox.dp hd, hS, q⟩
theorem ne_same {u : Str} {H : Hp} {Q : Bool → Hp → Prop} (h : Q false H) : rNe (.str u) (.str u) H fun x H' => ∃ k, x = .bl k ∧ Q k H' := ⟨rfl, false, by simp, h⟩
theorem iteF' {A B : Prop} (h : B) : if false = true then A else B := h
def R0 (d r : Addr) : Rgn := fun b => b ≠ d ∧ b ≠ r
theorem rg0 {H : Hp} {d c r : Addr} {n : Nat} (dk : Dk H d c r n) : Rg (R0 d r) H d r := ⟨fun z => z.1 rfl, fun z => z.2 rfl, fun p e => ⟨(dk.nd e).1, (dk.nd e).2.1⟩⟩
def spLaw (K : PySem.W.Frag) : Sp := fun vs H Q _ => ∃ (a : Addr) (ns : List Int), vs = [.ref a] ∧ SqL K H a (ns.map V.int) ∧ ns.length ≤ 63 ∧ ∀ H', Q (.bl true) H'
end
end Lb
set_option Elab.async false
set_option linter.all false
set_option maxRecDepth 100000
set_option maxHeartbeats 4000000
namespace Lb
open PySem PySem.Spec PyProof.Rows L2 RZ
/-! ### what a step leaves -/
def geB (x y : List Int) : Bool := (List.zipWith (fun a b => decide (a ≥ b)) x y).all id
abbrev minusL (x y : List Int) : List Int := List.zipWith (· - ·) x y
abbrev plusL (x y : List Int) : List Int := List.zipWith (· + ·) x y
def exch (x t p : List Int) : Option (List Int) := if geB x t = true then some (plusL (minusL x t) p) else none
def behind (ts : List Trd) (x : List Int) (k : Nat) (b : Bool) : Option (List Int) :=
  match ts[k]? with
  | none => none
  | some t => if b = true then exch x t.2 t.1 else exch x t.1 t.2
def optD : Option (List Int) → PyData
  | none => .none
  | some b => bagD b
theorem zipW_take {α : Type} {f : Int → Int → α} : ∀ {a b : List Int} {i : Nat} {x y : Int}, a[i]? = some x → b[i]? = some y → (List.zipWith f a b).take (i + 1) = (List.zipWith f a b).take i ++ [f x y]
  | x' :: a, y' :: b, 0, x, y, h1, h2 => by
    have e1 : x' = x := Option.some.inj h1
    have e2 : y' = y := Option.some.inj h2
    rw [e1, e2]
    rfl
  | x' :: a, y' :: b, i + 1, x, y, h1, h2 => by
    rw [List.zipWith_cons_cons, List.take_succ_cons, List.take_succ_cons, zipW_take (i := i) (x := x) (y := y) h1 h2]
    rfl
theorem zipW_at {f : Int → Int → Int} {a b : List Int} {i : Nat} {x y : Int} (h1 : a[i]? = some x) (h2 : b[i]? = some y) : (List.zipWith f a b)[i]? = some (f x y) := by
  rw [List.getElem?_zipWith, h1, h2]
theorem geB_cons (a b : Int) (x y : List Int) : geB (a :: x) (b :: y) = (decide (a ≥ b) && geB x y) := rfl
theorem geB_take : ∀ {x y : List Int} {i : Nat} {u v : Int}, x[i]? = some u → y[i]? = some v → geB (x.take (i + 1)) (y.take (i + 1)) = (geB (x.take i) (y.take i) && decide (u ≥ v))
  | a :: x, b :: y, 0, u, v, h1, h2 => by
    have e1 : a = u := Option.some.inj h1
    have e2 : b = v := Option.some.inj h2
    subst e1 e2
    show (decide (a ≥ b) && true) = (true && decide (a ≥ b))
    rw [Bool.and_true, Bool.true_and]
  | a :: x, b :: y, i + 1, u, v, h1, h2 => by
    rw [List.take_succ_cons, List.take_succ_cons, geB_cons, geB_take (i := i) (u := u) (v := v) h1 h2, List.take_succ_cons, List.take_succ_cons, geB_cons, Bool.and_assoc]
/-! ### the promises of the steps' defs -/
def spHolds (K : PySem.W.Frag) : Sp := fun vs H Q _ => ∃ (a b : Addr) (x y : List Int), vs = [.ref a, .ref b] ∧ SqT K H a (x.map V.int) ∧ SqT K H b (y.map V.int) ∧ x.length = y.length ∧ x.length ≤ 1000 ∧ ∀ H', Same H H' → Q (.bl (geB x y)) H'
/-- a new bag, or None -/
def OptAt (H H' : Hp) (v : V) : Option (List Int) → Prop
  | none => v = .non
  | some b => ∃ p, v = .ref p ∧ H p = none ∧ H' p = some (.tup (b.map V.int))
def spExch (K : PySem.W.Frag) : Sp := fun vs H Q _ => ∃ (a b c : Addr) (x y z : List Int), vs = [.ref a, .ref b, .ref c] ∧ SqT K H a (x.map V.int) ∧ SqT K H b (y.map V.int) ∧ SqT K H c (z.map V.int) ∧ x.length = y.length ∧ x.length = z.length ∧ x.length ≤ 1000 ∧
  ∀ (H' : Hp) (v : V), Same H H' → OptAt H H' v (exch x y z) → Q v H'
def spMinus (K : PySem.W.Frag) : Sp := fun vs H Q _ => ∃ (a b : Addr) (x y : List Int), vs = [.ref a, .ref b] ∧ SqT K H a (x.map V.int) ∧ SqT K H b (y.map V.int) ∧ x.length = y.length ∧ x.length ≤ 1000 ∧
  ∀ (H' : Hp) (p : Addr), Same H H' → H p = none → H' p = some (.tup ((minusL x y).map V.int)) → Q (.ref p) H'
/-- trades of so many goods -/
def Even (g : Nat) (ts : List Trd) : Prop := ∀ t ∈ ts, t.1.length = g ∧ t.2.length = g
theorem MktOk.even {g : Nat} {ts : List Trd} (m : MktOk g ts) : Even g ts := fun t ht => ⟨(m.all t ht).1.len, (m.all t ht).2.len⟩
theorem exch_len {x t p b : List Int} (h1 : x.length = t.length) (h2 : x.length = p.length) (e : exch x t p = some b) : b.length = x.length := by
  unfold exch at e
  split at e
  · cases e
    rw [List.length_zipWith, List.length_zipWith]
    omega
  · cases e
theorem behind_len {g : Nat} {ts : List Trd} {x b : List Int} {k : Nat} {c : Bool} (hE : Even g ts) (hx : x.length = g) (e : behind ts x k c = some b) : b.length = g := by
  unfold behind at e
  split at e
  · cases e
  · rename_i t ht
    obtain ⟨h1, h2⟩ := hE t (List.mem_of_getElem? ht)
    split at e
    · rw [exch_len (by omega) (by omega) e, hx]
    · rw [exch_len (by omega) (by omega) e, hx]
def stepD (k : Nat) (b : Bool) : PyData := .tuple [.int (k : Int), .bool b]
/-- the market, the stock, the step: all plain data -/
def spAfter : Sp := fun vs H Q _ => ∃ (R : Rgn) (m s t : V) (g : Nat) (ts : List Trd) (x : List Int) (k : Nat) (b : Bool), vs = [m, s, t] ∧ Dat R H m (mktD g ts) ∧ Dat R H s (bagD x) ∧ Dat R H t (stepD k b) ∧ Even g ts ∧ g ≤ 1000 ∧ x.length = g ∧ k < ts.length ∧ (∀ p, H p = none → R p) ∧
  ∀ (H' : Hp) (v : V), Same H H' → Dat R H' v (optD (behind ts x k b)) → Q v H'
/-- the law's own: the trades, the stock, the index, whether back -/
def spBehind : Sp := fun vs H Q _ => ∃ (R : Rgn) (m s : V) (g : Nat) (ts : List Trd) (x : List Int) (k : Nat) (b : Bool), vs = [m, s, .int (k : Int), .bl b] ∧ Dat R H m (.tuple (ts.map trdD)) ∧ Dat R H s (bagD x) ∧ Even g ts ∧ g ≤ 1000 ∧ x.length = g ∧ k < ts.length ∧ (∀ p, H p = none → R p) ∧
  ∀ (H' : Hp) (v : V), Same H H' → Dat R H' v (optD (behind ts x k b)) → Q v H'
theorem optAt_dat {R : Rgn} {H H' : Hp} {v : V} {o : Option (List Int)} (h : OptAt H H' v o) (new : ∀ p, H p = none → R p) : Dat R H' v (optD o) := by
  cases o with
  | none =>
    obtain rfl : v = .non := h
    exact .non
  | some b =>
    obtain ⟨p, rfl, n, e⟩ := h
    exact Dat.mkBag (new p n) e
/-- the parts of a pair that is plain data -/
theorem Dat.pair {R : Rgn} {H : Hp} {v : V} {x y : PyData} (h : Dat R H v (.tuple [x, y])) : ∃ a u w, v = .ref a ∧ R a ∧ H a = some (.tup [u, w]) ∧ Dat R H u x ∧ Dat R H w y := by
  cases h with
  | tup ra e t =>
    cases t with
    | cons h1 t =>
      cases t with
      | cons h2 t =>
        cases t
        exact ⟨_, _, _, rfl, ra, e, h1, h2⟩
theorem Dat.tupI {R : Rgn} {H : Hp} {v : V} {ds : List PyData} (h : Dat R H v (.tuple ds)) : ∃ a xs, v = .ref a ∧ R a ∧ H a = some (.tup xs) ∧ Dats R H xs ds := by
  cases h with
  | tup ra e t => exact ⟨_, _, rfl, ra, e, t⟩
theorem Dat.intI {R : Rgn} {H : Hp} {v : V} {i : Int} (h : Dat R H v (.int i)) : v = .int i := by
  cases h
  rfl
theorem Dat.blI {R : Rgn} {H : Hp} {v : V} {b : Bool} (h : Dat R H v (.bool b)) : v = .bl b := by
  cases h
  rfl
theorem Dat.nonI {R : Rgn} {H : Hp} {v : V} (h : Dat R H v .none) : v = .non := by
  cases h
  rfl
/-- a bag drawn -/
def spBag : Sp := fun vs H Q _ => ∃ (d c r : Addr) (n g m : Nat), vs = [.ref d, .int (g : Int), .int (m : Int)] ∧ Dk H d c r n ∧ n < 2 ^ 38 ∧ g ≤ 1000 ∧ m ≤ 1000 ∧
  ∀ (H' : Hp) (p : Addr) (b : List Int), b.length = g → (∀ x ∈ b, 0 ≤ x ∧ x ≤ (m : Int)) → H p = none → H' p = some (.tup (b.map V.int)) → Dk H' d c r (n + g) → Kp d r H H' → Q (.ref p) H'
end Lb
set_option Elab.async false
set_option linter.all false
set_option maxRecDepth 100000
set_option maxHeartbeats 4000000
namespace Lb
open PySem PySem.Spec PyProof.Rows L2 RZ
/-! ### defs that may raise -/
structure OwnX (P : Program) (w : World) (K : PySem.W.Frag) (mg : Str → Option Value) (base : Heap) (x : Str) (k : Nat) (ps : List Str) (sp : Sp) : Prop where
  ex : ∃ (f : Addr) (fd : FuncData), FnOk P w K mg base (L2.CX P w) k f fd ps sp ∧ mg x = some (.ref f) ∧ PySem.W.keepIn K (.ref f) = true ∧ Binds K fd ps []
section
variable {P : Program} {w : World} {K : PySem.W.Frag} {mg : Str → Option Value} {base : Heap}
theorem ownX_of {x : Str} {st : Stmt} {N ps : List Str} {k : Nat} {sp : Sp} (D : Df K mg x st) (S : FnScope N ps (defScope st))
    (hb : ∀ (kV doc pm : Value) (an : Option Addr) (cdv ct : Value) (us : List Value), us.length = ps.length → bindArgs (PySem.W.fnOf x x (defArgs st) (defBody st) (defScope st) .none kV doc pm an cdv ct) ⟨us, []⟩ = pure (ps.zip us))
    (len : ∀ vs H Q E, sp vs H Q E → vs.length = ps.length)
    (hbody : ∀ (f : Addr) (cdv : Value) (A : Around) (outer : List Env) (s : Shared) (H : Hp) (vs : List V) (Q : VK) (E : XK), Room k (A.deeper (envOfC x (defScope st) s.heap.objs.size f cdv)) → sp vs H Q E →
      ∃ t, PSs (cxOf (L2.CX P w) P w K mg base N x (defScope st) f cdv A outer s H E) (defBody st) t ∧ t { nx := fun _ H' => Q .non H', rt := Q } (start N vs) H) : OwnX P w K mg base x (k + 1) ps sp := by
  obtain ⟨f, fd, F, m⟩ := D.ex
  exact ⟨f, fd, F.okX S len (hbody f), m, F.kp, F.binds hb⟩
/-! ### an error class of one field -/
/-- what __init__ leaves of a new error -/
def spIni (C : Addr) (fld : Str) : Sp := fun vs H Q _ => ∃ (a : Addr) (v : V), vs = [.ref a, v] ∧ H a = some (exo a C none) ∧ ∀ dx, H dx = none → dx ≠ a → Q .non (upd (upd H dx (exd dx [(fld, v)])) a (exo a C (some dx)))
structure Err1 (P : Program) (w : World) (K : PySem.W.Frag) (mg : Str → Option Value) (base : Heap) (x fld : Str) (C : Addr) : Prop where
  gC : mg x = some (.ref C)
  ox : OexC K C
  xf : XfC K C
  no : PySem.W.findIn K (.ref C) fld = some none
  te : PySem.W.exmOne K (.ref C) (.ref C) = some true
  ini : ∃ (fI : Addr) (fd : FuncData), PySem.W.findIn K (.ref C) "__init__" = some (some (.ref fI)) ∧ PySem.W.typeIn K (.ref fI) = some (.type "function") ∧ FnOk P w K mg base CX0 1 fI fd ["self", fld] (spIni C fld) ∧ Binds K fd ["self", fld] []
end
theorem pmk_err {X : Cx} {x fld : Str} {C : Addr} {e : Expr} {ta : TA} {p pos : Pos} (T : Err1 X.prog X.w X.K X.mg X.base x fld C) (hr : Room 2 X.A) (hg : Gl X x) (ha : PA X [e] ta)
    (hdb : (x == ("__debug__" : Str)) = false := by decide) (he : starEach [e] X.env = (false, eval e X.env) :: starEach [] X.env := by rfl) (hpl : (backTo pos (starEach [] X.env)).any (·.1) = false := by rfl) :
    PMk X (.Call (.Name x p) [e] [] pos) (tMkO C (spIni C fld) [] ta) := by
  obtain ⟨fI, fd, iC, tI, F1, hb⟩ := T.ini
  exact pmk_oex T.ox iC tI F1 hr hb .nil pass0 hg T.gC ha hdb he hpl
/-- what the raising of such an error asks -/
theorem err_in {C : Addr} {fld : Str} {v : V} {H1 : Hp} {Q : XK} (h : ∀ d, H1 d = none → Q (.ref C) (some d) (upd H1 d (.xd [(fld, v)]))) :
    [v].length ≤ 1000 ∧ ∀ a, H1 a = none → spIni C fld (.ref a :: ([v] ++ [])) (upd H1 a (exo a C none)) (fun u H2 => u = .non ∧ ∃ (d : Addr) (fs : List (Str × V)), H2 a = some (exo a C (some d)) ∧ H2 d = some (exd d fs) ∧ H1 d = none ∧ Q (.ref C) (some d) (upd (del H2 a) d (.xd fs))) (fun _ _ _ => False) := by
  refine ⟨by show 1 ≤ 1000; omega, fun a ha => ⟨a, v, rfl, upd_same, fun dx hd ne => ⟨rfl, dx, [(fld, v)], upd_same, ?_, ?_, ?_⟩⟩⟩
  · rw [upd_ne ne, upd_same]
  · rw [upd_ne ne] at hd
    exact hd
  · have e : upd (del (upd (upd (upd H1 a (exo a C none)) dx (exd dx [(fld, v)])) a (exo a C (some dx))) a) dx (.xd [(fld, v)]) = upd H1 dx (.xd [(fld, v)]) := by
      funext b
      by_cases h1 : b = dx
      · rw [h1, upd_same, upd_same]
      · rw [upd_ne h1, upd_ne h1]
        by_cases h2 : b = a
        · rw [h2, del_same, ha]
        · rw [del_ne h2, upd_ne h2, upd_ne h1, upd_ne h2]
    rw [e]
    rw [upd_ne ne] at hd
    exact h dx hd
/-! ### lambdas -/
theorem takes_len {X : Cx} {W : WX} (t : Takes X W) : Takes X (fun c d σ H => σ.length = X.N.length → W c d σ H) := fun u s' ⟨a, B, sI, pins, σ, H, cls, d, e, I, nb, up, sky, na, os, ag, w⟩ =>
  t u s' ⟨a, B, sI, pins, σ, H, cls, d, e, I, nb, up, sky, na, os, ag, w I.len⟩
mutual
theorem Dat.extN {R : Rgn} {H H' : Hp} (k : LamX.ExtN H H') : ∀ {v : V} {d : PyData}, Dat R H v d → Dat R H' v d
  | _, _, .non => .non
  | _, _, .bl b => .bl b
  | _, _, .int i => .int i
  | _, _, .str x => .str x
  | _, _, .tup ra e h => .tup ra (k _ _ e fun _ z => nomatch z) (Dats.extN k h)
  | _, _, .lst ra e h => .lst ra (k _ _ e fun _ z => nomatch z) (Dats.extN k h)
  | _, _, .emp ra e => .emp ra (k _ _ e fun _ z => nomatch z)
theorem Dats.extN {R : Rgn} {H H' : Hp} (k : LamX.ExtN H H') : ∀ {v : List V} {d : List PyData}, Dats R H v d → Dats R H' v d
  | _, _, .nil => .nil
  | _, _, .cons h t => .cons (Dat.extN k h) (Dats.extN k t)
end
theorem Dk.extN {H H' : Hp} {d c r : Addr} {n : Nat} (h : Dk H d c r n) (k : LamX.ExtN H H') : Dk H' d c r n := by
  obtain ⟨t, cs, rs, g1, g2, g3, g4, g5, g6, g7, w1, w2, w3⟩ := h
  exact ⟨t, cs, rs, g1, g2, g3, g4, g5, g6, g7, k _ _ w1 (fun _ z => nomatch z), k _ _ w2 (fun _ z => nomatch z), k _ _ w3 (fun _ z => nomatch z)⟩
theorem extN_free {H H' : Hp} (k : LamX.ExtN H H') (T : ∀ b ps, H b = some (.tbl ps) → ∃ ps', H' b = some (.tbl ps')) {p : Addr} (e : H' p = none) : H p = none := by
  cases h : H p with
  | none => rfl
  | some o =>
    by_cases ht : ∃ ps, o = .tbl ps
    · obtain ⟨ps, rfl⟩ := ht
      obtain ⟨ps', e'⟩ := T _ _ h
      rw [e'] at e
      cases e
    · rw [k _ _ h fun ps z => ht ⟨ps, z⟩] at e
      cases e
theorem tabs_kp {T : List (Addr × Str)} {H H' : Hp} {d c r : Addr} {n : Nat} (t : LamX.Tabs T H) (dk : Dk H d c r n) (k : Kp d r H H') : LamX.Tabs T H' := by
  obtain ⟨_, _, _, _, _, _, _, _, _, _, w1, _, w3⟩ := dk
  have nd : ∀ {b : Addr} {o : HO}, H b = some o → (∀ xs, o ≠ .lst xs) → H' b = some o := fun {b o} e ne => by
    refine k b o (fun z => ?_) (fun z => ?_) e
    · rw [z, w1] at e
      exact ne _ (Option.some.inj e).symm
    · rw [z, w3] at e
      exact ne _ (Option.some.inj e).symm
  intro p hp
  obtain ⟨ps, h1, h2, h3⟩ := t p hp
  refine ⟨ps, nd h1 (fun _ z => nomatch z), h2, fun pos cv hc => ?_⟩
  obtain ⟨cc, e1, e2⟩ := h3 pos cv hc
  refine ⟨cc, e1, nd e2 fun xs z => ?_⟩
  unfold LamX.CodeO at z
  cases z
/-- what the catching def makes of the lambda -/
def TFound (C : Addr) (fld : Str) : (XK → Hp → VK → Prop) → Hp → VK → Prop := fun tl H Q =>
  tl (fun cls d H' => cls = .ref C ∧ ∃ (dd : Addr) (v : V), d = some dd ∧ H' dd = some (.xd [(fld, v)]) ∧ ∀ p, H' p = none → Q (.ref p) (upd H' p (.lst [.str "bad", v]))) H
    (fun v H' => [V.str "ok", v].length ≤ sizeLine ∧ ∀ p, H' p = none → Q (.ref p) (upd H' p (.lst [.str "ok", v])))
/-! ### walks -/
inductive Walk where
  | ok (l : List (List Int))
  | bad (i : Int)
def stepOf (n : Nat) : PyData → Option (Nat × Bool)
  | .tuple [.int k, .bool b] => if 0 ≤ k ∧ k < (n : Int) then some (k.toNat, b) else none
  | _ => none
def nxt (ts : List Trd) (cur : List Int) (d : PyData) : Option (List Int) :=
  match stepOf ts.length d with
  | none => none
  | some (k, b) => behind ts cur k b
def goW (ts : List Trd) : List PyData → List (List Int) → List Int → Nat → Walk
  | [], way, cur, _ => .ok (way ++ [cur])
  | d :: ds, way, cur, i => match nxt ts cur d with
    | none => .bad (i : Int)
    | some c => goW ts ds (way ++ [cur]) c (i + 1)
def walkM (ts : List Trd) (x : List Int) : PyData → Walk
  | .tuple ds => goW ts ds [] x 0
  | _ => .bad (-1)
def walkD : Walk → PyData
  | .ok l => .list [.str "ok", .tuple (l.map bagD)]
  | .bad i => .list [.str "bad", .int i]
theorem nxt_len {g : Nat} {ts : List Trd} {cur c : List Int} {d : PyData} (hE : Even g ts) (hc : cur.length = g) (e : nxt ts cur d = some c) : c.length = g := by
  unfold nxt at e
  split at e
  · cases e
  · exact behind_len hE hc e
def spIsStep : Sp := fun vs H Q _ => ∃ (R : Rgn) (m v : V) (g : Nat) (ts : List Trd) (d : PyData), vs = [m, v] ∧ Dat R H m (mktD g ts) ∧ Dat R H v d ∧ Q (.bl (stepOf ts.length d).isSome) H
def spIsStep2 : Sp := fun vs H Q _ => ∃ (R : Rgn) (v : V) (n : Nat) (d : PyData), vs = [v, .int (n : Int)] ∧ Dat R H v d ∧ Q (.bl (stepOf n d).isSome) H
theorem stepOf_some {n : Nat} {d : PyData} {k : Nat} {b : Bool} (h : stepOf n d = some (k, b)) : d = stepD k b ∧ k < n := by
  unfold stepOf at h
  split at h
  · rename_i k' b'
    split at h
    · rename_i hk
      cases h
      refine ⟨?_, by omega⟩
      show PyData.tuple [.int k', .bool b] = .tuple [.int ((k'.toNat : Nat) : Int), .bool b]
      rw [Int.toNat_of_nonneg hk.1]
    · cases h
  · cases h
/-- what the walk promises: the stocks, or the error with its index -/
def spWalk (C : Addr) : Sp := fun vs H Q E => ∃ (R : Rgn) (m s t : V) (g : Nat) (ts : List Trd) (x : List Int) (d : PyData), vs = [m, s, t] ∧ Dat R H m (mktD g ts) ∧ Dat R H s (bagD x) ∧ Dat R H t d ∧ wt d ≤ 1000000 ∧ Even g ts ∧ g ≤ 1000 ∧ x.length = g ∧ (∀ p, H p = none → R p) ∧
  (∀ (l : List (List Int)) (H' : Hp) (v : V), walkM ts x d = .ok l → Same H H' → Dat R H' v (.tuple (l.map bagD)) → Q v H') ∧
  ∀ (i : Int) (H' : Hp) (dd : Addr), walkM ts x d = .bad i → Same H H' → H dd = none → H' dd = some (.xd [("index", .int i)]) → E (.ref C) (some dd) H'
def spDue : Sp := fun vs H Q _ => ∃ (R : Rgn) (m s t : V) (g : Nat) (ts : List Trd) (x : List Int) (d : PyData), vs = [m, s, t] ∧ Dat R H m (mktD g ts) ∧ Dat R H s (bagD x) ∧ Dat R H t d ∧ wt d ≤ 1000000 ∧ Even g ts ∧ g ≤ 1000 ∧ x.length = g ∧ (∀ p, H p = none → R p) ∧
  ∀ (H' : Hp) (v : V), Same H H' → Dat R H' v (walkD (walkM ts x d)) → Q v H'
end Lb
set_option Elab.async false
set_option linter.all false
set_option maxRecDepth 100000
set_option maxHeartbeats 4000000
namespace Lb
open PySem PySem.Spec PyProof.Rows L2 RZ
/-! ### the law's own def, its code object told -/
theorem fnG_ofC {P : Program} {w : World} {K : PySem.W.Frag} {mg : Str → Option Value} {base : Heap} {k : Nat} {f c : Addr} {x : Str} {st : Stmt} {N ps : List Str} {sp : Sp} {oc : Value} {od an : Option Addr} {osl : Array (Option Value)} {kV doc pm ct : Value}
    (lk : K.lookup f = some ⟨oc, od, .func (PySem.W.fnOf x x (defArgs st) (defBody st) (defScope st) .none kV doc pm an (.ref c) ct), osl⟩) (hcd : PySem.W.codeIn K (.ref c) x = true) (S : FnScope N ps (defScope st)) (len : ∀ vs H Q E, sp vs H Q E → vs.length = ps.length)
    (hbody : ∀ (A : Around) (outer : List Env) (s : Shared) (H : Hp) (vs : List V) (Q : VK) (E : XK), (cxOf CX0 P w K mg base N x (defScope st) f (.ref c) A outer s H E).nox.A.guards = some [] → Room k (A.deeper (envOfC x (defScope st) s.heap.objs.size f (.ref c))) → sp vs H Q E →
      ∃ t, PSs (cxOf CX0 P w K mg base N x (defScope st) f (.ref c) A outer s H E).nox (defBody st) t ∧ t { nx := fun _ H' => Q .non H', rt := Q } (start N vs) H) :
    FnG P w K mg base CX0 (k + 1) f (PySem.W.fnOf x x (defArgs st) (defBody st) (defScope st) .none kV doc pm an (.ref c) ct) ps sp := by
  refine ⟨len, fun A outer s H args us vs Q E hg hr e0 hb r hsp => ?_⟩
  have hl := len _ _ _ _ hsp
  have kin : K.In s.heap := e0.mod.kin.keeps fun b o z => (e0.bs b o z).1
  have lim : s.heap.NoLimit := e0.mod.nolimit.keeps fun b o z => (e0.bs b o z).1
  have kinds : ∀ y ∈ ps.zip us, (defScope st).names.lookup y.1 = some .local ∨ ((defScope st).names.lookup y.1 = some .cell ∧ ((cellsFrom (s.heap.objs.size + 1) (defScope st).names []).lookup y.1).isSome = true) := by
    rintro ⟨n, v⟩ hy
    rcases S.par n (List.of_mem_zip hy).1 with z | z
    · exact .inl z
    · exact .inr ⟨z, PySem.W.cellsFrom_some _ _ _ (.inl z)⟩
  refine codeAny_call_function hr.depth (kin _ _ lk) rfl S.co S.gen rfl (PySem.W.codeRec_of kin hcd) (hb _ _ _ _ ?_)
  refine wpAny_newFunctionEnv_cells S.kind kinds fun env he s1 inc => ?_
  subst he
  refine ⟨lim.keeps inc.toInCall.keep, codeAny_func ?_⟩
  obtain ⟨t, ht, hq⟩ := hbody A outer s H vs Q E hg (hr.deeper _) hsp
  have I : Inv (cxOf CX0 P w K mg base N x (defScope st) f (.ref c) A outer s H E) [] (start N vs) H s1 := inv_start S hr.hd e0 hl r inc
  refine wpAny_mono (ht.nox.run [] s1 (start N vs) H _ I hq) (fun fl s' hs => ?_) fun e s' hs => hs
  cases fl with
  | ret u =>
    obtain ⟨v, σ', H', J, rv, q⟩ := hs
    exact ⟨v, H', J.os, J.bare, J.base, J.hok, rv, q⟩
  | next =>
    obtain ⟨σ', H', J, q⟩ := hs
    exact ⟨.non, H', J.os, J.bare, J.base, J.hok, rfl, q⟩
  | brk =>
    obtain ⟨_, _, _, q⟩ := hs
    exact q.elim
  | cont =>
    obtain ⟨_, _, _, q⟩ := hs
    exact q.elim
/-- the law's promise, its table of code objects empty as yet -/
def spLawT (K : PySem.W.Frag) (Pt : Addr) : Sp := fun vs H Q _ => ∃ (a : Addr) (ns : List Int), vs = [.ref a] ∧ SqL K H a (ns.map V.int) ∧ ns.length ≤ 63 ∧ H Pt = some (.tbl #[]) ∧ ∀ H', Q (.bl true) H'
/-! ### amounts on the way -/
def Amts (B : Int) (b : List Int) : Prop := ∀ x ∈ b, 0 ≤ x ∧ x ≤ B
theorem Amts.mono {B B' : Int} {b : List Int} (h : Amts B b) (l : B ≤ B') : Amts B' b := fun x hx => ⟨(h x hx).1, Int.le_trans (h x hx).2 l⟩
theorem minus_amts {B : Int} : ∀ {x t : List Int}, geB x t = true → Amts B x → (∀ y ∈ t, 0 ≤ y) → Amts B (minusL x t)
  | [], [], _, _, _ => fun z hz => absurd hz List.not_mem_nil
  | [], _ :: _, _, _, _ => fun z hz => absurd hz List.not_mem_nil
  | _ :: _, [], _, _, _ => fun z hz => absurd hz List.not_mem_nil
  | a :: x, b :: t, h, hx, ht => by
    rw [geB_cons, Bool.and_eq_true] at h
    have h1 := of_decide_eq_true h.1
    have h2 := hx a List.mem_cons_self
    have h3 := ht b List.mem_cons_self
    intro z hz
    rcases List.mem_cons.mp hz with rfl | hz
    · show 0 ≤ a - b ∧ a - b ≤ B
      omega
    · exact minus_amts h.2 (fun y hy => hx y (List.mem_cons_of_mem _ hy)) (fun y hy => ht y (List.mem_cons_of_mem _ hy)) z hz
theorem exch_amts {B : Int} {x t p b : List Int} (hx : Amts B x) (ht : ∀ y ∈ t, 0 ≤ y) (hp : Amts 3 p) (e : exch x t p = some b) : Amts (B + 3) b := by
  unfold exch at e
  split at e
  · rename_i hg
    cases e
    intro z hz
    obtain ⟨u, hu, v, hv, rfl⟩ := mem_zip hz
    have h1 := minus_amts hg hx ht u hu
    have h2 := hp v hv
    omega
  · cases e
theorem behind_amts {g m : Nat} {B : Int} {ts : List Trd} {x c : List Int} {k : Nat} {b : Bool} (hE : ∀ t ∈ ts, TrdOk g m t) (hx : Amts B x) (e : behind ts x k b = some c) : Amts (B + 3) c := by
  unfold behind at e
  split at e
  · cases e
  · rename_i t ht
    have h := hE t (List.mem_of_getElem? ht)
    split at e
    · exact exch_amts hx (fun y hy => (h.2.amt y hy).1) h.1.amt e
    · exact exch_amts hx (fun y hy => (h.1.amt y hy).1) h.2.amt e
theorem nxt_amts {g m : Nat} {B : Int} {ts : List Trd} {x c : List Int} {d : PyData} (hE : ∀ t ∈ ts, TrdOk g m t) (hx : Amts B x) (e : nxt ts x d = some c) : Amts (B + 3) c := by
  unfold nxt at e
  split at e
  · cases e
  · exact behind_amts hE hx e
theorem goW_ok {g m : Nat} {M : Int} {ts : List Trd} (hE : ∀ t ∈ ts, TrdOk g m t) : ∀ (ds : List PyData) (way : List (List Int)) (cur : List Int) (i : Nat) (B : Int), (∀ b ∈ way, Amts M b ∧ b.length = g) → Amts B cur → cur.length = g → B + 3 * (ds.length : Int) ≤ M →
    (∀ l, goW ts ds way cur i = .ok l → (∀ b ∈ l, Amts M b ∧ b.length = g) ∧ l.length ≤ way.length + 1 + ds.length) ∧ ∀ j, goW ts ds way cur i = .bad j → 0 ≤ j ∧ j ≤ (i : Int) + ds.length
  | [], way, cur, i, B, hw, hc, hl, hM => by
    refine ⟨fun l e => ?_, fun j e => by rw [goW] at e; cases e⟩
    rw [goW] at e
    cases e
    refine ⟨fun b hb => ?_, by rw [List.length_append, List.length_singleton]; exact Nat.le_refl _⟩
    rcases List.mem_append.mp hb with h | h
    · exact hw b h
    · rw [List.mem_singleton.mp h]
      exact ⟨hc.mono (by simpa using hM), hl⟩
  | d :: ds, way, cur, i, B, hw, hc, hl, hM => by
    have hEv : Even g ts := fun t ht => ⟨(hE t ht).1.len, (hE t ht).2.len⟩
    rw [List.length_cons] at hM
    have hM' : B + 3 * ((ds.length : Int) + 1) ≤ M := by
      have : ((ds.length + 1 : Nat) : Int) = (ds.length : Int) + 1 := by omega
      rw [this] at hM
      exact hM
    cases hn : nxt ts cur d with
    | none =>
      refine ⟨fun l e => ?_, fun j e => ?_⟩
      · rw [goW, hn] at e
        cases e
      · rw [goW, hn] at e
        cases e
        omega
    | some c =>
      have ih := goW_ok hE ds (way ++ [cur]) c (i + 1) (B + 3) (fun b hb => by
        rcases List.mem_append.mp hb with h | h
        · exact hw b h
        · rw [List.mem_singleton.mp h]
          exact ⟨hc.mono (by omega), hl⟩) (nxt_amts hE hc hn) (nxt_len hEv hl hn) (by omega)
      refine ⟨fun l e => ?_, fun j e => ?_⟩
      · rw [goW, hn] at e
        obtain ⟨h1, h2⟩ := ih.1 l e
        refine ⟨h1, ?_⟩
        rw [List.length_append, List.length_singleton] at h2
        rw [List.length_cons]
        omega
      · rw [goW, hn] at e
        have h2 := ih.2 j e
        rw [List.length_cons]
        omega
theorem small_shown : ∀ n : Fin 2100, (PyData.int ((n : Nat) : Int)).shown.length ≤ 12 ∧ fine (.int ((n : Nat) : Int)) = true := by decide +kernel
theorem amt_ok {x : Int} (h0 : 0 ≤ x) (h1 : x ≤ 2000) : Ok 12 0 (.int x) := by
  obtain ⟨n, rfl⟩ : ∃ n : Nat, x = (n : Int) := ⟨x.toNat, by omega⟩
  have := small_shown ⟨n, by omega⟩
  exact ⟨this.2, this.1, by rw [PyData.depth]; exact Nat.le_refl _⟩
theorem ints_ok : ∀ {b : List Int}, (∀ x ∈ b, 0 ≤ x ∧ x ≤ 2000) → Oks (14 * b.length) 0 (b.map PyData.int)
  | [], _ => ⟨(fun _ z => (List.not_mem_nil z).elim), Nat.le_refl _, (fun _ z => (List.not_mem_nil z).elim)⟩
  | x :: b, h => by
    have h1 := h x List.mem_cons_self
    have := (Oks.one (amt_ok h1.1 h1.2)).append (ints_ok (b := b) fun y hy => h y (List.mem_cons_of_mem _ hy))
    exact this.mono (by rw [List.length_cons]; omega) (Nat.le_refl _)
theorem bag_ok2 {g : Nat} {b : List Int} (hb : Amts 2000 b) (hl : b.length = g) (hg : g ≤ 4) : Ok 60 1 (bagD b) := (ints_ok hb).tuple.mono (by omega) (by omega)
theorem bags_ok {g : Nat} (hg : g ≤ 4) : ∀ {l : List (List Int)}, (∀ b ∈ l, Amts 2000 b ∧ b.length = g) → Oks (62 * l.length) 1 (l.map bagD)
  | [], _ => ⟨(fun _ z => (List.not_mem_nil z).elim), Nat.le_refl _, (fun _ z => (List.not_mem_nil z).elim)⟩
  | x :: b, h => by
    have h1 := h x List.mem_cons_self
    have := (Oks.one (bag_ok2 h1.1 h1.2 hg)).append (bags_ok hg (l := b) fun y hy => h y (List.mem_cons_of_mem _ hy))
    exact this.mono (by rw [List.length_cons]; omega) (Nat.le_refl _)
theorem word0 (w : Str) (h : decide ((reprText w).length ≤ 20) = true) : Ok 20 0 (.str w) := ⟨rfl, of_decide_eq_true h, by rw [PyData.depth]; exact Nat.le_refl _⟩
theorem neg_ok : Ok 12 0 (.int (-1)) := ⟨by decide +kernel, by decide +kernel, by rw [PyData.depth]; exact Nat.le_refl _⟩
theorem walkD_ok {g : Nat} {ts : List Trd} {x : List Int} {d : PyData} (mk : MktOk g ts) (hx : Amts 8 x) (hl : x.length = g) (hd : wt d ≤ 1200) : Ok 50000 3 (walkD (walkM ts x d)) := by
  cases ht : isTup d with
  | false =>
    have e : walkM ts x d = .bad (-1) := by
      cases d with
      | tuple ds => cases ht
      | _ => rfl
    rw [e]
    exact ((Oks.one (word0 "bad" (by decide +kernel))).append (Oks.one (neg_ok.mono (Nat.le_refl _) (Nat.le_refl _)))).list.mono (by omega) (by omega)
  | true =>
    obtain ⟨zs, rfl⟩ : ∃ zs, d = .tuple zs := by
      cases d with
      | tuple zs => exact ⟨zs, rfl⟩
      | _ => cases ht
    have hlen := wts_len zs
    have hw' : 4 + wts zs ≤ 1200 := hd
    have h := goW_ok (M := 2000) mk.all zs [] x 0 8 (fun b hb => absurd hb List.not_mem_nil) hx hl (by omega)
    cases e : walkM ts x (.tuple zs) with
    | ok l =>
      obtain ⟨h1, h2⟩ := h.1 l e
      have h3 := (bags_ok mk.four h1).tuple
      have h2' : l.length ≤ 1 + zs.length := by simpa using h2
      exact ((Oks.one ((word0 "ok" (by decide +kernel)).mono (Nat.le_refl _) (Nat.zero_le 2))).append (Oks.one (h3.mono (Nat.le_refl _) (by omega)))).list.mono (by omega) (by omega)
    | bad j =>
      have h2 := h.2 j e
      exact ((Oks.one (word0 "bad" (by decide +kernel))).append (Oks.one (amt_ok h2.1 (by omega)))).list.mono (by omega) (by omega)
/-! ### steps drawn -/
def Sv (R : Rgn) (H : Hp) (n : Nat) (v : V) : Prop := ∃ (k : Nat) (b : Bool), k < n ∧ Dat R H v (stepD k b)
theorem Sv.on {R : Rgn} {H H' : Hp} {n : Nat} {v : V} (h : Sv R H n v) (k : On R H H') : Sv R H' n v := let ⟨a, b, c, d⟩ := h; ⟨a, b, c, d.on k⟩
theorem Sv.same {R : Rgn} {H H' : Hp} {n : Nat} {v : V} (h : Sv R H n v) (k : Same H H') : Sv R H' n v := h.on (On.of k)
theorem Sv.out {R : Rgn} {H : Hp} {n : Nat} {v : V} {D : Addr} (h : Sv (wo R D) H n v) : Sv R H n v := let ⟨a, b, c, d⟩ := h; ⟨a, b, c, d.sub fun _ _ z _ => z.1⟩
theorem Sv.into {R : Rgn} {H : Hp} {n : Nat} {v : V} {D : Addr} (h : Sv R H n v) (z : H D = none) : Sv (wo R D) H n v := let ⟨a, b, c, d⟩ := h; ⟨a, b, c, d.sub fun _ _ hb e => ⟨hb, ne_of_none e z⟩⟩
theorem sv_add {R : Rgn} {H0 H' : Hp} {D p : Addr} {acc : List V} {n m : Nat} {b : Bool} (sm : Same H0 H') (zD : H0 D = none) (eD : H' D = some (.lst acc)) (hv : ∀ v ∈ acc, Sv (wo R D) H' n v) (hm : m < n) (new : ∀ p, H' p = none → R p) (zp : H' p = none) :
    upd H' p (.tup [V.int (0 + (m : Int)), V.bl b]) D = some (.lst acc) ∧ Same H0 (upd (upd H' p (.tup [V.int (0 + (m : Int)), V.bl b])) D (.lst (acc ++ [V.ref p]))) ∧ ∀ v ∈ acc ++ [V.ref p], Sv (wo R D) (upd (upd H' p (.tup [V.int (0 + (m : Int)), V.bl b])) D (.lst (acc ++ [V.ref p]))) n v := by
  have sp := same_upd (o := .tup [V.int (0 + (m : Int)), V.bl b]) zp
  have np : p ≠ D := fun z => by
    rw [z, eD] at zp
    cases zp
  refine ⟨sp _ _ eD, fun c o e => ?_, fun v h => ?_⟩
  · rw [upd_ne (ne_of_none e zD)]
    exact sp _ _ (sm _ _ e)
  · rcases List.mem_append.mp h with h | h
    · exact ((hv v h).same sp).on wo_on
    · rw [List.mem_singleton.mp h]
      refine Sv.on (H := upd H' p (.tup [V.int (0 + (m : Int)), V.bl b])) ⟨m, b, hm, .tup ⟨new p zp, np⟩ upd_same ?_⟩ wo_on
      have e : V.int (0 + (m : Int)) = V.int (m : Int) := by
        congr 1
        omega
      rw [e]
      exact .cons (.int _) (.cons (.bl _) .nil)
theorem sv_keep {R : Rgn} {H0 H' : Hp} {D : Addr} {acc : List V} {n : Nat} {x : V} (sm : Same H0 H') (zD : H0 D = none) (hv : ∀ v ∈ acc, Sv (wo R D) H' n v) (hx : Sv (wo R D) H' n x) :
    Same H0 (upd H' D (.lst (acc ++ [x]))) ∧ ∀ v ∈ acc ++ [x], Sv (wo R D) (upd H' D (.lst (acc ++ [x]))) n v := by
  refine ⟨fun c o e => ?_, fun v h => ?_⟩
  · rw [upd_ne (ne_of_none e zD)]
    exact sm _ _ e
  · rcases List.mem_append.mp h with h | h
    · exact (hv v h).on wo_on
    · rw [List.mem_singleton.mp h]
      exact hx.on wo_on
theorem step_ok {k : Nat} (b : Bool) (h : k < 5) : Ok 40 1 (stepD k b) := by
  have h1 := nat_ok (g := k) (by omega)
  have h2 : Ok 12 0 (.bool b) := ⟨rfl, by cases b <;> decide +kernel, by rw [PyData.depth]; exact Nat.le_refl _⟩
  exact ((Oks.one h1).append (Oks.one h2)).tuple.mono (by omega) (by omega)
theorem Vd.newL {R : Rgn} {H : Hp} {S D : Nat} {p : Addr} {xs : List V} (h : Pk R H S D xs) (n : H p = none) (r : R p) : Vd R (upd H p (.lst xs)) (S + 4) (D + 1) (.ref p) := by
  obtain ⟨ds, d, o⟩ := h
  exact ⟨.list ds, Dat.newL n r d, o.list⟩
theorem Vd.extN {R : Rgn} {H H' : Hp} {S D : Nat} {v : V} (h : Vd R H S D v) (k : LamX.ExtN H H') : Vd R H' S D v := let ⟨x, d, o⟩ := h; ⟨x, d.extN k, o⟩
theorem all_cons {α : Type} {p : α → Prop} {x : α} {xs : List α} (h : p x) (t : ∀ v ∈ xs, p v) : ∀ v ∈ x :: xs, p v := fun v hv => by
  rcases List.mem_cons.mp hv with rfl | hv
  · exact h
  · exact t v hv
theorem all_nil {α : Type} {p : α → Prop} : ∀ v ∈ ([] : List α), p v := fun v hv => absurd hv List.not_mem_nil
end Lb
set_option Elab.async false
set_option linter.all false
set_option maxRecDepth 100000
set_option maxHeartbeats 4000000
namespace Lb
open PySem PySem.Spec PyProof.Rows L2
/-! ### the law's end where it makes a lambda -/
section
variable {P : Program} {w : World} {K : PySem.W.Frag} {mg mb : Str → Option Value} {CX : CXT} {k : Nat} {fa a c Pt : Addr} {fd : FuncData} {x : Str} {sp : Sp} {s1 : Shared} {vs : List Value} {ns : List Int}
theorem go_tab {H : Hp} (kin : K.In s1.heap) (hns : s1.heap.Ns mainGlobals mg) (hb : s1.heap.Ns builtinsNs mb) (hbb : ∀ x : Str, x ≠ "__name__" → mb x = bootBuiltins x) (hlim : s1.heap.NoLimit) (hg : s1.gens = #[])
    (hT : s1.heap.get? Pt = some { cls := .none, data := .fields #[] }) (nT : K.lookup Pt = none) (C : PySem.W.CodeHd s1.heap c Pt)
    (hbm : ∃ (bm : Addr) (ob : Obj), mg "__builtins__" = some (.ref bm) ∧ bm ≠ builtinsNs ∧ s1.heap.get? bm = some ob ∧ ob.cls = .type "module" ∧ ob.dict = some builtinsNs ∧ ob.data = .plain)
    (ha : s1.heap.get? a = some { cls := .type "list", data := .seq vs.toArray }) (hr : Room k callerA)
    (F : ∀ base : Heap, K.In base → base.Ns mainGlobals mg → LamX.TabB base mg c Pt → FnG P w K mg base CX k fa fd [x] sp) (hbind : ∀ (s : Shared) (u : Value), BindsTo s fd ⟨[u], []⟩ [(x, u)])
    (hP : H Pt = some (.tbl #[])) (only : ∀ b, H b = none ∨ b = Pt ∨ ∃ o xs, H b = some (.frz o (.lst xs))) (hok : HOk P w H s1.heap) (hA : ∀ b, H b ≠ none → b = a ∨ b = Pt) (hK : H a ≠ none → K.lookup a = none)
    (hsp : sp [.ref a] H (fun v _ => v = .bl true) fun _ _ _ => False) (hCX : ∀ e s', CX [] H s1 (fun _ _ _ => False) e s' → False) :
    codeAny (model P w) callerA (.call (.ref fa) ⟨[.ref a], []⟩) (LawEnd s1) s1 := by
  have nP : a ≠ Pt := fun z => by
    rw [z, hT] at ha
    exact nomatch (show Data.fields #[] = Data.seq vs.toArray _ from congrArg Obj.data (Option.some.inj ha))
  have isA : ∀ {b : Addr} {u : HO}, H b = some u → b = a ∨ b = Pt := fun {b u} e => hA b (by rw [e]; exact fun z => nomatch z)
  -- what is neither the script nor the table is hidden from nobody
  have free : ∀ {b : Addr} {o : Obj}, s1.heap.get? b = some o → (∀ us n, o.data ≠ .seq us n) → o.data ≠ .fields #[] → H b = none := by
    intro b o e d1 d2
    cases q : H b with
    | none => rfl
    | some u =>
      rcases isA q with eb | eb
      · subst eb
        rw [ha] at e
        cases e
        exact absurd rfl (d1 _ _)
      · subst eb
        rw [hT] at e
        cases e
        exact absurd rfl d2
  have ns : ∀ {b : Addr} {m : Str → Option Value}, s1.heap.Ns b m → (hidT s1.heap H).Ns b m := by
    rintro b m ⟨o, es, ep, e, d, r⟩
    exact ⟨o, es, ep, hidT_get e (free e (fun us n z => by rw [d] at z; cases z) (fun z => by rw [d] at z; cases z)), d, r⟩
  have kb : K.In (hidT s1.heap H) := by
    intro b o e
    refine hidT_get (kin b o e) ?_
    cases q : H b with
    | none => rfl
    | some u =>
      rcases isA q with eb | eb
      · subst eb
        rw [hK (by rw [q]; exact fun z => nomatch z)] at e
        cases e
      · rw [eb, nT] at e
        cases e
  have tb : LamX.TabB (hidT s1.heap H) mg c Pt := by
    refine ⟨?_, ?_, fun z => ?_⟩
    · obtain ⟨o, us, file, tf, flags, tg, inF, text, tt, e1, r1, r2, r3, rest⟩ := C
      refine ⟨o, us, file, tf, flags, tg, inF, text, tt, hidT_get e1 (free e1 (fun us n z => by rw [r2] at z; cases z) fun z => ?_), r1, r2, r3, rest⟩
      rw [r2] at z
      cases z
      simp at r3
    · obtain ⟨bm, ob, b1, b2, b3, b4, b5, b6⟩ := hbm
      refine ⟨bm, ob, b1, b2, fun z => ?_, fun z => ?_, hidT_get b3 (free b3 (fun us n z => by rw [b6] at z; cases z) (fun z => by rw [b6] at z; cases z)), b4, b5, b6⟩
      · obtain ⟨o, es, ep, e, d, _⟩ := hns
        rw [z, e] at b3
        cases b3
        rw [d] at b6
        cases b6
      · rw [z, hT] at b3
        cases b3
        cases b6
    · obtain ⟨o, es, ep, e, d, _⟩ := hns
      rw [z, hT] at e
      cases e
      cases d
  obtain ⟨mc, n1, n2⟩ := hlim
  have md : Mod K mg (hidT s1.heap H) := ⟨kb, ns hns, ⟨mb, ns hb, hbb⟩, ⟨mc, ns n1, n2⟩⟩
  have e0 : Env0 P w K mg (hidT s1.heap H) callerA [] s1 H :=
    ⟨rfl, md, fun b o e => of_hidT e, Nat.le_of_eq (hidT_size _ _), trivial, fun b hb => absurd (show b ∈ ([] : List Addr) from hb) (by simp), hok, .of_eq hg⟩
  refine codeAny_mono ((F _ kb (ns hns) tb).run callerA [] s1 H ⟨[.ref a], []⟩ [.ref a] [.ref a] _ _ rfl hr e0 (hbind s1 (.ref a)) (.cons rfl .nil) hsp) fun r s' h => ?_
  cases r with
  | error e => exact (hCX e s' h).elim
  | ok fl =>
    cases fl with
    | next => exact h.elim
    | brk => exact h.elim
    | cont => exact h.elim
    | ret u =>
      obtain ⟨v, H', os, bare, un, hok', ru, q⟩ := h
      have ev : v = .bl true := q
      subst ev
      obtain rfl : u = Value.bool true := ru
      have key : ∀ b o, b ≠ Pt → s1.heap.get? b = some o → s'.heap.get? b = some o := by
        intro b o nb e
        rcases only b with z | z | ⟨ob, xs, z⟩
        · exact un.keep b o e z (fun m => absurd (show b ∈ ([] : List Addr) from m) (by simp)) (by simp)
        · exact absurd z nb
        · obtain ⟨g1, _⟩ := hok b _ z
          obtain ⟨g2, _⟩ := hok' b _ (un.frzs b ob _ z)
          rw [e] at g1
          cases g1
          exact g2
      obtain ⟨more, hm⟩ : ∃ more : Array Value, s'.heap.get? Pt = some { cls := .none, data := .fields more } := by
        obtain ⟨more, z⟩ := un.tbls Pt #[] hP
        exact ⟨_, hok' Pt _ z⟩
      refine ⟨rfl, ⟨fun b o e => ?_, fun b o e => ?_⟩, os, bare⟩
      · by_cases hbp : b = Pt
        · subst hbp
          rw [hT] at e
          cases e
          exact .inr (.inl ⟨(C.tab hT).isCodeTable, rfl, #[], more, rfl, by rw [Array.empty_append]; exact hm⟩)
        · exact .inl (key b o hbp e)
      · by_cases hbp : b = Pt
        · rw [hbp]
          exact ⟨_, hm⟩
        · exact ⟨o, key b o hbp e⟩
theorem law_tab (kin : K.In s1.heap) (hns : s1.heap.Ns mainGlobals mg) (hb : s1.heap.Ns builtinsNs mb) (hbb : ∀ x : Str, x ≠ "__name__" → mb x = bootBuiltins x) (hlim : s1.heap.NoLimit) (hg : s1.gens = #[])
    (hT : s1.heap.get? Pt = some { cls := .none, data := .fields #[] }) (nT : K.lookup Pt = none) (C : PySem.W.CodeHd s1.heap c Pt)
    (hbm : ∃ (bm : Addr) (ob : Obj), mg "__builtins__" = some (.ref bm) ∧ bm ≠ builtinsNs ∧ s1.heap.get? bm = some ob ∧ ob.cls = .type "module" ∧ ob.dict = some builtinsNs ∧ ob.data = .plain)
    (ha : s1.heap.get? a = some { cls := .type "list", data := .seq vs.toArray }) (hi : IntsAre vs ns) (hl : ns.length ≤ sizeLine) (hr : Room k callerA)
    (F : ∀ base : Heap, K.In base → base.Ns mainGlobals mg → LamX.TabB base mg c Pt → FnG P w K mg base CX k fa fd [x] sp) (hbind : ∀ (s : Shared) (u : Value), BindsTo s fd ⟨[u], []⟩ [(x, u)])
    (hsp : ∀ H : Hp, H Pt = some (.tbl #[]) → SqL K H a (ns.map V.int) → sp [.ref a] H (fun v _ => v = .bl true) fun _ _ _ => False)
    (hCX : ∀ H e s', CX [] H s1 (fun _ _ _ => False) e s' → False) : codeAny (model P w) callerA (.call (.ref fa) ⟨[.ref a], []⟩) (LawEnd s1) s1 := by
  have rv := vals_ints hi
  have nP : a ≠ Pt := fun z => by
    rw [z, hT] at ha
    exact nomatch (show Data.fields #[] = Data.seq vs.toArray _ from congrArg Obj.data (Option.some.inj ha))
  cases hk : K.lookup a with
  | some o =>
    have e := kin a o hk
    rw [ha] at e
    cases e
    let H0 : Hp := fun b => if b = Pt then some (.tbl #[]) else none
    have atP : H0 Pt = some (.tbl #[]) := if_pos rfl
    have off : ∀ {b : Addr}, b ≠ Pt → H0 b = none := fun h => if_neg h
    refine go_tab (H := H0) kin hns hb hbb hlim hg hT nT C hbm ha hr F hbind atP (fun b => ?_) (fun b u z => ?_) (fun b z => ?_) (fun z => absurd (off nP) z) (hsp _ atP (.inr ⟨_, vs.toArray, _, hk, rfl, rfl, rfl, ?_, by simpa using rv⟩)) fun e s' => hCX _ e s'
    · by_cases h : b = Pt
      · exact .inr (.inl h)
      · exact .inl (off h)
    · by_cases h : b = Pt
      · subst h
        rw [atP] at z
        cases z
        exact hT
      · rw [off h] at z
        cases z
    · exact .inr (Classical.byContradiction fun h => z (off h))
    · rw [List.size_toArray, hi.length]
      exact hl
  | none =>
    let H1 : Hp := fun b => if b = a then some (.frz { cls := .type "list", data := .seq vs.toArray } (.lst (ns.map V.int))) else if b = Pt then some (.tbl #[]) else none
    have at_a : H1 a = some (.frz { cls := .type "list", data := .seq vs.toArray } (.lst (ns.map V.int))) := if_pos rfl
    have atP : H1 Pt = some (.tbl #[]) := (if_neg nP.symm).trans (if_pos rfl)
    have off : ∀ {b : Addr}, b ≠ a → b ≠ Pt → H1 b = none := fun h1 h2 => (if_neg h1).trans (if_neg h2)
    refine go_tab (H := H1) kin hns hb hbb hlim hg hT nT C hbm ha hr F hbind atP (fun b => ?_) (fun b u z => ?_) (fun b z => ?_) (fun _ => hk) (hsp _ atP (.inl (.inr ⟨_, at_a⟩))) fun e s' => hCX _ e s'
    · by_cases h : b = a
      · rw [h]
        exact .inr (.inr ⟨_, _, at_a⟩)
      · by_cases h2 : b = Pt
        · exact .inr (.inl h2)
        · exact .inl (off h h2)
    · by_cases h : b = a
      · subst h
        rw [at_a] at z
        cases z
        exact ⟨ha, by rw [List.length_map]; exact hl, vs, _, rv, ha⟩
      · by_cases h2 : b = Pt
        · subst h2
          rw [atP] at z
          cases z
          exact hT
        · rw [off h h2] at z
          cases z
    · by_cases h : b = a
      · exact .inl h
      · exact .inr (Classical.byContradiction fun h2 => z (off h h2))
end
/-- what is known of a law that makes a lambda, at the head's heap -/
def LawT (l : PySem.W.OpenLaw) (w : World) (K : PySem.W.Frag) (k : Nat) (x : Str) (mg : Str → Option Value) (fa : Addr) (h : Heap) : Prop :=
  ∃ (fd : FuncData) (c Pt : Addr), h.get? Pt = some { cls := .none, data := .fields #[] } ∧ K.lookup Pt = none ∧ PySem.W.CodeHd h c Pt ∧ (∀ (s : Shared) (u : Value), BindsTo s fd ⟨[u], []⟩ [(x, u)]) ∧
    ∀ base : Heap, K.In base → base.Ns mainGlobals mg → LamX.TabB base mg c Pt → FnG l.prog w K mg base CX0 k fa fd [x] (spLawT K Pt)
theorem walk_gT {l : PySem.W.OpenLaw} {k : Nat} {q : Program} {loose : List Str} {XP : (Str → Option Value) → Heap → Prop} {YP : World → Heap → Prop} {d : DefRec} {K : Params → PySem.W.Frag} {x : Str}
    (hn : l.most = some 63) (hdf : d.params.defaults = []) (hr : Room k callerA) (hrec : ((recsOf q).any fun e => e.name == d.name) = true) (hY : ∀ (w : World) (h : Heap), YP w h → (K w.params).In h)
    (F : ∀ (w : World) (mg : Str → Option Value) (fa : Addr) (h : Heap), (K w.params).In h → h.Ns mainGlobals mg → mg d.name = some (.ref fa) → LamX.OwnTab (K w.params) fa h → LawT l w (K w.params) k x mg fa h) :
    PySem.W.WalkO q loose XP YP l.row.toRowW d [] (fun f vs => PySem.call f vs) := by
  refine Att.attach_call hn hdf fun w s0 s1 mg mb fa o pm cd doc a vs ns G Y ho hd hcd hmg hobj hints hlen hg => ?_
  have kin := hY w _ Y
  have own : LamX.OwnTab (K w.params) fa s1.heap := by
    intro c P o1 fd1 e dd vs1 sl k1 k2 k3 k4 k5
    obtain ⟨dL, hm, hnm⟩ := List.any_eq_true.mp hrec
    obtain ⟨a', o', fd', c', P', h1, h2, h3, h4, h5, ⟨oc, vc, e1, _, e3, e4⟩, hP⟩ := G.T.tab dL hm
    rw [beq_iff_eq.mp hnm, hmg] at h1
    cases h1
    rw [kin _ _ k1] at h2
    cases h2
    rw [k2] at h3
    cases h3
    rw [k3] at h4
    cases h4
    rw [kin _ _ k4] at e1
    cases e1
    cases e3
    rw [k5] at e4
    cases e4
    exact hP
  obtain ⟨fd, c, Pt, hT, nT, C, hb, hF⟩ := F w mg fa _ kin G.T.g hmg own
  exact law_tab kin G.T.g G.T.b G.T.builtins G.T.nolimit hg hT nT C G.T.bmain hobj hints (Nat.le_trans hlen (by decide)) hr hF hb (fun H hP hS => ⟨a, ns, rfl, hS, hlen, hP, fun _ => rfl⟩) fun H e s' h => h
end Lb
set_option Elab.async false
set_option linter.all false
set_option maxRecDepth 100000
set_option maxHeartbeats 4000000
namespace Lb
open PySem PySem.Spec PyProof.Rows L2
/-! ### d < e of plain data that is alike -/
def rLtD : R2 := fun x y H Q => ∃ (R : Rgn) (d e : PyData), Dat R H x d ∧ Dat R H y e ∧ PySem.W.alike d e = true ∧ d ≠ .none ∧ d.depth ≤ 60 ∧ Q (.bl (PySem.W.dataLt d e)) H
theorem op_ltD {X : Cx} (hu : X.A.units + 64 < cLine) : OpR X (compareOp .Lt) rLtD := by
  intro pins s σ H x y v u Q I rx ry h
  obtain ⟨R, d, e, hd, he, ha, hn, hdp, q⟩ := h
  obtain ⟨as, r1⟩ := dat_reads I hd rx
  obtain ⟨bs, r2⟩ := dat_reads I he ry
  have z : wpAny (model X.prog X.w) X.A (compareOp .Lt v u) (EP X pins σ Q) X.xe s :=
    PySem.W.rcLt_alike d e X.A s v u as bs r1 r2 ha hn (by have := Nat.min_le_left d.depth e.depth; omega) X.prog X.w X.xe (EP X pins σ Q) ⟨.bl _, H, I, rfl, q⟩
  exact z
/-! ### sum of a list of bools -/
theorem walksS_of {prog : Program} {w : World} {A : Around} {I : Addr} {fp wr : List Addr} {n : Nat} {P : Nat → Value → Prop} {St : Nat → Heap → Prop} (W : Walks prog w A I fp wr n P St) : WalksS prog w A I fp wr Eq n P (fun i s => St i s.heap) where
  sub := W.sub
  grefl := fun _ => rfl
  gtrans := fun _ _ _ => Eq.trans
  frame := fun i s h' tk st _ k => W.frame i _ _ st k
  item := fun i s Q E hi st hQ => wpAny_with_toks (Nat.le_refl _) (W.item i s _ _ hi st fun v h' tk hp st' k le => hQ v _ hp st' ⟨k, rfl, rfl, rfl, le⟩)
  done := fun s Q E st hQ => wpAny_with_toks (Nat.le_refl _) (W.done s _ _ st fun h' tk k le => hQ _ ⟨k, rfl, rfl, rfl, le⟩)
  self := fun i s Q E st hQ => W.self i s Q E st hQ
theorem vals_bools : ∀ {bs : List Bool} {us : List Value}, Vals (bs.map V.bl) us → LSm.BoolsAre us bs
  | [], [], _ => .nil
  | b :: bs, u :: us, r => by
    cases r with
    | cons r1 r2 =>
      cases (show u = Value.bool b from r1)
      exact .cons b (vals_bools r2)
  | [], _ :: _, r => nomatch r
  | _ :: _, [], r => nomatch r
def b01 (b : Bool) : Int := if b = true then 1 else 0
def rSumB (K : PySem.W.Frag) : List V → Hp → VK → Prop := fun vs H Q => ∃ (a : Addr) (bs : List Bool), vs = [V.ref a] ∧ SqL K H a (bs.map V.bl) ∧ Q (.int (bs.map b01).sum) H
theorem cr_sumB {X : Cx} (hc : X.calm = true) : CallR X (.builtin "sum") (rSumB X.K) := by
  intro pins s σ H vs us Q I r h
  obtain ⟨a, bs, rfl, hs, q⟩ := h
  obtain ⟨its, rv, hl, _⟩ := I.list hs
  rw [Vals.ref1 r]
  have hl' : s.heap.IsList a its.toArray := by
    obtain ⟨o, n, ho, hc, _, hd⟩ := hl
    exact ⟨o, ho, hc, n, hd⟩
  have hb := vals_bools rv
  have hlt : a < s.heap.objs.size := by obtain ⟨_, e, _⟩ := hl'; exact Heap.lt_size e
  refine call_sum_walkAnyB (wpAny_pyIter_list hl' ?_)
  refine ⟨s.heap.objs.size, [s.heap.objs.size, a], [s.heap.objs.size], Eq, its.toArray.size, _, _, fun i => (bs.map b01).getD i 0, rfl, walksS_of (Walks.list (A := X.A.in1) (I.ok.hd hc) _ a (Nat.ne_of_lt hlt) its.toArray),
    ⟨⟨_, Heap.get?_push_size _ rfl, rfl, rfl⟩, hl'.push _⟩, fun b hm => ?_, fun i v hP => ?_, fun s' t' hm => ?_⟩
  · rcases List.mem_cons.mp hm with rfl | hm
    · show _ < (s.heap.push _).objs.size
      rw [Heap.size_push]
      omega
    · have := List.mem_singleton.mp hm
      rw [this]
      show _ < (s.heap.push _).objs.size
      rw [Heap.size_push]
      exact Nat.lt_succ_of_lt hlt
  · obtain ⟨b, e, rfl⟩ := hb.get i v (by simpa using hP)
    refine .inr ⟨b, rfl, ?_⟩
    show (bs.map b01).getD i 0 = _
    rw [List.getD_eq_getElem?_getD, List.getElem?_map, e]
    rfl
  · have e := preSum_getD (bs.map b01) its.toArray.size
    rw [List.take_of_length_le (by rw [List.length_map, List.size_toArray, hb.length]; exact Nat.le_refl _)] at e
    rw [e]
    obtain ⟨h', g', d', tk, os'⟩ := s'
    have e1 : g' = s.gens := hm.gens.symm
    have e2 : d' = s.drawn := hm.drawn
    have e3 : os' = s.os := hm.os
    subst e1 e2 e3
    exact ⟨.int _, H, I.kept (LSm.kept_iter hm.heap), ⟨_, rfl⟩, q⟩
/-! ### defs that use repr -/
structure OwnG (P : Program) (w : World) (K : PySem.W.Frag) (mg : Str → Option Value) (base : Heap) (x : Str) (k : Nat) (ps : List Str) (sp : Sp) : Prop where
  ex : ∃ (f : Addr) (fd : FuncData), FnG P w K mg base CX0 k f fd ps sp ∧ mg x = some (.ref f) ∧ PySem.W.keepIn K (.ref f) = true ∧ Binds K fd ps []
section
variable {P : Program} {w : World} {K : PySem.W.Frag} {mg : Str → Option Value} {base : Heap}
theorem ownG_of {x : Str} {st : Stmt} {N ps : List Str} {k : Nat} {sp : Sp} (D : Df K mg x st) (S : FnScope N ps (defScope st))
    (hb : ∀ (kV doc pm : Value) (an : Option Addr) (cdv ct : Value) (us : List Value), us.length = ps.length → bindArgs (PySem.W.fnOf x x (defArgs st) (defBody st) (defScope st) .none kV doc pm an cdv ct) ⟨us, []⟩ = pure (ps.zip us))
    (len : ∀ vs H Q E, sp vs H Q E → vs.length = ps.length)
    (hbody : ∀ (f : Addr) (cdv : Value) (A : Around) (outer : List Env) (s : Shared) (H : Hp) (vs : List V) (Q : VK) (E : XK), (cxOf CX0 P w K mg base N x (defScope st) f cdv A outer s H E).nox.A.guards = some [] → Room k (A.deeper (envOfC x (defScope st) s.heap.objs.size f cdv)) → sp vs H Q E →
      ∃ t, PSs (cxOf CX0 P w K mg base N x (defScope st) f cdv A outer s H E).nox (defBody st) t ∧ t { nx := fun _ H' => Q .non H', rt := Q } (start N vs) H) : OwnG P w K mg base x (k + 1) ps sp := by
  obtain ⟨f, fd, F, m⟩ := D.ex
  exact ⟨f, fd, lawG_of F S len (hbody f), m, F.kp, F.binds hb⟩
end
section
variable {X : Cx} {k : Nat} {ps : List Str} {sp : Sp} {x : Str} {p pos : Pos} {e : Expr} {es : List Expr} {t : TA}
theorem run_fnG {CX : CXT} {f : Addr} {fd : FuncData} {dvs : List V} {ds : List Value} {E : XK} {pins : List (Addr × Obj)} {σ : L2.St} {H : Hp} {s : Shared} {Q : VK} {us : List Value} {vs : List V} (F : FnG X.prog X.w X.K X.mg X.base CX k f fd ps sp) (hg : X.A.guards = some []) (hr : Room k X.A) (hb : Binds X.K fd ps ds) (hd : Vals dvs ds) (hx : Passes CX X E)
    (I : Inv X pins σ H s) (r : Vals vs us) (h : sp (vs ++ dvs) H Q E) : wpAny (model X.prog X.w) X.A (call (.ref f) us) (EP X pins σ Q) X.xe s := by
  have r2 : Vals (vs ++ dvs) (us ++ ds) := r.append hd
  have hl : (us ++ ds).length = ps.length := by rw [← r2.length]; exact F.len _ _ _ _ h
  refine wpAny_call (codeAny_mono (F.run X.A X.stack s H ⟨us, []⟩ (us ++ ds) (vs ++ dvs) Q E hg hr I.env0 (hb s us I.kIn hl) r2 h) fun r s' hq => ?_)
  cases r with
  | error e => exact hx pins σ H s e s' I hq
  | ok fl =>
    cases fl with
    | ret u => exact I.after hq
    | next => exact False.elim hq
    | brk => exact False.elim hq
    | cont => exact False.elim hq
theorem pe_ownG (O : OwnG X.prog X.w X.K X.mg X.base x k ps sp) (hgd : X.A.guards = some []) (hr : Room k X.A) (hg : Gl X x) (ha : PA X (e :: es) t) (hdb : (x == ("__debug__" : Str)) = false := by decide)
    (he : starEach (e :: es) X.env = (false, eval e X.env) :: starEach es X.env := by rfl) (hpl : (backTo pos (starEach es X.env)).any (·.1) = false := by rfl) : PE X (.Call (.Name x p) (e :: es) [] pos) (tCall sp [] E0 t) := by
  obtain ⟨f, fd, F, m, kp, b⟩ := O.ex
  refine ⟨fun pins s σ H Q I h => ?_⟩
  refine wpAny_Call_Name_kw (ld_glob I hg m ?_ hdb)
  refine PySem.W.callWith_K (h₀ := X.base) I.ok.mod.kin kp (thn (ha.run pos pins s σ H _ I h) fun us s1 ⟨vs, H1, I1, r, q⟩ => ⟨I1.kIn, ?_⟩) he hpl
  exact run_fnG F hgd hr b .nil pass0 I1 r q
end
/-! ### plainness -/
/-- the order of rows of ints -/
def ltL : List Int → List Int → Bool
  | [], [] => false
  | [], _ :: _ => true
  | _ :: _, [] => false
  | x :: a, y :: b => if x = y then ltL a b else decide (x < y)
theorem lex_bag : ∀ a b : List Int, PyProof.Rows.lexLt PyProof.Rows.itemOrd (PySem.W.keyToksAll (a.map PyData.int)) (PySem.W.keyToksAll (b.map PyData.int)) = ltL a b
  | [], [] => by
    rw [List.map_nil, PySem.W.keyToksAll]
    rfl
  | [], y :: b => by
    rw [List.map_nil, List.map_cons, PySem.W.toks_all_cons, PySem.W.keyToksAll, PyProof.Rows.lex_diff (O := PyProof.Rows.itemOrd) (by simp)]
    rfl
  | x :: a, [] => by
    rw [List.map_nil, List.map_cons, PySem.W.toks_all_cons, PySem.W.keyToksAll, PyProof.Rows.lex_diff (O := PyProof.Rows.itemOrd) (by simp)]
    rfl
  | x :: a, y :: b => by
    rw [List.map_cons, List.map_cons, PySem.W.toks_all_cons, PySem.W.toks_all_cons, PyProof.Rows.lex_self (O := PyProof.Rows.itemOrd), PySem.W.keyToks, PySem.W.keyToks, List.singleton_append, List.singleton_append, ltL]
    by_cases h : x = y
    · rw [if_pos h, h, PyProof.Rows.lex_self (O := PyProof.Rows.itemOrd)]
      exact lex_bag a b
    · rw [if_neg h, PyProof.Rows.lex_diff (O := PyProof.Rows.itemOrd) (fun z => h (Sum.inl.inj z))]
      rfl
/-- what bags are compared by -/
abbrev keyD (b : List Int) : PyData := .tuple [.int (b.getD (b.length - 1) 0), .int b.sum, bagD b]
def lastI (b : List Int) : Int := b.getD (b.length - 1) 0
/-- x is plainer than y -/
def plB (x y : List Int) : Bool := if lastI x = lastI y then (if x.sum = y.sum then ltL x y else decide (x.sum < y.sum)) else decide (lastI x < lastI y)
theorem key_lt (x y : List Int) : PySem.W.dataLt (keyD x) (keyD y) = plB x y := by
  have cons : ∀ (a b : Int) (r s : List PyData), PyProof.Rows.lexLt PyProof.Rows.itemOrd (PySem.W.keyToksAll (.int a :: r)) (PySem.W.keyToksAll (.int b :: s)) =
      if a = b then PyProof.Rows.lexLt PyProof.Rows.itemOrd (PySem.W.keyToksAll r) (PySem.W.keyToksAll s) else decide (a < b) := by
    intro a b r s
    rw [PySem.W.toks_all_cons, PySem.W.toks_all_cons, PyProof.Rows.lex_self (O := PyProof.Rows.itemOrd), PySem.W.keyToks, PySem.W.keyToks, List.singleton_append, List.singleton_append]
    by_cases h : a = b
    · rw [if_pos h, h, PyProof.Rows.lex_self (O := PyProof.Rows.itemOrd)]
    · rw [if_neg h, PyProof.Rows.lex_diff (O := PyProof.Rows.itemOrd) (fun z => h (Sum.inl.inj z))]
      rfl
  rw [PySem.W.dataLt_tuple, cons, cons]
  unfold plB lastI
  have e : PyProof.Rows.lexLt PyProof.Rows.itemOrd (PySem.W.keyToksAll [bagD x]) (PySem.W.keyToksAll [bagD y]) = ltL x y := by
    rw [PySem.W.toks_all_cons, PySem.W.toks_all_cons, PyProof.Rows.lex_self (O := PyProof.Rows.itemOrd), PySem.W.keyToks, PySem.W.keyToks]
    rw [← lex_bag x y]
    have al : PySem.W.alikeAll (x.map PyData.int) (y.map PyData.int) = true := by
      generalize x = a
      generalize y = b
      induction a generalizing b with
      | nil => rw [List.map_nil, PySem.W.alikeAll]
      | cons n a ih =>
        cases b with
        | nil => rw [List.map_nil, List.map_cons, PySem.W.alikeAll]
        | cons m b => rw [List.map_cons, List.map_cons, PySem.W.alikeAll, PySem.W.alike, ih b]; rfl
    obtain ⟨t1, t2⟩ := PySem.W.toksAll_eqv _ _ al
    cases h : PyData.eqvAll (x.map PyData.int) (y.map PyData.int) with
    | true => rw [t1 h, PySem.W.lex_pre]
              have ir : ∀ l, PyProof.Rows.lexLt PyProof.Rows.itemOrd l l = false := fun l => by
                induction l with
                | nil => rfl
                | cons p l ih => rw [PyProof.Rows.lex_self (O := PyProof.Rows.itemOrd)]; exact ih
              rw [ir, ir]
    | false => exact t2 h _ _
  rw [e]
end Lb
namespace Lb
open PySem PySem.Spec PyProof.Rows L2
theorem atI_lastI {x : List Int} (h : 0 < x.length) : atI (x.map V.int) (-1) = some (.int (lastI x)) := by
  have e : x.map V.int = (x.take (x.length - 1)).map V.int ++ [V.int (lastI x)] := by
    have h1 : x = x.take (x.length - 1) ++ [lastI x] := by
      have h2 := (List.take_append_drop (x.length - 1) x).symm
      have h3 : x.drop (x.length - 1) = [lastI x] := by
        rw [List.drop_eq_getElem_cons (by omega), List.drop_of_length_le (by omega)]
        unfold lastI
        rw [List.getD_eq_getElem?_getD, List.getElem?_eq_getElem (by omega)]
        rfl
      rw [h3] at h2
      exact h2
    conv => lhs; rw [h1]
    rw [List.map_append]
    rfl
  rw [e]
  exact atI_last _ _
theorem alike_bag (x y : List Int) : PySem.W.alikeAll (x.map PyData.int) (y.map PyData.int) = true := by
  induction x generalizing y with
  | nil => rw [List.map_nil, PySem.W.alikeAll]
  | cons n a ih =>
    cases y with
    | nil => rw [List.map_nil, List.map_cons, PySem.W.alikeAll]
    | cons m b => rw [List.map_cons, List.map_cons, PySem.W.alikeAll, PySem.W.alike, ih b]; rfl
theorem alike_key (x y : List Int) : PySem.W.alike (keyD x) (keyD y) = true := by
  rw [PySem.W.alike, PySem.W.alikeAll, PySem.W.alikeAll, PySem.W.alikeAll, PySem.W.alike, PySem.W.alike, PySem.W.alike, alike_bag, PySem.W.alikeAll]
  rfl
theorem depth_bag (x : List Int) : (bagD x).depth = 1 := by
  rw [PyData.depth, depth_ints]
theorem depth_key (x : List Int) : (keyD x).depth ≤ 60 := by
  rw [PyData.depth, PyData.depthAll, PyData.depthAll, PyData.depthAll, PyData.depthAll, depth_bag, PyData.depth, PyData.depth]
  decide
def spKey : Sp := fun vs H Q _ => ∃ (R : Rgn) (v : V) (x : List Int), vs = [v] ∧ Dat R H v (bagD x) ∧ 0 < x.length ∧ (∀ p, H p = none → R p) ∧ ∀ (H' : Hp) (u : V), Same H H' → Dat R H' u (keyD x) → Q u H'
def spPlainer : Sp := fun vs H Q _ => ∃ (R : Rgn) (v u : V) (x y : List Int), vs = [v, u] ∧ Dat R H v (bagD x) ∧ Dat R H u (bagD y) ∧ 0 < x.length ∧ 0 < y.length ∧ (∀ p, H p = none → R p) ∧ ∀ (H' : Hp), Same H H' → Q (.bl (plB x y)) H'
def spDiffer : Sp := fun vs H Q _ => ∃ (R S : Rgn) (v u : V) (d : PyData), vs = [v, u] ∧ Dat R H v d ∧ Dat S H u d ∧ Ok 100000 60 d ∧ Q (.bl false) H
/-! the mathematics of plainness -/
theorem ltL_irr : ∀ x : List Int, ltL x x = false
  | [] => rfl
  | a :: x => by
    rw [ltL, if_pos rfl]
    exact ltL_irr x
theorem ltL_tri : ∀ {x y : List Int}, x.length = y.length → x ≠ y → b01 (ltL x y) + b01 (ltL y x) = 1
  | [], [], _, h => absurd rfl h
  | a :: x, b :: y, hl, h => by
    rw [ltL, ltL]
    by_cases e : a = b
    · rw [if_pos e, if_pos e.symm]
      exact ltL_tri (by simpa using hl) fun z => h (by rw [e, z])
    · rw [if_neg e, if_neg (fun z => e z.symm)]
      unfold b01
      by_cases l : a < b
      · rw [decide_eq_true l, decide_eq_false (show ¬ b < a by omega)]
        rfl
      · rw [decide_eq_false l, decide_eq_true (show b < a by omega)]
        rfl
theorem ltL_plus : ∀ {x y m : List Int}, x.length = y.length → x.length = m.length → ltL (List.zipWith (· + ·) x m) (List.zipWith (· + ·) y m) = ltL x y
  | [], [], [], _, _ => rfl
  | a :: x, b :: y, n :: m, h1, h2 => by
    rw [List.zipWith_cons_cons, List.zipWith_cons_cons, ltL, ltL, ltL_plus (x := x) (y := y) (m := m) (by simpa using h1) (by simpa using h2)]
    by_cases e : a = b
    · rw [if_pos e, if_pos (by rw [e])]
    · rw [if_neg e, if_neg (by omega)]
      by_cases l : a < b
      · rw [decide_eq_true l, decide_eq_true (by omega)]
      · rw [decide_eq_false l, decide_eq_false (by omega)]
theorem plB_irr (x : List Int) : plB x x = false := by
  unfold plB
  rw [if_pos rfl, if_pos rfl, ltL_irr]
theorem plB_tri {x y : List Int} (hl : x.length = y.length) (h : x ≠ y) : b01 (plB x y) + b01 (plB y x) = 1 := by
  have two : ∀ a b : Int, a ≠ b → b01 (decide (a < b)) + b01 (decide (b < a)) = 1 := by
    intro a b e
    unfold b01
    by_cases l : a < b
    · rw [decide_eq_true l, decide_eq_false (show ¬ b < a by omega)]
      rfl
    · rw [decide_eq_false l, decide_eq_true (show b < a by omega)]
      rfl
  unfold plB
  by_cases e : lastI x = lastI y
  · rw [if_pos e, if_pos e.symm]
    by_cases g : x.sum = y.sum
    · rw [if_pos g, if_pos g.symm]
      exact ltL_tri hl h
    · rw [if_neg g, if_neg (fun z => g z.symm)]
      exact two _ _ g
  · rw [if_neg e, if_neg (fun z => e z.symm)]
    exact two _ _ e
theorem lastI_plus {x m : List Int} (h : 0 < x.length) (hl : x.length = m.length) : lastI (List.zipWith (· + ·) x m) = lastI x + lastI m := by
  unfold lastI
  rw [List.length_zipWith, ← hl, Nat.min_self]
  rw [List.getD_eq_getElem?_getD, List.getD_eq_getElem?_getD, List.getD_eq_getElem?_getD]
  rw [List.getElem?_eq_getElem (l := x) (by omega), List.getElem?_eq_getElem (l := m) (by omega), List.getElem?_zipWith, List.getElem?_eq_getElem (l := x) (by omega), List.getElem?_eq_getElem (l := m) (by omega)]
  rfl
theorem plB_plus {x y m : List Int} (h : 0 < x.length) (h1 : x.length = y.length) (h2 : x.length = m.length) : plB (List.zipWith (· + ·) x m) (List.zipWith (· + ·) y m) = plB x y := by
  unfold plB
  rw [lastI_plus h h2, lastI_plus (by omega) (by omega), ltL_plus h1 h2, sum_zip h2, sum_zip (by omega)]
  by_cases e : lastI x = lastI y
  · rw [if_pos e, if_pos (by rw [e])]
    by_cases g : x.sum = y.sum
    · rw [if_pos g, if_pos (by rw [g])]
    · rw [if_neg g, if_neg (by omega)]
      by_cases l : x.sum < y.sum
      · rw [decide_eq_true l, decide_eq_true (by omega)]
      · rw [decide_eq_false l, decide_eq_false (by omega)]
  · rw [if_neg e, if_neg (by omega)]
    by_cases l : lastI x < lastI y
    · rw [decide_eq_true l, decide_eq_true (by omega)]
    · rw [decide_eq_false l, decide_eq_false (by omega)]
end Lb
namespace Lb
open PySem PySem.Spec PyProof.Rows L2
theorem lc_enumT {K : PySem.W.Frag} {a : Addr} {xs : List V} {g : TG} {tt : TT} {te : TE} {vs : List Nat} {σ : L2.St} {H1 : Hp} {D : Addr} {Qd : Hp → Prop} (Pv : Nat → Hp → Prop) (h0 : Pv 0 (upd H1 D (.lst [])))
    (hq : ∀ i H, Pv i H → SqT K H a xs)
    (hs : ∀ (i : Nat) (x : V) (T : Addr) (H : Hp), xs[i]? = some x → Pv i H → H T = none → g (.ref T) (wipe σ vs) (upd H T (.tup [.int (i : Nat), x])) fun σ2 H2 => wipe σ2 vs = wipe σ vs ∧ tt σ2 H2 fun b H3 =>
      if b = true then te σ2 H3 fun y H4 => ∃ acc, H4 D = some (.lst acc) ∧ acc.length < sizeLine ∧ Pv (i + 1) (upd H4 D (.lst (acc ++ [y]))) else Pv (i + 1) H3) (hd : ∀ H, Pv xs.length H → Qd H) : LcW (IteT K a) g tt te vs σ H1 D Qd := by
  refine ⟨fun i m H => m = xs.length - i ∧ i ≤ xs.length ∧ Pv i H, ⟨xs.length, rfl, Nat.zero_le _, h0⟩, ?_⟩
  rintro i m H ⟨rfl, hi, p⟩
  have qx := hq i H p
  by_cases hlt : i < xs.length
  · refine .inr ⟨⟨xs, _, qx, List.getElem?_eq_getElem hlt⟩, Pv (i + 1), fun H' p' => ⟨xs.length - (i + 1), by omega, rfl, hlt, p'⟩, ?_⟩
    rintro v H' ⟨T, x', rfl, hT, rfl, f1⟩
    exact hs i x' T H (f1 xs qx) p hT
  · obtain rfl : i = xs.length := by omega
    exact .inl ⟨⟨xs, qx, Nat.le_refl _⟩, hd H p⟩
theorem eqv_ints : ∀ x y : List Int, PyData.eqvAll (x.map PyData.int) (y.map PyData.int) = decide (x = y)
  | [], [] => by rw [List.map_nil, PyData.eqvAll]; rfl
  | [], b :: y => by rw [List.map_nil, List.map_cons, PyData.eqvAll]; rfl
  | a :: x, [] => by rw [List.map_nil, List.map_cons, PyData.eqvAll]; rfl
  | a :: x, b :: y => by
    rw [List.map_cons, List.map_cons, PyData.eqvAll, eqv_ints x y, PyData.eqv]
    by_cases h : a = b
    · rw [h]
      by_cases g : x = y
      · rw [g]
        simp
      · rw [decide_eq_false g, decide_eq_false (fun z => g (List.cons.inj z).2), Bool.and_false]
    · rw [decide_eq_false (fun z => h (List.cons.inj z).1), beq_eq_false_iff_ne.mpr h, Bool.false_and]
theorem eqv_bag (x y : List Int) : PyData.eqv (bagD x) (bagD y) = decide (x = y) := by
  rw [PyData.eqv]
  exact eqv_ints x y
theorem shaped_bag (ns : List Int) : SeqAt.shaped (bagD ns) = true := by
  have h := shaped_ints ns
  first | exact h | (unfold SeqAt.shaped at *; simpa [PyData.canLay0, PyData.depth] using h)
theorem dp_bag {K : PySem.W.Frag} {H : Hp} {a : Addr} {x : List Int} (e : H a = some (.tup (x.map V.int))) : Dp K H (.ref a) (bagD x) := .tup (.inl (.inl e)) (dp_ints x)
theorem ne_int {a b : Int} {H : Hp} {Q : Bool → Hp → Prop} (e : a = b) (h : Q false H) : rNe (.int a) (.int b) H fun x H' => ∃ k, x = .bl k ∧ Q k H' := by
  subst e
  exact ⟨rfl, false, by simp, h⟩
theorem bool_ok (b : Bool) : Ok 20 0 (.bool b) := by
  cases b
  · exact ⟨by decide +kernel, by decide +kernel, by rw [PyData.depth]; exact Nat.le_refl _⟩
  · exact ⟨by decide +kernel, by decide +kernel, by rw [PyData.depth]; exact Nat.le_refl _⟩
theorem bools_ok (a b : Bool) : Ok 100 1 (.list [.bool a, .bool b]) := ((Oks.one (bool_ok a)).append (Oks.one (bool_ok b))).list.mono (by omega) (by omega)
end Lb
set_option Elab.async false
set_option linter.all false
set_option maxRecDepth 100000
set_option maxHeartbeats 4000000
namespace Lb
open PySem PySem.Spec PyProof.Rows L2 RZ
theorem for_zipT {K : PySem.W.Frag} {a b : Addr} {xs ys : List V} {g : TG} {tb : TS} {D : Ends} {σ : L2.St} {H : Hp} (hl : xs.length = ys.length) (Pv : Nat → L2.St → Hp → Prop) (h0 : Pv 0 σ H) (hq : ∀ i σ H, Pv i σ H → SqT K H a xs ∧ SqT K H b ys)
    (hs : ∀ (i : Nat) (x y : V) (T : Addr) (σ : L2.St) (H : Hp), xs[i]? = some x → ys[i]? = some y → Pv i σ H → H T = none → g (.ref T) σ (upd H T (.tup [x, y])) fun σ2 H2 => tb { D with nx := Pv (i + 1), ct := Pv (i + 1), bk := D.nx } σ2 H2) (hd : ∀ σ H, Pv xs.length σ H → D.nx σ H) :
    ∃ W : Nat → Nat → L2.St → Hp → Prop, (∃ m, W 0 m σ H) ∧ ∀ i m σ H, W i m σ H →
      ((ItzT K a b).stop i H ∧ D.nx σ H) ∨ ((ItzT K a b).go i H ∧ ∃ N : L2.St → Hp → Prop, (∀ σ' H', N σ' H' → ∃ m', m' < m ∧ W (i + 1) m' σ' H') ∧ ∀ v H', (ItzT K a b).yld i H v H' → g v σ H' fun σ2 H2 => tb { D with nx := N, ct := N, bk := D.nx } σ2 H2) := by
  refine ⟨fun i m σ H => m = xs.length - i ∧ i ≤ xs.length ∧ Pv i σ H, ⟨xs.length, rfl, Nat.zero_le _, h0⟩, ?_⟩
  rintro i m σ H ⟨rfl, hi, p⟩
  obtain ⟨qx, qy⟩ := hq i σ H p
  by_cases hlt : i < xs.length
  · refine .inr ⟨⟨xs, ys, _, _, qx, qy, List.getElem?_eq_getElem hlt, List.getElem?_eq_getElem (by omega)⟩, Pv (i + 1), fun σ' H' p' => ⟨xs.length - (i + 1), by omega, rfl, hlt, p'⟩, ?_⟩
    rintro v H' ⟨T, x', y', rfl, hT, rfl, f1, f2⟩
    exact hs i x' y' T σ H (f1 xs qx) (f2 ys qy) p hT
  · obtain rfl : i = xs.length := by omega
    exact .inl ⟨⟨xs, ys, qx, qy, .inl (Nat.le_refl _)⟩, hd σ H p⟩
theorem geB_false {x y : List Int} {i : Nat} {u v : Int} (h1 : x[i]? = some u) (h2 : y[i]? = some v) (h : u < v) : geB x y = false := by
  induction x generalizing y i with
  | nil => cases h1
  | cons a x ih =>
    cases y with
    | nil => cases h2
    | cons b y =>
      rw [geB_cons]
      cases i with
      | zero =>
        have e1 : a = u := Option.some.inj h1
        have e2 : b = v := Option.some.inj h2
        rw [decide_eq_false (by omega), Bool.false_and]
      | succ i => rw [ih (i := i) h1 h2, Bool.and_false]
end Lb
set_option Elab.async false
set_option linter.all false
set_option maxRecDepth 100000
set_option maxHeartbeats 8000000
namespace Lb
open PySem PySem.Spec PyProof.Rows L2 RZ
def topS (i : Nat) : Stmt := PySem.Challenge.pw_lentbeside_k02_walks.main.body.getD i (.Pass ⟨0, 0, 0, 0⟩)
abbrev s_BadStep___init__ : Stmt := inClass (topS 2) 0
abbrev s_is_whole : Stmt := topS 4
abbrev s_is_pair : Stmt := topS 5
abbrev s_holds : Stmt := topS 6
abbrev s_exchange : Stmt := topS 7
abbrev s_is_step : Stmt := topS 8
abbrev s_after_step : Stmt := topS 9
abbrev s_walk : Stmt := topS 10
abbrev s__law_deck : Stmt := topS 12
abbrev s__law_draw : Stmt := topS 13
abbrev s__law_one : Stmt := topS 14
abbrev s__law_bag : Stmt := topS 15
abbrev s__law_side : Stmt := topS 16
abbrev s__law_trade : Stmt := topS 17
abbrev s__law_market : Stmt := topS 18
abbrev s__law_any_market : Stmt := topS 19
abbrev s__law_plus : Stmt := topS 20
abbrev s__law_less : Stmt := topS 21
abbrev s__law_holds : Stmt := topS 22
abbrev s__law_behind : Stmt := topS 23
abbrev s__law_spoilt : Stmt := topS 24
abbrev s__law_found : Stmt := topS 25
abbrev s__law_is_step : Stmt := topS 26
abbrev s__law_due : Stmt := topS 27
abbrev s_law : Stmt := topS 28
end Lb
set_option Elab.async false
set_option linter.all false
set_option maxRecDepth 100000
set_option maxHeartbeats 8000000
namespace Lb
open PySem PySem.Spec PyProof.Rows L2 RZ
section
variable {P : Program} {w : World} {K : PySem.W.Frag} {mg : Str → Option Value} {base : Heap}
theorem sc__law_draw : FnScope ["_law_deck_here", "_law_many", "_law_cells", "_law_turn", "_law_rests", "_law_at", "_law_digit", "_law_mixed", "_law_again"] ["_law_deck_here", "_law_many"] (defScope s__law_draw) := ⟨rfl, rfl, rfl, by decide +kernel, rfl, by decide +kernel, by decide +kernel⟩
theorem own_draw (D : Df K mg "_law_draw" s__law_draw) (B : Blt mg) : Own P w K mg base "_law_draw" 1 ["_law_deck_here", "_law_many"] spDraw := by
  refine own_of D sc__law_draw (fun _ _ _ _ _ _ us hl => match us, hl with | [_, _], _ => rfl) (fun vs H Q E h => ?_) (fun f cdv A outer s H vs Q E hr h => ?_)
  · obtain ⟨_, _, _, _, _, rfl, _⟩ := h
    rfl
  · obtain ⟨d, c, r, n, m, rfl, dk, hn, hm, hm2, q⟩ := h
    obtain ⟨t, cs, rs, ht, h0, h64, hrl, n1, n2, n3, e1, e2, e3⟩ := dk
    refine ⟨_, (pss_cons (ps_asg (pv 0) (pg_lst rfl (pgs_cons (pg_name (i := 2) sc__law_draw.nd rfl (.inl rfl)) (pgs_cons (pg_name (i := 3) sc__law_draw.nd rfl (.inl rfl)) (pgs_cons (pg_name (i := 4) sc__law_draw.nd rfl (.inl rfl)) pgs_nil)))))
      (pss_cons (ps_set (i := 5) sc__law_draw.nd rfl (.inl rfl) (pe_op op_mod (pe_callTy (T := "int") call_int1 (by rfl) B.b_int PyProof.Rows.boot_int (pa_cons (pv 3) pa_nil)) (pe_callB (id := "len") call_len_seq (by rfl) B.b_len PySem.boot_len (pa_cons (pv 2) pa_nil))))
      (pss_cons (ps_asg (pe_op op_add (pv 3) pe_int) (pg_sub (pv 0) pe_int set_list))
      (pss_cons (ps_if (pt_cmpR op_gt (pe_ix ix_list (pv 4) (pv 5) (fun _ _ => rfl)) pe_int (nomark _)) (pss_cons (ps_set (i := 6) sc__law_draw.nd rfl (.inl rfl) (pe_op op_mod (pe_callTy (T := "int") call_int1 (by rfl) B.b_int PyProof.Rows.boot_int (pa_cons (pe_ix ix_list (pv 4) (pv 5) (fun _ _ => rfl)) pa_nil)) (pv 1)))
      (pss_cons (ps_asg (pe_op op_fdiv (pe_ix ix_list (pv 4) (pv 5) (fun _ _ => rfl)) (pv 1)) (pg_sub (pv 4) (pv 5) set_list))
      (pss_one (ps_ret (pv 6))))) pss_nil)
      (pss_cons (ps_set (i := 7) sc__law_draw.nd rfl (.inl rfl) (pe_op op_mod (pe_op op_pow (pe_op op_add (pe_op op_add (pe_op op_mod (pe_callTy (T := "int") call_int1 (by rfl) B.b_int PyProof.Rows.boot_int (pa_cons (pe_ix ix_list (pv 2) (pv 5) (fun _ _ => rfl)) pa_nil)) pe_int) (pe_op op_mul pe_int (pv 3))) pe_int) pe_int) pe_int))
      (pss_cons (ps_set (i := 8) sc__law_draw.nd rfl (.inl rfl) (pe_op op_mod (pe_op op_pow (pe_op op_add (pe_op op_add (pv 7) (pe_op op_mul pe_int (pv 3))) pe_int) pe_int) pe_int))
      (pss_one (ps_ret (pe_op op_mod (pe_op op_mod (pe_callTy (T := "int") call_int1 (by rfl) B.b_int PyProof.Rows.boot_int (pa_cons (pe_op op_add (pe_op op_mul (pv 8) pe_int) (pv 7)) pa_nil)) pe_int) (pv 1)))))))))), ?_⟩
    -- cells, turn, rests = deck; at = int(turn) % len(cells)
    refine ⟨_, rfl, d, _, rfl, SqL.of e1, rfl, _, _, rfl, _, _, rfl, _, _, rfl, rfl, ?_⟩
    refine ⟨_, rfl, .inl ⟨_, rfl, ?_⟩⟩
    refine ⟨_, rfl, c, _, rfl, .inl (SqL.of e2), _, _, rfl, rfl, ?_, ?_⟩
    · show (0 : Int) < ((cs.map V.int).length : Int)
      rw [List.length_map]
      omega
    dsimp only
    rw [List.length_map]
    obtain ⟨j, hj, ej⟩ := emod_nat (t : Int) h0
    rw [ej]
    -- deck[1] = turn + 1
    refine ⟨_, rfl, _, _, rfl, rfl, ?_⟩
    refine ⟨_, rfl, d, _, _, 1, rfl, rfl, e1, rfl, ?_⟩
    have hr1 : upd H d (.lst ([V.ref c, .int (t : Int), .ref r].set 1 (.int ((t : Int) + 1)))) r = some (.lst (rs.map V.int)) := by
      rw [upd_ne n2.symm]
      exact e3
    have hc1 : upd H d (.lst ([V.ref c, .int (t : Int), .ref r].set 1 (.int ((t : Int) + 1)))) c = some (.lst (cs.map V.int)) := by
      rw [upd_ne n1.symm]
      exact e2
    -- if rests[at] > 0
    refine ⟨_, rfl, _, rfl, r, _, _, _, rfl, rfl, SqL.of hr1, nat_at (by omega), _, _, rfl, rfl, _, rfl, ite2 (fun hp => ?_) (fun hp => ?_)⟩
    · refine ⟨_, rfl, _, rfl, r, _, _, _, rfl, rfl, SqL.of hr1, nat_at (by omega), .inl ⟨_, rfl, ?_⟩⟩
      refine ⟨_, rfl, _, _, rfl, rfl, ?_, ?_⟩
      · show (0 : Int) < (m : Int)
        omega
      obtain ⟨v, hv, ev⟩ := emod_nat (rs.getD j 0) hm
      dsimp only
      rw [ev]
      refine ⟨_, rfl, _, rfl, r, _, _, _, rfl, rfl, SqL.of hr1, nat_at (by omega), ?_⟩
      refine ⟨_, rfl, _, _, rfl, rfl, ⟨by omega, by omega⟩, ?_⟩
      refine ⟨_, rfl, _, rfl, r, _, _, j, rfl, rfl, hr1, ixN_nat (by rw [List.length_map]; omega), ?_⟩
      refine ⟨_, rfl, q _ v hv ⟨t + 1, cs, rs.set j (rs.getD j 0 / (m : Int)), by omega, h0, h64, by rw [List.length_set]; exact hrl, n1, n2, n3, ?_, ?_, ?_⟩ ?_⟩
      · rw [upd_ne n2, upd_same]
        rfl
      · rw [upd_ne n3]
        exact hc1
      · rw [upd_same, List.map_set]
      · intro b o z1 z2 e
        rw [upd_ne z2, upd_ne z1]
        exact e
    · have ht2 : (t : Int) < 2 ^ 40 := by omega
      have md : ∀ (a b : Int), 0 < b → 0 ≤ a % b ∧ a % b < b := fun a b hb => ⟨Int.emod_nonneg a (by omega), Int.emod_lt_of_pos a hb⟩
      refine ⟨_, rfl, _, rfl, c, _, _, _, rfl, rfl, SqL.of hc1, nat_at hj, .inl ⟨_, rfl, ?_⟩⟩
      refine ⟨_, _, rfl, rfl, (by show (0 : Int) < 2147483543; decide), ?_⟩
      have k1 := md (cs.getD j 0) 2147483543 (by decide)
      refine ⟨_, rfl, _, _, rfl, rfl, .inl ⟨by decide, by decide⟩, _, _, rfl, rfl, _, _, rfl, rfl, _, _, rfl, rfl, ⟨by decide, by decide, ?_⟩, _, _, rfl, rfl, (by show (0 : Int) < 2147483497; decide), ?_⟩
      · generalize cs.getD j 0 % 2147483543 = x at k1
        show (x + 75979 * (t : Int) + 4481).natAbs < 2 ^ 64
        omega
      dsimp only
      generalize hm3 : (cs.getD j 0 % 2147483543 + 75979 * (t : Int) + 4481) ^ (3 : Int).toNat % 2147483497 = mx
      have k2 := md ((cs.getD j 0 % 2147483543 + 75979 * (t : Int) + 4481) ^ (3 : Int).toNat) 2147483497 (by decide)
      rw [hm3] at k2
      refine ⟨_, rfl, _, rfl, _, _, rfl, rfl, .inl ⟨by decide, by decide⟩, _, _, rfl, rfl, _, _, rfl, rfl, _, _, rfl, rfl, ⟨by decide, by decide, ?_⟩, _, _, rfl, rfl, (by show (0 : Int) < 2147483423; decide), ?_⟩
      · show (mx + 7919 * (t : Int) + 13).natAbs < 2 ^ 64
        omega
      refine ⟨_, rfl, _, _, rfl, rfl, .inr ⟨by decide, by decide⟩, _, rfl, _, _, rfl, rfl, .inl ⟨_, rfl, ?_⟩⟩
      refine ⟨_, _, rfl, rfl, (by show (0 : Int) < 4611686018427387847; decide), _, rfl, _, _, rfl, rfl, ?_, ?_⟩
      · show (0 : Int) < (m : Int)
        omega
      dsimp only
      generalize (mx + 7919 * (t : Int) + 13) ^ (3 : Int).toNat % 2147483423 * 2147483399 + mx = z
      obtain ⟨v, hv, ev⟩ := emod_nat (z % 4611686018427387847) hm
      rw [ev]
      refine q _ v hv ⟨t + 1, cs, rs, by omega, h0, h64, hrl, n1, n2, n3, ?_, hc1, hr1⟩ fun b o z1 z2 e => ?_
      · rw [upd_same]
        rfl
      · rw [upd_ne z1]
        exact e

end
end Lb
set_option Elab.async false
set_option linter.all false
set_option maxRecDepth 100000
set_option maxHeartbeats 8000000
namespace Lb
open PySem PySem.Spec PyProof.Rows L2 RZ
section
variable {P : Program} {w : World} {K : PySem.W.Frag} {mg : Str → Option Value} {base : Heap}
theorem sc__law_deck : FnScope ["_law_script", "_law_cells", "_law_cell"] ["_law_script"] (defScope s__law_deck) := ⟨rfl, rfl, rfl, by decide +kernel, rfl, by decide +kernel, by decide +kernel⟩
theorem own_deck (D : Df K mg "_law_deck" s__law_deck) (B : Blt mg) : Own P w K mg base "_law_deck" 1 ["_law_script"] (spDeck K) := by
  refine own_of D sc__law_deck (fun _ _ _ _ _ _ us hl => match us, hl with | [_], _ => rfl) (fun vs H Q E h => ?_) (fun f cdv A outer s H vs Q E hr h => ?_)
  · obtain ⟨_, _, rfl, _⟩ := h
    rfl
  · obtain ⟨a, ns, rfl, hS, hl, q⟩ := h
    refine ⟨_, (pss_cons (ps_set (i := 1) sc__law_deck.nd rfl (.inl rfl) (pe_op op_cat (pe_callTy (T := "list") call_list_of (by rfl) B.b_list (by decide +kernel) (pa_cons (pe_slice sl_list (pv 0) po_none (po_some pe_int)) pa_nil)) (pe_op op_rep (pe_lst (pa_cons pe_int pa_nil)) (pe_callTy (T := "int") call_int1 (by rfl) B.b_int PyProof.Rows.boot_int (pa_cons (pe_cmpR op_eq (pe_callB (id := "len") call_len_seq (by rfl) B.b_len PySem.boot_len (pa_cons (pv 0) pa_nil)) pe_int (nomark _)) pa_nil)))))
      (pss_one (ps_ret (pe_lst (pa_cons (pv 1) (pa_cons pe_int (pa_cons (pe_lc (own := [("_law_cell", 2)]) (g := gName 2) (tt := tYes) rfl sc__law_deck.nd (pi_list (pv 1)) (blkOk_by (own := [("_law_cell", 2)]) (N := ["_law_script", "_law_cells", "_law_cell"]) (sc := defScope s__law_deck) (by decide +kernel)) (fun _ _ _ _ _ => (pg_name (i := 2) sc__law_deck.nd rfl (.inl rfl))) (fun _ _ _ _ _ => pts_nil) (fun _ _ _ _ _ => (pe_op op_mul (pv 2) (pe_callTy (T := "int") call_int1 (by rfl) B.b_int PyProof.Rows.boot_int (pa_cons (pe_cmpR op_ge (pv 2) (pe_op op_pow pe_int pe_int) (nomark _)) pa_nil))))) pa_nil))))))), ?_⟩
    -- list(script[:63])
    refine ⟨_, rfl, 63, rfl, a, _, rfl, hS, fun p1 z1 => ?_⟩
    have s1 := same_upd (o := .lst (cutV (ns.map V.int) none (some 63))) z1
    refine ⟨p1, _, rfl, .inl (SqL.of upd_same), fun p2 z2 => ?_⟩
    have s2 := s1.trans (same_upd (o := .lst (cutV (ns.map V.int) none (some 63))) z2)
    -- [0] * int(len(script) == 0)
    refine ⟨(by show 1 ≤ sizeLine; decide), fun p3 z3 => ?_⟩
    have s3 := s2.trans (same_upd (o := .lst [V.int 0]) z3)
    refine ⟨_, rfl, a, _, rfl, .inl (s3.seq hS), rfl, .inr ⟨_, rfl, ?_⟩⟩
    have hb : ∀ b : Bool, (-(2 ^ 63) : Int) ≤ (if b then 1 else 0) ∧ (if b then (1 : Int) else 0) < 2 ^ 63 ∧ [V.int 0].length * (if b then (1 : Int) else 0).toNat ≤ sizeLine := fun b => by cases b <;> decide
    obtain ⟨b1, b2, b3⟩ := hb (decide (V.int ((ns.map V.int).length : Int) = V.int 0))
    refine ⟨p3, _, _, rfl, rfl, upd_same, b1, b2, b3, fun p4 z4 => ?_⟩
    dsimp only
    generalize hcs : (List.replicate (if decide (V.int ((ns.map V.int).length : Int) = V.int 0) = true then (1 : Int) else 0).toNat [V.int 0]).flatten = more at *
    have s4 := s3.trans (same_upd (o := .lst more) z4)
    have e2 : upd (upd (upd (upd H p1 (.lst (cutV (ns.map V.int) none (some 63)))) p2 (.lst (cutV (ns.map V.int) none (some 63)))) p3 (.lst [V.int 0])) p4 (.lst more) p2 = some (.lst (cutV (ns.map V.int) none (some 63))) :=
      same_upd z4 _ _ (same_upd z3 _ _ upd_same)
    obtain ⟨zs, hz, hz2⟩ : ∃ zs : List Int, more = zs.map V.int ∧ 0 < ns.length + zs.length ∧ zs.length ≤ 1 := by
      rw [← hcs]
      cases ns with
      | nil => exact ⟨[0], rfl, by decide, by decide⟩
      | cons x xs => exact ⟨[], by
          rw [decide_eq_false (fun z => by
            have := V.int.inj z
            simp at this
            omega)]
          rfl, by simp, by simp⟩
    subst hz
    rw [cut63 ns hl] at *
    refine ⟨p2, p4, _, _, rfl, rfl, e2, upd_same, ?_, fun p5 z5 => ?_⟩
    · rw [List.length_map, List.length_map]
      exact Nat.le_of_lt (small1000 (by omega))
    generalize hH5 : upd (upd (upd (upd (upd H p1 (.lst (ns.map V.int))) p2 (.lst (ns.map V.int))) p3 (.lst [V.int 0])) p4 (.lst (zs.map V.int))) p5 (.lst (ns.map V.int ++ zs.map V.int)) = H5
    have e5 : H5 p5 = some (.lst ((ns ++ zs).map V.int)) := by
      rw [← hH5, upd_same, List.map_append]
    have s5 : Same H H5 := by
      rw [← hH5]
      exact s4.trans (same_upd z5)
    have f5 : H p5 = none := s4.free z5
    -- [cells, 0, [..]]
    refine ⟨_, rfl, _, rfl, p5, rfl, ⟨_, SqL.of e5⟩, fun D hD => ?_⟩
    have f6 : H D = none := s5.free hD
    have n56 : p5 ≠ D := ne_of_none e5 hD
    refine lc_list (K := K) (a := p5) (xs := (ns ++ zs).map V.int) (fun i H' => Same H5 H' ∧ ∃ rs : List Int, rs.length = i ∧ H' D = some (.lst (rs.map V.int)))
      ⟨same_upd hD, [], rfl, upd_same⟩ (fun i H' _ hP => hP.1.seq (SqL.of e5)) ?_ ?_
    · rintro i x H' hi ⟨sm, rs, hr1, hr2⟩
      have hlt : i < (ns ++ zs).length := by
        have := (List.getElem?_eq_some_iff.mp hi).1
        rw [List.length_map] at this
        exact this
      obtain ⟨u, rfl, _⟩ := int_at hi
      refine ⟨rfl, all_in ?_⟩
      refine ⟨_, rfl, _, rfl, _, _, rfl, rfl, ⟨by decide, by decide, by decide⟩, _, _, rfl, rfl, .inr ⟨_, rfl, ?_⟩⟩
      refine ⟨_, _, rfl, rfl, .inr ?_, rs.map V.int, hr2, ?_, ?_, ?_⟩
      · cases decide ((10 : Int) ^ (18 : Int).toNat ≤ u) <;> exact ⟨by decide, by decide⟩
      · rw [List.length_map]
        exact small1000 (by rw [List.length_append] at hlt; omega)
      · intro b o e
        rw [upd_ne (ne_of_none e hD)]
        exact sm _ _ e
      · refine ⟨rs ++ [u * (if decide ((10 : Int) ^ (18 : Int).toNat ≤ u) = true then 1 else 0)], by rw [List.length_append, hr1]; rfl, ?_⟩
        rw [upd_same, List.map_append]
        rfl
    · rintro H' ⟨sm, rs, hr1, hr2⟩
      rw [List.length_map] at hr1
      refine ⟨(by show 3 ≤ sizeLine; decide), fun p7 z7 => ?_⟩
      have s7 := same_upd (o := .lst [V.ref p5, V.int 0, V.ref D]) z7
      have a5 := s7 _ _ (sm _ _ e5)
      have aD := s7 _ _ hr2
      refine q _ p7 p5 D ((s5.trans sm).trans s7) ((s5.trans sm).free z7) f5 f6 ⟨0, ns ++ zs, rs, Nat.le_refl _, ?_, ?_, hr1, ?_, ?_, n56, upd_same, a5, aD⟩
      · rw [List.length_append]
        exact hz2.1
      · rw [List.length_append]
        omega
      · exact (ne_of_none (sm _ _ e5) z7).symm
      · exact (ne_of_none hr2 z7).symm

end
end Lb
set_option Elab.async false
set_option linter.all false
set_option maxRecDepth 100000
set_option maxHeartbeats 8000000
namespace Lb
open PySem PySem.Spec PyProof.Rows L2 RZ
section
variable {P : Program} {w : World} {K : PySem.W.Frag} {mg : Str → Option Value} {base : Heap}
theorem sc__law_one : FnScope ["_law_deck_here", "_law_items"] ["_law_deck_here", "_law_items"] (defScope s__law_one) := ⟨rfl, rfl, rfl, by decide +kernel, rfl, by decide +kernel, by decide +kernel⟩
theorem own_one (D : Df K mg "_law_one" s__law_one) (B : Blt mg) (O__law_draw : Own P w K mg base "_law_draw" 1 ["_law_deck_here", "_law_many"] spDraw) : Own P w K mg base "_law_one" 2 ["_law_deck_here", "_law_items"] spOne := by
  refine own_of D sc__law_one (fun _ _ _ _ _ _ us hl => match us, hl with | [_, _], _ => rfl) (fun vs H Q E h => ?_) (fun f cdv A outer s H vs Q E hr h => ?_)
  · obtain ⟨_, _, _, _, _, _, rfl, _⟩ := h
    rfl
  · obtain ⟨d, c, r, l, n, xs, rfl, dk, hn, el, nd, nr, h0, h1, q⟩ := h
    refine ⟨_, (pss_one (ps_ret (pe_ix ix_list (pv 1) (pe_own O__law_draw (hr.mono (by omega)) (by rfl) (pa_cons (pv 0) (pa_cons (pe_callB (id := "len") call_len_seq (by rfl) B.b_len PySem.boot_len (pa_cons (pv 1) pa_nil)) pa_nil))) (fun _ _ => rfl)))), ?_⟩
    refine ⟨_, rfl, _, rfl, _, rfl, l, _, rfl, .inl (SqL.of el), ?_⟩
    refine ⟨d, c, r, n, xs.length, rfl, dk, hn, h0, by omega, fun H' v hv dk' kp => ?_⟩
    exact ⟨l, xs, _, _, rfl, rfl, SqL.of (kp _ _ nd nr el), atI_nat (List.getElem?_eq_getElem hv), q H' v _ (List.getElem?_eq_getElem hv) dk' kp⟩

end
end Lb
set_option Elab.async false
set_option linter.all false
set_option maxRecDepth 100000
set_option maxHeartbeats 8000000
namespace Lb
open PySem PySem.Spec PyProof.Rows L2 RZ
section
variable {P : Program} {w : World} {K : PySem.W.Frag} {mg : Str → Option Value} {base : Heap}
theorem sc__law_plus : FnScope ["_law_one_here", "_law_other", "_law_own", "_law_more"] ["_law_one_here", "_law_other"] (defScope s__law_plus) := ⟨rfl, rfl, rfl, by decide +kernel, rfl, by decide +kernel, by decide +kernel⟩
theorem own_plus (D : Df K mg "_law_plus" s__law_plus) (B : Blt mg) : Own P w K mg base "_law_plus" 1 ["_law_one_here", "_law_other"] (spPlus K) := by
  refine own_of D sc__law_plus (fun _ _ _ _ _ _ us hl => match us, hl with | [_, _], _ => rfl) (fun vs H Q E h => ?_) (fun f cdv A outer s H vs Q E hr h => ?_)
  · obtain ⟨_, _, _, _, rfl, _⟩ := h
    rfl
  · obtain ⟨a, b, x, y, rfl, hA, hB, hl, hl2, q⟩ := h
    refine ⟨_, (pss_one (ps_ret (pe_callTy (T := "tuple") call_tuple_of (by rfl) B.b_tuple (by decide +kernel) (pa_cons (pe_lc (own := [("_law_own", 2), ("_law_more", 3)]) (g := gTup _ 2 (gCons (gName 2) (gCons (gName 3) gNil))) (tt := tYes) rfl sc__law_plus.nd (pi_zipA (by rfl) B.b_zip (pa_cons (pv 0) (pa_cons (pv 1) pa_nil))) (blkOk_by (own := [("_law_own", 2), ("_law_more", 3)]) (N := ["_law_one_here", "_law_other", "_law_own", "_law_more"]) (sc := defScope s__law_plus) (by decide +kernel)) (fun _ _ _ _ _ => (pg_tup rfl (pgs_cons (pg_name (i := 2) sc__law_plus.nd rfl (.inl rfl)) (pgs_cons (pg_name (i := 3) sc__law_plus.nd rfl (.inl rfl)) pgs_nil)))) (fun _ _ _ _ _ => pts_nil) (fun _ _ _ _ _ => (pe_op op_add (pv 2) (pv 3)))) pa_nil)))), ?_⟩
    refine ⟨_, rfl, _, rfl, a, b, _, _, rfl, .inr ⟨hA, hB, fun D hD => ?_⟩⟩
    refine lc_zipT (K := K) (xs := x.map V.int) (ys := y.map V.int) (by rw [List.length_map, List.length_map]; exact hl) (fun i H' => Same H H' ∧ H' D = some (.lst (((List.zipWith (· + ·) x y).take i).map V.int)))
      ⟨same_upd hD, upd_same⟩ (fun i H' hP => ⟨same_tup hP.1 hA, same_tup hP.1 hB⟩) ?_ ?_
    · rintro i u v T H' hu hv ⟨sm, eD⟩ hT
      obtain ⟨u, rfl, hu'⟩ := int_at hu
      obtain ⟨v, rfl, hv'⟩ := int_at hv
      have nTD : D ≠ T := ne_of_none eD hT
      refine ⟨T, _, rfl, .inl (.inl upd_same), rfl, _, _, rfl, _, _, rfl, rfl, rfl, all_in ?_⟩
      refine ⟨_, rfl, _, rfl, _, _, rfl, rfl, _, (same_upd hT) _ _ eD, ?_, ?_, ?_⟩
      · rw [List.length_map, List.length_take]
        refine small1000 (Nat.le_trans (Nat.min_le_right _ _) ?_)
        rw [List.length_zipWith]
        omega
      · intro b o e
        rw [upd_ne (ne_of_none e hD)]
        exact (same_upd hT) _ _ (sm _ _ e)
      · rw [upd_same, zip_take hu' hv', List.map_append]
        rfl
    · rintro H' ⟨sm, eD⟩
      have el : (List.zipWith (· + ·) x y).take (x.map V.int).length = List.zipWith (· + ·) x y := List.take_of_length_le (by rw [List.length_zipWith, List.length_map]; omega)
      rw [el] at eD
      refine ⟨D, _, rfl, .inl ⟨SqL.of eD, fun p hp => ?_⟩⟩
      exact q _ p (sm.trans (same_upd hp)) (sm.free hp) upd_same

end
end Lb
set_option Elab.async false
set_option linter.all false
set_option maxRecDepth 100000
set_option maxHeartbeats 8000000
namespace Lb
open PySem PySem.Spec PyProof.Rows L2 RZ
section
variable {P : Program} {w : World} {K : PySem.W.Frag} {mg : Str → Option Value} {base : Heap}
theorem sc__law_side : FnScope ["_law_deck_here", "_law_goods", "_law_most", "_law_row", "_law_k", "_law_at"] ["_law_deck_here", "_law_goods", "_law_most"] (defScope s__law_side) := ⟨rfl, rfl, rfl, by decide +kernel, rfl, by decide +kernel, by decide +kernel⟩
theorem own_side (D : Df K mg "_law_side" s__law_side) (B : Blt mg) (O__law_draw : Own P w K mg base "_law_draw" 1 ["_law_deck_here", "_law_many"] spDraw) : Own P w K mg base "_law_side" 2 ["_law_deck_here", "_law_goods", "_law_most"] spSide := by
  refine own_of D sc__law_side (fun _ _ _ _ _ _ us hl => match us, hl with | [_, _, _], _ => rfl) (fun vs H Q E h => ?_) (fun f cdv A outer s H vs Q E hr h => ?_)
  · obtain ⟨_, _, _, _, _, _, rfl, _⟩ := h
    rfl
  · obtain ⟨d, c, r, n, g, m, rfl, dk, hn, hg, hg2, hm, q⟩ := h
    refine ⟨_, (pss_cons (ps_set (i := 3) sc__law_side.nd rfl (.inl rfl) (pe_op op_rep (pe_lst (pa_cons pe_int pa_nil)) (pv 1)))
      (pss_cons (ps_for PassesOwn.never rfl (pi_range1 (by rfl) B.b_range (pa_cons (pe_own O__law_draw (hr.mono (by omega)) (by rfl) (pa_cons (pv 0) (pa_cons (pe_op op_add (pv 2) pe_int) pa_nil))) pa_nil)) (pg_name (i := 4) sc__law_side.nd rfl (.inl rfl))
        (pss_cons (ps_set (i := 5) sc__law_side.nd rfl (.inl rfl) (pe_own O__law_draw (hr.mono (by omega)) (by rfl) (pa_cons (pv 0) (pa_cons (pv 1) pa_nil))))
      (pss_one (ps_asg (pe_op op_add (pe_ix ix_list (pv 3) (pv 5) (fun _ _ => rfl)) (pe_callTy (T := "int") call_int1 (by rfl) B.b_int PyProof.Rows.boot_int (pa_cons (pe_cmpR op_lt (pe_ix ix_list (pv 3) (pv 5) (fun _ _ => rfl)) pe_int (nomark _)) pa_nil))) (pg_sub (pv 3) (pv 5) set_list)))))
      (pss_one (ps_ret (pe_callTy (T := "tuple") call_tuple_of (by rfl) B.b_tuple (by decide +kernel) (pa_cons (pv 3) pa_nil)))))), ?_⟩
    -- row = [0] * goods
    refine ⟨(by show 1 ≤ sizeLine; decide), fun p1 z1 => ?_⟩
    refine ⟨_, rfl, p1, _, _, rfl, rfl, upd_same, by omega, by omega, ?_, fun p2 z2 => ?_⟩
    · show 1 * (g : Int).toNat ≤ sizeLine
      exact Nat.le_of_lt (small1000 (by omega))
    have e0 : (List.replicate (g : Int).toNat [V.int 0]).flatten = (List.replicate g (0 : Int)).map V.int := by
      rw [Int.toNat_natCast, rep0]
    dsimp only
    rw [e0]
    have s2 : Same H (upd (upd H p1 (.lst [V.int 0])) p2 (.lst ((List.replicate g (0 : Int)).map V.int))) := (same_upd z1).trans (same_upd z2)
    generalize hH2 : upd (upd H p1 (.lst [V.int 0])) p2 (.lst ((List.replicate g (0 : Int)).map V.int)) = H2 at *
    have e2 : H2 p2 = some (.lst ((List.replicate g (0 : Int)).map V.int)) := by
      rw [← hH2, upd_same]
    have f2 : H p2 = none := (same_upd z1).free z2
    -- range(draw(deck, most + 1))
    refine ⟨_, rfl, _, rfl, _, _, rfl, rfl, ?_⟩
    refine ⟨d, c, r, n, m + 1, rfl, dk.same s2, by omega, by omega, by omega, fun H3 v hv dk3 k3 => ?_⟩
    have nd := dk.nd f2
    refine ⟨(v : Int), rfl, by omega, by omega, ?_⟩
    rw [Int.toNat_natCast]
    refine for_range (n := v) (fun i σ H' => ∃ (y4 y5 : Option V) (b : List Int), σ = [some (.ref d), some (.int (g : Int)), some (.int (m : Int)), some (.ref p2), y4, y5] ∧ Dk H' d c r (n + 1 + i) ∧ Kp d r H H' ∧ H' p2 = some (.lst (b.map V.int)) ∧ Side g i b)
      ⟨none, none, List.replicate g 0, rfl, dk3, (Kp.of s2).trans k3, k3 _ _ nd.1 nd.2.1 e2, ?_⟩ ?_ ?_
    · refine ⟨List.length_replicate, fun x hx => ?_, ?_⟩
      · rw [(List.mem_replicate.mp hx).2]
        exact ⟨by decide, by decide⟩
      · rw [sum_rep0]
        exact Int.le_refl _
    · rintro i σ H4 hi ⟨y4, y5, b, rfl, dk4, k4, eb, sd⟩
      -- at = draw(deck, goods)
      refine ⟨_, rfl, _, rfl, d, c, r, n + 1 + i, g, rfl, dk4, by omega, hg, by omega, fun H5 j hj dk5 k5 => ?_⟩
      have eb5 : H5 p2 = some (.lst (b.map V.int)) := k5 _ _ nd.1 nd.2.1 eb
      have hjb : j < b.length := by
        rw [sd.len]
        exact hj
      -- row[at] = row[at] + int(row[at] < 3)
      refine ⟨_, rfl, _, rfl, p2, _, _, _, rfl, rfl, SqL.of eb5, nat_at hjb, ?_⟩
      refine ⟨_, rfl, _, rfl, p2, _, _, _, rfl, rfl, SqL.of eb5, nat_at hjb, _, _, rfl, rfl, .inr ⟨_, rfl, ?_⟩⟩
      refine ⟨_, _, rfl, rfl, ?_⟩
      refine ⟨_, rfl, _, rfl, p2, _, _, j, rfl, rfl, eb5, ixN_nat (by rw [List.length_map]; exact hjb), ?_⟩
      have hm0 : b.getD j 0 ∈ b := by
        rw [List.getD_eq_getElem?_getD, List.getElem?_eq_getElem hjb]
        exact List.getElem_mem hjb
      have hm1 := sd.amt _ hm0
      have hst : (b.set j (b.getD j 0 + (if decide (b.getD j 0 < 3) = true then 1 else 0))).sum = b.sum - b.getD j 0 + (b.getD j 0 + (if decide (b.getD j 0 < 3) = true then 1 else 0)) :=
        sum_set (by rw [List.getD_eq_getElem?_getD, List.getElem?_eq_getElem hjb]; rfl)
      refine ⟨_, _, b.set j (b.getD j 0 + (if decide (b.getD j 0 < 3) = true then 1 else 0)), rfl, ?_, ?_, ?_, ?_, ?_, ?_⟩
      · have n2 : p2 ≠ d := nd.1
        have n3 : p2 ≠ r := nd.2.1
        have n4 : p2 ≠ c := nd.2.2
        obtain ⟨t, cs, rs, g1, g2, g3, g4, g5, g6, g7, w1, w2, w3⟩ := dk5
        exact ⟨t, cs, rs, g1, g2, g3, g4, g5, g6, g7, by rw [upd_ne n2.symm]; exact w1, by rw [upd_ne n4.symm]; exact w2, by rw [upd_ne n3.symm]; exact w3⟩
      · intro z o z1 z2 ez
        rw [upd_ne (ne_of_none ez f2)]
        exact k5 _ _ z1 z2 (k4 _ _ z1 z2 ez)
      · rw [upd_same, List.map_set]
      · rw [List.length_set]
        exact sd.len
      · intro x hx
        rcases List.mem_or_eq_of_mem_set hx with h | h
        · exact sd.amt x h
        · rw [h]
          by_cases h3 : b.getD j 0 < 3
          · rw [decide_eq_true h3, if_pos rfl]
            omega
          · rw [decide_eq_false h3, if_neg Bool.false_ne_true]
            omega
      · rw [hst]
        have := sd.tot
        by_cases h3 : b.getD j 0 < 3
        · rw [decide_eq_true h3, if_pos rfl]
          omega
        · rw [decide_eq_false h3, if_neg Bool.false_ne_true]
          omega
    · rintro σ H4 ⟨y4, y5, b, rfl, dk4, k4, eb, sd⟩
      refine ⟨_, rfl, p2, _, rfl, .inl ⟨SqL.of eb, fun p hp => ?_⟩⟩
      have sp := same_upd (o := .tup (b.map V.int)) hp
      refine q _ p b (sd.mono (by omega)) ?_ upd_same ((dk4.same sp).mono (by omega)) (k4.trans (Kp.of sp))
      cases e : H p with
      | none => rfl
      | some o =>
        have := dk4.nd hp
        rw [k4 _ _ this.1 this.2.1 e] at hp
        cases hp

end
end Lb
set_option Elab.async false
set_option linter.all false
set_option maxRecDepth 100000
set_option maxHeartbeats 8000000
namespace Lb
open PySem PySem.Spec PyProof.Rows L2 RZ
section
variable {P : Program} {w : World} {K : PySem.W.Frag} {mg : Str → Option Value} {base : Heap}
theorem sc__law_trade : FnScope ["_law_deck_here", "_law_goods", "_law_most", "_law_at", "_law_many", "_law_beside", "_law_good", "_law_one_here", "_law_other"] ["_law_deck_here", "_law_goods", "_law_most"] (defScope s__law_trade) := ⟨rfl, rfl, rfl, by decide +kernel, rfl, by decide +kernel, by decide +kernel⟩
theorem own_trade (D : Df K mg "_law_trade" s__law_trade) (B : Blt mg) (O__law_draw : Own P w K mg base "_law_draw" 1 ["_law_deck_here", "_law_many"] spDraw) (O__law_side : Own P w K mg base "_law_side" 2 ["_law_deck_here", "_law_goods", "_law_most"] spSide)
    (O__law_plus : Own P w K mg base "_law_plus" 1 ["_law_one_here", "_law_other"] (spPlus K)) : Own P w K mg base "_law_trade" 3 ["_law_deck_here", "_law_goods", "_law_most"] spTrade := by
  refine own_of D sc__law_trade (fun _ _ _ _ _ _ us hl => match us, hl with | [_, _, _], _ => rfl) (fun vs H Q E h => ?_) (fun f cdv A outer s H vs Q E hr h => ?_)
  · obtain ⟨_, _, _, _, _, _, _, rfl, _⟩ := h
    rfl
  · obtain ⟨R, d, c, r, n, g, m, rfl, dk, hn, hg, hg2, hm, rg, q⟩ := h
    refine ⟨_, (pss_cons (ps_if (PW.pt (pw_or (pt_cmpR op_lt (pv 2) pe_int (nomark _)) (pw_or1 (pt_cmpR op_eq (pe_own O__law_draw (hr.mono (by omega)) (by rfl) (pa_cons (pv 0) (pa_cons pe_int pa_nil))) pe_int (nomark _))))) (pss_one (ps_ret (pe_tup (pa_cons (pe_own O__law_side (hr.mono (by omega)) (by rfl) (pa_cons (pv 0) (pa_cons (pv 1) (pa_cons (pv 2) pa_nil)))) (pa_cons (pe_own O__law_side (hr.mono (by omega)) (by rfl) (pa_cons (pv 0) (pa_cons (pv 1) (pa_cons (pv 2) pa_nil)))) pa_nil))))) pss_nil)
      (pss_cons (ps_asg (pe_tup (pa_cons (pe_own O__law_draw (hr.mono (by omega)) (by rfl) (pa_cons (pv 0) (pa_cons (pv 1) pa_nil))) (pa_cons (pe_op op_add pe_int (pe_own O__law_draw (hr.mono (by omega)) (by rfl) (pa_cons (pv 0) (pa_cons (pe_op op_sub (pv 2) pe_int) pa_nil)))) pa_nil))) (pg_tup rfl (pgs_cons (pg_name (i := 3) sc__law_trade.nd rfl (.inr rfl)) (pgs_cons (pg_name (i := 4) sc__law_trade.nd rfl (.inr rfl)) pgs_nil))))
      (pss_cons (ps_set (i := 5) sc__law_trade.nd rfl (.inl rfl) (pe_callTy (T := "tuple") call_tuple_of (by rfl) B.b_tuple (by decide +kernel) (pa_cons (pe_lc (own := [("_law_good", 6)]) (g := gName 6) (tt := tYes) rfl sc__law_trade.nd (pi_range1 (by rfl) B.b_range (pa_cons (pv 1) pa_nil)) (blkOk_by (own := [("_law_good", 6)]) (N := ["_law_deck_here", "_law_goods", "_law_most", "_law_at", "_law_many", "_law_beside", "_law_good", "_law_one_here", "_law_other"]) (sc := defScope s__law_trade) (by decide +kernel)) (fun _ _ _ _ _ => (pg_name (i := 6) sc__law_trade.nd rfl (.inl rfl))) (fun _ _ _ _ _ => pts_nil) (fun _ _ _ _ _ => (pe_op op_mul (pv 4) (pe_callTy (T := "int") call_int1 (by rfl) B.b_int PyProof.Rows.boot_int (pa_cons (pe_cmpR op_eq (pv 6) (pv 3) (nomark _)) pa_nil))))) pa_nil)))
      (pss_cons (ps_par (i := 7) (j := 8) rfl sc__law_trade.nd rfl rfl (by decide) rfl rfl (pa_cons (pe_own O__law_side (hr.mono (by omega)) (by rfl) (pa_cons (pv 0) (pa_cons (pv 1) (pa_cons pe_int pa_nil)))) (pa_cons (pe_own O__law_side (hr.mono (by omega)) (by rfl) (pa_cons (pv 0) (pa_cons (pv 1) (pa_cons pe_int pa_nil)))) pa_nil)) rfl)
      (pss_one (ps_ret (pe_ifExp (pt_cmpR op_lt (pv 4) pe_int (nomark _)) (pe_tup (pa_cons (pe_own O__law_plus (hr.mono (by omega)) (by rfl) (pa_cons (pv 7) (pa_cons (pv 5) pa_nil))) (pa_cons (pe_own O__law_plus (hr.mono (by omega)) (by rfl) (pa_cons (pv 8) (pa_cons (pv 5) pa_nil))) pa_nil))) (pe_tup (pa_cons (pe_own O__law_plus (hr.mono (by omega)) (by rfl) (pa_cons (pv 7) (pa_cons (pv 5) pa_nil))) (pa_cons (pv 5) pa_nil)))))))))), ?_⟩
    refine ⟨_, rfl, _, _, rfl, rfl, _, rfl, ite2 (fun hlt => ?_) (fun hlt => ?_)⟩
    · refine iteT ?_
      exact two_sides rfl rfl rfl dk (by omega) hg hg2 hm rg fun H' v t ok dt dk' k' => q H' v t ok dt (dk'.mono (by omega)) k'
    have hm3 : 3 ≤ m := by
      have : ¬ (m : Int) < 3 := fun z => hlt (decide_eq_true z)
      omega
    refine ⟨_, rfl, d, c, r, n, 2, rfl, dk, by omega, by omega, by omega, fun H1 v hv dk1 k1 => ?_⟩
    refine ⟨rfl, _, rfl, ite2 (fun _ => ?_) (fun _ => ?_)⟩
    · exact two_sides rfl rfl rfl dk1 (by omega) hg hg2 hm (rg.kp k1 dk1) fun H' v t ok dt dk' k' => q H' v t ok dt (dk'.mono (by omega)) (k1.trans k')
    have rg1 := rg.kp k1 dk1
    -- at, many = draw(deck, goods), 1 + draw(deck, most - 2)
    refine ⟨_, rfl, _, rfl, d, c, r, n + 1, g, rfl, dk1, by omega, hg, by omega, fun H2 at_ ha dk2 k2 => ?_⟩
    refine ⟨_, rfl, _, rfl, _, _, rfl, rfl, ?_⟩
    have em : (m : Int) - 2 = ((m - 2 : Nat) : Int) := by omega
    refine ⟨d, c, r, n + 1 + 1, m - 2, by dsimp only; rw [em]; rfl, dk2, by omega, by omega, by omega, fun H3 mm hmm dk3 k3 => ?_⟩
    refine ⟨_, _, rfl, rfl, ?_⟩
    have rg3 := (rg1.kp k2 dk2).kp k3 dk3
    have hmm1 : (1 : Int) + (mm : Int) ≤ 2 := by omega
    refine ⟨(by show 2 ≤ sizeLine; decide), fun p4 z4 => ?_⟩
    have s4 := same_upd (o := .tup [V.int (at_ : Int), V.int (1 + (mm : Int))]) z4
    refine ⟨p4, _, rfl, .inl (.inl upd_same), rfl, _, _, rfl, _, _, rfl, rfl, ?_⟩
    generalize upd H3 p4 (.tup [V.int (at_ : Int), V.int (1 + (mm : Int))]) = H4 at *
    have dk4 := dk3.same s4
    -- beside = tuple([many * int(good == at) for good in range(goods)])
    refine ⟨_, rfl, (g : Int), rfl, by omega, by omega, fun D hD => ?_⟩
    rw [Int.toNat_natCast]
    refine lc_range (lo := 0) (n := g) (fun i H' => Same H4 H' ∧ H' D = some (.lst ((besideL i at_ (1 + (mm : Int))).map V.int))) ⟨same_upd hD, upd_same⟩ ?_ ?_
    · rintro i H' hi ⟨sm, eD⟩
      refine ⟨rfl, all_in ?_⟩
      refine ⟨_, rfl, _, rfl, _, rfl, rfl, .inr ⟨_, rfl, ?_⟩⟩
      refine ⟨_, _, rfl, rfl, .inl ⟨by omega, by omega⟩, _, eD, ?_, ?_, ?_⟩
      · rw [List.length_map, beside_len]
        exact small1000 (by omega)
      · intro b o e
        rw [upd_ne (ne_of_none e hD)]
        exact sm _ _ e
      · rw [upd_same]
        unfold besideL
        rw [List.range_succ, List.map_append, List.map_append]
        rfl
    rintro H5 ⟨s5, eD⟩
    refine ⟨D, _, rfl, .inl ⟨SqL.of eD, fun p6 z6 => ?_⟩⟩
    have s6 := same_upd (o := .tup ((besideL g at_ (1 + (mm : Int))).map V.int)) z6
    have e6 : upd H5 p6 (.tup ((besideL g at_ (1 + (mm : Int))).map V.int)) p6 = some (.tup ((besideL g at_ (1 + (mm : Int))).map V.int)) := upd_same
    have s46 := s5.trans s6
    have f6 : H4 p6 = none := s5.free z6
    generalize upd H5 p6 (.tup ((besideL g at_ (1 + (mm : Int))).map V.int)) = H6 at *
    have dk6 := dk4.same s46
    have k6 : Kp d r H H6 := ((k1.trans k2).trans k3).trans (Kp.of (s4.trans s46))
    have rg6 : Rg R H6 d r := rg3.same (s4.trans s46)
    have r6 : R p6 := (rg3.same s4).new _ f6
    -- one, other = side(deck, goods, 1), side(deck, goods, 2)
    refine ⟨_, rfl, _, rfl, d, c, r, _, g, 1, rfl, dk6, by omega, hg, by omega, by omega, fun H7 p7 b7 sd7 f7 e7 dk7 k7 => ?_⟩
    refine ⟨_, rfl, _, rfl, d, c, r, _, g, 2, rfl, dk7, by omega, hg, by omega, by omega, fun H8 p8 b8 sd8 f8 e8 dk8 k8 => ?_⟩
    refine ⟨_, _, rfl, ?_⟩
    have nd6 := dk4.nd f6
    have nd7 := dk6.nd f7
    have e68 : H8 p6 = some (.tup ((besideL g at_ (1 + (mm : Int))).map V.int)) := k8 _ _ nd6.1 nd6.2.1 (k7 _ _ nd6.1 nd6.2.1 e6)
    have e78 : H8 p7 = some (.tup (b7.map V.int)) := k8 _ _ nd7.1 nd7.2.1 e7
    have rg7 := rg6.kp k7 dk7
    have rg8 := rg7.kp k8 dk8
    have r7 : R p7 := rg6.new _ f7
    have r8 : R p8 := rg7.new _ f8
    have k68 : Kp d r H H8 := (k6.trans k7).trans k8
    refine ⟨_, rfl, _, _, rfl, rfl, _, rfl, ite2 (fun hl => ?_) (fun hl => ?_)⟩
    · have hl1 : (1 : Int) + (mm : Int) < 2 := of_decide_eq_true hl
      refine ⟨_, rfl, _, rfl, p7, p6, _, _, rfl, .inl (.inl e78), .inl (.inl e68), by rw [sd7.len, beside_len], by rw [sd7.len]; omega, fun H9 p9 s9 f9 e9 => ?_⟩
      refine ⟨_, rfl, _, rfl, p8, p6, _, _, rfl, .inl (.inl (s9 _ _ e8)), .inl (.inl (s9 _ _ e68)), by rw [sd8.len, beside_len], by rw [sd8.len]; omega, fun H10 p10 s10 f10 e10 => ?_⟩
      refine ⟨(by show 2 ≤ sizeLine; decide), fun p11 z11 => ?_⟩
      have s11 := same_upd (o := .tup [V.ref p9, V.ref p10]) z11
      have rg9 := rg8.same s9
      have rg10 := rg9.same s10
      refine q _ _ (_, _) ⟨(side_plus sd7 (by omega) (by omega)).mono hm3, (side_plus sd8 (by omega) (by omega)).mono hm3⟩
        (.tup (rg10.new _ z11) upd_same (.cons (Dat.mkBag (rg8.new _ f9) (s11 _ _ (s10 _ _ e9))) (.cons (Dat.mkBag (rg9.new _ f10) (s11 _ _ e10)) .nil)))
        ((dk8.same ((s9.trans s10).trans s11)).mono (by omega)) (k68.trans (Kp.of ((s9.trans s10).trans s11)))
    · refine ⟨_, rfl, _, rfl, p7, p6, _, _, rfl, .inl (.inl e78), .inl (.inl e68), by rw [sd7.len, beside_len], by rw [sd7.len]; omega, fun H9 p9 s9 f9 e9 => ?_⟩
      refine ⟨_, rfl, (by show 2 ≤ sizeLine; decide), fun p11 z11 => ?_⟩
      have s11 := same_upd (o := .tup [V.ref p9, V.ref p6]) z11
      have rg9 := rg8.same s9
      refine q _ _ (_, _) ⟨(side_plus sd7 (by omega) (by omega)).mono hm3, (side_beside (by omega) (by omega)).mono hm3⟩
        (.tup (rg9.new _ z11) upd_same (.cons (Dat.mkBag (rg8.new _ f9) (s11 _ _ e9)) (.cons (Dat.mkBag r6 (s11 _ _ (s9 _ _ e68))) .nil)))
        ((dk8.same (s9.trans s11)).mono (by omega)) (k68.trans (Kp.of (s9.trans s11)))

end
end Lb
set_option Elab.async false
set_option linter.all false
set_option maxRecDepth 100000
set_option maxHeartbeats 8000000
namespace Lb
open PySem PySem.Spec PyProof.Rows L2 RZ
section
variable {P : Program} {w : World} {K : PySem.W.Frag} {mg : Str → Option Value} {base : Heap}
theorem sc__law_market : FnScope ["_law_deck_here", "_law_goods", "_law_trades", "_law_most", "_law_k"] ["_law_deck_here", "_law_goods", "_law_trades", "_law_most"] (defScope s__law_market) := ⟨rfl, rfl, rfl, by decide +kernel, rfl, by decide +kernel, by decide +kernel⟩
theorem own_market (D : Df K mg "_law_market" s__law_market) (B : Blt mg) (O__law_draw : Own P w K mg base "_law_draw" 1 ["_law_deck_here", "_law_many"] spDraw) (O__law_trade : Own P w K mg base "_law_trade" 3 ["_law_deck_here", "_law_goods", "_law_most"] spTrade) :
    Own P w K mg base "_law_market" 4 ["_law_deck_here", "_law_goods", "_law_trades", "_law_most"] spMarket := by
  refine own_of D sc__law_market (fun _ _ _ _ _ _ us hl => match us, hl with | [_, _, _, _], _ => rfl) (fun vs H Q E h => ?_) (fun f cdv A outer s H vs Q E hr h => ?_)
  · obtain ⟨_, _, _, _, _, _, _, _, rfl, _⟩ := h
    rfl
  · obtain ⟨R, d, c, r, n, g, tr, m, rfl, dk, hn, hg, hg2, ht, hm, rg, q⟩ := h
    refine ⟨_, (pss_one (ps_ret (pe_tup (pa_cons (pv 1) (pa_cons (pe_callTy (T := "tuple") call_tuple_of (by rfl) B.b_tuple (by decide +kernel) (pa_cons (pe_lc (own := [("_law_k", 4)]) (g := gName 4) (tt := tYes) rfl sc__law_market.nd (pi_range1 (by rfl) B.b_range (pa_cons (pe_own O__law_draw (hr.mono (by omega)) (by rfl) (pa_cons (pv 0) (pa_cons (pe_op op_add (pv 2) pe_int) pa_nil))) pa_nil)) (blkOk_by (own := [("_law_k", 4)]) (N := ["_law_deck_here", "_law_goods", "_law_trades", "_law_most", "_law_k"]) (sc := defScope s__law_market) (by decide +kernel)) (fun _ _ _ _ _ => (pg_name (i := 4) sc__law_market.nd rfl (.inl rfl))) (fun _ _ _ _ _ => pts_nil) (fun _ _ _ _ _ => (pe_own O__law_trade (hr.mono (by omega)) (by rfl) (pa_cons (pv 0) (pa_cons (pv 1) (pa_cons (pv 3) pa_nil)))))) pa_nil)) pa_nil))))), ?_⟩
    refine ⟨_, rfl, _, rfl, _, rfl, _, _, rfl, rfl, ?_⟩
    refine ⟨d, c, r, n, tr + 1, rfl, dk, by omega, by omega, by omega, fun H1 v hv dk1 k1 => ?_⟩
    refine ⟨(v : Int), rfl, by omega, by omega, fun L hL => ?_⟩
    rw [Int.toNat_natCast]
    have rg1 := rg.kp k1 dk1
    have ndL := dk1.nd hL
    refine lc_range (lo := 0) (n := v) (fun i H' => ∃ (ts : List Trd) (vs : List V), ts.length = i ∧ (∀ t ∈ ts, TrdOk g m t) ∧ H' L = some (.lst vs) ∧ Dats (wo R L) H' vs (ts.map trdD) ∧ Dk H' d c r (n + 1 + 20 * i) ∧ Kp d r H1 H' ∧ Rg R H' d r)
      ⟨[], [], rfl, (fun _ z => nomatch z), upd_same, .nil, dk1.same (same_upd hL), Kp.of (same_upd hL), rg1.same (same_upd hL)⟩ ?_ ?_
    · rintro i H2 hi ⟨ts, vs, hl, ok, eL, dt, dk2, k2, rg2⟩
      refine ⟨rfl, all_in ?_⟩
      refine ⟨_, rfl, _, rfl, _, rfl, wo R L, d, c, r, _, g, m, rfl, dk2, by omega, hg, hg2, hm, wo_rg rg2 eL, fun H3 u t tok dtu dk3 k3 => ?_⟩
      have eL3 : H3 L = some (.lst vs) := k3 _ _ ndL.1 ndL.2.1 eL
      have rg3 := rg2.kp k3 dk3
      refine ⟨vs, eL3, ?_, ?_⟩
      · rw [dt.length, List.length_map, hl]
        exact small1000 (by omega)
      refine ⟨ts ++ [t], vs ++ [u], by rw [List.length_append, hl]; rfl, ?_, upd_same, ?_, ?_, ?_, ?_⟩
      · intro t' ht'
        rcases List.mem_append.mp ht' with h | h
        · exact ok t' h
        · rw [List.mem_singleton.mp h]
          exact tok
      · rw [List.map_append]
        have onW : On (wo R L) H2 H3 := fun b o hb e => k3 b o (fun z => rg2.nd (z ▸ hb.1)) (fun z => rg2.nr (z ▸ hb.1)) e
        exact ((dt.on onW).append (.cons dtu .nil)).on wo_on
      · obtain ⟨t', cs, rs, g1, g2, g3, g4, g5, g6, g7, w1, w2, w3⟩ := dk3
        exact ⟨t', cs, rs, by omega, g2, g3, g4, g5, g6, g7, by rw [upd_ne ndL.1.symm]; exact w1, by rw [upd_ne ndL.2.2.symm]; exact w2, by rw [upd_ne ndL.2.1.symm]; exact w3⟩
      · intro b o z1 z2 e
        rw [upd_ne (ne_of_none e hL)]
        exact k3 _ _ z1 z2 (k2 _ _ z1 z2 e)
      · refine ⟨rg3.nd, rg3.nr, fun p hp => rg3.new p ?_⟩
        by_cases hpL : p = L
        · rw [hpL, upd_same] at hp
          cases hp
        · rw [upd_ne hpL] at hp
          exact hp
    · rintro H2 ⟨ts, vs, hl, ok, eL, dt, dk2, k2, rg2⟩
      refine ⟨L, _, rfl, .inl ⟨SqL.of eL, fun p3 z3 => ?_⟩⟩
      have s3 := same_upd (o := .tup vs) z3
      refine ⟨(by show 2 ≤ sizeLine; decide), fun p4 z4 => ?_⟩
      have s4 := same_upd (o := .tup [V.int (g : Int), V.ref p3]) z4
      have dR : Dats R H2 vs (ts.map trdD) := dt.sub fun b o hb _ => hb.1
      refine q _ _ ts (by omega) ok (.tup ((rg2.same s3).new _ z4) upd_same (.cons (.int _) (.cons (.tup (rg2.new _ z3) (s4 _ _ upd_same) (dR.same (s3.trans s4))) .nil))) ((dk2.same (s3.trans s4)).mono (by omega)) ((k1.trans k2).trans (Kp.of (s3.trans s4)))

end
end Lb
set_option Elab.async false
set_option linter.all false
set_option maxRecDepth 100000
set_option maxHeartbeats 8000000
namespace Lb
open PySem PySem.Spec PyProof.Rows L2 RZ
section
variable {P : Program} {w : World} {K : PySem.W.Frag} {mg : Str → Option Value} {base : Heap}
theorem sc__law_any_market : FnScope ["_law_deck_here", "_law_goods"] ["_law_deck_here"] (defScope s__law_any_market) := ⟨rfl, rfl, rfl, by decide +kernel, rfl, by decide +kernel, by decide +kernel⟩
theorem own_any (D : Df K mg "_law_any_market" s__law_any_market) (B : Blt mg) (O__law_draw : Own P w K mg base "_law_draw" 1 ["_law_deck_here", "_law_many"] spDraw) (O__law_market : Own P w K mg base "_law_market" 4 ["_law_deck_here", "_law_goods", "_law_trades", "_law_most"] spMarket) :
    Own P w K mg base "_law_any_market" 5 ["_law_deck_here"] spAny := by
  refine own_of D sc__law_any_market (fun _ _ _ _ _ _ us hl => match us, hl with | [_], _ => rfl) (fun vs H Q E h => ?_) (fun f cdv A outer s H vs Q E hr h => ?_)
  · obtain ⟨_, _, _, _, _, rfl, _⟩ := h
    rfl
  · obtain ⟨R, d, c, r, n, rfl, dk, hn, rg, q⟩ := h
    refine ⟨_, (pss_cons (ps_set (i := 1) sc__law_any_market.nd rfl (.inl rfl) (pe_op op_add pe_int (pe_own O__law_draw (hr.mono (by omega)) (by rfl) (pa_cons (pv 0) (pa_cons pe_int pa_nil)))))
      (pss_one (ps_ret (pe_own O__law_market (hr.mono (by omega)) (by rfl) (pa_cons (pv 0) (pa_cons (pv 1) (pa_cons (pe_ifExp (pt_cmpR op_lt (pv 1) pe_int (nomark _)) pe_int (pe_op op_sub pe_int (pv 1))) (pa_cons (pe_ifExp (pt_cmpR op_lt (pv 1) pe_int (nomark _)) pe_int pe_int) pa_nil)))))))), ?_⟩
    refine ⟨_, rfl, d, c, r, n, 4, rfl, dk, by omega, by omega, by omega, fun H1 v hv dk1 k1 => ?_⟩
    refine ⟨_, _, rfl, rfl, ?_⟩
    have eg : (1 : Int) + (v : Int) = ((1 + v : Nat) : Int) := by omega
    dsimp only
    rw [eg]
    have rg1 := rg.kp k1 dk1
    refine ⟨_, rfl, _, rfl, ?_⟩
    by_cases hlt : ((1 + v : Nat) : Int) < 3
    · refine ⟨_, rfl, _, _, rfl, rfl, _, rfl, ?_⟩
      rw [decide_eq_true hlt]
      refine iteT ?_
      refine ⟨_, rfl, _, _, rfl, rfl, _, rfl, ?_⟩
      rw [decide_eq_true hlt]
      refine iteT ?_
      refine ⟨R, d, c, r, n + 1, 1 + v, 4, 4, rfl, dk1, by omega, by omega, by omega, by omega, by omega, rg1, fun H' u ts hl ok dt dk' k' => ?_⟩
      exact q H' u (1 + v) ts ⟨by omega, by omega, hl, ok⟩ dt (dk'.mono (by omega)) (k1.trans k')
    · refine ⟨_, rfl, _, _, rfl, rfl, _, rfl, ?_⟩
      rw [decide_eq_false hlt]
      refine iteF ?_
      refine ⟨_, rfl, _, _, rfl, rfl, ?_⟩
      refine ⟨_, rfl, _, _, rfl, rfl, _, rfl, ?_⟩
      rw [decide_eq_false hlt]
      refine iteF ?_
      have e5 : (5 : Int) - ((1 + v : Nat) : Int) = ((4 - v : Nat) : Int) := by omega
      refine ⟨R, d, c, r, n + 1, 1 + v, 4 - v, 3, by dsimp only; rw [e5]; rfl, dk1, by omega, by omega, by omega, by omega, by omega, rg1, fun H' u ts hl ok dt dk' k' => ?_⟩
      exact q H' u (1 + v) ts ⟨by omega, by omega, by omega, fun t ht => ⟨(ok t ht).1.mono (by omega), (ok t ht).2.mono (by omega)⟩⟩ dt (dk'.mono (by omega)) (k1.trans k')

end
end Lb
set_option Elab.async false
set_option linter.all false
set_option maxRecDepth 100000
set_option maxHeartbeats 8000000
namespace Lb
open PySem PySem.Spec PyProof.Rows L2 RZ
section
variable {P : Program} {w : World} {K : PySem.W.Frag} {mg : Str → Option Value} {base : Heap}
theorem sc_is_whole : FnScope ["value"] ["value"] (defScope s_is_whole) := ⟨rfl, rfl, rfl, by decide +kernel, rfl, by decide +kernel, by decide +kernel⟩
theorem own_whole (D : Df K mg "is_whole" s_is_whole) (B : Blt mg) : Own P w K mg base "is_whole" 1 ["value"] spWhole := by
  refine own_of D sc_is_whole (fun _ _ _ _ _ _ us hl => match us, hl with | [_], _ => rfl) (fun vs H Q E h => ?_) (fun f cdv A outer s H vs Q E hr h => ?_)
  · obtain ⟨_, _, _, rfl, _⟩ := h
    rfl
  · obtain ⟨R, v, d, rfl, dt, q⟩ := h
    refine ⟨_, (pss_one (ps_ret (pe_and (pe_callB (id := "isinstance") call_isi (by rfl) B.b_isinstance (by decide +kernel) (pa_cons (pv 0) (pa_cons (pe_bltn (v := .ty "int") (u := .type "int") (by rfl) B.b_int (by decide +kernel) rfl) pa_nil))) (pe_one (pe_not (pe_callB (id := "isinstance") call_isi (by rfl) B.b_isinstance (by decide +kernel) (pa_cons (pv 0) (pa_cons (pe_bltn (v := .ty "bool") (u := .type "bool") (by rfl) B.b_bool (by decide +kernel) rfl) pa_nil)))))))), ?_⟩
    rw [whole_eq] at q
    refine ⟨_, rfl, _, _, _, _, _, rfl, .ty _, dat_ty dt, kit_ty (kit_int d), _, rfl, ?_⟩
    cases e : isInt d with
    | true =>
      rw [e] at q
      exact iteT ⟨_, rfl, _, _, _, _, _, rfl, .ty _, dat_ty dt, kit_ty (kit_bool d), _, rfl, q⟩
    | false =>
      rw [e] at q
      exact iteF q

end
end Lb
set_option Elab.async false
set_option linter.all false
set_option maxRecDepth 100000
set_option maxHeartbeats 8000000
namespace Lb
open PySem PySem.Spec PyProof.Rows L2 RZ
section
variable {P : Program} {w : World} {K : PySem.W.Frag} {mg : Str → Option Value} {base : Heap}
theorem sc_is_pair : FnScope ["value"] ["value"] (defScope s_is_pair) := ⟨rfl, rfl, rfl, by decide +kernel, rfl, by decide +kernel, by decide +kernel⟩
theorem own_pair (D : Df K mg "is_pair" s_is_pair) (B : Blt mg) : Own P w K mg base "is_pair" 1 ["value"] spPair := by
  refine own_of D sc_is_pair (fun _ _ _ _ _ _ us hl => match us, hl with | [_], _ => rfl) (fun vs H Q E h => ?_) (fun f cdv A outer s H vs Q E hr h => ?_)
  · obtain ⟨_, _, _, rfl, _⟩ := h
    rfl
  · obtain ⟨R, v, d, rfl, dt, q⟩ := h
    refine ⟨_, (pss_one (ps_ret (pe_and (pe_callB (id := "isinstance") call_isi (by rfl) B.b_isinstance (by decide +kernel) (pa_cons (pv 0) (pa_cons (pe_bltn (v := .ty "tuple") (u := .type "tuple") (by rfl) B.b_tuple (by decide +kernel) rfl) pa_nil))) (pe_one (pe_cmpR op_eq (pe_callB (id := "len") call_len_seq (by rfl) B.b_len PySem.boot_len (pa_cons (pv 0) pa_nil)) pe_int (nomark _)))))), ?_⟩
    refine ⟨_, rfl, _, _, _, _, _, rfl, .ty _, dat_ty dt, kit_ty (kit_tup d), _, rfl, ?_⟩
    cases dt with
    | @tup a xs ds ra e t =>
      refine iteT ⟨_, rfl, a, _, rfl, .inr (.inl (.inl e)), rfl, ?_⟩
      have e2 : decide (V.int ((xs.length : Nat) : Int) = V.int 2) = pairB (.tuple ds) := by
        unfold pairB
        rw [t.length]
        refine decide_eq_decide.mpr ⟨fun z => ?_, fun z => ?_⟩
        · have := V.int.inj z
          omega
        · rw [z]
          rfl
      rw [← e2] at q
      exact q
    | _ => exact iteF q

end
end Lb
set_option Elab.async false
set_option linter.all false
set_option maxRecDepth 100000
set_option maxHeartbeats 8000000
namespace Lb
open PySem PySem.Spec PyProof.Rows L2 RZ
section
variable {P : Program} {w : World} {K : PySem.W.Frag} {mg : Str → Option Value} {base : Heap}
theorem sc__law_spoilt : FnScope ["_law_deck_here", "_law_value", "_law_odd", "_law_at", "_law_way"] ["_law_deck_here", "_law_value"] (defScope s__law_spoilt) := ⟨rfl, rfl, rfl, by decide +kernel, rfl, by decide +kernel, by decide +kernel⟩
theorem own_spoil (D : Df K mg "_law_spoilt" s__law_spoilt) (B : Blt mg) (O__law_draw : Own P w K mg base "_law_draw" 1 ["_law_deck_here", "_law_many"] spDraw) (O__law_one : Own P w K mg base "_law_one" 2 ["_law_deck_here", "_law_items"] spOne) :
    ∀ n : Nat, Own P w K mg base "_law_spoilt" (n + 2) ["_law_deck_here", "_law_value"] (spSpoil n)
  | 0 => own_false D (fun _ _ _ _ _ _ us hl => match us, hl with | [_, _], _ => rfl)
  | n + 1 => by
    have O__law_spoilt := own_spoil D B O__law_draw O__law_one n
    refine own_of D sc__law_spoilt (fun _ _ _ _ _ _ us hl => match us, hl with | [_, _], _ => rfl) (fun vs H Q E h => ?_) (fun f cdv A outer s H vs Q E hr h => ?_)
    · obtain ⟨_, _, _, _, _, _, _, _, _, rfl, _⟩ := h
      rfl
    · obtain ⟨R, d, c, r, k, v, x, S, Dp, rfl, dk, hk, rg, dt, ok, hdp, hS, q⟩ := h
      refine ⟨_, (pss_cons (ps_set (i := 2) sc__law_spoilt.nd rfl (.inl rfl) (pe_lst (pa_cons pe_non (pa_cons pe_bl (pa_cons pe_bl (pa_cons pe_int (pa_cons pe_int (pa_cons (pe_un un_neg pe_int) (pa_cons pe_int (pa_cons pe_int (pa_cons pe_str (pa_cons pe_str (pa_cons pe_str (pa_cons pe_str (pa_cons (pe_tup pa_nil) (pa_cons (pe_lst pa_nil) (pa_cons (pe_tup (pa_cons pe_int pa_nil)) (pa_cons (pe_tup (pa_cons pe_int (pa_cons pe_int pa_nil))) (pa_cons (pe_tup (pa_cons pe_int (pa_cons pe_bl pa_nil))) (pa_cons pe_dnewK pa_nil))))))))))))))))))))
      (pss_cons (ps_if (PW.pt (pw_or (pt_not (pt_val (pe_callB (id := "isinstance") call_isi (by rfl) B.b_isinstance (by decide +kernel) (pa_cons (pv 1) (pa_cons (pe_bltn (v := .ty "tuple") (u := .type "tuple") (by rfl) B.b_tuple (by decide +kernel) rfl) pa_nil))))) (pw_or (pt_cmpR op_eq (pe_callB (id := "len") call_len_seq (by rfl) B.b_len PySem.boot_len (pa_cons (pv 1) pa_nil)) pe_int (nomark _)) (pw_or1 (pt_cmpR op_eq (pe_own O__law_draw (hr.mono (by omega)) (by rfl) (pa_cons (pv 0) (pa_cons pe_int pa_nil))) pe_int (nomark _)))))) (pss_one (ps_ret (pe_own O__law_one (hr.mono (by omega)) (by rfl) (pa_cons (pv 0) (pa_cons (pe_op op_cat (pv 2) (pe_lst (pa_cons (pe_lst (pa_cons (pv 1) pa_nil)) (pa_cons (pe_tup (pa_cons (pv 1) pa_nil)) (pa_cons (pv 1) pa_nil))))) pa_nil))))) pss_nil)
      (pss_cons (ps_par (i := 3) (j := 4) rfl sc__law_spoilt.nd rfl rfl (by decide) rfl rfl (pa_cons (pe_own O__law_draw (hr.mono (by omega)) (by rfl) (pa_cons (pv 0) (pa_cons (pe_callB (id := "len") call_len_seq (by rfl) B.b_len PySem.boot_len (pa_cons (pv 1) pa_nil)) pa_nil))) (pa_cons (pe_own O__law_draw (hr.mono (by omega)) (by rfl) (pa_cons (pv 0) (pa_cons pe_int pa_nil))) pa_nil)) rfl)
      (pss_cons (ps_if (pt_cmpR op_lt (pv 4) pe_int (nomark _)) (pss_one (ps_ret (pe_op op_catA (pe_op op_catA (pe_slice sl_tupA (pv 1) po_none (po_some (pv 3))) (pe_tup (pa_cons (pe_own O__law_spoilt (hr.mono (by omega)) (by rfl) (pa_cons (pv 0) (pa_cons (pe_ix ix_tup (pv 1) (pv 3) (fun _ _ => rfl)) pa_nil))) pa_nil))) (pe_slice sl_tupA (pv 1) (po_some (pe_op op_add (pv 3) pe_int)) po_none)))) pss_nil)
      (pss_one (ps_ret (pe_own O__law_one (hr.mono (by omega)) (by rfl) (pa_cons (pv 0) (pa_cons (pe_lst (pa_cons (pe_op op_catA (pe_slice sl_tupA (pv 1) po_none (po_some (pv 3))) (pe_slice sl_tupA (pv 1) (po_some (pe_op op_add (pv 3) pe_int)) po_none)) (pa_cons (pe_op op_catA (pe_slice sl_tupA (pv 1) po_none (po_some (pe_op op_add (pv 3) pe_int))) (pe_slice sl_tupA (pv 1) (po_some (pv 3)) po_none)) (pa_cons (pe_revT (pv 1)) (pa_cons (pe_callTy (T := "list") call_list_of (by rfl) B.b_list (by decide +kernel) (pa_cons (pv 1) pa_nil)) pa_nil))))) pa_nil))))))))), ?_⟩
      -- odd
      refine ⟨1, rfl, Nat.zero_le _, fun p1 z1 => ⟨Nat.zero_le _, fun p2 z2 => ⟨(by show 1 ≤ sizeLine; decide), fun p3 z3 => ⟨(by show 2 ≤ sizeLine; decide), fun p4 z4 => ⟨(by show 2 ≤ sizeLine; decide), fun p5 z5 => ?_⟩⟩⟩⟩⟩
      intro p6 z6
      refine ⟨(by show 18 ≤ sizeLine; decide), fun p7 z7 => ?_⟩
      have s1 := same_upd (o := .tup []) z1
      have s2 := same_upd (o := .lst []) z2
      have s3 := same_upd (o := .tup [V.int 0]) z3
      have s4 := same_upd (o := .tup [V.int 0, V.int 0]) z4
      have s5 := same_upd (o := .tup [V.int 0, V.bl true]) z5
      have s6 := same_upd (o := .dK []) z6
      have s7 := same_upd (o := .lst [V.non, V.bl true, V.bl false, V.int 0, V.int 1, V.int (-1), V.int 2, V.int 5, V.str "", V.str "a", V.str "chain", V.str "parting", V.ref p1, V.ref p2, V.ref p3, V.ref p4, V.ref p5, V.ref p6]) z7
      have rg1 := rg.same s1
      have rg2 := rg1.same s2
      have rg3 := rg2.same s3
      have rg4 := rg3.same s4
      have rg5 := rg4.same s5
      have rg6 := rg5.same s6
      have rg7 := rg6.same s7
      have s07 : Same H (upd (upd (upd (upd (upd (upd (upd H p1 (.tup [])) p2 (.lst [])) p3 (.tup [V.int 0])) p4 (.tup [V.int 0, V.int 0])) p5 (.tup [V.int 0, V.bl true])) p6 (.dK [])) p7 (.lst [V.non, V.bl true, V.bl false, V.int 0, V.int 1, V.int (-1), V.int 2, V.int 5, V.str "", V.str "a", V.str "chain", V.str "parting", V.ref p1, V.ref p2, V.ref p3, V.ref p4, V.ref p5, V.ref p6])) := (((((s1.trans s2).trans s3).trans s4).trans s5).trans s6).trans s7
      have elo : upd (upd (upd (upd (upd (upd (upd H p1 (.tup [])) p2 (.lst [])) p3 (.tup [V.int 0])) p4 (.tup [V.int 0, V.int 0])) p5 (.tup [V.int 0, V.bl true])) p6 (.dK [])) p7 (.lst [V.non, V.bl true, V.bl false, V.int 0, V.int 1, V.int (-1), V.int 2, V.int 5, V.str "", V.str "a", V.str "chain", V.str "parting", V.ref p1, V.ref p2, V.ref p3, V.ref p4, V.ref p5, V.ref p6]) p7 = some (.lst [V.non, V.bl true, V.bl false, V.int 0, V.int 1, V.int (-1), V.int 2, V.int 5, V.str "", V.str "a", V.str "chain", V.str "parting", V.ref p1, V.ref p2, V.ref p3, V.ref p4, V.ref p5, V.ref p6]) := upd_same
      have dos : Dats R (upd (upd (upd (upd (upd (upd (upd H p1 (.tup [])) p2 (.lst [])) p3 (.tup [V.int 0])) p4 (.tup [V.int 0, V.int 0])) p5 (.tup [V.int 0, V.bl true])) p6 (.dK [])) p7 (.lst [V.non, V.bl true, V.bl false, V.int 0, V.int 1, V.int (-1), V.int 2, V.int 5, V.str "", V.str "a", V.str "chain", V.str "parting", V.ref p1, V.ref p2, V.ref p3, V.ref p4, V.ref p5, V.ref p6])) [V.non, V.bl true, V.bl false, V.int 0, V.int 1, V.int (-1), V.int 2, V.int 5, V.str "", V.str "a", V.str "chain", V.str "parting", V.ref p1, V.ref p2, V.ref p3, V.ref p4, V.ref p5, V.ref p6] oddD :=
        .cons .non (.cons (.bl _) (.cons (.bl _) (.cons (.int _) (.cons (.int _) (.cons (.int _) (.cons (.int _) (.cons (.int _) (.cons (.str _) (.cons (.str _) (.cons (.str _) (.cons (.str _)
          (.cons ((Dat.newT z1 (rg.new _ z1) .nil).same (((((s2.trans s3).trans s4).trans s5).trans s6).trans s7))
          (.cons ((Dat.newL z2 (rg1.new _ z2) .nil).same ((((s3.trans s4).trans s5).trans s6).trans s7))
          (.cons ((Dat.newT z3 (rg2.new _ z3) (.cons (.int 0) .nil)).same (((s4.trans s5).trans s6).trans s7))
          (.cons ((Dat.newT z4 (rg3.new _ z4) (.cons (.int 0) (.cons (.int 0) .nil))).same ((s5.trans s6).trans s7))
          (.cons ((Dat.newT z5 (rg4.new _ z5) (.cons (.int 0) (.cons (.bl true) .nil))).same (s6.trans s7))
          (.cons (.emp (rg5.new _ z6) (s7 _ _ upd_same)) .nil)))))))))))))))))
      generalize upd (upd (upd (upd (upd (upd (upd H p1 (.tup [])) p2 (.lst [])) p3 (.tup [V.int 0])) p4 (.tup [V.int 0, V.int 0])) p5 (.tup [V.int 0, V.bl true])) p6 (.dK [])) p7 (.lst [V.non, V.bl true, V.bl false, V.int 0, V.int 1, V.int (-1), V.int 2, V.int 5, V.str "", V.str "a", V.str "chain", V.str "parting", V.ref p1, V.ref p2, V.ref p3, V.ref p4, V.ref p5, V.ref p6]) = H7 at s07 elo dos rg7 ⊢
      have dk7 := dk.same s07
      have dt7 := dt.same s07
      have toQ : ∀ (H' : Hp) (u : V) (y : PyData), Ok (2 * S + 100) (Dp + 1) y → Dat R H' u y → Dk H' d c r (k + 1) → Kp d r H7 H' → Q u H' := fun H' u y o1 o2 o3 o4 => q H' u y o1 o2 (o3.mono (by omega)) ((Kp.of s07).trans o4)
      refine ⟨_, rfl, _, _, _, _, _, rfl, .ty _, dat_ty dt7, kit_ty (kit_tup x), _, rfl, ?_⟩
      cases dt7 with
      | @tup a xs ds ra e t =>
        have hlx := t.length
        refine iteF ⟨_, rfl, a, _, rfl, .inr (.inl (.inl e)), rfl, _, rfl, ?_⟩
        by_cases h0 : ds.length = 0
        · have e1 : decide (V.int ((xs.length : Nat) : Int) = V.int 0) = true := decide_eq_true (by rw [hlx, h0]; rfl)
          rw [e1]
          exact iteT (iteT (spoil_odd rfl rfl rfl dk7 (by omega) rg7 (Dat.tup ra e t) ok elo dos toQ))
        have e1 : decide (V.int ((xs.length : Nat) : Int) = V.int 0) = false := decide_eq_false (fun z => h0 (by have := V.int.inj z; omega))
        rw [e1]
        refine iteF ⟨_, rfl, d, c, r, k, 7, rfl, dk7, by omega, by omega, by omega, fun H8 j8 hj8 dk8 k8 => ?_⟩
        have rg8 := rg7.kp k8 dk8
        have on8 := rg7.on k8
        have dt8 := (Dat.tup ra e t).on on8
        refine ⟨rfl, _, rfl, ite2 (fun _ => ?_) (fun _ => ?_)⟩
        · refine spoil_odd rfl rfl rfl dk8 (by omega) rg8 dt8 ok (k8 _ _ ?_ ?_ elo) (dos.on on8) fun H' u y o1 o2 o3 o4 => q H' u y o1 o2 (o3.mono (by omega)) (((Kp.of s07).trans k8).trans o4)
          · exact (dk.nd (((((((s1.trans s2).trans s3).trans s4).trans s5).trans s6)).free z7)).1
          · exact (dk.nd (((((((s1.trans s2).trans s3).trans s4).trans s5).trans s6)).free z7)).2.1
        have e8 : H8 a = some (.tup xs) := on8 _ _ ra e
        have t8 := t.on on8
        have oki := ok.items
        have hwS : 4 + wts ds ≤ S := ok.wt
        have hlen := wts_len ds
        -- at, way = draw(deck, len(value)), draw(deck, 9)
        refine ⟨_, rfl, _, rfl, a, _, rfl, .inr (.inl (.inl e8)), d, c, r, k + 1, xs.length, rfl, dk8, by omega, by omega, by omega, fun H9 j hj dk9 k9 => ?_⟩
        refine ⟨_, rfl, d, c, r, k + 1 + 1, 9, rfl, dk9, by omega, by omega, by omega, fun H10 wy hwy dk10 k10 => ⟨_, _, rfl, ?_⟩⟩
        have rg9 := rg8.kp k9 dk9
        have rg10 := rg9.kp k10 dk10
        have on10 := (rg8.on k9).trans (rg9.on k10)
        have e10 : H10 a = some (.tup xs) := on10 _ _ ra e8
        have t10 := t8.on on10
        have kA : Kp d r H H10 := ((Kp.of s07).trans k8).trans (k9.trans k10)
        have ej : (j : Int) + 1 = ((j + 1 : Nat) : Int) := by omega
        have hDp : 1 ≤ Dp := by
          have := ok.dp
          rw [PyData.depth] at this
          omega
        refine ⟨_, rfl, _, _, rfl, rfl, _, rfl, ite2 (fun _ => ?_) (fun _ => ?_)⟩
        · -- value[:at] + (spoilt(deck, value[at]),) + value[at + 1:]
          refine ⟨_, rfl, _, rfl, _, rfl, ?_⟩
          refine rd_to ra e10 t10 (by omega) rg10.new fun H11 p11 s11 r11 e11 => ?_
          have hjd : ds[j]? = some (ds[j]'(by omega)) := List.getElem?_eq_getElem (by omega)
          obtain ⟨zv, hzv, dtz⟩ := t10.get hjd
          have rg11 := rg10.same s11
          have dk11 := dk10.same s11
          have hmem : ds[j]'(by omega) ∈ ds := List.getElem_mem (by omega)
          generalize ds[j]'(by omega) = dz at *
          obtain ⟨m, rfl⟩ : ∃ m, n = m + 1 := by
            rw [PyData.depth] at hdp
            exact ⟨n - 1, by omega⟩
          refine ⟨_, rfl, _, rfl, _, rfl, a, _, _, zv, rfl, rfl, .inl (.inl (s11 _ _ e10)), atI_nat hzv, ?_⟩
          refine ⟨R, d, c, r, k + 1 + 1 + 1, zv, dz, wt dz, Dp - 1, rfl, dk11, by omega, rg11, dtz.same s11, ⟨oki.fi dz hmem, Nat.le_refl _, oki.dp dz hmem⟩, ?_, ?_, fun H12 u y oky dty dk12 k12 => ?_⟩
          · rw [PyData.depth] at hdp
            exact (depths_iff ds).mp (by omega) dz hmem
          · have := wts_mem hmem
            omega
          have rg12 := rg11.kp k12 dk12
          have on12 := rg11.on k12
          have e12 : H12 a = some (.tup xs) := on12 _ _ ra (s11 _ _ e10)
          have t12 := (t10.same s11).on on12
          have e1112 : H12 p11 = some (.tup (xs.take j)) := on12 _ _ r11 e11
          refine ⟨(by show 1 ≤ sizeLine; decide), fun p13 z13 => ?_⟩
          have s13 := same_upd (o := .tup [u]) z13
          have rg13 := rg12.same s13
          refine rd_cat r11 (rg12.new _ z13) (s13 _ _ e1112) upd_same (by rw [List.length_take, List.length_singleton]; omega) rg13.new fun H14 p14 s14 r14 e14 => ?_
          have rg14 := rg13.same s14
          refine ⟨_, rfl, _, rfl, _, _, rfl, rfl, _, rfl, ?_⟩
          dsimp only
          rw [ej]
          have e1214 := s14 _ _ (s13 _ _ e12)
          have t14 := (t12.same s13).same s14
          refine np ?_
          refine rd_from (j := j + 1) ra e1214 t14 (by omega) rg14.new fun H15 p15 s15 r15 e15 => ?_
          have rg15 := rg14.same s15
          refine rd_cat r14 r15 (s15 _ _ e14) e15 (by rw [List.length_append, List.length_take, List.length_singleton, List.length_drop]; omega) rg15.new fun H16 p16 s16 r16 e16 => ?_
          have s1316 := ((s13.trans s14).trans s15).trans s16
          have tt : Dats R H16 (xs.take j ++ [u] ++ xs.drop (j + 1)) (ds.take j ++ [y] ++ ds.drop (j + 1)) :=
            (((t12.take j).append (.cons dty .nil)).append (t12.drop (j + 1))).same s1316
          exact q H16 _ _ (spoil_mid ok hjd oky hDp) (.tup r16 e16 tt) ((dk12.same s1316).mono (by omega)) (((kA.trans (Kp.of s11)).trans k12).trans (Kp.of s1316))
        · -- one(deck, [value[:at] + value[at + 1:], value[:at + 1] + value[at:], value[::-1], list(value)])
          refine ⟨_, rfl, _, rfl, _, rfl, _, rfl, ?_⟩
          refine rd_to ra e10 t10 (by omega) rg10.new fun H11 p11 s11 r11 e11 => ?_
          have rg11 := rg10.same s11
          refine ⟨_, rfl, _, rfl, _, _, rfl, rfl, _, rfl, ?_⟩
          dsimp only
          rw [ej]
          refine np ?_
          refine rd_from (j := j + 1) ra (s11 _ _ e10) (t10.same s11) (by omega) rg11.new fun H12 p12 s12 r12 e12 => ?_
          have rg12 := rg11.same s12
          refine rd_cat r11 r12 (s12 _ _ e11) e12 (by rw [List.length_take, List.length_drop]; omega) rg12.new fun H13 p13 s13 r13 e13 => ?_
          have rg13 := rg12.same s13
          have s1013 := (s11.trans s12).trans s13
          refine ⟨_, rfl, _, rfl, _, _, rfl, rfl, _, rfl, ?_⟩
          dsimp only
          rw [ej]
          refine rd_to (j := j + 1) ra (s1013 _ _ e10) (t10.same s1013) (by omega) rg13.new fun H14 p14 s14 r14 e14 => ?_
          have rg14 := rg13.same s14
          have s1014 := s1013.trans s14
          refine ⟨_, rfl, _, rfl, _, rfl, ?_⟩
          refine np ?_
          refine rd_from (j := j) ra (s1014 _ _ e10) (t10.same s1014) (by omega) rg14.new fun H15 p15 s15 r15 e15 => ?_
          have rg15 := rg14.same s15
          refine rd_cat r14 r15 (s15 _ _ e14) e15 (by rw [List.length_take, List.length_drop]; omega) rg15.new fun H16 p16 s16 r16 e16 => ?_
          have rg16 := rg15.same s16
          have s1016 := (s1014.trans s15).trans s16
          refine ⟨_, rfl, a, _, rfl, .inl (.inl (s1016 _ _ e10)), fun p17 z17 => ?_⟩
          have s17 := same_upd (o := .tup xs.reverse) z17
          have rg17 := rg16.same s17
          have s1017 := s1016.trans s17
          refine ⟨_, rfl, a, _, rfl, .inr (.inl (.inl (s1017 _ _ e10))), fun p18 z18 => ?_⟩
          have s18 := same_upd (o := .lst xs) z18
          have rg18 := rg17.same s18
          refine ⟨(by show 4 ≤ sizeLine; decide), fun p19 z19 => ?_⟩
          have s19 := same_upd (o := .lst [V.ref p13, V.ref p16, V.ref p17, V.ref p18]) z19
          have s1019 := (s1017.trans s18).trans s19
          have n19 := new_ne dk10 ((s1017.trans s18).free z19)
          have d13 := (Dat.tup r13 e13 (((t10.take j).append (t10.drop (j + 1))).same s1013)).same (((s14.trans s15).trans s16).trans ((s17.trans s18).trans s19))
          have d16 := (Dat.tup r16 e16 (((t10.take (j + 1)).append (t10.drop j)).same s1016)).same ((s17.trans s18).trans s19)
          have d17 := (Dat.newT z17 (rg16.new _ z17) (t10.same s1016).reverse).same (s18.trans s19)
          have d18 := (Dat.newL z18 (rg17.new _ z18) (t10.same s1017)).same s19
          have all : Dats R _ [V.ref p13, V.ref p16, V.ref p17, V.ref p18] _ := .cons d13 (.cons d16 (.cons d17 (.cons d18 .nil)))
          refine ⟨d, c, r, p19, k + 1 + 1 + 1, _, rfl, dk10.same s1019, by omega, upd_same, n19.1, n19.2, (by show 0 < 4; decide), (by show 4 ≤ 1000; decide), fun H20 jj u hjj dk20 k20 => ?_⟩
          have rg19 := rg18.same s19
          obtain ⟨y, hy, dty⟩ := all.get' hjj
          refine q H20 u y ?_ (dty.on (rg19.on k20)) (dk20.mono (by omega)) ((kA.trans (Kp.of s1019)).trans k20)
          have hm := List.mem_of_getElem? hy
          rcases List.mem_cons.mp hm with rfl | hm
          · exact ((oki.take j).append (oki.drop (j + 1))).tuple.mono (by omega) (by omega)
          · rcases List.mem_cons.mp hm with rfl | hm
            · exact ((oki.take (j + 1)).append (oki.drop j)).tuple.mono (by omega) (by omega)
            · rcases List.mem_cons.mp hm with rfl | hm
              · exact oki.reverse.tuple.mono (by omega) (by omega)
              · rw [List.mem_singleton.mp hm]
                exact oki.list.mono (by omega) (by omega)
      | non => exact iteT (iteT (spoil_odd rfl rfl rfl dk7 (by omega) rg7 .non ok elo dos toQ))
      | bl b => exact iteT (iteT (spoil_odd rfl rfl rfl dk7 (by omega) rg7 (.bl b) ok elo dos toQ))
      | int b => exact iteT (iteT (spoil_odd rfl rfl rfl dk7 (by omega) rg7 (.int b) ok elo dos toQ))
      | str b => exact iteT (iteT (spoil_odd rfl rfl rfl dk7 (by omega) rg7 (.str b) ok elo dos toQ))
      | lst r1 r2 r3 => exact iteT (iteT (spoil_odd rfl rfl rfl dk7 (by omega) rg7 (.lst r1 r2 r3) ok elo dos toQ))
      | emp r1 r2 => exact iteT (iteT (spoil_odd rfl rfl rfl dk7 (by omega) rg7 (.emp r1 r2) ok elo dos toQ))

end
end Lb
set_option Elab.async false
set_option linter.all false
set_option maxRecDepth 100000
set_option maxHeartbeats 8000000
namespace Lb
open PySem PySem.Spec PyProof.Rows L2 RZ
section
variable {P : Program} {w : World} {K : PySem.W.Frag} {mg : Str → Option Value} {base : Heap}
theorem sc_holds : FnScope ["bag", "other", "many", "few"] ["bag", "other"] (defScope s_holds) := ⟨rfl, rfl, rfl, by decide +kernel, rfl, by decide +kernel, by decide +kernel⟩
theorem own_holds (D : Df K mg "holds" s_holds) (B : Blt mg) : Own P w K mg base "holds" 1 ["bag", "other"] (spHolds K) := by
  refine own_of D sc_holds (fun _ _ _ _ _ _ us hl => match us, hl with | [_, _], _ => rfl) (fun vs H Q E h => ?_) (fun f cdv A outer s H vs Q E hr h => ?_)
  · obtain ⟨_, _, _, _, rfl, _⟩ := h
    rfl
  · obtain ⟨a, b, x, y, rfl, hA, hB, hl, hl2, q⟩ := h
    refine ⟨_, (pss_cons (ps_for PassesOwn.never rfl (pi_zipA (by rfl) B.b_zip (pa_cons (pv 0) (pa_cons (pv 1) pa_nil))) (pg_tup rfl (pgs_cons (pg_name (i := 2) sc_holds.nd rfl (.inl rfl)) (pgs_cons (pg_name (i := 3) sc_holds.nd rfl (.inl rfl)) pgs_nil)))
        (pss_one (ps_if (pt_cmpR op_lt (pv 2) (pv 3) (nomark _)) (pss_one (ps_ret pe_bl)) pss_nil)))
      (pss_one (ps_ret pe_bl))), ?_⟩
    refine ⟨_, rfl, _, rfl, a, b, _, _, rfl, .inr ⟨hA, hB, ?_⟩⟩
    refine for_zipT (K := K) (xs := x.map V.int) (ys := y.map V.int) (by rw [List.length_map, List.length_map]; exact hl) (fun i σ H' => ∃ y2 y3, σ = [some (.ref a), some (.ref b), y2, y3] ∧ Same H H' ∧ geB (x.take i) (y.take i) = true)
      ⟨none, none, rfl, Same.refl _, rfl⟩ (fun i σ H' ⟨_, _, _, s', _⟩ => ⟨same_tup s' hA, same_tup s' hB⟩) ?_ ?_
    · rintro i u v T σ H' hu hv ⟨y2, y3, rfl, sm, ge⟩ hT
      obtain ⟨u, rfl, hu'⟩ := int_at hu
      obtain ⟨v, rfl, hv'⟩ := int_at hv
      have sT := sm.trans (same_upd (o := .tup [V.int u, V.int v]) hT)
      refine ⟨T, _, rfl, .inl (.inl upd_same), rfl, _, _, rfl, _, _, rfl, rfl, ?_⟩
      refine ⟨_, rfl, _, rfl, _, _, rfl, rfl, _, rfl, ite2 (fun hlt => ?_) (fun hlt => ?_)⟩
      · have := q _ sT
        rw [geB_false hu' hv' (of_decide_eq_true hlt)] at this
        exact this
      · refine ⟨_, _, rfl, sT, ?_⟩
        have hge : u ≥ v := by
          have : ¬ u < v := fun z => hlt (decide_eq_true z)
          omega
        rw [geB_take hu' hv', ge, decide_eq_true hge]
        rfl
    · rintro σ H' ⟨y2, y3, rfl, sm, ge⟩
      rw [List.length_map, List.take_length, hl, List.take_length] at ge
      have := q _ sm
      rw [ge] at this
      exact this

end
end Lb
set_option Elab.async false
set_option linter.all false
set_option maxRecDepth 100000
set_option maxHeartbeats 8000000
namespace Lb
open PySem PySem.Spec PyProof.Rows L2 RZ
section
variable {P : Program} {w : World} {K : PySem.W.Frag} {mg : Str → Option Value} {base : Heap}
theorem sc_exchange : FnScope ["stock", "taken", "added", "amount", "less", "more"] ["stock", "taken", "added"] (defScope s_exchange) := ⟨rfl, rfl, rfl, by decide +kernel, rfl, by decide +kernel, by decide +kernel⟩
theorem own_exchange (D : Df K mg "exchange" s_exchange) (B : Blt mg) (O_holds : Own P w K mg base "holds" 1 ["bag", "other"] (spHolds K)) : Own P w K mg base "exchange" 2 ["stock", "taken", "added"] (spExch K) := by
  refine own_of D sc_exchange (fun _ _ _ _ _ _ us hl => match us, hl with | [_, _, _], _ => rfl) (fun vs H Q E h => ?_) (fun f cdv A outer s H vs Q E hr h => ?_)
  · obtain ⟨_, _, _, _, _, _, rfl, _⟩ := h
    rfl
  · obtain ⟨a, b, c, x, y, z, rfl, hA, hB, hC, hl, hl2, hl3, q⟩ := h
    refine ⟨_, (pss_cons (ps_if (pt_not (pt_val (pe_own O_holds (hr.mono (by omega)) (by rfl) (pa_cons (pv 0) (pa_cons (pv 1) pa_nil))))) (pss_one (ps_ret pe_non)) pss_nil)
      (pss_one (ps_ret (pe_callTy (T := "tuple") call_tuple_of (by rfl) B.b_tuple (by decide +kernel) (pa_cons (pe_lc (own := [("amount", 3), ("less", 4), ("more", 5)]) (g := gTup _ 3 (gCons (gName 3) (gCons (gName 4) (gCons (gName 5) gNil)))) (tt := tYes) rfl sc_exchange.nd (pi_zip3 (by rfl) B.b_zip (pa_cons (pv 0) (pa_cons (pv 1) (pa_cons (pv 2) pa_nil)))) (blkOk_by (own := [("amount", 3), ("less", 4), ("more", 5)]) (N := ["stock", "taken", "added", "amount", "less", "more"]) (sc := defScope s_exchange) (by decide +kernel)) (fun _ _ _ _ _ => (pg_tup rfl (pgs_cons (pg_name (i := 3) sc_exchange.nd rfl (.inl rfl)) (pgs_cons (pg_name (i := 4) sc_exchange.nd rfl (.inl rfl)) (pgs_cons (pg_name (i := 5) sc_exchange.nd rfl (.inl rfl)) pgs_nil))))) (fun _ _ _ _ _ => pts_nil) (fun _ _ _ _ _ => (pe_op op_add (pe_op op_sub (pv 3) (pv 4)) (pv 5)))) pa_nil))))), ?_⟩
    refine ⟨_, rfl, _, rfl, a, b, x, y, rfl, hA, hB, hl, hl3, fun H1 s1 => ?_⟩
    refine ⟨_, rfl, ?_⟩
    cases hg : geB x y with
    | false =>
      have e : exch x y z = none := by
        unfold exch
        rw [hg]
        rfl
      refine iteT ?_
      exact q H1 .non s1 (by rw [e]; rfl)
    | true =>
      have e : exch x y z = some (plusL (minusL x y) z) := by
        unfold exch
        rw [hg]
        rfl
      refine iteF ?_
      refine ⟨_, rfl, _, rfl, _, rfl, a, b, c, _, _, _, rfl, same_tup s1 hA, same_tup s1 hB, same_tup s1 hC, fun D hD => ?_⟩
      refine lc_zipU (K := K) (xs := x.map V.int) (ys := y.map V.int) (zs := z.map V.int) (by rw [List.length_map, List.length_map]; exact hl) (by rw [List.length_map, List.length_map]; exact hl2) (fun i H' => Same H1 H' ∧ H' D = some (.lst (((plusL (minusL x y) z).take i).map V.int)))
        ⟨same_upd hD, upd_same⟩ (fun i H' hP => ⟨same_tup (s1.trans hP.1) hA, same_tup (s1.trans hP.1) hB, same_tup (s1.trans hP.1) hC⟩) ?_ ?_
      · rintro i u v t T H' hu hv ht ⟨sm, eD⟩ hT
        obtain ⟨u, rfl, hu'⟩ := int_at hu
        obtain ⟨v, rfl, hv'⟩ := int_at hv
        obtain ⟨t, rfl, ht'⟩ := int_at ht
        have nTD : D ≠ T := ne_of_none eD hT
        refine ⟨T, _, rfl, .inl (.inl upd_same), rfl, _, _, rfl, _, _, rfl, _, _, rfl, rfl, rfl, all_in ?_⟩
        refine ⟨_, rfl, _, rfl, _, _, rfl, rfl, _, rfl, _, _, rfl, rfl, _, (same_upd hT) _ _ eD, ?_, ?_, ?_⟩
        · rw [List.length_map, List.length_take]
          refine small1000 (Nat.le_trans (Nat.min_le_right _ _) ?_)
          rw [List.length_zipWith, List.length_zipWith]
          omega
        · intro b o e
          rw [upd_ne (ne_of_none e hD)]
          exact (same_upd hT) _ _ (sm _ _ e)
        · rw [upd_same, zipW_take (zipW_at hu' hv') ht', List.map_append]
          rfl
      · rintro H' ⟨sm, eD⟩
        have el : (plusL (minusL x y) z).take (x.map V.int).length = plusL (minusL x y) z := List.take_of_length_le (by rw [List.length_zipWith, List.length_zipWith, List.length_map]; omega)
        rw [el] at eD
        refine ⟨D, _, rfl, .inl ⟨SqL.of eD, fun p hp => ?_⟩⟩
        refine q _ (.ref p) ((s1.trans sm).trans (same_upd hp)) ?_
        rw [e]
        exact ⟨p, rfl, (s1.trans sm).free hp, upd_same⟩

end
end Lb
set_option Elab.async false
set_option linter.all false
set_option maxRecDepth 100000
set_option maxHeartbeats 8000000
namespace Lb
open PySem PySem.Spec PyProof.Rows L2 RZ
section
variable {P : Program} {w : World} {K : PySem.W.Frag} {mg : Str → Option Value} {base : Heap}
theorem sc_after_step : FnScope ["market", "stock", "step", "k", "back", "give", "get"] ["market", "stock", "step"] (defScope s_after_step) := ⟨rfl, rfl, rfl, by decide +kernel, rfl, by decide +kernel, by decide +kernel⟩
theorem own_after (D : Df K mg "after_step" s_after_step) (B : Blt mg) (O_exchange : Own P w K mg base "exchange" 2 ["stock", "taken", "added"] (spExch K)) : Own P w K mg base "after_step" 3 ["market", "stock", "step"] spAfter := by
  refine own_of D sc_after_step (fun _ _ _ _ _ _ us hl => match us, hl with | [_, _, _], _ => rfl) (fun vs H Q E h => ?_) (fun f cdv A outer s H vs Q E hr h => ?_)
  · obtain ⟨_, _, _, _, _, _, _, _, _, rfl, _⟩ := h
    rfl
  · obtain ⟨R, m, s, t, g, ts, x, k, b, rfl, dm, ds, dt, hE, hg, hx, hk, new, q⟩ := h
    refine ⟨_, (pss_cons (ps_asg (pv 2) (pg_tup rfl (pgs_cons (pg_name (i := 3) sc_after_step.nd rfl (.inl rfl)) (pgs_cons (pg_name (i := 4) sc_after_step.nd rfl (.inl rfl)) pgs_nil))))
      (pss_cons (ps_asg (pe_ix ix_tup (pe_ix ix_tup (pv 0) pe_int (fun _ _ => rfl)) (pv 3) (fun _ _ => rfl)) (pg_tup rfl (pgs_cons (pg_name (i := 5) sc_after_step.nd rfl (.inl rfl)) (pgs_cons (pg_name (i := 6) sc_after_step.nd rfl (.inl rfl)) pgs_nil))))
      (pss_one (ps_ret (pe_ifExp (pt_val (pv 4)) (pe_own O_exchange (hr.mono (by omega)) (by rfl) (pa_cons (pv 1) (pa_cons (pv 6) (pa_cons (pv 5) pa_nil)))) (pe_own O_exchange (hr.mono (by omega)) (by rfl) (pa_cons (pv 1) (pa_cons (pv 5) (pa_cons (pv 6) pa_nil))))))))), ?_⟩
    obtain ⟨a1, u1, u2, rfl, r1, e1, d1, d2⟩ := Dat.pair dt
    obtain rfl := d1.intI
    obtain rfl := d2.blI
    obtain ⟨am, w1, w2, rfl, rm, em, dg, dts⟩ := Dat.pair dm
    obtain ⟨tv, ys, rfl, rtv, etv, dys⟩ := dts.tupI
    obtain ⟨tk, htk⟩ : ∃ tk, ts[k]? = some tk := ⟨_, List.getElem?_eq_getElem hk⟩
    obtain ⟨y, hy, dy⟩ := dys.get (i := k) (d := trdD tk) (by rw [List.getElem?_map, htk]; rfl)
    obtain ⟨ay, v1, v2, rfl, ry, ey, dv1, dv2⟩ := Dat.pair dy
    obtain ⟨b1, rfl, rb1, eb1⟩ := dv1.bag
    obtain ⟨b2, rfl, rb2, eb2⟩ := dv2.bag
    obtain ⟨bs, rfl, rbs, ebs⟩ := ds.bag
    obtain ⟨l1, l2⟩ := hE tk (List.mem_of_getElem? htk)
    refine ⟨_, rfl, a1, _, rfl, .inl (.inl e1), rfl, _, _, rfl, _, _, rfl, rfl, ?_⟩
    refine ⟨_, rfl, am, _, _, _, rfl, rfl, tup_at0 em, rfl, _, rfl, tv, _, _, _, rfl, rfl, .inl (.inl etv), atI_nat hy, ?_⟩
    refine ⟨ay, _, rfl, .inl (.inl ey), rfl, _, _, rfl, _, _, rfl, rfl, ?_⟩
    have eB : behind ts x k b = if b = true then exch x tk.2 tk.1 else exch x tk.1 tk.2 := by
      unfold behind
      rw [htk]
    refine ⟨_, rfl, _, rfl, ?_⟩
    cases b with
    | true =>
      refine iteT ⟨_, rfl, _, rfl, _, rfl, bs, b2, b1, _, _, _, rfl, .inl (.inl ebs), .inl (.inl eb2), .inl (.inl eb1), by omega, by omega, by omega, fun H' v s' o => q H' v s' ?_⟩
      rw [eB, if_pos rfl]
      exact optAt_dat o new
    | false =>
      refine iteF ⟨_, rfl, _, rfl, _, rfl, bs, b1, b2, _, _, _, rfl, .inl (.inl ebs), .inl (.inl eb1), .inl (.inl eb2), by omega, by omega, by omega, fun H' v s' o => q H' v s' ?_⟩
      rw [eB, if_neg Bool.false_ne_true]
      exact optAt_dat o new

end
end Lb
set_option Elab.async false
set_option linter.all false
set_option maxRecDepth 100000
set_option maxHeartbeats 8000000
namespace Lb
open PySem PySem.Spec PyProof.Rows L2 RZ
section
variable {P : Program} {w : World} {K : PySem.W.Frag} {mg : Str → Option Value} {base : Heap}
theorem sc__law_less : FnScope ["_law_one_here", "_law_other", "_law_own", "_law_more"] ["_law_one_here", "_law_other"] (defScope s__law_less) := ⟨rfl, rfl, rfl, by decide +kernel, rfl, by decide +kernel, by decide +kernel⟩
theorem own_less (D : Df K mg "_law_less" s__law_less) (B : Blt mg) : Own P w K mg base "_law_less" 1 ["_law_one_here", "_law_other"] (spMinus K) := by
  refine own_of D sc__law_less (fun _ _ _ _ _ _ us hl => match us, hl with | [_, _], _ => rfl) (fun vs H Q E h => ?_) (fun f cdv A outer s H vs Q E hr h => ?_)
  · obtain ⟨_, _, _, _, rfl, _⟩ := h
    rfl
  · obtain ⟨a, b, x, y, rfl, hA, hB, hl, hl2, q⟩ := h
    refine ⟨_, (pss_one (ps_ret (pe_callTy (T := "tuple") call_tuple_of (by rfl) B.b_tuple (by decide +kernel) (pa_cons (pe_lc (own := [("_law_own", 2), ("_law_more", 3)]) (g := gTup _ 2 (gCons (gName 2) (gCons (gName 3) gNil))) (tt := tYes) rfl sc__law_less.nd (pi_zipA (by rfl) B.b_zip (pa_cons (pv 0) (pa_cons (pv 1) pa_nil))) (blkOk_by (own := [("_law_own", 2), ("_law_more", 3)]) (N := ["_law_one_here", "_law_other", "_law_own", "_law_more"]) (sc := defScope s__law_less) (by decide +kernel)) (fun _ _ _ _ _ => (pg_tup rfl (pgs_cons (pg_name (i := 2) sc__law_less.nd rfl (.inl rfl)) (pgs_cons (pg_name (i := 3) sc__law_less.nd rfl (.inl rfl)) pgs_nil)))) (fun _ _ _ _ _ => pts_nil) (fun _ _ _ _ _ => (pe_op op_sub (pv 2) (pv 3)))) pa_nil)))), ?_⟩
    refine ⟨_, rfl, _, rfl, a, b, _, _, rfl, .inr ⟨hA, hB, fun D hD => ?_⟩⟩
    refine lc_zipT (K := K) (xs := x.map V.int) (ys := y.map V.int) (by rw [List.length_map, List.length_map]; exact hl) (fun i H' => Same H H' ∧ H' D = some (.lst (((minusL x y).take i).map V.int)))
      ⟨same_upd hD, upd_same⟩ (fun i H' hP => ⟨same_tup hP.1 hA, same_tup hP.1 hB⟩) ?_ ?_
    · rintro i u v T H' hu hv ⟨sm, eD⟩ hT
      obtain ⟨u, rfl, hu'⟩ := int_at hu
      obtain ⟨v, rfl, hv'⟩ := int_at hv
      have nTD : D ≠ T := ne_of_none eD hT
      refine ⟨T, _, rfl, .inl (.inl upd_same), rfl, _, _, rfl, _, _, rfl, rfl, rfl, all_in ?_⟩
      refine ⟨_, rfl, _, rfl, _, _, rfl, rfl, _, (same_upd hT) _ _ eD, ?_, ?_, ?_⟩
      · rw [List.length_map, List.length_take]
        refine small1000 (Nat.le_trans (Nat.min_le_right _ _) ?_)
        rw [List.length_zipWith]
        omega
      · intro b o e
        rw [upd_ne (ne_of_none e hD)]
        exact (same_upd hT) _ _ (sm _ _ e)
      · rw [upd_same, zipW_take hu' hv', List.map_append]
        rfl
    · rintro H' ⟨sm, eD⟩
      have el : (minusL x y).take (x.map V.int).length = minusL x y := List.take_of_length_le (by rw [List.length_zipWith, List.length_map]; omega)
      rw [el] at eD
      refine ⟨D, _, rfl, .inl ⟨SqL.of eD, fun p hp => ?_⟩⟩
      exact q _ p (sm.trans (same_upd hp)) (sm.free hp) upd_same

end
end Lb
set_option Elab.async false
set_option linter.all false
set_option maxRecDepth 100000
set_option maxHeartbeats 8000000
namespace Lb
open PySem PySem.Spec PyProof.Rows L2 RZ
section
variable {P : Program} {w : World} {K : PySem.W.Frag} {mg : Str → Option Value} {base : Heap}
theorem sc__law_holds : FnScope ["_law_one_here", "_law_other", "_law_own", "_law_more"] ["_law_one_here", "_law_other"] (defScope s__law_holds) := ⟨rfl, rfl, rfl, by decide +kernel, rfl, by decide +kernel, by decide +kernel⟩
theorem own_lholds (D : Df K mg "_law_holds" s__law_holds) (B : Blt mg) : Own P w K mg base "_law_holds" 1 ["_law_one_here", "_law_other"] (spHolds K) := by
  refine own_of D sc__law_holds (fun _ _ _ _ _ _ us hl => match us, hl with | [_, _], _ => rfl) (fun vs H Q E h => ?_) (fun f cdv A outer s H vs Q E hr h => ?_)
  · obtain ⟨_, _, _, _, rfl, _⟩ := h
    rfl
  · obtain ⟨a, b, x, y, rfl, hA, hB, hl, hl2, q⟩ := h
    refine ⟨_, (pss_one (ps_ret (pe_cmpR (op_eqE hr.units0) (pe_lc (own := [("_law_own", 2), ("_law_more", 3)]) (g := gTup _ 2 (gCons (gName 2) (gCons (gName 3) gNil))) (tt := _) rfl sc__law_holds.nd (pi_zipA (by rfl) B.b_zip (pa_cons (pv 0) (pa_cons (pv 1) pa_nil))) (blkOk_by (own := [("_law_own", 2), ("_law_more", 3)]) (N := ["_law_one_here", "_law_other", "_law_own", "_law_more"]) (sc := defScope s__law_holds) (by decide +kernel)) (fun _ _ _ _ _ => (pg_tup rfl (pgs_cons (pg_name (i := 2) sc__law_holds.nd rfl (.inl rfl)) (pgs_cons (pg_name (i := 3) sc__law_holds.nd rfl (.inl rfl)) pgs_nil)))) (fun _ _ _ _ _ => (pts_one (pt_cmpR op_lt (pv 2) (pv 3) (nomark _)))) (fun _ _ _ _ _ => (pv 2))) (pe_lst pa_nil) (nomark _)))), ?_⟩
    refine ⟨_, rfl, _, rfl, a, b, _, _, rfl, .inr ⟨hA, hB, fun D hD => ?_⟩⟩
    refine lc_zipT (K := K) (xs := x.map V.int) (ys := y.map V.int) (by rw [List.length_map, List.length_map]; exact hl) (fun i H' => Same H H' ∧ ∃ acc, H' D = some (.lst acc) ∧ acc.isEmpty = geB (x.take i) (y.take i) ∧ acc.length ≤ i)
      ⟨same_upd hD, [], upd_same, rfl, Nat.le_refl _⟩ (fun i H' hP => ⟨same_tup hP.1 hA, same_tup hP.1 hB⟩) ?_ ?_
    · rintro i u v T H' hu hv ⟨sm, acc, eD, ee, el⟩ hT
      obtain ⟨u, rfl, hu'⟩ := int_at hu
      obtain ⟨v, rfl, hv'⟩ := int_at hv
      have nTD : D ≠ T := ne_of_none eD hT
      have hi : i < x.length := (List.getElem?_eq_some_iff.mp hu').1
      have sT := same_upd (o := .tup [V.int u, V.int v]) hT
      refine ⟨T, _, rfl, .inl (.inl upd_same), rfl, _, _, rfl, _, _, rfl, rfl, rfl, ?_⟩
      refine ⟨_, rfl, _, rfl, _, _, rfl, rfl, _, rfl, ?_⟩
      have tk : geB (x.take (i + 1)) (y.take (i + 1)) = (geB (x.take i) (y.take i) && decide (u ≥ v)) := geB_take hu' hv'
      by_cases hlt : u < v
      · rw [decide_eq_true hlt]
        refine iteT ⟨_, rfl, acc, sT _ _ eD, by rw [sizeLine_eq]; omega, fun b o e => ?_, acc ++ [V.int u], upd_same, ?_, ?_⟩
        · rw [upd_ne (ne_of_none e hD)]
          exact sT _ _ (sm _ _ e)
        · rw [tk, decide_eq_false (by omega), Bool.and_false]
          cases acc <;> rfl
        · rw [List.length_append, List.length_singleton]
          omega
      · rw [decide_eq_false hlt]
        refine iteF ⟨sm.trans sT, acc, sT _ _ eD, ?_, by omega⟩
        rw [tk, decide_eq_true (by omega), Bool.and_true]
        exact ee
    · rintro H' ⟨sm, acc, eD, ee, el⟩
      rw [List.length_map, List.take_length, hl, List.take_length] at ee
      refine ⟨Nat.zero_le _, fun M hM => ⟨D, M, acc, rfl, rfl, (same_upd hM) _ _ eD, upd_same, ?_⟩⟩
      rw [ee]
      exact q _ (sm.trans (same_upd hM))

end
end Lb
set_option Elab.async false
set_option linter.all false
set_option maxRecDepth 100000
set_option maxHeartbeats 8000000
namespace Lb
open PySem PySem.Spec PyProof.Rows L2 RZ
section
variable {P : Program} {w : World} {K : PySem.W.Frag} {mg : Str → Option Value} {base : Heap}
theorem sc__law_behind : FnScope ["_law_trades", "_law_stock", "_law_k", "_law_is_back", "_law_take", "_law_put"] ["_law_trades", "_law_stock", "_law_k", "_law_is_back"] (defScope s__law_behind) := ⟨rfl, rfl, rfl, by decide +kernel, rfl, by decide +kernel, by decide +kernel⟩
theorem own_behind (D : Df K mg "_law_behind" s__law_behind) (B : Blt mg) (O__law_plus : Own P w K mg base "_law_plus" 1 ["_law_one_here", "_law_other"] (spPlus K)) (O__law_less : Own P w K mg base "_law_less" 1 ["_law_one_here", "_law_other"] (spMinus K)) (O__law_holds : Own P w K mg base "_law_holds" 1 ["_law_one_here", "_law_other"] (spHolds K)) :
    Own P w K mg base "_law_behind" 2 ["_law_trades", "_law_stock", "_law_k", "_law_is_back"] spBehind := by
  refine own_of D sc__law_behind (fun _ _ _ _ _ _ us hl => match us, hl with | [_, _, _, _], _ => rfl) (fun vs H Q E h => ?_) (fun f cdv A outer s H vs Q E hr h => ?_)
  · obtain ⟨_, _, _, _, _, _, _, _, rfl, _⟩ := h
    rfl
  · obtain ⟨R, m, s, g, ts, x, k, b, rfl, dm, ds, hE, hg, hx, hk, new, q⟩ := h
    refine ⟨_, (pss_cons (ps_asg (pe_ifExp (pt_val (pv 3)) (pe_tup (pa_cons (pe_ix ix_tup (pe_ix ix_tup (pv 0) (pv 2) (fun _ _ => rfl)) pe_int (fun _ _ => rfl)) (pa_cons (pe_ix ix_tup (pe_ix ix_tup (pv 0) (pv 2) (fun _ _ => rfl)) pe_int (fun _ _ => rfl)) pa_nil))) (pe_tup (pa_cons (pe_ix ix_tup (pe_ix ix_tup (pv 0) (pv 2) (fun _ _ => rfl)) pe_int (fun _ _ => rfl)) (pa_cons (pe_ix ix_tup (pe_ix ix_tup (pv 0) (pv 2) (fun _ _ => rfl)) pe_int (fun _ _ => rfl)) pa_nil)))) (pg_tup rfl (pgs_cons (pg_name (i := 4) sc__law_behind.nd rfl (.inl rfl)) (pgs_cons (pg_name (i := 5) sc__law_behind.nd rfl (.inl rfl)) pgs_nil))))
      (pss_one (ps_ret (pe_ifExp (pt_val (pe_own O__law_holds (hr.mono (by omega)) (by rfl) (pa_cons (pv 1) (pa_cons (pv 4) pa_nil)))) (pe_own O__law_plus (hr.mono (by omega)) (by rfl) (pa_cons (pe_own O__law_less (hr.mono (by omega)) (by rfl) (pa_cons (pv 1) (pa_cons (pv 4) pa_nil))) (pa_cons (pv 5) pa_nil))) pe_non)))), ?_⟩
    obtain ⟨tv, ys, rfl, rtv, etv, dys⟩ := dm.tupI
    obtain ⟨tk, htk⟩ : ∃ tk, ts[k]? = some tk := ⟨_, List.getElem?_eq_getElem hk⟩
    obtain ⟨y, hy, dy⟩ := dys.get (i := k) (d := trdD tk) (by rw [List.getElem?_map, htk]; rfl)
    obtain ⟨ay, v1, v2, rfl, ry, ey, dv1, dv2⟩ := Dat.pair dy
    obtain ⟨b1, rfl, rb1, eb1⟩ := dv1.bag
    obtain ⟨b2, rfl, rb2, eb2⟩ := dv2.bag
    obtain ⟨bs, rfl, rbs, ebs⟩ := ds.bag
    obtain ⟨l1, l2⟩ := hE tk (List.mem_of_getElem? htk)
    have eB : behind ts x k b = if b = true then exch x tk.2 tk.1 else exch x tk.1 tk.2 := by
      unfold behind
      rw [htk]
    refine ⟨_, rfl, _, rfl, ?_⟩
    cases b with
    | true =>
      refine iteT ?_
      refine ⟨_, rfl, _, rfl, tv, _, _, _, rfl, rfl, .inl (.inl etv), atI_nat hy, ay, _, _, _, rfl, rfl, tup_at0 ey, rfl, _, rfl, _, rfl, tv, _, _, _, rfl, rfl, .inl (.inl etv), atI_nat hy, ay, _, _, _, rfl, rfl, tup_at0 ey, rfl, ?_⟩
      refine ⟨(by show 2 ≤ sizeLine; decide), fun p1 z1 => ?_⟩
      have s1 := same_upd (o := .tup [V.ref b2, V.ref b1]) z1
      refine ⟨p1, _, rfl, .inl (.inl upd_same), rfl, _, _, rfl, _, _, rfl, rfl, ?_⟩
      generalize upd H p1 (.tup [V.ref b2, V.ref b1]) = H1 at s1 ⊢
      have eB2 : behind ts x k true = exch x tk.2 tk.1 := eB
      refine ⟨_, rfl, _, rfl, bs, b2, x, tk.2, rfl, .inl (.inl (s1 _ _ ebs)), .inl (.inl (s1 _ _ eb2)), by omega, by omega, fun H2 s2 => ?_⟩
      refine ⟨_, rfl, ?_⟩
      have s12 := s1.trans s2
      cases hgb : geB x tk.2 with
      | false =>
        refine iteF (q H2 .non s12 ?_)
        rw [eB2]
        unfold exch
        rw [hgb]
        exact .non
      | true =>
        refine iteT ⟨_, rfl, _, rfl, bs, b2, x, tk.2, rfl, .inl (.inl (s12 _ _ ebs)), .inl (.inl (s12 _ _ eb2)), by omega, by omega, fun H3 p3 s3 n3 e3 => ?_⟩
        have s13 := s12.trans s3
        refine ⟨_, rfl, p3, b1, _, tk.1, rfl, .inl (.inl e3), .inl (.inl (s13 _ _ eb1)), by rw [List.length_zipWith]; omega, by rw [List.length_zipWith]; omega, fun H4 p4 s4 n4 e4 => q H4 _ (s13.trans s4) ?_⟩
        rw [eB2]
        unfold exch
        rw [hgb, if_pos rfl]
        exact Dat.mkBag (new _ (s13.free n4)) e4
    | false =>
      refine iteF ?_
      refine ⟨_, rfl, _, rfl, tv, _, _, _, rfl, rfl, .inl (.inl etv), atI_nat hy, ay, _, _, _, rfl, rfl, tup_at0 ey, rfl, _, rfl, _, rfl, tv, _, _, _, rfl, rfl, .inl (.inl etv), atI_nat hy, ay, _, _, _, rfl, rfl, tup_at0 ey, rfl, ?_⟩
      refine ⟨(by show 2 ≤ sizeLine; decide), fun p1 z1 => ?_⟩
      have s1 := same_upd (o := .tup [V.ref b1, V.ref b2]) z1
      refine ⟨p1, _, rfl, .inl (.inl upd_same), rfl, _, _, rfl, _, _, rfl, rfl, ?_⟩
      generalize upd H p1 (.tup [V.ref b1, V.ref b2]) = H1 at s1 ⊢
      have eB2 : behind ts x k false = exch x tk.1 tk.2 := eB
      refine ⟨_, rfl, _, rfl, bs, b1, x, tk.1, rfl, .inl (.inl (s1 _ _ ebs)), .inl (.inl (s1 _ _ eb1)), by omega, by omega, fun H2 s2 => ?_⟩
      refine ⟨_, rfl, ?_⟩
      have s12 := s1.trans s2
      cases hgb : geB x tk.1 with
      | false =>
        refine iteF (q H2 .non s12 ?_)
        rw [eB2]
        unfold exch
        rw [hgb]
        exact .non
      | true =>
        refine iteT ⟨_, rfl, _, rfl, bs, b1, x, tk.1, rfl, .inl (.inl (s12 _ _ ebs)), .inl (.inl (s12 _ _ eb1)), by omega, by omega, fun H3 p3 s3 n3 e3 => ?_⟩
        have s13 := s12.trans s3
        refine ⟨_, rfl, p3, b2, _, tk.2, rfl, .inl (.inl e3), .inl (.inl (s13 _ _ eb2)), by rw [List.length_zipWith]; omega, by rw [List.length_zipWith]; omega, fun H4 p4 s4 n4 e4 => q H4 _ (s13.trans s4) ?_⟩
        rw [eB2]
        unfold exch
        rw [hgb, if_pos rfl]
        exact Dat.mkBag (new _ (s13.free n4)) e4

end
end Lb
set_option Elab.async false
set_option linter.all false
set_option maxRecDepth 100000
set_option maxHeartbeats 8000000
namespace Lb
open PySem PySem.Spec PyProof.Rows L2 RZ
section
variable {P : Program} {w : World} {K : PySem.W.Frag} {mg : Str → Option Value} {base : Heap}
theorem sc__law_bag : FnScope ["_law_deck_here", "_law_goods", "_law_most", "_law_good"] ["_law_deck_here", "_law_goods", "_law_most"] (defScope s__law_bag) := ⟨rfl, rfl, rfl, by decide +kernel, rfl, by decide +kernel, by decide +kernel⟩
theorem own_bag (D : Df K mg "_law_bag" s__law_bag) (B : Blt mg) (O__law_draw : Own P w K mg base "_law_draw" 1 ["_law_deck_here", "_law_many"] spDraw) : Own P w K mg base "_law_bag" 2 ["_law_deck_here", "_law_goods", "_law_most"] spBag := by
  refine own_of D sc__law_bag (fun _ _ _ _ _ _ us hl => match us, hl with | [_, _, _], _ => rfl) (fun vs H Q E h => ?_) (fun f cdv A outer s H vs Q E hr h => ?_)
  · obtain ⟨_, _, _, _, _, _, rfl, _⟩ := h
    rfl
  · obtain ⟨d, c, r, n, g, m, rfl, dk, hn, hg, hm, q⟩ := h
    refine ⟨_, (pss_one (ps_ret (pe_callTy (T := "tuple") call_tuple_of (by rfl) B.b_tuple (by decide +kernel) (pa_cons (pe_lc (own := [("_law_good", 3)]) (g := gName 3) (tt := tYes) rfl sc__law_bag.nd (pi_range1 (by rfl) B.b_range (pa_cons (pv 1) pa_nil)) (blkOk_by (own := [("_law_good", 3)]) (N := ["_law_deck_here", "_law_goods", "_law_most", "_law_good"]) (sc := defScope s__law_bag) (by decide +kernel)) (fun _ _ _ _ _ => (pg_name (i := 3) sc__law_bag.nd rfl (.inl rfl))) (fun _ _ _ _ _ => pts_nil) (fun _ _ _ _ _ => (pe_own O__law_draw (hr.mono (by omega)) (by rfl) (pa_cons (pv 0) (pa_cons (pe_op op_add (pv 2) pe_int) pa_nil))))) pa_nil)))), ?_⟩
    refine ⟨_, rfl, (g : Int), rfl, by omega, by omega, fun D hD => ?_⟩
    rw [Int.toNat_natCast]
    have nd := dk.nd hD
    refine lc_range (lo := 0) (n := g) (fun i H' => ∃ b : List Int, b.length = i ∧ (∀ x ∈ b, 0 ≤ x ∧ x ≤ (m : Int)) ∧ Dk H' d c r (n + i) ∧ Kp d r H H' ∧ H' D = some (.lst (b.map V.int)))
      ⟨[], rfl, fun x hx => absurd hx List.not_mem_nil, dk.same (same_upd hD), Kp.of (same_upd hD), upd_same⟩ ?_ ?_
    · rintro i H' hi ⟨b, lb, hb, dk', k', eD⟩
      refine ⟨rfl, all_in ?_⟩
      refine ⟨_, rfl, _, rfl, _, _, rfl, rfl, ?_⟩
      refine ⟨d, c, r, n + i, m + 1, rfl, dk', by omega, by omega, by omega, fun H2 v hv dk2 k2 => ?_⟩
      refine ⟨_, k2 _ _ nd.1 nd.2.1 eD, by rw [List.length_map]; exact small1000 (by omega), b ++ [(v : Int)], by rw [List.length_append, lb]; rfl, fun x hx => ?_, upd_dk dk2 nd.1 nd.2.1 nd.2.2, fun z o z1 z2 ez => ?_, ?_⟩
      · rcases List.mem_append.mp hx with h | h
        · exact hb x h
        · rw [List.mem_singleton.mp h]
          omega
      · rw [upd_ne (ne_of_none ez hD)]
        exact k2 _ _ z1 z2 (k' _ _ z1 z2 ez)
      · rw [upd_same, List.map_append]
        rfl
    · rintro H' ⟨b, lb, hb, dk', k', eD⟩
      refine ⟨D, _, rfl, .inl ⟨SqL.of eD, fun p hp => ?_⟩⟩
      have sp := same_upd (o := .tup (b.map V.int)) hp
      exact q _ p b lb hb (kp_free k' dk' hp) upd_same (dk'.same sp) (k'.trans (Kp.of sp))

end
end Lb
set_option Elab.async false
set_option linter.all false
set_option maxRecDepth 100000
set_option maxHeartbeats 8000000
namespace Lb
open PySem PySem.Spec PyProof.Rows L2 RZ
section
variable {P : Program} {w : World} {K : PySem.W.Frag} {mg : Str → Option Value} {base : Heap}
theorem sc_BadStep___init__ : FnScope ["self", "index"] ["self", "index"] (defScope s_BadStep___init__) := ⟨rfl, rfl, rfl, by decide +kernel, rfl, by decide +kernel, by decide +kernel⟩
theorem ini_badstep {C f : Addr} {fd : FuncData} (F : Fun K "__init__" "BadStep.__init__" s_BadStep___init__ f fd) (ox : OexC K C) (no : PySem.W.findIn K (.ref C) "index" = some none) : FnOk P w K mg base CX0 1 f fd ["self", "index"] (spIni C "index") := by
  refine F.ok sc_BadStep___init__ (fun vs H Q E h => ?_) (fun cdv A outer s H vs Q E hr h => ?_)
  · obtain ⟨_, _, rfl, _⟩ := h
    rfl
  · obtain ⟨a, v, rfl, ea, q⟩ := h
    refine ⟨_, (pss_one (ps_ost (pv 0) (pv 1))), ?_⟩
    exact ⟨_, rfl, _, rfl, a, C, rfl, ox, no, .inl ⟨ea, fun dx n ne => q dx n ne⟩⟩

end
end Lb
set_option Elab.async false
set_option linter.all false
set_option maxRecDepth 100000
set_option maxHeartbeats 8000000
namespace Lb
open PySem PySem.Spec PyProof.Rows L2 RZ
section
variable {P : Program} {w : World} {K : PySem.W.Frag} {mg : Str → Option Value} {base : Heap}
theorem sc_is_step : FnScope ["market", "value", "k", "back"] ["market", "value"] (defScope s_is_step) := ⟨rfl, rfl, rfl, by decide +kernel, rfl, by decide +kernel, by decide +kernel⟩
theorem own_isstep (D : Df K mg "is_step" s_is_step) (B : Blt mg) (O_is_whole : Own P w K mg base "is_whole" 1 ["value"] spWhole) (O_is_pair : Own P w K mg base "is_pair" 1 ["value"] spPair) : Own P w K mg base "is_step" 2 ["market", "value"] spIsStep := by
  refine own_of D sc_is_step (fun _ _ _ _ _ _ us hl => match us, hl with | [_, _], _ => rfl) (fun vs H Q E h => ?_) (fun f cdv A outer s H vs Q E hr h => ?_)
  · obtain ⟨_, _, _, _, _, _, rfl, _⟩ := h
    rfl
  · obtain ⟨R, m, v, g, ts, d, rfl, dm, dv, q⟩ := h
    refine ⟨_, (pss_cons (ps_if (pt_not (pt_val (pe_own O_is_pair (hr.mono (by omega)) (by rfl) (pa_cons (pv 1) pa_nil)))) (pss_one (ps_ret pe_bl)) pss_nil)
      (pss_cons (ps_asg (pv 1) (pg_tup rfl (pgs_cons (pg_name (i := 2) sc_is_step.nd rfl (.inl rfl)) (pgs_cons (pg_name (i := 3) sc_is_step.nd rfl (.inl rfl)) pgs_nil))))
      (pss_one (ps_ret (pe_and (pe_own O_is_whole (hr.mono (by omega)) (by rfl) (pa_cons (pv 2) pa_nil)) (pe_and (pe_chain op_le op_lt pe_int (pv 2) (pe_callB (id := "len") call_len_seq (by rfl) B.b_len PySem.boot_len (pa_cons (pe_ix ix_tup (pv 0) pe_int (fun _ _ => rfl)) pa_nil))) (pe_one (pe_callB (id := "isinstance") call_isi (by rfl) B.b_isinstance (by decide +kernel) (pa_cons (pv 3) (pa_cons (pe_bltn (v := .ty "bool") (u := .type "bool") (by rfl) B.b_bool (by decide +kernel) rfl) pa_nil)))))))))), ?_⟩
    refine ⟨_, rfl, R, v, d, rfl, dv, _, rfl, ?_⟩
    cases hp : pairB d with
    | false =>
      refine iteT ?_
      have e : (stepOf ts.length d).isSome = false := by
        unfold stepOf
        split
        · exact absurd rfl (not_pair hp)
        · rfl
      rw [e] at q
      exact q
    | true =>
      obtain ⟨x, y, rfl⟩ := pair_shape hp
      obtain ⟨a, u, w', rfl, ra, ea, du, dw⟩ := Dat.pair dv
      obtain ⟨am, w1, w2, rfl, rm, em, dg, dts⟩ := Dat.pair dm
      obtain ⟨tv, ys, rfl, rtv, etv, dys⟩ := dts.tupI
      have lys : ys.length = ts.length := by rw [dys.length, List.length_map]
      refine iteF ?_
      refine ⟨_, rfl, a, _, rfl, tup_at0 ea, rfl, _, _, rfl, _, _, rfl, rfl, ?_⟩
      refine ⟨_, rfl, R, u, x, rfl, du, _, rfl, ?_⟩
      cases hx : whole x with
      | false =>
        have e : (stepOf ts.length (.tuple [x, y])).isSome = false := by
          unfold stepOf
          split
          · rename_i k b heq
            cases heq
            cases hx
          · rfl
        rw [e] at q
        exact iteF q
      | true =>
        obtain ⟨k, rfl⟩ : ∃ k, x = .int k := by
          cases x with
          | int k => exact ⟨k, rfl⟩
          | _ => cases hx
        obtain rfl := du.intI
        refine iteT ?_
        refine ⟨_, rfl, _, _, rfl, rfl, _, rfl, ?_⟩
        by_cases h0 : 0 ≤ k
        · rw [decide_eq_true h0]
          refine iteT ⟨_, rfl, am, _, _, _, rfl, rfl, tup_at0 em, rfl, tv, _, rfl, .inr (.inl (.inl etv)), _, _, rfl, rfl, _, rfl, ?_⟩
          by_cases h1 : k < (ts.length : Int)
          · rw [decide_eq_true (show k < ((ys.length : Nat) : Int) by rw [lys]; exact h1)]
            refine iteT ⟨_, rfl, _, _, _, _, _, rfl, .ty _, dat_ty dw, kit_ty (kit_bool y), ?_⟩
            have e : (stepOf ts.length (.tuple [.int k, y])).isSome = isBool y := by
              cases y with
              | bool b =>
                show (if 0 ≤ k ∧ k < (ts.length : Int) then some (k.toNat, b) else none).isSome = true
                rw [if_pos ⟨h0, h1⟩]
                rfl
              | _ => rfl
            rw [e] at q
            exact q
          · rw [decide_eq_false (show ¬ k < ((ys.length : Nat) : Int) by rw [lys]; exact h1)]
            refine iteF ?_
            have e : (stepOf ts.length (.tuple [.int k, y])).isSome = false := by
              cases y with
              | bool b =>
                show (if 0 ≤ k ∧ k < (ts.length : Int) then some (k.toNat, b) else none).isSome = false
                rw [if_neg (fun z => h1 z.2)]
                rfl
              | _ => rfl
            rw [e] at q
            exact q
        · rw [decide_eq_false h0]
          refine iteF ⟨_, rfl, iteF ?_⟩
          have e : (stepOf ts.length (.tuple [.int k, y])).isSome = false := by
            cases y with
            | bool b =>
              show (if 0 ≤ k ∧ k < (ts.length : Int) then some (k.toNat, b) else none).isSome = false
              rw [if_neg (fun z => h0 z.1)]
              rfl
            | _ => rfl
          rw [e] at q
          exact q

end
end Lb
set_option Elab.async false
set_option linter.all false
set_option maxRecDepth 100000
set_option maxHeartbeats 8000000
namespace Lb
open PySem PySem.Spec PyProof.Rows L2 RZ
section
variable {P : Program} {w : World} {K : PySem.W.Frag} {mg : Str → Option Value} {base : Heap}
theorem sc__law_is_step : FnScope ["_law_value", "_law_many"] ["_law_value", "_law_many"] (defScope s__law_is_step) := ⟨rfl, rfl, rfl, by decide +kernel, rfl, by decide +kernel, by decide +kernel⟩
theorem own_lisstep (D : Df K mg "_law_is_step" s__law_is_step) (B : Blt mg) : Own P w K mg base "_law_is_step" 1 ["_law_value", "_law_many"] spIsStep2 := by
  refine own_of D sc__law_is_step (fun _ _ _ _ _ _ us hl => match us, hl with | [_, _], _ => rfl) (fun vs H Q E h => ?_) (fun f cdv A outer s H vs Q E hr h => ?_)
  · obtain ⟨_, _, _, _, rfl, _⟩ := h
    rfl
  · obtain ⟨R, v, n, d, rfl, dv, q⟩ := h
    refine ⟨_, (pss_cons (ps_if (PW.pt (pw_or (pt_not (pt_val (pe_callB (id := "isinstance") call_isi (by rfl) B.b_isinstance (by decide +kernel) (pa_cons (pv 0) (pa_cons (pe_bltn (v := .ty "tuple") (u := .type "tuple") (by rfl) B.b_tuple (by decide +kernel) rfl) pa_nil))))) (pw_or (pt_cmpR op_ne (pe_callB (id := "len") call_len_seq (by rfl) B.b_len PySem.boot_len (pa_cons (pv 0) pa_nil)) pe_int (nomark _)) (pw_or1 (pt_not (pt_val (pe_callB (id := "isinstance") call_isi (by rfl) B.b_isinstance (by decide +kernel) (pa_cons (pe_ix ix_tup (pv 0) pe_int (fun _ _ => rfl)) (pa_cons (pe_bltn (v := .ty "bool") (u := .type "bool") (by rfl) B.b_bool (by decide +kernel) rfl) pa_nil))))))))) (pss_one (ps_ret pe_bl)) pss_nil)
      (pss_one (ps_ret (pe_and (pe_callB (id := "isinstance") call_isi (by rfl) B.b_isinstance (by decide +kernel) (pa_cons (pe_ix ix_tup (pv 0) pe_int (fun _ _ => rfl)) (pa_cons (pe_bltn (v := .ty "int") (u := .type "int") (by rfl) B.b_int (by decide +kernel) rfl) pa_nil))) (pe_and (pe_not (pe_callB (id := "isinstance") call_isi (by rfl) B.b_isinstance (by decide +kernel) (pa_cons (pe_ix ix_tup (pv 0) pe_int (fun _ _ => rfl)) (pa_cons (pe_bltn (v := .ty "bool") (u := .type "bool") (by rfl) B.b_bool (by decide +kernel) rfl) pa_nil)))) (pe_one (pe_chain op_le op_lt pe_int (pe_ix ix_tup (pv 0) pe_int (fun _ _ => rfl)) (pv 1)))))))), ?_⟩
    have no : ∀ {d : PyData}, (∀ k b, d ≠ .tuple [.int k, .bool b]) → stepOf n d = none := fun {d} h => by
      unfold stepOf
      split
      · exact absurd rfl (h _ _)
      · rfl
    refine ⟨_, rfl, _, _, _, _, _, rfl, .ty _, dat_ty dv, kit_ty (kit_tup d), _, rfl, ?_⟩
    cases ht : isTup d with
    | false =>
      have e := no (d := d) (fun k b z => by rw [z] at ht; cases ht)
      rw [e] at q
      exact iteT (iteT q)
    | true =>
      obtain ⟨ds, rfl⟩ : ∃ ds, d = .tuple ds := by
        cases d with
        | tuple ds => exact ⟨ds, rfl⟩
        | _ => cases ht
      obtain ⟨a, xs, rfl, ra, e, t⟩ := dv.tupI
      refine iteF ⟨_, rfl, a, _, rfl, .inr (.inl (.inl e)), rfl, _, rfl, ?_⟩
      have hlx := t.length
      cases hp : pairB (.tuple ds) with
      | false =>
        have h2 : ¬ ds.length = 2 := fun z => by
          match ds, z with
          | [_, _], _ => cases hp
        have e2 : decide (V.int ((xs.length : Nat) : Int) = V.int 2) = false := decide_eq_false (fun z => h2 (by have := V.int.inj z; omega))
        rw [e2]
        have e3 := no (d := .tuple ds) (fun k b z => absurd z (not_pair hp))
        rw [e3] at q
        exact iteT (iteT q)
      | true =>
        obtain ⟨x, y, z⟩ := pair_shape hp
        cases z
        cases t with
        | @cons u _ _ _ dx t2 =>
        cases t2 with
        | @cons u' _ _ _ dy t3 =>
        cases t3
        refine iteF ?_
        refine ⟨_, rfl, a, _, _, _, rfl, rfl, tup_at0 e, rfl, _, _, _, _, _, rfl, .ty _, dat_ty dy, kit_ty (kit_bool y), _, rfl, ?_⟩
        cases hy : isBool y with
        | false =>
          have e3 := no (d := .tuple [x, y]) (fun k b z => by cases z; cases hy)
          rw [e3] at q
          exact iteT q
        | true =>
          obtain ⟨b, rfl⟩ : ∃ b, y = .bool b := by
            cases y with
            | bool b => exact ⟨b, rfl⟩
            | _ => cases hy
          refine iteF ?_
          refine ⟨_, rfl, a, _, _, _, rfl, rfl, tup_at0 e, rfl, _, _, _, _, _, rfl, .ty _, dat_ty dx, kit_ty (kit_int x), _, rfl, ?_⟩
          cases hi : isInt x with
          | false =>
            have e3 := no (d := .tuple [x, .bool b]) (fun k b z => by cases z; cases hi)
            rw [e3] at q
            exact iteF q
          | true =>
            refine iteT ⟨_, rfl, a, _, _, _, rfl, rfl, tup_at0 e, rfl, _, _, _, _, _, rfl, .ty _, dat_ty dx, kit_ty (kit_bool x), _, rfl, _, rfl, ?_⟩
            cases hb : isBool x with
            | true =>
              have e3 := no (d := .tuple [x, .bool b]) (fun k b z => by cases z; cases hb)
              rw [e3] at q
              exact iteF q
            | false =>
              obtain ⟨k, rfl⟩ : ∃ k, x = .int k := by
                cases x with
                | int k => exact ⟨k, rfl⟩
                | bool b => cases hb
                | _ => cases hi
              obtain rfl := dx.intI
              refine iteT ?_
              have e3 : (stepOf n (.tuple [.int k, .bool b])).isSome = (decide (0 ≤ k) && decide (k < (n : Int))) := by
                show (if 0 ≤ k ∧ k < (n : Int) then some (k.toNat, b) else none).isSome = _
                by_cases h : 0 ≤ k ∧ k < (n : Int)
                · rw [if_pos h, decide_eq_true h.1, decide_eq_true h.2]
                  rfl
                · rw [if_neg h]
                  by_cases h0 : 0 ≤ k
                  · rw [decide_eq_true h0, decide_eq_false (fun z => h ⟨h0, z⟩)]
                    rfl
                  · rw [decide_eq_false h0]
                    rfl
              rw [e3] at q
              refine ⟨_, rfl, a, _, _, _, rfl, rfl, tup_at0 e, rfl, _, _, rfl, rfl, _, rfl, ?_⟩
              by_cases h0 : 0 ≤ k
              · rw [decide_eq_true h0] at q ⊢
                exact iteT ⟨_, rfl, _, _, rfl, rfl, q⟩
              · rw [decide_eq_false h0] at q ⊢
                exact iteF q

end
end Lb
set_option Elab.async false
set_option linter.all false
set_option maxRecDepth 100000
set_option maxHeartbeats 8000000
namespace Lb
open PySem PySem.Spec PyProof.Rows L2 RZ
section
variable {P : Program} {w : World} {K : PySem.W.Frag} {mg : Str → Option Value} {base : Heap}
theorem sc_walk : FnScope ["market", "stock", "steps", "way", "index", "step", "after"] ["market", "stock", "steps"] (defScope s_walk) := ⟨rfl, rfl, rfl, by decide +kernel, rfl, by decide +kernel, by decide +kernel⟩
theorem own_walk {C : Addr} (D : Df K mg "walk" s_walk) (B : Blt mg) (T_BadStep : Err1 P w K mg base "BadStep" "index" C) (O_is_step : Own P w K mg base "is_step" 2 ["market", "value"] spIsStep) (O_after_step : Own P w K mg base "after_step" 3 ["market", "stock", "step"] spAfter) : OwnX P w K mg base "walk" 4 ["market", "stock", "steps"] (spWalk C) := by
  refine ownX_of D sc_walk (fun _ _ _ _ _ _ us hl => match us, hl with | [_, _, _], _ => rfl) (fun vs H Q E h => ?_) (fun f cdv A outer s H vs Q E hr h => ?_)
  · obtain ⟨_, _, _, _, _, _, _, _, rfl, _⟩ := h
    rfl
  · obtain ⟨R, m, s, t, g, ts, x, d, rfl, dm, ds, dt, hw, hE, hg, hx, new, qo, qe⟩ := h
    refine ⟨_, (pss_cons (ps_if (pt_not (pt_val (pe_callB (id := "isinstance") call_isi (by rfl) B.b_isinstance (by decide +kernel) (pa_cons (pv 2) (pa_cons (pe_bltn (v := .ty "tuple") (u := .type "tuple") (by rfl) B.b_tuple (by decide +kernel) rfl) pa_nil))))) (pss_one (ps_raise rfl (takes_of rfl rfl rfl rfl) (pmk_err T_BadStep (hr.mono (by omega)) (by rfl) (pa_cons (pe_un un_neg pe_int) pa_nil)))) pss_nil)
      (pss_cons (ps_set (i := 3) sc_walk.nd rfl (.inl rfl) (pe_lst (pa_cons (pv 1) pa_nil)))
      (pss_cons (ps_for (passes_of rfl) rfl (pi_enumT (by rfl) B.b_enumerate (pa_cons (pv 2) pa_nil)) (pg_tup rfl (pgs_cons (pg_name (i := 4) sc_walk.nd rfl (.inl rfl)) (pgs_cons (pg_name (i := 5) sc_walk.nd rfl (.inl rfl)) pgs_nil)))
        (pss_cons (ps_set (i := 6) sc_walk.nd rfl (.inl rfl) (pe_ifExp (pt_val (pe_own O_is_step (hr.mono (by omega)) (by rfl) (pa_cons (pv 0) (pa_cons (pv 5) pa_nil)))) (pe_own O_after_step (hr.mono (by omega)) (by rfl) (pa_cons (pv 0) (pa_cons (pe_ix ix_list (pv 3) (pe_un un_neg pe_int) (fun _ _ => rfl)) (pa_cons (pv 5) pa_nil)))) pe_non))
      (pss_cons (ps_if (pt_cmp (pc_isN (pv 6))) (pss_one (ps_raise rfl (takes_of rfl rfl rfl rfl) (pmk_err T_BadStep (hr.mono (by omega)) (by rfl) (pa_cons (pv 4) pa_nil)))) pss_nil)
      (pss_one (ps_expr (pe_bm PySem.F.plainAttrs_list PySem.F.slot_list_append PySem.F.type_list_append mt_append (pv 3) (pa_cons (pv 6) pa_nil)))))))
      (pss_one (ps_ret (pe_callTy (T := "tuple") call_tuple_of (by rfl) B.b_tuple (by decide +kernel) (pa_cons (pv 3) pa_nil))))))), ?_⟩
    refine ⟨_, rfl, _, _, _, _, _, rfl, .ty _, dat_ty dt, kit_ty (kit_tup d), _, rfl, ?_⟩
    cases ht : isTup d with
    | false =>
      have e : walkM ts x d = .bad (-1) := by
        cases d with
        | tuple ds => cases ht
        | _ => rfl
      refine iteT ⟨1, rfl, err_in fun dd hd => ?_⟩
      exact qe _ _ dd e (same_upd hd) hd upd_same
    | true =>
      obtain ⟨zs, rfl⟩ : ∃ zs, d = .tuple zs := by
        cases d with
        | tuple zs => exact ⟨zs, rfl⟩
        | _ => cases ht
      obtain ⟨a, xs, rfl, ra, e, tt⟩ := dt.tupI
      have hlx := tt.length
      have hlen := wts_len zs
      have hw' : 4 + wts zs ≤ 1000000 := hw
      refine iteF ?_
      refine ⟨_, rfl, (by show 1 ≤ sizeLine; decide), fun L hL => ?_⟩
      have subL : ∀ b o, R b → H b = some o → wo R L b := fun b o hb e => ⟨hb, ne_of_none e hL⟩
      have sL := same_upd (o := .lst [s]) hL
      have dmL := (dm.sub subL).same sL
      have dsL := (ds.sub subL).same sL
      have ttL := (tt.sub subL).same sL
      have eL0 : upd H L (.lst [s]) L = some (.lst [s]) := upd_same
      generalize upd H L (.lst [s]) = H1 at sL dmL dsL ttL eL0 ⊢
      have newL : ∀ {H' : Hp} {o : HO}, Same H H' → H' L = some o → ∀ p, H' p = none → wo R L p := fun {H' o} sm eL p hp => ⟨new p (sm.free hp), fun z => by rw [z, eL] at hp; cases hp⟩
      refine ⟨_, rfl, a, _, rfl, .inl (.inl (sL _ _ e)), ?_⟩
      refine for_enumT (K := K) (a := a) (xs := xs) (fun i σ H' => ∃ (y4 y5 y6 : Option V) (way : List (List Int)) (cur : List Int) (vs : List V) (v : V), σ = [some m, some s, some (.ref a), some (.ref L), y4, y5, y6] ∧ Same H H' ∧ H' L = some (.lst (vs ++ [v])) ∧ On (wo R L) H1 H' ∧
          Dats (wo R L) H' vs (way.map bagD) ∧ Dat (wo R L) H' v (bagD cur) ∧ cur.length = g ∧ goW ts zs [] x 0 = goW ts (zs.drop i) way cur i ∧ vs.length = i)
        ⟨none, none, none, [], x, [], s, rfl, sL, eL0, On.of (Same.refl _), .nil, dsL, hx, rfl, rfl⟩ (fun i σ H' hP => by obtain ⟨_, _, _, _, _, _, _, _, sm, _⟩ := hP; exact .inl (.inl (sm _ _ e))) ?_ ?_
      · rintro i z T σ H' hz ⟨y4, y5, y6, way, cur, vs, v, rfl, sm, eL, on1, dvs, dv, hc, eg, lvs⟩ hT
        obtain ⟨dz, hdz, dtz⟩ := ttL.get' hz
        have hi : i < zs.length := (List.getElem?_eq_some_iff.mp hdz).1
        rw [drop_at2 hdz] at eg
        have sT := same_upd (o := .tup [V.int ((i : Nat) : Int), z]) hT
        have eT : upd H' T (.tup [V.int ((i : Nat) : Int), z]) T = some (.tup [V.int ((i : Nat) : Int), z]) := upd_same
        generalize upd H' T (.tup [V.int ((i : Nat) : Int), z]) = H2 at sT eT ⊢
        have sm2 := sm.trans sT
        have eL2 := sT _ _ eL
        have on2 := on1.trans (On.of sT)
        have dm2 := dmL.on on2
        have dz2 := dtz.on on2
        have dv2 := dv.same sT
        have dvs2 := dvs.same sT
        have bad : nxt ts cur dz = none → walkM ts x (.tuple zs) = .bad (i : Int) := fun hn => by
          show goW ts zs [] x 0 = _
          rw [eg, goW, hn]
        refine ⟨T, _, rfl, .inl (.inl eT), rfl, _, _, rfl, _, _, rfl, rfl, ?_⟩
        refine ⟨_, rfl, _, rfl, wo R L, m, z, g, ts, dz, rfl, dm2, dz2, _, rfl, ?_⟩
        cases hso : stepOf ts.length dz with
        | none =>
          have hn : nxt ts cur dz = none := by
            unfold nxt
            rw [hso]
          refine iteF ⟨_, rfl, _, rfl, iteT ⟨_, rfl, err_in fun dd hd => ?_⟩⟩
          exact qe _ _ dd (bad hn) (sm2.trans (same_upd hd)) (sm2.free hd) upd_same
        | some kb =>
          obtain ⟨k, b⟩ := kb
          obtain ⟨ez, hk⟩ := stepOf_some hso
          rw [ez] at dz2
          have hn : nxt ts cur dz = behind ts cur k b := by
            unfold nxt
            rw [hso]
          refine iteT ⟨_, rfl, _, rfl, 1, rfl, L, _, _, _, rfl, rfl, SqL.of eL2, atI_last _ _, _, rfl, wo R L, m, v, z, g, ts, cur, k, b, rfl, dm2, dv2, dz2, hE, hg, hc, hk, newL sm2 eL2, fun H3 u s3 du => ?_⟩
          have sm3 := sm2.trans s3
          cases hb : behind ts cur k b with
          | none =>
            rw [hb] at du hn
            obtain rfl := du.nonI
            refine ⟨_, rfl, _, rfl, iteT ⟨_, rfl, err_in fun dd hd => ?_⟩⟩
            exact qe _ _ dd (bad hn) (sm3.trans (same_upd hd)) (sm3.free hd) upd_same
          | some c =>
            rw [hb] at du hn
            have hcl := behind_len hE hc hb
            obtain ⟨pu, rfl, rpu, epu⟩ := Dat.bag du
            refine ⟨_, rfl, _, rfl, iteF ?_⟩
            have eL3 := s3 _ _ eL2
            refine ⟨_, rfl, .inl ⟨rfl, _, SqL.of eL3⟩, _, rfl, L, _, _, rfl, rfl, eL3, ?_, ?_⟩
            · rw [List.length_append, List.length_singleton, sizeLine_eq]
              omega
            · have onU : On (wo R L) H3 (upd H3 L (.lst (vs ++ [v] ++ [V.ref pu]))) := wo_on
              refine ⟨_, _, _, way ++ [cur], c, vs ++ [v], V.ref pu, rfl, fun b o eb => ?_, upd_same, (on2.trans (On.of s3)).trans onU, ?_, du.on onU, hcl, ?_, by rw [List.length_append, lvs]; rfl⟩
              · rw [upd_ne (ne_of_none eb hL)]
                exact sm3 _ _ eb
              · rw [List.map_append]
                exact ((dvs2.same s3).append (.cons (dv2.same s3) .nil)).on onU
              · rw [eg, goW, hn]
      · rintro σ H' ⟨y4, y5, y6, way, cur, vs, v, rfl, sm, eL, on1, dvs, dv, hc, eg, lvs⟩
        have hnil : zs.drop xs.length = [] := List.drop_eq_nil_of_le (by omega)
        rw [hnil, goW] at eg
        refine ⟨_, rfl, L, _, rfl, .inl ⟨SqL.of eL, fun p hp => ?_⟩⟩
        have sp := same_upd (o := .tup (vs ++ [v])) hp
        refine qo _ _ _ eg (sm.trans sp) (.tup (new p (sm.free hp)) upd_same ?_)
        rw [List.map_append]
        exact ((dvs.append (.cons dv .nil)).same sp).sub fun b o h _ => h.1

end
end Lb
set_option Elab.async false
set_option linter.all false
set_option maxRecDepth 100000
set_option maxHeartbeats 8000000
namespace Lb
open PySem PySem.Spec PyProof.Rows L2 RZ
section
variable {P : Program} {w : World} {K : PySem.W.Frag} {mg : Str → Option Value} {base : Heap}
theorem sc__law_due : FnScope ["_law_market_here", "_law_stock", "_law_steps", "_law_found_here", "_law_index", "_law_step", "_law_later"] ["_law_market_here", "_law_stock", "_law_steps"] (defScope s__law_due) := ⟨rfl, rfl, rfl, by decide +kernel, rfl, by decide +kernel, by decide +kernel⟩
theorem own_due (D : Df K mg "_law_due" s__law_due) (B : Blt mg) (O__law_is_step : Own P w K mg base "_law_is_step" 1 ["_law_value", "_law_many"] spIsStep2) (O__law_behind : Own P w K mg base "_law_behind" 2 ["_law_trades", "_law_stock", "_law_k", "_law_is_back"] spBehind) : Own P w K mg base "_law_due" 3 ["_law_market_here", "_law_stock", "_law_steps"] spDue := by
  refine own_of D sc__law_due (fun _ _ _ _ _ _ us hl => match us, hl with | [_, _, _], _ => rfl) (fun vs H Q E h => ?_) (fun f cdv A outer s H vs Q E hr h => ?_)
  · obtain ⟨_, _, _, _, _, _, _, _, rfl, _⟩ := h
    rfl
  · obtain ⟨R, m, s, t, g, ts, x, d, rfl, dm, ds, dt, hw, hE, hg, hx, new, q⟩ := h
    refine ⟨_, (pss_cons (ps_if (pt_not (pt_val (pe_callB (id := "isinstance") call_isi (by rfl) B.b_isinstance (by decide +kernel) (pa_cons (pv 2) (pa_cons (pe_bltn (v := .ty "tuple") (u := .type "tuple") (by rfl) B.b_tuple (by decide +kernel) rfl) pa_nil))))) (pss_one (ps_ret (pe_lst (pa_cons pe_str (pa_cons (pe_un un_neg pe_int) pa_nil))))) pss_nil)
      (pss_cons (ps_set (i := 3) sc__law_due.nd rfl (.inl rfl) (pe_lst (pa_cons (pv 1) pa_nil)))
      (pss_cons (ps_for PassesOwn.never rfl (pi_range1 (by rfl) B.b_range (pa_cons (pe_callB (id := "len") call_len_seq (by rfl) B.b_len PySem.boot_len (pa_cons (pv 2) pa_nil)) pa_nil)) (pg_name (i := 4) sc__law_due.nd rfl (.inl rfl))
        (pss_cons (ps_par (i := 5) (j := 6) rfl sc__law_due.nd rfl rfl (by decide) rfl rfl (pa_cons (pe_ix ix_tup (pv 2) (pv 4) (fun _ _ => rfl)) (pa_cons pe_non pa_nil)) rfl)
      (pss_cons (ps_if (pt_val (pe_own O__law_is_step (hr.mono (by omega)) (by rfl) (pa_cons (pv 5) (pa_cons (pe_callB (id := "len") call_len_seq (by rfl) B.b_len PySem.boot_len (pa_cons (pe_ix ix_tup (pv 0) pe_int (fun _ _ => rfl)) pa_nil)) pa_nil)))) (pss_one (ps_set (i := 6) sc__law_due.nd rfl (.inl rfl) (pe_own O__law_behind (hr.mono (by omega)) (by rfl) (pa_cons (pe_ix ix_tup (pv 0) pe_int (fun _ _ => rfl)) (pa_cons (pe_ix ix_list (pv 3) (pe_un un_neg pe_int) (fun _ _ => rfl)) (pa_cons (pe_ix ix_tup (pv 5) pe_int (fun _ _ => rfl)) (pa_cons (pe_ix ix_tup (pv 5) pe_int (fun _ _ => rfl)) pa_nil))))))) pss_nil)
      (pss_cons (ps_if (pt_cmp (pc_isN (pv 6))) (pss_one (ps_ret (pe_lst (pa_cons pe_str (pa_cons (pv 4) pa_nil))))) pss_nil)
      (pss_one (ps_expr (pe_bm PySem.F.plainAttrs_list PySem.F.slot_list_append PySem.F.type_list_append mt_append (pv 3) (pa_cons (pv 6) pa_nil))))))))
      (pss_one (ps_ret (pe_lst (pa_cons pe_str (pa_cons (pe_callTy (T := "tuple") call_tuple_of (by rfl) B.b_tuple (by decide +kernel) (pa_cons (pv 3) pa_nil)) pa_nil)))))))), ?_⟩
    refine ⟨_, rfl, _, _, _, _, _, rfl, .ty _, dat_ty dt, kit_ty (kit_tup d), _, rfl, ?_⟩
    cases ht : isTup d with
    | false =>
      have e : walkM ts x d = .bad (-1) := by
        cases d with
        | tuple ds => cases ht
        | _ => rfl
      rw [e] at q
      refine iteT ⟨1, rfl, (by show 2 ≤ sizeLine; decide), fun p hp => ?_⟩
      exact q _ _ (same_upd hp) (Dat.newL hp (new p hp) (.cons (.str _) (.cons (.int _) .nil)))
    | true =>
      obtain ⟨zs, rfl⟩ : ∃ zs, d = .tuple zs := by
        cases d with
        | tuple zs => exact ⟨zs, rfl⟩
        | _ => cases ht
      obtain ⟨a, xs, rfl, ra, e, tt⟩ := dt.tupI
      have hlx := tt.length
      have hlen := wts_len zs
      have hw' : 4 + wts zs ≤ 1000000 := hw
      obtain ⟨am, w1, w2, rfl, rm, em, dg, dts⟩ := Dat.pair dm
      obtain ⟨tv, ys, rfl, rtv, etv, dys⟩ := dts.tupI
      have lys : ys.length = ts.length := by rw [dys.length, List.length_map]
      refine iteF ?_
      refine ⟨_, rfl, (by show 1 ≤ sizeLine; decide), fun L hL => ?_⟩
      have subL : ∀ b o, R b → H b = some o → wo R L b := fun b o hb e => ⟨hb, ne_of_none e hL⟩
      have sL := same_upd (o := .lst [s]) hL
      have dtL := (dts.sub subL).same sL
      have dsL := (ds.sub subL).same sL
      have ttL := (tt.sub subL).same sL
      have eL0 : upd H L (.lst [s]) L = some (.lst [s]) := upd_same
      generalize upd H L (.lst [s]) = H1 at sL dtL dsL ttL eL0 ⊢
      have newL : ∀ {H' : Hp} {o : HO}, Same H H' → H' L = some o → ∀ p, H' p = none → wo R L p := fun {H' o} sm eL p hp => ⟨new p (sm.free hp), fun z => by rw [z, eL] at hp; cases hp⟩
      refine ⟨_, rfl, a, _, rfl, .inr (.inl (.inl (sL _ _ e))), ((xs.length : Nat) : Int), rfl, by omega, by omega, ?_⟩
      rw [Int.toNat_natCast]
      refine for_range (n := xs.length) (fun i σ H' => ∃ (y4 y5 y6 : Option V) (way : List (List Int)) (cur : List Int) (vs : List V) (v : V), σ = [some (.ref am), some s, some (.ref a), some (.ref L), y4, y5, y6] ∧ Same H H' ∧ H' L = some (.lst (vs ++ [v])) ∧ On (wo R L) H1 H' ∧
          Dats (wo R L) H' vs (way.map bagD) ∧ Dat (wo R L) H' v (bagD cur) ∧ cur.length = g ∧ goW ts zs [] x 0 = goW ts (zs.drop i) way cur i ∧ vs.length = i)
        ⟨none, none, none, [], x, [], s, rfl, sL, eL0, On.of (Same.refl _), .nil, dsL, hx, rfl, rfl⟩ ?_ ?_
      · rintro i σ H2 hi ⟨y4, y5, y6, way, cur, vs, v, rfl, sm, eL, on1, dvs, dv, hc, eg, lvs⟩
        have hz : xs[i]? = some xs[i] := List.getElem?_eq_getElem hi
        obtain ⟨dz, hdz, dtz⟩ := ttL.get' hz
        generalize xs[i] = z at hz dtz
        rw [drop_at2 hdz] at eg
        have dt2 := dtL.on on1
        have dz2 := dtz.on on1
        have bad : nxt ts cur dz = none → walkM ts x (.tuple zs) = .bad (i : Int) := fun hn => by
          show goW ts zs [] x 0 = _
          rw [eg, goW, hn]
        have i0 : (0 : Int) + (i : Int) = (i : Int) := by omega
        rw [i0]
        refine ⟨_, rfl, _, rfl, a, _, _, _, rfl, rfl, .inl (.inl (sm _ _ e)), atI_nat hz, _, _, rfl, ?_⟩
        refine ⟨_, rfl, _, rfl, am, _, _, _, rfl, rfl, tup_at0 (sm _ _ em), rfl, tv, _, rfl, .inr (.inl (.inl (sm _ _ etv))), wo R L, z, ys.length, dz, rfl, dz2, _, rfl, ?_⟩
        rw [lys]
        have out : ∀ (σ' : L2.St) (H3 : Hp), Same H H3 → nxt ts cur dz = none → ∀ p, H3 p = none → Q (.ref p) (upd H3 p (.lst [.str "bad", .int (i : Int)])) := fun σ' H3 s3 hn p hp => by
          rw [bad hn] at q
          exact q _ _ (s3.trans (same_upd hp)) (Dat.newL hp (new p (s3.free hp)) (.cons (.str _) (.cons (.int _) .nil)))
        cases hso : stepOf ts.length dz with
        | none =>
          have hn : nxt ts cur dz = none := by
            unfold nxt
            rw [hso]
          refine iteF ⟨_, rfl, _, rfl, iteT ⟨_, rfl, (by show 2 ≤ sizeLine; decide), fun p hp => ?_⟩⟩
          exact out [] _ sm hn p hp
        | some kb =>
          obtain ⟨k, b⟩ := kb
          obtain ⟨ez, hk⟩ := stepOf_some hso
          rw [ez] at dz2
          have hn : nxt ts cur dz = behind ts cur k b := by
            unfold nxt
            rw [hso]
          obtain ⟨az, u1, u2, rfl, rz, eaz, du1, du2⟩ := Dat.pair dz2
          obtain rfl := du1.intI
          obtain rfl := du2.blI
          refine iteT ⟨_, rfl, am, _, _, _, rfl, rfl, tup_at0 (sm _ _ em), rfl, _, rfl, 1, rfl, L, _, _, _, rfl, rfl, SqL.of eL, atI_last _ _, _, rfl, az, _, _, _, rfl, rfl, tup_at0 eaz, rfl, _, rfl, az, _, _, _, rfl, rfl, tup_at0 eaz, rfl,
            wo R L, .ref tv, v, g, ts, cur, k, b, rfl, dt2, dv, hE, hg, hc, hk, newL sm eL, fun H3 u s3 du => ?_⟩
          have sm3 := sm.trans s3
          cases hb : behind ts cur k b with
          | none =>
            rw [hb] at du hn
            obtain rfl := du.nonI
            refine ⟨_, rfl, _, rfl, iteT ⟨_, rfl, (by show 2 ≤ sizeLine; decide), fun p hp => ?_⟩⟩
            exact out [] _ sm3 hn p hp
          | some c =>
            rw [hb] at du hn
            have hcl := behind_len hE hc hb
            obtain ⟨pu, rfl, rpu, epu⟩ := Dat.bag du
            refine ⟨_, rfl, _, rfl, iteF ?_⟩
            have eL3 := s3 _ _ eL
            refine ⟨_, rfl, .inl ⟨rfl, _, SqL.of eL3⟩, _, rfl, L, _, _, rfl, rfl, eL3, ?_, ?_⟩
            · rw [List.length_append, List.length_singleton, sizeLine_eq]
              omega
            · have onU : On (wo R L) H3 (upd H3 L (.lst (vs ++ [v] ++ [V.ref pu]))) := wo_on
              refine ⟨_, _, _, way ++ [cur], c, vs ++ [v], V.ref pu, rfl, fun b o eb => ?_, upd_same, (on1.trans (On.of s3)).trans onU, ?_, du.on onU, hcl, ?_, by rw [List.length_append, lvs]; rfl⟩
              · rw [upd_ne (ne_of_none eb hL)]
                exact sm3 _ _ eb
              · rw [List.map_append]
                exact ((dvs.same s3).append (.cons (dv.same s3) .nil)).on onU
              · rw [eg, goW, hn]
      · rintro σ H' ⟨y4, y5, y6, way, cur, vs, v, rfl, sm, eL, on1, dvs, dv, hc, eg, lvs⟩
        have hnil : zs.drop xs.length = [] := List.drop_eq_nil_of_le (by omega)
        rw [hnil, goW] at eg
        have ew : walkM ts x (.tuple zs) = .ok (way ++ [cur]) := eg
        rw [ew] at q
        refine ⟨_, rfl, L, _, rfl, .inl ⟨SqL.of eL, fun p hp => ?_⟩⟩
        have sp := same_upd (o := .tup (vs ++ [v])) hp
        have dp : Dat R (upd H' p (.tup (vs ++ [v]))) (.ref p) (.tuple ((way ++ [cur]).map bagD)) := by
          refine .tup (new p (sm.free hp)) upd_same ?_
          rw [List.map_append]
          exact ((dvs.append (.cons dv .nil)).same sp).sub fun b o h _ => h.1
        generalize upd H' p (.tup (vs ++ [v])) = H3 at sp dp ⊢
        have sm3 := sm.trans sp
        refine ⟨(by show 2 ≤ sizeLine; decide), fun p2 hp2 => q _ _ (sm3.trans (same_upd hp2)) (Dat.newL hp2 (new p2 (sm3.free hp2)) (.cons (.str _) (.cons dp .nil)))⟩

end
end Lb
set_option Elab.async false
set_option linter.all false
set_option maxRecDepth 100000
set_option maxHeartbeats 8000000
namespace Lb
open PySem PySem.Spec PyProof.Rows L2 RZ
section
variable {P : Program} {w : World} {K : PySem.W.Frag} {mg : Str → Option Value} {base : Heap}
theorem sc__law_found : FnScope ["_law_call", "e"] ["_law_call"] (defScope s__law_found) := ⟨rfl, rfl, rfl, by decide +kernel, rfl, by decide +kernel, by decide +kernel⟩
theorem gives_found {X : Cx} {g C : Addr} {cdg : Value} {q : Str} (T : Err1 X.prog X.w X.K X.mg X.base "BadStep" "index" C) : LamX.GivesTo X ["_law_call", "e"] "_law_found" (defScope s__law_found) g cdg (defBody s__law_found) "_law_call" q (TFound C "index") := by
  intro f c' s H Q tl act hc h
  refine ⟨_, pss_one (ps_try_as (X := (cxOf C8.CX0 X.prog X.w X.K X.mg X.base ["_law_call", "e"] "_law_found" (defScope s__law_found) g cdg X.A X.stack s H C8.E0).nox) (i := 1) (c := .ref C)
      (tb := fun W D σ H => ∃ Ech : XK, (∀ cls d (σ' : L2.St) H', Ech cls d H' → σ'.length = 2 → W cls d σ' H') ∧ σ[0]? = some (some (.ref f)) ∧ H c' = some (LamX.CodeO c' q) ∧ tl Ech H (fun v H' => [V.str "ok", v].length ≤ sizeLine ∧ ∀ p, H' p = none → D.rt (.ref p) (upd H' p (.lst [.str "ok", v]))))
      rfl rfl sc__law_found.nd rfl rfl ⟨by rfl, by decide, .inl T.gC⟩ L2.takes0 (fun W pn xe tk _ => ?_) (fun a oe cls d pn hz hf => pss_one (ps_ret (pe_lst (pa_cons pe_str (pa_cons (pe_xf T.xf T.no hz hf (pv 1)) pa_nil)))))), ?_⟩
  · refine ⟨fun pins s' σ H' D I h' => ?_⟩
    obtain ⟨Ech, hW, h1, h2, h3⟩ := h'
    have hp := fun p1 p2 => act (fun c d σ H => σ.length = 2 → W c d σ H) pn xe Ech p1 p2 (takes_len tk) (fun cls d σ' H' he hl => hW cls d σ' H' he hl)
    exact PSs.run (pss_one (ps_ret (pe_lst (pa_cons pe_str (pa_cons (hp _ _) pa_nil))))) pins s' σ H' D I ⟨h1, h2, h3⟩
  · refine ⟨fun cls d H' => cls = .ref C ∧ ∃ (dd : Addr) (v : V), d = some dd ∧ H' dd = some (.xd [("index", v)]) ∧ ∀ p, H' p = none → Q (.ref p) (upd H' p (.lst [.str "bad", v])), ?_, rfl, hc, h⟩
    rintro cls d σ' H' ⟨rfl, dd, v, rfl, e, hp⟩ hl
    refine ⟨true, T.te, fun _ a ha => ?_, fun z => nomatch z⟩
    obtain ⟨s0, s1, rfl⟩ : ∃ s0 s1, σ' = [s0, s1] := by
      match σ', hl with
      | [s0, s1], _ => exact ⟨s0, s1, rfl⟩
    exact ⟨_, rfl, rfl, rfl, dd, _, v, rfl, e, rfl, (by show 2 ≤ sizeLine; decide), fun p z => hp p z⟩

end
end Lb
set_option Elab.async false
set_option linter.all false
set_option maxRecDepth 100000
set_option maxHeartbeats 8000000
namespace Lb
open PySem PySem.Spec PyProof.Rows L2 RZ
section
variable {P : Program} {w : World} {K : PySem.W.Frag} {mg : Str → Option Value} {base : Heap}
theorem pe_lam {X : Cx} {C c Pt : Addr} {params : Arguments} {body : Expr} {scope : Scope} {t : XK → TE} {p lpos pos : Pos} (D : Df X.K X.mg "_law_found" s__law_found) (TE : Err1 X.prog X.w X.K X.mg X.base "BadStep" "index" C) (TB : LamX.TabB X.base X.mg c Pt) (hcode : X.env.code = .ref c) (hr : Room 6 X.A) (hg : Gl X "_law_found")
    (L : LamX.LamS X.env.scope scope) (hdef : defaultsOf params X.env = ([], [])) (hbind : ∀ (q : Str) (cl : List (Str × Addr)) (pm cv ctv : Value), bindArgs (PySem.W.kla_fn "<lambda>" q params body scope cl pm cv ctv) ⟨[], []⟩ = pure [])
    (hbody : ∀ (A : Around) (outer : List Env) (s : Shared) (H : Hp) (E : XK) (f c' : Addr), Room 4 (A.deeper (LamX.lamEnv X scope s.heap.objs.size f c')) → PE (LamX.lamCx X A outer s H E scope f c') body (t E)) :
    PE X (.Call (.Name "_law_found" p) [.Lambda params body scope lpos] [] pos) (LamX.tLam [(Pt, X.env.qual ++ "<lambda>")] (TFound C "index") t) := by
  obtain ⟨g, fd, F, m⟩ := D.ex
  have b := F.binds (ps := ["_law_call"]) (fun _ _ _ _ _ _ us hl => match us, hl with | [_], _ => rfl)
  have kp := F.kp
  obtain ⟨oc, od, kV, doc, pm, an, cdv, ct, osl, rfl, lk, hcd⟩ := F.ex
  exact LamX.pe_lamcall (Ng := ["_law_call", "e"]) hg m kp lk hcd b sc__law_found rfl (.inl rfl) (gives_found TE) TB hcode (List.mem_singleton.mpr rfl) (fun p hp _ => by rw [List.mem_singleton.mp hp]) hr L hdef hbind hbody
theorem sc_law : FnScope ["_law_script", "_law_deck_here", "_law_turn", "_law_market_here", "_law_many", "_law_stock", "_law_steps", "_law_now", "_law_k", "_law_some", "_law_i", "_law_step", "_law_later", "_law_odd", "_law_at", "_law_values", "_law_value", "_law_due_here"] ["_law_script"] (defScope s_law) := ⟨rfl, rfl, rfl, by decide +kernel, rfl, by decide +kernel, by decide +kernel⟩
theorem fn_law {f c C Pt : Addr} {oc : Value} {od an : Option Addr} {osl : Array (Option Value)} {kV doc pm ct : Value}
    (lk : K.lookup f = some ⟨oc, od, .func (PySem.W.fnOf "law" "law" (defArgs s_law) (defBody s_law) (defScope s_law) .none kV doc pm an (.ref c) ct), osl⟩) (hcd : PySem.W.codeIn K (.ref c) "law" = true) (B : Blt mg) (TB : LamX.TabB base mg c Pt) (T_BadStep : Err1 P w K mg base "BadStep" "index" C) (Dfound : Df K mg "_law_found" s__law_found)
    (O__law_deck : Own P w K mg base "_law_deck" 1 ["_law_script"] (spDeck K)) (O__law_draw : Own P w K mg base "_law_draw" 1 ["_law_deck_here", "_law_many"] spDraw) (O__law_one : Own P w K mg base "_law_one" 2 ["_law_deck_here", "_law_items"] spOne) (O__law_any_market : Own P w K mg base "_law_any_market" 5 ["_law_deck_here"] spAny)
    (O__law_spoilt : Own P w K mg base "_law_spoilt" 23 ["_law_deck_here", "_law_value"] (spSpoil 21)) (O__law_bag : Own P w K mg base "_law_bag" 2 ["_law_deck_here", "_law_goods", "_law_most"] spBag) (O__law_behind : Own P w K mg base "_law_behind" 2 ["_law_trades", "_law_stock", "_law_k", "_law_is_back"] spBehind) (O__law_due : Own P w K mg base "_law_due" 3 ["_law_market_here", "_law_stock", "_law_steps"] spDue) (OX_walk : OwnX P w K mg base "walk" 4 ["market", "stock", "steps"] (spWalk C)) :
    FnG P w K mg base CX0 25 f (PySem.W.fnOf "law" "law" (defArgs s_law) (defBody s_law) (defScope s_law) .none kV doc pm an (.ref c) ct) ["_law_script"] (spLawT K Pt) := by
  obtain ⟨fw, fdw, Fw, mw, kpw, bw⟩ := OX_walk.ex
  refine fnG_ofC lk hcd sc_law (fun vs H Q E h => ?_) (fun A outer s H vs Q E hgd hr h => ?_)
  · obtain ⟨_, _, rfl, _⟩ := h
    rfl
  · obtain ⟨a, ns, rfl, hS, hl, hT0, q⟩ := h
    have hud : (cxOf CX0 P w K mg base ["_law_script", "_law_deck_here", "_law_turn", "_law_market_here", "_law_many", "_law_stock", "_law_steps", "_law_now", "_law_k", "_law_some", "_law_i", "_law_step", "_law_later", "_law_odd", "_law_at", "_law_values", "_law_value", "_law_due_here"] "law" (defScope s_law) f (.ref c) A outer s H E).nox.A.units + 110 < cLine := by
      have := hr.un
      show (A.deeper _).units + 110 < cLine
      omega
    refine ⟨_, (pss_cons (ps_set (i := 1) sc_law.nd rfl (.inl rfl) (pe_own O__law_deck (hr.mono (by omega)) (by rfl) (pa_cons (pv 0) pa_nil)))
      (pss_cons (ps_for PassesOwn.never rfl (pi_range1 (by rfl) B.b_range (pa_cons pe_int pa_nil)) (pg_name (i := 2) sc_law.nd rfl (.inl rfl))
        (pss_cons (ps_set (i := 3) sc_law.nd rfl (.inr rfl) (pe_own O__law_any_market (hr.mono (by omega)) (by rfl) (pa_cons (pv 1) pa_nil)))
      (pss_cons (ps_asg (pe_tup (pa_cons (pe_callB (id := "len") call_len_seq (by rfl) B.b_len PySem.boot_len (pa_cons (pe_ix ix_tup (pv 3) pe_int (fun _ _ => rfl)) pa_nil)) (pa_cons (pe_own O__law_bag (hr.mono (by omega)) (by rfl) (pa_cons (pv 1) (pa_cons (pe_ix ix_tup (pv 3) pe_int (fun _ _ => rfl)) (pa_cons pe_int pa_nil)))) (pa_cons (pe_tup pa_nil) pa_nil)))) (pg_tup rfl (pgs_cons (pg_name (i := 4) sc_law.nd rfl (.inl rfl)) (pgs_cons (pg_name (i := 5) sc_law.nd rfl (.inr rfl)) (pgs_cons (pg_name (i := 6) sc_law.nd rfl (.inl rfl)) pgs_nil)))))
      (pss_cons (ps_set (i := 7) sc_law.nd rfl (.inr rfl) (pv 5))
      (pss_cons (ps_for PassesOwn.never rfl (pi_range1 (by rfl) B.b_range (pa_cons (pe_op op_mul (pe_own O__law_draw (hr.mono (by omega)) (by rfl) (pa_cons (pv 1) (pa_cons pe_int pa_nil))) (pe_callTy (T := "int") call_int1 (by rfl) B.b_int PyProof.Rows.boot_int (pa_cons (pe_cmpR op_gt (pv 4) pe_int (nomark _)) pa_nil))) pa_nil)) (pg_name (i := 8) sc_law.nd rfl (.inl rfl))
        (pss_cons (ps_set (i := 9) sc_law.nd rfl (.inl rfl) (pe_op op_cat (pe_lc (own := [("_law_i", 10)]) (g := gName 10) (tt := tYes) rfl sc_law.nd (pi_range1 (by rfl) B.b_range (pa_cons (pv 4) pa_nil)) (blkOk_by (own := [("_law_i", 10)]) (N := ["_law_script", "_law_deck_here", "_law_turn", "_law_market_here", "_law_many", "_law_stock", "_law_steps", "_law_now", "_law_k", "_law_some", "_law_i", "_law_step", "_law_later", "_law_odd", "_law_at", "_law_values", "_law_value", "_law_due_here"]) (sc := defScope s_law) (by decide +kernel)) (fun _ _ _ _ _ => (pg_name (i := 10) sc_law.nd rfl (.inl rfl))) (fun _ _ _ _ _ => pts_nil) (fun _ _ _ _ _ => (pe_tup (pa_cons (pv 10) (pa_cons pe_bl pa_nil))))) (pe_lc (own := [("_law_i", 10)]) (g := gName 10) (tt := tYes) rfl sc_law.nd (pi_range1 (by rfl) B.b_range (pa_cons (pv 4) pa_nil)) (blkOk_by (own := [("_law_i", 10)]) (N := ["_law_script", "_law_deck_here", "_law_turn", "_law_market_here", "_law_many", "_law_stock", "_law_steps", "_law_now", "_law_k", "_law_some", "_law_i", "_law_step", "_law_later", "_law_odd", "_law_at", "_law_values", "_law_value", "_law_due_here"]) (sc := defScope s_law) (by decide +kernel)) (fun _ _ _ _ _ => (pg_name (i := 10) sc_law.nd rfl (.inl rfl))) (fun _ _ _ _ _ => pts_nil) (fun _ _ _ _ _ => (pe_tup (pa_cons (pv 10) (pa_cons pe_bl pa_nil)))))))
      (pss_cons (ps_setLc (i := 9) (own := [("_law_step", 11)]) (g := gName 11) (tt := _) rfl sc_law.nd rfl rfl (sw_true rfl rfl rfl (by decide +kernel)) (pi_list (pv 9)) (blkOk_by (own := [("_law_step", 11)]) (N := ["_law_script", "_law_deck_here", "_law_turn", "_law_market_here", "_law_many", "_law_stock", "_law_steps", "_law_now", "_law_k", "_law_some", "_law_i", "_law_step", "_law_later", "_law_odd", "_law_at", "_law_values", "_law_value", "_law_due_here"]) (sc := defScope s_law) (by decide +kernel)) (fun _ _ _ _ _ => (pg_name (i := 11) sc_law.nd rfl (.inl rfl))) (fun _ _ _ _ _ => (pts_one (pt_cmp (pc_notN (pe_own O__law_behind (hr.mono (by omega)) (by rfl) (pa_cons (pe_ix (show IxR _ (rIxT K) from ix_tup) (pv 3) pe_int (fun _ _ => rfl)) (pa_cons (pv 7) (pa_cons (pe_ix (show IxR _ (rIxT K) from ix_tup) (pv 11) pe_int (fun _ _ => rfl)) (pa_cons (pe_ix (show IxR _ (rIxT K) from ix_tup) (pv 11) pe_int (fun _ _ => rfl)) pa_nil))))))))) (fun _ _ _ _ _ => (pv 11)))
      (pss_cons (ps_set (i := 11) sc_law.nd rfl (.inl rfl) (pe_own O__law_one (hr.mono (by omega)) (by rfl) (pa_cons (pv 1) (pa_cons (pe_op op_cat (pv 9) (pe_lst (pa_cons (pe_tup (pa_cons (pe_own O__law_draw (hr.mono (by omega)) (by rfl) (pa_cons (pv 1) (pa_cons (pv 4) pa_nil))) (pa_cons (pe_cmpR op_eq (pe_own O__law_draw (hr.mono (by omega)) (by rfl) (pa_cons (pv 1) (pa_cons pe_int pa_nil))) pe_int (nomark _)) pa_nil))) pa_nil))) pa_nil))))
      (pss_cons (ps_par (i := 6) (j := 12) rfl sc_law.nd rfl rfl (by decide) rfl rfl (pa_cons (pe_op op_catA (pv 6) (pe_tup (pa_cons (pv 11) pa_nil))) (pa_cons (pe_own O__law_behind (hr.mono (by omega)) (by rfl) (pa_cons (pe_ix ix_tup (pv 3) pe_int (fun _ _ => rfl)) (pa_cons (pv 7) (pa_cons (pe_ix ix_tup (pv 11) pe_int (fun _ _ => rfl)) (pa_cons (pe_ix ix_tup (pv 11) pe_int (fun _ _ => rfl)) pa_nil))))) pa_nil)) rfl)
      (pss_one (ps_set (i := 7) sc_law.nd rfl (.inr rfl) (pe_ifExp (pt_cmp (pc_isN (pv 12))) (pv 7) (pv 12)))))))))
      (pss_cons (ps_set (i := 13) sc_law.nd rfl (.inl rfl) (pe_own O__law_one (hr.mono (by omega)) (by rfl) (pa_cons (pv 1) (pa_cons (pe_lst (pa_cons (pe_tup (pa_cons (pv 4) (pa_cons pe_bl pa_nil))) (pa_cons (pe_tup (pa_cons (pe_un un_neg pe_int) (pa_cons pe_bl pa_nil))) (pa_cons (pe_tup (pa_cons pe_int (pa_cons pe_int pa_nil))) (pa_cons (pe_tup (pa_cons pe_bl (pa_cons pe_bl pa_nil))) (pa_cons (pe_tup (pa_cons pe_int pa_nil)) (pa_cons pe_non (pa_cons (pe_lst (pa_cons pe_int (pa_cons pe_bl pa_nil))) (pa_cons (pe_tup (pa_cons pe_int (pa_cons pe_bl (pa_cons pe_int pa_nil)))) pa_nil))))))))) pa_nil))))
      (pss_cons (ps_set (i := 14) sc_law.nd rfl (.inl rfl) (pe_own O__law_draw (hr.mono (by omega)) (by rfl) (pa_cons (pv 1) (pa_cons (pe_op op_add (pe_callB (id := "len") call_len_seq (by rfl) B.b_len PySem.boot_len (pa_cons (pv 6) pa_nil)) pe_int) pa_nil))))
      (pss_cons (ps_set (i := 15) sc_law.nd rfl (.inl rfl) (pe_lst (pa_cons (pv 6) (pa_cons (pe_op op_catA (pe_op op_catA (pe_slice sl_tupA (pv 6) po_none (po_some (pv 14))) (pe_tup (pa_cons (pv 13) pa_nil))) (pe_slice sl_tupA (pv 6) (po_some (pv 14)) po_none)) (pa_cons (pe_own O__law_spoilt (hr.mono (by omega)) (by rfl) (pa_cons (pv 1) (pa_cons (pv 6) pa_nil))) (pa_cons (pe_callTy (T := "list") call_list_of (by rfl) B.b_list (by decide +kernel) (pa_cons (pv 6) pa_nil)) (pa_cons pe_non (pa_cons pe_str (pa_cons (pe_tup pa_nil) pa_nil)))))))))
      (pss_one (ps_for PassesOwn.never rfl (pi_list (pv 15)) (pg_name (i := 16) sc_law.nd rfl (.inr rfl))
        (pss_cons (ps_set (i := 17) sc_law.nd rfl (.inl rfl) (pe_own O__law_due (hr.mono (by omega)) (by rfl) (pa_cons (pv 3) (pa_cons (pv 5) (pa_cons (pv 16) pa_nil)))))
      (pss_one (ps_if (pt_cmpR op_ne (pe_callB (id := "repr") (call_reprD hgd hud) (by rfl) B.b_repr PyProof.Rows.boot_repr (pa_cons (pe_lam Dfound T_BadStep TB rfl (hr.mono (by omega)) (by rfl) (LamX.lamS_by (by show LamX.lamSB (defScope s_law) _ = true; decide +kernel)) (by rfl) (fun _ _ _ _ _ => rfl) (fun A outer s H E f c' hr' => pe_call Fw hr' (by rfl) mw kpw bw .nil (passes_call (takes_of rfl rfl rfl rfl) (fun _ _ _ _ h => h)) (pa_cons (pv 3) (pa_cons (pv 5) (pa_cons (pv 16) pa_nil))))) pa_nil)) (pe_callB (id := "repr") (call_reprD hgd hud) (by rfl) B.b_repr PyProof.Rows.boot_repr (pa_cons (pv 17) pa_nil)) (nomark _)) (pss_one (ps_ret pe_bl)) pss_nil)))))))))))))
      (pss_one (ps_ret pe_bl)))), ?_⟩
    refine ⟨_, rfl, a, ns, rfl, hS, hl, fun H1 d cc r s1 fd1 fc1 fr1 dk1 => ?_⟩
    obtain ⟨TS, hTS⟩ : ∃ TS : List (Addr × Str), TS = [(Pt, (cxOf CX0 P w K mg base ["_law_script", "_law_deck_here", "_law_turn", "_law_market_here", "_law_many", "_law_stock", "_law_steps", "_law_now", "_law_k", "_law_some", "_law_i", "_law_step", "_law_later", "_law_odd", "_law_at", "_law_values", "_law_value", "_law_due_here"] "law" (defScope s_law) f (.ref c) A outer s H E).nox.env.qual ++ "<lambda>")] := ⟨_, rfl⟩
    have tb1 : LamX.Tabs TS H1 := by
      rw [hTS]
      intro p hp
      rw [List.mem_singleton.mp hp]
      exact LamX.TabS.nil (s1 _ _ hT0)
    refine ⟨8, rfl, by decide, by decide, ?_⟩
    refine for_range (n := 8) (fun i σ H' => ∃ y2 y3 y4 y5 y6 y7 y8 y9 y10 y11 y12 y13 y14 y15 y16 y17, σ = [some (.ref a), some (.ref d), y2, y3, y4, y5, y6, y7, y8, y9, y10, y11, y12, y13, y14, y15, y16, y17] ∧ Dk H' d cc r (2000 * i) ∧ LamX.Tabs TS H')
      ⟨none, none, none, none, none, none, none, none, none, none, none, none, none, none, none, none, rfl, dk1, tb1⟩ ?_ (fun σ H' _ => q H')
    rintro i σ H2 hi ⟨y2, y3, y4, y5, y6, y7, y8, y9, y10, y11, y12, y13, y14, y15, y16, y17, rfl, dk2, tb2⟩
    have rg2 := rg0 dk2
    -- market = any_market(deck)
    refine ⟨_, rfl, R0 d r, d, cc, r, _, rfl, dk2, by omega, rg2, fun H3 mv g ts mok dm dk3 k3 => ?_⟩
    have rg3 := rg2.kp k3 dk3
    have hg1 := mok.one
    have hg4 := mok.four
    obtain ⟨am, w1, w2, rfl, ram, eam, dg, dts⟩ := Dat.pair dm
    obtain rfl := dg.intI
    obtain ⟨tv, ys, rfl, rtv, etv, dys⟩ := dts.tupI
    have lys : ys.length = ts.length := by rw [dys.length, List.length_map]
    have lts := mok.many
    -- many, stock, steps = len(market[1]), bag(deck, market[0], 8), ()
    refine ⟨_, rfl, am, _, _, _, rfl, rfl, tup_at0 eam, rfl, tv, _, rfl, .inr (.inl (.inl etv)), _, rfl, _, rfl, am, _, _, _, rfl, rfl, tup_at0 eam, rfl, ?_⟩
    refine ⟨d, cc, r, _, g, 8, rfl, dk3, by omega, by omega, by omega, fun H4 pb b0 lb hb fb eb dk4 k4 => ?_⟩
    refine ⟨Nat.zero_le _, fun p5 z5 => ?_⟩
    have s5 := same_upd (o := .tup []) z5
    have e5 : upd H4 p5 (.tup []) p5 = some (.tup []) := upd_same
    generalize upd H4 p5 (.tup []) = H5 at s5 e5 ⊢
    refine ⟨(by show 3 ≤ sizeLine; decide), fun p6 z6 => ?_⟩
    have s6 := same_upd (o := .tup [V.int ((ys.length : Nat) : Int), V.ref pb, V.ref p5]) z6
    refine ⟨p6, _, rfl, .inl (.inl upd_same), rfl, _, _, rfl, _, _, rfl, _, _, rfl, rfl, ?_⟩
    generalize upd H5 p6 (.tup [V.int ((ys.length : Nat) : Int), V.ref pb, V.ref p5]) = H6 at s6 ⊢
    have s46 := s5.trans s6
    have k26 : Kp d r H2 H6 := (k3.trans k4).trans (Kp.of s46)
    have dk6 := dk4.same s46
    have rg4 := rg3.kp k4 dk4
    have dm6 := (dm.on (rg3.on k4)).same s46
    have ds6 : Dat (R0 d r) H6 (.ref pb) (bagD b0) := (Dat.mkBag (rg3.new _ fb) eb).same s46
    have de6 : Dat (R0 d r) H6 (.ref p5) (.tuple []) := .tup (rg4.new _ z5) (s6 _ _ e5) .nil
    have hE := mok.even
    -- now = stock
    refine ⟨_, rfl, ?_⟩
    -- for k in range(draw(deck, 9) * int(many > 0))
    refine ⟨_, rfl, d, cc, r, _, 9, rfl, dk6, by omega, by omega, by omega, fun H7 v hv dk7 k7 => ?_⟩
    refine ⟨_, rfl, _, _, rfl, rfl, .inr ⟨_, rfl, _, _, rfl, rfl, .inl ⟨by omega, by omega⟩, ?_⟩⟩
    obtain ⟨nn, hnn, hn8, hn0⟩ : ∃ nn : Nat, (v : Int) * (if decide ((0 : Int) < ((ys.length : Nat) : Int)) = true then 1 else 0) = (nn : Int) ∧ nn ≤ 8 ∧ (0 < nn → 0 < ys.length) := by
      by_cases h : (0 : Int) < ((ys.length : Nat) : Int)
      · rw [decide_eq_true h, if_pos rfl]
        exact ⟨v, by omega, by omega, fun _ => by omega⟩
      · rw [decide_eq_false h, if_neg Bool.false_ne_true]
        exact ⟨0, by omega, by omega, fun z => absurd z (by omega)⟩
    refine ⟨(nn : Int), congrArg (fun z => [V.int z]) hnn, by omega, by omega, ?_⟩
    rw [Int.toNat_natCast]
    have k67 := k7
    refine for_range (n := nn) (fun j σ H' => ∃ (y8 y9 y10 y11 y12 : Option V) (pst : Addr) (sd : List PyData) (nv : V) (nw : List Int), σ = [some (.ref a), some (.ref d), some (.int (0 + ((i : Nat) : Int))), some (.ref am), some (.int ((ys.length : Nat) : Int)), some (.ref pb), some (.ref pst), some nv, y8, y9, y10, y11, y12, y13, y14, y15, y16, y17] ∧
        Dk H' d cc r (2000 * i + 101 + g + 1 + 3 * j) ∧ Kp d r H6 H' ∧ Dat (R0 d r) H' (.ref pst) (.tuple sd) ∧ Oks (42 * j) 1 sd ∧ Dat (R0 d r) H' nv (bagD nw) ∧ nw.length = g)
      ⟨y8, y9, y10, y11, y12, p5, [], .ref pb, b0, rfl, dk7, k7, de6.on ((rg0 dk6).on k7), ⟨(fun _ z => (List.not_mem_nil z).elim), Nat.le_refl _, (fun _ z => (List.not_mem_nil z).elim)⟩, ds6.on ((rg0 dk6).on k7), lb⟩ ?_ ?_
    · rintro j σ H8 hj ⟨y8', y9', y10', y11', y12', pst, sd, nv, nw, rfl, dk8, k8, dst8, oks8, dn8, lnw⟩
      have hm0 : 0 < ys.length := hn0 (by omega)
      have rg8 := rg0 dk8
      have rg6 := rg0 dk6
      have dm8 := dm6.on (rg6.on k8)
      have etv8 : H8 tv = some (.tup ys) := k8 _ _ rtv.1 rtv.2 (s46 _ _ (k4 _ _ rtv.1 rtv.2 etv))
      have eam8 : H8 am = some (.tup [V.int (g : Int), V.ref tv]) := k8 _ _ ram.1 ram.2 (s46 _ _ (k4 _ _ ram.1 ram.2 eam))
      have dts8 : Dat (R0 d r) H8 (.ref tv) (.tuple (ts.map trdD)) := ((dts.on (rg3.on k4)).same s46).on (rg6.on k8)
      -- some = [(i, False) ..] + [(i, True) ..]
      refine ⟨_, rfl, ((ys.length : Nat) : Int), rfl, by omega, by omega, fun D9 z9 => ?_⟩
      rw [Int.toNat_natCast]
      refine lc_range (lo := 0) (n := ys.length) (fun m H' => Same H8 H' ∧ ∃ acc, H' D9 = some (.lst acc) ∧ acc.length = m ∧ ∀ v ∈ acc, Sv (wo (R0 d r) D9) H' ts.length v) ⟨same_upd z9, [], upd_same, rfl, fun v hv => absurd hv List.not_mem_nil⟩ ?_ ?_
      · rintro m H' hm ⟨sm, acc, eD, la, hv'⟩
        refine ⟨rfl, all_in ?_⟩
        refine ⟨_, rfl, (by show 2 ≤ sizeLine; decide), fun p zp => ?_⟩
        have h := sv_add (b := false) sm z9 eD hv' (show m < ts.length by omega) (rg8.same sm).new zp
        exact ⟨acc, h.1, by rw [sizeLine_eq]; omega, h.2.1, _, upd_same, by rw [List.length_append, la]; rfl, h.2.2⟩
      rintro H9 ⟨s9, acc9, e9, la9, hv9⟩
      refine ⟨_, rfl, ((ys.length : Nat) : Int), rfl, by omega, by omega, fun D10 z10 => ?_⟩
      rw [Int.toNat_natCast]
      refine lc_range (lo := 0) (n := ys.length) (fun m H' => Same H9 H' ∧ ∃ acc, H' D10 = some (.lst acc) ∧ acc.length = m ∧ ∀ v ∈ acc, Sv (wo (R0 d r) D10) H' ts.length v) ⟨same_upd z10, [], upd_same, rfl, fun v hv => absurd hv List.not_mem_nil⟩ ?_ ?_
      · rintro m H' hm ⟨sm, acc, eD, la, hv'⟩
        refine ⟨rfl, all_in ?_⟩
        refine ⟨_, rfl, (by show 2 ≤ sizeLine; decide), fun p zp => ?_⟩
        have h := sv_add (b := true) sm z10 eD hv' (show m < ts.length by omega) ((rg8.same s9).same sm).new zp
        exact ⟨acc, h.1, by rw [sizeLine_eq]; omega, h.2.1, _, upd_same, by rw [List.length_append, la]; rfl, h.2.2⟩
      rintro H10 ⟨s10, acc10, e10, la10, hv10⟩
      refine ⟨D9, D10, _, _, rfl, rfl, s10 _ _ e9, e10, by rw [sizeLine_eq]; omega, fun p11 z11 => ?_⟩
      have s11 := same_upd (o := .lst (acc9 ++ acc10)) z11
      have e11 : upd H10 p11 (.lst (acc9 ++ acc10)) p11 = some (.lst (acc9 ++ acc10)) := upd_same
      have hv11 : ∀ v ∈ acc9 ++ acc10, Sv (R0 d r) (upd H10 p11 (.lst (acc9 ++ acc10))) ts.length v := fun v h => by
        rcases List.mem_append.mp h with h | h
        · exact ((hv9 v h).out.same s10).same s11
        · exact (hv10 v h).out.same s11
      have la11 : (acc9 ++ acc10).length ≤ 8 := by
        rw [List.length_append]
        omega
      generalize upd H10 p11 (.lst (acc9 ++ acc10)) = H11 at s11 e11 hv11 ⊢
      generalize acc9 ++ acc10 = xs11 at e11 hv11 la11
      have s811 := (s9.trans s10).trans s11
      -- some = [step for step in some if behind(market[1], now, step[0], step[1]) is not None]
      have rg11 := rg8.same s811
      refine ⟨_, rfl, p11, rfl, ⟨_, SqL.of e11⟩, fun D12 z12 => ?_⟩
      refine lc_list (K := K) (a := p11) (xs := xs11) (fun m H' => Same H11 H' ∧ ∃ acc, H' D12 = some (.lst acc) ∧ acc.length ≤ m ∧ ∀ v ∈ acc, Sv (wo (R0 d r) D12) H' ts.length v) ⟨same_upd z12, [], upd_same, Nat.le_refl _, fun v hv => absurd hv List.not_mem_nil⟩ (fun m H' _ hP => SqL.of (hP.1 _ _ e11)) ?_ ?_
      · rintro m x H' hx ⟨sm, acc, eD, la, hv'⟩
        have hm : m < xs11.length := (List.getElem?_eq_some_iff.mp hx).1
        obtain ⟨sk, sb, hsk, dsx⟩ := (hv11 x (List.mem_of_getElem? hx)).into z12
        have dx' := dsx.same sm
        obtain ⟨ax, u1, u2, rfl, rax, eax, du1, du2⟩ := Dat.pair dx'
        obtain rfl := du1.intI
        obtain rfl := du2.blI
        have s8' := s811.trans sm
        have subD : ∀ b o, R0 d r b → H11 b = some o → wo (R0 d r) D12 b := fun b o hb e => ⟨hb, ne_of_none e z12⟩
        refine ⟨rfl, ?_⟩
        refine ⟨_, rfl, am, _, _, _, rfl, rfl, tup_at0 (s8' _ _ eam8), rfl, _, rfl, _, rfl, ax, _, _, _, rfl, rfl, tup_at0 eax, rfl, _, rfl, ax, _, _, _, rfl, rfl, tup_at0 eax, rfl,
          wo (R0 d r) D12, .ref tv, nv, g, ts, nw, sk, sb, rfl, ((dts8.same s811).sub subD).same sm, ((dn8.same s811).sub subD).same sm, hE, by omega, lnw, hsk, (fun p hp => ⟨(rg11.same sm).new p hp, fun z => by rw [z, eD] at hp; cases hp⟩), fun H13 u s13 du => ?_⟩
        have sm13 := sm.trans s13
        have hv13 : ∀ v ∈ acc, Sv (wo (R0 d r) D12) H13 ts.length v := fun v h => (hv' v h).same s13
        have x13 : Sv (wo (R0 d r) D12) H13 ts.length (.ref ax) := ⟨sk, sb, hsk, dx'.same s13⟩
        cases hbh : behind ts nw sk sb with
        | none =>
          rw [hbh] at du
          obtain rfl := du.nonI
          exact ⟨_, rfl, iteF ⟨sm13, acc, s13 _ _ eD, by omega, hv13⟩⟩
        | some cb =>
          rw [hbh] at du
          obtain ⟨pu, rfl, _, _⟩ := Dat.bag du
          have h := sv_keep sm13 z12 hv13 x13
          exact ⟨_, rfl, iteT ⟨_, rfl, acc, s13 _ _ eD, by rw [sizeLine_eq]; omega, h.1, _, upd_same, by rw [List.length_append, List.length_singleton]; omega, h.2⟩⟩
      rintro H14 ⟨s14, acc14, e14, la14, hv14⟩
      have s814 := s811.trans s14
      have dk14 := dk8.same s814
      have n12 : D12 ≠ d ∧ D12 ≠ r := ⟨(dk8.nd (s811.free z12)).1, (dk8.nd (s811.free z12)).2.1⟩
      -- step = one(deck, some + [(draw(deck, many), draw(deck, 2) == 1)])
      refine ⟨_, rfl, _, rfl, _, rfl, _, rfl, d, cc, r, _, ys.length, rfl, dk14, by omega, hm0, by omega, fun H15 v15 hv15 dk15 k15 => ?_⟩
      refine ⟨_, rfl, d, cc, r, _, 2, rfl, dk15, by omega, by omega, by omega, fun H16 v16 hv16 dk16 k16 => ⟨rfl, ?_⟩⟩
      refine ⟨(by show 2 ≤ sizeLine; decide), fun p17 z17 => ?_⟩
      have rg14 := rg8.same s814
      have rg16 := rg0 dk16
      have on1416 := (rg14.on k15).trans ((rg0 dk15).on k16)
      have s17 := same_upd (o := .tup [V.int (v15 : Int), V.bl (decide (V.int (v16 : Int) = V.int 1))]) z17
      have x17 : Sv (R0 d r) (upd H16 p17 (.tup [V.int (v15 : Int), V.bl (decide (V.int (v16 : Int) = V.int 1))])) ts.length (.ref p17) := ⟨v15, _, by omega, .tup (rg16.new _ z17) upd_same (.cons (.int _) (.cons (.bl _) .nil))⟩
      generalize upd H16 p17 (.tup [V.int (v15 : Int), V.bl (decide (V.int (v16 : Int) = V.int 1))]) = H17 at s17 x17 ⊢
      refine ⟨(by show 1 ≤ sizeLine; decide), fun p18 z18 => ?_⟩
      have s18 := same_upd (o := .lst [V.ref p17]) z18
      have e18 : upd H17 p18 (.lst [V.ref p17]) p18 = some (.lst [V.ref p17]) := upd_same
      generalize upd H17 p18 (.lst [V.ref p17]) = H18 at s18 e18 ⊢
      have e14' : H18 D12 = some (.lst acc14) := s18 _ _ (s17 _ _ (k16 _ _ n12.1 n12.2 (k15 _ _ n12.1 n12.2 e14)))
      refine ⟨D12, p18, _, _, rfl, rfl, e14', e18, by rw [sizeLine_eq]; show acc14.length + 1 ≤ _; omega, fun p19 z19 => ?_⟩
      have s19 := same_upd (o := .lst (acc14 ++ [V.ref p17])) z19
      have e19 : upd H18 p19 (.lst (acc14 ++ [V.ref p17])) p19 = some (.lst (acc14 ++ [V.ref p17])) := upd_same
      have s1619 := (s17.trans s18).trans s19
      have dk19 := dk16.same s1619
      have hv19 : ∀ v ∈ acc14 ++ [V.ref p17], Sv (R0 d r) (upd H18 p19 (.lst (acc14 ++ [V.ref p17]))) ts.length v := fun v h => by
        rcases List.mem_append.mp h with h | h
        · exact ((hv14 v h).out.on on1416).same s1619
        · rw [List.mem_singleton.mp h]
          exact x17.same (s18.trans s19)
      generalize upd H18 p19 (.lst (acc14 ++ [V.ref p17])) = H19 at s19 e19 s1619 dk19 hv19 ⊢
      have n19 : p19 ≠ d ∧ p19 ≠ r := ⟨((dk16.same (s17.trans s18)).nd z19).1, ((dk16.same (s17.trans s18)).nd z19).2.1⟩
      refine ⟨d, cc, r, p19, _, _, rfl, dk19, by omega, e19, n19.1, n19.2, by rw [List.length_append, List.length_singleton]; omega, by rw [List.length_append, List.length_singleton]; omega, fun H20 jx x hx dk20 k20 => ?_⟩
      have rg19 := rg0 dk19
      have rg20 := rg0 dk20
      have k820 : Kp d r H8 H20 := ((((Kp.of s814).trans k15).trans k16).trans (Kp.of s1619)).trans k20
      have on820 := rg8.on k820
      obtain ⟨sk, sb, hsk, dx⟩ := (hv19 x (List.mem_of_getElem? hx)).on (rg19.on k20)
      obtain ⟨ax, u1, u2, rfl, rax, eax, du1, du2⟩ := Dat.pair dx
      obtain rfl := du1.intI
      obtain rfl := du2.blI
      -- steps, later = steps + (step,), behind(market[1], now, step[0], step[1])
      obtain ⟨pst', xst, epst, rpst, estq, dxst⟩ := (dst8.on on820).tupI
      cases epst
      refine ⟨_, rfl, _, rfl, (by show 1 ≤ sizeLine; decide), fun p21 z21 => ?_⟩
      have s21 := same_upd (o := .tup [V.ref ax]) z21
      have e21 : upd H20 p21 (.tup [V.ref ax]) p21 = some (.tup [V.ref ax]) := upd_same
      generalize upd H20 p21 (.tup [V.ref ax]) = H21 at s21 e21 ⊢
      have lxst : xst.length ≤ 1000 := by
        have h1 := wts_len sd
        have h2 := oks8.wt
        rw [dxst.length]
        omega
      refine rd_cat rpst (rg20.new _ z21) (s21 _ _ estq) e21 (by show xst.length + 1 ≤ 1000000; omega) (rg20.same s21).new fun H22 p22 s22 r22 e22 => ?_
      have s2022 := s21.trans s22
      have dst22 : Dat (R0 d r) H22 (.ref p22) (.tuple (sd ++ [stepD sk sb])) := .tup r22 e22 ((dxst.same s2022).append (.cons (dx.same s2022) .nil))
      have k822 := k820.trans (Kp.of s2022)
      have rg22 := rg20.same s2022
      refine ⟨_, rfl, am, _, _, _, rfl, rfl, tup_at0 (k822 _ _ ram.1 ram.2 eam8), rfl, _, rfl, _, rfl, ax, _, _, _, rfl, rfl, tup_at0 (s2022 _ _ eax), rfl, _, rfl, ax, _, _, _, rfl, rfl, tup_at0 (s2022 _ _ eax), rfl,
        R0 d r, .ref tv, nv, g, ts, nw, sk, sb, rfl, dts8.on (rg8.on k822), dn8.on (rg8.on k822), hE, by omega, lnw, hsk, rg22.new, fun H23 u s23 du => ⟨_, _, rfl, ?_⟩⟩
      have k823 := k822.trans (Kp.of s23)
      have oks' : Oks (42 * (j + 1)) 1 (sd ++ [stepD sk sb]) := (oks8.append (Oks.one (step_ok sb (by omega)))).mono (by omega) (Nat.le_refl _)
      have dk23 := (dk20.same s2022).same s23
      -- now = now if later is None else later
      cases hbh : behind ts nw sk sb with
      | none =>
        rw [hbh] at du
        obtain rfl := du.nonI
        exact ⟨_, rfl, _, rfl, iteT ⟨_, rfl, _, _, _, _, _, p22, sd ++ [stepD sk sb], nv, nw, rfl, dk23.mono (by omega), k8.trans k823, dst22.same s23, oks', dn8.on (rg8.on k823), lnw⟩⟩
      | some cb =>
        rw [hbh] at du
        obtain ⟨pu, rfl, _, _⟩ := Dat.bag du
        exact ⟨_, rfl, _, rfl, iteF ⟨_, rfl, _, _, _, _, _, p22, sd ++ [stepD sk sb], .ref pu, cb, rfl, dk23.mono (by omega), k8.trans k823, dst22.same s23, oks', du, behind_len hE lnw hbh⟩⟩
    · rintro σ H24 ⟨y8', y9', y10', y11', y12', pst, sd, nv, nw, rfl, dk24, k24, dst24, oks24, dn24, lnw⟩
      have rg24 := rg0 dk24
      have rg6 := rg0 dk6
      have k224 : Kp d r H2 H24 := k26.trans k24
      have dm24 := dm6.on (rg6.on k24)
      have ds24 := ds6.on (rg6.on k24)
      obtain ⟨pst', xst, epst, rpst, estq, dxst⟩ := dst24.tupI
      cases epst
      have T24 : Tp (R0 d r) H24 336 1 pst xst := ⟨rpst, estq, sd, dxst, oks24.mono (by omega) (Nat.le_refl _)⟩
      have lxst : xst.length ≤ 168 := by
        have := T24.pk.len
        omega
      have c0 : ∀ {H : Hp} {D : Nat}, Pk (R0 d r) H 14 D [V.int 0] := fun {H D} => Pk.cons (Vd.int 0 (by decide +kernel) (by decide +kernel)) Pk.nil
      -- odd = one(deck, [(many, False), (-1, True), (0, 1), (True, False), (0,), None, [0, False], (0, False, 0)])
      refine ⟨_, rfl, _, rfl, (by show 2 ≤ sizeLine; decide), fun p31 z31 => ?_⟩
      have s31 := same_upd (o := .tup [V.int ((ys.length : Nat) : Int), V.bl false]) z31
      have t31 : Vd (R0 d r) _ 60 1 (.ref p31) := (Tp.new (D := 0) (Pk.cons (Vd.nat (g := ys.length) (by omega)) (Pk.cons (Vd.bl false) Pk.nil)) z31 (rg24.new _ z31)).val.mono (by omega) (by omega)
      generalize upd H24 p31 (.tup [V.int ((ys.length : Nat) : Int), V.bl false]) = H31 at s31 t31 ⊢
      have rg31 := rg24.same s31
      refine ⟨1, rfl, (by show 2 ≤ sizeLine; decide), fun p32 z32 => ?_⟩
      have s32 := same_upd (o := .tup [V.int (-1), V.bl true]) z32
      have t32 : Vd (R0 d r) _ 60 1 (.ref p32) := (Tp.new (D := 0) (Pk.cons (Vd.int (-1) (by decide +kernel) (by decide +kernel)) (Pk.cons (Vd.bl true) Pk.nil)) z32 (rg31.new _ z32)).val.mono (by omega) (by omega)
      generalize upd H31 p32 (.tup [V.int (-1), V.bl true]) = H32 at s32 t32 ⊢
      have rg32 := rg31.same s32
      refine ⟨(by show 2 ≤ sizeLine; decide), fun p33 z33 => ?_⟩
      have s33 := same_upd (o := .tup [V.int 0, V.int 1]) z33
      have t33 : Vd (R0 d r) _ 60 1 (.ref p33) := (Tp.new (D := 0) (Pk.cons (Vd.int 0 (by decide +kernel) (by decide +kernel)) (Pk.cons (Vd.int 1 (by decide +kernel) (by decide +kernel)) Pk.nil)) z33 (rg32.new _ z33)).val.mono (by omega) (by omega)
      generalize upd H32 p33 (.tup [V.int 0, V.int 1]) = H33 at s33 t33 ⊢
      have rg33 := rg32.same s33
      refine ⟨(by show 2 ≤ sizeLine; decide), fun p34 z34 => ?_⟩
      have s34 := same_upd (o := .tup [V.bl true, V.bl false]) z34
      have t34 : Vd (R0 d r) _ 60 1 (.ref p34) := (Tp.new (D := 0) (Pk.cons (Vd.bl true) (Pk.cons (Vd.bl false) Pk.nil)) z34 (rg33.new _ z34)).val.mono (by omega) (by omega)
      generalize upd H33 p34 (.tup [V.bl true, V.bl false]) = H34 at s34 t34 ⊢
      have rg34 := rg33.same s34
      refine ⟨(by show 1 ≤ sizeLine; decide), fun p35 z35 => ?_⟩
      have s35 := same_upd (o := .tup [V.int 0]) z35
      have t35 : Vd (R0 d r) _ 60 1 (.ref p35) := (Tp.new (D := 0) (c0) z35 (rg34.new _ z35)).val.mono (by omega) (by omega)
      generalize upd H34 p35 (.tup [V.int 0]) = H35 at s35 t35 ⊢
      have rg35 := rg34.same s35
      refine ⟨(by show 2 ≤ sizeLine; decide), fun p36 z36 => ?_⟩
      have s36 := same_upd (o := .lst [V.int 0, V.bl false]) z36
      have t36 : Vd (R0 d r) _ 60 1 (.ref p36) := (Vd.newL (D := 0) (Pk.cons (Vd.int 0 (by decide +kernel) (by decide +kernel)) (Pk.cons (Vd.bl false) Pk.nil)) z36 (rg35.new _ z36)).mono (by omega) (by omega)
      generalize upd H35 p36 (.lst [V.int 0, V.bl false]) = H36 at s36 t36 ⊢
      have rg36 := rg35.same s36
      refine ⟨(by show 3 ≤ sizeLine; decide), fun p37 z37 => ?_⟩
      have s37 := same_upd (o := .tup [V.int 0, V.bl false, V.int 0]) z37
      have t37 : Vd (R0 d r) _ 60 1 (.ref p37) := (Tp.new (D := 0) (Pk.cons (Vd.int 0 (by decide +kernel) (by decide +kernel)) (Pk.cons (Vd.bl false) c0)) z37 (rg36.new _ z37)).val.mono (by omega) (by omega)
      generalize upd H36 p37 (.tup [V.int 0, V.bl false, V.int 0]) = H37 at s37 t37 ⊢
      have rg37 := rg36.same s37
      refine ⟨(by show 8 ≤ sizeLine; decide), fun p38 z38 => ?_⟩
      have s38 := same_upd (o := .lst [V.ref p31, V.ref p32, V.ref p33, V.ref p34, V.ref p35, V.non, V.ref p36, V.ref p37]) z38
      have e38 : upd H37 p38 (.lst [V.ref p31, V.ref p32, V.ref p33, V.ref p34, V.ref p35, V.non, V.ref p36, V.ref p37]) p38 = some (.lst [V.ref p31, V.ref p32, V.ref p33, V.ref p34, V.ref p35, V.non, V.ref p36, V.ref p37]) := upd_same
      have V38 : ∀ v ∈ [V.ref p31, V.ref p32, V.ref p33, V.ref p34, V.ref p35, V.non, V.ref p36, V.ref p37], Vd (R0 d r) (upd H37 p38 (.lst [V.ref p31, V.ref p32, V.ref p33, V.ref p34, V.ref p35, V.non, V.ref p36, V.ref p37])) 60 1 v := all_cons (t31.same (((((((s32).trans s33).trans s34).trans s35).trans s36).trans s37).trans s38)) (all_cons (t32.same ((((((s33).trans s34).trans s35).trans s36).trans s37).trans s38)) (all_cons (t33.same (((((s34).trans s35).trans s36).trans s37).trans s38)) (all_cons (t34.same ((((s35).trans s36).trans s37).trans s38)) (all_cons (t35.same (((s36).trans s37).trans s38)) (all_cons ((Vd.non (D := 0)).mono (by omega) (by omega)) (all_cons (t36.same ((s37).trans s38)) (all_cons (t37.same (s38)) (all_nil))))))))
      generalize upd H37 p38 (.lst [V.ref p31, V.ref p32, V.ref p33, V.ref p34, V.ref p35, V.non, V.ref p36, V.ref p37]) = H38 at s38 e38 V38 ⊢
      have s2438 := ((((((s31.trans s32).trans s33).trans s34).trans s35).trans s36).trans s37).trans s38
      have dk38 := dk24.same s2438
      have rg38 := rg0 dk38
      have n38 : p38 ≠ d ∧ p38 ≠ r := new_ne (dk24.same ((((((s31.trans s32).trans s33).trans s34).trans s35).trans s36).trans s37)) z38
      refine ⟨d, cc, r, p38, _, _, rfl, dk38, by omega, e38, n38.1, n38.2, (by show 0 < 8; decide), (by show 8 ≤ 1000; decide), fun H39 jo xo hxo dk39 k39 => ?_⟩
      have rg39 := rg0 dk39
      have on39 := rg38.on k39
      have O39 : Vd (R0 d r) H39 60 1 xo := (V38 xo (List.mem_of_getElem? hxo)).on on39
      have T39 := (T24.same s2438).on on39
      -- at = draw(deck, len(steps) + 1)
      refine ⟨_, rfl, _, rfl, pst, _, rfl, .inr (.inl (.inl T39.at_)), _, _, rfl, rfl, ?_⟩
      refine ⟨d, cc, r, _, xst.length + 1, rfl, dk39, by omega, by omega, by omega, fun H40 ja hja dk40 k40 => ?_⟩
      have rg40 := rg0 dk40
      have on40 := rg39.on k40
      have T40 := T39.on on40
      have O40 := O39.on on40
      have lja : ja ≤ xst.length := by omega
      -- values = [steps, steps[:at] + (odd,) + steps[at:], spoilt(deck, steps), list(steps), None, '', ()]
      refine ⟨_, rfl, _, rfl, _, rfl, _, rfl, ?_⟩
      refine rdT_to (j := ja) T40 lja rg40.new fun H41 p41 s41 t41 => ?_
      have rg41 := rg40.same s41
      refine ⟨_, rfl, (by show 1 ≤ sizeLine; decide), fun p42 z42 => ?_⟩
      have s42 := same_upd (o := .tup [xo]) z42
      have t42 := Tp.new (D := 1) (Pk.cons (O40.same s41) Pk.nil) z42 (rg41.new _ z42)
      have rg42 := rg41.same s42
      generalize upd H41 p42 (.tup [xo]) = H42 at s42 t42 rg42 ⊢
      refine rdT_cat (t41.same s42) t42 (by omega) rg42.new fun H43 p43 s43 t43 => ?_
      have rg43 := rg42.same s43
      have s4043 := (s41.trans s42).trans s43
      refine ⟨_, rfl, _, rfl, _, rfl, ?_⟩
      refine np ?_
      refine rdT_from (j := ja) (T40.same s4043) lja rg43.new fun H44 p44 s44 t44 => ?_
      have rg44 := rg43.same s44
      refine rdT_cat (t43.same s44) t44 (by omega) rg44.new fun H45 p45 s45 t45 => ?_
      have s4045 := (s4043.trans s44).trans s45
      have dk45 := dk40.same s4045
      have rg45 := rg0 dk45
      have T45 := T40.same s4045
      -- spoilt(deck, steps)
      obtain ⟨xd, dxd, oxd⟩ := T45.val
      refine ⟨_, rfl, _, rfl, ?_⟩
      refine spoil21 (E := E) rfl dk45 (by omega) rg45 dxd oxd (by omega) (by omega) (fun H46 u46 yd oy dy dk46 k46 => ?_)
      have rg46 := rg0 dk46
      have on46 := rg45.on k46
      have T46 := T45.on on46
      have V46 : Vd (R0 d r) H46 1100 4 u46 := Vd.mono ⟨yd, dy, oy⟩ (by omega) (by omega)
      have M46 : Vd (R0 d r) H46 1100 4 (.ref p45) := (t45.val.mono (by omega) (by omega)).on on46
      -- list(steps)
      refine ⟨_, rfl, pst, _, rfl, .inr (.inl (.inl T46.at_)), fun p47 z47 => ?_⟩
      have s47 := same_upd (o := .lst xst) z47
      have V47 : Vd (R0 d r) _ 1100 4 (.ref p47) := (Vd.newL T46.pk z47 (rg46.new _ z47)).mono (by omega) (by omega)
      generalize upd H46 p47 (.lst xst) = H47 at s47 V47 ⊢
      refine ⟨Nat.zero_le _, fun p48 z48 => ?_⟩
      have s48 := same_upd (o := .tup []) z48
      have V48 : Vd (R0 d r) _ 1100 4 (.ref p48) := (Tp.new (D := 0) Pk.nil z48 ((rg46.same s47).new _ z48)).val.mono (by omega) (by omega)
      generalize upd H47 p48 (.tup []) = H48 at s48 V48 ⊢
      refine ⟨(by show 7 ≤ sizeLine; decide), fun p49 z49 => ?_⟩
      have s49 := same_upd (o := .lst [V.ref pst, V.ref p45, u46, V.ref p47, V.non, V.str "", V.ref p48]) z49
      have e49 : upd H48 p49 (.lst [V.ref pst, V.ref p45, u46, V.ref p47, V.non, V.str "", V.ref p48]) p49 = some (.lst [V.ref pst, V.ref p45, u46, V.ref p47, V.non, V.str "", V.ref p48]) := upd_same
      generalize upd H48 p49 (.lst [V.ref pst, V.ref p45, u46, V.ref p47, V.non, V.str "", V.ref p48]) = H49 at s49 e49 ⊢
      have s4649 := (s47.trans s48).trans s49
      have W49 : ∀ v ∈ [V.ref pst, V.ref p45, u46, V.ref p47, V.non, V.str "", V.ref p48], Vd (R0 d r) H49 1100 4 v := all_cons ((T46.val.mono (by omega) (by omega)).same s4649) (all_cons (M46.same s4649) (all_cons (V46.same s4649) (all_cons (V47.same (s48.trans s49)) (all_cons ((Vd.non (D := 0)).mono (by omega) (by omega)) (all_cons ((Vd.str "" (by decide +kernel)).mono (by omega) (Nat.zero_le 4)) (all_cons (V48.same s49) all_nil))))))
      have dk49 := dk46.same s4649
      have k2449 : Kp d r H24 H49 := ((((Kp.of s2438).trans k39).trans k40).trans (Kp.of s4045)).trans (k46.trans (Kp.of s4649))
      have tb49 : LamX.Tabs TS H49 := tabs_kp tb2 dk2 (k224.trans k2449)
      have dm49 := dm24.on (rg24.on k2449)
      have ds49 := ds24.on (rg24.on k2449)
      -- for value in values
      refine ⟨_, rfl, p49, rfl, ⟨_, SqL.of e49⟩, for_list (xs := [V.ref pst, V.ref p45, u46, V.ref p47, V.non, V.str "", V.ref p48]) (fun m σ H' => ∃ y16 y17, σ = [some (.ref a), some (.ref d), some (.int (0 + ((i : Nat) : Int))), some (.ref am), some (.int ((ys.length : Nat) : Int)), some (.ref pb), some (.ref pst), some nv, y8', y9', y10', y11', y12', some xo, some (.int (ja : Int)), some (.ref p49), y16, y17] ∧ LamX.ExtN H49 H' ∧ LamX.Tabs TS H')
        ⟨y16, y17, rfl, LamX.ExtN.refl _, tb49⟩ ?_ ?_ ?_⟩
      · rintro m σ H' _ ⟨_, _, _, ex, _⟩
        exact SqL.of (ex _ _ e49 (fun _ z => nomatch z))
      · rintro m x σ H50 hx ⟨z16, z17, rfl, ex50, tb50⟩
        obtain ⟨xd, dx, ox⟩ := (W49 x (List.mem_of_getElem? hx)).extN ex50
        have rg50 := rg0 (dk49.extN ex50)
        have wx : wt xd ≤ 1200 := Nat.le_trans ox.wt (by omega)
        have okW := walkD_ok mok hb lb wx
        have sh1 := fine_show _ okW.fi
        have sh2 := okW.shown (by omega)
        have sh3 : (walkD (walkM ts b0 xd)).depth ≤ 100 := Nat.le_trans okW.dp (by omega)
        -- due_here = due(market, stock, value)
        refine ⟨_, rfl, _, rfl, _, rfl, R0 d r, .ref am, .ref pb, x, g, ts, b0, xd, rfl, dm49.extN ex50, ds49.extN ex50, dx, by omega, hE, by omega, lb, rg50.new, fun H51 u s51 du => ?_⟩
        have ex51 := ex50.trans (LamX.ExtN.of s51)
        -- repr(found(lambda: walk(market, stock, value))) != repr(due_here)
        refine ⟨hTS ▸ tb50.ext s51, fun H52 eN t52 => ?_⟩
        have tb52 : LamX.Tabs TS H52 := by
          rw [hTS]
          exact t52
        have ex52 := ex51.trans eN
        have rg52 := rg0 (dk49.extN ex52)
        refine ⟨_, rfl, _, rfl, _, rfl, R0 d r, .ref am, .ref pb, x, g, ts, b0, xd, rfl, dm49.extN ex52, ds49.extN ex52, (dx.same s51).extN eN, by omega, hE, by omega, lb, rg52.new, fun l H53 v ew s53 dv => ?_, fun ie H53 dd eb s53 nd edd => ?_⟩
        · refine ⟨(by show 2 ≤ sizeLine; decide), fun p54 z54 => ?_⟩
          have s54 := same_upd (o := .lst [V.str "ok", v]) z54
          have d54 : Dat (R0 d r) (upd H53 p54 (.lst [V.str "ok", v])) (.ref p54) (walkD (walkM ts b0 xd)) := by
            rw [ew]
            exact Dat.newL z54 ((rg52.same s53).new _ z54) (.cons (.str _) (.cons dv .nil))
          generalize upd H53 p54 (.lst [V.str "ok", v]) = H54 at s54 d54 ⊢
          have ex54 := (ex52.trans (LamX.ExtN.of s53)).trans (LamX.ExtN.of s54)
          refine ⟨R0 d r, _, _, rfl, d54, sh1, sh2, sh3, _, rfl, R0 d r, u, _, rfl, ((du.extN eN).same s53).same s54, sh1, sh2, sh3, ?_⟩
          refine ne_same (iteF' ?_)
          exact ⟨_, _, rfl, ex54, (tb52.ext s53).ext s54⟩
        · refine ⟨rfl, dd, _, rfl, edd, fun p54 z54 => ?_⟩
          have s54 := same_upd (o := .lst [V.str "bad", V.int ie]) z54
          have d54 : Dat (R0 d r) (upd H53 p54 (.lst [V.str "bad", V.int ie])) (.ref p54) (walkD (walkM ts b0 xd)) := by
            rw [eb]
            exact Dat.newL z54 ((rg52.same s53).new _ z54) (.cons (.str _) (.cons (.int _) .nil))
          generalize upd H53 p54 (.lst [V.str "bad", V.int ie]) = H54 at s54 d54 ⊢
          have ex54 := (ex52.trans (LamX.ExtN.of s53)).trans (LamX.ExtN.of s54)
          refine ⟨R0 d r, _, _, rfl, d54, sh1, sh2, sh3, _, rfl, R0 d r, u, _, rfl, ((du.extN eN).same s53).same s54, sh1, sh2, sh3, ?_⟩
          refine ne_same (iteF' ?_)
          exact ⟨_, _, rfl, ex54, (tb52.ext s53).ext s54⟩
      · rintro σ H' ⟨z16, z17, rfl, ex, tb⟩
        exact ⟨_, _, _, _, _, _, _, _, _, _, _, _, _, _, _, _, rfl, (dk49.extN ex).mono (by omega), tb⟩

end
end Lb
set_option Elab.async false
set_option linter.all false
set_option maxRecDepth 100000
set_option maxHeartbeats 8000000
namespace Lb
open PySem PySem.Spec PyProof.Rows L2 RZ
theorem all_mk {l : PySem.W.OpenLaw} {w : World} {K : PySem.W.Frag} {h : Heap} {mg : Str → Option Value} {fa f0 f1 f2 f3 f4 f5 f6 f7 f8 f9 f10 f11 f12 f13 f14 f15 f16 f17 f18 f19 f20 f21 f22 f23 : Addr} (X : K.In h) (G : h.Ns mainGlobals mg) (hfa : mg "law" = some (.ref fa)) (own : LamX.OwnTab K fa h)
    {od0 an0 : Option Addr} {sl0 : Array (Option Value)} {oc0 kV0 dc0 pm0 cd0 ct0 : Value}
    {od1 an1 : Option Addr} {sl1 : Array (Option Value)} {oc1 kV1 dc1 pm1 cd1 ct1 : Value}
    {od2 an2 : Option Addr} {sl2 : Array (Option Value)} {oc2 kV2 dc2 pm2 cd2 ct2 : Value}
    {od3 an3 : Option Addr} {sl3 : Array (Option Value)} {oc3 kV3 dc3 pm3 cd3 ct3 : Value}
    {od4 an4 : Option Addr} {sl4 : Array (Option Value)} {oc4 kV4 dc4 pm4 cd4 ct4 : Value}
    {od5 an5 : Option Addr} {sl5 : Array (Option Value)} {oc5 kV5 dc5 pm5 cd5 ct5 : Value}
    {od6 an6 : Option Addr} {sl6 : Array (Option Value)} {oc6 kV6 dc6 pm6 cd6 ct6 : Value}
    {od7 an7 : Option Addr} {sl7 : Array (Option Value)} {oc7 kV7 dc7 pm7 cd7 ct7 : Value}
    {od8 an8 : Option Addr} {sl8 : Array (Option Value)} {oc8 kV8 dc8 pm8 cd8 ct8 : Value}
    {od9 an9 : Option Addr} {sl9 : Array (Option Value)} {oc9 kV9 dc9 pm9 cd9 ct9 : Value}
    {od10 an10 : Option Addr} {sl10 : Array (Option Value)} {oc10 kV10 dc10 pm10 cd10 ct10 : Value}
    {od11 an11 : Option Addr} {sl11 : Array (Option Value)} {oc11 kV11 dc11 pm11 cd11 ct11 : Value}
    {od12 an12 : Option Addr} {sl12 : Array (Option Value)} {oc12 kV12 dc12 pm12 cd12 ct12 : Value}
    {od13 an13 : Option Addr} {sl13 : Array (Option Value)} {oc13 kV13 dc13 pm13 cd13 ct13 : Value}
    {od14 an14 : Option Addr} {sl14 : Array (Option Value)} {oc14 kV14 dc14 pm14 cd14 ct14 : Value}
    {od15 an15 : Option Addr} {sl15 : Array (Option Value)} {oc15 kV15 dc15 pm15 cd15 ct15 : Value}
    {od16 an16 : Option Addr} {sl16 : Array (Option Value)} {oc16 kV16 dc16 pm16 cd16 ct16 : Value}
    {od17 an17 : Option Addr} {sl17 : Array (Option Value)} {oc17 kV17 dc17 pm17 cd17 ct17 : Value}
    {od18 an18 : Option Addr} {sl18 : Array (Option Value)} {oc18 kV18 dc18 pm18 cd18 ct18 : Value}
    {od19 an19 : Option Addr} {sl19 : Array (Option Value)} {oc19 kV19 dc19 pm19 cd19 ct19 : Value}
    {od20 an20 : Option Addr} {sl20 : Array (Option Value)} {oc20 kV20 dc20 pm20 cd20 ct20 : Value}
    {od21 an21 : Option Addr} {sl21 : Array (Option Value)} {oc21 kV21 dc21 pm21 cd21 ct21 : Value}
    {od22 an22 : Option Addr} {sl22 : Array (Option Value)} {oc22 kV22 dc22 pm22 cd22 ct22 : Value}
    {od23 an23 : Option Addr} {sl23 : Array (Option Value)} {oc23 kV23 dc23 pm23 ct23 : Value}
    {cL Pt : Addr} {oe : Value} {odd : Option Addr} {vsC : Array Value} {slC : Array (Option Value)}
    (a0 : PySem.W.nsIn K mainGlobals "_law_deck" = some (some (.ref f0)))
    (l0 : K.lookup f0 = some ⟨oc0, od0, .func (PySem.W.fnOf "_law_deck" "_law_deck" (defArgs s__law_deck) (defBody s__law_deck) (defScope s__law_deck) .none kV0 dc0 pm0 an0 cd0 ct0), sl0⟩) (c0 : PySem.W.codeIn K cd0 "_law_deck" = true) (k0 : PySem.W.keepIn K (.ref f0) = true)
    (a1 : PySem.W.nsIn K mainGlobals "_law_draw" = some (some (.ref f1)))
    (l1 : K.lookup f1 = some ⟨oc1, od1, .func (PySem.W.fnOf "_law_draw" "_law_draw" (defArgs s__law_draw) (defBody s__law_draw) (defScope s__law_draw) .none kV1 dc1 pm1 an1 cd1 ct1), sl1⟩) (c1 : PySem.W.codeIn K cd1 "_law_draw" = true) (k1 : PySem.W.keepIn K (.ref f1) = true)
    (a2 : PySem.W.nsIn K mainGlobals "_law_one" = some (some (.ref f2)))
    (l2 : K.lookup f2 = some ⟨oc2, od2, .func (PySem.W.fnOf "_law_one" "_law_one" (defArgs s__law_one) (defBody s__law_one) (defScope s__law_one) .none kV2 dc2 pm2 an2 cd2 ct2), sl2⟩) (c2 : PySem.W.codeIn K cd2 "_law_one" = true) (k2 : PySem.W.keepIn K (.ref f2) = true)
    (a3 : PySem.W.nsIn K mainGlobals "_law_bag" = some (some (.ref f3)))
    (l3 : K.lookup f3 = some ⟨oc3, od3, .func (PySem.W.fnOf "_law_bag" "_law_bag" (defArgs s__law_bag) (defBody s__law_bag) (defScope s__law_bag) .none kV3 dc3 pm3 an3 cd3 ct3), sl3⟩) (c3 : PySem.W.codeIn K cd3 "_law_bag" = true) (k3 : PySem.W.keepIn K (.ref f3) = true)
    (a4 : PySem.W.nsIn K mainGlobals "_law_plus" = some (some (.ref f4)))
    (l4 : K.lookup f4 = some ⟨oc4, od4, .func (PySem.W.fnOf "_law_plus" "_law_plus" (defArgs s__law_plus) (defBody s__law_plus) (defScope s__law_plus) .none kV4 dc4 pm4 an4 cd4 ct4), sl4⟩) (c4 : PySem.W.codeIn K cd4 "_law_plus" = true) (k4 : PySem.W.keepIn K (.ref f4) = true)
    (a5 : PySem.W.nsIn K mainGlobals "_law_less" = some (some (.ref f5)))
    (l5 : K.lookup f5 = some ⟨oc5, od5, .func (PySem.W.fnOf "_law_less" "_law_less" (defArgs s__law_less) (defBody s__law_less) (defScope s__law_less) .none kV5 dc5 pm5 an5 cd5 ct5), sl5⟩) (c5 : PySem.W.codeIn K cd5 "_law_less" = true) (k5 : PySem.W.keepIn K (.ref f5) = true)
    (a6 : PySem.W.nsIn K mainGlobals "_law_holds" = some (some (.ref f6)))
    (l6 : K.lookup f6 = some ⟨oc6, od6, .func (PySem.W.fnOf "_law_holds" "_law_holds" (defArgs s__law_holds) (defBody s__law_holds) (defScope s__law_holds) .none kV6 dc6 pm6 an6 cd6 ct6), sl6⟩) (c6 : PySem.W.codeIn K cd6 "_law_holds" = true) (k6 : PySem.W.keepIn K (.ref f6) = true)
    (a7 : PySem.W.nsIn K mainGlobals "_law_side" = some (some (.ref f7)))
    (l7 : K.lookup f7 = some ⟨oc7, od7, .func (PySem.W.fnOf "_law_side" "_law_side" (defArgs s__law_side) (defBody s__law_side) (defScope s__law_side) .none kV7 dc7 pm7 an7 cd7 ct7), sl7⟩) (c7 : PySem.W.codeIn K cd7 "_law_side" = true) (k7 : PySem.W.keepIn K (.ref f7) = true)
    (a8 : PySem.W.nsIn K mainGlobals "_law_trade" = some (some (.ref f8)))
    (l8 : K.lookup f8 = some ⟨oc8, od8, .func (PySem.W.fnOf "_law_trade" "_law_trade" (defArgs s__law_trade) (defBody s__law_trade) (defScope s__law_trade) .none kV8 dc8 pm8 an8 cd8 ct8), sl8⟩) (c8 : PySem.W.codeIn K cd8 "_law_trade" = true) (k8 : PySem.W.keepIn K (.ref f8) = true)
    (a9 : PySem.W.nsIn K mainGlobals "_law_market" = some (some (.ref f9)))
    (l9 : K.lookup f9 = some ⟨oc9, od9, .func (PySem.W.fnOf "_law_market" "_law_market" (defArgs s__law_market) (defBody s__law_market) (defScope s__law_market) .none kV9 dc9 pm9 an9 cd9 ct9), sl9⟩) (c9 : PySem.W.codeIn K cd9 "_law_market" = true) (k9 : PySem.W.keepIn K (.ref f9) = true)
    (a10 : PySem.W.nsIn K mainGlobals "_law_any_market" = some (some (.ref f10)))
    (l10 : K.lookup f10 = some ⟨oc10, od10, .func (PySem.W.fnOf "_law_any_market" "_law_any_market" (defArgs s__law_any_market) (defBody s__law_any_market) (defScope s__law_any_market) .none kV10 dc10 pm10 an10 cd10 ct10), sl10⟩) (c10 : PySem.W.codeIn K cd10 "_law_any_market" = true) (k10 : PySem.W.keepIn K (.ref f10) = true)
    (a11 : PySem.W.nsIn K mainGlobals "_law_behind" = some (some (.ref f11)))
    (l11 : K.lookup f11 = some ⟨oc11, od11, .func (PySem.W.fnOf "_law_behind" "_law_behind" (defArgs s__law_behind) (defBody s__law_behind) (defScope s__law_behind) .none kV11 dc11 pm11 an11 cd11 ct11), sl11⟩) (c11 : PySem.W.codeIn K cd11 "_law_behind" = true) (k11 : PySem.W.keepIn K (.ref f11) = true)
    (a12 : PySem.W.nsIn K mainGlobals "_law_spoilt" = some (some (.ref f12)))
    (l12 : K.lookup f12 = some ⟨oc12, od12, .func (PySem.W.fnOf "_law_spoilt" "_law_spoilt" (defArgs s__law_spoilt) (defBody s__law_spoilt) (defScope s__law_spoilt) .none kV12 dc12 pm12 an12 cd12 ct12), sl12⟩) (c12 : PySem.W.codeIn K cd12 "_law_spoilt" = true) (k12 : PySem.W.keepIn K (.ref f12) = true)
    (a13 : PySem.W.nsIn K mainGlobals "_law_found" = some (some (.ref f13)))
    (l13 : K.lookup f13 = some ⟨oc13, od13, .func (PySem.W.fnOf "_law_found" "_law_found" (defArgs s__law_found) (defBody s__law_found) (defScope s__law_found) .none kV13 dc13 pm13 an13 cd13 ct13), sl13⟩) (c13 : PySem.W.codeIn K cd13 "_law_found" = true) (k13 : PySem.W.keepIn K (.ref f13) = true)
    (a14 : PySem.W.nsIn K mainGlobals "_law_is_step" = some (some (.ref f14)))
    (l14 : K.lookup f14 = some ⟨oc14, od14, .func (PySem.W.fnOf "_law_is_step" "_law_is_step" (defArgs s__law_is_step) (defBody s__law_is_step) (defScope s__law_is_step) .none kV14 dc14 pm14 an14 cd14 ct14), sl14⟩) (c14 : PySem.W.codeIn K cd14 "_law_is_step" = true) (k14 : PySem.W.keepIn K (.ref f14) = true)
    (a15 : PySem.W.nsIn K mainGlobals "_law_due" = some (some (.ref f15)))
    (l15 : K.lookup f15 = some ⟨oc15, od15, .func (PySem.W.fnOf "_law_due" "_law_due" (defArgs s__law_due) (defBody s__law_due) (defScope s__law_due) .none kV15 dc15 pm15 an15 cd15 ct15), sl15⟩) (c15 : PySem.W.codeIn K cd15 "_law_due" = true) (k15 : PySem.W.keepIn K (.ref f15) = true)
    (a16 : PySem.W.nsIn K mainGlobals "is_whole" = some (some (.ref f16)))
    (l16 : K.lookup f16 = some ⟨oc16, od16, .func (PySem.W.fnOf "is_whole" "is_whole" (defArgs s_is_whole) (defBody s_is_whole) (defScope s_is_whole) .none kV16 dc16 pm16 an16 cd16 ct16), sl16⟩) (c16 : PySem.W.codeIn K cd16 "is_whole" = true) (k16 : PySem.W.keepIn K (.ref f16) = true)
    (a17 : PySem.W.nsIn K mainGlobals "is_pair" = some (some (.ref f17)))
    (l17 : K.lookup f17 = some ⟨oc17, od17, .func (PySem.W.fnOf "is_pair" "is_pair" (defArgs s_is_pair) (defBody s_is_pair) (defScope s_is_pair) .none kV17 dc17 pm17 an17 cd17 ct17), sl17⟩) (c17 : PySem.W.codeIn K cd17 "is_pair" = true) (k17 : PySem.W.keepIn K (.ref f17) = true)
    (a18 : PySem.W.nsIn K mainGlobals "holds" = some (some (.ref f18)))
    (l18 : K.lookup f18 = some ⟨oc18, od18, .func (PySem.W.fnOf "holds" "holds" (defArgs s_holds) (defBody s_holds) (defScope s_holds) .none kV18 dc18 pm18 an18 cd18 ct18), sl18⟩) (c18 : PySem.W.codeIn K cd18 "holds" = true) (k18 : PySem.W.keepIn K (.ref f18) = true)
    (a19 : PySem.W.nsIn K mainGlobals "exchange" = some (some (.ref f19)))
    (l19 : K.lookup f19 = some ⟨oc19, od19, .func (PySem.W.fnOf "exchange" "exchange" (defArgs s_exchange) (defBody s_exchange) (defScope s_exchange) .none kV19 dc19 pm19 an19 cd19 ct19), sl19⟩) (c19 : PySem.W.codeIn K cd19 "exchange" = true) (k19 : PySem.W.keepIn K (.ref f19) = true)
    (a20 : PySem.W.nsIn K mainGlobals "is_step" = some (some (.ref f20)))
    (l20 : K.lookup f20 = some ⟨oc20, od20, .func (PySem.W.fnOf "is_step" "is_step" (defArgs s_is_step) (defBody s_is_step) (defScope s_is_step) .none kV20 dc20 pm20 an20 cd20 ct20), sl20⟩) (c20 : PySem.W.codeIn K cd20 "is_step" = true) (k20 : PySem.W.keepIn K (.ref f20) = true)
    (a21 : PySem.W.nsIn K mainGlobals "after_step" = some (some (.ref f21)))
    (l21 : K.lookup f21 = some ⟨oc21, od21, .func (PySem.W.fnOf "after_step" "after_step" (defArgs s_after_step) (defBody s_after_step) (defScope s_after_step) .none kV21 dc21 pm21 an21 cd21 ct21), sl21⟩) (c21 : PySem.W.codeIn K cd21 "after_step" = true) (k21 : PySem.W.keepIn K (.ref f21) = true)
    (a22 : PySem.W.nsIn K mainGlobals "walk" = some (some (.ref f22)))
    (l22 : K.lookup f22 = some ⟨oc22, od22, .func (PySem.W.fnOf "walk" "walk" (defArgs s_walk) (defBody s_walk) (defScope s_walk) .none kV22 dc22 pm22 an22 cd22 ct22), sl22⟩) (c22 : PySem.W.codeIn K cd22 "walk" = true) (k22 : PySem.W.keepIn K (.ref f22) = true)
    (a23 : PySem.W.nsIn K mainGlobals "law" = some (some (.ref f23)))
    (l23 : K.lookup f23 = some ⟨oc23, od23, .func (PySem.W.fnOf "law" "law" (defArgs s_law) (defBody s_law) (defScope s_law) .none kV23 dc23 pm23 an23 (.ref cL) ct23), sl23⟩) (c23 : PySem.W.codeIn K (.ref cL) "law" = true) (k23 : PySem.W.keepIn K (.ref f23) = true)
    (vl : K.lookup cL = some ⟨oe, odd, .fields vsC, slC⟩) (v11 : vsC[11]? = some (.ref Pt)) (nPt : K.lookup Pt = none) (hhd : PySem.W.codeHdIn K cL Pt = true)
    {C_BadStep fI_BadStep N_BadStep : Addr} {nm_BadStep q_BadStep : Str} {bs_BadStep bm_BadStep sub_BadStep : List Value} {sn_BadStep : List Str} {ab_BadStep : Bool} {col_BadStep : Option Bool} {dd_BadStep : Option Addr} {m0_BadStep m1_BadStep m2_BadStep m3_BadStep m5_BadStep : Option Value} {odI_BadStep anI_BadStep : Option Addr} {slI_BadStep : Array (Option Value)} {ocI_BadStep kVI_BadStep dcI_BadStep pmI_BadStep cdI_BadStep ctI_BadStep : Value}
    (eA_BadStep : PySem.W.nsIn K mainGlobals "BadStep" = some (some (.ref C_BadStep))) (eX_BadStep : K.lookup C_BadStep = some (excClassObj nm_BadStep q_BadStep C_BadStep N_BadStep bs_BadStep bm_BadStep true sn_BadStep sub_BadStep ab_BadStep col_BadStep dd_BadStep m0_BadStep m1_BadStep m2_BadStep m3_BadStep m5_BadStep "ValueError.__new__")) (eR_BadStep : PySem.HandSPX.refsVE bm_BadStep = true)
    (eS_BadStep : PySem.W.findIn K (.ref C_BadStep) "__setattr__" = some (some (.builtin "object.__setattr__"))) (eG_BadStep : PySem.W.findIn K (.ref C_BadStep) "__getattribute__" = some (some (.builtin "BaseException.__getattribute__"))) (eH_BadStep : PySem.W.findIn K (.ref C_BadStep) "__getattr__" = some none) (eN_BadStep : PySem.W.findIn K (.ref C_BadStep) "index" = some none)
    (eK_BadStep : PySem.W.keepIn K (.ref C_BadStep) = true) (eB_BadStep : PySem.W.subIn K (.ref C_BadStep) (.type "BaseException") = some true) (eT_BadStep : PySem.W.typeIn K (.ref C_BadStep) = some (.type "type")) (eD_BadStep : PySem.W.hasDictIn K C_BadStep = true) (eM_BadStep : PySem.W.exmOne K (.ref C_BadStep) (.ref C_BadStep) = some true)
    (eI_BadStep : PySem.W.findIn K (.ref C_BadStep) "__init__" = some (some (.ref fI_BadStep))) (eJ_BadStep : PySem.W.typeIn K (.ref fI_BadStep) = some (.type "function")) (eL_BadStep : K.lookup fI_BadStep = some ⟨ocI_BadStep, odI_BadStep, .func (PySem.W.fnOf "__init__" "BadStep.__init__" (defArgs s_BadStep___init__) (defBody s_BadStep___init__) (defScope s_BadStep___init__) .none kVI_BadStep dcI_BadStep pmI_BadStep anI_BadStep cdI_BadStep ctI_BadStep), slI_BadStep⟩) (eC_BadStep : PySem.W.codeIn K cdI_BadStep "BadStep.__init__" = true) (eQ_BadStep : PySem.W.keepIn K (.ref fI_BadStep) = true)
    (z_len : PySem.W.nsIn K mainGlobals "len" = some none)
    (z_range : PySem.W.nsIn K mainGlobals "range" = some none)
    (z_int : PySem.W.nsIn K mainGlobals "int" = some none)
    (z_bool : PySem.W.nsIn K mainGlobals "bool" = some none)
    (z_tuple : PySem.W.nsIn K mainGlobals "tuple" = some none)
    (z_list : PySem.W.nsIn K mainGlobals "list" = some none)
    (z_str : PySem.W.nsIn K mainGlobals "str" = some none)
    (z_dict : PySem.W.nsIn K mainGlobals "dict" = some none)
    (z_all : PySem.W.nsIn K mainGlobals "all" = some none)
    (z_any : PySem.W.nsIn K mainGlobals "any" = some none)
    (z_max : PySem.W.nsIn K mainGlobals "max" = some none)
    (z_min : PySem.W.nsIn K mainGlobals "min" = some none)
    (z_sum : PySem.W.nsIn K mainGlobals "sum" = some none)
    (z_zip : PySem.W.nsIn K mainGlobals "zip" = some none)
    (z_enumerate : PySem.W.nsIn K mainGlobals "enumerate" = some none)
    (z_isinstance : PySem.W.nsIn K mainGlobals "isinstance" = some none)
    (z_repr : PySem.W.nsIn K mainGlobals "repr" = some none)
    (z_sorted : PySem.W.nsIn K mainGlobals "sorted" = some none)
    : LawT l w K 25 "_law_script" mg fa h := by
  have e := hfa.symm.trans (PySem.W.mg_of X G a23)
  cases e
  have B : Blt mg := ⟨PySem.W.mg_none_of X G z_len, PySem.W.mg_none_of X G z_range, PySem.W.mg_none_of X G z_int, PySem.W.mg_none_of X G z_bool, PySem.W.mg_none_of X G z_tuple, PySem.W.mg_none_of X G z_list, PySem.W.mg_none_of X G z_str, PySem.W.mg_none_of X G z_dict, PySem.W.mg_none_of X G z_all, PySem.W.mg_none_of X G z_any, PySem.W.mg_none_of X G z_max, PySem.W.mg_none_of X G z_min, PySem.W.mg_none_of X G z_sum, PySem.W.mg_none_of X G z_zip, PySem.W.mg_none_of X G z_enumerate, PySem.W.mg_none_of X G z_isinstance, PySem.W.mg_none_of X G z_repr, PySem.W.mg_none_of X G z_sorted⟩
  have D__law_deck : Df K mg "_law_deck" s__law_deck := df_mk X G a0 l0 c0 k0
  have D__law_draw : Df K mg "_law_draw" s__law_draw := df_mk X G a1 l1 c1 k1
  have D__law_one : Df K mg "_law_one" s__law_one := df_mk X G a2 l2 c2 k2
  have D__law_bag : Df K mg "_law_bag" s__law_bag := df_mk X G a3 l3 c3 k3
  have D__law_plus : Df K mg "_law_plus" s__law_plus := df_mk X G a4 l4 c4 k4
  have D__law_less : Df K mg "_law_less" s__law_less := df_mk X G a5 l5 c5 k5
  have D__law_holds : Df K mg "_law_holds" s__law_holds := df_mk X G a6 l6 c6 k6
  have D__law_side : Df K mg "_law_side" s__law_side := df_mk X G a7 l7 c7 k7
  have D__law_trade : Df K mg "_law_trade" s__law_trade := df_mk X G a8 l8 c8 k8
  have D__law_market : Df K mg "_law_market" s__law_market := df_mk X G a9 l9 c9 k9
  have D__law_any_market : Df K mg "_law_any_market" s__law_any_market := df_mk X G a10 l10 c10 k10
  have D__law_behind : Df K mg "_law_behind" s__law_behind := df_mk X G a11 l11 c11 k11
  have D__law_spoilt : Df K mg "_law_spoilt" s__law_spoilt := df_mk X G a12 l12 c12 k12
  have D__law_found : Df K mg "_law_found" s__law_found := df_mk X G a13 l13 c13 k13
  have D__law_is_step : Df K mg "_law_is_step" s__law_is_step := df_mk X G a14 l14 c14 k14
  have D__law_due : Df K mg "_law_due" s__law_due := df_mk X G a15 l15 c15 k15
  have D_is_whole : Df K mg "is_whole" s_is_whole := df_mk X G a16 l16 c16 k16
  have D_is_pair : Df K mg "is_pair" s_is_pair := df_mk X G a17 l17 c17 k17
  have D_holds : Df K mg "holds" s_holds := df_mk X G a18 l18 c18 k18
  have D_exchange : Df K mg "exchange" s_exchange := df_mk X G a19 l19 c19 k19
  have D_is_step : Df K mg "is_step" s_is_step := df_mk X G a20 l20 c20 k20
  have D_after_step : Df K mg "after_step" s_after_step := df_mk X G a21 l21 c21 k21
  have D_walk : Df K mg "walk" s_walk := df_mk X G a22 l22 c22 k22
  refine ⟨PySem.W.fnOf "law" "law" (defArgs s_law) (defBody s_law) (defScope s_law) .none kV23 dc23 pm23 an23 (.ref cL) ct23, cL, Pt, own cL Pt _ _ _ _ _ _ l23 rfl rfl vl v11, nPt, PySem.W.codeHd_of_K X hhd, fun s v => .of_eq rfl, fun base _ _ TB => ?_⟩
  have ox_BadStep : OexC K C_BadStep := ⟨⟨_, _, _, _, _, _, _, _, _, _, _, _, _, _, _, eX_BadStep, eR_BadStep⟩, eS_BadStep, eB_BadStep, eT_BadStep, eK_BadStep⟩
  have F_BadStep := fun_mk (st := s_BadStep___init__) eL_BadStep eC_BadStep eQ_BadStep
  have T_BadStep : Err1 l.prog w K mg base "BadStep" "index" C_BadStep := ⟨PySem.W.mg_of X G eA_BadStep, ox_BadStep, ⟨eG_BadStep, eH_BadStep, eB_BadStep, eD_BadStep⟩, eN_BadStep, eM_BadStep, fI_BadStep, _, eI_BadStep, eJ_BadStep, ini_badstep F_BadStep ox_BadStep eN_BadStep, F_BadStep.binds (fun _ _ _ _ _ _ us hl => match us, hl with | [_, _], _ => rfl)⟩
  have O_draw := own_draw (P := l.prog) (w := w) (base := base) D__law_draw B
  have O_deck := own_deck (P := l.prog) (w := w) (base := base) D__law_deck B
  have O_one := own_one (P := l.prog) (w := w) (base := base) D__law_one B O_draw
  have O_plus := own_plus (P := l.prog) (w := w) (base := base) D__law_plus B
  have O_side := own_side D__law_side B O_draw
  have O_trade := own_trade D__law_trade B O_draw O_side O_plus
  have O_market := own_market D__law_market B O_draw O_trade
  have O_any := own_any D__law_any_market B O_draw O_market
  have O_whole := own_whole (P := l.prog) (w := w) (base := base) D_is_whole B
  have O_pair := own_pair (P := l.prog) (w := w) (base := base) D_is_pair B
  have O_spoil := own_spoil D__law_spoilt B O_draw O_one 21
  have O_holds := own_holds (P := l.prog) (w := w) (base := base) D_holds B
  have O_exch := own_exchange D_exchange B O_holds
  have O_after := own_after D_after_step B O_exch
  have O_less := own_less (P := l.prog) (w := w) (base := base) D__law_less B
  have O_lholds := own_lholds (P := l.prog) (w := w) (base := base) D__law_holds B
  have O_behind := own_behind D__law_behind B O_plus O_less O_lholds
  have O_bag := own_bag D__law_bag B O_draw
  have O_isstep := own_isstep D_is_step B O_whole O_pair
  have O_lisstep := own_lisstep (P := l.prog) (w := w) (base := base) D__law_is_step B
  have O_walk := own_walk D_walk B T_BadStep O_isstep O_after
  have O_due := own_due D__law_due B O_lisstep O_behind
  exact fn_law l23 c23 B TB T_BadStep D__law_found O_deck O_draw O_one O_any O_spoil O_bag O_behind O_due O_walk
end Lb
open PySem PySem.W PyProof.Rows in
set_option maxHeartbeats 0 in
theorem PySem.Challenge.cw_lentbeside_k02_walks_holds : PySem.Challenge.rw_lentbeside_k02_walks.Holds := by
  w_on; o_law; k_head; (case hw => w_witness2)
  k_fill
  refine Lb.walk_gT (l := PySem.Challenge.rw_lentbeside_k02_walks) (k := 25) (x := "_law_script") rfl rfl ⟨rfl, by decide, by decide⟩ (by first | rfl | decide +kernel) (fun w h Y => PySem.W.km_in_of Y) ?F
  case F =>
    intro w mg fa h KX G hmg own
    refine' Lb.all_mk KX G hmg own ?a0 ?l0 ?c0 ?k0 ?a1 ?l1 ?c1 ?k1 ?a2 ?l2 ?c2 ?k2 ?a3 ?l3 ?c3 ?k3 ?a4 ?l4 ?c4 ?k4 ?a5 ?l5 ?c5 ?k5 ?a6 ?l6 ?c6 ?k6 ?a7 ?l7 ?c7 ?k7 ?a8 ?l8 ?c8 ?k8 ?a9 ?l9 ?c9 ?k9 ?a10 ?l10 ?c10 ?k10 ?a11 ?l11 ?c11 ?k11 ?a12 ?l12 ?c12 ?k12 ?a13 ?l13 ?c13 ?k13 ?a14 ?l14 ?c14 ?k14 ?a15 ?l15 ?c15 ?k15 ?a16 ?l16 ?c16 ?k16 ?a17 ?l17 ?c17 ?k17 ?a18 ?l18 ?c18 ?k18 ?a19 ?l19 ?c19 ?k19 ?a20 ?l20 ?c20 ?k20 ?a21 ?l21 ?c21 ?k21 ?a22 ?l22 ?c22 ?k22 ?a23 ?l23 ?c23 ?k23 ?vl ?v11 ?nPt ?hhd ?eA_BadStep ?eX_BadStep ?eR_BadStep ?eS_BadStep ?eG_BadStep ?eH_BadStep ?eN_BadStep ?eK_BadStep ?eB_BadStep ?eT_BadStep ?eD_BadStep ?eM_BadStep ?eI_BadStep ?eJ_BadStep ?eL_BadStep ?eC_BadStep ?eQ_BadStep ?z_len ?z_range ?z_int ?z_bool ?z_tuple ?z_list ?z_str ?z_dict ?z_all ?z_any ?z_max ?z_min ?z_sum ?z_zip ?z_enumerate ?z_isinstance ?z_repr ?z_sorted
    (case a0 => k_is)
    (case l0 => k_is)
    (case c0 => k_is)
    (case k0 => k_is)
    (case a1 => k_is)
    (case l1 => k_is)
    (case c1 => k_is)
    (case k1 => k_is)
    (case a2 => k_is)
    (case l2 => k_is)
    (case c2 => k_is)
    (case k2 => k_is)
    (case a3 => k_is)
    (case l3 => k_is)
    (case c3 => k_is)
    (case k3 => k_is)
    (case a4 => k_is)
    (case l4 => k_is)
    (case c4 => k_is)
    (case k4 => k_is)
    (case a5 => k_is)
    (case l5 => k_is)
    (case c5 => k_is)
    (case k5 => k_is)
    (case a6 => k_is)
    (case l6 => k_is)
    (case c6 => k_is)
    (case k6 => k_is)
    (case a7 => k_is)
    (case l7 => k_is)
    (case c7 => k_is)
    (case k7 => k_is)
    (case a8 => k_is)
    (case l8 => k_is)
    (case c8 => k_is)
    (case k8 => k_is)
    (case a9 => k_is)
    (case l9 => k_is)
    (case c9 => k_is)
    (case k9 => k_is)
    (case a10 => k_is)
    (case l10 => k_is)
    (case c10 => k_is)
    (case k10 => k_is)
    (case a11 => k_is)
    (case l11 => k_is)
    (case c11 => k_is)
    (case k11 => k_is)
    (case a12 => k_is)
    (case l12 => k_is)
    (case c12 => k_is)
    (case k12 => k_is)
    (case a13 => k_is)
    (case l13 => k_is)
    (case c13 => k_is)
    (case k13 => k_is)
    (case a14 => k_is)
    (case l14 => k_is)
    (case c14 => k_is)
    (case k14 => k_is)
    (case a15 => k_is)
    (case l15 => k_is)
    (case c15 => k_is)
    (case k15 => k_is)
    (case a16 => k_is)
    (case l16 => k_is)
    (case c16 => k_is)
    (case k16 => k_is)
    (case a17 => k_is)
    (case l17 => k_is)
    (case c17 => k_is)
    (case k17 => k_is)
    (case a18 => k_is)
    (case l18 => k_is)
    (case c18 => k_is)
    (case k18 => k_is)
    (case a19 => k_is)
    (case l19 => k_is)
    (case c19 => k_is)
    (case k19 => k_is)
    (case a20 => k_is)
    (case l20 => k_is)
    (case c20 => k_is)
    (case k20 => k_is)
    (case a21 => k_is)
    (case l21 => k_is)
    (case c21 => k_is)
    (case k21 => k_is)
    (case a22 => k_is)
    (case l22 => k_is)
    (case c22 => k_is)
    (case k22 => k_is)
    (case a23 => k_is)
    (case l23 => k_is)
    (case c23 => k_is)
    (case k23 => k_is)
    (case vl => k_is)
    (case v11 => rfl)
    (case nPt => first | rfl | k_is)
    (case hhd => first | rfl | k_is)
    (case eA_BadStep => k_is)
    (case eX_BadStep => k_is)
    (case eR_BadStep => decide +kernel)
    (case eS_BadStep => k_is)
    (case eG_BadStep => k_is)
    (case eH_BadStep => k_is)
    (case eN_BadStep => k_is)
    (case eK_BadStep => k_is)
    (case eB_BadStep => k_is)
    (case eT_BadStep => k_is)
    (case eD_BadStep => k_is)
    (case eM_BadStep => first | rfl | k_is)
    (case eI_BadStep => k_is)
    (case eJ_BadStep => k_is)
    (case eL_BadStep => k_is)
    (case eC_BadStep => k_is)
    (case eQ_BadStep => k_is)
    (case z_len => k_is)
    (case z_range => k_is)
    (case z_int => k_is)
    (case z_bool => k_is)
    (case z_tuple => k_is)
    (case z_list => k_is)
    (case z_str => k_is)
    (case z_dict => k_is)
    (case z_all => k_is)
    (case z_any => k_is)
    (case z_max => k_is)
    (case z_min => k_is)
    (case z_sum => k_is)
    (case z_zip => k_is)
    (case z_enumerate => k_is)
    (case z_isinstance => k_is)
    (case z_repr => k_is)
    (case z_sorted => k_is)
